import PyProof.Rows.All
import Wide.All
import OpenK.AllK
import Wide.FinOn
import HandS.ForMost
import HandS.ForExc
import HandS.AnyAll
import HandS.GenList
import HandS.Defaults
import HandS.IsInst
import HandS.Wide
import HandS.EndTab
import HandS.More
import HandS.LawCells
import HandS.Strs
import HandS.SetBool
import HandS.TupMul
import HandS.TupAny
import KE.KIsAll
import KE.KExcIs
import HandS.Exc
import HandS.ExcOwn
import HandS.ExcIs
import HandS.SetFor
import HandS.WordsExc
import HandS.HeadHook1
import PyProof.TupleOfGen
import PyProof.CollectWalk
import HandS.Text
import HandS.Nested
import HandS.Comp
import KE.GoesRaise
import KE.KStateDown
import KE.KNestM
import HandS.Head0
import HandS.Head1
import HandS.Head2
import HandS.HeadEnd
import HandS.HeadHook2
import HandS.HeadHook3
import HandS.HeadHook4
import HandS.HeadWalk
import PySem.Challenge.RW_towbarges_k18_texts_refused
set_option Elab.async false
set_option linter.all false
set_option maxRecDepth 100000
set_option maxHeartbeats 2000000
namespace GX
open PySem PySem.Spec PyProof.Rows L2 GxR GenW

theorem over_gen {A : Around} {elt tg iter : Expr} {ifs : List Expr} {scope : Scope} {pos : Pos} {it acc : Value} {env : Env} :
    A.over (.compLoop (.GeneratorExp elt [⟨tg, iter, ifs, 0⟩] scope pos) 0 it acc env) [] = A.deeper env := by
  first
    | rfl
    | (obtain ⟨hd, d, fr, gs, u⟩ := A; simp [Around.over, Around.deeper, marksOver, frameCount, unitsOf, envsOf, guardsOf, pushEnvs, pushGuards, Code.envs, Code.env?, Code.isFrame, Code.guards, Code.isGuard, Code.weight, Code.frames, Code.isCreation, Code.isCaller, Code.cUnits])

abbrev gcx (X : Cx) (s : Shared) (H : Hp) (cenv : Env) (fp : List Addr) (pn : List (Addr × Obj)) : Cx :=
  { X with A := X.A.in1.in1.deeper cenv, s_0 := s, H_0 := H, env := cenv, outer := X.stack, stack := cenv :: X.stack, ex := fp, fn := fun _ => false, calm := true, pn := pn, xe := fun _ _ => False }

theorem room_gcx {X : Cx} {s : Shared} {H : Hp} {cenv : Env} {fp : List Addr} {pn : List (Addr × Obj)} {k : Nat} (hr : Room (k + 1) X.A) : Room k (gcx X s H cenv fp pn).A :=
  ⟨hr.hd, by have := hr.dp; show X.A.depth + 1 + 3 * k + 5 < _; omega, by have := hr.un; show X.A.units + 1 + 1 + 3 + 16 * k + 200 < _; omega⟩

structure GenOk (N : List Str) (sc scope : Scope) (own : List (Str × Nat)) : Prop where
  kind : scope.kind = .function
  co : scope.isCoroutine = false
  uniq : ∀ y ∈ scope.names, scope.names.lookup y.1 = some y.2
  cell : ∀ y ∈ scope.names, y.2 ≠ .cell
  dot : scope.names.lookup (".0" : Str) = some NameKind.local
  ix : ∀ p ∈ own, N[p.2]? = some p.1
  free : ∀ y ∈ scope.names, y.2 = .free → sc.names.lookup y.1 = some .cell ∨ sc.names.lookup y.1 = some .free
  own : ∀ y ∈ scope.names, y.2 = .local → y.1 ∈ own.map (·.1) ∨ y.1 ∉ N

section
variable {X : Cx} {pins : List (Addr × Obj)} {σ : L2.St} {H : Hp} {s : Shared}
theorem gen_start {scope : Scope} {own : List (Str × Nat)} {fp : List Addr} {code : Value} {s5 : Shared} (I : Inv X pins σ H s) (hh : X.A.handled = none) (ok : GenOk X.N X.env.scope scope own) (hN : X.N.Nodup)
    (hfp : ∀ b ∈ fp, FpOk X pins H b ∧ b < s.heap.objs.size) (hos : s5.os = s.os) (hb5 : AllBare s5.gens) (kp : ∀ b o, s.heap.get? b = some o → s5.heap.get? b = some o)
    (hns : ∃ m, s5.heap.Ns s.heap.objs.size m) :
    Inv (gcx X s H (genEnv scope (cloFrom X.env.cells scope.names []) s.heap.objs.size code builtinsNs X.env) fp []) [] (wipe σ (own.map (·.2))) H s5 := by
  have hfree : ∀ y ∈ scope.names, y.2 = .free → ∃ c, X.env.cells.lookup y.1 = some c := fun y hy e => by
    rcases ok.free y hy e with k | k
    · exact I.ok.has _ (.inl k)
    · exact I.ok.has _ (.inr k)
  generalize hcenv : genEnv scope (cloFrom X.env.cells scope.names []) s.heap.objs.size code builtinsNs X.env = cenv
  have hL : cenv.locals = s.heap.objs.size := by rw [← hcenv]; rfl
  have hcl : cenv.cells = cloFrom X.env.cells scope.names [] := by rw [← hcenv]; rfl
  have hsc : cenv.scope = scope := by rw [← hcenv]; rfl
  have hfr : cenv.frame = some cenv.locals := by rw [← hcenv]; rfl
  have cm : ∀ {y c}, (y, c) ∈ cloFrom X.env.cells scope.names [] → X.env.cells.lookup y = some c ∧ c < s.heap.objs.size := fun {y c} hm => by
    rcases cloFrom_mem hm with hm | ⟨h1, rfl⟩
    · cases hm
    · obtain ⟨c, hc⟩ := hfree _ h1 rfl
      rw [hc]
      obtain ⟨w, z⟩ := I.cell _ _ hc
      exact ⟨rfl, z.lt⟩
  have mem : ∀ {y c}, cenv.cells.lookup y = some c → X.env.cells.lookup y = some c ∧ c < s.heap.objs.size := fun {y c} e => by
    rw [hcl] at e
    exact cm (PySem.mem_of_lookup e)
  have look : ∀ {y}, scope.names.lookup y = some .free → ∃ c, cenv.cells.lookup y = some c ∧ X.env.cells.lookup y = some c := fun {y} hl => by
    have hy : (y, NameKind.free) ∈ scope.names := PySem.mem_of_lookup hl
    obtain ⟨c', e'⟩ := L2.mem_lookup (cloFrom_has (cells := X.env.cells) (acc := []) hy)
    rw [← hcl] at e'
    exact ⟨c', e', (mem e').1⟩
  have okB : (gcx X s H cenv fp []).Ok := by
    refine ⟨I.ok.mod, by show cenv.scope.kind = _; rw [hsc]; exact ok.kind, by show cenv.globals = _; rw [← hcenv]; exact I.ok.glob, by show cenv.builtins = _; rw [← hcenv]; rfl, by show s.heap.objs.size ≤ cenv.locals; rw [hL]; exact Nat.le_refl _,
      fun y z c e1 e2 => I.ok.inj y z c (mem e1).1 (mem e2).1, fun y hy => ?_, fun y c z e => ?_, fun _ => hh, ?_, .inr ⟨rfl, hfr⟩, fun b hb => ⟨?_, fun y c e z => ?_⟩, I.bs, Nat.le_trans I.ok.bsz I.sz, fun b o e hb => ?_, fun b hb z => ?_, I.stack, I.stkFree⟩
    · show ∃ c, cenv.cells.lookup y = some c
      have hy : cenv.scope.names.lookup y = some .cell ∨ cenv.scope.names.lookup y = some .free := hy
      rw [hsc] at hy
      rcases hy with hy | hy
      · exact absurd rfl (ok.cell _ (PySem.mem_of_lookup hy))
      · obtain ⟨c, h1, _⟩ := look hy
        exact ⟨c, h1⟩
    · exact absurd (show false = true from z) (by decide)
    · exact Around.frames_deeper (A := X.A.in1.in1) I.ok.frames
    · show b ≠ cenv.locals
      rw [hL]; exact Nat.ne_of_lt (hfp b hb).2
    · exact (hfp b hb).1.2.2.2.2.1 y c (mem e).1 z
    · rcases (hfp b hb).1.2.2.2.1 with z | z
      · exact I.ok.noex b o e z
      · exact absurd (Nat.lt_of_lt_of_le (Heap.lt_size e) (Nat.le_trans I.ok.bsz z)) (Nat.lt_irrefl _)
    · rcases List.mem_cons.mp (I.stkSub b z) with z | z
      · exact (hfp b hb).1.2.1 z
      · exact (hfp b hb).1.2.2.1 z
  obtain ⟨mm, hmm⟩ := hns
  refine ⟨okB, hos, hb5, Un.kept kp, ⟨mm, ?_, fun i y av e1 e2 e3 => ?_⟩, fun y c e => ?_, ?_, fun y c e => ?_, fun p hp => ?_, I.hok.kept kp, by rw [wipe_length]; exact I.len⟩
  · show s5.heap.Ns cenv.locals mm
    rw [hL]; exact hmm
  · obtain ⟨e2, hne⟩ := wipe_some e2
    have e3 : cenv.scope.names.lookup y = some .local ∨ cenv.scope.names.lookup y = some .cell ∨ cenv.scope.names.lookup y = some .free := e3
    rw [hsc] at e3
    have e1 : X.N[i]? = some y := e1
    rcases e3 with e3 | e3 | e3
    · exfalso
      rcases ok.own _ (PySem.mem_of_lookup e3) rfl with e' | e'
      · obtain ⟨p, hp, hpy⟩ := List.mem_map.mp e'
        have e4 := ok.ix p hp
        have : p.1 = y := hpy
        rw [this] at e4
        exact hne (List.mem_map.mpr ⟨p, hp, nodup_ix hN e4 e1⟩)
      · exact e' (List.mem_of_getElem? e1)
    · exact absurd rfl (ok.cell _ (PySem.mem_of_lookup e3))
    · obtain ⟨m, hn, hl⟩ := I.loc
      have hvis : Vis X.env.scope y := (ok.free _ (PySem.mem_of_lookup e3) rfl).elim (fun k => .inr (.inl k)) (fun k => .inr (.inr k))
      obtain ⟨w, r, q⟩ := hl i y av e1 e2 hvis
      have hk : cenv.kindOf y = some .free := by
        show cenv.scope.names.lookup y = _
        rw [hsc]; exact e3
      refine ⟨w, r, .inr ⟨.inr hk, ?_⟩⟩
      obtain ⟨c, h1, h2⟩ := look e3
      rcases q with ⟨k, _⟩ | ⟨_, c', e', z⟩
      · have k : X.env.scope.names.lookup y = some .local := k
        rcases ok.free _ (PySem.mem_of_lookup e3) rfl with k' | k' <;> rw [show X.env.scope.names.lookup y = _ from k'] at k <;> cases k
      · rw [h2] at e'; cases e'
        exact ⟨c, h1, z.keeps kp⟩
  · obtain ⟨h1, _⟩ := mem (show cenv.cells.lookup y = some c from e)
    obtain ⟨w, z⟩ := I.cell y c h1
    exact ⟨w, z.keeps kp⟩
  · show H cenv.locals = none
    rw [hL]; exact I.hok.fresh (Nat.le_refl _)
  · obtain ⟨h1, _⟩ := mem (show cenv.cells.lookup y = some c from e)
    exact I.freeC y c h1
  · exact absurd (show p ∈ ([] : List (Addr × Obj)) ++ [] from hp) (by simp)

/-- other gens, other toks, a heap that keeps all -/
theorem inv_gens {g' : Array GenState} (I : Inv X pins σ H s) (hg : AllBare g') : Inv X pins σ H { s with gens := g' } :=
  ⟨I.ok, I.os, hg, I.base, I.loc, I.cell, I.free, I.freeC, I.pin, I.hok, I.len⟩
theorem inv_pn {s4 : Shared} {H4 : Hp} {cenv : Env} {fp : List Addr} {pn : List (Addr × Obj)} (I : Inv (gcx X s4 H4 cenv fp []) pins σ H s)
    (h : ∀ p ∈ pn ++ pins, s.heap.get? p.1 = some p.2 ∧ H p.1 = none ∧ p.1 ≠ cenv.locals ∧ p.1 ∉ frs X.stack ∧ ∀ v, p.2.data ≠ .cell v) : Inv (gcx X s4 H4 cenv fp pn) pins σ H s :=
  ⟨⟨I.ok.mod, I.ok.kind, I.ok.glob, I.ok.blt, I.ok.above, I.ok.inj, I.ok.has, I.ok.cab, I.ok.hd, I.ok.frames, I.ok.stk, I.ok.exf, I.ok.bs, I.ok.bsz, I.ok.noex, I.ok.exfs, I.ok.funs, I.ok.frf⟩, I.os, I.bare, I.base, I.loc, I.cell, I.free, I.freeC, h, I.hok, I.len⟩
end

/-! ### the turns -/
section
variable {Z : Type} (X : Cx) (s4 : Shared) (H4 : Hp) (cenv : Env) (fp : List Addr) (pn : List (Addr × Obj)) (tn : Nat → Heap → Prop) (σ0 : L2.St) (W : Nat → Nat → Z → Hp → Prop) (Ip : Z → List (Addr × Obj) → Prop)
/-- at rest, ahead of turn i -/
structure GRest (i m : Nat) (z : Z) (ip : List (Addr × Obj)) (H : Hp) (s : Shared) : Prop where
  w : W i m z H
  hip : Ip z ip
  inv : Inv (gcx X s4 H4 cenv fp pn) ip σ0 H s
  tn : tn i s.heap
  nf : ∀ b ∈ fp, H b = none
def GEndP (Sp : Z → Hp → Prop) (s₀ s1 : Shared) : Prop := ∃ z ip H, Ip z ip ∧ Sp z H ∧ Inv (gcx X s4 H4 cenv fp pn) ip σ0 H s1 ∧ ∀ p ∈ ip, s₀.heap.get? p.1 = some p.2
def GYield (Yw : Z → (Z → Hp → Prop) → V → Hp → Prop) : Protocol := fun n s₀ v s kap =>
  ∃ i m z y ip H Nx, m ≤ n ∧ RelV y v ∧ Ip z ip ∧ Inv (gcx X s4 H4 cenv fp pn) ip σ0 H s ∧ tn (i + 1) s.heap ∧ (∀ b ∈ fp, H b = none) ∧ (∀ z' H', Nx z' H' → ∃ m', m' < m ∧ W (i + 1) m' z' H') ∧ Yw z Nx y H ∧ (∀ p ∈ ip, s₀.heap.get? p.1 = some p.2) ∧
    ∀ s' ip' z' m' H', m' < m → GRest X s4 H4 cenv fp pn tn σ0 W Ip (i + 1) m' z' ip' H' s' → kap (.send .none) s'
end
/-- what a turn is to do -/
def Turns {Z : Type} (J : It) (g : TG) (tt : TT) (te : TE) (σ0 : L2.St) (vs : List Nat) (W : Nat → Nat → Z → Hp → Prop) (Sp : Z → Hp → Prop) (Yw : Z → (Z → Hp → Prop) → V → Hp → Prop) : Prop :=
  ∀ i m z H, W i m z H → (J.stop i H ∧ Sp z H) ∨ (J.go i H ∧ ∃ Nx : Z → Hp → Prop, (∀ z' H', Nx z' H' → ∃ m', m' < m ∧ W (i + 1) m' z' H') ∧ ∀ x H', J.yld i H x H' → g x σ0 H' fun σ2 H2 => wipe σ2 vs = σ0 ∧ tt σ2 H2 fun b H3 =>
    if b = true then te σ2 H3 (Yw z Nx) else Nx z H3)
section
variable {Z : Type} {X : Cx} {s4 : Shared} {H4 : Hp} {cenv : Env} {fp : List Addr} {pn : List (Addr × Obj)} {tn : Nat → Heap → Prop} {σ0 : L2.St} {W : Nat → Nat → Z → Hp → Prop} {Ip : Z → List (Addr × Obj) → Prop}
  {Sp : Z → Hp → Prop} {Yw : Z → (Z → Hp → Prop) → V → Hp → Prop} {J : It} {g : TG} {tt : TT} {te : TE} {vs : List Nat} {elt tg iter : Expr} {ifs : List Expr} {scope : Scope} {pos : Pos} {it : Addr}
theorem seg_turns (hco : cenv.scope.isCoroutine = false) (hpn : ∀ z ip, Ip z ip → ∀ b ∈ fp, ∀ p ∈ pn ++ ip, p.1 ≠ b) (T : Turn X.prog X.w X.K tg J fp it tn)
    (pg : PG (gcx X s4 H4 cenv fp pn) tg g) (pt : PTs (gcx X s4 H4 cenv fp pn) ifs tt) (pe : PE (gcx X s4 H4 cenv fp pn) elt te) (turn : Turns J g tt te σ0 vs W Sp Yw) :
    ∀ (m n i : Nat) (z : Z) (ip : List (Addr × Obj)) (H : Hp) (s s₀ : Shared), m < n → GRest X s4 H4 cenv fp pn tn σ0 W Ip i m z ip H s → (∀ p ∈ ip, s₀.heap.get? p.1 = some p.2) →
      Seg (model X.prog X.w) X.A.in1.in1 (fun n s₀ r s₁ => r = .ok .next ∧ GEndP X s4 H4 cenv fp pn σ0 Ip Sp s₀ s₁) (GYield X s4 H4 cenv fp pn tn σ0 W Ip Yw) n s₀
        (.compLoop (.GeneratorExp elt [⟨tg, iter, ifs, 0⟩] scope pos) 0 (.ref it) .none cenv)
        ((model X.prog X.w).den (.compLoop (.GeneratorExp elt [⟨tg, iter, ifs, 0⟩] scope pos) 0 (.ref it) .none cenv)) [] s := by
  have stat : ∀ {z : Z} {ip : List (Addr × Obj)} {σ' : L2.St} {H' : Hp} {s' : Shared}, Ip z ip → Inv (gcx X s4 H4 cenv fp pn) ip σ' H' s' → (∀ b ∈ fp, H' b = none) → ∀ b ∈ fp, FpOk (gcx X s4 H4 cenv fp pn) ip H' b := fun {z ip σ' H' s'} hz I' hn b hb =>
    ⟨hn b hb, (I'.ok.exf b hb).1, I'.ok.exfs b hb, .inl hb, fun x c e => (I'.ok.exf b hb).2 x c e, fun p hp => hpn z ip hz b hb p hp⟩
  intro m
  induction m using Nat.strongRecOn with
  | ind m ih =>
    rintro n i z ip H s s₀ hmn ⟨w, hip, I, st, nf⟩ h0
    show Seg _ _ _ _ _ _ _ ((compTurn (.GeneratorExp elt [⟨tg, iter, ifs, 0⟩] scope pos) 0 (.ref it) .none cenv).onRaise (leaving cenv)) [] s
    rw [compTurn_gen, Sem.onRaise_eq_wrap]
    refine seg_bind_wrap (wpAny_standAt ?_)
    rcases turn i m z H w with ⟨stop, qq⟩ | ⟨go, Nx, hNx, step⟩
    · have td := T.done (gcx X s4 H4 cenv fp pn) rfl rfl rfl rfl i ip s _ H (fun _ _ => False) I (stat hip I nf) st stop
      refine seg_bind_wrap ?_
      rw [over_gen]
      refine thnF td fun r s6 ⟨hr, I6⟩ => ?_
      subst hr
      exact seg_end (.ok .next) ⟨rfl, z, ip, H, hip, qq, I6, h0⟩
    · have ti := T.item (gcx X s4 H4 cenv fp pn) rfl rfl rfl rfl i ip s _ H (fun _ _ => False) I (stat hip I nf) st go
      refine seg_bind_wrap ?_
      rw [over_gen]
      refine thnF ti fun r s6 ⟨u, hr, h6⟩ => ?_
      subst hr
      refine seg_bind_wrap (m := letOwnedTupleGo tg (.ref it) u) ?_
      rw [over_gen]
      refine thnF h6 fun _ s7 ⟨x, H7, I7, r7, y7, st7, n7⟩ => ?_
      have I7' := I7.pinned (stat hip I7 n7) (T.obj _ _ st7)
      refine seg_bind_wrap (m := assign tg cenv u) ?_
      rw [over_gen]
      refine thnF (pg.run _ s7 _ H7 x u _ I7' r7 (step x H7 y7)) fun _ s8 ⟨σ8, H8, I8, hw8, q8⟩ => ?_
      refine seg_bind_wrap ?_
      rw [over_gen]
      refine thnF (pt.run _ s8 σ8 H8 _ I8 q8) fun b s9 ⟨H9, I9, q9⟩ => ?_
      have fin : ∀ {s' : Shared} {H' : Hp}, Inv (gcx X s4 H4 cenv fp pn) (ip ++ pinsAt fp s7.heap) σ8 H' s' → Inv (gcx X s4 H4 cenv fp pn) ip σ0 H' s' ∧ tn (i + 1) s'.heap ∧ ∀ b ∈ fp, H' b = none := fun {s' H'} I' => by
        have pin' : ∀ b ∈ fp, ∀ o, s7.heap.get? b = some o → s'.heap.get? b = some o ∧ H' b = none := fun b hb o e =>
          let z := I'.pin (b, o) (List.mem_append_right _ (List.mem_append_right _ (mem_pinsAt hb e)))
          ⟨z.1, z.2.1⟩
        have hl : σ0.length = σ8.length := by rw [← hw8, wipe_length]
        refine ⟨(I'.unpinned (pins := ip)).weak hl (fun j v e => ?_), T.keep _ _ _ st7 fun b hb o e => (pin' b hb o e).1, fun b hb => ?_⟩
        · rw [← hw8] at e
          exact (wipe_some e).1
        · obtain ⟨o, e, _⟩ := T.obj _ _ st7 b hb
          exact (pin' b hb o e).2
      cases b with
      | false =>
        simp only [Bool.false_eq_true, if_false] at q9 ⊢
        obtain ⟨m', hm, w'⟩ := hNx z H9 q9
        obtain ⟨f1, f2, f3⟩ := fin I9
        exact seg_again rfl (ih m' hm n (i + 1) z ip H9 s9 s₀ (by omega) ⟨w', hip, f1, f2, f3⟩ h0)
      | true =>
        simp only [if_true] at q9 ⊢
        have hy : ∀ v, yieldOut cenv v = yieldValue v := fun v => by simp only [yieldOut, hco, Bool.false_eq_true, if_false]
        simp only [hy]
        obtain ⟨k, rfl⟩ : ∃ k, n = k + 1 := ⟨n - 1, by omega⟩
        rw [Sem.bind_eq_wrap', Sem.bind_eq_wrap', Sem.wrap_wrap, Sem.wrap_wrap]
        refine seg_wrap ?_
        rw [over_gen]
        refine thnF (pe.run _ s9 σ8 H9 _ I9 q9) fun yv s10 ⟨y, H10, I10, r10, yw⟩ => ?_
        obtain ⟨f1, f2, f3⟩ := fin I10
        refine seg_at (seg_yield rfl rfl rfl ⟨i, m, z, y, ip, H10, Nx, by omega, r10, hip, f1, f2, f3, hNx, yw, h0, fun s' ip' z' m' H' hm hR => ?_⟩)
        exact seg_again rfl (ih m' hm k (i + 1) z' ip' H' s' s' (by omega) hR fun p hp => (hR.inv.pin p (List.mem_append_right _ hp)).1)
theorem seg_first (hco : cenv.scope.isCoroutine = false) (hpn : ∀ z ip, Ip z ip → ∀ b ∈ fp, ∀ p ∈ pn ++ ip, p.1 ≠ b) (T : Turn X.prog X.w X.K tg J fp it tn)
    (pg : PG (gcx X s4 H4 cenv fp pn) tg g) (pt : PTs (gcx X s4 H4 cenv fp pn) ifs tt) (pe : PE (gcx X s4 H4 cenv fp pn) elt te) (turn : Turns J g tt te σ0 vs W Sp Yw)
    {m n : Nat} {z : Z} {ip : List (Addr × Obj)} {H : Hp} {s s₀ : Shared} (hmn : m < n) (hR : GRest X s4 H4 cenv fp pn tn σ0 W Ip 0 m z ip H s) (h0 : ∀ p ∈ ip, s₀.heap.get? p.1 = some p.2) :
      Seg (model X.prog X.w) X.A.in1.in1 (fun n s₀ r s₁ => r = .ok .next ∧ GEndP X s4 H4 cenv fp pn σ0 Ip Sp s₀ s₁) (GYield X s4 H4 cenv fp pn tn σ0 W Ip Yw) n s₀
        (.compStart (.GeneratorExp elt [⟨tg, iter, ifs, 0⟩] scope pos) 0 (.ref it) .none cenv)
        ((model X.prog X.w).den (.compStart (.GeneratorExp elt [⟨tg, iter, ifs, 0⟩] scope pos) 0 (.ref it) .none cenv)) [] s := by
  have loop := seg_turns (iter := iter) (scope := scope) (pos := pos) hco hpn T pg pt pe turn m n 0 z ip H s s₀ hmn hR h0
  show Seg _ _ _ _ _ s₀ _ ((compStart (.GeneratorExp elt [⟨tg, iter, ifs, 0⟩] scope pos) 0 (.ref it) .none cenv).onRaise (leaving cenv)) [] s
  unfold compStart
  rw [Sem.onRaise_eq_wrap]
  show Seg _ _ _ _ _ s₀ _ ((ask >>= _).wrap _ _ _ _) [] s
  refine seg_bind_wrap (wpAny_askSetting ?_)
  split
  · exact seg_again rfl loop
  · first
      | exact seg_bind_wrap (wpAny_rule (seg_bind_wrap (wpAny_standAt (seg_bind_wrap (T.self _ 0 s _ _ hR.tn (seg_again rfl loop))))))
      | (refine seg_bind_wrap (wpAny_rule ?_); show Seg _ _ _ _ _ s₀ _ ((standAt iter.pos >>= _).wrap _ _ _ _) [] s; exact seg_bind_wrap (wpAny_standAt (seg_bind_wrap (T.self _ 0 s _ _ hR.tn (seg_again rfl loop)))))
end

/-! ### a generator expression made -/
section
variable {X : Cx} {pins : List (Addr × Obj)} {σ : L2.St} {H : Hp} {s : Shared}
theorem back {s4 s6 : Shared} {H2 H6 : Hp} {cenv : Env} {fp : List Addr} {pn ip : List (Addr × Obj)} {σ6 : L2.St} (I4 : Inv X pins σ H2 s4) (hf : ∀ b ∈ fp, FpOk X pins H2 b) (I6 : Inv (gcx X s4 H2 cenv fp pn) ip σ6 H6 s6) : Inv X pins σ H6 s6 :=
  I4.call' (ch := fp) I6.os I6.base I6.hok I6.bare fun b hb => ⟨(hf b hb).2.2.2.1, (hf b hb).2.1, (hf b hb).2.2.2.2.1, (hf b hb).2.2.2.2.2⟩

/-- it is made, at a, its number g: not begun -/
structure Made (X : Cx) (pins : List (Addr × Obj)) (σ : L2.St) (elt tg iter : Expr) (ifs : List Expr) (scope : Scope) (gpos : Pos) (own : List (Str × Nat)) (J : It) (H2 : Hp) (s4 s5 : Shared) (cenv : Env) (it : Addr) (fp : List Addr) (tn : Nat → Heap → Prop) (a : Addr) (g : Nat) (go : Obj) : Prop where
  i4 : Inv X pins σ H2 s4
  env : ∃ (C : Addr) (code : Value), cenv = genEnv scope (cloFrom X.env.cells scope.names []) C code builtinsNs X.env
  turn : Turn X.prog X.w X.K tg J fp it tn
  tn0 : tn 0 s5.heap
  fok : ∀ b ∈ fp, FpOk X pins H2 b
  fa : ∀ b ∈ fp, b < a
  inv : Inv (gcx X s4 H2 cenv fp [(a, go)]) [] (wipe σ (own.map (·.2))) H2 s5
  gen : ∀ h : Heap, h.get? a = some go → h.IsGen a g
  gs : s5.gens[g]? = some (.fresh (.compStart (.GeneratorExp elt [⟨tg, iter, ifs, 0⟩] scope gpos) 0 (.ref it) .none cenv))
  lt : a < s5.heap.objs.size
theorem gen_made {c P : Addr} {elt tg iter : Expr} {ifs : List Expr} {gpos : Pos} {scope : Scope} {own : List (Str × Nat)} {wi : TI} {k : Nat} {Q' : Value → Shared → Prop} {R : It → Hp → Prop}
    (hr : Room k X.A) (TB : TabB X.base X.mg c P) (hcode : X.env.code = .ref c) (ok : GenOk X.N X.env.scope scope own) (hN : X.N.Nodup) (hi : PI X tg iter wi)
    (hs : ∀ v, genFold iter X.env v = pure v) (I : Inv X pins σ H s) (h : wi σ H fun J H1 => TabG H1 P ∧ ∀ H2, Tabbed P H1 H2 → R J H2)
    (hQ : ∀ J H2 s4 s5 cenv it fp tn a g go, R J H2 → Made X pins σ elt tg iter ifs scope gpos own J H2 s4 s5 cenv it fp tn a g go → Q' (.ref a) s5) :
    wpAny (model X.prog X.w) X.A (eval (.GeneratorExp elt [⟨tg, iter, ifs, 0⟩] scope gpos) X.env) Q' X.xe s := by
  have hfree : ∀ y ∈ scope.names, y.2 = .free → ∃ c, X.env.cells.lookup y.1 = some c := fun y hy e => by
    rcases ok.free y hy e with k | k
    · exact I.ok.has _ (.inl k)
    · exact I.ok.has _ (.inr k)
  refine wpAny_GeneratorExp_make ok.co (closure_ok hfree) ok.cell ok.dot ok.kind (by have := hr.dp; omega) ?_ hs
  refine thn (hi.run pins s σ H _ I h) fun xv s1 hx => thn hx fun itv s2 h2 => ?_
  obtain ⟨it, fp, tn, J, H1, e, I2, T, st2, f2, ⟨ps, hP, ht⟩, q⟩ := h2
  subst e
  have hPs : s2.heap.get? P = some { cls := .none, data := .fields ps } := I2.hok P _ hP
  have hPlt : P < s2.heap.objs.size := Heap.lt_size hPs
  have cd : PySem.W.CodeHd s2.heap c P := TB.code.keeps fun b u e => I2.bk b u e
  have lim2 : s2.heap.NoLimit := I2.nolimit
  have cont : ∀ (code : Value) (h3 : Heap) (tk : Nat) (ps' : Array Value), Heap.ExtBut P s2.heap h3 → s2.heap.objs.size ≤ h3.objs.size → h3.get? P = some { cls := .none, data := .fields ps' } → (∃ more, ps' = ps ++ more) → TriplesOk ps'.toList →
      wpAny (model X.prog X.w) X.A (builtinsFor X.env.globals X.env.builtins) (fun bi s₄ =>
        ∀ h', h'.Ns s₄.heap.objs.size (fun y => if y = ".0" then some (.ref it) else none) → Heap.SameBut s₄.heap.objs.size (s₄.heap.push { cls := .type "frame", data := .dict #[] }) h' →
          Q' (.ref h'.objs.size) { s₄ with
            gens := s₄.gens.push (.fresh (.compStart (.GeneratorExp elt [⟨tg, iter, ifs, 0⟩] scope gpos) 0 (.ref it) .none (genEnv scope (cloFrom X.env.cells scope.names []) s₄.heap.objs.size code bi X.env))),
            toks := s₄.toks + 1 + 1 + 1,
            heap := h'.push { cls := .type "generator", data := .fields #[.int s₄.gens.size 0, .str "<genexpr>" (s₄.toks + 1), .str (X.env.qual ++ "<genexpr>") (s₄.toks + 1 + 1)] } }) X.xe { s2 with heap := h3, toks := tk } := by
    intro code h3 tk ps' hx hsz hP3 hmore ht3
    obtain ⟨bm, ob, e1, e2, e3, e4, e5, e6, e7, e8⟩ := TB.bm
    have keep3 : ∀ b u, b ≠ P → s2.heap.get? b = some u → h3.get? b = some u := fun b u hb e => hx b u hb e
    refine wpAny_builtinsFor (m := X.mg) (by rw [I2.ok.glob]; exact (I2.mod.glob.keeps I2.bk).extBut hx TB.gP) e1 e2 (keep3 _ _ e4 (I2.bk _ _ e5)) e6 e7 e8 ?_
    intro h' hn' hs'
    obtain ⟨more, em⟩ := hmore
    subst em
    have I4 : Inv X pins σ (upd H1 P (.tbl (ps ++ more))) { s2 with heap := h3, toks := tk } := inv_tab (more := more) (h' := h3) (g' := s2.gens) (d' := s2.drawn) (t' := tk) I2 hP (fun b u hb e => hx b u hb e) hP3 I2.bare
    generalize hH2 : upd H1 P (.tbl (ps ++ more)) = H2 at I4
    have hTab : Tabbed P H1 H2 := by
      rw [← hH2]
      exact ⟨⟨ps ++ more, upd_same, ht3⟩, fun b hb => upd_ne hb⟩
    generalize hs4 : ({ s2 with heap := h3, toks := tk } : Shared) = s4 at I4
    have hh3 : h3 = s4.heap := by rw [← hs4]
    have hg2 : s2.gens = s4.gens := by rw [← hs4]
    have htk : tk = s4.toks := by rw [← hs4]
    have hsz4 : h'.objs.size = s4.heap.objs.size + 1 := by
      have z := hs'.1
      rw [Heap.size_push] at z
      rw [← hh3]
      exact z
    have keep' : ∀ b o, s4.heap.get? b = some o → h'.get? b = some o := fun b o e => by
      rw [← hh3] at e
      exact hs'.extBut b o (Nat.ne_of_lt (Heap.lt_size e)) (Heap.get?_push_of_some _ e)
    have fne : ∀ b ∈ fp, b ≠ P := fun b hb z => by
      have z1 := (f2 b hb).1
      rw [z, hP] at z1
      cases z1
    have flt : ∀ b ∈ fp, b < s2.heap.objs.size := fun b hb => by
      obtain ⟨o, e, _⟩ := T.obj _ _ st2 b hb
      exact Heap.lt_size e
    have f4 : ∀ b ∈ fp, FpOk X pins H2 b := fun b hb => by
      refine ⟨?_, (f2 b hb).2⟩
      rw [hTab.2 b (fne b hb)]
      exact (f2 b hb).1
    have f4l : ∀ b ∈ fp, b < s4.heap.objs.size := fun b hb => by
      rw [← hh3]
      exact Nat.lt_of_lt_of_le (flt b hb) hsz
    have stay : ∀ b ∈ fp, ∀ o, s2.heap.get? b = some o → h'.get? b = some o := fun b hb o e => keep' b o (by rw [← hh3]; exact keep3 b o (fne b hb) e)
    refine hQ J H2 s4 _ (genEnv scope (cloFrom X.env.cells scope.names []) s4.heap.objs.size code builtinsNs X.env) it fp tn h'.objs.size s4.gens.size
      { cls := .type "generator", data := .fields #[.int s4.gens.size 0, .str "<genexpr>" (s4.toks + 1), .str (X.env.qual ++ "<genexpr>") (s4.toks + 1 + 1)] } (q H2 hTab) ?_
    have hn4 : h'.Ns s4.heap.objs.size (fun y => if y = ".0" then some (.ref it) else none) := by first | exact hn' | (rw [← hh3]; exact hn')
    have I5 : Inv (gcx X s4 H2 (genEnv scope (cloFrom X.env.cells scope.names []) s4.heap.objs.size code builtinsNs X.env) fp []) [] (wipe σ (own.map (·.2))) H2
        { s4 with heap := h'.push { cls := .type "generator", data := .fields #[.int s4.gens.size 0, .str "<genexpr>" (s4.toks + 1), .str (X.env.qual ++ "<genexpr>") (s4.toks + 1 + 1)] }, toks := s4.toks + 1 + 1 + 1, gens := s4.gens.push (.fresh (.compStart (.GeneratorExp elt [⟨tg, iter, ifs, 0⟩] scope gpos) 0 (.ref it) .none (genEnv scope (cloFrom X.env.cells scope.names []) s4.heap.objs.size code builtinsNs X.env))) } :=
      gen_start I4 hr.hd ok hN (fun b hb => ⟨f4 b hb, f4l b hb⟩) rfl (AllBare.push I4.bare rfl) (fun b o e => Heap.get?_push_of_some _ (keep' b o e)) ⟨_, hn4.push _⟩
    have hgo : ∀ h : Heap, h.get? h'.objs.size = some { cls := .type "generator", data := .fields #[.int s4.gens.size 0, .str "<genexpr>" (s4.toks + 1), .str (X.env.qual ++ "<genexpr>") (s4.toks + 1 + 1)] } → h.IsGen h'.objs.size s4.gens.size := fun h e => ⟨_, _, _, e, rfl, rfl, rfl⟩
    refine ⟨I4, ⟨_, _, rfl⟩, T, T.keep _ _ _ st2 fun b hb o e => Heap.get?_push_of_some _ (stay b hb o e), f4, fun b hb => by rw [hsz4]; exact Nat.lt_succ_of_lt (f4l b hb), ?_, hgo, ?_, ?_⟩
    · refine inv_pn I5 fun p hp => ?_
      rw [List.append_nil] at hp
      rw [List.mem_singleton.mp hp]
      refine ⟨?_, I4.hok.fresh (by rw [hsz4]; exact Nat.le_succ _), ?_, fun z => ?_, fun v z => by cases z⟩
      · show (h'.push _).get? h'.objs.size = _
        exact Heap.get?_push_size _ rfl
      · show h'.objs.size ≠ s4.heap.objs.size
        rw [hsz4]
        exact Nat.succ_ne_self _
      · have z2 : h'.objs.size ∈ X.env.locals :: X.fs := I4.stkSub _ z
        rcases List.mem_cons.mp z2 with z3 | z3
        · have z4 := I4.lt
          rw [← z3, hsz4] at z4
          exact absurd (Nat.lt_of_succ_lt z4) (Nat.lt_irrefl _)
        · exact I4.nofs (by rw [hsz4]; exact Nat.le_succ _) z3
    · exact Array.getElem?_push_size ..
    · show h'.objs.size < (h'.push _).objs.size
      rw [Heap.size_push]
      exact Nat.lt_succ_self _
  refine ⟨lim2, ?_⟩
  cases hf : codeAmong gpos ps.toList with
  | none =>
    refine wpAny_genexprCodeX hcode (cd.code hPs ht) (cd.tab hPs) hf fun c' h' tk hx hge hlt hco' _ htab' _ => ?_
    obtain ⟨o1, vs, f1, tf, fl, tg, inF, tx, tt, op, _, _, _, _, _, _, _, _, _, htr, _⟩ := hco'
    exact cont _ h' tk _ hx (Nat.le_trans hge (Nat.le_of_lt hlt)) htab'.2 ⟨_, rfl⟩ htr
  | some cv =>
    refine wpAny_genexprCode_hit hcode (cd.code hPs ht) hf ?_
    exact cont cv s2.heap s2.toks ps (Heap.ExtBut.refl _ _) (Nat.le_refl _) hPs ⟨#[], by simp⟩ ht
end

/-! ### the consumers -/
theorem next_at {s : Shared} {g : Nat} {x y : GenState} (h : s.gens[g]? = some x) : (s.setGen g y).gens[g]? = some y := setGen_at (Array.getElem?_eq_some_iff.mp h).1
section
variable {Z : Type} {X : Cx} {s4 : Shared} {H4 : Hp} {cenv : Env} {fp : List Addr} {pn : List (Addr × Obj)} {tn : Nat → Heap → Prop} {σ0 : L2.St} {W : Nat → Nat → Z → Hp → Prop} {Ip : Z → List (Addr × Obj) → Prop}
  {Sp : Z → Hp → Prop} {Yw : Z → (Z → Hp → Prop) → V → Hp → Prop} {a : Addr} {g : Nat}
/-- one next of it: E nothing -/
theorem next_of {A : Around} {s : Shared} {gs : GenState} {n : Nat} {Q : Option Value → Shared → Prop} {E : Value → Shared → Prop} (hh : X.A.handled = none) (hroom : X.A.depth < recursionLimit) (hl : s.heap.NoLimit) (hg : s.heap.IsGen a g) (hgs : s.gens[g]? = some gs)
    (hgo : gs.Goes (model X.prog X.w) X.A.in1.in1 (fun n s₀ r s₁ => r = .ok .next ∧ GEndP X s4 H4 cenv fp pn σ0 Ip Sp s₀ s₁) (GYield X s4 H4 cenv fp pn tn σ0 W Ip Yw) n (.send .none) (s.setGen g .running))
    (hend : ∀ z ip H s', (∀ p ∈ ip, s.heap.get? p.1 = some p.2) → Ip z ip → Sp z H → Inv (gcx X s4 H4 cenv fp pn) ip σ0 H s' → Q none s')
    (hyld : ∀ i m z y v ip H Nx s', (∀ p ∈ ip, s.heap.get? p.1 = some p.2) → (∃ gs', s'.gens[g]? = some gs') → RelV y v → Ip z ip → Inv (gcx X s4 H4 cenv fp pn) ip σ0 H s' → tn (i + 1) s'.heap → (∀ b ∈ fp, H b = none) → (∀ z' H', Nx z' H' → ∃ m', m' < m ∧ W (i + 1) m' z' H') → Yw z Nx y H →
      (∀ s2 ip' z' m' H', (∃ gs', s2.gens[g]? = some gs' ∧ s'.gens[g]? = some gs') → m' < m → GRest X s4 H4 cenv fp pn tn σ0 W Ip (i + 1) m' z' ip' H' s2 →
        ∃ gs' k, s2.gens[g]? = some gs' ∧ n = k + 1 ∧ gs'.Goes (model X.prog X.w) X.A.in1.in1 (fun n s₀ r s₁ => r = .ok .next ∧ GEndP X s4 H4 cenv fp pn σ0 Ip Sp s₀ s₁) (GYield X s4 H4 cenv fp pn tn σ0 W Ip Yw) k (.send .none) (s2.setGen g .running)) → Q (some v) s') :
    wpAny (model X.prog X.w) X.A.in1 (pyNext (.ref a)) Q E s := by
  have hlt := (Array.getElem?_eq_some_iff.mp hgs).1
  refine wpAny_gsz (n := g + 1) hlt ?_
  refine wpAny_pyNext_genexpQ (P := fun _ s₀ s₁ => GEndP X s4 H4 cenv fp pn σ0 Ip Sp s₀ s₁) hh hl hroom hg hgs hgo (fun v s₁ gs' hb hv => ?_) (fun s₁ hp h' hk => ?_)
  · intro hsz
    obtain ⟨i, m, z, y, ip, H, Nx, hmn, ry, hip, I, ht, nf, hNx, yw, h0, kap⟩ := hv
    have q : (s₁.setGen g gs').gens.size = s₁.gens.size := setGen_size _ _ _
    have hsz1 : g < s₁.gens.size := by
      have hsz' : g + 1 ≤ (s₁.setGen g gs').gens.size := hsz
      omega
    have I' : Inv (gcx X s4 H4 cenv fp pn) ip σ0 H (s₁.setGen g gs') := inv_gens I (allBare_setGen I.bare hb)
    refine hyld i m z y v ip H Nx _ h0 ⟨gs', setGen_at hsz1⟩ ry hip I' ht nf hNx yw fun s2 ip' z' m' H' hg2 hm hR => ?_
    obtain ⟨gs2, h1, h2⟩ := hg2
    rw [setGen_at hsz1] at h2
    cases h2
    have kk := kap (s2.setGen g .running) ip' z' m' H' hm ⟨hR.w, hR.hip, inv_gens hR.inv (allBare_setGen hR.inv.bare rfl), hR.tn, hR.nf⟩
    cases n with
    | zero => exact False.elim kk
    | succ k => exact ⟨gs', k, h1, rfl, kk⟩
  · intro _
    obtain ⟨z, ip, H, hip, sp, I, h0⟩ := hp
    refine hend z ip H _ h0 hip sp ?_
    have I1 : Inv (gcx X s4 H4 cenv fp pn) ip σ0 H (s₁.setGen g .finished) := inv_gens I (allBare_setGen I.bare rfl)
    exact I1.kept (t' := s₁.toks) hk

/-- the loop of all -/
theorem all_loop {Rr : Result → Shared → Prop} {Qf : Bool → Hp → Prop} (hh : X.A.handled = none) (hroom : X.A.depth < recursionLimit) (hgen : ∀ s ip H, Inv (gcx X s4 H4 cenv fp pn) ip σ0 H s → s.heap.IsGen a g)
    (hSp : ∀ z H, Sp z H → Qf true H) (hYw : ∀ z Nx y H, Yw z Nx y H → ∃ c, y = .bl c ∧ if c = true then Nx z H else Qf false H)
    (hR : ∀ b ip H s', Inv (gcx X s4 H4 cenv fp pn) ip σ0 H s' → Qf b H → Rr (.ok (.ret (.bool b))) s') :
    ∀ (n : Nat) (s : Shared), (∃ gs, s.gens[g]? = some gs ∧ gs.Goes (model X.prog X.w) X.A.in1.in1 (fun n s₀ r s₁ => r = .ok .next ∧ GEndP X s4 H4 cenv fp pn σ0 Ip Sp s₀ s₁) (GYield X s4 H4 cenv fp pn tn σ0 W Ip Yw) n (.send .none) (s.setGen g .running)) →
      s.heap.NoLimit → s.heap.IsGen a g → codeAny (model X.prog X.w) X.A (.builtin "all.loop" ⟨[.ref a], []⟩) Rr s := by
  intro n
  induction n using Nat.strongRecOn with
  | ind n ih =>
    intro s ⟨gs, hgs, hgo⟩ hl hg
    refine codeAny_builtin F.entry_all_loop ?_
    rw [Around.under_plainId F.plain_all_loop _]
    show wpAny _ X.A.in1 (pyNext (.ref a) >>= _) _ _ s
    refine wpAny_bind (next_of (A := X.A) hh hroom hl hg hgs hgo (fun z ip H s' h0 hip sp I => ?_) (fun i m z y v ip H Nx s' h0 ⟨gs1, hgs1⟩ ry hip I ht nf hNx yw res => ?_))
    · refine wpAny_bind (wpAny_rule (wpAny_pure ?_))
      exact hR true ip H s' I (hSp z H sp)
    · obtain ⟨c, rfl, hc⟩ := hYw z Nx y H yw
      obtain rfl : v = Value.bool c := ry
      refine wpAny_bind (wpAny_holding (wpAny_truthy_bool ?_))
      refine wpAny_bind (wpAny_letGo ?_)
      cases c with
      | true =>
        simp only [if_true] at hc ⊢
        obtain ⟨m', hm, w'⟩ := hNx _ _ hc
        refine wpAny_pure ⟨plainId_quiet F.plain_all_loop _, ?_⟩
        obtain ⟨gs2, k, h1, h2, h3⟩ := res s' ip z m' H ⟨gs1, hgs1, hgs1⟩ hm ⟨w', hip, I, ht, nf⟩
        exact ih k (by omega) s' ⟨gs2, h1, h3⟩ I.nolimit (hgen _ _ _ I)
      | false =>
        simp only [Bool.false_eq_true, if_false] at hc ⊢
        refine wpAny_bind (wpAny_rule (wpAny_pure ?_))
        exact hR false ip H s' I hc
theorem any_loop {Rr : Result → Shared → Prop} {Qf : Bool → Hp → Prop} (hh : X.A.handled = none) (hroom : X.A.depth < recursionLimit) (hgen : ∀ s ip H, Inv (gcx X s4 H4 cenv fp pn) ip σ0 H s → s.heap.IsGen a g)
    (hSp : ∀ z H, Sp z H → Qf false H) (hYw : ∀ z Nx y H, Yw z Nx y H → ∃ c, y = .bl c ∧ if c = true then Qf true H else Nx z H)
    (hR : ∀ b ip H s', Inv (gcx X s4 H4 cenv fp pn) ip σ0 H s' → Qf b H → Rr (.ok (.ret (.bool b))) s') :
    ∀ (n : Nat) (s : Shared), (∃ gs, s.gens[g]? = some gs ∧ gs.Goes (model X.prog X.w) X.A.in1.in1 (fun n s₀ r s₁ => r = .ok .next ∧ GEndP X s4 H4 cenv fp pn σ0 Ip Sp s₀ s₁) (GYield X s4 H4 cenv fp pn tn σ0 W Ip Yw) n (.send .none) (s.setGen g .running)) →
      s.heap.NoLimit → s.heap.IsGen a g → codeAny (model X.prog X.w) X.A (.builtin "any.loop" ⟨[.ref a], []⟩) Rr s := by
  intro n
  induction n using Nat.strongRecOn with
  | ind n ih =>
    intro s ⟨gs, hgs, hgo⟩ hl hg
    refine codeAny_builtin F.entry_any_loop ?_
    rw [Around.under_plainId F.plain_any_loop _]
    show wpAny _ X.A.in1 (pyNext (.ref a) >>= _) _ _ s
    refine wpAny_bind (next_of (A := X.A) hh hroom hl hg hgs hgo (fun z ip H s' h0 hip sp I => ?_) (fun i m z y v ip H Nx s' h0 ⟨gs1, hgs1⟩ ry hip I ht nf hNx yw res => ?_))
    · refine wpAny_bind (wpAny_rule (wpAny_pure ?_))
      exact hR false ip H s' I (hSp z H sp)
    · obtain ⟨c, rfl, hc⟩ := hYw z Nx y H yw
      obtain rfl : v = Value.bool c := ry
      refine wpAny_bind (wpAny_holding (wpAny_truthy_bool ?_))
      refine wpAny_bind (wpAny_letGo ?_)
      cases c with
      | false =>
        simp only [Bool.false_eq_true, if_false] at hc ⊢
        obtain ⟨m', hm, w'⟩ := hNx _ _ hc
        refine wpAny_pure ⟨plainId_quiet F.plain_any_loop _, ?_⟩
        obtain ⟨gs2, k, h1, h2, h3⟩ := res s' ip z m' H ⟨gs1, hgs1, hgs1⟩ hm ⟨w', hip, I, ht, nf⟩
        exact ih k (by omega) s' ⟨gs2, h1, h3⟩ I.nolimit (hgen _ _ _ I)
      | true =>
        simp only [if_true] at hc ⊢
        refine wpAny_bind (wpAny_rule (wpAny_pure ?_))
        exact hR true ip H s' I hc
end
section
variable {X : Cx} {s4 : Shared} {H4 : Hp} {cenv : Env} {fp : List Addr} {pn : List (Addr × Obj)} {tn : Nat → Heap → Prop} {σ0 : L2.St} {W : Nat → Nat → Int → Hp → Prop} {Ip : Int → List (Addr × Obj) → Prop}
  {Sp : Int → Hp → Prop} {Yw : Int → (Int → Hp → Prop) → V → Hp → Prop} {a : Addr} {g : Nat}
/-- sum's own list -/
abbrev accObj (z : Int) (t : Tok) (c : Nat) : Obj := { cls := .type "list", dict := none, data := .seq #[.int z t] c, slots := #[] }
def IpSum (S : Addr) (z : Int) (ip : List (Addr × Obj)) : Prop := ∃ t c, ip = [(S, accObj z t c)]
theorem inv_acc {S : Addr} {H : Hp} {s : Shared} {z z' : Int} {t t' : Tok} {c c' : Nat} {h' : Heap} {tk : Nat} (I : Inv (gcx X s4 H4 cenv fp pn) [(S, accObj z t c)] σ0 H s)
    (hSfp : S ∉ fp) (hSpn : ∀ p ∈ pn, p.1 ≠ S) (hS4 : s4.heap.objs.size ≤ S) (hk : ∀ b o, b ≠ S → s.heap.get? b = some o → h'.get? b = some o) (hS : h'.get? S = some (accObj z' t' c')) :
    Inv (gcx X s4 H4 cenv fp pn) [(S, accObj z' t' c')] σ0 H { s with heap := h', toks := tk } := by
  obtain ⟨p1, p2, p3, p4, p5⟩ := I.pin (S, accObj z t c) (List.mem_append_right _ (List.mem_singleton.mpr rfl))
  have I0 : Inv (gcx X s4 H4 cenv fp pn) [] σ0 H s := I.pins_of fun p hp => absurd hp (by simp)
  have I1 : Inv (gcx X s4 H4 cenv fp pn) [] σ0 H { s with heap := h', toks := tk } := by
    refine I0.turned (it := S) hk p2 p3 (.inr hS4) (fun x cc e zz => ?_) fun p hp => ?_
    · obtain ⟨v, o, ho, hd⟩ := I.cell x cc e
      rw [zz, p1] at ho
      cases ho
      cases hd
    · rw [List.append_nil] at hp
      exact hSpn p hp
  refine I1.pins_of fun p hp => ?_
  rw [List.mem_singleton.mp hp]
  exact ⟨hS, p2, p3, p4, fun v q => by cases q⟩
theorem sum_loop {Rr : Result → Shared → Prop} {Qf : Int → Hp → Prop} {S : Addr} (hh : X.A.handled = none) (hroom : X.A.depth < recursionLimit) (hgen : ∀ s ip H, Inv (gcx X s4 H4 cenv fp pn) ip σ0 H s → s.heap.IsGen a g)
    (hSfp : S ∉ fp) (hSpn : ∀ p ∈ pn, p.1 ≠ S) (hS4 : s4.heap.objs.size ≤ S) (hkeep : ∀ i (h h' : Heap), tn i h → (∀ b ∈ fp, ∀ o, h.get? b = some o → h'.get? b = some o) → tn i h')
    (hSp : ∀ z H, Sp z H → Qf z H) (hYw : ∀ z Nx y H, Yw z Nx y H → ∃ v, y = .int v ∧ InLong v ∧ InLong (z + v) ∧ Nx (z + v) H)
    (hR : ∀ z t ip H s', Inv (gcx X s4 H4 cenv fp pn) ip σ0 H s' → Qf z H → Rr (.ok (.ret (.int z t))) s') :
    ∀ (n : Nat) (s : Shared) (z0 : Int) (tA : Tok) (c0 : Nat), s.heap.get? S = some (accObj z0 tA c0) →
      (∃ gs, s.gens[g]? = some gs ∧ gs.Goes (model X.prog X.w) X.A.in1.in1 (fun n s₀ r s₁ => r = .ok .next ∧ GEndP X s4 H4 cenv fp pn σ0 (IpSum S) Sp s₀ s₁) (GYield X s4 H4 cenv fp pn tn σ0 W (IpSum S) Yw) n (.send .none) (s.setGen g .running)) →
      s.heap.NoLimit → s.heap.IsGen a g → codeAny (model X.prog X.w) X.A (.builtin "sum.loop" ⟨[.ref a, .ref S, rawInt 0, rawInt 0], []⟩) Rr s := by
  intro n
  induction n using Nat.strongRecOn with
  | ind n ih =>
    intro s z0 tA c0 hS ⟨gs, hgs, hgo⟩ hl hg
    refine codeAny_builtin F.entry_sum_loop ?_
    rw [Around.under_plainId F.plain_sum_loop _]
    show wpAny _ X.A.in1 (seqItems? (.ref S) >>= _) _ _ s
    refine wpAny_bind (wpAny_seqItems hS rfl ?_)
    show wpAny _ X.A.in1 (tryCatch (pyNext (.ref a)) _ >>= _) _ _ s
    refine wpAny_bind (wpAny_tryCatch (next_of (A := X.A) hh hroom hl hg hgs hgo (fun z ip H s' h0 hip sp I => ?_) (fun i m z y v ip H Nx s' h0 ⟨gs1, hgs1⟩ ry hip I ht nf hNx yw res => ?_)))
    · obtain ⟨t, c, rfl⟩ := hip
      have e := h0 (S, accObj z t c) (List.mem_singleton.mpr rfl)
      rw [hS] at e
      injection Option.some.inj e with _ _ e3 _
      injection e3 with e4 _
      have e5 : Value.int z0 tA = Value.int z t := by
        have := congrArg (fun q : Array Value => q[0]?) e4
        simpa using this
      injection e5 with e6 e7
      subst e6
      exact wpAny_pure (hR z0 tA _ H s' I (hSp z0 H sp))
    · obtain ⟨t, c, rfl⟩ := hip
      have e := h0 (S, accObj z t c) (List.mem_singleton.mpr rfl)
      rw [hS] at e
      injection Option.some.inj e with _ _ e3 _
      injection e3 with e4 _
      have e5 : Value.int z0 tA = Value.int z t := by
        have := congrArg (fun q : Array Value => q[0]?) e4
        simpa using this
      injection e5 with e6 e7
      subst e6
      obtain ⟨v0, rfl, ⟨f1, f2⟩, ⟨f3, f4⟩, hnx⟩ := hYw z0 Nx y H yw
      obtain ⟨m', hm, w'⟩ := hNx _ _ hnx
      obtain ⟨tv, rfl⟩ : ∃ tv, v = Value.int v0 tv := ry
      have hS' : s'.heap.get? S = some (accObj z0 t c) := (I.pin (S, accObj z0 t c) (List.mem_append_right _ (List.mem_singleton.mpr rfl))).1
      have hc : ((decide (-(2 ^ 63) ≤ v0) && decide (v0 < 2 ^ 63)) && (decide (-(2 ^ 63) ≤ z0 + v0) && decide (z0 + v0 < 2 ^ 63))) = true := by
        simp only [Bool.and_eq_true, decide_eq_true_eq]
        exact ⟨⟨f1, f2⟩, f3, f4⟩
      show wpAny _ X.A.in1 (if (_ : Bool) = true then (mkInt (z0 + v0) >>= _) else _) _ _ _
      split
      · refine wpAny_bind (wpAny_mkInt ?_)
        show wpAny _ X.A.in1 (updateSeq S (fun _ => #[.int (z0 + v0) s'.toks]) >>= _) _ _ _
        refine wpAny_bind ?_
        refine wpAny_updateSeq hS' rfl (wpAny_pure ⟨plainId_quiet F.plain_sum_loop _, ?_⟩)
        obtain ⟨c', hup⟩ : ∃ c', (s'.heap.update S (Obj.mapSeq (fun _ => #[.int (z0 + v0) s'.toks]))).get? S = some (accObj (z0 + v0) s'.toks c') := ⟨_, Heap.get?_update_self _ hS' rfl⟩
        have I2 : Inv (gcx X s4 H4 cenv fp pn) [(S, accObj (z0 + v0) s'.toks c')] σ0 H { s' with heap := s'.heap.update S (Obj.mapSeq (fun _ => #[.int (z0 + v0) s'.toks])), toks := s'.toks + 1 } :=
          inv_acc I hSfp hSpn hS4 (fun b o hb e => (Heap.get?_update_other _ _ (Ne.symm hb)).trans e) hup
        obtain ⟨gs2, k, h1, h2, h3⟩ := res { s' with heap := s'.heap.update S (Obj.mapSeq (fun _ => #[.int (z0 + v0) s'.toks])), toks := s'.toks + 1 } [(S, accObj (z0 + v0) s'.toks c')] (z0 + v0) m' H ⟨gs1, hgs1, hgs1⟩ hm
          ⟨w', ⟨_, _, rfl⟩, I2, hkeep _ _ _ ht fun b hb o e => (Heap.get?_update_other _ _ (fun z : S = b => hSfp (by rw [z]; exact hb))).trans e, nf⟩
        exact ih k (by omega) _ (z0 + v0) s'.toks c' hup ⟨gs2, h1, h3⟩ I2.nolimit (hgen _ _ _ I2)
      · rename_i hneg
        exact absurd hc hneg
end

/-! ### the rules -/
section
variable {X : Cx}
/-- all(elt for tg in iter if ..), by an invariant W of the turn, a measure and the heap -/
def tAllG (P : Addr) (wi : TI) (g : TG) (tt : TT) (te : TE) (vs : List Nat) : TE := fun σ H Q => wi σ H fun J H1 => TabG H1 P ∧ ∀ H2, Tabbed P H1 H2 → ∃ W : Nat → Nat → Hp → Prop, (∃ m, W 0 m H2) ∧ ∀ i m H, W i m H →
  (J.stop i H ∧ Q (.bl true) H) ∨ (J.go i H ∧ ∃ Nx : Hp → Prop, (∀ H', Nx H' → ∃ m', m' < m ∧ W (i + 1) m' H') ∧ ∀ x H', J.yld i H x H' → g x (wipe σ vs) H' fun σ2 H2 => wipe σ2 vs = wipe σ vs ∧ tt σ2 H2 fun b H3 =>
    if b = true then te σ2 H3 fun y H4 => ∃ c, y = .bl c ∧ if c = true then Nx H4 else Q (.bl false) H4 else Nx H3)
def tAnyG (P : Addr) (wi : TI) (g : TG) (tt : TT) (te : TE) (vs : List Nat) : TE := fun σ H Q => wi σ H fun J H1 => TabG H1 P ∧ ∀ H2, Tabbed P H1 H2 → ∃ W : Nat → Nat → Hp → Prop, (∃ m, W 0 m H2) ∧ ∀ i m H, W i m H →
  (J.stop i H ∧ Q (.bl false) H) ∨ (J.go i H ∧ ∃ Nx : Hp → Prop, (∀ H', Nx H' → ∃ m', m' < m ∧ W (i + 1) m' H') ∧ ∀ x H', J.yld i H x H' → g x (wipe σ vs) H' fun σ2 H2 => wipe σ2 vs = wipe σ vs ∧ tt σ2 H2 fun b H3 =>
    if b = true then te σ2 H3 fun y H4 => ∃ c, y = .bl c ∧ if c = true then Q (.bl true) H4 else Nx H4 else Nx H3)
/-- sum(elt for ..): W bears the sum so far -/
def tSumG (P : Addr) (wi : TI) (g : TG) (tt : TT) (te : TE) (vs : List Nat) : TE := fun σ H Q => wi σ H fun J H1 => TabG H1 P ∧ ∀ H2, Tabbed P H1 H2 → ∃ W : Nat → Nat → Int → Hp → Prop, (∃ m, W 0 m 0 H2) ∧ ∀ i m z H, W i m z H →
  (J.stop i H ∧ Q (.int z) H) ∨ (J.go i H ∧ ∃ Nx : Int → Hp → Prop, (∀ z' H', Nx z' H' → ∃ m', m' < m ∧ W (i + 1) m' z' H') ∧ ∀ x H', J.yld i H x H' → g x (wipe σ vs) H' fun σ2 H2 => wipe σ2 vs = wipe σ vs ∧ tt σ2 H2 fun b H3 =>
    if b = true then te σ2 H3 fun y H4 => ∃ v, y = .int v ∧ InLong v ∧ InLong (z + v) ∧ Nx (z + v) H4 else Nx z H3)
variable {c P : Addr} {elt tg iter : Expr} {ifs : List Expr} {p pos gpos : Pos} {scope : Scope} {own : List (Str × Nat)} {wi : TI} {g : TG} {tt : TT} {te : TE} {k : Nat}
theorem pe_allG (hr : Room k X.A) (hgl : Gl X "all") (hm : X.mg "all" = none) (TB : TabB X.base X.mg c P) (hcode : X.env.code = .ref c) (ok : GenOk X.N X.env.scope scope own) (hN : X.N.Nodup) (hi : PI X tg iter wi)
    (hg : ∀ (s : Shared) (H : Hp) (C : Addr) (cl : List (Str × Addr)) (cd : Value) (fp : List Addr) (pn : List (Addr × Obj)), PG (gcx X s H (genEnv scope cl C cd builtinsNs X.env) fp pn) tg g)
    (ht : ∀ (s : Shared) (H : Hp) (C : Addr) (cl : List (Str × Addr)) (cd : Value) (fp : List Addr) (pn : List (Addr × Obj)), PTs (gcx X s H (genEnv scope cl C cd builtinsNs X.env) fp pn) ifs tt)
    (he : ∀ (s : Shared) (H : Hp) (C : Addr) (cl : List (Str × Addr)) (cd : Value) (fp : List Addr) (pn : List (Addr × Obj)), PE (gcx X s H (genEnv scope cl C cd builtinsNs X.env) fp pn) elt te)
    (hs : ∀ v, genFold iter X.env v = pure v := by intro _; rfl)
    (hst : starEach [.GeneratorExp elt [⟨tg, iter, ifs, 0⟩] scope gpos] X.env = (false, eval (.GeneratorExp elt [⟨tg, iter, ifs, 0⟩] scope gpos) X.env) :: starEach [] X.env := by rfl) :
    PE X (.Call (.Name "all" p) [.GeneratorExp elt [⟨tg, iter, ifs, 0⟩] scope gpos] [] pos) (tAllG P wi g tt te (own.map (·.2))) := by
  refine ⟨fun pins s σ H Q I h => ?_⟩
  refine wpAny_Call_Name_kw (ld_blt I hgl hm boot_all ?_)
  refine PyProof.Rows.callWith_builtin1 ?_ hst (by rfl)
  rw [hst]
  show wpAny _ _ (spliced ((false, eval (.GeneratorExp elt [⟨tg, iter, ifs, 0⟩] scope gpos) X.env) :: backTo pos (starEach [] X.env))) _ _ s
  refine Calls.spliced_cons (gen_made hr TB hcode ok hN hi hs I h fun J H2 s4 s5 cenv it fp tn a gn go hR M => ?_)
  obtain ⟨W, ⟨m0, w0⟩, turn⟩ := hR
  obtain ⟨C, cd, rfl⟩ := M.env
  refine Calls.spliced_nil ?_
  refine call_function_tree F.kind_all F.plain_all F.entry_all (F.args_all1 _) ?_
  unfold Builtin.«all»
  refine wpAny_bind (m := oneArg "all" _) (wpAny_pure ?_)
  have hgen : ∀ s ip H, Inv (gcx X s4 H2 (genEnv scope (cloFrom X.env.cells scope.names []) C cd builtinsNs X.env) fp [(a, go)]) ip (wipe σ (own.map (·.2))) H s → s.heap.IsGen a gn := fun s ip H I' =>
    M.gen _ (I'.pin (a, go) (List.mem_append_left _ (List.mem_singleton.mpr rfl))).1
  have hg5 := hgen _ _ _ M.inv
  refine wpAny_bind (wpAny_pyIter_gen hg5 ?_)
  have sg := seg_first (W := fun i m _ H => W i m H) (Ip := fun _ ip => ip = []) (Sp := fun _ H => Q (.bl true) H) (Yw := fun z Nx y H => ∃ c, y = .bl c ∧ if c = true then Nx z H else Q (.bl false) H) (vs := own.map (·.2)) (σ0 := wipe σ (own.map (·.2)))
    (iter := iter) (scope := scope) (pos := gpos) (s := s5.setGen gn .running) (s₀ := s5.setGen gn .running) (m := m0) (n := m0 + 1) (z := 0) (ip := []) (H := H2) ok.co (fun z ip hip b hb q hq e => ?_) M.turn (hg s4 H2 C (cloFrom X.env.cells scope.names []) cd fp [(a, go)]) (ht s4 H2 C (cloFrom X.env.cells scope.names []) cd fp [(a, go)]) (he s4 H2 C (cloFrom X.env.cells scope.names []) cd fp [(a, go)])
    (fun i m z H w => ?_) (Nat.lt_succ_self _) ⟨w0, rfl, inv_gens M.inv (allBare_setGen M.inv.bare rfl), M.tn0, fun b hb => (M.fok b hb).1⟩ (fun p hp => absurd hp (by simp))
  · exact wpAny_pure ⟨plainId_quiet F.plain_all_loop _, all_loop (Qf := fun b H => Q (.bl b) H) hr.hd (by have := hr.dp; omega) hgen (fun _ _ h => h) (fun z Nx y H h => h) (fun b ip H s' I' q => ⟨.bl b, H, back M.i4 M.fok I', rfl, q⟩) (m0 + 1) s5 ⟨_, M.gs, rfl, sg⟩ M.inv.nolimit hg5⟩
  · subst hip
    rw [List.append_nil] at hq
    rw [List.mem_singleton.mp hq] at e
    have := M.fa b hb
    rw [← e] at this
    exact Nat.lt_irrefl _ this
  · rcases turn i m H w with h1 | ⟨go1, Nx, h2, h3⟩
    · exact .inl h1
    · exact .inr ⟨go1, fun _ H => Nx H, fun _ H' => h2 H', h3⟩
theorem pe_anyG (hr : Room k X.A) (hgl : Gl X "any") (hm : X.mg "any" = none) (TB : TabB X.base X.mg c P) (hcode : X.env.code = .ref c) (ok : GenOk X.N X.env.scope scope own) (hN : X.N.Nodup) (hi : PI X tg iter wi)
    (hg : ∀ (s : Shared) (H : Hp) (C : Addr) (cl : List (Str × Addr)) (cd : Value) (fp : List Addr) (pn : List (Addr × Obj)), PG (gcx X s H (genEnv scope cl C cd builtinsNs X.env) fp pn) tg g)
    (ht : ∀ (s : Shared) (H : Hp) (C : Addr) (cl : List (Str × Addr)) (cd : Value) (fp : List Addr) (pn : List (Addr × Obj)), PTs (gcx X s H (genEnv scope cl C cd builtinsNs X.env) fp pn) ifs tt)
    (he : ∀ (s : Shared) (H : Hp) (C : Addr) (cl : List (Str × Addr)) (cd : Value) (fp : List Addr) (pn : List (Addr × Obj)), PE (gcx X s H (genEnv scope cl C cd builtinsNs X.env) fp pn) elt te)
    (hs : ∀ v, genFold iter X.env v = pure v := by intro _; rfl)
    (hst : starEach [.GeneratorExp elt [⟨tg, iter, ifs, 0⟩] scope gpos] X.env = (false, eval (.GeneratorExp elt [⟨tg, iter, ifs, 0⟩] scope gpos) X.env) :: starEach [] X.env := by rfl) :
    PE X (.Call (.Name "any" p) [.GeneratorExp elt [⟨tg, iter, ifs, 0⟩] scope gpos] [] pos) (tAnyG P wi g tt te (own.map (·.2))) := by
  refine ⟨fun pins s σ H Q I h => ?_⟩
  refine wpAny_Call_Name_kw (ld_blt I hgl hm boot_any ?_)
  refine PyProof.Rows.callWith_builtin1 ?_ hst (by rfl)
  rw [hst]
  show wpAny _ _ (spliced ((false, eval (.GeneratorExp elt [⟨tg, iter, ifs, 0⟩] scope gpos) X.env) :: backTo pos (starEach [] X.env))) _ _ s
  refine Calls.spliced_cons (gen_made hr TB hcode ok hN hi hs I h fun J H2 s4 s5 cenv it fp tn a gn go hR M => ?_)
  obtain ⟨W, ⟨m0, w0⟩, turn⟩ := hR
  obtain ⟨C, cd, rfl⟩ := M.env
  refine Calls.spliced_nil ?_
  refine call_function_tree F.kind_any F.plain_any F.entry_any (F.args_any1 _) ?_
  unfold Builtin.«any»
  refine wpAny_bind (m := oneArg "any" _) (wpAny_pure ?_)
  have hgen : ∀ s ip H, Inv (gcx X s4 H2 (genEnv scope (cloFrom X.env.cells scope.names []) C cd builtinsNs X.env) fp [(a, go)]) ip (wipe σ (own.map (·.2))) H s → s.heap.IsGen a gn := fun s ip H I' =>
    M.gen _ (I'.pin (a, go) (List.mem_append_left _ (List.mem_singleton.mpr rfl))).1
  have hg5 := hgen _ _ _ M.inv
  refine wpAny_bind (wpAny_pyIter_gen hg5 ?_)
  have sg := seg_first (W := fun i m _ H => W i m H) (Ip := fun _ ip => ip = []) (Sp := fun _ H => Q (.bl false) H) (Yw := fun z Nx y H => ∃ c, y = .bl c ∧ if c = true then Q (.bl true) H else Nx z H) (vs := own.map (·.2)) (σ0 := wipe σ (own.map (·.2)))
    (iter := iter) (scope := scope) (pos := gpos) (s := s5.setGen gn .running) (s₀ := s5.setGen gn .running) (m := m0) (n := m0 + 1) (z := 0) (ip := []) (H := H2) ok.co (fun z ip hip b hb q hq e => ?_) M.turn (hg s4 H2 C (cloFrom X.env.cells scope.names []) cd fp [(a, go)]) (ht s4 H2 C (cloFrom X.env.cells scope.names []) cd fp [(a, go)]) (he s4 H2 C (cloFrom X.env.cells scope.names []) cd fp [(a, go)])
    (fun i m z H w => ?_) (Nat.lt_succ_self _) ⟨w0, rfl, inv_gens M.inv (allBare_setGen M.inv.bare rfl), M.tn0, fun b hb => (M.fok b hb).1⟩ (fun p hp => absurd hp (by simp))
  · exact wpAny_pure ⟨plainId_quiet F.plain_any_loop _, any_loop (Qf := fun b H => Q (.bl b) H) hr.hd (by have := hr.dp; omega) hgen (fun _ _ h => h) (fun z Nx y H h => h) (fun b ip H s' I' q => ⟨.bl b, H, back M.i4 M.fok I', rfl, q⟩) (m0 + 1) s5 ⟨_, M.gs, rfl, sg⟩ M.inv.nolimit hg5⟩
  · subst hip
    rw [List.append_nil] at hq
    rw [List.mem_singleton.mp hq] at e
    have := M.fa b hb
    rw [← e] at this
    exact Nat.lt_irrefl _ this
  · rcases turn i m H w with h1 | ⟨go1, Nx, h2, h3⟩
    · exact .inl h1
    · exact .inr ⟨go1, fun _ H => Nx H, fun _ H' => h2 H', h3⟩
theorem pe_sumG (hr : Room k X.A) (hgl : Gl X "sum") (hm : X.mg "sum" = none) (TB : TabB X.base X.mg c P) (hcode : X.env.code = .ref c) (ok : GenOk X.N X.env.scope scope own) (hN : X.N.Nodup) (hi : PI X tg iter wi)
    (hg : ∀ (s : Shared) (H : Hp) (C : Addr) (cl : List (Str × Addr)) (cd : Value) (fp : List Addr) (pn : List (Addr × Obj)), PG (gcx X s H (genEnv scope cl C cd builtinsNs X.env) fp pn) tg g)
    (ht : ∀ (s : Shared) (H : Hp) (C : Addr) (cl : List (Str × Addr)) (cd : Value) (fp : List Addr) (pn : List (Addr × Obj)), PTs (gcx X s H (genEnv scope cl C cd builtinsNs X.env) fp pn) ifs tt)
    (he : ∀ (s : Shared) (H : Hp) (C : Addr) (cl : List (Str × Addr)) (cd : Value) (fp : List Addr) (pn : List (Addr × Obj)), PE (gcx X s H (genEnv scope cl C cd builtinsNs X.env) fp pn) elt te)
    (hs : ∀ v, genFold iter X.env v = pure v := by intro _; rfl)
    (hst : starEach [.GeneratorExp elt [⟨tg, iter, ifs, 0⟩] scope gpos] X.env = (false, eval (.GeneratorExp elt [⟨tg, iter, ifs, 0⟩] scope gpos) X.env) :: starEach [] X.env := by rfl) :
    PE X (.Call (.Name "sum" p) [.GeneratorExp elt [⟨tg, iter, ifs, 0⟩] scope gpos] [] pos) (tSumG P wi g tt te (own.map (·.2))) := by
  refine ⟨fun pins s σ H Q I h => ?_⟩
  refine wpAny_Call_Name_kw (ld_blt I hgl hm boot_sum ?_)
  refine PyProof.Rows.callWith_builtin1 ?_ hst (by rfl)
  rw [hst]
  show wpAny _ _ (spliced ((false, eval (.GeneratorExp elt [⟨tg, iter, ifs, 0⟩] scope gpos) X.env) :: backTo pos (starEach [] X.env))) _ _ s
  refine Calls.spliced_cons (gen_made hr TB hcode ok hN hi hs I h fun J H2 s4 s5 cenv it fp tn a gn go hR M => ?_)
  obtain ⟨W, ⟨m0, w0⟩, turn⟩ := hR
  obtain ⟨C, cd, rfl⟩ := M.env
  refine Calls.spliced_nil ?_
  refine call_function_tree F.kind_sum F.plain_sum F.entry_sum (F.args_sum1 _) ?_
  unfold Builtin.«sum»
  simp only [List.length_cons, List.length_nil]
  rw [if_neg (by decide)]
  refine wpAny_bind (wpAny_of_eq (show Builtin.Builtins.bindParams "sum" ["start"] 0 { } = pure [none] from rfl) ?_)
  have hgen : ∀ s ip H, Inv (gcx X s4 H2 (genEnv scope (cloFrom X.env.cells scope.names []) C cd builtinsNs X.env) fp [(a, go)]) ip (wipe σ (own.map (·.2))) H s → s.heap.IsGen a gn := fun s ip H I' =>
    M.gen _ (I'.pin (a, go) (List.mem_append_left _ (List.mem_singleton.mpr rfl))).1
  have hg5 := hgen _ _ _ M.inv
  refine wpAny_bind (wpAny_pyIter_gen hg5 ?_)
  refine wpAny_bind (wpAny_mkInt ?_)
  refine wpAny_bind (wpAny_pure ?_)
  simp only [List.forIn_cons, List.forIn_nil]
  refine wpAny_bind (wpAny_bind (wpAny_bind (wpAny_isInstance (T := "int") (b := false) (typeIs_int _ _ _) PySem.sub_int_str ?_)))
  simp only [Bool.false_eq_true, if_false]
  refine wpAny_pure (wpAny_bind (wpAny_bind (wpAny_isInstance (T := "int") (b := false) (typeIs_int _ _ _) PySem.sub_int_bytes ?_)))
  simp only [Bool.false_eq_true, if_false]
  refine wpAny_pure (wpAny_bind (wpAny_bind (wpAny_isInstance (T := "int") (b := false) (typeIs_int _ _ _) PySem.sub_int_bytearray ?_)))
  simp only [Bool.false_eq_true, if_false]
  refine wpAny_pure (wpAny_pure ?_)
  refine wpAny_bind (wpAny_newObj_type ?_)
  have Sz : s4.heap.objs.size ≤ s5.heap.objs.size := M.inv.sz
  have hSfp : s5.heap.objs.size ∉ fp := fun hm => by
    have h1 := M.fa _ hm
    have h2 := M.lt
    exact absurd (Nat.lt_trans h1 h2) (Nat.lt_irrefl _)
  have I6 : Inv (gcx X s4 H2 (genEnv scope (cloFrom X.env.cells scope.names []) C cd builtinsNs X.env) fp [(a, go)]) [(s5.heap.objs.size, accObj 0 s5.toks 0)] (wipe σ (own.map (·.2))) H2 { s5 with heap := s5.heap.push (accObj 0 s5.toks 0), toks := s5.toks + 1 } := by
    have I0 : Inv (gcx X s4 H2 (genEnv scope (cloFrom X.env.cells scope.names []) C cd builtinsNs X.env) fp [(a, go)]) [] (wipe σ (own.map (·.2))) H2 { s5 with heap := s5.heap.push (accObj 0 s5.toks 0), toks := s5.toks + 1 } := M.inv.kept fun b o e => Heap.get?_push_of_some _ e
    refine I0.pins_of fun p hp => ?_
    rw [List.mem_singleton.mp hp]
    have fk := M.inv.fpOk (Nat.le_refl _) (M.inv.hok.fresh (Nat.le_refl _))
    exact ⟨Heap.get?_push_size _ rfl, fk.1, fk.2.1, fk.2.2.1, fun v q => by cases q⟩
  generalize hs6 : ({ s5 with heap := s5.heap.push (accObj 0 s5.toks 0), toks := s5.toks + 1 } : Shared) = s6 at I6
  have hS6 : s6.heap.get? s5.heap.objs.size = some (accObj 0 s5.toks 0) := (I6.pin (s5.heap.objs.size, accObj 0 s5.toks 0) (List.mem_append_right _ (List.mem_singleton.mpr rfl))).1
  have gs6 : s6.gens = s5.gens := by rw [← hs6]
  have st6 : tn 0 s6.heap := M.turn.keep _ _ _ M.tn0 fun b _ o e => by rw [← hs6]; exact Heap.get?_push_of_some _ e
  have sg := seg_first (W := W) (Ip := IpSum s5.heap.objs.size) (Sp := fun z H => Q (.int z) H) (Yw := fun z Nx y H => ∃ v, y = .int v ∧ InLong v ∧ InLong (z + v) ∧ Nx (z + v) H) (vs := own.map (·.2)) (σ0 := wipe σ (own.map (·.2)))
    (iter := iter) (scope := scope) (pos := gpos) (s := s6.setGen gn .running) (s₀ := s6.setGen gn .running) (m := m0) (n := m0 + 1) (z := 0) (ip := [(s5.heap.objs.size, accObj 0 s5.toks 0)]) (H := H2) ok.co (fun z ip hip b hb q hq e => ?_) M.turn (hg s4 H2 C (cloFrom X.env.cells scope.names []) cd fp [(a, go)]) (ht s4 H2 C (cloFrom X.env.cells scope.names []) cd fp [(a, go)]) (he s4 H2 C (cloFrom X.env.cells scope.names []) cd fp [(a, go)])
    (show Turns J g tt te (wipe σ (own.map (·.2))) (own.map (·.2)) W (fun z H => Q (.int z) H) (fun z Nx y H => ∃ v, y = .int v ∧ InLong v ∧ InLong (z + v) ∧ Nx (z + v) H) from turn) (Nat.lt_succ_self _) ⟨w0, ⟨_, _, rfl⟩, inv_gens I6 (allBare_setGen I6.bare rfl), st6, fun b hb => (M.fok b hb).1⟩ (fun p hp => by rw [List.mem_singleton.mp hp]; exact hS6)
  · refine wpAny_pure ⟨plainId_quiet F.plain_sum_loop _, ?_⟩
    exact sum_loop (W := W) (S := s5.heap.objs.size) (a := a) (Qf := fun z H => Q (.int z) H) hr.hd (by have := hr.dp; omega) hgen hSfp (fun p hp e => by
        rw [List.mem_singleton.mp hp] at e
        have h2 := M.lt
        rw [show a = s5.heap.objs.size from e] at h2
        exact Nat.lt_irrefl _ h2) Sz M.turn.keep (fun _ _ h => h) (fun z Nx y H h => h) (fun z t ip H s' I' q => ⟨.int z, H, back M.i4 M.fok I', ⟨t, rfl⟩, q⟩) (m0 + 1) s6 0 s5.toks 0 hS6 ⟨.fresh _, by rw [gs6]; exact M.gs, rfl, sg⟩ I6.nolimit (hgen _ _ _ I6)
  · obtain ⟨t, c, rfl⟩ := hip
    rcases List.mem_append.mp hq with hq | hq
    · rw [List.mem_singleton.mp hq] at e
      have := M.fa b hb
      rw [← e] at this
      exact Nat.lt_irrefl _ this
    · rw [List.mem_singleton.mp hq] at e
      exact hSfp (by rw [show s5.heap.objs.size = b from e]; exact hb)
end
end GX

namespace GE
open PySem PySem.Spec PyProof.Rows L2
open AutoSeq1 (wpAny_loadPart')
theorem enum_newT (l : Addr) (items : Array Value) (n : Nat) (dct : Option Addr) (sl : Array (Option Value)) :
    Meets (Builtin.«enumerate.__new__» ⟨[.type "enumerate", .ref l], []⟩) (fun _ R s => s.heap.get? l = some { cls := .type "tuple", dict := dct, data := .seq items n, slots := sl } ∧
      R (.ok (.ret (.ref (s.heap.push { cls := .type "tuple_iterator", data := .fields #[.ref l, .int 0 0] }).objs.size)))
        { s with heap := (s.heap.push { cls := .type "tuple_iterator", data := .fields #[.ref l, .int 0 0] }).push { cls := .type "enumerate", data := .fields #[.none, .bool false, .ref s.heap.objs.size, rawInt 0, .none, .none] } }) :=
  .of_wp fun prog w A R s h => by
    obtain ⟨hp, g, d, tk, os⟩ := s; obtain ⟨hl, h⟩ := h
    have hsub := sub_enumerate
    have hL : Heap.IsTuple (Shared.heap ⟨hp, g, d, tk, os⟩) l items := ⟨_, hl, rfl, n, rfl⟩
    wp_walk using wpAny_loadPart' hl
    refine wpAny_stack_any fun st => wpAny_pure ?_
    split
    · rename_i c _ _ _ _ _
      cases (c == Value.type "enumerate")
      · wp_walk using wpAny_loadPart' hl, wpAny_pyIter_tuple hL
        exact ⟨_, rfl, h⟩
      · wp_walk using wpAny_loadPart' hl, wpAny_pyIter_tuple hL
        exact ⟨_, rfl, h⟩
    · wp_walk using wpAny_loadPart' hl, wpAny_pyIter_tuple hL
      exact ⟨_, rfl, h⟩

section
variable {prog : Program} {w : World} {A : Around} {E : Value → Shared → Prop} {s : Shared}
theorem enum_callT {l : Addr} {items : Array Value} {Q : Value → Shared → Prop} (hL : s.heap.IsTuple l items)
    (h : ∀ h', IsEnum h' (s.heap.objs.size + 1) s.heap.objs.size 0 .none → h'.IsTupleIter s.heap.objs.size l 0 → h'.objs.size = s.heap.objs.size + 2 →
      (∀ b o, s.heap.get? b = some o → h'.get? b = some o) → Q (.ref (s.heap.objs.size + 1)) { s with heap := h' }) :
    wpAny (model prog w) A (call (.type "enumerate") [.ref l]) Q E s := by
  obtain ⟨⟨c, dct, dt, sl⟩, hl, hc, n, hd⟩ := hL
  replace hc : c = .type "tuple" := hc
  replace hd : dt = .seq items n := hd
  subst hc hd
  refine callType_new F.called_enumerate (by decide) (F.typeCall_enumerate_1 _) (F.newCall_enumerate_1 _) (fun obj => F.args_object_init_2 obj _) F.entry_enumerate_new
    (enum_newT l items n dct sl) ⟨hl, ?_⟩
  have hz : (s.heap.push { cls := .type "tuple_iterator", data := .fields #[.ref l, .int 0 0] }).objs.size = s.heap.objs.size + 1 := Heap.size_push ..
  show _ ∧ _
  rw [hz]
  have he : IsEnum ((s.heap.push { cls := .type "tuple_iterator", data := .fields #[.ref l, .int 0 0] }).push
      { cls := .type "enumerate", data := .fields #[.none, .bool false, .ref s.heap.objs.size, rawInt 0, .none, .none] }) (s.heap.objs.size + 1) s.heap.objs.size 0 .none := by
    have := Heap.get?_push_size (s.heap.push { cls := .type "tuple_iterator", data := .fields #[.ref l, .int 0 0] })
      (o := { cls := .type "enumerate", data := .fields #[.none, .bool false, .ref s.heap.objs.size, rawInt 0, .none, .none] }) rfl
    rw [hz] at this; exact this
  refine ⟨⟨_, he, rfl⟩, h _ he ⟨_, Heap.get?_push_of_some _ (Heap.get?_push_size _ rfl), rfl, rfl⟩ (by rw [Heap.size_push, hz]) fun b o x => Heap.get?_push_of_some _ (Heap.get?_push_of_some _ x)⟩

theorem nextOf_tup {it l : Addr} {i : Nat} {items} {x : Value} {Q : Value → Shared → Prop} (hit : s.heap.IsTupleIter it l i)
    (hl : s.heap.IsTuple l items) (hx : items[i]? = some x)
    (hQ : ∀ h', h'.IsTupleIter it l (i + 1) → Heap.SameBut it s.heap h' → Q x { s with heap := h' }) :
    wpAny (model prog w) A (Builtin.SmallTypes.nextOf (.ref it)) Q E s := by
  obtain ⟨o, ho, hc, hd⟩ := id hit
  obtain ⟨ol, hol, _, nl, hdl⟩ := hl
  unfold Builtin.SmallTypes.nextOf
  refine wpAny_bind (wpAny_callSpecial?_slot (name := Str.ofString "__next__") hit.typeIs F.slot_tuple_iterator_next
    (wpAny_call_entry F.slot_tuple_iterator_next hit.typeIs F.entry_tuple_iterator_next ?_ (F.args_tuple_iterator_next_1 _)))
  show wpAny _ _ (field (.ref it) 0 >>= _) _ _ s
  refine wpAny_bind (wpAny_field ho hd (x := .ref l) rfl ?_)
  show wpAny _ _ (if (Value.ref l == Value.none) = true then _ else _) _ _ s
  rw [if_neg (show ¬ ((Value.ref l == Value.none) = true) from Bool.false_ne_true)]
  show wpAny _ _ (field (.ref it) 1 >>= _) _ _ s
  refine wpAny_bind (wpAny_field ho hd (x := .int i 0) rfl ?_)
  show wpAny _ _ (seqItems? (.ref l) >>= _) _ _ s
  refine wpAny_bind (wpAny_seqItems hol hdl ?_)
  simp only [Int.toNat_natCast, hx]
  refine wpAny_bind (wpAny_setField ho hd (by simp) (wpAny_pure ⟨x, rfl, wpAny_pure (hQ _ ?_ (Heap.SameBut.update ..))⟩))
  exact ⟨_, Heap.get?_update_self _ ho (Obj.isFreed_of_fields (Obj.data_mapFields hd _)), (Obj.cls_mapFields ..).trans hc, by
    rw [Obj.data_mapFields hd]; simp [rawInt]⟩

theorem nextOf_tupEnd {it l : Addr} {i : Nat} {items} {Q : Value → Shared → Prop} (hh : A.handled = none)
    (hit : s.heap.IsTupleIter it l i) (hl : s.heap.IsTuple l items) (hx : items[i]? = none)
    (hE : ∀ h' e, Heap.ExtBut it s.heap h' → (∃ o, h'.get? e = some o ∧ o.cls = .type "StopIteration") → E (.ref e) { s with heap := h' }) :
    wpAny (model prog w) A (Builtin.SmallTypes.nextOf (.ref it)) Q E s := by
  obtain ⟨o, ho, hc, hd⟩ := id hit
  obtain ⟨ol, hol, _, nl, hdl⟩ := hl
  unfold Builtin.SmallTypes.nextOf
  refine wpAny_bind (wpAny_callSpecial?_slot (name := Str.ofString "__next__") hit.typeIs F.slot_tuple_iterator_next
    (wpAny_call_entry F.slot_tuple_iterator_next hit.typeIs F.entry_tuple_iterator_next ?_ (F.args_tuple_iterator_next_1 _)))
  show wpAny _ _ (field (.ref it) 0 >>= _) _ _ s
  refine wpAny_bind (wpAny_field ho hd (x := .ref l) rfl ?_)
  show wpAny _ _ (if (Value.ref l == Value.none) = true then _ else _) _ _ s
  rw [if_neg (show ¬ ((Value.ref l == Value.none) = true) from Bool.false_ne_true)]
  show wpAny _ _ (field (.ref it) 1 >>= _) _ _ s
  refine wpAny_bind (wpAny_field ho hd (x := .int i 0) rfl ?_)
  show wpAny _ _ (seqItems? (.ref l) >>= _) _ _ s
  refine wpAny_bind (wpAny_seqItems hol hdl ?_)
  simp only [Int.toNat_natCast, hx]
  refine wpAny_bind (wpAny_rule (wpAny_bind (wpAny_setField ho hd (by simp) ?_)))
  show wpAny _ _ (newExc (.type "StopIteration") [] >>= _) _ _ _
  refine wpAny_bind ?_
  simp only [newExc, newTuple]
  refine wpAny_bind (wpAny_newObj_type ?_ (by size_fits))
  refine wpAny_bind (m := firstArgMember _ _) (wpAny_of_eq (a := Value.none) (by first | rfl | (simp only [firstArgMember]; rfl)) ?_)
  refine wpAny_newObj_type ?_ (by size_fits)
  simp only [raiseNew]
  refine wpAny_bind (wpAny_handled ?_)
  first | rw [show A.in1.handled = none from hh] | rw [hh]
  refine wpAny_bind (wpAny_pure (wpAny_throw ?_))
  exact hE _ _ (((Heap.SameBut.update ..).extBut.push _).push _) ⟨_, Heap.get?_push_size _ rfl, rfl⟩

theorem enum_nextT {e it l : Addr} {i : Nat} {items : Array Value} {x old : Value} {Q : Value → Shared → Prop}
    (he : IsEnum s.heap e it i old) (hit : s.heap.IsTupleIter it l i) (hl : s.heap.IsTuple l items) (hx : items[i]? = some x) (hne : e ≠ it)
    (hQ : ∀ h', IsEnumOut h' e it ((i : Int) + 1) x s.heap.objs.size → h'.IsTupleIter it l (i + 1) →
      h'.get? s.heap.objs.size = some { cls := .type "tuple", data := .seq #[.int i s.toks, x] } → h'.objs.size = s.heap.objs.size + 1 →
      (∀ b o, b ≠ e → b ≠ it → s.heap.get? b = some o → h'.get? b = some o) → Q (.ref s.heap.objs.size) { s with heap := h', toks := s.toks + 1 }) :
    wpAny (model prog w) A (Builtin.«enumerate.__next__» ⟨[.ref e], []⟩) (fun fin s' => ∃ v, fin = .done (.ret v) ∧ Q v s') E s := by
  obtain ⟨hp, g, d, tk, os⟩ := s
  show wpAny _ _ (field (.ref e) 2 >>= _) _ _ _
  refine wpAny_bind (wpAny_field he rfl (x := .ref it) rfl ?_)
  refine wpAny_bind (nextOf_tup hit hl hx fun h₁ hit₁ hs₁ => ?_)
  replace hs₁ : Heap.SameBut it hp h₁ := hs₁
  have he₁ : IsEnum h₁ e it i old := (hs₁.2 e hne).trans he
  show wpAny _ _ (field (.ref e) 3 >>= _) _ _ ⟨h₁, g, d, tk, os⟩
  refine wpAny_bind (wpAny_field he₁ rfl (x := rawInt i) rfl ?_)
  show wpAny _ _ (field (.ref e) 4 >>= _) _ _ ⟨h₁, g, d, tk, os⟩
  refine wpAny_bind (wpAny_field he₁ rfl (x := .none) rfl ?_)
  show wpAny _ _ (mkInt i >>= _) _ _ ⟨h₁, g, d, tk, os⟩
  refine wpAny_bind (wpAny_mkInt ?_)
  show wpAny _ _ (setField (.ref e) 3 (rawInt ((i : Int) + 1)) >>= _) _ _ ⟨h₁, g, d, tk + 1, os⟩
  refine wpAny_bind (wpAny_setField_rec he₁ (by simp) fun h₂ he₂ hs₂ => ?_)
  replace hs₂ : Heap.SameBut e h₁ h₂ := hs₂
  replace he₂ : IsEnum h₂ e it ((i : Int) + 1) old := he₂
  show wpAny _ _ (setField (.ref e) 4 .none >>= _) _ _ ⟨h₂, g, d, tk + 1, os⟩
  refine wpAny_bind (wpAny_setField_rec he₂ (by simp) fun h₃ he₃ hs₃ => ?_)
  replace hs₃ : Heap.SameBut e h₂ h₃ := hs₃
  replace he₃ : IsEnum h₃ e it ((i : Int) + 1) old := he₃
  show wpAny _ _ (newTuple [.int i tk, x] >>= _) _ _ ⟨h₃, g, d, tk + 1, os⟩
  refine wpAny_bind (wpAny_newTuple ?_)
  have he₄ : IsEnum (h₃.push { cls := .type "tuple", data := .seq #[.int i tk, x] }) e it ((i : Int) + 1) old := Heap.get?_push_of_some _ he₃
  generalize hh₄ : h₃.push { cls := .type "tuple", data := .seq #[.int i tk, x] } = h₄ at he₄
  have hsz : h₃.objs.size = hp.objs.size := by rw [hs₃.1, hs₂.1, hs₁.1]
  have hel : e < hp.objs.size := Heap.lt_size he
  have ht₄ : h₄.get? hp.objs.size = some { cls := .type "tuple", data := .seq #[.int i tk, x] } := by rw [← hh₄, ← hsz]; exact Heap.get?_push_size _ rfl
  have hz₄ : h₄.objs.size = hp.objs.size + 1 := by rw [← hh₄, Heap.size_push, hsz]
  have hk₄ : ∀ b o, b ≠ e → b ≠ it → hp.get? b = some o → h₄.get? b = some o := fun b o hbe hbi hb => by
    rw [← hh₄]; exact Heap.get?_push_of_some _ (hs₃.extBut b o hbe (hs₂.extBut b o hbe (hs₁.extBut b o hbi hb)))
  have hit₄ : h₄.IsTupleIter it l (i + 1) := by
    rw [← hh₄]; obtain ⟨o, ho, r⟩ := (hit₁.extBut hs₂.extBut (Ne.symm hne)).extBut hs₃.extBut (Ne.symm hne); exact ⟨o, Heap.get?_push_of_some _ ho, r⟩
  show wpAny _ _ (Builtin.SmallTypes.ownedTupleIsFree (.ref e) >>= _) _ _ ⟨h₄, g, d, tk + 1, os⟩
  rw [hsz]
  clear hh₄ he₃ hs₃ he₂ hs₂ he₁ hs₁ hit₁ hsz h₃ h₂ h₁
  refine wpAny_bind ?_
  · unfold Builtin.SmallTypes.ownedTupleIsFree
    refine wpAny_bind (wpAny_field he₄ rfl (x := .none) rfl (wpAny_pure ?_))
    simp only [if_true]
    refine wpAny_bind (wpAny_rule ?_)
    refine wpAny_bind (wpAny_field he₄ rfl (x := old) rfl ?_)
    refine wpAny_bind (wpAny_setField_rec he₄ (by simp) fun h₅ he₅ hs₅ => ?_)
    replace hs₅ : Heap.SameBut e h₄ h₅ := hs₅
    replace he₅ : IsEnum h₅ e it ((i : Int) + 1) x := he₅
    show wpAny _ _ (Builtin.SmallTypes.ownedTupleHandOut (.ref e) (.ref hp.objs.size) >>= _) _ _ ⟨h₅, g, d, tk + 1, os⟩
    refine wpAny_bind ?_
    · unfold Builtin.SmallTypes.ownedTupleHandOut
      refine wpAny_bind (wpAny_setField_rec he₅ (by simp) fun h₆ he₆ hs₆ => ?_)
      replace hs₆ : Heap.SameBut e h₅ h₆ := hs₆
      replace he₆ : IsEnumOut h₆ e it ((i : Int) + 1) x hp.objs.size := he₆
      refine wpAny_setField_rec he₆ (by simp) fun h₇ he₇ hs₇ => ?_
      replace hs₇ : Heap.SameBut e h₆ h₇ := hs₇
      replace he₇ : IsEnumOut h₇ e it ((i : Int) + 1) x hp.objs.size := he₇
      refine wpAny_bind (wpAny_letGo (wpAny_pure ⟨_, rfl, hQ h₇ he₇ ?_ ?_ ?_ ?_⟩))
      · exact ((hit₄.extBut hs₅.extBut (Ne.symm hne)).extBut hs₆.extBut (Ne.symm hne)).extBut hs₇.extBut (Ne.symm hne)
      · exact hs₇.extBut _ _ (Nat.ne_of_gt hel) (hs₆.extBut _ _ (Nat.ne_of_gt hel) (hs₅.extBut _ _ (Nat.ne_of_gt hel) ht₄))
      · rw [hs₇.1, hs₆.1, hs₅.1, hz₄]
      · exact fun b o hbe hbi hb => hs₇.extBut b o hbe (hs₆.extBut b o hbe (hs₅.extBut b o hbe (hk₄ b o hbe hbi hb)))

theorem enum_itemT {e it l : Addr} {i : Nat} {items : Array Value} {x old : Value} {Q : Option Value → Shared → Prop}
    (he : IsEnum s.heap e it i old) (hit : s.heap.IsTupleIter it l i) (hl : s.heap.IsTuple l items) (hx : items[i]? = some x) (hne : e ≠ it)
    (hQ : ∀ h', IsEnumOut h' e it ((i : Int) + 1) x s.heap.objs.size → h'.IsTupleIter it l (i + 1) →
      h'.get? s.heap.objs.size = some { cls := .type "tuple", data := .seq #[.int i s.toks, x] } → h'.objs.size = s.heap.objs.size + 1 →
      (∀ b o, b ≠ e → b ≠ it → s.heap.get? b = some o → h'.get? b = some o) → Q (some (.ref s.heap.objs.size)) { s with heap := h', toks := s.toks + 1 }) :
    wpAny (model prog w) A (pyNext (.ref e)) Q E s := by
  have hT : s.TypeIs (.ref e) "enumerate" := ⟨_, he, rfl⟩
  unfold pyNext
  exact wpAny_bind (wpAny_attempt (wpAny_callSpecial?_slot (name := Str.ofString "__next__") hT F.slot_enumerate_next
    (wpAny_call_entry F.slot_enumerate_next hT F.entry_enumerate_next
      (enum_nextT he hit hl hx hne fun h' a b c d k => wpAny_pure (hQ h' a b c d k)) (F.args_enumerate_next_1 _))))

theorem enum_endT {e it l : Addr} {i : Nat} {items : Array Value} {old : Value} {Q : Option Value → Shared → Prop} (hh : A.handled = none)
    (he : IsEnum s.heap e it i old) (hit : s.heap.IsTupleIter it l i) (hl : s.heap.IsTuple l items) (hx : items[i]? = none)
    (hQ : ∀ h', Heap.ExtBut it s.heap h' → Q none { s with heap := h' }) : wpAny (model prog w) A (pyNext (.ref e)) Q E s := by
  have hT : s.TypeIs (.ref e) "enumerate" := ⟨_, he, rfl⟩
  unfold pyNext
  refine wpAny_bind (wpAny_attempt (wpAny_callSpecial?_slot (name := Str.ofString "__next__") hT F.slot_enumerate_next
    (wpAny_call_entry F.slot_enumerate_next hT F.entry_enumerate_next ?_ (F.args_enumerate_next_1 _))))
  show wpAny _ _ (field (.ref e) 2 >>= _) _ _ _
  refine wpAny_bind (wpAny_field he rfl (x := .ref it) rfl ?_)
  refine wpAny_bind (nextOf_tupEnd hh hit hl hx fun h' x he' hx' => ?_)
  obtain ⟨o, ho, hc⟩ := hx'
  refine wpAny_bind (wpAny_isInstance (T := "StopIteration") (b := true) ⟨o, ho, hc⟩ isSubtype_stop ?_)
  exact wpAny_pure (hQ _ he')
end
def IteT (K : PySem.W.Frag) (a : Addr) : It :=
  ⟨fun i H => ∃ (xs : List V) (x : V), SqT K H a xs ∧ xs[i]? = some x, fun i H v H' => ∃ T x, v = .ref T ∧ H T = none ∧ H' = upd H T (.tup [.int (i : Nat), x]) ∧ ∀ xs, SqT K H a xs → xs[i]? = some x, fun i H => ∃ xs : List V, SqT K H a xs ∧ xs.length ≤ i⟩
theorem turn_enumT {P : Program} {w : World} {K : PySem.W.Frag} {elts : List Expr} {kk : Nat} {tpos : Pos} (a e it : Addr) :
    Turn P w K (.Tuple elts kk tpos) (IteT K a) [e, it] e (fun i h => (∃ old, IsEnum h e it ((i : Nat) : Int) old) ∧ h.IsTupleIter it a i ∧ e ≠ it) where
  mem := by simp
  obj := fun i h st b hb => by
    obtain ⟨⟨old, he⟩, ⟨o, ho, hc, hd⟩, _⟩ := st
    have e' : b = e ∨ b = it := by simpa using hb
    rcases e' with z | z
    · rw [z]; exact ⟨_, he, fun v q => nomatch q⟩
    · rw [z]; exact ⟨o, ho, fun v q => by rw [hd] at q; cases q⟩
  keep := fun i h h' st k => let ⟨⟨old, he⟩, hi, hne⟩ := st; ⟨⟨old, k e (by simp) _ he⟩, hi.at fun o q => k it (by simp) o q, hne⟩
  item := by
    intro X hP hw hK hc i pins s σ H E I hf st hg
    subst hP hw hK
    obtain ⟨⟨old, he⟩, hit, hne⟩ := st
    obtain ⟨xs, x, hq, hx⟩ := hg
    obtain ⟨its, rv, p, hz⟩ := I.tuple hq
    obtain ⟨u, hu, ru⟩ := rv.get hx
    have hel : e < s.heap.objs.size := Heap.lt_size he
    have hil : it < s.heap.objs.size := by obtain ⟨_, q, _⟩ := hit; exact Heap.lt_size q
    refine enum_itemT he hit (show Heap.IsTuple _ _ _ from p) (x := u) (by simpa using hu) hne fun h' ho hit' hT hsz hk => ?_
    refine ⟨_, rfl, wpAny_letOwnedTupleGo_enum (s := { s with heap := h', toks := s.toks + 1 }) ho fun h'' he' sb => ?_⟩
    have hT2 : h''.get? s.heap.objs.size = some { cls := .type "tuple", data := .seq #[.int i s.toks, u] } := (sb.2 _ (Nat.ne_of_gt hel)).trans hT
    have new : ObjOk X.prog X.w (upd H s.heap.objs.size (.tup [.int (i : Nat), x])) h'' s.heap.objs.size (.tup [.int (i : Nat), x]) :=
      ⟨by show 2 ≤ sizeLine; decide, [.int i s.toks, u], .cons ⟨_, rfl⟩ (.cons ru .nil), ⟨_, hT2, rfl, _, rfl⟩⟩
    have I1 : Inv X pins σ (upd H s.heap.objs.size (.tup [.int (i : Nat), x])) { s with heap := h'', toks := s.toks + 1 } :=
      I.turnedNew (ch := [e, it]) (fun b ob hb q => (sb.2 b (fun z => hb (by simp [z]))).trans (hk b ob (fun z => hb (by simp [z])) (fun z => hb (by simp [z])) q)) hf (Nat.le_refl _) new
    refine ⟨.ref s.heap.objs.size, _, I1, rfl, ⟨_, x, rfl, I.hok.fresh (Nat.le_refl _), rfl, fun ys hy => by rw [I.tuple_inj hy hq]; exact hx⟩, ⟨⟨u, ?_⟩, hit'.at fun o q => (sb.2 it (Ne.symm hne)).trans q, hne⟩, fun b hb => ?_⟩
    · have e1 : ((i + 1 : Nat) : Int) = (i : Int) + 1 := by omega
      rw [e1]; exact he'
    · have hb' : b < s.heap.objs.size := by
        have e' : b = e ∨ b = it := by simpa using hb
        rcases e' with z | z
        · rw [z]; exact hel
        · rw [z]; exact hil
      rw [upd_ne (Nat.ne_of_lt hb')]
      exact (hf b hb).1
  done := by
    intro X hP hw hK hc i pins s σ H E I hf st hg
    subst hP hw hK
    obtain ⟨⟨old, he⟩, hit, hne⟩ := st
    obtain ⟨xs, hq, hx⟩ := hg
    obtain ⟨its, rv, p, hz⟩ := I.tuple hq
    obtain ⟨f0, f1, f2, f3, f4, f5⟩ := hf it (by simp)
    have hl := rv.length
    exact enum_endT (I.ok.hd hc) he hit (show Heap.IsTuple _ _ _ from p) (by simp; omega) fun h' eb => ⟨rfl, I.turned (t' := s.toks) (fun b o hb q => eb b o hb q) f0 f1 f3 f4 f5⟩
  self := fun A i s Q E st h => let ⟨⟨_, he⟩, _⟩ := st; wpAny_pyIter_enum he h
def iEnumT (K : PySem.W.Frag) (ta : TA) : TI := fun σ H R => ta σ H fun vs H1 => ∃ a xs, vs = [.ref a] ∧ SqT K H1 a xs ∧ R (IteT K a) H1
theorem pi_enumT {X : Cx} {e : Expr} {ta : TA} {p pos tpos : Pos} {elts : List Expr} {kk : Nat} (hg : Gl X "enumerate") (hm : X.mg "enumerate" = none) (ha : PA X [e] ta) (hs : starEach [e] X.env = [(false, eval e X.env)] := by rfl) :
    PI X (.Tuple elts kk tpos) (.Call (.Name "enumerate" p) [e] [] pos) (iEnumT X.K ta) := by
  refine ⟨fun pins s σ H R I h => ?_⟩
  refine Call_ (ld_blt I hg hm boot_enumerate (PyProof.Rows.callWith_type1 (thn (ha.run pos pins s σ H _ I h) fun us s1 ⟨vs, H1, I1, r1, q1⟩ => ?_) hs rfl))
  obtain ⟨a, xs, ex, hq, q⟩ := q1
  subst ex
  cases r1 with
  | cons r rr =>
    cases rr
    cases r
    obtain ⟨its, rv, p', hz⟩ := I1.tuple hq
    refine enum_callT (show Heap.IsTuple _ _ _ from p') fun h' he hit hsz hk => wpAny_pyIter_enum he ?_
    have I2 : Inv X pins σ H1 { s1 with heap := h' } := I1.kept (t' := s1.toks) hk
    refine ⟨s1.heap.objs.size + 1, [s1.heap.objs.size + 1, s1.heap.objs.size], _, _, H1, rfl, I2, turn_enumT a (s1.heap.objs.size + 1) s1.heap.objs.size, ⟨⟨.none, he⟩, hit, Nat.succ_ne_self _⟩, fun b hb => ?_, q⟩
    have e' : b = s1.heap.objs.size + 1 ∨ b = s1.heap.objs.size := by simpa using hb
    have hle : s1.heap.objs.size ≤ b := by
      rcases e' with z | z
      · rw [z]; exact Nat.le_add_right _ _
      · rw [z]; exact Nat.le_refl _
    exact I1.fpOk hle (I1.hok.fresh hle)
end GE

namespace GX
open PySem PySem.Spec PyProof.Rows L2 GxR GenW
/-! ### small rules -/
def genOkB (N : List Str) (sc scope : Scope) (own : List (Str × Nat)) : Bool :=
  decide (scope.kind = .function) && (decide (scope.isCoroutine = false) && (scope.names.all (fun y => decide (scope.names.lookup y.1 = some y.2)) && (scope.names.all (fun y => decide (y.2 ≠ .cell)) && (decide (scope.names.lookup (".0" : Str) = some NameKind.local) &&
    (own.all (fun p => decide (N[p.2]? = some p.1)) && (scope.names.all (fun y => decide (y.2 ≠ .free) || (decide (sc.names.lookup y.1 = some .cell) || decide (sc.names.lookup y.1 = some .free))) && scope.names.all (fun y => decide (y.2 ≠ .local) || (decide (y.1 ∈ own.map (·.1)) || decide (y.1 ∉ N)))))))))
theorem genOk_by {N : List Str} {sc scope : Scope} {own : List (Str × Nat)} (h : genOkB N sc scope own = true) : GenOk N sc scope own := by
  unfold genOkB at h
  simp only [Bool.and_eq_true, List.all_eq_true, decide_eq_true_eq, Bool.or_eq_true] at h
  obtain ⟨h1, h2, h3, h4, h5, h6, h7, h8⟩ := h
  exact ⟨h1, h2, h3, h4, h5, h6, fun y hy e => (h7 y hy).elim (fun z => absurd e z) id, fun y hy e => (h8 y hy).elim (fun z => absurd e z) id⟩
theorem okT {CX : CXT} {P : Program} {w : World} {K : PySem.W.Frag} {mg : Str → Option Value} {base : Heap} {x qual : Str} {params : Arguments} {body : List Stmt} {scope : Scope} {dvs : List V} {kws : List (Str × V)} {f c : Addr} {fd : FuncData} {N ps : List Str} {k : Nat} {sp : Sp}
    (F : FunD K x qual params body scope dvs kws f fd) (hc : fd.code = .ref c) (S : FnScope N ps scope) (len : ∀ vs H Q E, sp vs H Q E → vs.length = ps.length)
    (hbody : ∀ (A : Around) (outer : List Env) (s : Shared) (H : Hp) (vs : List V) (Q : VK) (E : XK), Room k (A.deeper (envOfC qual scope s.heap.objs.size f (.ref c))) → sp vs H Q E →
      ∃ t, PSs (cxOf CX P w K mg base N qual scope f (.ref c) A outer s H E) body t ∧ t { nx := fun _ H' => Q .non H', rt := Q } (start N vs) H) : FnOk P w K mg base CX (k + 1) f fd ps sp := by
  obtain ⟨oc, od, dV, kV, doc, pm, an, cdv, ct, osl, rfl, lk, hcd, _, _⟩ := F.ex
  have e : cdv = .ref c := hc
  subst e
  exact fn_of lk hcd S len fun A outer s H vs Q E hr hsp => hbody A outer s H vs Q E hr hsp
/-- t[lo:hi], the whole of it too -/
def rSlTA (K : PySem.W.Frag) : V → Option Int → Option Int → Hp → VK → Prop := fun x lo hi H Q => ∃ a xs, x = .ref a ∧ SqT K H a xs ∧
  ((HT.sIx xs.length 0 lo = 0 ∧ HT.sIx xs.length xs.length hi = xs.length) → Q (.ref a) H) ∧ (¬ (HT.sIx xs.length 0 lo = 0 ∧ HT.sIx xs.length xs.length hi = xs.length) → ∀ p, H p = none → Q (.ref p) (upd H p (.tup (cutV xs lo hi))))
section
variable {prog : Program} {w : World} {A : Around} {E : Value → Shared → Prop} {s : Shared}
open HT in
theorem tup_whole {t sl : Addr} {items : Array Value} {vl vu : Value} {lo hi : Option Int} {Q : Value → Shared → Prop} (ht : IsTup s.heap t items) (hs : s.heap.IsSliceOf sl vl vu .none) (pl : IsPart vl lo) (pu : IsPart vu hi)
    (hw : sIx items.size 0 lo = 0 ∧ sIx items.size items.size hi = items.size) (h : Q (.ref t) s) : wpAny (model prog w) A (getItem (.ref t) (.ref sl)) Q E s := by
  obtain ⟨os, hos, hcs, hds⟩ := id hs
  have hTs : s.TypeIs (.ref sl) "slice" := ⟨os, hos, hcs⟩
  unfold getItem
  try with_reducible refine wpAny_holding ?_
  first | refine wpAny_bind (wpAny_pure ?_) | skip
  refine wpAny_bind (wpAny_sequenceKey ht.typeIs (by decide) ?_)
  refine wpAny_bind (wpAny_callSpecial?_slot (name := Str.ofString "__getitem__") ht.typeIs PyProof.Rows.slot_tuple_getitem
    (wpAny_call_entry PyProof.Rows.slot_tuple_getitem ht.typeIs entry_tuple_getitem ?_ (args_tuple_getitem _ _)))
  show wpAny _ _ (Builtin.Tuple.tupleItemsOf (.ref t) >>= _) _ _ s
  refine wpAny_bind (tupleItemsOf_ ht ?_)
  refine wpAny_bind (wpAny_typeOf hTs ?_)
  rw [if_pos (by decide)]
  refine wpAny_bind (sliceApplied_gen hs pl pu ?_)
  have hyes : ((((sIx items.size 0 lo : Nat) : Int) == 0 && (1 : Int) == 1 && (sIx items.size items.size hi - sIx items.size 0 lo) == items.size) = true) := by
    rw [hw.1, hw.2]
    simp
  show wpAny _ _ (if (((sIx items.size 0 lo : Nat) : Int) == 0 && (1 : Int) == 1 && (sIx items.size items.size hi - sIx items.size 0 lo) == items.size) = true then _ else _) _ _ s
  rw [if_pos hyes]
  obtain ⟨ot, hot, hct, nt, hdt⟩ := id ht
  refine wpAny_bind ?_
  unfold Builtin.Tuple.tupleIsExact
  refine wpAny_bind (wpAny_typeOf ht.typeIs (wpAny_pure ?_))
  rw [if_pos (by decide)]
  exact wpAny_bind (wpAny_rule (wpAny_pure ⟨_, rfl, wpAny_pure h⟩))
end
theorem sl_tupA {X : Cx} : SlR X (rSlTA X.K) := by
  intro pins s σ H x v vl vu lo hi sl Q I rx hs pl pu h
  obtain ⟨a, xs, rfl, hx, q1, q2⟩ := h
  by_cases hw : HT.sIx xs.length 0 lo = 0 ∧ HT.sIx xs.length xs.length hi = xs.length
  · cases rx
    obtain ⟨its, r, ht, hz⟩ := I.tuple hx
    have hlen : its.toArray.size = xs.length := by rw [List.size_toArray]; exact r.length.symm
    refine ⟨"tuple", _, PyProof.Rows.slot_tuple_getitem.lookup, ht.typeIs, ?_⟩
    exact tup_whole ht hs pl pu (by rw [hlen]; exact hw) ⟨.ref a, H, I, rfl, q1 hw⟩
  · exact sl_tup pins s σ H (.ref a) v vl vu lo hi sl Q I rx hs pl pu ⟨a, xs, rfl, hx, hw, q2 hw⟩
end GX
/-! ### data over the heap -/
namespace GD
open GX
open PySem PySem.Spec PyProof.Rows L2 GxR
/-- what stood stands: tuples, the script, tables grown, lists but for those at ex -/
structure Ext (ex : List Addr) (H H' : Hp) : Prop where
  tup : ∀ b xs, H b = some (.tup xs) → H' b = some (.tup xs)
  frz : ∀ b o u, H b = some (.frz o u) → H' b = some (.frz o u)
  tbl : ∀ b ps, H b = some (.tbl ps) → TriplesOk ps.toList → ∃ ps', H' b = some (.tbl ps') ∧ TriplesOk ps'.toList
  lst : ∀ b xs, b ∉ ex → H b = some (.lst xs) → H' b = some (.lst xs)
  oth : ∀ b u, b ∉ ex → (∀ ps, u ≠ .tbl ps) → H b = some u → H' b = some u
  dom : ∀ b, H' b = none → H b = none
section
variable {ex ex' : List Addr} {H H1 H2 : Hp} {p D : Addr} {o : HO} {xs ys : List V}
theorem Ext.refl : Ext ex H H := ⟨fun _ _ e => e, fun _ _ _ e => e, fun _ ps e t => ⟨ps, e, t⟩, fun _ _ _ e => e, fun _ _ _ _ e => e, fun _ e => e⟩
theorem Ext.trans (a : Ext ex H H1) (b : Ext ex H1 H2) : Ext ex H H2 :=
  ⟨fun c xs e => b.tup c xs (a.tup c xs e), fun c o u e => b.frz c o u (a.frz c o u e), fun c ps e t => let ⟨ps', e', t'⟩ := a.tbl c ps e t; b.tbl c ps' e' t', fun c xs n e => b.lst c xs n (a.lst c xs n e), fun c u n t e => b.oth c u n t (a.oth c u n t e), fun c e => a.dom c (b.dom c e)⟩
theorem Ext.mono (a : Ext ex H H1) (h : ∀ b ∈ ex, b ∈ ex') : Ext ex' H H1 := ⟨a.tup, a.frz, a.tbl, fun b xs n e => a.lst b xs (fun z => n (h b z)) e, fun b u n t e => a.oth b u (fun z => n (h b z)) t e, a.dom⟩
theorem Ext.any (a : Ext [] H H1) : Ext ex H H1 := a.mono fun b hb => absurd hb (by simp)
theorem Ext.new (h : H p = none) : Ext ex H (upd H p o) where
  tup := fun b xs e => by rw [upd_ne (ne_of_none e h)]; exact e
  frz := fun b u v e => by rw [upd_ne (ne_of_none e h)]; exact e
  tbl := fun b ps e t => ⟨ps, by rw [upd_ne (ne_of_none e h)]; exact e, t⟩
  lst := fun b xs _ e => by rw [upd_ne (ne_of_none e h)]; exact e
  oth := fun b u _ _ e => by rw [upd_ne (ne_of_none e h)]; exact e
  dom := fun b e => by
    by_cases hb : b = p
    · rw [hb, upd_same] at e; cases e
    · rw [upd_ne hb] at e; exact e
theorem Ext.wr (hD : D ∈ ex) (h : H D = some (.lst xs)) : Ext ex H (upd H D (.lst ys)) where
  tup := fun b xs e => by rw [upd_ne (ne_of e h (by intro z; cases z))]; exact e
  frz := fun b u v e => by rw [upd_ne (ne_of e h (by intro z; cases z))]; exact e
  tbl := fun b ps e t => ⟨ps, by rw [upd_ne (ne_of e h (by intro z; cases z))]; exact e, t⟩
  lst := fun b xs n e => by rw [upd_ne (fun z => n (by rw [z]; exact hD))]; exact e
  oth := fun b u n _ e => by rw [upd_ne (fun z => n (by rw [z]; exact hD))]; exact e
  dom := fun b e => by
    by_cases hb : b = D
    · rw [hb, upd_same] at e; cases e
    · rw [upd_ne hb] at e; exact e
theorem Ext.tab {P : Addr} (hP : TabG H P) (h : Tabbed P H H1) : Ext ex H H1 := by
  obtain ⟨ps0, e0, t0⟩ := hP
  obtain ⟨⟨ps1, e1, t1⟩, h2⟩ := h
  have nP : ∀ b u, H b = some u → (∀ q, u ≠ .tbl q) → b ≠ P := fun b u e n z => by
    rw [z, e0] at e
    exact n ps0 (Option.some.inj e).symm
  refine ⟨fun b xs e => by rw [h2 b (nP b _ e (fun q z => by cases z))]; exact e, fun b u v e => by rw [h2 b (nP b _ e (fun q z => by cases z))]; exact e, fun b ps e t => ?_, fun b xs _ e => by rw [h2 b (nP b _ e (fun q z => by cases z))]; exact e, fun b u _ n e => by rw [h2 b (nP b _ e n)]; exact e, fun b e => ?_⟩
  · by_cases hb : b = P
    · rw [hb]; exact ⟨ps1, e1, t1⟩
    · exact ⟨ps, by rw [h2 b hb]; exact e, t⟩
  · by_cases hb : b = P
    · rw [hb, e1] at e; cases e
    · rw [h2 b hb] at e; exact e
theorem Ext.tabG {P : Addr} (a : Ext ex H H1) (h : TabG H P) : TabG H1 P := let ⟨ps, e, t⟩ := h; let ⟨ps', e', t'⟩ := a.tbl P ps e t; ⟨ps', e', t'⟩
theorem Ext.sqT {K : PySem.W.Frag} {a : Addr} {xs : List V} (e : Ext ex H H1) (h : SqT K H a xs) : SqT K H1 a xs := by
  rcases h with (h | ⟨o, h⟩) | h
  · exact .inl (.inl (e.tup a xs h))
  · exact .inl (.inr ⟨o, e.frz a o _ h⟩)
  · exact .inr h
theorem sqT_new {K : PySem.W.Frag} : SqT K (upd H p (.tup xs)) p xs := .inl (.inl upd_same)
/-- a list that is read only: frozen or of the written part, or untouched -/
theorem Ext.sqL {K : PySem.W.Frag} {a : Addr} {xs : List V} (e : Ext ex H H1) (n : a ∉ ex) (h : SqL K H a xs) : SqL K H1 a xs := by
  rcases h with (h | ⟨o, h⟩) | h
  · exact .inl (.inl (e.lst a xs n h))
  · exact .inl (.inr ⟨o, e.frz a o _ h⟩)
  · exact .inr h
end
structure Stretch where
  hours : Int
  room : Int
  ds : List Int
structure Barge where
  b : Int
  g : Int
  d : Int
  r : Int
  u : Int
def IsStretch (K : PySem.W.Frag) (H : Hp) (v : V) (s : Stretch) : Prop := ∃ a d, v = .ref a ∧ SqT K H a [.int s.hours, .int s.room, .ref d] ∧ SqT K H d (s.ds.map V.int)
def IsBarge (K : PySem.W.Frag) (H : Hp) (v : V) (b : Barge) : Prop := ∃ a, v = .ref a ∧ SqT K H a [.int b.b, .int b.g, .int b.d, .int b.r, .int b.u]
/-- a tuple of things -/
def IsRows {α : Type} (F : V → α → Prop) (K : PySem.W.Frag) (H : Hp) (v : V) (xs : List α) : Prop := ∃ a vs, v = .ref a ∧ SqT K H a vs ∧ Paired F vs xs
abbrev IsRiver (K : PySem.W.Frag) (H : Hp) (v : V) (rv : List Stretch) : Prop := IsRows (IsStretch K H) K H v rv
abbrev IsBarges (K : PySem.W.Frag) (H : Hp) (v : V) (bs : List Barge) : Prop := IsRows (IsBarge K H) K H v bs
structure Book where
  rv : List Stretch
  bs : List Barge
def IsBook (K : PySem.W.Frag) (H : Hp) (v : V) (k : Book) : Prop := ∃ a r b, v = .ref a ∧ SqT K H a [r, b] ∧ IsRiver K H r k.rv ∧ IsBarges K H b k.bs
structure Stretch.Ok (s : Stretch) : Prop where
  h1 : 1 ≤ s.hours
  h9 : s.hours ≤ 9
  r1 : 1 ≤ s.room
  r9 : s.room ≤ 9
  d1 : 1 ≤ s.ds.length
  d24 : s.ds.length ≤ 24
  ds : ∀ d ∈ s.ds, 0 ≤ d ∧ d ≤ 99
structure Barge.Ok (n : Nat) (b : Barge) : Prop where
  b0 : 0 ≤ b.b
  bg : b.b < b.g
  gn : b.g ≤ (n : Int)
  d1 : 1 ≤ b.d
  d99 : b.d ≤ 99
  r0 : 0 ≤ b.r
  r99 : b.r ≤ 99
  u0 : 0 ≤ b.u
  u199 : b.u ≤ 199
structure RvOk (rv : List Stretch) : Prop where
  n1 : 1 ≤ rv.length
  n8 : rv.length ≤ 8
  ok : ∀ s ∈ rv, s.Ok
structure Book.Ok (k : Book) : Prop where
  rv : RvOk k.rv
  n7 : k.bs.length ≤ 7
  ok : ∀ b ∈ k.bs, b.Ok k.rv.length
section
variable {ex : List Addr} {H H1 : Hp} {K : PySem.W.Frag} {v : V}
theorem Ext.stretch {s : Stretch} (e : Ext ex H H1) (h : IsStretch K H v s) : IsStretch K H1 v s := let ⟨a, d, z, h1, h2⟩ := h; ⟨a, d, z, e.sqT h1, e.sqT h2⟩
theorem Ext.barge {s : Barge} (e : Ext ex H H1) (h : IsBarge K H v s) : IsBarge K H1 v s := let ⟨a, z, h1⟩ := h; ⟨a, z, e.sqT h1⟩
theorem Ext.river {rv : List Stretch} (e : Ext ex H H1) (h : IsRiver K H v rv) : IsRiver K H1 v rv := let ⟨a, vs, z, h1, h2⟩ := h; ⟨a, vs, z, e.sqT h1, Paired.mapP h2 fun _ _ q => e.stretch q⟩
theorem Ext.barges {bs : List Barge} (e : Ext ex H H1) (h : IsBarges K H v bs) : IsBarges K H1 v bs := let ⟨a, vs, z, h1, h2⟩ := h; ⟨a, vs, z, e.sqT h1, Paired.mapP h2 fun _ _ q => e.barge q⟩
theorem Ext.book {k : Book} (e : Ext ex H H1) (h : IsBook K H v k) : IsBook K H1 v k := let ⟨a, r, b, z, h1, h2, h3⟩ := h; ⟨a, r, b, z, e.sqT h1, e.river h2, e.barges h3⟩
end
/-- the draws' list -/
def DiceAt (H : Hp) (D : Addr) : Prop := ∃ a b : Int, H D = some (.lst [.int a, .int b]) ∧ 0 ≤ a ∧ a < 2147483647 ∧ 0 ≤ b
theorem Ext.dice {H H1 : Hp} {D : Addr} {ex : List Addr} (e : Ext ex H H1) (n : D ∉ ex) (h : DiceAt H D) : DiceAt H1 D := let ⟨a, b, z, r⟩ := h; ⟨a, b, e.lst D _ n z, r⟩
theorem pget {α β : Type} {F : α → β → Prop} : ∀ {xs : List α} {ys : List β} {i : Nat} {x : α}, Paired F xs ys → xs[i]? = some x → ∃ y, ys[i]? = some y ∧ F x y
  | _, _, _, _, .nil, e => by simp at e
  | _, _, 0, _, .cons r _, e => by simp at e; subst e; exact ⟨_, rfl, r⟩
  | _, _, i + 1, x, .cons _ t, e => by
    obtain ⟨u, h1, h2⟩ := pget (i := i) (x := x) t (by simpa using e)
    exact ⟨u, by simpa using h1, h2⟩
theorem pgetR {α β : Type} {F : α → β → Prop} : ∀ {xs : List α} {ys : List β} {i : Nat} {y : β}, Paired F xs ys → ys[i]? = some y → ∃ x, xs[i]? = some x ∧ F x y
  | _, _, _, _, .nil, e => by simp at e
  | _, _, 0, _, .cons r _, e => by simp at e; subst e; exact ⟨_, rfl, r⟩
  | _, _, i + 1, x, .cons _ t, e => by
    obtain ⟨u, h1, h2⟩ := pgetR (i := i) (y := x) t (by simpa using e)
    exact ⟨u, by simpa using h1, h2⟩
theorem plen {α β : Type} {F : α → β → Prop} {xs : List α} {ys : List β} (h : Paired F xs ys) : xs.length = ys.length := Paired.length h
theorem papp {α β : Type} {F : α → β → Prop} : ∀ {xs : List α} {ys : List β} {x : α} {y : β}, Paired F xs ys → F x y → Paired F (xs ++ [x]) (ys ++ [y])
  | _, _, _, _, .nil, h => .cons h .nil
  | _, _, _, _, .cons r t, h => .cons r (papp t h)
theorem ptake {α β : Type} {F : α → β → Prop} : ∀ {xs : List α} {ys : List β} (n : Nat), Paired F xs ys → Paired F (xs.take n) (ys.take n)
  | _, _, 0, _ => .nil
  | _, _, _ + 1, .nil => .nil
  | _, _, n + 1, .cons r t => .cons r (ptake n t)
/-- hours of the first n stretches together -/
def hsum (rv : List Stretch) (n : Nat) : Int := ((rv.take n).map (·.hours)).sum
theorem hsum_zero (rv : List Stretch) : hsum rv 0 = 0 := rfl
theorem hsum_succ {rv : List Stretch} {i : Nat} {s : Stretch} (h : rv[i]? = some s) : hsum rv (i + 1) = hsum rv i + s.hours := by
  unfold hsum
  rw [List.take_add_one, h, List.map_append, List.sum_append]
  simp
theorem hsum_bound {rv : List Stretch} (ok : ∀ s ∈ rv, s.Ok) : ∀ n, 0 ≤ hsum rv n ∧ hsum rv n ≤ 9 * (n : Int)
  | 0 => by rw [hsum_zero]; omega
  | n + 1 => by
    obtain ⟨h1, h2⟩ := hsum_bound ok n
    cases e : rv[n]? with
    | none =>
      have : hsum rv (n + 1) = hsum rv n := by
        unfold hsum
        rw [List.take_add_one, e]
        simp
      rw [this]; omega
    | some s =>
      rw [hsum_succ e]
      have q := ok s (List.mem_of_getElem? e)
      have := q.h1
      have := q.h9
      omega
theorem hsum_len {rv : List Stretch} {n : Nat} (h : rv.length ≤ n) : hsum rv n = hsum rv rv.length := by
  unfold hsum
  rw [List.take_of_length_le h, List.take_of_length_le (Nat.le_refl _)]
theorem same_small {n : Nat} (h : n ≤ 1000) : n ≤ sizeLine := Nat.le_of_lt (small1000 h)
theorem tc1 {v : V} {σ : L2.St} {H : Hp} {R : List V → Hp → Prop} (h : R [v] H) : tCons (tC v) tNil σ H R := h
theorem isi_ib {K : PySem.W.Frag} {H : Hp} {Q : VK} {v : Int} (h : Q (.bl false) H) : rIsi K [.int v, .ty "bool"] H Q := ⟨.int v, .ty "bool", .type "int", .type "bool", false, rfl, .ty _, .base (.int _), kit_ty (by decide +kernel), h⟩
theorem isi_ii {K : PySem.W.Frag} {H : Hp} {Q : VK} {v : Int} (h : Q (.bl true) H) : rIsi K [.int v, .ty "int"] H Q := ⟨.int v, .ty "int", .type "int", .type "int", true, rfl, .ty _, .base (.int _), kit_ty (by decide +kernel), h⟩
theorem isi_tt {K : PySem.W.Frag} {H : Hp} {Q : VK} {a : Addr} {xs : List V} (t : SqT K H a xs) (h : Q (.bl true) H) : rIsi K [.ref a, .ty "tuple"] H Q := by
  rcases t with (t | ⟨o, t⟩) | ⟨o, its, n, e, c, _⟩
  · exact ⟨.ref a, .ty "tuple", .type "tuple", .type "tuple", true, rfl, .ty _, .base (.tup t), kit_ty (by decide +kernel), h⟩
  · exact ⟨.ref a, .ty "tuple", .type "tuple", .type "tuple", true, rfl, .ty _, .fTuple t, kit_ty (by decide +kernel), h⟩
  · exact ⟨.ref a, .ty "tuple", .type "tuple", .type "tuple", true, rfl, .ty _, .kTuple e c, kit_ty (by decide +kernel), h⟩
theorem iteD {c : Prop} [Decidable c] {A B : Prop} (hc : c) (h : A) : if decide c = true then A else B := by
  rw [decide_eq_true hc]
  exact iteT h
theorem iteDn {c : Prop} [Decidable c] {A B : Prop} (hc : ¬ c) (h : B) : if decide c = true then A else B := by
  rw [decide_eq_false hc]
  exact iteF h
/-- the turns of all, over a tuple that stands -/
theorem all_tup {K : PySem.W.Frag} {P a : Addr} {xs : List V} {g : TG} {te : TE} {vs : List Nat} {σ : L2.St} {H1 : Hp} {Q : VK} (hT : TabG H1 P) (Pv : Nat → Hp → Prop) (h0 : ∀ H2, Tabbed P H1 H2 → Pv 0 H2) (hl : ∀ i H, i ≤ xs.length → Pv i H → SqT K H a xs)
    (hs : ∀ i x H, xs[i]? = some x → Pv i H → g x (wipe σ vs) H fun σ2 H2 => wipe σ2 vs = wipe σ vs ∧ te σ2 H2 fun y H4 => ∃ c, y = .bl c ∧ if c = true then Pv (i + 1) H4 else Q (.bl false) H4) (hd : ∀ H, Pv xs.length H → Q (.bl true) H) :
    TabG H1 P ∧ ∀ H2, Tabbed P H1 H2 → ∃ W : Nat → Nat → Hp → Prop, (∃ m, W 0 m H2) ∧ ∀ i m H, W i m H →
      ((Itt K a).stop i H ∧ Q (.bl true) H) ∨ ((Itt K a).go i H ∧ ∃ Nx : Hp → Prop, (∀ H', Nx H' → ∃ m', m' < m ∧ W (i + 1) m' H') ∧ ∀ x H', (Itt K a).yld i H x H' → g x (wipe σ vs) H' fun σ2 H2 => wipe σ2 vs = wipe σ vs ∧ tYes σ2 H2 fun b H3 =>
        if b = true then te σ2 H3 fun y H4 => ∃ c, y = .bl c ∧ if c = true then Nx H4 else Q (.bl false) H4 else Nx H3) := by
  refine ⟨hT, fun H2 hb => ⟨fun i m H => m = xs.length - i ∧ i ≤ xs.length ∧ Pv i H, ⟨xs.length, by simp, Nat.zero_le _, h0 H2 hb⟩, ?_⟩⟩
  rintro i m H ⟨rfl, hi, p⟩
  have q := hl i H hi p
  by_cases hlt : i < xs.length
  · refine .inr ⟨⟨xs, xs[i], q, by simp [hlt]⟩, Pv (i + 1), fun H' p' => ⟨xs.length - (i + 1), by omega, rfl, hlt, p'⟩, fun x H' y => ?_⟩
    obtain ⟨e, y⟩ := y
    subst e
    exact hs i x H' (y xs q) p
  · have e : i = xs.length := by omega
    subst e
    exact .inl ⟨⟨xs, q, Nat.le_refl _⟩, hd H p⟩
theorem map_get {α β : Type} {f : α → β} {xs : List α} {i : Nat} {x : β} (h : (xs.map f)[i]? = some x) : ∃ y, xs[i]? = some y ∧ x = f y := by
  rw [List.getElem?_map] at h
  cases e : xs[i]? with
  | none => rw [e] at h; cases h
  | some y => rw [e] at h; exact ⟨y, rfl, (Option.some.inj h).symm⟩
theorem all_var {K : PySem.W.Frag} {P a : Addr} {xs : List V} {g : TG} {te : TE} {vs : List Nat} {σ : L2.St} {H1 : Hp} {Q : VK} {j : Nat} (hv : σ[j]? = some (some (.ref a))) (ht : SqT K H1 a xs) (hT : TabG H1 P) (Pv : Nat → Hp → Prop) (h0 : ∀ H2, Tabbed P H1 H2 → Pv 0 H2) (hl : ∀ i H, i ≤ xs.length → Pv i H → SqT K H a xs)
    (hs : ∀ i x H, xs[i]? = some x → Pv i H → g x (wipe σ vs) H fun σ2 H2 => wipe σ2 vs = wipe σ vs ∧ te σ2 H2 fun y H4 => ∃ c, y = .bl c ∧ if c = true then Pv (i + 1) H4 else Q (.bl false) H4) (hd : ∀ H, Pv xs.length H → Q (.bl true) H) :
    tAllG P (iTup K (tVar j)) g tYes te vs σ H1 Q := ⟨.ref a, hv, a, rfl, ⟨xs, ht⟩, all_tup hT Pv h0 hl hs hd⟩
theorem tB_ {t : TE} {σ : L2.St} {H : Hp} {Q : Bool → Hp → Prop} (h : t σ H fun x H1 => ∃ c, x = .bl c ∧ Q c H1) : tB t σ H Q := h
theorem tNot_ {t : TT} {σ : L2.St} {H : Hp} {Q : Bool → Hp → Prop} (h : t σ H fun c H1 => Q (!c) H1) : tNot t σ H Q := h
theorem sum_enumT {K : PySem.W.Frag} {P a : Addr} {xs : List V} {g : TG} {tt : TT} {te : TE} {vs : List Nat} {σ : L2.St} {H1 : Hp} {Q : VK} {j : Nat} (hv : σ[j]? = some (some (.ref a))) (ht : SqT K H1 a xs) (hT : TabG H1 P) (Pv : Nat → Int → Hp → Prop) (h0 : ∀ H2, Tabbed P H1 H2 → Pv 0 0 H2) (hl : ∀ i z H, i ≤ xs.length → Pv i z H → SqT K H a xs)
    (hs : ∀ i x z H T, xs[i]? = some x → Pv i z H → H T = none → g (.ref T) (wipe σ vs) (upd H T (.tup [.int (i : Nat), x])) fun σ2 H2 => wipe σ2 vs = wipe σ vs ∧ tt σ2 H2 fun b H3 => if b = true then te σ2 H3 fun y H4 => ∃ v, y = .int v ∧ InLong v ∧ InLong (z + v) ∧ Pv (i + 1) (z + v) H4 else Pv (i + 1) z H3)
    (hd : ∀ z H, Pv xs.length z H → Q (.int z) H) : tSumG P (GE.iEnumT K (tCons (tVar j) tNil)) g tt te vs σ H1 Q := by
  refine ⟨.ref a, hv, a, xs, rfl, ht, hT, fun H2 hb => ⟨fun i m z H => m = xs.length - i ∧ i ≤ xs.length ∧ Pv i z H, ⟨xs.length, by simp, Nat.zero_le _, h0 H2 hb⟩, ?_⟩⟩
  rintro i m z H ⟨rfl, hi, p⟩
  have q := hl i z H hi p
  by_cases hlt : i < xs.length
  · refine .inr ⟨⟨xs, xs[i], q, by simp [hlt]⟩, fun z' H' => Pv (i + 1) z' H', fun z' H' p' => ⟨xs.length - (i + 1), by omega, rfl, hlt, p'⟩, fun x H' y => ?_⟩
    obtain ⟨T, x', rfl, hn, rfl, hx⟩ := y
    exact hs i x' z H T (hx xs q) p hn
  · have e : i = xs.length := by omega
    subst e
    exact .inl ⟨⟨xs, q, Nat.le_refl _⟩, hd z H p⟩
/-- how deep a stretch is at a time -/
def depthAt (s : Stretch) (t : Int) : Int := s.ds.getD (t % (s.ds.length : Int)).toNat 0
theorem fmod_place {t : Int} {n : Nat} (h : 0 < n) : t.fmod (n : Int) = (((t % (n : Int)).toNat : Nat) : Int) ∧ (t % (n : Int)).toNat < n := by
  have h1 : 0 ≤ t % (n : Int) := Int.emod_nonneg t (by omega)
  have h2 : t % (n : Int) < (n : Int) := Int.emod_lt_of_pos t (by omega)
  rw [Int.fmod_eq_emod_of_nonneg t (by omega)]
  omega
theorem depth_item {s : Stretch} {t : Int} (h : 0 < s.ds.length) : atI (s.ds.map V.int) (t.fmod ((s.ds.map V.int).length : Int)) = some (.int (depthAt s t)) := by
  rw [List.length_map, (fmod_place (t := t) h).1]
  refine atI_nat ?_
  rw [List.getElem?_map, List.getElem?_eq_getElem (fmod_place (t := t) h).2]
  unfold depthAt
  rw [List.getD_eq_getElem?_getD, List.getElem?_eq_getElem (fmod_place (t := t) h).2]
  rfl
theorem inLong_small {v : Int} (h1 : -1000000 ≤ v) (h2 : v ≤ 1000000) : InLong v := by
  unfold InLong
  omega
theorem ixK {X : Cx} (K : PySem.W.Frag) (h : X.K = K) : IxR X (rIx K) := by
  subst h
  exact ix_seq
theorem lenK {X : Cx} (K : PySem.W.Frag) (h : X.K = K) : CallR X (.builtin "len") (fun xs H Q => ∃ p ys, xs = [.ref p] ∧ (SqL K H p ys ∨ SqT K H p ys) ∧ Q (.int ys.length) H) := by
  subst h
  exact call_len_seq
theorem isiK {X : Cx} (K : PySem.W.Frag) (h : X.K = K) : CallR X (.builtin "isinstance") (rIsi K) := by
  subst h
  exact call_isi
theorem slK {X : Cx} (K : PySem.W.Frag) (h : X.K = K) : SlR X (rSlTA K) := by
  subst h
  exact GX.sl_tupA
theorem Ext.wrNew {ex : List Addr} {H H1 : Hp} {D : Addr} {o : HO} (e : Ext ex H H1) (h : H D = none) : Ext ex H (upd H1 D o) where
  tup := fun b xs z => by rw [upd_ne (ne_of_none z h)]; exact e.tup b xs z
  frz := fun b u v z => by rw [upd_ne (ne_of_none z h)]; exact e.frz b u v z
  tbl := fun b ps z t => by rw [upd_ne (ne_of_none z h)]; exact e.tbl b ps z t
  lst := fun b xs n z => by rw [upd_ne (ne_of_none z h)]; exact e.lst b xs n z
  oth := fun b u n t z => by rw [upd_ne (ne_of_none z h)]; exact e.oth b u n t z
  dom := fun b z => by
    by_cases hb : b = D
    · rw [hb, upd_same] at z; cases z
    · rw [upd_ne hb] at z; exact e.dom b z
theorem pick2 {x y sl : Int} (h : sl = 0 ∨ sl = 1) : ∃ z, atI [V.int x, V.int y] sl = some (.int z) ∧ (z = x ∨ z = y) := by
  rcases h with rfl | rfl
  · exact ⟨x, atI_nat (j := 0) rfl, .inl rfl⟩
  · exact ⟨y, atI_nat (j := 1) rfl, .inr rfl⟩
theorem b01 (b : Bool) : (if b = true then (1 : Int) else 0) = 0 ∨ (if b = true then (1 : Int) else 0) = 1 := by
  cases b
  · exact .inl rfl
  · exact .inr rfl
theorem cut_take (xs : List V) (p : Nat) : cutV xs none (some (p : Int)) = xs.take p := by
  unfold cutV
  rw [HT.sIx_none, HT.sIx_nat, List.drop_zero, Nat.sub_zero]
  by_cases h : p ≤ xs.length
  · rw [Nat.min_eq_left h]
  · rw [Nat.min_eq_right (by omega), List.take_of_length_le (Nat.le_refl _), List.take_of_length_le (by omega)]
theorem whole_take {xs : List V} {p : Nat} (h : HT.sIx xs.length 0 none = 0 ∧ HT.sIx xs.length xs.length (some (p : Int)) = xs.length) : xs.take p = xs := by
  obtain ⟨_, h2⟩ := h
  rw [HT.sIx_nat] at h2
  exact List.take_of_length_le (by omega)
theorem yesT {σ : L2.St} {H : Hp} {F G : Hp → Prop} (h : F H) : tYes σ H (fun b H3 => if b = true then F H3 else G H3) := by
  show if true = true then F H else G H
  rw [if_pos rfl]
  exact h
end GD

/-! set comprehensions of ints -/
namespace GS
open PySem PySem.Spec PyProof.Rows L2 PpSet
section
variable {X : Cx}
theorem addI_ok {pins : List (Addr × Obj)} {σ : L2.St} {H : Hp} {s : Shared} {E : Value → Shared → Prop} {D : Addr} {S : Int → Bool} {n : Nat} {y : Int} {tk : Tok} {Q : Value → Shared → Prop} (I : Inv X pins σ H s) (hD : H D = some (SetO X.w D S n)) (room : n + 1 < scanBound)
    (h : ∀ s', Inv X pins σ (upd H D (SetO X.w D (fun j => S j || decide (j = y)) (if S y = true then n else n + 1))) s' → Q .none s') : wpAny (model X.prog X.w) X.A (call (.builtin "set.add") [.ref D, .int y tk]) Q E s := by
  have R := setO_get I hD
  refine setR_add R room fun h' sb new => ?_
  obtain ⟨o, _, _, _, ho, _⟩ := id new
  exact h _ (I.write (e := D) (t' := s.toks + 1) (by rw [hD]; trivial) (.inl rfl) (fun b u hb hu => (sb.2 b hb).trans hu) ⟨o, ho⟩ (setO_new new))
def tSi (w : World) (wi : TI) (g : TG) (tt : TT) (te : TE) (vs : List Nat) : TE := fun σ H Q => wi σ H fun J H1 => ∀ D, H1 D = none → ∃ W : Nat → Nat → Hp → Prop, (∃ m, W 0 m (upd H1 D (SetO w D (fun _ => false) 0))) ∧ ∀ i m H, W i m H →
  (J.stop i H ∧ Q (.ref D) H) ∨ (J.go i H ∧ ∃ Nx : Hp → Prop, (∀ H', Nx H' → ∃ m', m' < m ∧ W (i + 1) m' H') ∧ ∀ x H', J.yld i H x H' → g x (wipe σ vs) H' fun σ2 H2 => wipe σ2 vs = wipe σ vs ∧ tt σ2 H2 fun b H3 =>
    if b = true then te σ2 H3 fun y H4 => ∃ (c : Int) (S : Int → Bool) (n : Nat), y = .int c ∧ H4 D = some (SetO w D S n) ∧ n + 1 < scanBound ∧ Nx (upd H4 D (SetO w D (fun j => S j || decide (j = c)) (if S c = true then n else n + 1))) else Nx H3)
theorem si_core {pins : List (Addr × Obj)} {s : Shared} {σ : L2.St} {H : Hp} {Q : VK} {elt tg iter : Expr} {ifs : List Expr} {scope : Scope} {own : List (PySem.Str × Nat)} {pos pos' : Pos} {wi : TI} {g : TG} {tt : TT} {te : TE} {use : Option (Value → Sem Unit)} {Qf : Value → Shared → Prop}
    (hc : X.calm = true) (hN : X.N.Nodup) (I : Inv X pins σ H s) (hi : PI X tg iter wi) (ok : BlkOk X.N X.env.scope scope own)
    (hg : ∀ (s : Shared) (H : Hp) (C : Addr) (cl : List (PySem.Str × Addr)) (fp : List Addr), PG (X.blk s H scope (compEnvC scope cl C X.env) fp) tg g) (ht : ∀ (s : Shared) (H : Hp) (C : Addr) (cl : List (PySem.Str × Addr)) (fp : List Addr), PTs (X.blk s H scope (compEnvC scope cl C X.env) fp) ifs tt)
    (he : ∀ (s : Shared) (H : Hp) (C : Addr) (cl : List (PySem.Str × Addr)) (fp : List Addr), PE (X.blk s H scope (compEnvC scope cl C X.env) fp) elt te) (hs : ∀ x, foldedSetIterable iter X.env x = pure x)
    (h : tSi X.w wi g tt te (own.map (·.2)) σ H Q)
    (hRR : ∀ D C s' m H', Inv X pins σ H' s' → Q (.ref D) H' → s'.heap.Ns C m → FpOk X pins H' C → compPost (model X.prog X.w) X.A X.xe use Qf (.ref D) C (.ok .next) s') :
    wpAny (model X.prog X.w) X.A (comprehension (.SetComp elt [⟨tg, iter, ifs, 0⟩] scope pos) scope X.env pos' (newSet (.type "set")) false (eval iter X.env) use) Qf X.xe s := by
  have hfree : ∀ y ∈ scope.names, y.2 = .free → ∃ c, X.env.cells.lookup y.1 = some c := fun y hy e => by
    rcases ok.free y hy e with k | k
    · exact I.ok.has _ (.inl k)
    · exact I.ok.has _ (.inr k)
  refine wpAny_comprehension_free (use := use) rfl hs (closure_ok hfree) ok.kind (fun y hy e => by rw [ok.uniq y hy, e])
    (thn (hi.run pins s σ H _ I h) fun xv s1 hx => thn hx fun itv s2 h2 => ?_)
  obtain ⟨it, fp, tn, J, H2, e, I2, T, st2, f2, q⟩ := h2
  subst e
  refine newSet_ok (newEnv_comp ?_)
  generalize hD : s2.heap.objs.size = D
  have hDn : H2 D = none := I2.hok.fresh (Nat.le_of_eq hD)
  obtain ⟨W, ⟨m0, w0⟩, turn⟩ := q D hDn
  -- the new list
  generalize hs3 : ({ s2 with heap := s2.heap.push { cls := .type "set", dict := none, data := .set #[] 0 (.fresh 0 0 (!X.w.params.followText "set-order")) } } : Shared) = s3
  have I3 : Inv X pins σ (upd H2 D (SetO X.w D (fun _ => false) 0)) s3 := by
    rw [← hs3]
    refine I2.laid (t' := s2.toks) (fun b o e => Heap.get?_push_of_some _ e) (Nat.le_of_eq hD) ?_
    rw [← hD]
    exact setO_new (setR_fresh X.w)
  have h3 : s3.heap = s2.heap.push { cls := .type "set", dict := none, data := .set #[] 0 (.fresh 0 0 (!X.w.params.followText "set-order")) } := by rw [← hs3]
  have sz : ∀ b ∈ fp, b < s2.heap.objs.size := fun b hb => by
    obtain ⟨o, e, _⟩ := T.obj _ _ st2 b hb
    exact Heap.lt_size e
  have f3 : ∀ b ∈ fp, FpOk X pins (upd H2 D (SetO X.w D (fun _ => false) 0)) b ∧ b < s3.heap.objs.size := fun b hb => by
    have hlt := sz b hb
    refine ⟨⟨?_, (f2 b hb).2⟩, by rw [h3, Heap.size_push]; exact Nat.lt_succ_of_lt hlt⟩
    rw [upd_ne (by rw [← hD]; exact Nat.ne_of_lt hlt)]
    exact (f2 b hb).1
  have st3 : tn 0 s3.heap := T.keep _ _ _ st2 fun b _ o e => by rw [h3]; exact Heap.get?_push_of_some _ e
  have I4 := block_start I3 ok hN f3
  have pg := hg s3 (upd H2 D (SetO X.w D (fun _ => false) 0)) s3.heap.objs.size (cellsFrom (s3.heap.objs.size + 1) scope.names (cloFrom X.env.cells scope.names [])) fp
  have pt := ht s3 (upd H2 D (SetO X.w D (fun _ => false) 0)) s3.heap.objs.size (cellsFrom (s3.heap.objs.size + 1) scope.names (cloFrom X.env.cells scope.names [])) fp
  have pe := he s3 (upd H2 D (SetO X.w D (fun _ => false) 0)) s3.heap.objs.size (cellsFrom (s3.heap.objs.size + 1) scope.names (cloFrom X.env.cells scope.names [])) fp
  show codeAny _ _ (.compStart (.SetComp elt [⟨tg, iter, ifs, 0⟩] scope pos) 0 (.ref it) (.ref D) (compEnvC scope (cellsFrom (s3.heap.objs.size + 1) scope.names (cloFrom X.env.cells scope.names [])) s3.heap.objs.size X.env)) (compPost (model X.prog X.w) X.A X.xe use Qf (.ref D) s3.heap.objs.size) { s3 with heap := pushCells (s3.heap.push { cls := .type "dict", data := .dict #[] }) scope.names }
  have nfp : ∀ b ∈ fp, (upd H2 D (SetO X.w D (fun _ => false) 0)) b = none := fun b hb => (f3 b hb).1.1
  generalize hce : compEnvC scope (cellsFrom (s3.heap.objs.size + 1) scope.names (cloFrom X.env.cells scope.names [])) s3.heap.objs.size X.env = ce at I4 pg pt pe ⊢
  have cL : ce.locals = s3.heap.objs.size := by subst hce; rfl
  generalize hH3 : upd H2 D (SetO X.w D (fun _ => false) 0) = H3 at I3 I4 pg pt pe w0 nfp f3
  generalize hs4 : ({ s3 with heap := pushCells (s3.heap.push { cls := .type "dict", data := .dict #[] }) scope.names } : Shared) = s4 at I4 ⊢
  have st4 : tn 0 s4.heap := T.keep _ _ _ st3 fun b _ o e => by rw [← hs4]; exact pushCells_keeps _ _ _ _ (Heap.get?_push_of_some _ e)
  have stat : ∀ {σ' : L2.St} {H' : Hp} {s' : Shared}, Inv (X.blk s3 H3 scope ce fp) [] σ' H' s' → (∀ b ∈ fp, H' b = none) → ∀ b ∈ fp, FpOk (X.blk s3 H3 scope ce fp) [] H' b := fun {σ' H' s'} I' hn b hb =>
    ⟨hn b hb, (I'.ok.exf b hb).1, I'.ok.exfs b hb, .inl hb, fun x c e => (I'.ok.exf b hb).2 x c e, fun p hp => absurd (show p ∈ ([] : List (Addr × Obj)) ++ [] from hp) (by simp)⟩
  have loop : codeAny (model X.prog X.w) X.A (.compLoop (.SetComp elt [⟨tg, iter, ifs, 0⟩] scope pos) 0 (.ref it) (.ref D) ce) (compPost (model X.prog X.w) X.A X.xe use Qf (.ref D) s3.heap.objs.size) s4 := by
    refine compLoopS_any (fun n s' => ∃ i H', Inv (X.blk s3 H3 scope ce fp) [] (wipe σ (own.map (·.2))) H' s' ∧ tn i s'.heap ∧ (∀ b ∈ fp, H' b = none) ∧ W i n H') ?_ m0 ⟨0, H3, I4, st4, nfp, w0⟩
    rintro n s5 ⟨i, H5, I5, st5, n5, w5⟩
    rcases turn i n H5 w5 with ⟨stop, qq⟩ | ⟨go, Nx, hNx, step⟩
    · have td := T.done (X.blk s3 H3 scope ce fp) rfl rfl rfl hc i [] s5 _ H5 (fun _ _ => False) I5 (stat I5 n5) st5 stop
      refine thnF td fun r s6 ⟨hr, I6⟩ => ?_
      subst hr
      -- back in the def's context
      have I7 : Inv X pins σ H5 s6 := I3.call' (ch := fp) I6.os I6.base I6.hok I6.bare fun b hb => ⟨(f3 b hb).1.2.2.2.1, (f3 b hb).1.2.1, (f3 b hb).1.2.2.2.2.1, (f3 b hb).1.2.2.2.2.2⟩
      have nC : H5 s3.heap.objs.size = none := by
        have z : H5 ce.locals = none := I6.free
        rw [cL] at z
        exact z
      obtain ⟨m, hn, _⟩ := I6.loc
      have hn : s6.heap.Ns ce.locals m := hn
      rw [cL] at hn
      exact hRR D s3.heap.objs.size s6 m H5 I7 qq hn (I3.fpOk (Nat.le_refl _) nC)
    · have ti := T.item (X.blk s3 H3 scope ce fp) rfl rfl rfl hc i [] s5 _ H5 (fun _ _ => False) I5 (stat I5 n5) st5 go
      refine thnF ti fun r s6 ⟨u, hr, h6⟩ => ?_
      subst hr
      refine thnF h6 fun _ s7 ⟨x, H7, I7, r7, y7, st7, n7⟩ => ?_
      have I7' := I7.pinned (stat I7 n7) (T.obj _ _ st7)
      refine thnF (pg.run _ s7 _ H7 x u _ I7' r7 (step x H7 y7)) fun _ s8 ⟨σ8, H8, I8, hw8, q8⟩ => ?_
      refine thnF (pt.run _ s8 σ8 H8 _ I8 q8) fun b s9 ⟨H9, I9, q9⟩ => ?_
      -- the turn's end
      have fin : ∀ {s' : Shared} {H' : Hp}, Inv (X.blk s3 H3 scope ce fp) ([] ++ pinsAt fp s7.heap) σ8 H' s' → Nx H' → ∃ m, m < n ∧ ∃ i H', Inv (X.blk s3 H3 scope ce fp) [] (wipe σ (own.map (·.2))) H' s' ∧ tn i s'.heap ∧ (∀ b ∈ fp, H' b = none) ∧ W i m H' := fun {s' H'} I' nx => by
        obtain ⟨m', hm, w'⟩ := hNx H' nx
        have pin' : ∀ b ∈ fp, ∀ o, s7.heap.get? b = some o → s'.heap.get? b = some o ∧ H' b = none := fun b hb o e =>
          let z := I'.pin (b, o) (List.mem_append_right _ (List.mem_append_right _ (mem_pinsAt hb e)))
          ⟨z.1, z.2.1⟩
        have hl : (wipe σ (own.map (·.2))).length = σ8.length := by rw [← hw8, wipe_length]
        refine ⟨m', hm, i + 1, H', (I'.unpinned (pins := [])).weak hl (fun j v e => ?_), T.keep _ _ _ st7 fun b hb o e => (pin' b hb o e).1, fun b hb => ?_, w'⟩
        · rw [← hw8] at e
          exact (wipe_some e).1
        · obtain ⟨o, e, _⟩ := T.obj _ _ st7 b hb
          exact (pin' b hb o e).2
      cases b with
      | false =>
        simp only [Bool.false_eq_true, if_false] at q9 ⊢
        exact fin I9 q9
      | true =>
        simp only [if_true] at q9 ⊢
        refine thnF (pe.run _ s9 σ8 H9 _ I9 q9) fun z s10 ⟨yv, H10, I10, r10, cb, S0, n0, ey, hD10, hz10, nx⟩ => ?_
        subst ey
        obtain ⟨tk, rfl⟩ : ∃ tk, z = Value.int cb tk := r10
        exact addI_ok (X := X.blk s3 H3 scope ce fp) I10 hD10 hz10 fun s11 I11 => fin I11 nx
  exact codeAny_compStart_set loop (T.self X.A 0 _ _ _ st4 loop)
theorem pe_si {elt tg iter : Expr} {ifs : List Expr} {scope : Scope} {own : List (PySem.Str × Nat)} {pos : Pos} {wi : TI} {g : TG} {tt : TT} {te : TE} (hc : X.calm = true) (hN : X.N.Nodup) (hi : PI X tg iter wi) (ok : BlkOk X.N X.env.scope scope own)
    (hg : ∀ (s : Shared) (H : Hp) (C : Addr) (cl : List (PySem.Str × Addr)) (fp : List Addr), PG (X.blk s H scope (compEnvC scope cl C X.env) fp) tg g) (ht : ∀ (s : Shared) (H : Hp) (C : Addr) (cl : List (PySem.Str × Addr)) (fp : List Addr), PTs (X.blk s H scope (compEnvC scope cl C X.env) fp) ifs tt)
    (he : ∀ (s : Shared) (H : Hp) (C : Addr) (cl : List (PySem.Str × Addr)) (fp : List Addr), PE (X.blk s H scope (compEnvC scope cl C X.env) fp) elt te) (hs : ∀ x, foldedSetIterable iter X.env x = pure x := by intro _; rfl) :
    PE X (.SetComp elt [⟨tg, iter, ifs, 0⟩] scope pos) (tSi X.w wi g tt te (own.map (·.2))) := by
  refine ⟨fun pins s σ H Q I h => ?_⟩
  rw [eval_SetComp]
  refine si_core hc hN I hi ok hg ht he hs h fun D C s' m H' I' q hn f => ⟨m, hn, fun h'' sb => ?_⟩
  obtain ⟨f0, f1, f2, f3, f4, f5⟩ := f
  exact ⟨.ref D, H', I'.turned (t' := s'.toks) (fun b o hb e => (sb.2 b hb).trans e) f0 f1 f3 f4 f5, rfl, q⟩
end
/-- over a tuple that the block leaves as it is -/
theorem si_tup {w : World} {K : PySem.W.Frag} {a : Addr} {xs : List V} {g : TG} {tt : TT} {te : TE} {vs : List Nat} {σ : L2.St} {H1 : Hp} {D : Addr} {Qd : Hp → Prop} (Pv : Nat → Hp → Prop) (h0 : Pv 0 (upd H1 D (SetO w D (fun _ => false) 0))) (hl : ∀ i H, i ≤ xs.length → Pv i H → SqT K H a xs)
    (hs : ∀ i x H, xs[i]? = some x → Pv i H → g x (wipe σ vs) H fun σ2 H2 => wipe σ2 vs = wipe σ vs ∧ tt σ2 H2 fun b H3 =>
      if b = true then te σ2 H3 fun y H4 => ∃ (c : Int) (S : Int → Bool) (n : Nat), y = .int c ∧ H4 D = some (SetO w D S n) ∧ n + 1 < scanBound ∧ Pv (i + 1) (upd H4 D (SetO w D (fun j => S j || decide (j = c)) (if S c = true then n else n + 1))) else Pv (i + 1) H3) (hd : ∀ H, Pv xs.length H → Qd H) :
    ∃ W : Nat → Nat → Hp → Prop, (∃ m, W 0 m (upd H1 D (SetO w D (fun _ => false) 0))) ∧ ∀ i m H, W i m H →
      ((Itt K a).stop i H ∧ Qd H) ∨ ((Itt K a).go i H ∧ ∃ Nx : Hp → Prop, (∀ H', Nx H' → ∃ m', m' < m ∧ W (i + 1) m' H') ∧ ∀ x H', (Itt K a).yld i H x H' → g x (wipe σ vs) H' fun σ2 H2 => wipe σ2 vs = wipe σ vs ∧ tt σ2 H2 fun b H3 =>
        if b = true then te σ2 H3 fun y H4 => ∃ (c : Int) (S : Int → Bool) (n : Nat), y = .int c ∧ H4 D = some (SetO w D S n) ∧ n + 1 < scanBound ∧ Nx (upd H4 D (SetO w D (fun j => S j || decide (j = c)) (if S c = true then n else n + 1))) else Nx H3) := by
  refine ⟨fun i m H => m = xs.length - i ∧ i ≤ xs.length ∧ Pv i H, ⟨xs.length, by simp, Nat.zero_le _, h0⟩, ?_⟩
  rintro i m H ⟨rfl, hi, p⟩
  have q := hl i H hi p
  by_cases hlt : i < xs.length
  · refine .inr ⟨⟨xs, xs[i], q, by simp [hlt]⟩, Pv (i + 1), fun H' p' => ⟨xs.length - (i + 1), by omega, rfl, hlt, p'⟩, fun x H' y => ?_⟩
    obtain ⟨e, y⟩ := y
    subst e
    exact hs i x _ (y xs q) p
  · have e : i = xs.length := by omega
    subst e
    exact .inl ⟨⟨xs, q, Nat.le_refl _⟩, hd H p⟩
end GS

namespace GT
open PySem PySem.Spec PyProof.Rows L2
open AutoSeq1 (wpAny_loadPart')
theorem mul_one_same (l : Addr) (items : Array Value) (n : Nat) (sl : Array (Option Value)) (dd : Option Addr) (u : Tok) :
    Meets (Builtin.«tuple.__mul__» ⟨[.ref l, .int 1 u], []⟩) (fun _ R s => s.heap.get? l = some { cls := .type "tuple", dict := dd, data := .seq items n, slots := sl } ∧ R (.ok (.ret (Value.ref l))) s) :=
  .of_wp fun prog w A R s h => by
    obtain ⟨hp, g, d, tk, os⟩ := s
    obtain ⟨hl, h⟩ := h
    have f1 := AutoSeq1.idx_int
    have c1 : (items.isEmpty || (1 : Int) == 1) = true := by simp
    wp_walk using wpAny_loadPart' hl
    exact ⟨_, rfl, h⟩
theorem mul_none_new (l : Addr) (items : Array Value) (n : Nat) (sl : Array (Option Value)) (dd : Option Addr) (u : Tok) (hi : items.isEmpty = false) :
    Meets (Builtin.«tuple.__mul__» ⟨[.ref l, .int 0 u], []⟩) (fun _ R s => s.heap.get? l = some { cls := .type "tuple", dict := dd, data := .seq items n, slots := sl } ∧
      R (.ok (.ret (Value.ref s.heap.objs.size))) { s with heap := s.heap.push { cls := Value.type "tuple", data := Data.seq #[] } }) :=
  .of_wp fun prog w A R s h => by
    obtain ⟨hp, g, d, tk, os⟩ := s
    obtain ⟨hl, h⟩ := h
    have f1 := AutoSeq1.idx_int
    have c1 : (items.isEmpty || (0 : Int) == 1) = false := by simp [hi]
    have c2 : (decide ((0 : Int) ≤ 0) || items.isEmpty) = true := by simp
    wp_walk using wpAny_loadPart' hl
    exact ⟨_, rfl, h⟩
def rRepTA (K : PySem.W.Frag) : R2 := fun x y H Q => ∃ l k xs, x = .ref l ∧ y = .int k ∧ SqT K H l xs ∧ xs ≠ [] ∧ 0 ≤ k ∧ k ≤ 1000 ∧ xs.length ≤ 1000 ∧ (k = 1 → Q (.ref l) H) ∧ (k ≠ 1 → ∀ p, H p = none → Q (.ref p) (upd H p (.tup (List.replicate k.toNat xs).flatten)))
/-- tuple * int, none and once too -/
theorem op_repTA {X : Cx} : OpR X (binaryOp .Mult) (rRepTA X.K) := by
  intro pins s σ H x y v u Q I rx ry h
  obtain ⟨l, k, xs, rfl, rfl, hT, hne, h0, h1, hz, q1, q2⟩ := h
  by_cases hk2 : 2 ≤ k
  · exact op_repT pins s σ H (.ref l) (.int k) v u Q I rx ry ⟨l, k, xs, rfl, rfl, hT, hne, hk2, h1, hz, q2 (by omega)⟩
  cases rx
  obtain ⟨t, rfl⟩ := ry
  obtain ⟨its, r, ⟨⟨cls, dd, data, sl⟩, ho, hc, n, hd⟩, hs⟩ := I.tuple hT
  simp only at hc hd
  subst hc hd
  have hle : its.length = xs.length := r.length.symm
  have hn : its ≠ [] := fun e => hne (by
    rw [e] at hle
    exact List.eq_nil_of_length_eq_zero hle.symm)
  have hi : its.toArray.isEmpty = false := by
    cases its with
    | nil => exact absurd rfl hn
    | cons a b => rfl
  have hk : k = 0 ∨ k = 1 := by omega
  rcases hk with rfl | rfl
  · refine wpAny_binaryOp_repeat_ref (T := "tuple") (U := "int") (by decide) ⟨_, ho, rfl⟩ (fun s' => typeIs_int s' 0 t) noFill_tuple_mul F.fills_int_mul F.slot_int_rmul repeat_tuple F.slot_int_index.lookup
      (call_meets F.slot_int_rmul (typeIs_int s 0 t) F.entry_int_rmul (F.args_int_rmul_2 _ _) (int_rmul_tuple 0 t l its.toArray n dd sl)
        ⟨ho, rfl, ⟨_, ho, rfl⟩, call_meets F.slot_tuple_mul ⟨_, ho, rfl⟩ F.entry_tuple_mul (F.args_tuple_mul_2 _ _) (mul_none_new l its.toArray n sl dd t hi) ⟨ho, ?_⟩⟩)
    refine ⟨.ref s.heap.objs.size, _, I.laid (t' := s.toks) (o := .tup (List.replicate (Int.toNat 0) xs).flatten) (fun b ob q => Heap.get?_push_of_some _ q) (Nat.le_refl _) ?_, rfl, q2 (by decide) _ (I.hok.fresh (Nat.le_refl _))⟩
    exact ⟨Nat.zero_le _, [], .nil, IsTup.new _ _⟩
  · refine wpAny_binaryOp_repeat_ref (T := "tuple") (U := "int") (by decide) ⟨_, ho, rfl⟩ (fun s' => typeIs_int s' 1 t) noFill_tuple_mul F.fills_int_mul F.slot_int_rmul repeat_tuple F.slot_int_index.lookup
      (call_meets F.slot_int_rmul (typeIs_int s 1 t) F.entry_int_rmul (F.args_int_rmul_2 _ _) (int_rmul_tuple 1 t l its.toArray n dd sl)
        ⟨ho, rfl, ⟨_, ho, rfl⟩, call_meets F.slot_tuple_mul ⟨_, ho, rfl⟩ F.entry_tuple_mul (F.args_tuple_mul_2 _ _) (mul_one_same l its.toArray n sl dd t) ⟨ho, ?_⟩⟩)
    exact ⟨.ref l, H, I, rfl, q1 rfl⟩
end GT

namespace GD
open PySem PySem.Spec PyProof.Rows L2 GxR GX GS GT
theorem iteN {c A B : Prop} [Decidable c] (hc : ¬ c) (h : A) : if (!decide c) = true then A else B := by
  rw [decide_eq_false hc]
  exact iteT h
theorem inK {X : Cx} (K : PySem.W.Frag) (h : X.K = K) : OpR X (compareOp .In) (rIn K false) := by
  subst h
  exact op_in_seq
/-- the turns of a list comprehension over enumerate of a tuple -/
theorem lc_enumT {K : PySem.W.Frag} {a : Addr} {xs : List V} {g : TG} {tt : TT} {te : TE} {vs : List Nat} {σ : L2.St} {H1 : Hp} {D : Addr} {Qd : Hp → Prop} (Pv : Nat → Hp → Prop) (h0 : Pv 0 (upd H1 D (.lst []))) (hl : ∀ i H, i ≤ xs.length → Pv i H → SqT K H a xs)
    (hs : ∀ i x H T, xs[i]? = some x → Pv i H → H T = none → g (.ref T) (wipe σ vs) (upd H T (.tup [.int (i : Nat), x])) fun σ2 H2 => wipe σ2 vs = wipe σ vs ∧ tt σ2 H2 fun b H3 =>
      if b = true then te σ2 H3 fun y H4 => ∃ acc, H4 D = some (.lst acc) ∧ acc.length < sizeLine ∧ Pv (i + 1) (upd H4 D (.lst (acc ++ [y]))) else Pv (i + 1) H3) (hd : ∀ H, Pv xs.length H → Qd H) :
    ∃ W : Nat → Nat → Hp → Prop, (∃ m, W 0 m (upd H1 D (.lst []))) ∧ ∀ i m H, W i m H →
      ((GE.IteT K a).stop i H ∧ Qd H) ∨ ((GE.IteT K a).go i H ∧ ∃ Nx : Hp → Prop, (∀ H', Nx H' → ∃ m', m' < m ∧ W (i + 1) m' H') ∧ ∀ x H', (GE.IteT K a).yld i H x H' → g x (wipe σ vs) H' fun σ2 H2 => wipe σ2 vs = wipe σ vs ∧ tt σ2 H2 fun b H3 =>
        if b = true then te σ2 H3 fun y H4 => ∃ acc, H4 D = some (.lst acc) ∧ acc.length < sizeLine ∧ Nx (upd H4 D (.lst (acc ++ [y]))) else Nx H3) := by
  refine ⟨fun i m H => m = xs.length - i ∧ i ≤ xs.length ∧ Pv i H, ⟨xs.length, by simp, Nat.zero_le _, h0⟩, ?_⟩
  rintro i m H ⟨rfl, hi, p⟩
  have q := hl i H hi p
  by_cases hlt : i < xs.length
  · refine .inr ⟨⟨xs, xs[i], q, by simp [hlt]⟩, Pv (i + 1), fun H' p' => ⟨xs.length - (i + 1), by omega, rfl, hlt, p'⟩, fun x H' y => ?_⟩
    obtain ⟨T, x', rfl, hn, rfl, hx⟩ := y
    exact hs i x' H T (hx xs q) p hn
  · have e : i = xs.length := by omega
    subst e
    exact .inl ⟨⟨xs, q, Nat.le_refl _⟩, hd H p⟩
/-! ### plans -/
def oV : Option Int → V
  | none => .non
  | some h => .int h
def IsPlan (K : PySem.W.Frag) (H : Hp) (v : V) (pl : List (Option Int)) : Prop := ∃ a, v = .ref a ∧ SqT K H a (pl.map oV)
structure PlOk (n : Nat) (pl : List (Option Int)) : Prop where
  len : pl.length = n
  ok : ∀ h, some h ∈ pl → 0 ≤ h ∧ h ≤ 11
theorem Ext.plan {ex : List Addr} {H H1 : Hp} {K : PySem.W.Frag} {v : V} {pl : List (Option Int)} (e : Ext ex H H1) (h : IsPlan K H v pl) : IsPlan K H1 v pl := let ⟨a, z, h1⟩ := h; ⟨a, z, e.sqT h1⟩
def hoursN (pl : List (Option Int)) (n : Nat) : List Int := ((List.range n).map fun i : Nat => (i : Int)).filter fun h => decide (some h ∈ pl)
theorem hoursN_succ (pl : List (Option Int)) (n : Nat) : hoursN pl (n + 1) = hoursN pl n ++ (if some (n : Int) ∈ pl then [(n : Int)] else []) := by
  unfold hoursN
  rw [List.range_succ, List.map_append, List.filter_append]
  congr 1
  by_cases h : some (n : Int) ∈ pl
  · simp [h]
  · simp [h]
theorem mem_hoursN {pl : List (Option Int)} {n : Nat} {k : Int} : k ∈ hoursN pl n ↔ (0 ≤ k ∧ k < (n : Int)) ∧ some k ∈ pl := by
  unfold hoursN
  rw [List.mem_filter, decide_eq_true_eq]
  constructor
  · rintro ⟨h1, h2⟩
    obtain ⟨i, hi, rfl⟩ := List.mem_map.mp h1
    have := List.mem_range.mp hi
    exact ⟨by omega, h2⟩
  · rintro ⟨⟨h0, h1⟩, h2⟩
    exact ⟨List.mem_map.mpr ⟨k.toNat, List.mem_range.mpr (by omega), by omega⟩, h2⟩
theorem hoursN_pw (pl : List (Option Int)) : ∀ n, (hoursN pl n).Pairwise (· < ·)
  | 0 => .nil
  | n + 1 => by
    rw [hoursN_succ, List.pairwise_append]
    refine ⟨hoursN_pw pl n, ?_, fun a ha b hb => ?_⟩
    · split
      · exact List.pairwise_singleton _ _
      · exact .nil
    · have h1 := (mem_hoursN.mp ha).1
      split at hb
      · rw [List.mem_singleton.mp hb]
        exact h1.2
      · cases hb
abbrev hoursL (pl : List (Option Int)) : List Int := hoursN pl 12
theorem hoursL_mem {n : Nat} {pl : List (Option Int)} (ok : PlOk n pl) {k : Int} : k ∈ hoursL pl ↔ some k ∈ pl := by
  rw [mem_hoursN]
  exact ⟨fun h => h.2, fun h => ⟨by have := ok.ok k h; omega, h⟩⟩
theorem strict_uniq : ∀ {xs ys : List Int}, xs.Pairwise (· < ·) → ys.Pairwise (· < ·) → (∀ k, k ∈ xs ↔ k ∈ ys) → xs = ys
  | [], [], _, _, _ => rfl
  | [], y :: ys, _, _, h => absurd ((h y).mpr List.mem_cons_self) (by simp)
  | x :: xs, [], _, _, h => absurd ((h x).mp List.mem_cons_self) (by simp)
  | x :: xs, y :: ys, h1, h2, h => by
    obtain ⟨a1, a2⟩ := List.pairwise_cons.mp h1
    obtain ⟨b1, b2⟩ := List.pairwise_cons.mp h2
    have e : x = y := by
      rcases List.mem_cons.mp ((h x).mp List.mem_cons_self) with z | z
      · exact z
      · rcases List.mem_cons.mp ((h y).mpr List.mem_cons_self) with q | q
        · exact q.symm
        · have c1 := b1 x z
          have c2 := a1 y q
          omega
    subst e
    congr 1
    refine strict_uniq a2 b2 fun k => ⟨fun hk => ?_, fun hk => ?_⟩
    · rcases List.mem_cons.mp ((h k).mp (List.mem_cons_of_mem _ hk)) with z | z
      · have := a1 k hk
        omega
      · exact z
    · rcases List.mem_cons.mp ((h k).mpr (List.mem_cons_of_mem _ hk)) with z | z
      · have := b1 k hk
        omega
      · exact z
theorem inV_plan (h : Int) (pl : List (Option Int)) : inV (.int h) (pl.map oV) = decide (some h ∈ pl) := by
  rw [Bool.eq_iff_iff, decide_eq_true_eq]
  unfold inV
  rw [List.any_eq_true]
  constructor
  · rintro ⟨y, hy, e⟩
    obtain ⟨o, ho, rfl⟩ := List.mem_map.mp hy
    cases o with
    | none => simp [oV, eqV] at e
    | some k =>
      have : k = h := by simpa [oV, eqV] using e
      rw [← this]
      exact ho
  · intro hm
    exact ⟨oV (some h), List.mem_map.mpr ⟨_, hm, rfl⟩, by simp [oV, eqV]⟩
theorem flat_plan (pl : List (Option Int)) : (pl.map oV).all flatV = true := by
  rw [List.all_eq_true]
  intro y hy
  obtain ⟨o, _, rfl⟩ := List.mem_map.mp hy
  cases o <;> rfl
/-- what a barge waits, nothing where it is open -/
def waitOf (k : Book) (i : Nat) (o : Option Int) : List Int := match o, k.bs[i]? with
  | some h, some b => [h + hsum k.rv b.b.toNat - b.r]
  | _, _ => []
def waitsN (k : Book) (pl : List (Option Int)) (n : Nat) : List Int := (List.range n).flatMap fun i => waitOf k i (pl.getD i none)
theorem waitsN_succ (k : Book) (pl : List (Option Int)) (n : Nat) : waitsN k pl (n + 1) = waitsN k pl n ++ waitOf k n (pl.getD n none) := by
  unfold waitsN
  rw [List.range_succ, List.flatMap_append]
  simp
theorem waitsN_len (k : Book) (pl : List (Option Int)) : ∀ n, (waitsN k pl n).length ≤ n
  | 0 => Nat.le_refl _
  | n + 1 => by
    rw [waitsN_succ, List.length_append]
    have h1 := waitsN_len k pl n
    have h2 : (waitOf k n (pl.getD n none)).length ≤ 1 := by
      unfold waitOf
      split
      · exact Nat.le_refl _
      · exact Nat.zero_le _
    omega
theorem getD_of {pl : List (Option Int)} {i : Nat} {o : Option Int} (h : pl[i]? = some o) : pl.getD i none = o := by
  rw [List.getD_eq_getElem?_getD, h]
  rfl
theorem waitOf_none (k : Book) (i : Nat) : waitOf k i none = [] := by
  unfold waitOf
  rfl
theorem waitOf_some {k : Book} {i : Nat} {h : Int} {b : Barge} (e : k.bs[i]? = some b) : waitOf k i (some h) = [h + hsum k.rv b.b.toNat - b.r] := by
  unfold waitOf
  rw [e]
theorem ifS_ {c : TT} {a b : TS} {D D' : Ends} {σ : L2.St} {H : Hp} (e : D.nx = tIfS c a b D') (h : c σ H fun x H1 => if x = true then a D' σ H1 else b D' σ H1) : tNext D σ H := by
  show D.nx σ H
  rw [e]
  exact h
end GD

namespace GC
open PySem PySem.Spec PyProof.Rows L2
section
variable {X : Cx} {a b c d : Expr} {ta tb tc td : TE} {pos : Pos}
def tCh3 (r r' r'' : R2) (ta tb tc td : TE) : TE := fun σ H Q => ta σ H fun x H1 => tb σ H1 fun y H2 => r x y H2 fun z H3 => ∃ k, z = .bl k ∧
  (if k = true then tc σ H3 fun w' H4 => r' y w' H4 fun z' H5 => ∃ k', z' = .bl k' ∧ (if k' = true then td σ H5 fun w2 H6 => r'' w' w2 H6 Q else Q (.bl false) H5) else Q (.bl false) H3)
theorem pe_ch3 {op op' op'' : CmpOp} {r r' r'' : R2} (ho : OpR X (compareOp op) r) (ho' : OpR X (compareOp op') r') (ho2 : OpR X (compareOp op'') r'') (ha : PE X a ta) (hb : PE X b tb) (hc : PE X c tc) (hd : PE X d td)
    (hm : lastMarks [op, op', op''] [b, c, d] = false := by with_unfolding_all rfl) : PE X (.Compare a [op, op', op''] [b, c, d] pos) (tCh3 r r' r'' ta tb tc td) := by
  refine ⟨fun pins s σ H Q I h => ?_⟩
  refine Compare_chain (thn (ha.run pins s σ H _ I h) fun v s1 ⟨x, H1, I1, r1, q1⟩ => chain_link (thn (hb.run pins s1 σ H1 _ I1 q1) fun u s2 ⟨y, H2, I2, r2, q2⟩ =>
    thn (ho pins s2 σ H2 x y v u _ I2 r1 r2 q2) fun d s3 ⟨z, H3, I3, r3, k, e, q3⟩ => ?_)) hm
  subst e
  cases r3
  refine wpAny_truthy_bool ?_
  cases k with
  | false => exact ite_ff ⟨.bl false, H3, I3, rfl, q3⟩
  | true =>
    refine ite_tt (chain_link (thn (hc.run pins s3 σ H3 _ I3 q3) fun w' s4 ⟨z', H4, I4, r4, q4⟩ => thn (ho' pins s4 σ H4 y z' u w' _ I4 r2 r4 q4) fun d' s5 ⟨z2, H5, I5, r5, k', e', q5⟩ => ?_))
    subst e'
    cases r5
    refine wpAny_truthy_bool ?_
    cases k' with
    | false => exact ite_ff ⟨.bl false, H5, I5, rfl, q5⟩
    | true => exact ite_tt (chain_last (thn (hd.run pins s5 σ H5 _ I5 q5) fun w3 s6 ⟨z3, H6, I6, r6, q6⟩ => ho2 pins s6 σ H6 z' z3 w' w3 Q I6 r4 r6 q6))
theorem pt_ch3 {op op' op'' : CmpOp} {r r' r'' : R2} (ho : OpR X (compareOp op) r) (ho' : OpR X (compareOp op') r') (ho2 : OpR X (compareOp op'') r'') (ha : PE X a ta) (hb : PE X b tb) (hc : PE X c tc) (hd : PE X d td)
    (hm : lastMarks [op, op', op''] [b, c, d] = false := by with_unfolding_all rfl) : PT X (.Compare a [op, op', op''] [b, c, d] pos) (tTest (tCh3 r r' r'' ta tb tc td)) := by
  refine ⟨fun pins s σ H Q I h => ?_⟩
  refine isTrue_chain (thn (ha.run pins s σ H _ I h) fun v s1 ⟨x, H1, I1, r1, q1⟩ => test_link (thn (hb.run pins s1 σ H1 _ I1 q1) fun u s2 ⟨y, H2, I2, r2, q2⟩ =>
    thn (ho pins s2 σ H2 x y v u _ I2 r1 r2 q2) fun d s3 ⟨z, H3, I3, r3, k, e, q3⟩ => ?_)) hm
  subst e
  cases r3
  refine wpAny_truthy_bool ?_
  cases k with
  | false =>
    obtain ⟨k', e', q'⟩ := q3
    cases e'
    exact ite_ff ⟨H3, I3, q'⟩
  | true =>
    refine ite_tt (test_link (thn (hc.run pins s3 σ H3 _ I3 q3) fun w' s4 ⟨z', H4, I4, r4, q4⟩ => thn (ho' pins s4 σ H4 y z' u w' _ I4 r2 r4 q4) fun d' s5 ⟨z2, H5, I5, r5, k', e', q5⟩ => ?_))
    subst e'
    cases r5
    refine wpAny_truthy_bool ?_
    cases k' with
    | false =>
      obtain ⟨k3, e3, q'⟩ := q5
      cases e3
      exact ite_ff ⟨H5, I5, q'⟩
    | true =>
      refine ite_tt (test_last (thn (hd.run pins s5 σ H5 _ I5 q5) fun w3 s6 ⟨z3, H6, I6, r6, q6⟩ => thn (ho2 pins s6 σ H6 z' z3 w' w3 _ I6 r4 r6 q6) fun d' s7 ⟨z4, H7, I7, r7, k2, e2, q7⟩ => ?_))
      subst e2
      cases r7
      exact wpAny_truthy_bool ⟨H7, I7, q7⟩
end
theorem for_enumT {K : PySem.W.Frag} {a : Addr} {xs : List V} {g : TG} {tb : TS} {D : Ends} {σ : L2.St} {H : Hp} (Pv : Nat → L2.St → Hp → Prop) (h0 : Pv 0 σ H) (hl : ∀ i σ H, i ≤ xs.length → Pv i σ H → SqT K H a xs)
    (hs : ∀ i x σ H T, xs[i]? = some x → Pv i σ H → H T = none → g (.ref T) σ (upd H T (.tup [.int (i : Nat), x])) fun σ2 H2 => tb { D with nx := Pv (i + 1), ct := Pv (i + 1), bk := D.nx } σ2 H2) (hd : ∀ σ H, Pv xs.length σ H → D.nx σ H) :
    ∃ W : Nat → Nat → L2.St → Hp → Prop, (∃ m, W 0 m σ H) ∧ ∀ i m σ H, W i m σ H →
      ((GE.IteT K a).stop i H ∧ D.nx σ H) ∨ ((GE.IteT K a).go i H ∧ ∃ N : L2.St → Hp → Prop, (∀ σ' H', N σ' H' → ∃ m', m' < m ∧ W (i + 1) m' σ' H') ∧ ∀ x H', (GE.IteT K a).yld i H x H' → g x σ H' fun σ2 H2 => tb { D with nx := N, ct := N, bk := D.nx } σ2 H2) := by
  refine ⟨fun i m σ H => m = xs.length - i ∧ i ≤ xs.length ∧ Pv i σ H, ⟨xs.length, by simp, Nat.zero_le _, h0⟩, ?_⟩
  rintro i m σ H ⟨rfl, hi, p⟩
  have q := hl i σ H hi p
  by_cases hlt : i < xs.length
  · refine .inr ⟨⟨xs, xs[i], q, by simp [hlt]⟩, Pv (i + 1), fun σ' H' p' => ⟨xs.length - (i + 1), by omega, rfl, hlt, p'⟩, fun x H' y => ?_⟩
    obtain ⟨T, x', rfl, hn, rfl, hx⟩ := y
    exact hs i x' σ H T (hx xs q) p hn
  · have e : i = xs.length := by omega
    subst e
    exact .inl ⟨⟨xs, q, Nat.le_refl _⟩, hd σ H p⟩
end GC

namespace GD
open PySem PySem.Spec PyProof.Rows L2 GxR GX GS GT GC
/-! ### rows of texts and numbers -/
inductive Fl where
  | s (x : Str) (h : PyData.strOk x = true)
  | i (n : Int)
def Fl.v : Fl → V
  | .s x _ => .str x
  | .i n => .int n
def Fl.d : Fl → PyData
  | .s x _ => .str x
  | .i n => .int n
abbrev Row := List Fl
def rowD (r : Row) : PyData := .tuple (r.map Fl.d)
def IsRow (K : PySem.W.Frag) (H : Hp) (v : V) (r : Row) : Prop := ∃ t, v = .ref t ∧ SqT K H t (r.map Fl.v)
def IsList (K : PySem.W.Frag) (H : Hp) (p : Addr) (rs : List Row) : Prop := ∃ vs, H p = some (.lst vs) ∧ Paired (IsRow K H) vs rs
section
variable {ex : List Addr} {H H1 : Hp} {K : PySem.W.Frag} {v : V} {p : Addr} {rs : List Row} {r : Row}
theorem Ext.row (e : Ext ex H H1) (h : IsRow K H v r) : IsRow K H1 v r := let ⟨t, z, h1⟩ := h; ⟨t, z, e.sqT h1⟩
theorem Ext.rows (e : Ext ex H H1) (n : p ∉ ex) (h : IsList K H p rs) : IsList K H1 p rs := let ⟨vs, h1, h2⟩ := h; ⟨vs, e.lst p vs n h1, Paired.mapP h2 fun _ _ z => e.row z⟩
theorem IsList.new : IsList K (upd H p (.lst [])) p [] := ⟨[], upd_same, .nil⟩
theorem isRow_new {t : Addr} {xs : List V} (e : xs = r.map Fl.v) : IsRow K (upd H t (.tup xs)) (.ref t) r := ⟨t, rfl, by rw [e]; exact sqT_new⟩
theorem rows_push {vs : List V} (h1 : H p = some (.lst vs)) (h2 : Paired (IsRow K H) vs rs) (h : IsRow K H v r) : IsList K (upd H p (.lst (vs ++ [v]))) p (rs ++ [r]) :=
  ⟨_, upd_same, papp (Paired.mapP h2 fun _ _ z => (Ext.wr (ex := [p]) (by simp) h1).row z) ((Ext.wr (ex := [p]) (by simp) h1).row h)⟩
theorem pappend {α β : Type} {F : α → β → Prop} : ∀ {xs : List α} {ys : List β} {us : List α} {ws : List β}, Paired F xs ys → Paired F us ws → Paired F (xs ++ us) (ys ++ ws)
  | _, _, _, _, .nil, h => h
  | _, _, _, _, .cons r t, h => .cons r (pappend t h)
theorem dpAll_row : ∀ r : Row, DpAll K H (r.map Fl.v) (r.map Fl.d)
  | [] => .nil
  | .s x _ :: r => .cons (.str x) (dpAll_row r)
  | .i n :: r => .cons (.int n) (dpAll_row r)
theorem IsRow.dp (h : IsRow K H v r) : Dp K H v (rowD r) := by
  obtain ⟨t, rfl, z⟩ := h
  exact .tup z (dpAll_row r)
theorem dpAll_rows : ∀ {vs : List V} {rs : List Row}, Paired (IsRow K H) vs rs → DpAll K H vs (rs.map rowD)
  | _, _, .nil => .nil
  | _, _, .cons a b => .cons a.dp (dpAll_rows b)
def rowsD (rs : List Row) : PyData := .list (rs.map rowD)
theorem IsList.dp (h : IsList K H p rs) : Dp K H (.ref p) (rowsD rs) := by
  obtain ⟨vs, h1, h2⟩ := h
  exact .lst (.inl (.inl h1)) (dpAll_rows h2)
theorem lay_row : ∀ r : Row, PyData.canLayAll0 (r.map Fl.d) = true ∧ PyData.depthAll (r.map Fl.d) = 0
  | [] => ⟨rfl, rfl⟩
  | .s x h :: r => by
    obtain ⟨h1, h2⟩ := lay_row r
    constructor
    · show (PyData.strOk x && PyData.canLayAll0 (r.map Fl.d)) = true
      rw [h, h1]
      rfl
    · show max 0 (PyData.depthAll (r.map Fl.d)) = 0
      rw [h2]
      rfl
  | .i n :: r => by
    obtain ⟨h1, h2⟩ := lay_row r
    constructor
    · show (true && PyData.canLayAll0 (r.map Fl.d)) = true
      rw [h1]
      rfl
    · show max 0 (PyData.depthAll (r.map Fl.d)) = 0
      rw [h2]
      rfl
theorem lay_rows : ∀ rs : List Row, PyData.canLayAll0 (rs.map rowD) = true ∧ PyData.depthAll (rs.map rowD) ≤ 1
  | [] => ⟨rfl, Nat.zero_le _⟩
  | r :: rs => by
    obtain ⟨h1, h2⟩ := lay_rows rs
    obtain ⟨k1, k2⟩ := lay_row r
    constructor
    · show (PyData.canLayAll0 (r.map Fl.d) && PyData.canLayAll0 (rs.map rowD)) = true
      rw [h1, k1]
      rfl
    · show max (PyData.depthAll (r.map Fl.d) + 1) (PyData.depthAll (rs.map rowD)) ≤ 1
      rw [k2]
      omega
theorem lay_rowsD (rs : List Row) : (rowsD rs).canLay0 = true := (lay_rows rs).1
theorem shaped_rows (rs : List Row) : SeqAt.shaped (rowsD rs) = true := by
  have h := lay_rows rs
  unfold SeqAt.shaped
  rw [lay_rowsD rs, Bool.true_and, decide_eq_true_eq]
  show PyData.depthAll (rs.map rowD) + 1 ≤ 64
  omega
end
/-! ### what is got turn by turn -/
def cat {α : Type} (f : Nat → List α) (n : Nat) : List α := (List.range n).flatMap f
theorem cat_zero {α : Type} (f : Nat → List α) : cat f 0 = [] := rfl
theorem cat_succ {α : Type} (f : Nat → List α) (n : Nat) : cat f (n + 1) = cat f n ++ f n := by
  unfold cat
  rw [List.range_succ, List.flatMap_append]
  simp
theorem cat_le {α : Type} {f : Nat → List α} {c : Nat} (h : ∀ i, (f i).length ≤ c) : ∀ n, (cat f n).length ≤ n * c
  | 0 => by rw [cat_zero]; exact Nat.zero_le _
  | n + 1 => by
    rw [cat_succ, List.length_append, Nat.succ_mul]
    have h1 := cat_le h n
    have h2 := h n
    omega
theorem cat_pick {α : Type} {p : Nat → Prop} [DecidablePred p] {f : Nat → List α} : ∀ n, (cat (fun i => if p i then [i] else []) n).flatMap f = cat (fun i => if p i then f i else []) n
  | 0 => rfl
  | n + 1 => by
    rw [cat_succ, cat_succ, List.flatMap_append, cat_pick n]
    congr 1
    by_cases h : p n
    · rw [if_pos h, if_pos h]; simp
    · rw [if_neg h, if_neg h]; rfl
theorem flat_take {α β : Type} {xs : List α} {f : α → List β} {i : Nat} {x : α} (h : xs[i]? = some x) : (xs.take (i + 1)).flatMap f = (xs.take i).flatMap f ++ f x := by
  rw [List.take_add_one, h, List.flatMap_append]
  simp
theorem flat_le {α β : Type} {f : α → List β} {c : Nat} (h : ∀ i, (f i).length ≤ c) : ∀ xs : List α, (xs.flatMap f).length ≤ xs.length * c
  | [] => Nat.zero_le _
  | x :: xs => by
    rw [List.flatMap_cons, List.length_append, List.length_cons, Nat.succ_mul]
    have h1 := flat_le h xs
    have h2 := h x
    omega
/-! ### what speaks against a plan -/
def f_early : Fl := .s "early" (by decide +kernel)
def f_late : Fl := .s "late" (by decide +kernel)
def f_shallow : Fl := .s "shallow" (by decide +kernel)
def f_full : Fl := .s "full" (by decide +kernel)
def f_crossed : Fl := .s "crossed" (by decide +kernel)
def comesAt (k : Book) (p : Int) (h : Int) : Int := h + hsum k.rv p.toNat
def strN (k : Book) (s : Nat) : Stretch := k.rv.getD s ⟨0, 0, []⟩
def shalR (k : Book) (i : Nat) (b : Barge) (h : Int) (j : Nat) : List Row :=
  if depthAt (strN k (b.b.toNat + j)) (comesAt k (b.b + j) h) < b.d then [[f_shallow, .i i, .i (b.b + j), .i (comesAt k (b.b + j) h), .i (depthAt (strN k (b.b.toNat + j)) (comesAt k (b.b + j) h))]] else []
def endsR (k : Book) (i : Nat) (b : Barge) (h : Int) : List Row :=
  (if comesAt k b.b h < b.r then [[f_early, .i i, .i (comesAt k b.b h)]] else []) ++ (if b.u < comesAt k b.g h then [[f_late, .i i, .i (comesAt k b.g h)]] else [])
def aloneR (k : Book) (i : Nat) (b : Barge) (h : Int) : List Row := endsR k i b h ++ cat (shalR k i b h) (b.g - b.b).toNat
theorem endsR_le (k : Book) (i : Nat) (b : Barge) (h : Int) : (endsR k i b h).length ≤ 2 := by
  unfold endsR
  rw [List.length_append]
  split <;> split <;> simp
theorem shalR_le (k : Book) (i : Nat) (b : Barge) (h : Int) (j : Nat) : (shalR k i b h j).length ≤ 1 := by
  unfold shalR
  split <;> simp
theorem aloneR_le {k : Book} {b : Barge} (ok : b.Ok k.rv.length) (n8 : k.rv.length ≤ 8) (i : Nat) (h : Int) : (aloneR k i b h).length ≤ 10 := by
  unfold aloneR
  rw [List.length_append]
  have h1 := endsR_le k i b h
  have h2 := cat_le (shalR_le k i b h) (b.g - b.b).toNat
  have := ok.b0
  have := ok.gn
  omega
def bargeR (k : Book) (pl : List (Option Int)) (i : Nat) : List Row := match pl.getD i none, k.bs[i]? with
  | some h, some b => aloneR k i b h
  | _, _ => []
theorem bargeR_none {k : Book} {pl : List (Option Int)} {i : Nat} (h : pl[i]? = some none) : bargeR k pl i = [] := by
  unfold bargeR
  rw [getD_of h]
theorem bargeR_some {k : Book} {pl : List (Option Int)} {i : Nat} {h : Int} {b : Barge} (e : pl[i]? = some (some h)) (eb : k.bs[i]? = some b) : bargeR k pl i = aloneR k i b h := by
  unfold bargeR
  rw [getD_of e, eb]
theorem bargeR_le {k : Book} (ok : k.Ok) (pl : List (Option Int)) (i : Nat) : (bargeR k pl i).length ≤ 10 := by
  unfold bargeR
  split
  · rename_i b h _ hb
    exact aloneR_le (ok.ok _ (List.mem_of_getElem? hb)) ok.rv.n8 _ _
  · exact Nat.zero_le _
def memN (pl : List (Option Int)) (h : Int) (n : Nat) : List Nat := cat (fun i => if pl.getD i none = some h then [i] else []) n
theorem memN_succ (pl : List (Option Int)) (h : Int) (n : Nat) : memN pl h (n + 1) = memN pl h n ++ (if pl.getD n none = some h then [n] else []) := cat_succ _ n
theorem memN_le (pl : List (Option Int)) (h : Int) (n : Nat) : (memN pl h n).length ≤ n := by
  have z := cat_le (f := fun i => if pl.getD i none = some h then [i] else []) (c := 1) (fun i => by split <;> simp) n
  rw [Nat.mul_one] at z
  exact z
theorem memN_lt {pl : List (Option Int)} {h : Int} : ∀ {n x : Nat}, x ∈ memN pl h n → x < n
  | 0, _, z => by cases z
  | n + 1, x, z => by
    rw [memN_succ] at z
    rcases List.mem_append.mp z with z | z
    · have := memN_lt z
      omega
    · split at z
      · rw [List.mem_singleton.mp z]; omega
      · cases z
def onS (k : Book) (s : Nat) (i : Nat) : Bool := match k.bs[i]? with
  | some b => decide (b.b ≤ (s : Int)) && decide ((s : Int) < b.g)
  | none => false
def onL (k : Book) (pl : List (Option Int)) (h : Int) (s : Nat) : List Nat := (memN pl h pl.length).filter (onS k s)
def fullR (k : Book) (pl : List (Option Int)) (h : Int) (s : Nat) : List Row :=
  if (strN k s).room < ((onL k pl h s).length : Int) then [[f_full, .i h, .i s, .i ((onL k pl h s).length : Int)]] else []
theorem fullR_le (k : Book) (pl : List (Option Int)) (h : Int) (s : Nat) : (fullR k pl h s).length ≤ 1 := by
  unfold fullR
  split <;> simp
def fullH (k : Book) (pl : List (Option Int)) (h : Int) : List Row := cat (fullR k pl h) k.rv.length
def fullA (k : Book) (pl : List (Option Int)) : List Row := (hoursL pl).flatMap (fullH k pl)
theorem fullH_le {k : Book} (ok : k.Ok) (pl : List (Option Int)) (h : Int) : (fullH k pl h).length ≤ 8 := by
  have h1 := cat_le (fullR_le k pl h) k.rv.length
  have := ok.rv.n8
  unfold fullH
  omega
theorem hoursL_le (pl : List (Option Int)) : (hoursL pl).length ≤ 12 := by
  unfold hoursL hoursN
  refine Nat.le_trans (List.length_filter_le _ _) ?_
  rw [List.length_map, List.length_range]
  exact Nat.le_refl _
theorem fullT_le {k : Book} (ok : k.Ok) (pl : List (Option Int)) (i : Nat) : (((hoursL pl).take i).flatMap (fullH k pl)).length ≤ 96 := by
  have h1 := flat_le (fullH_le ok pl) ((hoursL pl).take i)
  have h2 := hoursL_le pl
  have h3 : ((hoursL pl).take i).length ≤ (hoursL pl).length := by rw [List.length_take]; omega
  omega
def crossed (a b : Barge) : Prop := a.b < b.b ∧ b.b < a.g ∧ a.g < b.g
instance (a b : Barge) : Decidable (crossed a b) := by unfold crossed; infer_instance
def crossO (k : Book) (i j : Nat) : List Row := match k.bs[i]?, k.bs[j]? with
  | some a, some b => if crossed a b then [[f_crossed, .i i, .i j]] else []
  | _, _ => []
theorem crossO_of {k : Book} {i j : Nat} {a b : Barge} (h1 : k.bs[i]? = some a) (h2 : k.bs[j]? = some b) : crossO k i j = if crossed a b then [[f_crossed, .i i, .i j]] else [] := by
  unfold crossO
  rw [h1, h2]
theorem crossO_le (k : Book) (i j : Nat) : (crossO k i j).length ≤ 1 := by
  unfold crossO
  split
  · split <;> simp
  · exact Nat.zero_le _
def crossR (k : Book) (pl : List (Option Int)) (i : Nat) : List Row := match pl.getD i none with
  | some h => cat (fun j => if pl.getD j none = some h then crossO k i j else []) pl.length
  | none => []
theorem crossR_none {k : Book} {pl : List (Option Int)} {i : Nat} (h : pl[i]? = some none) : crossR k pl i = [] := by
  unfold crossR
  rw [getD_of h]
theorem crossR_some {k : Book} {pl : List (Option Int)} {i : Nat} {h : Int} (e : pl[i]? = some (some h)) : crossR k pl i = cat (fun j => if pl.getD j none = some h then crossO k i j else []) pl.length := by
  unfold crossR
  rw [getD_of e]
theorem crossJ_le (k : Book) (pl : List (Option Int)) (h : Int) (i n : Nat) : (cat (fun j => if pl.getD j none = some h then crossO k i j else []) n).length ≤ n := by
  have z := cat_le (f := fun j => if pl.getD j none = some h then crossO k i j else []) (c := 1) (fun j => by split; exact crossO_le k i j; exact Nat.zero_le _) n
  omega
theorem crossR_le (k : Book) (pl : List (Option Int)) (n7 : pl.length ≤ 7) (i : Nat) : (crossR k pl i).length ≤ 7 := by
  unfold crossR
  split
  · rename_i h _
    have := crossJ_le k pl h i pl.length
    omega
  · exact Nat.zero_le _
theorem crossM (k : Book) (pl : List (Option Int)) (h : Int) (i : Nat) (n : Nat) : (memN pl h n).flatMap (crossO k i) = cat (fun j => if pl.getD j none = some h then crossO k i j else []) n := cat_pick n
def bargesA (k : Book) (pl : List (Option Int)) : List Row := cat (bargeR k pl) pl.length
def crossA (k : Book) (pl : List (Option Int)) : List Row := cat (crossR k pl) pl.length
def allR (k : Book) (pl : List (Option Int)) : List Row := bargesA k pl ++ fullA k pl ++ crossA k pl
theorem bargesA_le {k : Book} (ok : k.Ok) (pl : List (Option Int)) (n7 : pl.length ≤ 7) : (bargesA k pl).length ≤ 70 := by
  have := cat_le (bargeR_le ok pl) pl.length
  unfold bargesA
  omega
theorem fullA_le {k : Book} (ok : k.Ok) (pl : List (Option Int)) : (fullA k pl).length ≤ 96 := by
  have h := fullT_le ok pl (hoursL pl).length
  rw [List.take_length] at h
  exact h
theorem crossA_le {k : Book} (pl : List (Option Int)) (n7 : pl.length ≤ 7) : (crossA k pl).length ≤ 49 := by
  have := cat_le (crossR_le k pl n7) pl.length
  unfold crossA
  omega
theorem allR_le {k : Book} (ok : k.Ok) (pl : List (Option Int)) (n7 : pl.length ≤ 7) : (allR k pl).length ≤ 215 := by
  have h1 := bargesA_le ok pl n7
  have h2 := fullA_le ok pl
  have h3 := crossA_le (k := k) pl n7
  unfold allR
  rw [List.length_append, List.length_append]
  omega
theorem strN_of {k : Book} {s : Nat} {x : Stretch} (h : k.rv[s]? = some x) : strN k s = x := by
  unfold strN
  rw [List.getD_eq_getElem?_getD, h]
  rfl
def wayR (k : Book) (b : Barge) (h : Int) (j : Nat) : Row := [.i (b.b + j), .i (comesAt k (b.b + j) h), .i (depthAt (strN k (b.b.toNat + j)) (comesAt k (b.b + j) h))]
def wayL (k : Book) (b : Barge) (h : Int) (n : Nat) : List Row := (List.range n).map (wayR k b h)
theorem wayL_succ (k : Book) (b : Barge) (h : Int) (n : Nat) : wayL k b h (n + 1) = wayL k b h n ++ [wayR k b h n] := by
  unfold wayL
  rw [List.range_succ, List.map_append]
  rfl
theorem wayL_len (k : Book) (b : Barge) (h : Int) (n : Nat) : (wayL k b h n).length = n := by
  unfold wayL
  rw [List.length_map, List.length_range]
theorem wayL_get {k : Book} {b : Barge} {h : Int} {n j : Nat} {r : Row} (e : (wayL k b h n)[j]? = some r) : r = wayR k b h j ∧ j < n := by
  have hj : j < n := by
    have := (List.getElem?_eq_some_iff.mp e).1
    rw [wayL_len] at this
    exact this
  unfold wayL at e
  rw [List.getElem?_map, List.getElem?_range hj] at e
  exact ⟨(Option.some.inj e).symm, hj⟩
theorem oV_int {o : Option Int} {h : Int} : oV o = V.int h ↔ o = some h := by
  cases o with
  | none => simp [oV]
  | some x => simp [oV]
theorem scal_oV (o : Option Int) (h : Int) : scal (oV o) (.int h) = true := by
  cases o <;> rfl
theorem comesAt_nat (k : Book) (p : Nat) (h : Int) : comesAt k (p : Int) h = h + hsum k.rv p := by
  unfold comesAt
  rw [Int.toNat_natCast]
abbrev natsV (xs : List Nat) : List V := xs.map fun i : Nat => V.int (i : Int)
theorem Ext.born {H H1 H2 : Hp} {D : Addr} (e : Ext [] H H1) (hD : H D = none) (f : Ext [D] H1 H2) : Ext [] H H2 where
  tup := fun b xs z => f.tup b xs (e.tup b xs z)
  frz := fun b o u z => f.frz b o u (e.frz b o u z)
  tbl := fun b ps z t => let ⟨ps', z', t'⟩ := e.tbl b ps z t; f.tbl b ps' z' t'
  lst := fun b xs n z => f.lst b xs (by simp; exact ne_of_none z hD) (e.lst b xs (by simp) z)
  oth := fun b u n t z => f.oth b u (by simp; exact ne_of_none z hD) t (e.oth b u (by simp) t z)
  dom := fun b z => e.dom b (f.dom b z)
theorem joinIf {c : Prop} [Decidable c] {A : Prop} {G : Hp → Prop} (H2 : Hp) (P : Hp → Prop) (h2 : ¬ c → P H2) (h1 : c → (∀ H3, P H3 → G H3) → A) (rest : ∀ H3, P H3 → G H3) : if c then A else G H2 := by
  by_cases h : c
  · rw [if_pos h]
    exact h1 h rest
  · rw [if_neg h]
    exact rest H2 (h2 h)
theorem rows_cat {H : Hp} {K : PySem.W.Frag} {p : Addr} {vs ws : List V} {rs r2 : List Row} (h1 : H p = some (.lst vs)) (h2 : Paired (IsRow K H) vs rs) (h3 : Paired (IsRow K H) ws r2) : IsList K (upd H p (.lst (vs ++ ws))) p (rs ++ r2) :=
  ⟨_, upd_same, Paired.mapP (pappend h2 h3) fun _ _ z => (Ext.wr (ex := [p]) (by simp) h1).row z⟩
theorem rows_new {H : Hp} {K : PySem.W.Frag} {p : Addr} {vs ws : List V} {rs r2 : List Row} (h1 : H p = none) (h2 : Paired (IsRow K H) vs rs) (h3 : Paired (IsRow K H) ws r2) : IsList K (upd H p (.lst (vs ++ ws))) p (rs ++ r2) :=
  ⟨_, upd_same, Paired.mapP (pappend h2 h3) fun _ _ z => (Ext.new (ex := []) h1).row z⟩
end GD

namespace GD
open PySem PySem.Spec PyProof.Rows L2 GxR GX GS GT GC
theorem slTA_any {K : PySem.W.Frag} {H : Hp} {a : Addr} {xs : List V} {lo hi : Option Int} {Q : VK} (h : SqT K H a xs) (q : ∀ c H', Ext [] H H' → SqT K H' c (cutV xs lo hi) → Q (.ref c) H') : rSlTA K (.ref a) lo hi H Q := by
  refine ⟨a, xs, rfl, h, fun w => q a H Ext.refl ?_, fun _ p hp => q p _ (Ext.new hp) sqT_new⟩
  unfold cutV
  rw [w.1, w.2, List.drop_zero, Nat.sub_zero, List.take_length]
  exact h
theorem catA_any {K : PySem.W.Frag} {H : Hp} {a b : Addr} {xs ys : List V} {Q : VK} (h1 : SqT K H a xs) (h2 : SqT K H b ys) (hl : xs.length + ys.length ≤ 1000) (q : ∀ c H', Ext [] H H' → SqT K H' c (xs ++ ys) → Q (.ref c) H') : rCatA K (.ref a) (.ref b) H Q := by
  refine ⟨a, b, xs, ys, rfl, rfl, h1, h2, Nat.le_of_lt (small1000 hl), fun e => q b H Ext.refl ?_, fun _ e => q a H Ext.refl ?_, fun _ _ p hp => q p _ (Ext.new hp) sqT_new⟩
  · rw [e]; exact h2
  · rw [e, List.append_nil]; exact h1
theorem cut_drop (xs : List V) (p : Nat) (h : p ≤ xs.length) : cutV xs (some (p : Int)) none = xs.drop p := by
  unfold cutV
  rw [HT.sIx_none, HT.sIx_nat, Nat.min_eq_left h]
  exact List.take_of_length_le (by rw [List.length_drop]; omega)
def putP (pl : List (Option Int)) (i : Nat) (h : Int) : List (Option Int) := pl.take i ++ [some h] ++ pl.drop (i + 1)
theorem putP_len {pl : List (Option Int)} {i : Nat} {h : Int} (hi : i < pl.length) : (putP pl i h).length = pl.length := by
  unfold putP
  rw [List.length_append, List.length_append, List.length_take, List.length_drop, List.length_singleton]
  omega
theorem putP_ok {n : Nat} {pl : List (Option Int)} {i : Nat} {h : Int} (ok : PlOk n pl) (hi : i < pl.length) (h0 : 0 ≤ h) (h11 : h ≤ 11) : PlOk n (putP pl i h) := ⟨by rw [putP_len hi, ok.len], fun x hx => by
  unfold putP at hx
  rcases List.mem_append.mp hx with hx | hx
  · rcases List.mem_append.mp hx with hx | hx
    · exact ok.ok x (List.mem_of_mem_take hx)
    · cases List.mem_singleton.mp hx
      exact ⟨h0, h11⟩
  · exact ok.ok x (List.mem_of_mem_drop hx)⟩
theorem isi_ll {K : PySem.W.Frag} {H : Hp} {Q : VK} {a : Addr} {xs : List V} (t : H a = some (.lst xs)) (h : Q (.bl true) H) : rIsi K [.ref a, .ty "list"] H Q :=
  ⟨.ref a, .ty "list", .type "list", .type "list", true, rfl, .ty _, .base (.lst t), kit_ty (by decide +kernel), h⟩
def crossF (k : Book) (pl : List (Option Int)) (i : Nat) (n : Nat) : List Row := match pl.getD i none with
  | some h => cat (fun j => if pl.getD j none = some h then crossO k i j else []) n
  | none => []
theorem crossF_all (k : Book) (pl : List (Option Int)) (i : Nat) : crossR k pl i = crossF k pl i pl.length := rfl
theorem crossF_zero (k : Book) (pl : List (Option Int)) (i : Nat) : crossF k pl i 0 = [] := by
  unfold crossF
  split <;> rfl
theorem crossF_none {k : Book} {pl : List (Option Int)} {i : Nat} (h : pl[i]? = some none) (n : Nat) : crossF k pl i n = [] := by
  unfold crossF
  rw [getD_of h]
theorem crossF_some {k : Book} {pl : List (Option Int)} {i j : Nat} {h : Int} {o : Option Int} (e : pl[i]? = some (some h)) (ej : pl[j]? = some o) : crossF k pl i (j + 1) = crossF k pl i j ++ (if o = some h then crossO k i j else []) := by
  unfold crossF
  rw [getD_of e]
  dsimp only
  rw [cat_succ, getD_of ej]
theorem crossF_le (k : Book) (pl : List (Option Int)) (i n : Nat) : (crossF k pl i n).length ≤ n := by
  unfold crossF
  split
  · exact crossJ_le k pl _ i n
  · exact Nat.zero_le _
theorem oV_eq {o u : Option Int} : oV o = oV u ↔ o = u := by
  cases o <;> cases u <;> simp [oV]
theorem scal_oo (o u : Option Int) : scal (oV o) (oV u) = true := by
  cases o <;> cases u <;> rfl
theorem map_int {xs : List Int} {i : Nat} {x : V} (h : (xs.map V.int)[i]? = some x) : ∃ n : Int, xs[i]? = some n ∧ x = V.int n := by
  rw [List.getElem?_map] at h
  cases e : xs[i]? with
  | none => rw [e] at h; cases h
  | some n => rw [e] at h; exact ⟨n, rfl, (Option.some.inj h).symm⟩
theorem map_nat {xs : List Nat} {i : Nat} {x : V} (h : (natsV xs)[i]? = some x) : ∃ n : Nat, xs[i]? = some n ∧ x = V.int (n : Int) := by
  unfold natsV at h
  rw [List.getElem?_map] at h
  cases e : xs[i]? with
  | none => rw [e] at h; cases h
  | some n => rw [e] at h; exact ⟨n, rfl, (Option.some.inj h).symm⟩
theorem natsV_len (xs : List Nat) : (natsV xs).length = xs.length := List.length_map ..
theorem natsV_app (xs : List Nat) (n : Nat) : natsV (xs ++ [n]) = natsV xs ++ [V.int (n : Int)] := by
  unfold natsV
  rw [List.map_append]
  rfl
theorem onS_of {k : Book} {n : Nat} {b : Barge} (h : k.bs[n]? = some b) (s : Nat) : onS k s n = (decide (b.b ≤ (s : Int)) && decide ((s : Int) < b.g)) := by
  unfold onS
  rw [h]
theorem filter_next {xs : List Nat} {i n : Nat} {f : Nat → Bool} (h : xs[i]? = some n) : (xs.take (i + 1)).filter f = (xs.take i).filter f ++ (if f n = true then [n] else []) := by
  rw [List.take_add_one, h, List.filter_append]
  by_cases e : f n = true
  · rw [if_pos e]
    simp [e]
  · rw [if_neg e]
    simp [e]
theorem rep_any {K : PySem.W.Frag} {H : Hp} {t : Addr} {x : V} {n : Nat} {Q : VK} (h : SqT K H t [x]) (n7 : n ≤ 1000) (q : ∀ c H', Ext [] H H' → SqT K H' c (List.replicate n x) → Q (.ref c) H') : rRepTA K (.ref t) (.int (n : Int)) H Q := by
  refine ⟨t, _, _, rfl, rfl, h, by simp, by omega, by omega, by show 1 ≤ 1000; decide, fun h1 => q t H Ext.refl ?_, fun h1 p hp => q p _ (Ext.new hp) ?_⟩
  · have one : n = 1 := by omega
    rw [one]
    exact h
  · have es : (List.replicate (n : Int).toNat [x]).flatten = List.replicate n x := by
      rw [Int.toNat_natCast]
      simp [List.flatten_replicate_singleton]
    rw [← es]
    exact sqT_new
theorem repNone_any {K : PySem.W.Frag} {H : Hp} {t : Addr} {n : Nat} {Q : VK} (h : SqT K H t [.non]) (n7 : n ≤ 1000) (q : ∀ c H', Ext [] H H' → SqT K H' c ((List.replicate n none).map oV) → Q (.ref c) H') : rRepTA K (.ref t) (.int (n : Int)) H Q :=
  rep_any h n7 fun c H' e s => q c H' e (by rw [List.map_replicate]; exact s)
theorem eqv_nil {rs : List Row} (h : PyData.eqv (rowsD rs) (.list []) = true) : rs = [] := by
  cases rs with
  | nil => rfl
  | cons r rs => exact absurd h (by show ¬ (PyData.eqv (.list (rowD r :: rs.map rowD)) (.list []) = true); simp [PyData.eqv, PyData.eqvAll])
theorem cat_all {α : Type} {f : Nat → List α} : ∀ {n : Nat}, (∀ i, i < n → f i = []) → cat f n = []
  | 0, _ => rfl
  | n + 1, h => by rw [cat_succ, cat_all fun i hi => h i (by omega), h n (by omega)]; rfl
theorem allR_open (k : Book) (n : Nat) : allR k (List.replicate n none) = [] := by
  have g : ∀ i, (List.replicate n (none : Option Int)).getD i none = none := fun i => by
    rw [List.getD_eq_getElem?_getD, List.getElem?_replicate]
    split <;> rfl
  have h0 : hoursL (List.replicate n none) = [] := by simp [hoursL, hoursN]
  have h1 : bargesA k (List.replicate n none) = [] := cat_all fun i _ => by
    unfold bargeR
    rw [g i]
  have h2 : fullA k (List.replicate n none) = [] := by
    unfold fullA
    rw [h0]
    rfl
  have h3 : crossA k (List.replicate n none) = [] := cat_all fun i _ => by
    unfold crossR
    rw [g i]
  unfold allR
  rw [h1, h2, h3]
  rfl
theorem Ext.bornAll {H H1 H2 : Hp} {ex : List Addr} (e : Ext [] H H1) (hn : ∀ b ∈ ex, H b = none) (f : Ext ex H1 H2) : Ext [] H H2 where
  tup := fun b xs z => f.tup b xs (e.tup b xs z)
  frz := fun b o u z => f.frz b o u (e.frz b o u z)
  tbl := fun b ps z t => let ⟨ps', z', t'⟩ := e.tbl b ps z t; f.tbl b ps' z' t'
  lst := fun b xs n z => f.lst b xs (fun q => by rw [hn b q] at z; cases z) (e.lst b xs n z)
  oth := fun b u n t z => f.oth b u (fun q => by rw [hn b q] at z; cases z) t (e.oth b u n t z)
  dom := fun b z => e.dom b (f.dom b z)
theorem map_take {α β : Type} {f : α → β} {xs : List α} {i : Nat} {x : α} (h : xs[i]? = some x) : (xs.take (i + 1)).map f = (xs.take i).map f ++ [f x] := by
  rw [List.take_add_one, h, List.map_append]
  rfl
/-- the barges that have an hour -/
def setN (pl : List (Option Int)) (n : Nat) : List Nat := cat (fun i => if pl.getD i none = none then [] else [i]) n
theorem setN_succ (pl : List (Option Int)) (n : Nat) : setN pl (n + 1) = setN pl n ++ (if pl.getD n none = none then [] else [n]) := by
  unfold setN
  rw [cat_succ]
theorem setN_le (pl : List (Option Int)) (n : Nat) : (setN pl n).length ≤ n := by
  unfold setN
  have z := cat_le (f := fun i => if pl.getD i none = none then [] else [i]) (c := 1) (fun i => by split <;> simp) n
  omega
end GD

namespace GD
open PySem PySem.Spec PyProof.Rows L2 GxR GX GS GT GC
mutual
theorem Ext.dp {K : PySem.W.Frag} {H H1 : Hp} (e : Ext [] H H1) : ∀ {v : V} {d : PyData}, Dp K H v d → Dp K H1 v d
  | _, _, .non => .non
  | _, _, .bl b => .bl b
  | _, _, .int i => .int i
  | _, _, .str x => .str x
  | _, _, .lst h1 h2 => .lst (e.sqL (by simp) h1) (e.dpAll h2)
  | _, _, .tup h1 h2 => .tup (e.sqT h1) (e.dpAll h2)
theorem Ext.dpAll {K : PySem.W.Frag} {H H1 : Hp} (e : Ext [] H H1) : ∀ {vs : List V} {ds : List PyData}, DpAll K H vs ds → DpAll K H1 vs ds
  | _, _, .nil => .nil
  | _, _, .cons a b => .cons (e.dp a) (e.dpAll b)
end
theorem eqDK {X : Cx} (K : PySem.W.Frag) (hu : X.A.units + 64 < cLine) (hk : X.K = K) : OpR X (compareOp .Eq) (rEqD K) := by
  subst hk
  exact op_eqD hu
theorem neDK {X : Cx} (K : PySem.W.Frag) (hu : X.A.units + 64 < cLine) (hk : X.K = K) : OpR X (compareOp .NotEq) (rNeD K) := by
  subst hk
  exact op_neD hu
def tTr (K : PySem.W.Frag) (ta : TE) : TT := fun σ H Q => ta σ H fun x H' => ∃ k, TruV K x H' k ∧ Q k H'
theorem pt_tru {X : Cx} {a : Expr} {ta : TE} (K : PySem.W.Frag) (ha : PE X a ta) (hk : X.K = K) (he : ∀ whole, isTrue a X.env whole = (do let v ← whole; standAt a.pos; holding [v] (truthy v))) : PT X a (tTr K ta) := by
  subst hk
  exact pt_truth ha he
/-! ### data of tuples and scalars -/
mutual
inductive Td (K : PySem.W.Frag) (H : Hp) : V → PyData → Prop
  | non : Td K H .non .none
  | bl (b : Bool) : Td K H (.bl b) (.bool b)
  | int (i : Int) : Td K H (.int i) (.int i)
  | str (x : Str) : Td K H (.str x) (.str x)
  | tup {a : Addr} {xs : List V} {ds : List PyData} : SqT K H a xs → TdAll K H xs ds → Td K H (.ref a) (.tuple ds)
inductive TdAll (K : PySem.W.Frag) (H : Hp) : List V → List PyData → Prop
  | nil : TdAll K H [] []
  | cons {v : V} {vs : List V} {d : PyData} {ds : List PyData} : Td K H v d → TdAll K H vs ds → TdAll K H (v :: vs) (d :: ds)
end
mutual
theorem Ext.td {K : PySem.W.Frag} {ex : List Addr} {H H1 : Hp} (e : Ext ex H H1) : ∀ {v : V} {d : PyData}, Td K H v d → Td K H1 v d
  | _, _, .non => .non
  | _, _, .bl b => .bl b
  | _, _, .int i => .int i
  | _, _, .str x => .str x
  | _, _, .tup h1 h2 => .tup (e.sqT h1) (e.tdAll h2)
theorem Ext.tdAll {K : PySem.W.Frag} {ex : List Addr} {H H1 : Hp} (e : Ext ex H H1) : ∀ {vs : List V} {ds : List PyData}, TdAll K H vs ds → TdAll K H1 vs ds
  | _, _, .nil => .nil
  | _, _, .cons a b => .cons (e.td a) (e.tdAll b)
end
mutual
theorem Td.dp {K : PySem.W.Frag} {H : Hp} : ∀ {v : V} {d : PyData}, Td K H v d → Dp K H v d
  | _, _, .non => .non
  | _, _, .bl b => .bl b
  | _, _, .int i => .int i
  | _, _, .str x => .str x
  | _, _, .tup h1 h2 => .tup h1 h2.dp
theorem TdAll.dp {K : PySem.W.Frag} {H : Hp} : ∀ {vs : List V} {ds : List PyData}, TdAll K H vs ds → DpAll K H vs ds
  | _, _, .nil => .nil
  | _, _, .cons a b => .cons a.dp b.dp
end
theorem TdAll.app {K : PySem.W.Frag} {H : Hp} : ∀ {vs ws : List V} {ds es : List PyData}, TdAll K H vs ds → TdAll K H ws es → TdAll K H (vs ++ ws) (ds ++ es)
  | _, _, _, _, .nil, h => h
  | _, _, _, _, .cons a b, h => .cons a (b.app h)
theorem TdAll.len {K : PySem.W.Frag} {H : Hp} : ∀ {vs : List V} {ds : List PyData}, TdAll K H vs ds → vs.length = ds.length
  | _, _, .nil => rfl
  | _, _, .cons a b => by rw [List.length_cons, List.length_cons, b.len]
theorem td_row {K : PySem.W.Frag} {H : Hp} : ∀ r : Row, TdAll K H (r.map Fl.v) (r.map Fl.d)
  | [] => .nil
  | .s x _ :: r => .cons (.str x) (td_row r)
  | .i n :: r => .cons (.int n) (td_row r)
theorem IsRow.td {K : PySem.W.Frag} {H : Hp} {v : V} {r : Row} (h : IsRow K H v r) : Td K H v (rowD r) := by
  obtain ⟨t, rfl, z⟩ := h
  exact .tup z (td_row r)
/-! ### least of a list -/
def minD (ns : List Int) : Int := (ns.min?).getD 0
theorem minD_eq {ns : List Int} {m : Int} (h1 : m ∈ ns) (h2 : ∀ y, y ∈ ns → m ≤ y) : m = minD ns := by
  have h : ns.min? = some m := List.min?_eq_some_iff.mpr ⟨h1, h2⟩
  unfold minD
  rw [h]
  rfl
def dls (k : Book) (b : Barge) (h : Int) (n : Nat) : List Int := (List.range n).map fun j => depthAt (strN k (b.b.toNat + j)) (comesAt k (b.b + j) h)
theorem dls_succ (k : Book) (b : Barge) (h : Int) (n : Nat) : dls k b h (n + 1) = dls k b h n ++ [depthAt (strN k (b.b.toNat + n)) (comesAt k (b.b + n) h)] := by
  unfold dls
  rw [List.range_succ, List.map_append]
  rfl
theorem dls_len (k : Book) (b : Barge) (h : Int) (n : Nat) : (dls k b h n).length = n := by
  unfold dls
  rw [List.length_map, List.length_range]
/-- what a barge has to spare -/
def spareR (k : Book) (b : Barge) (h : Int) : Row := [.i (h + hsum k.rv b.b.toNat - b.r), .i (b.u - (h + hsum k.rv b.g.toNat)), .i (minD (dls k b h (b.g - b.b).toNat) - b.d)]
def spareD (k : Book) (pl : List (Option Int)) (i : Nat) : PyData := match pl.getD i none, k.bs[i]? with
  | some h, some b => rowD (spareR k b h)
  | _, _ => .none
theorem spareD_none {k : Book} {pl : List (Option Int)} {i : Nat} (h : pl[i]? = some none) : spareD k pl i = .none := by
  unfold spareD
  rw [getD_of h]
theorem spareD_some {k : Book} {pl : List (Option Int)} {i : Nat} {h : Int} {b : Barge} (e : pl[i]? = some (some h)) (eb : k.bs[i]? = some b) : spareD k pl i = rowD (spareR k b h) := by
  unfold spareD
  rw [getD_of e, eb]
def spareN (k : Book) (pl : List (Option Int)) (n : Nat) : List PyData := (List.range n).map (spareD k pl)
theorem spareN_succ (k : Book) (pl : List (Option Int)) (n : Nat) : spareN k pl (n + 1) = spareN k pl n ++ [spareD k pl n] := by
  unfold spareN
  rw [List.range_succ, List.map_append]
  rfl
theorem spareN_len (k : Book) (pl : List (Option Int)) (n : Nat) : (spareN k pl n).length = n := by
  unfold spareN
  rw [List.length_map, List.length_range]
theorem lay_list {g : Nat → PyData} {n : Nat} (h : ∀ a, (g a).canLay0 = true ∧ (g a).depth ≤ n) : ∀ as : List Nat, PyData.canLayAll0 (as.map g) = true ∧ PyData.depthAll (as.map g) ≤ n
  | [] => ⟨rfl, Nat.zero_le _⟩
  | a :: as => by
    obtain ⟨h1, h2⟩ := lay_list h as
    obtain ⟨k1, k2⟩ := h a
    constructor
    · show (PyData.canLay0 (g a) && PyData.canLayAll0 (as.map g)) = true
      rw [h1, k1]
      rfl
    · show max (PyData.depth (g a)) (PyData.depthAll (as.map g)) ≤ n
      omega
theorem lay_rowD (r : Row) : (rowD r).canLay0 = true ∧ (rowD r).depth ≤ 1 := by
  obtain ⟨h1, h2⟩ := lay_row r
  exact ⟨h1, by show PyData.depthAll _ + 1 ≤ 1; omega⟩
theorem shaped_at {d : PyData} {n : Nat} (h : d.canLay0 = true ∧ d.depth ≤ n) (hn : n ≤ 64) : SeqAt.shaped d = true := by
  unfold SeqAt.shaped
  rw [h.1, Bool.true_and, decide_eq_true_eq]
  have := h.2
  omega
theorem lay_spare (k : Book) (pl : List (Option Int)) (n : Nat) : (PyData.list (spareN k pl n)).canLay0 = true ∧ (PyData.list (spareN k pl n)).depth ≤ 2 := by
  obtain ⟨h1, h2⟩ := lay_list (g := spareD k pl) (n := 1) (fun i => by
    unfold spareD
    split
    · exact lay_rowD _
    · exact ⟨rfl, Nat.zero_le _⟩) (List.range n)
  exact ⟨h1, by show PyData.depthAll _ + 1 ≤ 2; exact Nat.succ_le_succ h2⟩
/-! ### for each hour, what speaks against it -/
def alonesD (k : Book) (i : Nat) (b : Barge) (n : Nat) : List PyData := (List.range n).map fun h : Nat => rowsD (aloneR k i b (h : Int))
theorem alonesD_succ (k : Book) (i : Nat) (b : Barge) (n : Nat) : alonesD k i b (n + 1) = alonesD k i b n ++ [rowsD (aloneR k i b (n : Int))] := by
  unfold alonesD
  rw [List.range_succ, List.map_append]
  rfl
theorem lay_alones (k : Book) (i : Nat) (b : Barge) (n : Nat) : (PyData.list (alonesD k i b n)).canLay0 = true ∧ (PyData.list (alonesD k i b n)).depth ≤ 3 := by
  obtain ⟨h1, h2⟩ := lay_list (g := fun h : Nat => rowsD (aloneR k i b (h : Int))) (n := 2) (fun h => by
    obtain ⟨a, c⟩ := lay_rows (aloneR k i b (h : Int))
    exact ⟨a, by show PyData.depthAll _ + 1 ≤ 2; omega⟩) (List.range n)
  exact ⟨h1, by show PyData.depthAll _ + 1 ≤ 3; exact Nat.succ_le_succ h2⟩
/-- a list of one's own, for an hour -/
def IsAlone (B : Hp) (K : PySem.W.Frag) (H : Hp) (k : Book) (i : Nat) (b : Barge) (v : V) (h : Nat) : Prop := ∃ d, v = .ref d ∧ B d = none ∧ IsList K H d (aloneR k i b (h : Int))
theorem Ext.alone {ex : List Addr} {H H1 B : Hp} {K : PySem.W.Frag} {k : Book} {i : Nat} {b : Barge} {v : V} {h : Nat} (e : Ext ex H H1) (n : ∀ x ∈ ex, B x ≠ none) (z : IsAlone B K H k i b v h) : IsAlone B K H1 k i b v h :=
  let ⟨d, z1, z2, z3⟩ := z
  ⟨d, z1, z2, e.rows (fun q => n d q z2) z3⟩
theorem alones_dp {B : Hp} {K : PySem.W.Frag} {H : Hp} {k : Book} {i : Nat} {b : Barge} {hs : List Nat} : ∀ {vs : List V} {hs : List Nat}, Paired (IsAlone B K H k i b) vs hs → DpAll K H vs (hs.map fun h : Nat => rowsD (aloneR k i b (h : Int)))
  | _, _, .nil => .nil
  | _, _, .cons ⟨d, z1, _, z3⟩ t => .cons (by rw [z1]; exact z3.dp) (alones_dp (hs := hs) t)
theorem alones_dpN {B : Hp} {K : PySem.W.Frag} {H : Hp} {k : Book} {i : Nat} {b : Barge} {vs : List V} {n : Nat} (h : Paired (IsAlone B K H k i b) vs (List.range n)) : DpAll K H vs (alonesD k i b n) := alones_dp (hs := []) h
/-! ### plans with hours given to several -/
def joinP (pl : List (Option Int)) (g : List Nat) (h : Int) : List (Option Int) := g.foldl (fun p b => putP p b h) pl
theorem joinP_len {h : Int} : ∀ {g : List Nat} {pl : List (Option Int)}, (∀ b ∈ g, b < pl.length) → (joinP pl g h).length = pl.length
  | [], _, _ => rfl
  | b :: g, pl, hb => by
    show (joinP (putP pl b h) g h).length = _
    have e := putP_len (h := h) (hb b (by simp))
    rw [joinP_len fun x hx => by rw [e]; exact hb x (by simp [hx]), e]
theorem joinP_ok {n : Nat} {h : Int} (h0 : 0 ≤ h) (h11 : h ≤ 11) : ∀ {g : List Nat} {pl : List (Option Int)}, PlOk n pl → (∀ b ∈ g, b < pl.length) → PlOk n (joinP pl g h)
  | [], _, ok, _ => ok
  | b :: g, pl, ok, hb => by
    show PlOk n (joinP (putP pl b h) g h)
    exact joinP_ok (pl := putP pl b h) h0 h11 (putP_ok ok (hb b (by simp)) h0 h11) fun x hx => by rw [putP_len (hb b (by simp))]; exact hb x (by simp [hx])
theorem joinP_take {pl : List (Option Int)} {g : List Nat} {h : Int} {i b : Nat} (e : g[i]? = some b) : joinP pl (g.take (i + 1)) h = putP (joinP pl (g.take i) h) b h := by
  unfold joinP
  rw [List.take_add_one, e, List.foldl_append]
  rfl
def togN (k : Book) (i j : Nat) (n : Nat) : List Nat := cat (fun h : Nat => if allR k (joinP (List.replicate k.bs.length none) [i, j] (h : Int)) = [] then [h] else []) n
theorem togN_succ (k : Book) (i j : Nat) (n : Nat) : togN k i j (n + 1) = togN k i j n ++ (if allR k (joinP (List.replicate k.bs.length none) [i, j] (n : Int)) = [] then [n] else []) := by
  unfold togN
  rw [cat_succ]
theorem togN_le (k : Book) (i j : Nat) (n : Nat) : (togN k i j n).length ≤ n := by
  unfold togN
  have z := cat_le (f := fun h : Nat => if allR k (joinP (List.replicate k.bs.length none) [i, j] (h : Int)) = [] then [h] else []) (c := 1) (fun i => by split <;> simp) n
  omega
theorem open_ok (n : Nat) : PlOk n (List.replicate n none) := ⟨by simp, fun h hh => absurd hh (by simp)⟩
theorem lay_natsL (xs : List Nat) : (PyData.list (xs.map fun i : Nat => PyData.int (i : Int))).canLay0 = true ∧ (PyData.list (xs.map fun i : Nat => PyData.int (i : Int))).depth ≤ 1 := by
  obtain ⟨h1, h2⟩ := lay_list (g := fun i : Nat => PyData.int (i : Int)) (n := 0) (fun a => ⟨rfl, Nat.le_refl _⟩) xs
  exact ⟨h1, by show PyData.depthAll _ + 1 ≤ 1; exact Nat.succ_le_succ h2⟩
theorem dp_natsL {K : PySem.W.Frag} {H : Hp} : ∀ xs : List Nat, DpAll K H (natsV xs) (xs.map fun i : Nat => .int (i : Int))
  | [] => .nil
  | x :: xs => .cons (.int _) (dp_natsL xs)
theorem eqv_same {d : PyData} (h : d.canLay0 = true) : PyData.eqv d d = true := SeqAt.eqv_refl _ h
end GD

/-! ### rules around exceptions -/
namespace GXC
open PySem PySem.Spec PyProof.Rows L2
theorem eqU_count {k : V} {uk : Value} (rk : RelV k uk) : ∀ {ys : List V} {us : List Value}, Vals ys us → ys.all flatV = true → us.countP (eqU k) = ys.countP fun y => eqV y k
  | _, _, .nil, _ => rfl
  | y :: ys, u :: us, .cons r t, h => by
    rw [List.all_cons, Bool.and_eq_true] at h
    rw [List.countP_cons, List.countP_cons, eqU_count rk t h.2, eqU_of r h.1]
section
variable {X : Cx}
def rCntF (K : PySem.W.Frag) : V → List V → Hp → VK → Prop := fun x xs H Q => ∃ (p : Addr) (ys : List V) (y : V), x = .ref p ∧ xs = [y] ∧ SqL K H p ys ∧ flatV y = true ∧ ys.all flatV = true ∧ Q (.int ((ys.countP fun z => eqV z y : Nat) : Int)) H
theorem mt_countF : MtR X "list.count" (rCntF X.K) := by
  intro pins s σ H x xs v us Q I rx rxs h
  obtain ⟨p, ys, y, rfl, rfl, hs, fy, fys, q⟩ := h
  cases rx
  cases rxs with
  | cons ry rt =>
    rename_i uy ut
    cases rt
    obtain ⟨its, rv, ⟨⟨cls, dd, data, sl⟩, n, ho, hc, hdn, hd⟩, hlen⟩ := I.list hs
    simp only at hc hd
    subst hc hd
    refine call_meets PySem.F.slot_list_count ⟨_, ho, rfl⟩ PySem.F.entry_list_count (PySem.F.args_list_count_2 _ _)
      (SeqAt.list_countAt p its.toArray n dd sl uy (eqU y)) ⟨ho, fun u' hu' => mem_eqAt ry fy rv fys u' (by simpa using hu'), ?_⟩
    have ec : its.toArray.toList.countP (eqU y) = ys.countP fun z => eqV z y := by
      rw [List.toList_toArray]
      exact eqU_count ry rv fys
    refine ⟨.int ((ys.countP fun z => eqV z y : Nat) : Int), H, I.tok _, ⟨s.toks, ?_⟩, q⟩
    show Value.int ((its.toArray.toList.countP (eqU y) : Nat) : Int) s.toks = Value.int ((ys.countP fun z => eqV z y : Nat) : Int) s.toks
    rw [ec]
end
theorem countK {X : Cx} (K : PySem.W.Frag) (h : X.K = K) : MtR X "list.count" (rCntF K) := by
  subst h
  exact mt_countF
theorem indexK {X : Cx} (K : PySem.W.Frag) (h : X.K = K) : MtR X "list.index" (rIndex K) := by
  subst h
  exact mt_index
section
variable {X : Cx} {o e : Expr} {es : List Expr} {to : TE} {t : TA} {name : Str} {apos cpos : Pos} {T id : String} {r : V → List V → Hp → VK → Prop}
theorem pe_bmK (K : PySem.W.Frag) (hk : X.K = K) (pa : PlainAttrs T) (slot : Slot T name id) (hty : typeOf (.builtin id) = pure (.type "method_descriptor")) (hm : MtR X id r) (ho : PE X o to) (ha : PA X (e :: es) t)
    (hbase : attributeBase o name X.env (eval o X.env) = eval o X.env := by rfl)
    (hfew : ((backTo cpos (starEach (e :: es) X.env)).all (fun x => !x.1) && (backToKw cpos (keywordEach [] X.env)).all (fun x => x.1.isSome)
      && decide ((e :: es).length + ([] : List Keyword).length + (if ([] : List Keyword).isEmpty then 0 else 1) < 30)) = true := by rfl)
    (hline : (apos.endLine == cpos.line) = true := by rfl) (hs : starEach (e :: es) X.env = (false, eval e X.env) :: starEach es X.env := by rfl) (hplain : (backTo cpos (starEach es X.env)).any (·.1) = false := by rfl) :
    PE X (.Call (.Attribute o name apos) (e :: es) [] cpos) (tBM K T r to t) := by
  subst hk
  exact pe_bm pa slot hty hm ho ha hbase hfew hline hs hplain
end
/-- the exception's own dict: none, or tracked -/
def OwnD (H : Hp) (d : Option Addr) : Prop := d = none ∨ ∃ dd fs, d = some dd ∧ H dd = some (.xd fs)
/-- isinstance(e, c), e the exception that the suite holds, of a class that the reading tells -/
def rIsX (K : PySem.W.Frag) (a : Addr) (cls : Value) (d : Option Addr) : List V → Hp → VK → Prop := fun xs H Q => ∃ (D : Addr) (c : V) (cv : Value) (b : Bool), cls = .ref D ∧ OwnD H d ∧ ExcC K D ∧ xs = [.ref a, c] ∧ ClsV c cv ∧ PySem.W.kitOne K (.ref D) cv = some b ∧ Q (.bl b) H
def rIsXT (K : PySem.W.Frag) (a : Addr) (cls : Value) (d : Option Addr) : List V → Hp → VK → Prop := fun xs H Q => ∃ (D tp : Addr) (cs : List V) (us : List Value) (b : Bool), cls = .ref D ∧ OwnD H d ∧ ExcC K D ∧ xs = [.ref a, .ref tp] ∧ H tp = some (.tup cs) ∧ Paired ClsV cs us ∧ PySem.W.kitAny K (.ref D) us = some b ∧ Q (.bl b) H
section
variable {X : Cx} {a : Addr} {cls : Value} {d : Option Addr} {oe : Obj} {pn : List (Addr × Obj)}
theorem kitC {D x : Addr} {ox : Obj} {od : Option Obj} (C : ExcC X.K D) : PySem.W.KitX X.K (.ref x) (.ref D) (fun h => PySem.W.InstAt h x ox D od) := by
  refine PySem.W.kitx_exc ?_ C.hg C.hk C.hs C.ha C.hn C.ht C.hm
  obtain ⟨cd, hc, _⟩ := PySem.W.any_some C.hd
  rw [hc]
  rfl
theorem inst_of {D : Addr} {pins : List (Addr × Obj)} {s : Shared} {σ : L2.St} {H : Hp} (I : Inv (X.suite a ((a, oe) :: pn)) pins σ H s) (hz : Zc (.ref D) d oe) (hf : ∃ vs, oe.data = .fields vs) (od : OwnD H d) : ∃ oo, PySem.W.InstAt s.heap a oe D oo := by
  obtain ⟨hget, _⟩ := I.pin (a, oe) (List.mem_append.mpr (.inl List.mem_cons_self))
  obtain ⟨vs, hv⟩ := hf
  have ncl : PySem.W.notCls oe := by unfold PySem.W.notCls; rw [hv] <;> rfl
  rcases od with rfl | ⟨dd, fs, rfl, hd⟩
  · exact ⟨none, hget, hz.1, ncl, by rw [hz.2]; trivial⟩
  · have hx : ObjOk X.prog X.w H s.heap dd (.xd fs) := I.hok dd _ hd
    obtain ⟨mA, hns, _⟩ := hx
    obtain ⟨od, ho, _⟩ := lookIn_ns hns
    exact ⟨some od, hget, hz.1, ncl, by rw [hz.2]; exact ho⟩
theorem call_isX (hz : Zc cls d oe) (hf : ∃ vs, oe.data = .fields vs) : CallR (X.suite a ((a, oe) :: pn)) (.builtin "isinstance") (rIsX X.K a cls d) := by
  intro pins s σ H xs us Q I r h
  obtain ⟨D, c, cv, b, rfl, od, C, rfl, hcv, e, q⟩ := h
  cases r with
  | cons rx rr =>
    cases rr with
    | cons rt rr =>
      cases rr
      cases rx
      have ec := hcv.eq rt
      subst ec
      obtain ⟨oo, J⟩ := inst_of I hz hf od
      exact PySem.W.kia_one (kitC C) I.kIn J e (fun z => nomatch z) fun tk => ⟨.bl b, H, I.kept (t' := tk) fun _ _ z => z, rfl, q⟩
theorem call_isXT (hz : Zc cls d oe) (hf : ∃ vs, oe.data = .fields vs) : CallR (X.suite a ((a, oe) :: pn)) (.builtin "isinstance") (rIsXT X.K a cls d) := by
  intro pins s σ H xs us Q I r h
  obtain ⟨D, tp, cs, ws, b, rfl, od, C, rfl, hT, k, e, q⟩ := h
  obtain ⟨u1, u2, rfl, r1, r2⟩ := vals2 r
  cases (show u2 = Value.ref tp from r2)
  cases r1
  obtain ⟨oo, J⟩ := inst_of I hz hf od
  obtain ⟨_, its, rv, o, h1, h2, n, h3⟩ := (show ObjOk X.prog X.w H s.heap tp (.tup cs) from I.hok tp _ hT)
  have e3 := ClsV.all k rv
  subst e3
  obtain ⟨oc, od2, dt, sl⟩ := o
  simp only at h2 h3
  subst h2 h3
  exact PySem.W.kia_tup (kitC C) I.kIn J h1 e (fun z => nomatch z) fun tk => ⟨.bl b, H, I.kept (t' := tk) fun _ _ z => z, rfl, q⟩
end
/-! ### what the head tells of exception classes -/
open PySem.W in
def excCB (K : PySem.W.Frag) (D : Addr) : Bool :=
  He.eqO (findIn K (.ref D) "__getattribute__") (some (some (.builtin "BaseException.__getattribute__"))) && (He.eqO (findIn K (.ref D) "__getattr__") (some none) && (decide (subIn K (.ref D) (.type "BaseException") = some true) && (hasDictIn K D &&
    (He.eqO (findIn K (.ref D) "__class__") (some (some (.builtin "object.__class__"))) && (He.eqO (specialIn K (.builtin "object.__class__") "__get__") (some (some (.builtin "getset_descriptor.__get__"))) && (decide (takesIn K (.builtin "object.__class__") = some true) && decide (mroIn K D (.type "object") = some true)))))))
theorem excCB_ok {K : PySem.W.Frag} {D : Addr} (h : excCB K D = true) : ExcC K D := by
  obtain ⟨h1, h⟩ := He.ba h
  obtain ⟨h2, h⟩ := He.ba h
  obtain ⟨h3, h⟩ := He.ba h
  obtain ⟨h4, h⟩ := He.ba h
  obtain ⟨h5, h⟩ := He.ba h
  obtain ⟨h6, h⟩ := He.ba h
  obtain ⟨h7, h8⟩ := He.ba h
  exact ⟨He.eqO_ok h1, He.eqO_ok h2, of_decide_eq_true h3, h4, He.eqO_ok h5, He.eqO_ok h6, of_decide_eq_true h7, of_decide_eq_true h8⟩
def exAll (cs : List Str) (K : PySem.W.Frag) : Bool := cs.all fun c => excCB K (He.ga K c) && (decide (PySem.W.kitOne K (.ref (He.ga K c)) (.type "ValueError") = some true) && cs.all fun d => decide (PySem.W.kitOne K (.ref (He.ga K c)) (.ref (He.ga K d)) = some (decide (c = d))))
theorem exAll_c {cs : List Str} {K : PySem.W.Frag} (h : exAll cs K = true) {c : Str} (hc : c ∈ cs) : ExcC K (He.ga K c) ∧ PySem.W.kitOne K (.ref (He.ga K c)) (.type "ValueError") = some true := by
  have h1 := List.all_eq_true.mp h c hc
  obtain ⟨a, b⟩ := He.ba h1
  obtain ⟨b1, b2⟩ := He.ba b
  exact ⟨excCB_ok a, of_decide_eq_true b1⟩
theorem exAll_k {cs : List Str} {K : PySem.W.Frag} (h : exAll cs K = true) {c d : Str} (hc : c ∈ cs) (hd : d ∈ cs) : PySem.W.kitOne K (.ref (He.ga K c)) (.ref (He.ga K d)) = some (decide (c = d)) := by
  have h1 := List.all_eq_true.mp h c hc
  obtain ⟨a, b⟩ := He.ba h1
  obtain ⟨b1, b2⟩ := He.ba b
  exact of_decide_eq_true (List.all_eq_true.mp b2 d hd)
end GXC

/-! ### tuple(elt for tg in iter if ..) -/
namespace GX
open PySem PySem.Spec PyProof.Rows L2 GxR GenW
/-- two built-in calls deeper -/
abbrev up2 (X : Cx) : Cx := { X with A := X.A.in1.in1 }
theorem inv_up {X : Cx} {s4 : Shared} {H4 : Hp} {cenv : Env} {fp : List Addr} {pn pins : List (Addr × Obj)} {σ : L2.St} {H : Hp} {s : Shared} (I : Inv (gcx X s4 H4 cenv fp pn) pins σ H s) : Inv (gcx (up2 X) s4 H4 cenv fp pn) pins σ H s :=
  ⟨⟨I.ok.mod, I.ok.kind, I.ok.glob, I.ok.blt, I.ok.above, I.ok.inj, I.ok.has, I.ok.cab, I.ok.hd, I.ok.frames, I.ok.stk, I.ok.exf, I.ok.bs, I.ok.bsz, I.ok.noex, I.ok.exfs, I.ok.funs, I.ok.frf⟩, I.os, I.bare, I.base, I.loc, I.cell, I.free, I.freeC, I.pin, I.hok, I.len⟩
theorem inv_down {X : Cx} {s4 : Shared} {H4 : Hp} {cenv : Env} {fp : List Addr} {pn pins : List (Addr × Obj)} {σ : L2.St} {H : Hp} {s : Shared} (I : Inv (gcx (up2 X) s4 H4 cenv fp pn) pins σ H s) : Inv (gcx X s4 H4 cenv fp pn) pins σ H s :=
  ⟨⟨I.ok.mod, I.ok.kind, I.ok.glob, I.ok.blt, I.ok.above, I.ok.inj, I.ok.has, I.ok.cab, I.ok.hd, I.ok.frames, I.ok.stk, I.ok.exf, I.ok.bs, I.ok.bsz, I.ok.noex, I.ok.exfs, I.ok.funs, I.ok.frf⟩, I.os, I.bare, I.base, I.loc, I.cell, I.free, I.freeC, I.pin, I.hok, I.len⟩
def IpLst (S : Addr) (z : List V) (ip : List (Addr × Obj)) : Prop := ∃ acc c, ip = [(S, lstObj acc c)] ∧ Vals z acc.toList
section
variable {X : Cx} {s4 : Shared} {H4 : Hp} {cenv : Env} {fp : List Addr} {pn : List (Addr × Obj)} {tn : Nat → Heap → Prop} {σ0 : L2.St}
theorem inv_lst {S : Addr} {H : Hp} {s : Shared} {acc acc' : Array Value} {c c' : Nat} {h' : Heap} {tk : Nat} (I : Inv (gcx X s4 H4 cenv fp pn) [(S, lstObj acc c)] σ0 H s)
    (hSfp : S ∉ fp) (hSpn : ∀ p ∈ pn, p.1 ≠ S) (hS4 : s4.heap.objs.size ≤ S) (hk : ∀ b o, b ≠ S → s.heap.get? b = some o → h'.get? b = some o) (hS : h'.get? S = some (lstObj acc' c')) :
    Inv (gcx X s4 H4 cenv fp pn) [(S, lstObj acc' c')] σ0 H { s with heap := h', toks := tk } := by
  obtain ⟨p1, p2, p3, p4, p5⟩ := I.pin (S, lstObj acc c) (List.mem_append_right _ (List.mem_singleton.mpr rfl))
  have I0 : Inv (gcx X s4 H4 cenv fp pn) [] σ0 H s := I.pins_of fun p hp => absurd hp (by simp)
  have I1 : Inv (gcx X s4 H4 cenv fp pn) [] σ0 H { s with heap := h', toks := tk } := by
    refine I0.turned (it := S) hk p2 p3 (.inr hS4) (fun x cc e zz => ?_) fun p hp => ?_
    · obtain ⟨v, o, ho, hd⟩ := I.cell x cc e
      rw [zz, p1] at ho
      cases ho
      cases hd
    · rw [List.append_nil] at hp
      exact hSpn p hp
  refine I1.pins_of fun p hp => ?_
  rw [List.mem_singleton.mp hp]
  exact ⟨hS, p2, p3, p4, fun v q => by cases q⟩
theorem vals_push {z : List V} {acc : Array Value} {y : V} {v : Value} (h : Vals z acc.toList) (r : RelV y v) : Vals (z ++ [y]) (acc.push v).toList := by
  rw [Array.toList_push]
  exact h.append (.cons r .nil)
variable {W : Nat → Nat → List V → Hp → Prop} {Sp : List V → Hp → Prop} {Yw : List V → (List V → Hp → Prop) → V → Hp → Prop} {a : Addr} {g : Nat}
theorem tup_loop {Rr : Result → Shared → Prop} {S : Addr} {res : Value} (hh : X.A.handled = none) (hroom : X.A.depth < recursionLimit) (hgen : ∀ s ip H, Inv (gcx X s4 H4 cenv fp pn) ip σ0 H s → s.heap.IsGen a g)
    (hSfp : S ∉ fp) (hSpn : ∀ p ∈ pn, p.1 ≠ S) (hS4 : s4.heap.objs.size ≤ S) (hkeep : ∀ i (h h' : Heap), tn i h → (∀ b ∈ fp, ∀ o, h.get? b = some o → h'.get? b = some o) → tn i h')
    (hYw : ∀ z Nx y H, Yw z Nx y H → z.length < sizeLine ∧ Nx (z ++ [y]) H)
    (hR : ∀ z acc c H s', Vals z acc.toList → Inv (gcx X s4 H4 cenv fp pn) [(S, lstObj acc c)] σ0 H s' → Sp z H → Rr (.ok (.ret res)) s') :
    ∀ (n : Nat) (s : Shared), (∃ gs, s.gens[g]? = some gs ∧ gs.Goes (model X.prog X.w) X.A.in1.in1 (fun n s₀ r s₁ => r = .ok .next ∧ GEndP X s4 H4 cenv fp pn σ0 (IpLst S) Sp s₀ s₁) (GYield X s4 H4 cenv fp pn tn σ0 W (IpLst S) Yw) n (.send .none) (s.setGen g .running)) →
      s.heap.NoLimit → s.heap.IsGen a g → codeAny (model X.prog X.w) X.A (.builtin "list.extend.loop" ⟨[.ref S, .ref a, res], []⟩) Rr s := by
  intro n
  induction n using Nat.strongRecOn with
  | ind n ih =>
    intro s ⟨gs, hgs, hgo⟩ hl hg
    refine codeAny_builtin F.entry_extend_loop ?_
    rw [Around.under_plainId F.plain_extend_loop _]
    show wpAny _ X.A.in1 (pyNext (.ref a) >>= _) _ _ s
    refine wpAny_bind (next_of (A := X.A) hh hroom hl hg hgs hgo (fun z ip H s' h0 hip sp I => ?_) (fun i m z y v ip H Nx s' h0 ⟨gs1, hgs1⟩ ry hip I ht nf hNx yw res' => ?_))
    · obtain ⟨acc, c, rfl, hv⟩ := hip
      exact wpAny_pure (hR z acc c H s' hv I sp)
    · obtain ⟨acc, c, rfl, hv⟩ := hip
      obtain ⟨hlen, hnx⟩ := hYw z Nx y H yw
      obtain ⟨m', hm, w'⟩ := hNx _ _ hnx
      have hS' : s'.heap.get? S = some (lstObj acc c) := (I.pin (S, lstObj acc c) (List.mem_append_right _ (List.mem_singleton.mpr rfl))).1
      have hasz : acc.size < sizeLine := by
        have e : z.length = acc.toList.length := hv.length
        have e2 : acc.size = acc.toList.length := Array.length_toList.symm
        rw [e2, ← e]
        exact hlen
      show wpAny _ X.A.in1 (updateSeq S (·.push v) >>= _) _ _ _
      refine wpAny_bind ?_
      refine wpAny_updateSeq hS' rfl (wpAny_pure ⟨plainId_quiet F.plain_extend_loop _, ?_⟩) (Nat.le_of_lt hasz) (by show (acc.push v).size ≤ sizeLine + 1; rw [Array.size_push]; omega)
      obtain ⟨c', hup⟩ : ∃ c', (s'.heap.update S (Obj.mapSeq (·.push v))).get? S = some (lstObj (acc.push v) c') := ⟨_, Heap.get?_update_self _ hS' rfl⟩
      have I2 : Inv (gcx X s4 H4 cenv fp pn) [(S, lstObj (acc.push v) c')] σ0 H { s' with heap := s'.heap.update S (Obj.mapSeq (·.push v)), toks := s'.toks } :=
        inv_lst I hSfp hSpn hS4 (fun b o hb e => (Heap.get?_update_other _ _ (Ne.symm hb)).trans e) hup
      obtain ⟨gs2, k, h1, h2, h3⟩ := res' { s' with heap := s'.heap.update S (Obj.mapSeq (·.push v)) } [(S, lstObj (acc.push v) c')] (z ++ [y]) m' H ⟨gs1, hgs1, hgs1⟩ hm
        ⟨w', ⟨_, _, rfl, vals_push hv ry⟩, I2, hkeep _ _ _ ht fun b hb o e => (Heap.get?_update_other _ _ (fun z : S = b => hSfp (by rw [z]; exact hb))).trans e, nf⟩
      exact ih k (by omega) _ ⟨gs2, h1, h3⟩ I2.nolimit (hgen _ _ _ I2)
end
section
variable {prog : Program} {w : World} {A : Around} {E : Value → Shared → Prop} {s : Shared}
/-- what a generator hands out, in a new list -/
theorem collect_own {Q : List Value → Shared → Prop} {a : Addr} {g : Nat} (hg : s.heap.IsGen a g) (hlt : a < s.heap.objs.size)
    (hloop : ∀ h4 : Heap, (∀ b o, b ≠ s.heap.objs.size → s.heap.get? b = some o → h4.get? b = some o) → (∃ c, h4.get? s.heap.objs.size = some (lstObj #[] c)) →
      codeAny (model prog w) A (.builtin "list.extend.loop" ⟨[.ref s.heap.objs.size, .ref a, .ref s.heap.objs.size], []⟩) (fun r s' => ∃ acc c, r = .ok (.ret (.ref s.heap.objs.size)) ∧ s'.heap.get? s.heap.objs.size = some (lstObj acc c) ∧ Q acc.toList s') { s with heap := h4 }) :
    wpAny (model prog w) A (collect (.ref a)) Q E s := by
  have hSa : s.heap.objs.size ≠ a := Nat.ne_of_gt hlt
  unfold collect
  refine wpAny_bind (wpAny_runValue (codeAny_builtin F.entry_proto_collect ?_))
  rw [Around.under_plainId F.plain_proto_collect _]
  show wpAny _ A.in1 (newList [] >>= fun l => again (.builtin "list.__iadd__" ⟨[l, .ref a], []⟩)) _ _ s
  refine wpAny_bind (wpAny_newObj_type ?_)
  refine wpAny_pure ⟨plainId_quiet F.plain_list_iadd _, codeAny_builtin F.entry_list_iadd ?_⟩
  rw [Around.under_plainId F.plain_list_iadd _]
  show wpAny _ A.in1 (Builtin.List.listExtendWith (.ref s.heap.objs.size) (.ref a) (.ref s.heap.objs.size)) _ _ _
  unfold Builtin.List.listExtendWith
  have k1 : ∀ b o, s.heap.get? b = some o → (s.heap.push { cls := .type "list", data := .seq ([] : List Value).toArray }).get? b = some o := fun b o e => Heap.get?_push_of_some _ e
  have gty : ∀ {h : Heap}, (∀ b o, s.heap.get? b = some o → h.get? b = some o) → h.IsGen a g := fun {h} q => hg.keeps q
  refine wpAny_bind (wpAny_typeOf (Heap.IsGen.typeIs (s := { s with heap := _ }) (gty k1)) ?_)
  have h1 : Builtin.List.listSameRef (.ref s.heap.objs.size) (.ref a) = false := by simp [Builtin.List.listSameRef, hSa]
  have h2 : (Value.type "generator" == Value.type "list") = false := by decide
  have h3 : (Value.type "generator" == Value.type "tuple") = false := by decide
  simp only [h1, h2, h3, Bool.or_false, Bool.false_eq_true, if_false]
  refine wpAny_bind (wpAny_pyIter_gen (s := { s with heap := _ }) (gty k1) ?_)
  refine wpAny_bind (wpAny_holding ?_)
  unfold Builtin.List.listLengthHint
  refine wpAny_bind (wpAny_specialOf (Heap.IsGen.typeIs (s := { s with heap := _ }) (gty k1)) F.gen_no_len ?_)
  show wpAny _ A.in1 (specialOf (Value.ref a) (Str.ofString "__length_hint__") >>= _) _ _ _
  refine wpAny_bind (wpAny_specialOf (Heap.IsGen.typeIs (s := { s with heap := _ }) (gty k1)) F.gen_no_hint ?_)
  refine wpAny_pure ?_
  show wpAny _ A.in1 (rule "list.extend.makes-room" >>= fun _ => Builtin.List.listTouch (.ref s.heap.objs.size) >>= fun _ =>
    again (.builtin "list.extend.loop" ⟨[.ref s.heap.objs.size, .ref a, .ref s.heap.objs.size], []⟩)) _ _ _
  refine wpAny_bind (wpAny_rule ?_)
  have hS₁ : (s.heap.push { cls := .type "list", data := .seq ([] : List Value).toArray }).get? s.heap.objs.size = some { cls := .type "list", data := .seq ([] : List Value).toArray } := Heap.get?_push_size _ rfl
  refine wpAny_bind ?_
  show wpAny _ A.in1 (updateSeq s.heap.objs.size (·.push .none) >>= fun _ => updateSeq s.heap.objs.size (·.pop)) _ _ _
  refine wpAny_bind (wpAny_updateSeq hS₁ rfl ?_)
  have hS₂ := Heap.get?_update_self (Obj.mapSeq (·.push Value.none)) hS₁ rfl
  refine wpAny_updateSeq hS₂ rfl ?_
  have hS₃ := Heap.get?_update_self (Obj.mapSeq (·.pop)) hS₂ rfl
  have oth : ∀ b o, b ≠ s.heap.objs.size → s.heap.get? b = some o →
      (((s.heap.push { cls := .type "list", data := .seq ([] : List Value).toArray }).update s.heap.objs.size (Obj.mapSeq (·.push Value.none))).update s.heap.objs.size (Obj.mapSeq (·.pop))).get? b = some o :=
    fun b o hb e => (Heap.get?_update_other _ _ (Ne.symm hb)).trans ((Heap.get?_update_other _ _ (Ne.symm hb)).trans (k1 b o e))
  refine wpAny_pure ⟨plainId_quiet F.plain_extend_loop _, codeAny_mono (hloop _ oth ⟨_, hS₃⟩) fun r s' hr => ?_⟩
  obtain ⟨acc, c, rfl, hS', q⟩ := hr
  show wpAny _ A (load s.heap.objs.size >>= _) _ _ s'
  refine wpAny_bind (wpAny_load hS' ?_)
  exact wpAny_pure q
end
section
variable {X : Cx}
/-- tuple(elt for tg in iter if ..), by an invariant of the turn, a measure, what is collected and the heap -/
def tTupG (P : Addr) (wi : TI) (g : TG) (tt : TT) (te : TE) (vs : List Nat) : TE := fun σ H Q => wi σ H fun J H1 => TabG H1 P ∧ ∀ H2, Tabbed P H1 H2 → ∃ W : Nat → Nat → List V → Hp → Prop, (∃ m, W 0 m [] H2) ∧ ∀ i m z H, W i m z H →
  (J.stop i H ∧ z.length ≤ sizeLine ∧ ∀ p, H p = none → Q (.ref p) (upd H p (.tup z))) ∨ (J.go i H ∧ ∃ Nx : List V → Hp → Prop, (∀ z' H', Nx z' H' → ∃ m', m' < m ∧ W (i + 1) m' z' H') ∧ ∀ x H', J.yld i H x H' → g x (wipe σ vs) H' fun σ2 H2 => wipe σ2 vs = wipe σ vs ∧ tt σ2 H2 fun b H3 =>
    if b = true then te σ2 H3 fun y H4 => z.length < sizeLine ∧ Nx (z ++ [y]) H4 else Nx z H3)
variable {c P : Addr} {elt tg iter : Expr} {ifs : List Expr} {p pos gpos : Pos} {scope : Scope} {own : List (Str × Nat)} {wi : TI} {g : TG} {tt : TT} {te : TE} {k : Nat}
theorem pe_tupleG (hr : Room k X.A) (hgl : Gl X "tuple") (hm : X.mg "tuple" = none) (TB : TabB X.base X.mg c P) (hcode : X.env.code = .ref c) (ok : GenOk X.N X.env.scope scope own) (hN : X.N.Nodup) (hi : PI X tg iter wi)
    (hg : ∀ (s : Shared) (H : Hp) (C : Addr) (cl : List (Str × Addr)) (cd : Value) (fp : List Addr) (pn : List (Addr × Obj)), PG (gcx (up2 X) s H (genEnv scope cl C cd builtinsNs X.env) fp pn) tg g)
    (ht : ∀ (s : Shared) (H : Hp) (C : Addr) (cl : List (Str × Addr)) (cd : Value) (fp : List Addr) (pn : List (Addr × Obj)), PTs (gcx (up2 X) s H (genEnv scope cl C cd builtinsNs X.env) fp pn) ifs tt)
    (he : ∀ (s : Shared) (H : Hp) (C : Addr) (cl : List (Str × Addr)) (cd : Value) (fp : List Addr) (pn : List (Addr × Obj)), PE (gcx (up2 X) s H (genEnv scope cl C cd builtinsNs X.env) fp pn) elt te)
    (hs : ∀ v, genFold iter X.env v = pure v := by intro _; rfl)
    (hst : starEach [.GeneratorExp elt [⟨tg, iter, ifs, 0⟩] scope gpos] X.env = (false, eval (.GeneratorExp elt [⟨tg, iter, ifs, 0⟩] scope gpos) X.env) :: starEach [] X.env := by rfl) :
    PE X (.Call (.Name "tuple" p) [.GeneratorExp elt [⟨tg, iter, ifs, 0⟩] scope gpos] [] pos) (tTupG P wi g tt te (own.map (·.2))) := by
  refine ⟨fun pins s σ H Q I h => ?_⟩
  refine wpAny_Call_Name_kw (ld_blt I hgl hm (show bootBuiltins ("tuple" : Str) = some (.type "tuple") by decide +kernel) ?_)
  refine PyProof.Rows.callWith_type1 ?_ hst (by rfl)
  rw [hst]
  show wpAny _ _ (spliced ((false, eval (.GeneratorExp elt [⟨tg, iter, ifs, 0⟩] scope gpos) X.env) :: backTo pos (starEach [] X.env))) _ _ s
  refine Calls.spliced_cons (gen_made hr TB hcode ok hN hi hs I h fun J H2 s4 s5 cenv it fp tn a gn go hR M => ?_)
  obtain ⟨W, ⟨m0, w0⟩, turn⟩ := hR
  obtain ⟨C, cd, rfl⟩ := M.env
  refine Calls.spliced_nil ?_
  have hgen : ∀ s ip H, Inv (gcx X s4 H2 (genEnv scope (cloFrom X.env.cells scope.names []) C cd builtinsNs X.env) fp [(a, go)]) ip (wipe σ (own.map (·.2))) H s → s.heap.IsGen a gn := fun s ip H I' =>
    M.gen _ (I'.pin (a, go) (List.mem_append_left _ (List.mem_singleton.mpr rfl))).1
  have hg5 := hgen _ _ _ M.inv
  refine callType_codes (Q₁ := fun obj s₁ => s₁.TypeIs obj "tuple" ∧ EP X pins σ Q obj s₁) F.called_tuple (F.typeCall_tuple_1 _) F.entry_object_init (codeAny_of_tree ?_) fun obj s₁ h₁ => ?_
  · show wpAny _ X.A.in1.in1 (do checkBuiltinCall "tuple.__new__" ⟨[.type "tuple", .ref a], []⟩; again (.builtin "tuple.__new__" ⟨[.type "tuple", .ref a], []⟩)) _ _ s5
    refine wpAny_bind (wpAny_of_eq (F.newCall_tuple_1 _) (wpAny_pure ⟨plainId_quiet F.plain_tuple_new _, codeAny_builtin F.entry_tuple_new ?_⟩))
    rw [Around.under_plainId F.plain_tuple_new _]
    have hsub := sub_tuple_self
    have hinit := init_tuple_lookup
    have hmh := madeHere_tuple
    have hTI := Heap.IsGen.typeIs (s := s5) hg5
    have Sz : s4.heap.objs.size ≤ s5.heap.objs.size := M.inv.sz
    have hSfp : s5.heap.objs.size ∉ fp := fun hm => by
      have h1 := M.fa _ hm
      have h2 := M.lt
      exact absurd (Nat.lt_trans h1 h2) (Nat.lt_irrefl _)
    have key : ∀ {Q1 : List Value → Shared → Prop} {E1 : Value → Shared → Prop}, (∀ (z : List V) (acc : Array Value) (c : Nat) (H : Hp) (s' : Shared), Vals z acc.toList → z.length ≤ sizeLine → Inv X pins σ H s' → (∀ p, H p = none → Q (.ref p) (upd H p (.tup z))) → Q1 acc.toList s') →
        wpAny (model X.prog X.w) X.A.in1.in1 (collect (.ref a)) Q1 E1 s5 := fun {Q1 E1} hQ1 => by
      refine collect_own hg5 M.lt fun h4 k4 hS4 => ?_
      obtain ⟨c0, hS4⟩ := hS4
      have I6 : Inv (gcx (up2 X) s4 H2 (genEnv scope (cloFrom X.env.cells scope.names []) C cd builtinsNs X.env) fp [(a, go)]) [(s5.heap.objs.size, lstObj #[] c0)] (wipe σ (own.map (·.2))) H2 { s5 with heap := h4 } := by
        have I0 : Inv (gcx X s4 H2 (genEnv scope (cloFrom X.env.cells scope.names []) C cd builtinsNs X.env) fp [(a, go)]) [] (wipe σ (own.map (·.2))) H2 { s5 with heap := h4 } := M.inv.kept fun b o e => k4 b o (Nat.ne_of_lt (Heap.lt_size e)) e
        refine inv_up (I0.pins_of fun p hp => ?_)
        rw [List.mem_singleton.mp hp]
        have fk := M.inv.fpOk (Nat.le_refl _) (M.inv.hok.fresh (Nat.le_refl _))
        exact ⟨hS4, fk.1, fk.2.1, fk.2.2.1, fun v q => by cases q⟩
      generalize hs6 : ({ s5 with heap := h4 } : Shared) = s6 at I6
      have gs6 : s6.gens = s5.gens := by rw [← hs6]
      have hh6 : s6.heap = h4 := by rw [← hs6]
      have st6 : tn 0 s6.heap := M.turn.keep _ _ _ M.tn0 fun b hb o e => by
        rw [hh6]
        exact k4 b o (fun z => hSfp (by rw [← z]; exact hb)) e
      have sg := seg_first (X := up2 X) (W := W) (Ip := IpLst s5.heap.objs.size) (Sp := fun z H => z.length ≤ sizeLine ∧ ∀ p, H p = none → Q (.ref p) (upd H p (.tup z))) (Yw := fun z Nx y H => z.length < sizeLine ∧ Nx (z ++ [y]) H) (vs := own.map (·.2)) (σ0 := wipe σ (own.map (·.2)))
        (iter := iter) (scope := scope) (pos := gpos) (s := s6.setGen gn .running) (s₀ := s6.setGen gn .running) (m := m0) (n := m0 + 1) (z := []) (ip := [(s5.heap.objs.size, lstObj #[] c0)]) (H := H2) ok.co (fun z ip hip b hb q hq e => ?_) M.turn (hg s4 H2 C (cloFrom X.env.cells scope.names []) cd fp [(a, go)]) (ht s4 H2 C (cloFrom X.env.cells scope.names []) cd fp [(a, go)]) (he s4 H2 C (cloFrom X.env.cells scope.names []) cd fp [(a, go)])
        (show Turns J g tt te (wipe σ (own.map (·.2))) (own.map (·.2)) W (fun z H => z.length ≤ sizeLine ∧ ∀ p, H p = none → Q (.ref p) (upd H p (.tup z))) (fun z Nx y H => z.length < sizeLine ∧ Nx (z ++ [y]) H) from turn) (Nat.lt_succ_self _) ⟨w0, ⟨_, _, rfl, .nil⟩, inv_gens I6 (allBare_setGen I6.bare rfl), st6, fun b hb => (M.fok b hb).1⟩ (fun p hp => by rw [List.mem_singleton.mp hp]; exact (I6.pin (s5.heap.objs.size, lstObj #[] c0) (List.mem_append_right _ (List.mem_singleton.mpr rfl))).1)
      · exact tup_loop (X := up2 X) (W := W) (S := s5.heap.objs.size) (a := a) (g := gn) hr.hd (by have := hr.dp; show X.A.depth < _; omega) (fun s ip H I' => hgen s ip H (inv_down I')) hSfp (fun p hp e => by
            rw [List.mem_singleton.mp hp] at e
            have h2 := M.lt
            rw [show a = s5.heap.objs.size from e] at h2
            exact Nat.lt_irrefl _ h2) Sz M.turn.keep (fun z Nx y H h => h) (fun z acc c H s' hv I' q => ⟨acc, c, rfl, (I'.pin (s5.heap.objs.size, lstObj acc c) (List.mem_append_right _ (List.mem_singleton.mpr rfl))).1, hQ1 z acc c H s' hv q.1 (back M.i4 M.fok (inv_down I')) q.2⟩)
          (m0 + 1) s6 ⟨.fresh _, by rw [gs6]; exact M.gs, rfl, sg⟩ I6.nolimit (hgen _ _ _ (inv_down I6))
      · obtain ⟨acc, c, rfl, _⟩ := hip
        rcases List.mem_append.mp hq with hq | hq
        · rw [List.mem_singleton.mp hq] at e
          have := M.fa b hb
          rw [← e] at this
          exact Nat.lt_irrefl _ this
        · rw [List.mem_singleton.mp hq] at e
          exact hSfp (by rw [show s5.heap.objs.size = b from e]; exact hb)
    wp_walk using wpAny_typeOf hTI, key
    intro z acc c H' s' hv hz I' q
    show wpAny _ _ (Builtin.Tuple.tupleExact acc.toList.toArray >>= fun v => ret v) _ _ _
    unfold Builtin.Tuple.tupleExact
    have ez : z.length = acc.toList.length := hv.length
    have ez2 : acc.size = acc.toList.length := Array.length_toList.symm
    refine wpAny_bind (wpAny_newObj_type ?_ (by show acc.toList.toArray.size ≤ sizeLine; simp only [Array.toArray_toList]; rw [ez2, ← ez]; exact hz))
    refine wpAny_pure ?_
    refine ⟨⟨_, Heap.get?_push_size _ rfl, rfl⟩, .ref s'.heap.objs.size, upd H' s'.heap.objs.size (.tup z), ?_, rfl, q _ (I'.hok.fresh (Nat.le_refl _))⟩
    refine I'.laid (t' := s'.toks) (fun b u e => Heap.get?_push_of_some _ e) (Nat.le_refl _) ⟨hz, acc.toList, hv, _, Heap.get?_push_size _ rfl, rfl, _, rfl⟩
  · exact ⟨h₁.1, F.args_object_init_2 obj _, object_init_meets F.called_tuple.init.lookup F.called_tuple.made (by decide) _ _ X.A.in1 _ s₁ ⟨h₁.1, rfl, h₁.2⟩⟩
end
end GX

namespace GD
open PySem PySem.Spec PyProof.Rows L2 GxR GX GS GT GC
/-! ### good plans, by the pairs of hours and barges -/
theorem catNil {α : Type} {f : Nat → List α} : ∀ {n : Nat}, cat f n = [] ↔ ∀ i, i < n → f i = []
  | 0 => ⟨fun _ i h => absurd h (Nat.not_lt_zero i), fun _ => rfl⟩
  | n + 1 => by
    rw [cat_succ, List.append_eq_nil_iff, catNil]
    constructor
    · rintro ⟨h1, h2⟩ i hi
      by_cases c : i = n
      · subst c; exact h2
      · exact h1 i (by omega)
    · exact fun h => ⟨fun i hi => h i (by omega), h n (by omega)⟩
/-- nothing speaks against an hour for a barge alone -/
def Fits (k : Book) (b : Barge) (h : Int) : Prop := b.r ≤ comesAt k b.b h ∧ comesAt k b.g h ≤ b.u ∧ ∀ j, j < (b.g - b.b).toNat → b.d ≤ depthAt (strN k (b.b.toNat + j)) (comesAt k (b.b + j) h)
instance (k : Book) (b : Barge) (h : Int) : Decidable (Fits k b h) := by unfold Fits; infer_instance
theorem alone_fits (k : Book) (i : Nat) (b : Barge) (h : Int) : aloneR k i b h = [] ↔ Fits k b h := by
  unfold aloneR endsR Fits
  rw [List.append_eq_nil_iff, List.append_eq_nil_iff, catNil, and_assoc]
  refine and_congr ?_ (and_congr ?_ (forall_congr' fun j => imp_congr_right fun _ => ?_))
  · by_cases c : comesAt k b.b h < b.r
    · rw [if_pos c]; exact ⟨fun z => (by cases z), fun z => absurd c (by omega)⟩
    · rw [if_neg c]; exact ⟨fun _ => by omega, fun _ => rfl⟩
  · by_cases c : b.u < comesAt k b.g h
    · rw [if_pos c]; exact ⟨fun z => (by cases z), fun z => absurd c (by omega)⟩
    · rw [if_neg c]; exact ⟨fun _ => by omega, fun _ => rfl⟩
  · unfold shalR
    by_cases c : depthAt (strN k (b.b.toNat + j)) (comesAt k (b.b + j) h) < b.d
    · rw [if_pos c]; exact ⟨fun z => (by cases z), fun z => absurd c (by omega)⟩
    · rw [if_neg c]; exact ⟨fun _ => by omega, fun _ => rfl⟩
abbrev Pr := Option Int × Barge
def onB (s : Nat) (b : Barge) : Bool := decide (b.b ≤ (s : Int)) && decide ((s : Int) < b.g)
def pairs (k : Book) (pl : List (Option Int)) : List Pr := pl.zip k.bs
def cntP (ps : List Pr) (h : Int) (s : Nat) : Nat := ps.countP fun p => decide (p.1 = some h) && onB s p.2
structure GoodP (k : Book) (ps : List Pr) : Prop where
  fits : ∀ p ∈ ps, ∀ h, p.1 = some h → Fits k p.2 h
  room : ∀ h s, s < k.rv.length → (cntP ps h s : Int) ≤ (strN k s).room
  cross : ∀ p ∈ ps, ∀ q ∈ ps, ∀ h, p.1 = some h → q.1 = some h → ¬ crossed p.2 q.2
theorem pairs_get {k : Book} {pl : List (Option Int)} {i : Nat} {o : Option Int} {b : Barge} (h1 : pl[i]? = some o) (h2 : k.bs[i]? = some b) : (pairs k pl)[i]? = some (o, b) := by
  unfold pairs
  rw [List.getElem?_zip_eq_some]
  exact ⟨h1, h2⟩
theorem pairs_len {k : Book} {pl : List (Option Int)} (h : pl.length = k.bs.length) : (pairs k pl).length = pl.length := by
  unfold pairs
  rw [List.length_zip]
  omega
theorem onL_count {k : Book} {pl : List (Option Int)} (hl : pl.length = k.bs.length) (h : Int) (s : Nat) : ∀ n, n ≤ pl.length → ((memN pl h n).filter (onS k s)).length = ((pairs k pl).take n).countP fun p => decide (p.1 = some h) && onB s p.2
  | 0, _ => rfl
  | n + 1, hn => by
    have ih := onL_count hl h s n (by omega)
    obtain ⟨o, ho⟩ : ∃ o, pl[n]? = some o := ⟨pl[n]'(by omega), List.getElem?_eq_getElem (by omega)⟩
    obtain ⟨b, hb⟩ : ∃ b, k.bs[n]? = some b := ⟨k.bs[n]'(by omega), List.getElem?_eq_getElem (by omega)⟩
    rw [memN_succ, List.filter_append, List.length_append, ih, List.take_add_one, pairs_get ho hb, List.countP_append, getD_of ho]
    congr 1
    by_cases c : o = some h
    · rw [if_pos c]
      have e1 : onS k s n = onB s b := onS_of hb s
      have e2 : (decide (o = some h) && onB s b) = onB s b := by rw [decide_eq_true c]; rfl
      show (List.filter (onS k s) [n]).length = List.countP _ [(o, b)]
      by_cases c2 : onB s b = true
      · simp [e1, c2, c]
      · simp [e1, c2]
    · rw [if_neg c]
      show 0 = List.countP _ [(o, b)]
      simp [c]
theorem onL_cnt {k : Book} {pl : List (Option Int)} (hl : pl.length = k.bs.length) (h : Int) (s : Nat) : (onL k pl h s).length = cntP (pairs k pl) h s := by
  have e := onL_count hl h s pl.length (Nat.le_refl _)
  unfold onL cntP
  rw [e, List.take_of_length_le (by rw [pairs_len hl]; exact Nat.le_refl _)]
theorem crossO_nil {k : Book} {i j : Nat} {a b : Barge} (h1 : k.bs[i]? = some a) (h2 : k.bs[j]? = some b) : crossO k i j = [] ↔ ¬ crossed a b := by
  rw [crossO_of h1 h2]
  by_cases c : crossed a b
  · rw [if_pos c]; exact ⟨fun z => (by cases z), fun z => absurd c z⟩
  · rw [if_neg c]; exact ⟨fun _ => c, fun _ => rfl⟩
theorem good_iff {k : Book} {pl : List (Option Int)} (ok : k.Ok) (okp : PlOk k.bs.length pl) : allR k pl = [] ↔ GoodP k (pairs k pl) := by
  have hl : pl.length = k.bs.length := okp.len
  have getp : ∀ {p : Pr}, p ∈ pairs k pl → ∃ i : Nat, i < pl.length ∧ pl[i]? = some p.1 ∧ k.bs[i]? = some p.2 := fun {p} hp => by
    obtain ⟨i, hi, e⟩ := List.mem_iff_getElem.mp hp
    have e2 : (pairs k pl)[i]? = some p := by rw [List.getElem?_eq_getElem hi, e]
    unfold pairs at e2
    rw [List.getElem?_zip_eq_some] at e2
    exact ⟨i, (List.getElem?_eq_some_iff.mp e2.1).1, e2.1, e2.2⟩
  unfold allR
  rw [List.append_eq_nil_iff, List.append_eq_nil_iff]
  constructor
  · rintro ⟨⟨h1, h2⟩, h3⟩
    refine ⟨fun p hp h e => ?_, fun h s hs => ?_, fun p hp q hq h e1 e2 => ?_⟩
    · obtain ⟨i, hi, a1, a2⟩ := getp hp
      have := catNil.mp h1 i hi
      rw [e] at a1
      rw [bargeR_some a1 a2] at this
      exact (alone_fits k i p.2 h).mp this
    · by_cases hh : h ∈ hoursL pl
      · unfold fullA at h2
        have h4 := catNil.mp (List.flatMap_eq_nil_iff.mp h2 h hh) s hs
        unfold fullR at h4
        rw [onL_cnt hl] at h4
        by_cases c : (strN k s).room < (cntP (pairs k pl) h s : Int)
        · rw [if_pos c] at h4; cases h4
        · omega
      · have e0 : cntP (pairs k pl) h s = 0 := by
          unfold cntP
          rw [List.countP_eq_zero]
          intro p hp z
          rw [Bool.and_eq_true, decide_eq_true_eq] at z
          obtain ⟨i, hi, a1, _⟩ := getp hp
          rw [z.1] at a1
          exact hh ((hoursL_mem okp).mpr (List.mem_of_getElem? a1))
        rw [e0]
        have hst : k.rv[s]? = some k.rv[s] := List.getElem?_eq_getElem hs
        rw [strN_of hst]
        have := (ok.rv.ok _ (List.mem_of_getElem? hst)).r1
        omega
    · obtain ⟨i, hi, a1, a2⟩ := getp hp
      obtain ⟨j, hj, b1, b2⟩ := getp hq
      rw [e1] at a1
      rw [e2] at b1
      have h4 := catNil.mp h3 i hi
      rw [crossR_some a1] at h4
      have h5 := catNil.mp h4 j hj
      rw [getD_of b1, if_pos rfl] at h5
      exact (crossO_nil a2 b2).mp h5
  · rintro ⟨g1, g2, g3⟩
    have getb : ∀ {i : Nat}, i < pl.length → ∃ o b, pl[i]? = some o ∧ k.bs[i]? = some b ∧ (o, b) ∈ pairs k pl := fun {i} hi => by
      have a1 : pl[i]? = some pl[i] := List.getElem?_eq_getElem hi
      have a2 : k.bs[i]? = some (k.bs[i]'(by omega)) := List.getElem?_eq_getElem (by omega)
      exact ⟨_, _, a1, a2, List.mem_of_getElem? (pairs_get a1 a2)⟩
    refine ⟨⟨catNil.mpr fun i hi => ?_, ?_⟩, catNil.mpr fun i hi => ?_⟩
    · obtain ⟨o, b, a1, a2, hm⟩ := getb hi
      cases o with
      | none => exact bargeR_none a1
      | some h =>
        rw [bargeR_some a1 a2]
        exact (alone_fits k i b h).mpr (g1 _ hm h rfl)
    · unfold fullA
      rw [List.flatMap_eq_nil_iff]
      intro h _
      refine catNil.mpr fun s hs => ?_
      unfold fullR
      rw [onL_cnt hl, if_neg (by have := g2 h s hs; omega)]
    · obtain ⟨o, b, a1, a2, hm⟩ := getb hi
      cases o with
      | none => exact crossR_none a1
      | some h =>
        rw [crossR_some a1]
        refine catNil.mpr fun j hj => ?_
        obtain ⟨o2, b2, c1, c2, hm2⟩ := getb hj
        rw [getD_of c1]
        by_cases c : o2 = some h
        · rw [if_pos c]
          exact (crossO_nil a2 c2).mpr (g3 _ hm _ hm2 h rfl c)
        · rw [if_neg c]
theorem goodP_sub {k : Book} {ps qs : List Pr} (h : GoodP k ps) (s : qs.Sublist ps) : GoodP k qs where
  fits := fun p hp => h.fits p (s.subset hp)
  room := fun hh st hs => Int.le_trans (Int.ofNat_le.mpr (s.countP_le ..)) (h.room hh st hs)
  cross := fun p hp q hq => h.cross p (s.subset hp) q (s.subset hq)
/-! ### the plan without its open barges -/
def hereP (pl : List (Option Int)) : List (Option Int) := (setN pl pl.length).map fun i => pl.getD i none
def hereB (k : Book) (pl : List (Option Int)) : List Barge := (setN pl pl.length).map fun i => k.bs.getD i ⟨0, 0, 0, 0, 0⟩
theorem setN_filter (pl : List (Option Int)) : ∀ n, setN pl n = (List.range n).filter fun i => decide (pl.getD i none ≠ none)
  | 0 => rfl
  | n + 1 => by
    rw [setN_succ, List.range_succ, List.filter_append, setN_filter pl n]
    congr 1
    by_cases c : pl.getD n none = none
    · have hp : decide (pl.getD n none ≠ none) = false := decide_eq_false (fun z => z c)
      simp only [List.filter_cons, List.filter_nil]
      rw [if_pos c, hp]
      rfl
    · have hp : decide (pl.getD n none ≠ none) = true := decide_eq_true c
      simp only [List.filter_cons, List.filter_nil]
      rw [if_neg c, hp]
      rfl
theorem mem_setN2 {pl : List (Option Int)} {n i : Nat} (h : i ∈ setN pl n) : i < n ∧ pl.getD i none ≠ none := by
  rw [setN_filter, List.mem_filter, decide_eq_true_eq, List.mem_range] at h
  exact h
theorem here_pairs {k : Book} {pl : List (Option Int)} (hl : pl.length = k.bs.length) : (pairs ⟨k.rv, hereB k pl⟩ (hereP pl)).Sublist (pairs k pl) := by
  have e1 : pairs ⟨k.rv, hereB k pl⟩ (hereP pl) = (setN pl pl.length).map fun i => (pl.getD i none, k.bs.getD i ⟨0, 0, 0, 0, 0⟩) := by
    show (hereP pl).zip (hereB k pl) = _
    unfold hereP hereB
    rw [List.zip_map']
  have e2 : pairs k pl = (List.range pl.length).map fun i => (pl.getD i none, k.bs.getD i ⟨0, 0, 0, 0, 0⟩) := by
    refine List.ext_getElem? fun i => ?_
    by_cases c : i < pl.length
    · have a1 : pl[i]? = some pl[i] := List.getElem?_eq_getElem c
      have a2 : k.bs[i]? = some (k.bs[i]'(by omega)) := List.getElem?_eq_getElem (by omega)
      rw [pairs_get a1 a2, List.getElem?_map, List.getElem?_range c]
      show _ = some (pl.getD i none, k.bs.getD i ⟨0, 0, 0, 0, 0⟩)
      rw [getD_of a1, List.getD_eq_getElem?_getD, a2]
      rfl
    · rw [List.getElem?_eq_none (by rw [pairs_len hl]; omega), List.getElem?_eq_none (by rw [List.length_map, List.length_range]; omega)]
  rw [e1, e2, setN_filter]
  exact List.Sublist.map _ List.filter_sublist
theorem here_none (pl : List (Option Int)) : none ∉ hereP pl := fun h => by
  obtain ⟨i, hi, e⟩ := List.mem_map.mp h
  exact (mem_setN2 hi).2 e
theorem here_ok {k : Book} {pl : List (Option Int)} (ok : k.Ok) (okp : PlOk k.bs.length pl) : Book.Ok ⟨k.rv, hereB k pl⟩ ∧ PlOk (hereB k pl).length (hereP pl) := by
  have hl := okp.len
  have sl := setN_le pl pl.length
  refine ⟨⟨ok.rv, ?_, fun b hb => ?_⟩, ⟨by unfold hereP hereB; rw [List.length_map, List.length_map], fun h hh => ?_⟩⟩
  · show (hereB k pl).length ≤ 7
    have := ok.n7
    unfold hereB
    rw [List.length_map]
    omega
  · obtain ⟨i, hi, e⟩ := List.mem_map.mp hb
    have hlt := (mem_setN2 hi).1
    have a2 : k.bs[i]? = some (k.bs[i]'(by omega)) := List.getElem?_eq_getElem (by omega)
    rw [List.getD_eq_getElem?_getD, a2] at e
    rw [← e]
    exact ok.ok _ (List.getElem_mem _)
  · obtain ⟨i, hi, e⟩ := List.mem_map.mp hh
    have hlt := (mem_setN2 hi).1
    refine okp.ok h ?_
    rw [List.getD_eq_getElem?_getD, List.getElem?_eq_getElem hlt] at e
    have e2 : pl[i] = some h := e
    rw [← e2]
    exact List.getElem_mem hlt
theorem here_good {k : Book} {pl : List (Option Int)} (ok : k.Ok) (okp : PlOk k.bs.length pl) (good : allR k pl = []) : allR ⟨k.rv, hereB k pl⟩ (hereP pl) = [] := by
  obtain ⟨ok2, okp2⟩ := here_ok ok okp
  have g := goodP_sub ((good_iff ok okp).mp good) (here_pairs okp.len)
  exact (good_iff ok2 okp2).mpr ⟨g.fits, g.room, g.cross⟩
end GD

namespace GD
open PySem PySem.Spec PyProof.Rows L2 GxR GX GS GT GC
/-! ### tuples of generator expressions -/
theorem tupG_tup {K : PySem.W.Frag} {P a : Addr} {xs : List V} {g : TG} {tt : TT} {te : TE} {vs : List Nat} {σ : L2.St} {H1 : Hp} {Q : VK} {j : Nat} (hv : σ[j]? = some (some (.ref a))) (ht : SqT K H1 a xs) (hT : TabG H1 P) (Pv : Nat → List V → Hp → Prop) (h0 : ∀ H2, Tabbed P H1 H2 → Pv 0 [] H2) (hl : ∀ i z H, i ≤ xs.length → Pv i z H → SqT K H a xs)
    (hs : ∀ i x z H, xs[i]? = some x → Pv i z H → g x (wipe σ vs) H fun σ2 H2 => wipe σ2 vs = wipe σ vs ∧ tt σ2 H2 fun b H3 => if b = true then te σ2 H3 fun y H4 => z.length < sizeLine ∧ Pv (i + 1) (z ++ [y]) H4 else Pv (i + 1) z H3)
    (hd : ∀ z H, Pv xs.length z H → z.length ≤ sizeLine ∧ ∀ p, H p = none → Q (.ref p) (upd H p (.tup z))) : tTupG P (iTup K (tVar j)) g tt te vs σ H1 Q := by
  refine ⟨.ref a, hv, a, rfl, ⟨xs, ht⟩, hT, fun H2 hb => ⟨fun i m z H => m = xs.length - i ∧ i ≤ xs.length ∧ Pv i z H, ⟨xs.length, by simp, Nat.zero_le _, h0 H2 hb⟩, ?_⟩⟩
  rintro i m z H ⟨rfl, hi, p⟩
  have q := hl i z H hi p
  by_cases hlt : i < xs.length
  · refine .inr ⟨⟨xs, xs[i], q, by simp [hlt]⟩, fun z' H' => Pv (i + 1) z' H', fun z' H' p' => ⟨xs.length - (i + 1), by omega, rfl, hlt, p'⟩, fun x H' y => ?_⟩
    obtain ⟨e, y⟩ := y
    subst e
    exact hs i x z H' (y xs q) p
  · have e : i = xs.length := by omega
    subst e
    exact .inl ⟨⟨xs, q, Nat.le_refl _⟩, hd z H p⟩
theorem tupG_enumT {K : PySem.W.Frag} {P a : Addr} {xs : List V} {g : TG} {tt : TT} {te : TE} {vs : List Nat} {σ : L2.St} {H1 : Hp} {Q : VK} {j : Nat} (hv : σ[j]? = some (some (.ref a))) (ht : SqT K H1 a xs) (hT : TabG H1 P) (Pv : Nat → List V → Hp → Prop) (h0 : ∀ H2, Tabbed P H1 H2 → Pv 0 [] H2) (hl : ∀ i z H, i ≤ xs.length → Pv i z H → SqT K H a xs)
    (hs : ∀ i x z H T, xs[i]? = some x → Pv i z H → H T = none → g (.ref T) (wipe σ vs) (upd H T (.tup [.int (i : Nat), x])) fun σ2 H2 => wipe σ2 vs = wipe σ vs ∧ tt σ2 H2 fun b H3 => if b = true then te σ2 H3 fun y H4 => z.length < sizeLine ∧ Pv (i + 1) (z ++ [y]) H4 else Pv (i + 1) z H3)
    (hd : ∀ z H, Pv xs.length z H → z.length ≤ sizeLine ∧ ∀ p, H p = none → Q (.ref p) (upd H p (.tup z))) : tTupG P (GE.iEnumT K (tCons (tVar j) tNil)) g tt te vs σ H1 Q := by
  refine ⟨.ref a, hv, a, xs, rfl, ht, hT, fun H2 hb => ⟨fun i m z H => m = xs.length - i ∧ i ≤ xs.length ∧ Pv i z H, ⟨xs.length, by simp, Nat.zero_le _, h0 H2 hb⟩, ?_⟩⟩
  rintro i m z H ⟨rfl, hi, p⟩
  have q := hl i z H hi p
  by_cases hlt : i < xs.length
  · refine .inr ⟨⟨xs, xs[i], q, by simp [hlt]⟩, fun z' H' => Pv (i + 1) z' H', fun z' H' p' => ⟨xs.length - (i + 1), by omega, rfl, hlt, p'⟩, fun x H' y => ?_⟩
    obtain ⟨T, x', rfl, hn, rfl, hx⟩ := y
    exact hs i x' z H T (hx xs q) p hn
  · have e : i = xs.length := by omega
    subst e
    exact .inl ⟨⟨xs, q, Nat.le_refl _⟩, hd z H p⟩
/-! ### what is without an item -/
theorem erase_next {α : Type} {xs : List α} {i k : Nat} {x : α} (h : xs[i]? = some x) : (xs.take (i + 1)).eraseIdx k = if i = k then (xs.take i).eraseIdx k else (xs.take i).eraseIdx k ++ [x] := by
  have hi : i < xs.length := (List.getElem?_eq_some_iff.mp h).1
  have hl : (xs.take i).length = i := by rw [List.length_take]; omega
  have e : xs.take (i + 1) = xs.take i ++ [x] := by rw [List.take_add_one, h]; rfl
  rw [e]
  by_cases c : i = k
  · subst c
    have e1 : (xs.take i ++ [x]).eraseIdx i = xs.take i ++ [x].eraseIdx (i - (xs.take i).length) := List.eraseIdx_append_of_length_le (by omega) _
    have e2 : (xs.take i).eraseIdx i = xs.take i := List.eraseIdx_of_length_le (by omega)
    rw [if_pos rfl, e1, e2, hl, Nat.sub_self]
    exact List.append_nil _
  · rw [if_neg c]
    by_cases c2 : k < i
    · rw [List.eraseIdx_append_of_lt_length (by omega)]
    · rw [List.eraseIdx_append_of_length_le (by omega), hl, List.eraseIdx_of_length_le (l := xs.take i) (by omega), List.eraseIdx_of_length_le (l := [x]) (by simp; omega)]
theorem cut_erase {α : Type} (xs : List α) (k : Nat) : xs.take k ++ xs.drop (k + 1) = xs.eraseIdx k := (List.eraseIdx_eq_take_drop_succ xs k).symm
theorem inV_none (pl : List (Option Int)) : inV .non (pl.map oV) = decide (none ∈ pl) := by
  rw [Bool.eq_iff_iff, decide_eq_true_eq]
  unfold inV
  rw [List.any_eq_true]
  constructor
  · rintro ⟨y, hy, e⟩
    obtain ⟨o, ho, rfl⟩ := List.mem_map.mp hy
    cases o with
    | none => exact ho
    | some k => simp [oV, eqV] at e
  · intro hm
    exact ⟨oV none, List.mem_map.mpr ⟨_, hm, rfl⟩, by simp [oV, eqV]⟩
/-- a barge of it is ready at another time -/
def lateB (k : Book) (i : Nat) (r : Int) : Book := ⟨k.rv, k.bs.mapIdx fun j b => if j = i then { b with r := r } else b⟩
theorem paired_erase {α β : Type} {F : α → β → Prop} : ∀ {xs : List α} {ys : List β}, Paired F xs ys → ∀ i, Paired F (xs.eraseIdx i) (ys.eraseIdx i)
  | _, _, .nil, _ => .nil
  | _, _, .cons _ t, 0 => t
  | _, _, .cons r t, i + 1 => .cons r (paired_erase t i)
theorem map_erase {α β : Type} (f : α → β) : ∀ (xs : List α) (i : Nat), (xs.map f).eraseIdx i = (xs.eraseIdx i).map f
  | [], _ => rfl
  | _ :: _, 0 => rfl
  | x :: xs, i + 1 => by
    show f x :: (xs.map f).eraseIdx i = f x :: (xs.eraseIdx i).map f
    rw [map_erase f xs i]
/-! ### what of a plan stands -/
def standO (now : Int) : Option Int → Option Int
  | some h => if h < now then some h else none
  | none => none
def standP (pl : List (Option Int)) (now : Int) : List (Option Int) := pl.map (standO now)
/-! ### books and plans as data -/
def oD : Option Int → PyData
  | none => .none
  | some h => .int h
def stretchD (s : Stretch) : PyData := .tuple [.int s.hours, .int s.room, .tuple (s.ds.map PyData.int)]
def bargeD (b : Barge) : PyData := .tuple [.int b.b, .int b.g, .int b.d, .int b.r, .int b.u]
def bookD (k : Book) : PyData := .tuple [.tuple (k.rv.map stretchD), .tuple (k.bs.map bargeD)]
def planD (pl : List (Option Int)) : PyData := .tuple (pl.map oD)
def pairD (k : Book) (pl : List (Option Int)) : PyData := .tuple [bookD k, planD pl]
section
variable {K : PySem.W.Frag} {H : Hp} {v : V}
theorem td_ints : ∀ ns : List Int, TdAll K H (ns.map V.int) (ns.map PyData.int)
  | [] => .nil
  | n :: ns => .cons (.int n) (td_ints ns)
theorem td_plan : ∀ pl : List (Option Int), TdAll K H (pl.map oV) (pl.map oD)
  | [] => .nil
  | none :: pl => .cons .non (td_plan pl)
  | some h :: pl => .cons (.int h) (td_plan pl)
theorem td_paired {α : Type} {F : V → α → Prop} {f : α → PyData} (hf : ∀ v a, F v a → Td K H v (f a)) : ∀ {vs : List V} {as : List α}, Paired F vs as → TdAll K H vs (as.map f)
  | _, _, .nil => .nil
  | _, _, .cons a b => .cons (hf _ _ a) (td_paired hf b)
theorem IsStretch.td {s : Stretch} (h : IsStretch K H v s) : Td K H v (stretchD s) := by
  obtain ⟨a, d, rfl, h1, h2⟩ := h
  exact .tup h1 (.cons (.int _) (.cons (.int _) (.cons (.tup h2 (td_ints _)) .nil)))
theorem IsBarge.td {b : Barge} (h : IsBarge K H v b) : Td K H v (bargeD b) := by
  obtain ⟨a, rfl, h1⟩ := h
  exact .tup h1 (.cons (.int _) (.cons (.int _) (.cons (.int _) (.cons (.int _) (.cons (.int _) .nil)))))
theorem IsBook.td {k : Book} (h : IsBook K H v k) : Td K H v (bookD k) := by
  obtain ⟨a, r, b, rfl, h1, ⟨ra, rs, rfl, h2, h3⟩, ⟨ba, bs, rfl, h4, h5⟩⟩ := h
  exact .tup h1 (.cons (.tup h2 (td_paired (fun _ _ z => IsStretch.td z) h3)) (.cons (.tup h4 (td_paired (fun _ _ z => IsBarge.td z) h5)) .nil))
theorem IsPlan.td {pl : List (Option Int)} (h : IsPlan K H v pl) : Td K H v (planD pl) := by
  obtain ⟨a, rfl, h1⟩ := h
  exact .tup h1 (td_plan pl)
end
theorem lay_map {α : Type} {f : α → PyData} {n : Nat} (h : ∀ a, (f a).canLay0 = true ∧ (f a).depth ≤ n) : ∀ as : List α, PyData.canLayAll0 (as.map f) = true ∧ PyData.depthAll (as.map f) ≤ n
  | [] => ⟨rfl, Nat.zero_le _⟩
  | a :: as => by
    obtain ⟨h1, h2⟩ := lay_map h as
    obtain ⟨k1, k2⟩ := h a
    constructor
    · show (PyData.canLay0 (f a) && PyData.canLayAll0 (as.map f)) = true
      rw [h1, k1]
      rfl
    · show max (PyData.depth (f a)) (PyData.depthAll (as.map f)) ≤ n
      omega
theorem lay_tup {ds : List PyData} {n : Nat} (h : PyData.canLayAll0 ds = true ∧ PyData.depthAll ds ≤ n) : (PyData.tuple ds).canLay0 = true ∧ (PyData.tuple ds).depth ≤ n + 1 := ⟨h.1, Nat.succ_le_succ h.2⟩
theorem lay_two {d e : PyData} {n : Nat} (h1 : d.canLay0 = true ∧ d.depth ≤ n) (h2 : e.canLay0 = true ∧ e.depth ≤ n) : PyData.canLayAll0 [d, e] = true ∧ PyData.depthAll [d, e] ≤ n := by
  constructor
  · show (d.canLay0 && (e.canLay0 && true)) = true
    rw [h1.1, h2.1]
    rfl
  · show max d.depth (max e.depth 0) ≤ n
    have := h1.2
    have := h2.2
    omega
theorem lay_stretch (s : Stretch) : (stretchD s).canLay0 = true ∧ (stretchD s).depth ≤ 2 := by
  obtain ⟨h1, h2⟩ := lay_tup (lay_map (f := PyData.int) (n := 0) (fun a => ⟨rfl, Nat.le_refl _⟩) s.ds)
  constructor
  · show (true && (true && ((PyData.tuple (s.ds.map PyData.int)).canLay0 && true))) = true
    rw [h1]
    rfl
  · show max 0 (max 0 (max (PyData.tuple (s.ds.map PyData.int)).depth 0)) + 1 ≤ 2
    omega
theorem lay_barge (b : Barge) : (bargeD b).canLay0 = true ∧ (bargeD b).depth ≤ 2 := ⟨rfl, by show 1 ≤ 2; decide⟩
theorem lay_book (k : Book) : (bookD k).canLay0 = true ∧ (bookD k).depth ≤ 4 := lay_tup (lay_two (lay_tup (lay_map lay_stretch k.rv)) (lay_tup (lay_map lay_barge k.bs)))
theorem lay_plan (pl : List (Option Int)) : (planD pl).canLay0 = true ∧ (planD pl).depth ≤ 1 := lay_tup (lay_map (f := oD) (n := 0) (fun a => by cases a <;> exact ⟨rfl, Nat.le_refl _⟩) pl)
theorem lay_pair (k : Book) (pl : List (Option Int)) : (pairD k pl).canLay0 = true ∧ (pairD k pl).depth ≤ 5 := by
  have h := lay_plan pl
  exact lay_tup (lay_two (lay_book k) ⟨h.1, by omega⟩)
theorem pdrop {α β : Type} {F : α → β → Prop} : ∀ {xs : List α} {ys : List β} (n : Nat), Paired F xs ys → Paired F (xs.drop n) (ys.drop n)
  | _, _, 0, h => h
  | _, _, _ + 1, .nil => .nil
  | _, _, n + 1, .cons _ t => pdrop n t
theorem late_take {bs : List Barge} {i : Nat} {b : Barge} {f : Barge → Barge} (h : bs[i]? = some b) : (bs.mapIdx fun j b => if j = i then f b else b) = bs.take i ++ [f b] ++ bs.drop (i + 1) := by
  have hi : i < bs.length := (List.getElem?_eq_some_iff.mp h).1
  refine List.ext_getElem? fun j => ?_
  have lt : (bs.take i).length = i := by rw [List.length_take]; omega
  rw [List.getElem?_mapIdx]
  by_cases c : j < i
  · rw [List.append_assoc, List.getElem?_append_left (by omega), List.getElem?_take_of_lt c]
    cases e : bs[j]? with
    | none => rfl
    | some x =>
      show some (if j = i then f x else x) = some x
      rw [if_neg (by omega)]
  · by_cases c2 : j = i
    · subst c2
      rw [List.append_assoc, List.getElem?_append_right (by omega), lt, Nat.sub_self, h]
      show some (if j = j then f b else b) = some (f b)
      rw [if_pos rfl]
    · rw [List.append_assoc, List.getElem?_append_right (by omega), lt, List.getElem?_append_right (by simp; omega), List.getElem?_drop]
      rw [show i + 1 + (j - i - [f b].length) = j by simp; omega]
      cases e : bs[j]? with
      | none => rfl
      | some x =>
        show some (if j = i then f x else x) = some x
        rw [if_neg c2]
/-- what is told of a barge late (a ready) or lost (none) -/
def dueX (k : Book) (pl : List (Option Int)) (now : Int) (i : Nat) : V → PyData
  | .non => pairD ⟨k.rv, k.bs.eraseIdx i⟩ ((standP pl now).eraseIdx i)
  | .int r => if 0 ≤ r ∧ r ≤ 99 then pairD (lateB k i r) (standP pl now) else .str "book"
  | _ => .str "book"
def dueD (k : Book) (pl : List (Option Int)) (now : Int) (i : Nat) (x : V) : PyData := if (pl.getD i none).getD 0 < now then .str "gone" else dueX k pl now i x
def toldD (k : Book) (pl : List (Option Int)) (now : Int) (i : Nat) (x : V) : PyData := if allR k pl ≠ [] ∨ none ∈ pl then .str "plan" else dueD k pl now i x
theorem lay_str {z : Str} (h : PyData.strOk z = true) : (PyData.str z).canLay0 = true ∧ (PyData.str z).depth ≤ 5 := ⟨h, Nat.zero_le _⟩
theorem lay_due (k : Book) (pl : List (Option Int)) (now : Int) (i : Nat) (x : V) : (dueD k pl now i x).canLay0 = true ∧ (dueD k pl now i x).depth ≤ 5 := by
  unfold dueD
  split
  · exact lay_str (by decide +kernel)
  · unfold dueX
    split
    · exact lay_pair _ _
    · split
      · exact lay_pair _ _
      · exact lay_str (by decide +kernel)
    · exact lay_str (by decide +kernel)
theorem lay_told (k : Book) (pl : List (Option Int)) (now : Int) (i : Nat) (x : V) : (toldD k pl now i x).canLay0 = true ∧ (toldD k pl now i x).depth ≤ 5 := by
  unfold toldD
  split
  · exact lay_str (by decide +kernel)
  · exact lay_due k pl now i x
/-! ### numbers of any kind of scalar -/
inductive Sca : V → Prop
  | int (i : Int) : Sca (.int i)
  | bl (b : Bool) : Sca (.bl b)
  | str (s : Str) : Sca (.str s)
  | non : Sca .non
def numB (lo hi : Int) : V → Bool
  | .int i => decide (lo ≤ i) && decide (i ≤ hi)
  | _ => false
theorem isi_bb {K : PySem.W.Frag} {H : Hp} {Q : VK} {b : Bool} (h : Q (.bl true) H) : rIsi K [.bl b, .ty "bool"] H Q := ⟨.bl b, .ty "bool", .type "bool", .type "bool", true, rfl, .ty _, .base (.bl _), kit_ty (by decide +kernel), h⟩
theorem isi_bi {K : PySem.W.Frag} {H : Hp} {Q : VK} {b : Bool} (h : Q (.bl true) H) : rIsi K [.bl b, .ty "int"] H Q := ⟨.bl b, .ty "int", .type "bool", .type "int", true, rfl, .ty _, .base (.bl _), kit_ty (by decide +kernel), h⟩
theorem isi_sb {K : PySem.W.Frag} {H : Hp} {Q : VK} {z : Str} (h : Q (.bl false) H) : rIsi K [.str z, .ty "bool"] H Q := ⟨.str z, .ty "bool", .type "str", .type "bool", false, rfl, .ty _, .base (.str _), kit_ty (by decide +kernel), h⟩
theorem isi_si {K : PySem.W.Frag} {H : Hp} {Q : VK} {z : Str} (h : Q (.bl false) H) : rIsi K [.str z, .ty "int"] H Q := ⟨.str z, .ty "int", .type "str", .type "int", false, rfl, .ty _, .base (.str _), kit_ty (by decide +kernel), h⟩
theorem isi_nb {K : PySem.W.Frag} {H : Hp} {Q : VK} (h : Q (.bl false) H) : rIsi K [.non, .ty "bool"] H Q := ⟨.non, .ty "bool", .type "NoneType", .type "bool", false, rfl, .ty _, .base .non, kit_ty (by decide +kernel), h⟩
theorem isi_ni {K : PySem.W.Frag} {H : Hp} {Q : VK} (h : Q (.bl false) H) : rIsi K [.non, .ty "int"] H Q := ⟨.non, .ty "int", .type "NoneType", .type "int", false, rfl, .ty _, .base .non, kit_ty (by decide +kernel), h⟩
end GD

namespace GD
open PySem PySem.Spec PyProof.Rows L2 GxR GX GS GT GC TL
/-! ### books and plans as texts -/
theorem catAK {X : Cx} (K : PySem.W.Frag) (h : X.K = K) : OpR X (binaryOp .Add) (rCatA K) := by
  subst h
  exact op_catA
theorem isi_ss {K : PySem.W.Frag} {H : Hp} {Q : VK} {z : Str} (h : Q (.bl true) H) : rIsi K [.str z, .ty "str"] H Q :=
  ⟨.str z, .ty "str", .type "str", .type "str", true, rfl, .ty _, .base (.str _), kit_ty (by decide +kernel), h⟩
def cellS : Option Int → Str
  | none => "-"
  | some n => toString n
def rowS (z : Str) (xs : List (Option Int)) : Str := Txt.join " " (z :: xs.map cellS)
theorem joinL_len (S : List Nat) : ∀ ps : List (List Nat), (joinL S ps).length ≤ (ps.map (·.length)).sum + ps.length * S.length
  | [] => Nat.zero_le _
  | [p] => by simp [joinL]
  | p :: q :: r => by
    have h := joinL_len S (q :: r)
    show (p ++ (S ++ joinL S (q :: r))).length ≤ _
    rw [List.length_append, List.length_append, List.map_cons, List.sum_cons, List.length_cons, Nat.succ_mul]
    omega
theorem join_len (y : Str) (ps : List Str) : (Txt.join y ps).length ≤ (ps.map (·.length)).sum + ps.length * y.length := by
  have h := joinL_len (tl y) (ps.map tl)
  rw [join_eq, len_tl, tl_join]
  rw [List.length_map, List.map_map, ← len_tl] at h
  have e : ps.map ((fun x : List Nat => x.length) ∘ tl) = ps.map (·.length) := List.map_congr_left fun x _ => (len_tl x).symm
  rw [e] at h
  exact h
theorem sum_le {α : Type} {f : α → Nat} {c : Nat} : ∀ {xs : List α}, (∀ x ∈ xs, f x ≤ c) → (xs.map f).sum ≤ xs.length * c
  | [], _ => Nat.zero_le _
  | x :: xs, h => by
    rw [List.map_cons, List.sum_cons, List.length_cons, Nat.succ_mul]
    have h1 := h x (by simp)
    have h2 := sum_le (f := f) (c := c) (xs := xs) fun y hy => h y (by simp [hy])
    omega
def Small (o : Option Int) : Prop := ∀ n, o = some n → 0 ≤ n ∧ n ≤ 999
theorem cellS_len {o : Option Int} (h : Small o) : (cellS o).length ≤ 3 := by
  cases o with
  | none => exact (by decide +kernel : (cellS none).length ≤ 3)
  | some n =>
    obtain ⟨h0, h9⟩ := h n rfl
    obtain ⟨m, rfl⟩ : ∃ m : Nat, n = (m : Int) := ⟨n.toNat, by omega⟩
    show (Str.ofString (toString ((m : Nat) : Int))).length ≤ 3
    rw [len_tl, tl_num]
    exact numL_len (by decide) (show m < 10 ^ 3 by omega)
theorem cellS_log {n : Int} (h0 : 0 ≤ n) (h9 : n ≤ 999) : n.natAbs.log2 < 1920 := by
  have h : n.natAbs < 2 ^ 10 := by omega
  by_cases e : n.natAbs = 0
  · rw [e]
    decide
  · have := (Nat.log2_lt e).mpr h
    omega
theorem rowSum_le {z : Str} {xs : List (Option Int)} (hz : z.length ≤ 10) (hx : ∀ o ∈ xs, Small o) : ((z :: xs.map cellS).map (·.length)).sum ≤ 10 + xs.length * 3 := by
  rw [List.map_cons, List.sum_cons, List.map_map]
  have h := sum_le (f := (fun s : Str => s.length) ∘ cellS) (c := 3) (xs := xs) fun o ho => cellS_len (hx o ho)
  omega
theorem rowS_len {z : Str} {xs : List (Option Int)} (hz : z.length ≤ 10) (hn : xs.length ≤ 30) (hx : ∀ o ∈ xs, Small o) : (rowS z xs).length ≤ 150 := by
  unfold rowS
  have h1 := join_len " " (z :: xs.map cellS)
  have h2 := rowSum_le hz hx
  have h3 : (" " : Str).length = 1 := by decide +kernel
  rw [h3, List.length_cons, List.length_map] at h1
  omega
abbrev strsV (ys : List Str) : List V := ys.map V.str
def stretchC (s : Stretch) : List (Option Int) := some s.hours :: some s.room :: s.ds.map some
def bargeC (b : Barge) : List (Option Int) := [some b.b, some b.g, some b.d, some b.r, some b.u]
theorem stretchC_v (s : Stretch) : (stretchC s).map oV = [.int s.hours, .int s.room] ++ s.ds.map V.int := by
  unfold stretchC
  rw [List.map_cons, List.map_cons, List.map_map]
  rfl
theorem stretchC_small {s : Stretch} (ok : s.Ok) : (∀ o ∈ stretchC s, Small o) ∧ (stretchC s).length ≤ 30 := by
  constructor
  · intro o ho n e
    subst e
    unfold stretchC at ho
    rcases List.mem_cons.mp ho with z | ho
    · cases z
      have := ok.h1
      have := ok.h9
      omega
    · rcases List.mem_cons.mp ho with z | ho
      · cases z
        have := ok.r1
        have := ok.r9
        omega
      · obtain ⟨d, hd, z⟩ := List.mem_map.mp ho
        cases z
        have := ok.ds n hd
        omega
  · have := ok.d24
    unfold stretchC
    rw [List.length_cons, List.length_cons, List.length_map]
    omega
theorem bargeC_small {b : Barge} {n : Nat} (ok : b.Ok n) (hn : n ≤ 8) : (∀ o ∈ bargeC b, Small o) ∧ (bargeC b).length ≤ 30 := by
  constructor
  · intro o ho m e
    subst e
    have := ok.b0
    have := ok.bg
    have := ok.gn
    have := ok.d1
    have := ok.d99
    have := ok.r0
    have := ok.r99
    have := ok.u0
    have := ok.u199
    unfold bargeC at ho
    simp only [List.mem_cons, Option.some.injEq, List.not_mem_nil, or_false] at ho
    omega
  · unfold bargeC
    simp
theorem plan_small {n : Nat} {pl : List (Option Int)} (ok : PlOk n pl) : ∀ o ∈ pl, Small o := fun o ho m e => by
  subst e
  have := ok.ok m ho
  omega
def linesN (k : Book) (pl : List (Option Int)) : List Str := k.rv.map (fun s => rowS "stretch" (stretchC s)) ++ k.bs.map (fun b => rowS "barge" (bargeC b)) ++ [rowS "plan" pl]
def textN (k : Book) (pl : List (Option Int)) : Str := Txt.join "\n" (linesN k pl)
theorem lines_small {k : Book} {pl : List (Option Int)} (ok : k.Ok) (okp : PlOk k.bs.length pl) : (∀ x ∈ linesN k pl, x.length ≤ 150) ∧ (linesN k pl).length ≤ 16 := by
  have n7 := ok.n7
  have n8 := ok.rv.n8
  have lp := okp.len
  constructor
  · intro x hx
    unfold linesN at hx
    rcases List.mem_append.mp hx with hx | hx
    · rcases List.mem_append.mp hx with hx | hx
      · obtain ⟨s, hs, rfl⟩ := List.mem_map.mp hx
        have := stretchC_small (ok.rv.ok s hs)
        exact rowS_len (by decide +kernel) this.2 this.1
      · obtain ⟨b, hb, rfl⟩ := List.mem_map.mp hx
        have := bargeC_small (ok.ok b hb) n8
        exact rowS_len (by decide +kernel) this.2 this.1
    · rw [List.mem_singleton.mp hx]
      exact rowS_len (by decide +kernel) (by omega) (plan_small okp)
  · unfold linesN
    rw [List.length_append, List.length_append, List.length_map, List.length_map, List.length_singleton]
    omega
theorem lines_sum {k : Book} {pl : List (Option Int)} (ok : k.Ok) (okp : PlOk k.bs.length pl) : ((linesN k pl).map (·.length)).sum + (linesN k pl).length * ("\n" : Str).length ≤ 16777216 := by
  obtain ⟨h1, h2⟩ := lines_small ok okp
  have h3 := sum_le (f := fun x : Str => x.length) h1
  have h4 : ("\n" : Str).length = 1 := by decide +kernel
  rw [h4]
  omega
end GD

namespace GD
open PySem PySem.Spec PyProof.Rows L2 GxR GX GS GT GC TL
/-! ### texts, read -/
theorem slLK {X : Cx} (K : PySem.W.Frag) (h : X.K = K) : SlR X (rSlL K) := by
  subst h
  exact sl_list
theorem cut_list (xs : List V) (p : Nat) : cutV xs (some (p : Int)) none = xs.drop p := by
  unfold cutV
  rw [HT.sIx_none, HT.sIx_nat]
  by_cases h : p ≤ xs.length
  · rw [Nat.min_eq_left h]
    exact List.take_of_length_le (by rw [List.length_drop]; omega)
  · rw [Nat.min_eq_right (by omega), List.drop_of_length_le (Nat.le_refl _), List.drop_of_length_le (by omega)]
    simp
theorem numL_head : ∀ n : Nat, 0 < n → ∃ c r, numL n = c :: r ∧ c ≠ 48 := by
  intro n
  induction n using Nat.strongRecOn with
  | _ n ih =>
    intro hn
    by_cases h : n < 10
    · exact ⟨48 + n, [], numL_lt h, by omega⟩
    · obtain ⟨c, r, e, hc⟩ := ih (n / 10) (by omega) (by omega)
      rw [numL_step (by omega), e]
      exact ⟨c, r ++ [48 + n % 10], rfl, hc⟩
theorem cell_num (m : Nat) : tl (cellS (some (m : Int))) = numL m := tl_num m
theorem cell_sign {o : Option Int} (h : Small o) {c : Nat} (hc : c ∈ tl (cellS o)) : c = 45 ∨ (48 ≤ c ∧ c ≤ 57) := by
  cases o with
  | none =>
    have e : tl (cellS none) = [45] := by decide +kernel
    rw [e] at hc
    exact .inl (List.mem_singleton.mp hc)
  | some n =>
    obtain ⟨h0, h9⟩ := h n rfl
    obtain ⟨m, rfl⟩ : ∃ m : Nat, n = (m : Int) := ⟨n.toNat, by omega⟩
    rw [cell_num] at hc
    exact .inr (numL_digits m c hc)
theorem mem_joinL {s c : Nat} : ∀ {ps : List (List Nat)}, c ∈ joinL [s] ps → c = s ∨ ∃ p ∈ ps, c ∈ p
  | [], h => absurd h (by simp [joinL])
  | [p], h => .inr ⟨p, by simp, h⟩
  | p :: q :: r, h => by
    have h : c ∈ p ++ ([s] ++ joinL [s] (q :: r)) := h
    rcases List.mem_append.mp h with h | h
    · exact .inr ⟨p, by simp, h⟩
    · rcases List.mem_append.mp h with h | h
      · exact .inl (List.mem_singleton.mp h)
      · rcases mem_joinL h with z | ⟨u, hu, z⟩
        · exact .inl z
        · exact .inr ⟨u, by simp [List.mem_cons.mp hu], z⟩
/-- a name of a row: none of its signs is a blank or a line's end -/
def NameOk (nm : Str) : Prop := ∀ c ∈ tl nm, 97 ≤ c
theorem row_signs {nm : Str} {xs : List (Option Int)} (hn : NameOk nm) (hx : ∀ o ∈ xs, Small o) : ∀ p ∈ nm :: xs.map cellS, (32 : Nat) ∉ tl p ∧ (10 : Nat) ∉ tl p := by
  intro p hp
  rcases List.mem_cons.mp hp with rfl | hp
  · exact ⟨fun z => by have := hn _ z; omega, fun z => by have := hn _ z; omega⟩
  · obtain ⟨o, ho, rfl⟩ := List.mem_map.mp hp
    exact ⟨fun z => by rcases cell_sign (hx o ho) z with e | e <;> omega, fun z => by rcases cell_sign (hx o ho) z with e | e <;> omega⟩
theorem split_row {nm : Str} {xs : List (Option Int)} (hn : NameOk nm) (hx : ∀ o ∈ xs, Small o) : Txt.split (rowS nm xs) " " = nm :: xs.map cellS :=
  split_join (s := 32) (S := []) (by decide +kernel) (by decide +kernel) (by simp) fun p hp => (row_signs hn hx p hp).1
theorem row_line {nm : Str} {xs : List (Option Int)} (hn : NameOk nm) (hx : ∀ o ∈ xs, Small o) : (10 : Nat) ∉ tl (rowS nm xs) := by
  intro hc
  unfold rowS at hc
  have e : tl (" " : Str) = [32] := by decide +kernel
  rw [join_eq, tl_join, e] at hc
  rcases mem_joinL hc with z | ⟨p, hp, z⟩
  · cases z
  · obtain ⟨w, hw, rfl⟩ := List.mem_map.mp hp
    exact (row_signs hn hx w hw).2 z
theorem nm_stretch : NameOk "stretch" := by unfold NameOk; decide +kernel
theorem nm_barge : NameOk "barge" := by unfold NameOk; decide +kernel
theorem nm_plan : NameOk "plan" := by unfold NameOk; decide +kernel
/-- the rows of a text, by their names and numbers -/
abbrev RowC := Str × List (Option Int)
def rowsC (k : Book) (pl : List (Option Int)) : List RowC := k.rv.map (fun s => (("stretch" : Str), stretchC s)) ++ k.bs.map (fun b => (("barge" : Str), bargeC b)) ++ [(("plan" : Str), pl)]
theorem rowsC_lines (k : Book) (pl : List (Option Int)) : (rowsC k pl).map (fun r => rowS r.1 r.2) = linesN k pl := by
  unfold rowsC linesN
  rw [List.map_append, List.map_append, List.map_map, List.map_map]
  rfl
theorem rowsC_ok {k : Book} {pl : List (Option Int)} (ok : k.Ok) (okp : PlOk k.bs.length pl) : ∀ r ∈ rowsC k pl, NameOk r.1 ∧ (∀ o ∈ r.2, Small o) ∧ r.2.length ≤ 30 := by
  intro r hr
  have n8 := ok.rv.n8
  have n7 := ok.n7
  have lp := okp.len
  unfold rowsC at hr
  rcases List.mem_append.mp hr with hr | hr
  · rcases List.mem_append.mp hr with hr | hr
    · obtain ⟨s, hs, rfl⟩ := List.mem_map.mp hr
      have := stretchC_small (ok.rv.ok s hs)
      exact ⟨nm_stretch, this.1, this.2⟩
    · obtain ⟨b, hb, rfl⟩ := List.mem_map.mp hr
      have := bargeC_small (ok.ok b hb) n8
      exact ⟨nm_barge, this.1, this.2⟩
  · rw [List.mem_singleton.mp hr]
    exact ⟨nm_plan, plan_small okp, by show pl.length ≤ 30; omega⟩
theorem split_text {k : Book} {pl : List (Option Int)} (ok : k.Ok) (okp : PlOk k.bs.length pl) : Txt.split (textN k pl) "\n" = linesN k pl := by
  refine split_join (s := 10) (S := []) (by decide +kernel) (by decide +kernel) (by unfold linesN; simp) fun p hp => ?_
  rw [← rowsC_lines] at hp
  obtain ⟨r, hr, rfl⟩ := List.mem_map.mp hp
  have h := rowsC_ok ok okp r hr
  exact row_line h.1 h.2.1
theorem text_len {k : Book} {pl : List (Option Int)} (ok : k.Ok) (okp : PlOk k.bs.length pl) : (textN k pl).length + 2 ≤ sizeLine := by
  have h1 := join_len "\n" (linesN k pl)
  obtain ⟨h2, h3⟩ := lines_small ok okp
  have h4 := sum_le (f := fun x : Str => x.length) h2
  have h5 : ("\n" : Str).length = 1 := by decide +kernel
  rw [h5] at h1
  have h6 := sizeLine_eq
  unfold textN
  omega
def namesN (k : Book) : List Str := List.replicate k.rv.length ("stretch" : Str) ++ List.replicate k.bs.length ("barge" : Str) ++ (("plan" : Str) :: [])
theorem names_rows (k : Book) (pl : List (Option Int)) : (rowsC k pl).map (·.1) = namesN k := by
  unfold rowsC namesN
  rw [List.map_append, List.map_append, List.map_map, List.map_map]
  have e : ∀ {α : Type} (f : α → Str) (c : Str) (xs : List α), (∀ x, f x = c) → xs.map f = List.replicate xs.length c := fun f c xs h => by
    rw [List.eq_replicate_iff]
    exact ⟨List.length_map .., fun b hb => by obtain ⟨x, _, rfl⟩ := List.mem_map.mp hb; exact h x⟩
  have e1 := e ((fun x : RowC => x.1) ∘ fun s => (("stretch" : Str), stretchC s)) ("stretch" : Str) k.rv (fun _ => rfl)
  have e2 := e ((fun x : RowC => x.1) ∘ fun b => (("barge" : Str), bargeC b)) ("barge" : Str) k.bs (fun _ => rfl)
  rw [e1, e2]
  rfl
theorem count_rep (a b : Str) (n : Nat) : (strsV (List.replicate n a)).countP (fun z => eqV z (.str b)) = if a = b then n else 0 := by
  unfold strsV
  rw [List.map_replicate, List.countP_replicate]
  by_cases c : a = b
  · rw [if_pos c, if_pos (by simp [eqV, c])]
  · rw [if_neg c, if_neg (by simp [eqV, c])]
theorem count_stretch (k : Book) : (strsV (namesN k)).countP (fun z => eqV z (.str "stretch")) = k.rv.length := by
  unfold namesN
  have e : strsV (List.replicate k.rv.length ("stretch" : Str) ++ List.replicate k.bs.length ("barge" : Str) ++ (("plan" : Str) :: [])) = strsV (List.replicate k.rv.length "stretch") ++ strsV (List.replicate k.bs.length "barge") ++ strsV (List.replicate 1 "plan") := by
    unfold strsV
    rw [List.map_append, List.map_append]
    rfl
  rw [e, List.countP_append, List.countP_append, count_rep, count_rep, count_rep, if_pos rfl, if_neg (by decide +kernel), if_neg (by decide +kernel)]
  rfl
theorem count_barge (k : Book) : (strsV (namesN k)).countP (fun z => eqV z (.str "barge")) = k.bs.length := by
  unfold namesN
  have e : strsV (List.replicate k.rv.length ("stretch" : Str) ++ List.replicate k.bs.length ("barge" : Str) ++ (("plan" : Str) :: [])) = strsV (List.replicate k.rv.length "stretch") ++ strsV (List.replicate k.bs.length "barge") ++ strsV (List.replicate 1 "plan") := by
    unfold strsV
    rw [List.map_append, List.map_append]
    rfl
  rw [e, List.countP_append, List.countP_append, count_rep, count_rep, count_rep, if_neg (by decide +kernel), if_pos rfl, if_neg (by decide +kernel)]
  omega
theorem flat_strs2 (ys : List Str) : (strsV ys).all flatV = true := by
  unfold strsV
  rw [List.all_map, List.all_eq_true]
  intro x _
  rfl
def strsD (ys : List Str) : List PyData := ys.map PyData.str
theorem dp_strs {K : PySem.W.Frag} {H : Hp} : ∀ ys : List Str, DpAll K H (strsV ys) (strsD ys)
  | [] => .nil
  | y :: ys => .cons (.str y) (dp_strs ys)
theorem lay_names (k : Book) : (PyData.list (strsD (namesN k))).canLay0 = true ∧ (PyData.list (strsD (namesN k))).depth ≤ 1 := by
  have key : ∀ ys : List Str, (∀ y ∈ ys, PyData.strOk y = true) → PyData.canLayAll0 (strsD ys) = true ∧ PyData.depthAll (strsD ys) ≤ 0 := fun ys => by
    induction ys with
    | nil => exact fun _ => ⟨rfl, Nat.le_refl _⟩
    | cons y ys ih =>
      intro h
      obtain ⟨h1, h2⟩ := ih fun z hz => h z (by simp [hz])
      constructor
      · show (PyData.strOk y && PyData.canLayAll0 (strsD ys)) = true
        rw [h y (by simp), h1]
        rfl
      · show max 0 (PyData.depthAll (strsD ys)) ≤ 0
        omega
  obtain ⟨h1, h2⟩ := key (namesN k) fun y hy => by
    unfold namesN at hy
    rcases List.mem_append.mp hy with hy | hy
    · rcases List.mem_append.mp hy with hy | hy
      · rw [(List.mem_replicate.mp hy).2]; decide +kernel
      · rw [(List.mem_replicate.mp hy).2]; decide +kernel
    · rw [List.mem_singleton.mp hy]; decide +kernel
  exact ⟨h1, Nat.succ_le_succ h2⟩
/-- a list of one's own of the words of a row -/
def IsWords (K : PySem.W.Frag) (H : Hp) (v : V) (r : RowC) : Prop := ∃ d, v = .ref d ∧ SqL K H d (strsV (r.1 :: r.2.map cellS))
theorem Ext.words {H H1 : Hp} {K : PySem.W.Frag} {v : V} {r : RowC} (e : Ext [] H H1) (h : IsWords K H v r) : IsWords K H1 v r := let ⟨d, a, b⟩ := h; ⟨d, a, e.sqL (by simp) b⟩
theorem words_wr {H : Hp} {K : PySem.W.Frag} {D : Addr} {v : V} {r : RowC} {xs : List V} {o : HO} (hD : H D = some (.lst xs)) (hne : v ≠ .ref D) (h : IsWords K H v r) : IsWords K (upd H D o) v r := by
  obtain ⟨d, rfl, b⟩ := h
  have hd : d ≠ D := fun e => hne (by rw [e])
  refine ⟨d, rfl, ?_⟩
  rcases b with (b | ⟨u, b⟩) | b
  · exact .inl (.inl (by rw [upd_ne hd]; exact b))
  · exact .inl (.inr ⟨u, by rw [upd_ne hd]; exact b⟩)
  · exact .inr b
theorem paired_memP {α β : Type} {F G : α → β → Prop} : ∀ {xs : List α} {ys : List β}, Paired F xs ys → (∀ x y, x ∈ xs → F x y → G x y) → Paired G xs ys
  | _, _, .nil, _ => .nil
  | _, _, .cons r t, h => .cons (h _ _ (by simp) r) (paired_memP t fun x y hx => h x y (by simp [hx]))
theorem cut_upto (xs : List V) (p : Nat) (h : p ≤ xs.length) : cutV xs none (some (p : Int)) = xs.take p := by
  unfold cutV
  rw [HT.sIx_none, HT.sIx_nat, Nat.min_eq_left h, List.drop_zero, Nat.sub_zero]
theorem cut_mid (xs : List V) (p : Nat) (h : p + 1 ≤ xs.length) : cutV xs (some (p : Int)) (some (-1)) = (xs.drop p).take (xs.length - 1 - p) := by
  unfold cutV
  have e : HT.sIx xs.length xs.length (some (-1)) = xs.length - 1 := by
    unfold HT.sIx
    simp
    omega
  rw [HT.sIx_nat, Nat.min_eq_left (by omega), e]
end GD

namespace LM
open PySem PySem.Spec PyProof.Rows L2 NdefX LamX GD
/-! ### lambdas that are kept, and called elsewhere: the cells that they caught are tracked while the frame that has them does not run -/
/-- the object at f is the lambda F with the body e -/
def LamO (f : Addr) (F : NF) (e : Expr) : HO := .ext fun h => ∃ pm ctv : Value, h.get? f = some (PySem.W.kla_obj "<lambda>" F.qual F.params e F.scope F.cl pm F.c ctv)
/-- the object at c is o, a cell's -/
def CellO (c : Addr) (o : Obj) : HO := .ext fun h => h.get? c = some o
/-- a code object's table, by what it tells -/
def TabE (P : Addr) (ps : Array Value) : HO := .ext fun h => h.get? P = some { cls := .none, data := .fields ps }
/-- .. each code object that it tells bears the name q -/
def TabL (H : Hp) (P : Addr) (q : Str) : Prop := ∃ ps : Array Value, H P = some (TabE P ps) ∧ TriplesOk ps.toList ∧ ∀ (pos : Pos) (cv : Value), codeAmong pos ps.toList = some cv → ∃ c, cv = .ref c ∧ H c = some (CodeO c q) ∧ c ≠ P
theorem TabL.keep {H H1 : Hp} {P : Addr} {q : Str} {ex : List Addr} (t : TabL H P q) (e : Ext ex H H1) (hP : P ∉ ex) (hx : ∀ b ∈ ex, ∀ φ, H b ≠ some (.ext φ)) : TabL H1 P q := by
  obtain ⟨ps, h1, h2, h3⟩ := t
  refine ⟨ps, e.oth P _ hP (fun ps z => by cases z) h1, h2, fun pos cv hc => ?_⟩
  obtain ⟨c, z1, z2, z3⟩ := h3 pos cv hc
  exact ⟨c, z1, e.oth c _ (fun hb => hx c hb _ z2) (fun ps z => by cases z) z2, z3⟩
theorem TabL.nil {H : Hp} {P : Addr} {q : Str} (h : H P = some (TabE P #[])) : TabL H P q := ⟨#[], h, True.intro, fun pos cv hc => by
  have z : codeAmong pos [] = some cv := hc
  simp [codeAmong] at z⟩
theorem ext_of {ex : List Addr} {H H1 : Hp} (k : ∀ b o, b ∉ ex → H b = some o → H1 b = some o) (m : ∀ b ∈ ex, ∃ φ, H b = some (.ext φ)) (d : ∀ b, H1 b = none → H b = none) : Ext ex H H1 where
  tup := fun b xs e => k b _ (fun hb => by obtain ⟨φ, z⟩ := m b hb; rw [e] at z; cases z) e
  frz := fun b o u e => k b _ (fun hb => by obtain ⟨φ, z⟩ := m b hb; rw [e] at z; cases z) e
  tbl := fun b ps e t => ⟨ps, k b _ (fun hb => by obtain ⟨φ, z⟩ := m b hb; rw [e] at z; cases z) e, t⟩
  lst := fun b xs n e => k b _ n e
  oth := fun b u n _ e => k b _ n e
  dom := d
section
variable {X : Cx} {pins : List (Addr × Obj)} {σ : L2.St} {H : Hp} {s : Shared}
/-- the table is written, a new code object is known from now on -/
theorem inv_tabE {P c : Addr} {q : Str} {ps more : Array Value} {h' : Heap} {tk : Nat} (I : Inv X pins σ H s) (hP : H P = some (TabE P ps)) (k : ∀ b o, b ≠ P → s.heap.get? b = some o → h'.get? b = some o)
    (hm : h'.get? P = some { cls := .none, data := .fields (ps ++ more) }) (hc : s.heap.objs.size ≤ c) (hrec : ∃ (oc : Obj) (vs : Array Value) (t : Tok), h'.get? c = some oc ∧ oc.data = .fields vs ∧ vs[1]? = some (.str q t)) :
    Inv X pins σ (upd (upd H P (TabE P (ps ++ more))) c (CodeO c q)) { s with heap := h', toks := tk } := by
  have freshC : H c = none := I.hok.fresh hc
  have apart : P ≠ c := ne_of_none hP freshC
  have other : ∀ b, b ≠ P → b ≠ c → upd (upd H P (TabE P (ps ++ more))) c (CodeO c q) b = H b := fun b n1 n2 => (upd_ne n2).trans (upd_ne n1)
  have atTable : upd (upd H P (TabE P (ps ++ more))) c (CodeO c q) P = some (TabE P (ps ++ more)) := (upd_ne apart).trans upd_same
  have notTable : ∀ b, H b = none → b ≠ P := fun b n z => by rw [z, hP] at n; cases n
  have old : ∀ b o, s.heap.get? b = some o → b ≠ c := fun b o e z => Nat.lt_irrefl _ (Nat.lt_of_lt_of_le (Heap.lt_size (z ▸ e)) hc)
  have known : ∀ b u, H b = some u → b ≠ c := fun b u e => ne_of_none e freshC
  have plain : ∀ b u, H b = some u → (∀ φ, u ≠ .ext φ) → upd (upd H P (TabE P (ps ++ more))) c (CodeO c q) b = some u := fun b u e n => by
    rw [other b (fun z => by rw [z, hP] at e; exact n _ (Option.some.inj e).symm) (known b u e)]
    exact e
  refine I.un ⟨fun b o e n _ _ => k b o (notTable b n) e, fun b o e n _ _ => ⟨o.slots, k b o (notTable b n) e⟩, fun b o e n _ => ?_, fun b o e _ => ?_, fun b xs e => plain b _ e fun φ z => (by cases z), fun b o u e => plain b _ e fun φ z => (by cases z), fun b qs e => ⟨#[], ?_⟩⟩ fun b u e => ?_
  · rw [other b (notTable b n) (old b o e)]
    exact n
  · by_cases hb : b = P
    · exact ⟨_, hb ▸ hm⟩
    · exact ⟨o, k b o hb e⟩
  · rw [Array.append_empty]
    exact plain b _ e fun φ z => (by cases z)
  · by_cases h1 : b = c
    · subst h1
      rw [upd_same] at e
      cases e
      obtain ⟨oc, vs, t, z1, z2, z3⟩ := hrec
      exact ⟨⟨oc, vs, t, z1, z2, z3⟩, ⟨oc, z1⟩, fun g1 g2 ⟨oc, vs, t, y1, y2, y3⟩ st => ⟨oc, vs, t, st _ y1, y2, y3⟩⟩
    · by_cases h2 : b = P
      · subst h2
        rw [atTable] at e
        cases e
        exact ⟨hm, ⟨_, hm⟩, fun g1 g2 z st => st _ z⟩
      · rw [other b h2 h1] at e
        refine (I.hok b u e).stay (fun d v hd y => k d v (fun z => ?_) y) (fun d y => plain d _ y fun φ z => (by cases z)) fun d xs y => plain d _ y fun φ z => (by cases z)
        rcases hd with hd | hd
        · exact h2 (hd.symm.trans z)
        · rw [z, hP] at hd
          cases hd
theorem among_snoc {pos p' : Pos} {c cv : Value} : ∀ (l : List Value), TriplesOk l → codeAmong p' (l ++ [rawInt pos.line, rawInt pos.col, c]) = some cv → codeAmong p' l = some cv ∨ cv = c := fun l h hc => (among_app2 l h hc).elim .inl fun z => .inr z.1
/-- a code object's second field is a text, a table's an int -/
theorem not_table {ps : Array Value} {q : Str} {t : Tok} (h : TriplesOk ps.toList) (e : ps[1]? = some (.str q t)) : False := by
  have e2 : ps.toList[1]? = some (.str q t) := by rw [Array.getElem?_toList]; exact e
  revert h e2
  generalize ps.toList = l
  intro h e2
  unfold TriplesOk at h
  split at h
  · cases e2
  · cases e2
  · exact h
/-- a code object is no table -/
theorem code_table {P : Program} {w : World} {H : Hp} {h : Heap} {c : Addr} {q : Str} (hok : HOk P w H h) (hc : H c = some (CodeO c q)) : ∀ (P' : Addr) (q' : Str), TabL H P' q' → c ≠ P' := fun P' q' T e => by
  subst e
  obtain ⟨ps, h1, h2, _⟩ := T
  obtain ⟨⟨oc, vs, t, z1, z2, z3⟩, _, _⟩ := hok c _ hc
  have z4 : h.get? c = some { cls := .none, data := .fields ps } := (hok c _ h1).1
  rw [z1] at z4
  cases z4
  have z2 : Data.fields ps = Data.fields vs := z2
  cases z2
  exact not_table h2 z3
/-- a code object's entry is no table's -/
theorem code_tab {c : Addr} {q : Str} {ps : Array Value} (h2 : TriplesOk ps.toList) : CodeO c q ≠ TabE c ps := fun e => by
  unfold CodeO TabE at e
  injection e with e
  have hg : Heap.get? ⟨(Array.replicate c default).push { cls := .none, data := .fields ps }, {}⟩ c = some { cls := .none, data := .fields ps } := by
    have h0 : ((Array.replicate c default).push ({ cls := .none, data := .fields ps } : Obj))[c]? = some { cls := .none, data := .fields ps } := by
      have y := Array.getElem?_push_size (xs := Array.replicate c (default : Obj)) (x := ({ cls := .none, data := .fields ps } : Obj))
      rw [Array.size_replicate] at y
      exact y
    unfold Heap.get?
    dsimp only
    rw [h0]
  have z := (congrFun e ⟨(Array.replicate c default).push { cls := .none, data := .fields ps }, {}⟩).mpr hg
  obtain ⟨oc, vs, t, z1, z2, z3⟩ := z
  rw [hg] at z1
  cases z1
  have z2 : Data.fields ps = Data.fields vs := z2
  cases z2
  exact not_table h2 z3
/-- a table stays where another grows -/
theorem TabL.keepT {H H1 : Hp} {P : Addr} {q : Str} {ex : List Addr} (t : TabL H P q) (e : Ext ex H H1) (hP : P ∉ ex) (hx : ∀ b ∈ ex, (∃ q', TabL H b q') ∨ ∀ φ, H b ≠ some (.ext φ)) : TabL H1 P q := by
  obtain ⟨ps, h1, h2, h3⟩ := t
  refine ⟨ps, e.oth P _ hP (fun ps z => by cases z) h1, h2, fun pos cv hc => ?_⟩
  obtain ⟨c, z1, z2, z3⟩ := h3 pos cv hc
  refine ⟨c, z1, e.oth c _ (fun hb => ?_) (fun ps z => by cases z) z2, z3⟩
  rcases hx c hb with ⟨q', ps', y1, y2, _⟩ | y
  · rw [z2] at y1
    exact code_tab y2 (Option.some.inj y1)
  · exact y _ z2
/-- the lambda is made -/
theorem lam_made {P c : Addr} {params : Arguments} {body : Expr} {scope : Scope} {pos : Pos} {E : Value → Shared → Prop} {Q : Value → Shared → Prop} (I : Inv X pins σ H s) (TB : GxR.TabB X.base X.mg c P) (hcode : X.env.code = .ref c) (T : TabL H P (X.env.qual ++ "<lambda>"))
    (hdef : defaultsOf params X.env = ([], [])) (hfree : ∀ y ∈ scope.names, y.2 = .free → ∃ c, X.env.cells.lookup y.1 = some c)
    (h : ∀ (f c' : Addr) (H1 : Hp) (s' : Shared), Inv X pins σ H1 s' → Ext [P] H H1 → TabL H1 P (X.env.qual ++ "<lambda>") → H f = none → f ≠ P → (c' ≠ P ∧ ∀ (P' : Addr) (q' : Str), TabL H1 P' q' → c' ≠ P') → H1 f = some (LamO f ⟨"<lambda>", X.env.qual ++ "<lambda>", params, [], scope, cloFrom X.env.cells scope.names [], c'⟩ body) → H1 c' = some (CodeO c' (X.env.qual ++ "<lambda>")) → Q (.ref f) s') :
    wpAny (model X.prog X.w) X.A (eval (.Lambda params body scope pos) X.env) Q E s := by
  obtain ⟨ps, hP, ht, ha⟩ := T
  refine PySem.W.kla_eval hdef ?_
  have bP : s.heap.BuiltinsAt X.mg P := TB.bm.keeps I.bk
  obtain ⟨hP', _, _⟩ := I.hok P _ hP
  have made : ∀ {H0 : Hp} {s0 : Shared} {c' : Addr} {o : Obj} {tk : Nat} {pm ctv : Value}, Inv X pins σ H0 s0 → o = PySem.W.kla_obj "<lambda>" (X.env.qual ++ "<lambda>") params body scope (cloFrom X.env.cells scope.names []) pm c' ctv →
      Inv X pins σ (upd H0 s0.heap.objs.size (LamO s0.heap.objs.size ⟨"<lambda>", X.env.qual ++ "<lambda>", params, [], scope, cloFrom X.env.cells scope.names [], c'⟩ body)) { s0 with heap := s0.heap.push o, toks := tk } := fun {H0 s0 c' o tk pm ctv} I0 ho => by
    subst ho
    refine I0.laid (fun b u e => Heap.get?_push_of_some _ e) (Nat.le_refl _) ?_
    have z := Heap.get?_push_size s0.heap (o := PySem.W.kla_obj "<lambda>" (X.env.qual ++ "<lambda>") params body scope (cloFrom X.env.cells scope.names []) pm c' ctv) rfl
    exact ⟨⟨pm, ctv, z⟩, ⟨_, z⟩, fun g1 g2 ⟨p, t, y⟩ st => ⟨p, t, st _ y⟩⟩
  have ltP : P < s.heap.objs.size := Heap.lt_size hP'
  cases hc : codeAmong pos ps.toList with
  | none =>
    refine PySem.W.kla_makeFunction (mg := X.mg) (c := c) (P := P) (ps := ps) (closure_ok hfree) I.ok.glob (I.mod.glob.keeps I.bk) hcode (TB.code.keeps I.bk) hP' ht hc TB.gP bP fun c' ctv h' tk hx hge hlt hrec htb => ?_
    obtain ⟨c2, oc, vs, t, e2, hoc, hd, hv⟩ := hrec
    cases e2
    have nC : H c' = none := I.hok.fresh hge
    have I1 := inv_tabE (q := X.env.qual ++ "<lambda>") (tk := tk) (more := #[rawInt pos.line, rawInt pos.col, .ref c']) (h' := h') I hP (fun b o hb e => hx b o hb e) htb hge ⟨oc, vs, t, hoc, hd, hv⟩
    have I2 := made (c' := c') (tk := tk) (pm := (X.mg "__name__").getD .none) (ctv := ctv) I1 rfl
    have nF := I1.hok.fresh (Nat.le_refl h'.objs.size)
    have neC : c' ≠ h'.objs.size := Nat.ne_of_lt hlt
    have sz : s.heap.objs.size ≤ h'.objs.size := Nat.le_trans hge (Nat.le_of_lt hlt)
    have neP : P ≠ c' := ne_of_none hP nC
    have neF : P ≠ h'.objs.size := Nat.ne_of_lt (Nat.lt_of_lt_of_le ltP sz)
    have oldF : H h'.objs.size = none := I.hok.fresh sz
    have eL : (ps ++ #[rawInt pos.line, rawInt pos.col, .ref c']).toList = ps.toList ++ [rawInt pos.line, rawInt pos.col, .ref c'] := by simp
    have kept : ∀ b o, b ∉ [P] → H b = some o → upd (upd (upd H P (TabE P (ps ++ #[rawInt pos.line, rawInt pos.col, .ref c']))) c' (CodeO c' (X.env.qual ++ "<lambda>"))) h'.objs.size (LamO h'.objs.size ⟨"<lambda>", X.env.qual ++ "<lambda>", params, [], scope, cloFrom X.env.cells scope.names [], c'⟩ body) b = some o := fun b o n e => by
      rw [upd_ne (ne_of_none e oldF), upd_ne (ne_of_none e nC), upd_ne (by simpa using n)]
      exact e
    have atC : upd (upd (upd H P (TabE P (ps ++ #[rawInt pos.line, rawInt pos.col, .ref c']))) c' (CodeO c' (X.env.qual ++ "<lambda>"))) h'.objs.size (LamO h'.objs.size ⟨"<lambda>", X.env.qual ++ "<lambda>", params, [], scope, cloFrom X.env.cells scope.names [], c'⟩ body) c' = some (CodeO c' (X.env.qual ++ "<lambda>")) := (upd_ne neC).trans upd_same
    refine h h'.objs.size c' _ _ I2 (ext_of kept (fun b hb => by rw [List.mem_singleton.mp hb]; exact ⟨_, hP⟩) fun b e => ?_) ⟨_, (upd_ne neF).trans ((upd_ne neP).trans upd_same), by rw [eL]; exact PySem.TriplesOk_snoc _ _ _ _ ht, fun p' cv hcv => ?_⟩ oldF neF.symm ⟨neP.symm, code_table I2.hok atC⟩ upd_same atC
    · have step : ∀ {G : Hp} {a b : Addr} {o : HO}, upd G a o b = none → G b = none := fun {G a b o} z => by
        unfold upd at z
        split at z
        · cases z
        · exact z
      exact step (step (step e))
    · rw [eL] at hcv
      rcases among_snoc _ ht hcv with z | z
      · obtain ⟨c0, e1, e2, e3⟩ := ha p' cv z
        exact ⟨c0, e1, kept c0 _ (by simpa using e3) e2, e3⟩
      · exact ⟨c', z, atC, neP.symm⟩
  | some cv =>
    obtain ⟨c', e, hco, hne⟩ := ha pos cv hc
    subst e
    refine PySem.W.kla_makeFunctionHit (mg := X.mg) (c := c) (P := P) (ps := ps) (closure_ok hfree) I.ok.glob (I.mod.glob.keeps I.bk) hcode (TB.code.keeps I.bk) hP' ht hc bP fun ctv h' tk hx hsz => ?_
    have I1 : Inv X pins σ H { s with heap := h', toks := tk } := I.kept hx
    have I2 := made (c' := c') (tk := tk) (pm := (X.mg "__name__").getD .none) (ctv := ctv) I1 rfl
    have nF : H h'.objs.size = none := I1.hok.fresh (Nat.le_refl _)
    have kept : ∀ b o, H b = some o → upd H h'.objs.size (LamO h'.objs.size ⟨"<lambda>", X.env.qual ++ "<lambda>", params, [], scope, cloFrom X.env.cells scope.names [], c'⟩ body) b = some o := fun b o e => (upd_ne (ne_of_none e nF)).trans e
    refine h h'.objs.size c' _ _ I2 (ext_of (fun b o _ e => kept b o e) (fun b hb => by rw [List.mem_singleton.mp hb]; exact ⟨_, hP⟩) fun b e => ?_) ⟨ps, kept P _ hP, ht, fun p' cv hcv => ?_⟩ nF (Ne.symm (Nat.ne_of_lt (Nat.lt_of_lt_of_le ltP hsz))) ⟨hne, code_table I2.hok (kept c' _ hco)⟩ upd_same (kept c' _ hco)
    · unfold upd at e
      split at e
      · cases e
      · exact e
    · obtain ⟨c0, e1, e2, e3⟩ := ha p' cv hcv
      exact ⟨c0, e1, kept c0 _ e2, e3⟩
end
/-! ### its call -/
theorem lamO_at {P : Program} {w : World} {H : Hp} {h : Heap} {f : Addr} {F : NF} {e : Expr} (hok : HOk P w H h) (z : H f = some (LamO f F e)) : ∃ pm ctv : Value, h.get? f = some (PySem.W.kla_obj "<lambda>" F.qual F.params e F.scope F.cl pm F.c ctv) := (hok f _ z).1
theorem lam_fnAt {P : Program} {w : World} {H : Hp} {h : Heap} {f : Addr} {F : NF} {e : Expr} (hok : HOk P w H h) (z : H f = some (LamO f F e)) : PySem.W.FnAt f h := by
  obtain ⟨pm, ctv, ho⟩ := lamO_at hok z
  exact ⟨_, _, _, _, ho⟩
/-- the promise of the lambda F with the body e at f -/
structure LamOk (P : Program) (w : World) (K : PySem.W.Frag) (mg : Str → Option Value) (base : Heap) (CX : CXT) (k : Nat) (f : Addr) (F : NF) (e : Expr) (fr : List Str) (sp : List (Option V) → Sp) : Prop where
  run : ∀ (A : Around) (outer : List Env) (s : Shared) (H : Hp) (us : List Value) (vs : List V) (ws : List (Option V)) (Q : VK) (E : XK), Room k A → Env0 P w K mg base A outer s H → H f = some (LamO f F e) → H F.c = some (CodeO F.c F.qual) →
    CellsAt F.cl fr ws s.heap H → Vals vs us → sp ws vs H Q E → codeAny (model P w) A (.call (.ref f) ⟨us, []⟩) (CR CX outer P w H s Q E) s
section
variable {CX : CXT} {P : Program} {w : World} {K : PySem.W.Frag} {mg : Str → Option Value} {base : Heap} {N ps fr : List Str} {F : NF} {e : Expr} {f : Addr} {k : Nat} {t : XK → TE}
theorem lok_of (S : NScope N ps fr F.scope) (hb : ∀ (pm ctv : Value) (us : List Value), us.length = ps.length → bindArgs (PySem.W.kla_fn "<lambda>" F.qual F.params e F.scope F.cl pm (.ref F.c) ctv) ⟨us, []⟩ = pure (ps.zip us))
    (hbody : ∀ (A : Around) (outer : List Env) (s : Shared) (H : Hp) (E : XK), Room k (A.deeper (envF F f s.heap.objs.size)) → PE (ncx CX P w K mg base N F f A outer s H E) e (t E)) :
    LamOk P w K mg base CX (k + 1) f F e fr (fun ws vs H Q E => vs.length = ps.length ∧ t E (startF N vs ws) H Q) := by
  refine ⟨fun A outer s H us vs ws Q E hr e0 hf hc C r hsp => ?_⟩
  obtain ⟨hl, hq⟩ := hsp
  have lim : s.heap.NoLimit := e0.mod.nolimit.keeps fun b o e => (e0.bs b o e).1
  obtain ⟨pm, ctv, ho⟩ := lamO_at e0.hok hf
  refine PySem.W.kla_callFunE hr.depth ho rfl S.co S.gen rfl (codeO_at e0.hok hc) ?_
  rw [hb pm ctv us (by rw [← r.length]; exact hl)]
  refine wpAny_pure (wpAny_newFunctionEnv S.nocell (fun ⟨n, _⟩ hy => S.par n (List.of_mem_zip hy).1) (fun h₁ hns hsb => ⟨lim.fresh _ hsb, ?_⟩) S.kind)
  show codeAny _ _ (.expr e (envF F f s.heap.objs.size)) _ _
  have kp : ∀ b o, s.heap.get? b = some o → h₁.get? b = some o := fun b o z => hsb.extBut b o (Nat.ne_of_lt (Heap.lt_size z)) (Heap.get?_push_of_some _ z)
  have I : Inv (ncx CX P w K mg base N F f A outer s H E) [] (startF N vs ws) H { s with heap := h₁, toks := s.toks + (ps.zip us).length } := inv_startN S hr.hd e0 hl r C hns kp
  refine PySem.W.kla_codeExpr (wpAny_mono ((hbody A outer s H E (hr.deeper _)).run [] _ _ H Q I hq) (fun v s' hs => ?_) fun e' s' hs => hs)
  obtain ⟨v', H', J, rv, q⟩ := hs
  exact ⟨v', H', J.os, J.bare, J.base, J.hok, rv, q⟩
end
/-! ### cells, tracked and not -/
def hideC (H : Hp) (cs : List (Addr × Obj)) : Hp := fun b => if b ∈ cs.map (·.1) then none else H b
def showC (H : Hp) (cs : List (Addr × Obj)) : Hp := fun b => match cs.find? (fun p => decide (p.1 = b)) with
  | some p => some (CellO p.1 p.2)
  | none => H b
section
variable {H : Hp} {cs : List (Addr × Obj)} {b : Addr}
theorem hide_in (h : b ∈ cs.map (·.1)) : hideC H cs b = none := if_pos h
theorem hide_out (h : b ∉ cs.map (·.1)) : hideC H cs b = H b := if_neg h
theorem show_out (h : b ∉ cs.map (·.1)) : showC H cs b = H b := by
  unfold showC
  have z : cs.find? (fun p => decide (p.1 = b)) = none := List.find?_eq_none.mpr fun p hp q => h (List.mem_map.mpr ⟨p, hp, of_decide_eq_true q⟩)
  rw [z]
theorem show_in (h : b ∈ cs.map (·.1)) : ∃ o, (b, o) ∈ cs ∧ showC H cs b = some (CellO b o) := by
  unfold showC
  cases z : cs.find? (fun p => decide (p.1 = b)) with
  | none =>
    obtain ⟨p, hp, e⟩ := List.mem_map.mp h
    exact absurd (decide_eq_true e) (List.find?_eq_none.mp z p hp)
  | some p =>
    have e := of_decide_eq_true (List.find?_some (p := fun p : Addr × Obj => decide (p.1 = b)) z)
    have hp := List.mem_of_find?_eq_some z
    obtain ⟨p1, p2⟩ := p
    have e : p1 = b := e
    subst e
    exact ⟨p2, hp, rfl⟩
theorem show_hide (h : ∀ p ∈ cs, H p.1 = some (CellO p.1 p.2)) : showC (hideC H cs) cs = H := by
  funext b
  by_cases hb : b ∈ cs.map (·.1)
  · obtain ⟨o, ho, e⟩ := show_in (H := hideC H cs) hb
    rw [e, h _ ho]
  · rw [show_out hb, hide_out hb]
theorem hide_show (h : ∀ p ∈ cs, H p.1 = none) : hideC (showC H cs) cs = H := by
  funext b
  by_cases hb : b ∈ cs.map (·.1)
  · rw [hide_in hb]
    obtain ⟨p, hp, e⟩ := List.mem_map.mp hb
    rw [← e, h p hp]
  · rw [hide_out hb, show_out hb]
end
/-- data that no cell is: .. stands whether the cells are tracked or not -/
theorem ext_hide {H : Hp} {cs : List (Addr × Obj)} (h : ∀ p ∈ cs, H p.1 = some (CellO p.1 p.2)) {b : Addr} {u : HO} (e : H b = some u) (n : ∀ φ, u ≠ .ext φ) : hideC H cs b = some u := by
  refine (hide_out fun hb => ?_).trans e
  obtain ⟨p, hp, z⟩ := List.mem_map.mp hb
  rw [← z, h p hp] at e
  exact n _ (Option.some.inj e).symm
section
variable {P : Program} {w : World} {H H' : Hp} {h h' : Heap} {cs : List (Addr × Obj)} {fs : List Addr}
/-- some of what is tracked is left out -/
theorem hok_hide (hok : HOk P w H h) (own : ∀ p ∈ cs, H p.1 = some (CellO p.1 p.2)) : HOk P w (hideC H cs) h := fun b u e => by
  by_cases hb : b ∈ cs.map (·.1)
  · rw [hide_in hb] at e
    cases e
  · rw [hide_out hb] at e
    exact (hok b u e).stay (fun _ _ _ z => z) (fun c z => ext_hide own z fun φ q => (by cases q)) fun c xs z => ext_hide own z fun φ q => (by cases q)
/-- the cells are tracked from now on -/
theorem hok_show (hok : HOk P w H h) (free : ∀ p ∈ cs, H p.1 = none) (at_ : ∀ p ∈ cs, h.get? p.1 = some p.2) : HOk P w (showC H cs) h := fun b u e => by
  have keep : ∀ c v, H c = some v → showC H cs c = some v := fun c v z => (show_out fun hc => by
    obtain ⟨p, hp, q⟩ := List.mem_map.mp hc
    rw [← q, free p hp] at z
    cases z).trans z
  by_cases hb : b ∈ cs.map (·.1)
  · obtain ⟨o, ho, z⟩ := show_in (H := H) hb
    rw [z] at e
    cases e
    exact ⟨at_ _ ho, ⟨o, at_ _ ho⟩, fun g1 g2 y st => st _ y⟩
  · rw [show_out hb] at e
    exact (hok b u e).stay (fun _ _ _ z => z) (fun c z => keep c _ z) fun c xs z => keep c _ z
theorem un_show (un : Un fs [] (hideC H cs) H' h h') (own : ∀ p ∈ cs, H p.1 = some (CellO p.1 p.2)) : Un fs [] H (showC H' cs) h h' := by
  have out : ∀ b, H b = none → b ∉ cs.map (·.1) := fun b n hb => by
    obtain ⟨p, hp, z⟩ := List.mem_map.mp hb
    rw [← z, own p hp] at n
    cases n
  have hid : ∀ b, H b = none → hideC H cs b = none := fun b n => (hide_out (out b n)).trans n
  have out2 : ∀ b u, H b = some u → (∀ φ, u ≠ .ext φ) → b ∉ cs.map (·.1) := fun b u e n hb => by
    obtain ⟨p, hp, z⟩ := List.mem_map.mp hb
    rw [← z, own p hp] at e
    exact n _ (Option.some.inj e).symm
  refine ⟨fun b o e n hf hx => un.keep b o e (hid b n) hf hx, fun b o e n hf hx => un.slot b o e (hid b n) hf hx, fun b o e n hx => (show_out (out b n)).trans (un.free b o e (hid b n) hx), un.there, fun b xs e => ?_, fun b o u e => ?_, fun b ps e => ?_⟩
  · have z := out2 b _ e fun φ q => (by cases q)
    exact (show_out z).trans (un.tups b xs ((hide_out z).trans e))
  · have z := out2 b _ e fun φ q => (by cases q)
    exact (show_out z).trans (un.frzs b o u ((hide_out z).trans e))
  · have z := out2 b _ e fun φ q => (by cases q)
    obtain ⟨more, q⟩ := un.tbls b ps ((hide_out z).trans e)
    exact ⟨more, (show_out z).trans q⟩
end
/-- a call with the cells untracked, seen with the cells tracked -/
theorem cr_show {P : Program} {w : World} {outer : List Env} {H : Hp} {s s' : Shared} {cs : List (Addr × Obj)} {Q : VK} {E : XK} {r : Result} (hok : HOk P w H s.heap) (own : ∀ p ∈ cs, H p.1 = some (CellO p.1 p.2)) (frf : ∀ b ∈ frs outer, H b = none)
    (h : CR (L2.CX P w) outer P w (hideC H cs) s (fun v H' => Q v (showC H' cs)) (fun c d H' => E c d (showC H' cs)) r s') : CR (L2.CX P w) outer P w H s Q E r s' := by
  have at0 : ∀ p ∈ cs, s.heap.get? p.1 = some p.2 := fun p hp => (hok p.1 _ (own p hp)).1
  have hid : ∀ p ∈ cs, hideC H cs p.1 = none := fun p hp => hide_in (List.mem_map.mpr ⟨p, hp, rfl⟩)
  have nf : ∀ p ∈ cs, p.1 ∉ frs outer := fun p hp z => by
    have q := frf _ z
    rw [own p hp] at q
    cases q
  cases r with
  | ok fl =>
    cases fl with
    | ret u =>
      obtain ⟨v, H', os, bare, un, hok', rv, q⟩ := h
      have fr : ∀ p ∈ cs, H' p.1 = none := fun p hp => un.free p.1 p.2 (at0 p hp) (hid p hp) (by simp)
      have at1 : ∀ p ∈ cs, s'.heap.get? p.1 = some p.2 := fun p hp => un.keep p.1 p.2 (at0 p hp) (hid p hp) (nf p hp) (by simp)
      exact ⟨v, showC H' cs, os, bare, un_show un own, hok_show hok' fr at1, rv, q⟩
    | next => exact h
    | brk => exact h
    | cont => exact h
  | error e =>
    obtain ⟨a, B, H', cls, d, ee, fl, hokB, ub, na, os, ag, hE⟩ := h
    have fr : ∀ p ∈ cs, H' p.1 = none := fun p hp => ub.free p.1 p.2 (at0 p hp) (hid p hp)
    have at1 : ∀ p ∈ cs, B.get? p.1 = some p.2 := fun p hp => ub.keep p.1 p.2 (at0 p hp) (hid p hp) (nf p hp)
    have outA : a ∉ cs.map (·.1) := fun z => by
      obtain ⟨p, hp, q⟩ := List.mem_map.mp z
      have y := at1 p hp
      rw [q, fl.2.1] at y
      cases y
    have out : ∀ b, H b = none → b ∉ cs.map (·.1) := fun b n hb => by
      obtain ⟨p, hp, z⟩ := List.mem_map.mp hb
      rw [← z, own p hp] at n
      cases n
    have hidn : ∀ b, H b = none → hideC H cs b = none := fun b n => (hide_out (out b n)).trans n
    have out2 : ∀ b u, H b = some u → (∀ φ, u ≠ .ext φ) → b ∉ cs.map (·.1) := fun b u e n hb => by
      obtain ⟨p, hp, z⟩ := List.mem_map.mp hb
      rw [← z, own p hp] at e
      exact n _ (Option.some.inj e).symm
    refine ⟨a, B, showC H' cs, cls, d, ee, fl, hok_show hokB fr at1, ⟨fun b o e n hf => ub.keep b o e (hidn b n) hf, ub.slot, fun b o e n => (show_out (out b n)).trans (ub.free b o e (hidn b n)), ub.there, fun b xs e => ?_, fun b o u e => ?_, fun b ps e => ?_⟩, (show_out outA).trans na, os, ag, hE⟩
    · have z := out2 b _ e fun φ q => (by cases q)
      exact (show_out z).trans (ub.tups b xs ((hide_out z).trans e))
    · have z := out2 b _ e fun φ q => (by cases q)
      exact (show_out z).trans (ub.frzs b o u ((hide_out z).trans e))
    · have z := out2 b _ e fun φ q => (by cases q)
      obtain ⟨more, q⟩ := ub.tbls b ps ((hide_out z).trans e)
      exact ⟨more, (show_out z).trans q⟩
theorem env0_hide {P : Program} {w : World} {K : PySem.W.Frag} {mg : Str → Option Value} {base : Heap} {A : Around} {outer : List Env} {s : Shared} {H : Hp} {cs : List (Addr × Obj)} (e0 : Env0 P w K mg base A outer s H) (own : ∀ p ∈ cs, H p.1 = some (CellO p.1 p.2)) :
    Env0 P w K mg base A outer s (hideC H cs) := by
  have hid : ∀ b, H b = none → hideC H cs b = none := fun b n => by
    unfold hideC
    split
    · rfl
    · exact n
  exact ⟨e0.frames, e0.mod, fun b o e => ⟨(e0.bs b o e).1, hid b (e0.bs b o e).2⟩, e0.bsz, e0.funs, fun b hb => hid b (e0.frf b hb), hok_hide e0.hok own, e0.bare⟩
/-- what the captured cells hold, tracked -/
structure Caught (H : Hp) (cl : List (Str × Addr)) (fr : List Str) (ws : List (Option V)) (cs : List (Addr × Obj)) : Prop where
  len : ws.length = fr.length
  own : ∀ p ∈ cs, H p.1 = some (CellO p.1 p.2)
  all : ∀ y c, cl.lookup y = some c → ∃ o v, (c, o) ∈ cs ∧ o.data = .cell v
  inj : ∀ x y c, cl.lookup x = some c → cl.lookup y = some c → x = y
  has : ∀ (i : Nat) (y : Str), fr[i]? = some y → ∃ c, cl.lookup y = some c ∧ ∀ v, ws[i]? = some (some v) → ∃ u o, L2.RelV v u ∧ (c, o) ∈ cs ∧ o.data = .cell (some u)
theorem Caught.cells {P : Program} {w : World} {H : Hp} {h : Heap} {cl : List (Str × Addr)} {fr : List Str} {ws : List (Option V)} {cs : List (Addr × Obj)} (C : Caught H cl fr ws cs) (hok : HOk P w H h) : CellsAt cl fr ws h (hideC H cs) := by
  have at0 : ∀ p ∈ cs, h.get? p.1 = some p.2 := fun p hp => (hok p.1 _ (C.own p hp)).1
  refine ⟨C.len, fun y c e => ?_, C.inj, fun i y e => ?_⟩
  · obtain ⟨o, v, h1, h2⟩ := C.all y c e
    exact ⟨hide_in (List.mem_map.mpr ⟨_, h1, rfl⟩), v, o, at0 _ h1, h2⟩
  · obtain ⟨c, h1, h2⟩ := C.has i y e
    refine ⟨c, h1, fun v ev => ?_⟩
    obtain ⟨u, o, r, h3, h4⟩ := h2 v ev
    exact ⟨u, r, o, at0 _ h3, h4⟩
theorem Caught.keep {H H1 : Hp} {cl : List (Str × Addr)} {fr : List Str} {ws : List (Option V)} {cs : List (Addr × Obj)} {ex : List Addr} (C : Caught H cl fr ws cs) (e : Ext ex H H1) (n : ∀ p ∈ cs, p.1 ∉ ex) : Caught H1 cl fr ws cs :=
  ⟨C.len, fun p hp => e.oth p.1 _ (n p hp) (fun ps z => by cases z) (C.own p hp), C.all, C.inj, C.has⟩
/-- a call of the function at f, with the values vs, ends so -/
def Goes (P : Program) (w : World) (K : PySem.W.Frag) (mg : Str → Option Value) (base : Heap) (CX : CXT) (k : Nat) (f : Addr) (H : Hp) (vs : List V) (Q : VK) (E : XK) : Prop :=
  ∀ (A : Around) (outer : List Env) (s : Shared) (us : List Value), Room k A → Env0 P w K mg base A outer s H → Vals vs us → codeAny (model P w) A (.call (.ref f) ⟨us, []⟩) (CR CX outer P w H s Q E) s
theorem Goes.mono {P : Program} {w : World} {K : PySem.W.Frag} {mg : Str → Option Value} {base : Heap} {CX : CXT} {j k : Nat} {f : Addr} {H : Hp} {vs : List V} {Q : VK} {E : XK} (g : Goes P w K mg base CX j f H vs Q E) (h : j ≤ k) : Goes P w K mg base CX k f H vs Q E :=
  fun A outer s us hr => g A outer s us (hr.mono h)
/-- a lambda that stands in H -/
structure Lam (P : Program) (w : World) (K : PySem.W.Frag) (mg : Str → Option Value) (base : Heap) (CX : CXT) (k : Nat) (H : Hp) (f c : Addr) (cl : List (Str × Addr)) (N ps fr : List Str) (t : XK → TE) : Prop where
  ex : ∃ (F : NF) (e : Expr), F.cl = cl ∧ F.c = c ∧ H f = some (LamO f F e) ∧ H c = some (CodeO c F.qual) ∧ LamOk P w K mg base CX k f F e fr (fun ws vs H Q E => vs.length = ps.length ∧ t E (startF N vs ws) H Q)
section
variable {P : Program} {w : World} {K : PySem.W.Frag} {mg : Str → Option Value} {base : Heap} {CX : CXT} {k : Nat} {H H1 : Hp} {f c : Addr} {cl : List (Str × Addr)} {N ps fr : List Str} {t : XK → TE} {cs : List (Addr × Obj)} {ws : List (Option V)} {vs : List V} {Q : VK} {E : XK}
theorem Lam.keep {ex : List Addr} (L : Lam P w K mg base CX k H f c cl N ps fr t) (e : Ext ex H H1) (nf : f ∉ ex) (nc : c ∉ ex) : Lam P w K mg base CX k H1 f c cl N ps fr t :=
  let ⟨F, b, h1, h2, h3, h4, h5⟩ := L.ex
  ⟨F, b, h1, h2, e.oth f _ nf (fun ps z => by cases z) h3, e.oth c _ nc (fun ps z => by cases z) h4, h5⟩
/-- it goes, from its body's reading with the cells untracked -/
theorem Lam.goes (L : Lam P w K mg base (L2.CX P w) k H f c cl N ps fr t) (C : Caught H cl fr ws cs) (hf : f ∉ cs.map (·.1)) (hc : c ∉ cs.map (·.1)) (hl : vs.length = ps.length) (q : t (fun c d H' => E c d (showC H' cs)) (startF N vs ws) (hideC H cs) (fun v H' => Q v (showC H' cs))) : Goes P w K mg base (L2.CX P w) k f H vs Q E := by
  intro A outer s us hr e0 r
  obtain ⟨F, b, h1, h2, h3, h4, h5⟩ := L.ex
  subst h1
  subst h2
  refine codeAny_mono (h5.run A outer s (hideC H cs) us vs ws _ (fun c d H' => E c d (showC H' cs)) hr (env0_hide e0 C.own) ((hide_out hf).trans h3) ((hide_out hc).trans h4) (C.cells e0.hok) r ⟨hl, q⟩) fun r s' h => cr_show e0.hok C.own e0.frf h
end
/-! ### the rules -/
def IsLam (H : Hp) (f : Addr) : Prop := ∃ (F : NF) (e : Expr), H f = some (LamO f F e)
theorem Lam.is {P : Program} {w : World} {K : PySem.W.Frag} {mg : Str → Option Value} {base : Heap} {CX : CXT} {k : Nat} {H : Hp} {f c : Addr} {cl : List (Str × Addr)} {N ps fr : List Str} {t : XK → TE} (L : Lam P w K mg base CX k H f c cl N ps fr t) : IsLam H f := let ⟨F, b, _, _, h, _⟩ := L.ex; ⟨F, b, h⟩
theorem IsLam.keep {ex : List Addr} {H H1 : Hp} {f : Addr} (h : IsLam H f) (e : Ext ex H H1) (nf : f ∉ ex) : IsLam H1 f := let ⟨F, b, z⟩ := h; ⟨F, b, e.oth f _ nf (fun ps z => by cases z) z⟩
/-- a lambda as a value -/
def tLam (P : Addr) (q : Str) (L : Hp → Addr → Addr → Prop) : TE := fun _ H Q => TabL H P q ∧ ∀ (f c : Addr) (H1 : Hp), Ext [P] H H1 → TabL H1 P q → H f = none → f ≠ P → (c ≠ P ∧ ∀ (P' : Addr) (q' : Str), TabL H1 P' q' → c ≠ P') → L H1 f c → Q (.ref f) H1
section
variable {X : Cx} {CX : CXT} {k : Nat} {N ps fr : List Str} {t : XK → TE}
theorem pe_lam {P c : Addr} {params : Arguments} {body : Expr} {scope : Scope} {pos : Pos} (TB : GxR.TabB X.base X.mg c P) (hcode : X.env.code = .ref c) (hdef : defaultsOf params X.env = ([], [])) (S : NScope N ps fr scope) {sc : Scope} (hsc : X.env.scope = sc) (hfr : ndefB sc scope fr = true)
    (hb : ∀ (cl : List (Str × Addr)) (q : Str) (cd pm ctv : Value) (us : List Value), us.length = ps.length → bindArgs (PySem.W.kla_fn "<lambda>" q params body scope cl pm cd ctv) ⟨us, []⟩ = pure (ps.zip us))
    (hbody : ∀ (f c' : Addr) (A : Around) (outer : List Env) (s : Shared) (H : Hp) (E : XK), Room k (A.deeper (envF ⟨"<lambda>", X.env.qual ++ "<lambda>", params, [], scope, cloFrom X.env.cells scope.names [], c'⟩ f s.heap.objs.size)) →
      PE (ncx CX X.prog X.w X.K X.mg X.base N ⟨"<lambda>", X.env.qual ++ "<lambda>", params, [], scope, cloFrom X.env.cells scope.names [], c'⟩ f A outer s H E) body (t E)) :
    PE X (.Lambda params body scope pos) (tLam P (X.env.qual ++ "<lambda>") fun H f c' => Lam X.prog X.w X.K X.mg X.base CX (k + 1) H f c' (cloFrom X.env.cells scope.names []) N ps fr t) := by
  refine ⟨fun pins s σ H Q I h => ?_⟩
  obtain ⟨T, h⟩ := h
  subst hsc
  have hfree : ∀ y ∈ scope.names, y.2 = .free → ∃ c, X.env.cells.lookup y.1 = some c := fun y hy e => (ndef_free hfr y hy e).elim (fun z => I.ok.has _ (.inl z)) fun z => I.ok.has _ (.inr z)
  refine lam_made I TB hcode T hdef hfree fun f c' H1 s' I1 e1 T1 n1 nf nc hf hc => ⟨.ref f, H1, I1, rfl, ?_⟩
  exact h f c' H1 e1 T1 n1 nf nc ⟨_, body, rfl, rfl, hf, hc, lok_of S (fun pm ctv us hl => hb _ _ _ pm ctv us hl) fun A outer s H E hr => hbody f c' A outer s H E hr⟩
/-- a name that holds a lambda is called -/
def tGoes (G : Addr → Hp → List V → VK → XK → Prop) (i : Nat) (E : L2.St → XK) (t : TA) : TE := fun σ H Q => ∃ f, σ[i]? = some (some (.ref f)) ∧ IsLam H f ∧ t σ H fun vs H1 => IsLam H1 f ∧ G f H1 vs Q (E σ)
theorem run_goes {pins : List (Addr × Obj)} {σ : L2.St} {H : Hp} {s : Shared} {Q : VK} {f : Addr} {us : List Value} {vs : List V} {E : L2.St → XK} (hr : Room k X.A) (hx : PassesAt CX X σ (E σ)) (I : Inv X pins σ H s) (r : Vals vs us) (g : Goes X.prog X.w X.K X.mg X.base CX k f H vs Q (E σ)) :
    wpAny (model X.prog X.w) X.A (call (.ref f) us) (EP X pins σ Q) X.xe s := by
  refine wpAny_call (codeAny_mono (g X.A X.stack s us hr I.env0 r) fun r s' hq => ?_)
  cases r with
  | error e => exact hx pins H s e s' I hq
  | ok fl =>
    cases fl with
    | ret u => exact I.after hq
    | next => exact False.elim hq
    | brk => exact False.elim hq
    | cont => exact False.elim hq
theorem pe_goes {P : Program} {w : World} {K : PySem.W.Frag} {mg : Str → Option Value} {base : Heap} {CX : CXT} {x : Str} {i : Nat} {E : L2.St → XK} {ta : TA} {e : Expr} {es : List Expr} {p pos : Pos} (hX : X.prog = P ∧ X.w = w ∧ X.K = K ∧ X.mg = mg ∧ X.base = base) (hr : Room k X.A) (hN : X.N[i]? = some x) (hv : Vis X.env.scope x) (hx : ∀ σ, PassesAt CX X σ (E σ)) (ha : PA X (e :: es) ta)
    (hd : (x == ("__debug__" : Str)) = false := by decide) (hcd : (x == ("__classdict__" : Str)) = false := by decide)
    (he : starEach (e :: es) X.env = (false, eval e X.env) :: starEach es X.env := by rfl) (hpl : (backTo pos (starEach es X.env)).any (·.1) = false := by rfl) :
    PE X (.Call (.Name x p) (e :: es) [] pos) (tGoes (fun f H vs Q E => Goes P w K mg base CX k f H vs Q E) i E ta) := by
  obtain ⟨rfl, rfl, rfl, rfl, rfl⟩ := hX
  refine ⟨fun pins s σ H Q I h => ?_⟩
  obtain ⟨f, hs, ⟨F, b, hf⟩, ht⟩ := h
  refine wpAny_Call_Name_kw (thn ((pe_var (pos := p) hN hv hd hcd).run pins s σ H (fun v G => v = .ref f ∧ G = H) I ⟨.ref f, hs, rfl, rfl⟩) fun u s1 ⟨v, G, I1, r1, ev, eH⟩ => ?_)
  subst ev
  rw [eH] at I1
  obtain rfl : u = Value.ref f := r1
  refine PySem.W.callWith_F (first := []) (lam_fnAt I1.hok hf) (thn (ha.run pos pins s1 σ H _ I1 ht) fun us s2 ⟨vs, H2, I2, r, ⟨F2, b2, h2⟩, g⟩ => ⟨lam_fnAt I2.hok h2, ?_⟩) he hpl
  exact run_goes hr (hx σ) I2 r g
theorem pe_goes0 {P : Program} {w : World} {K : PySem.W.Frag} {mg : Str → Option Value} {base : Heap} {CX : CXT} {x : Str} {i : Nat} {E : L2.St → XK} {p pos : Pos} (hX : X.prog = P ∧ X.w = w ∧ X.K = K ∧ X.mg = mg ∧ X.base = base) (hr : Room k X.A) (hN : X.N[i]? = some x) (hv : Vis X.env.scope x) (hx : ∀ σ, PassesAt CX X σ (E σ))
    (hd : (x == ("__debug__" : Str)) = false := by decide) (hcd : (x == ("__classdict__" : Str)) = false := by decide) :
    PE X (.Call (.Name x p) [] [] pos) (tGoes (fun f H vs Q E => Goes P w K mg base CX k f H vs Q E) i E tNil) := by
  obtain ⟨rfl, rfl, rfl, rfl, rfl⟩ := hX
  refine ⟨fun pins s σ H Q I h => ?_⟩
  obtain ⟨f, hs, ⟨F, b, hf⟩, _, g⟩ := h
  refine wpAny_Call_Name_kw (thn ((pe_var (pos := p) hN hv hd hcd).run pins s σ H (fun v G => v = .ref f ∧ G = H) I ⟨.ref f, hs, rfl, rfl⟩) fun u s1 ⟨v, G, I1, r1, ev, eH⟩ => ?_)
  subst ev
  rw [eH] at I1
  obtain rfl : u = Value.ref f := r1
  refine PySem.W.callWith_F0 (first := []) (lam_fnAt I1.hok hf) ?_
  exact run_goes (us := []) (vs := []) hr (hx σ) I1 .nil g
end
/-! ### a call with the running frame's cells lent -/
structure Lends (cells : List (Str × Addr)) (js : List (Nat × Str)) (σ : L2.St) (H : Hp) (cs : List (Addr × Obj)) : Prop where
  free : ∀ p ∈ cs, H p.1 = none
  all : ∀ q ∈ js, ∃ c o v, cells.lookup q.2 = some c ∧ (c, o) ∈ cs ∧ o.data = .cell v
  has : ∀ q ∈ js, ∀ v, σ[q.1]? = some (some v) → ∃ c o u, cells.lookup q.2 = some c ∧ (c, o) ∈ cs ∧ o.data = .cell (some u) ∧ L2.RelV v u
  inj : ∀ x y c, cells.lookup x = some c → cells.lookup y = some c → x = y
theorem Lends.own {cells : List (Str × Addr)} {js : List (Nat × Str)} {σ : L2.St} {H : Hp} {cs : List (Addr × Obj)} (L : Lends cells js σ H cs) (fn : ∀ p ∈ cs, ∀ q ∈ cs, p.1 = q.1 → p.2 = q.2) : ∀ p ∈ cs, showC H cs p.1 = some (CellO p.1 p.2) := fun p hp => by
  obtain ⟨o, ho, e⟩ := show_in (H := H) (b := p.1) (List.mem_map.mpr ⟨p, hp, rfl⟩)
  rw [e, fn _ hp _ ho rfl]
/-- data of the callers stand as they stood -/
theorem ext_show {cells : List (Str × Addr)} {js : List (Nat × Str)} {σ : L2.St} {H : Hp} {cs : List (Addr × Obj)} (L : Lends cells js σ H cs) {b : Addr} {u : HO} (e : H b = some u) : showC H cs b = some u := (show_out fun hb => by
  obtain ⟨p, hp, z⟩ := List.mem_map.mp hb
  rw [← z, L.free p hp] at e
  cases e).trans e
theorem Lends.caught {cells : List (Str × Addr)} {js : List (Nat × Str)} {σ : L2.St} {H : Hp} {cs : List (Addr × Obj)} (L : Lends cells js σ H cs) (fn : ∀ p ∈ cs, ∀ q ∈ cs, p.1 = q.1 → p.2 = q.2) {names : List (Str × NameKind)} {fr : List Str} {ws : List (Option V)} (hl : ws.length = fr.length) (hn : ∀ y, (y, NameKind.free) ∈ names ↔ y ∈ fr)
    (hs : ∀ (i : Nat) (y : Str), fr[i]? = some y → ∃ j, (j, y) ∈ js ∧ ∀ v, ws[i]? = some (some v) → σ[j]? = some (some v)) : Caught (showC H cs) (cloFrom cells names []) fr ws cs := by
  have inJ : ∀ y, (y, NameKind.free) ∈ names → ∃ j, (j, y) ∈ js := fun y hy => by
    obtain ⟨i, hi⟩ := List.mem_iff_getElem?.mp ((hn y).mp hy)
    obtain ⟨j, hj, _⟩ := hs i y hi
    exact ⟨j, hj⟩
  have hf : ∀ y ∈ names, y.2 = .free → ∃ c, cells.lookup y.1 = some c := fun y hy e => by
    obtain ⟨y1, y2⟩ := y
    have e : y2 = .free := e
    subst e
    obtain ⟨j, hj⟩ := inJ y1 hy
    obtain ⟨c, o, v, h1, _⟩ := L.all _ hj
    exact ⟨c, h1⟩
  have isf : ∀ y c, (cloFrom cells names []).lookup y = some c → (y, NameKind.free) ∈ names := fun y c e => by
    rcases cloFrom_mem (PySem.mem_of_lookup e) with hm | ⟨h1, _⟩
    · cases hm
    · exact h1
  refine ⟨hl, L.own fn, fun y c e => ?_, fun x y c e1 e2 => L.inj x y c (clo_cm hf e1) (clo_cm hf e2), fun i y e => ?_⟩
  · obtain ⟨j, hj⟩ := inJ y (isf y c e)
    obtain ⟨c2, o, v, h1, h2, h3⟩ := L.all _ hj
    have e2 := clo_cm hf e
    rw [h1] at e2
    cases e2
    exact ⟨o, v, h2, h3⟩
  · obtain ⟨j, hj, hv⟩ := hs i y e
    obtain ⟨c, o, v, h1, h2, h3⟩ := L.all _ hj
    refine ⟨c, clo_has hf ((hn y).mpr (List.mem_of_getElem? e)) h1, fun v ev => ?_⟩
    obtain ⟨c2, o2, u, k1, k2, k3, k4⟩ := L.has _ hj v (hv v ev)
    rw [show cells.lookup y = some c from h1] at k1
    cases k1
    exact ⟨u, o2, k4, k2, k3⟩
def tLend (cells : List (Str × Addr)) (js : List (Nat × Str)) (sp : Sp) (t : TA) : TE := fun σ H Q => t σ H fun vs H1 => ∀ cs : List (Addr × Obj), Lends cells js σ H1 cs → (∀ p ∈ cs, ∀ q ∈ cs, p.1 = q.1 → p.2 = q.2) →
  sp vs (showC H1 cs) (fun v H' => (∀ p ∈ cs, H' p.1 = some (CellO p.1 p.2)) ∧ Q v (hideC H' cs)) (fun _ _ _ => False)
section
variable {X : Cx} {pins : List (Addr × Obj)} {σ : L2.St} {H : Hp} {s : Shared}
theorem lends_of (I : Inv X pins σ H s) : ∀ js : List (Nat × Str), (∀ q ∈ js, X.N[q.1]? = some q.2 ∧ X.env.scope.names.lookup q.2 = some .cell) →
    ∃ cs : List (Addr × Obj), Lends X.env.cells js σ H cs ∧ ∀ p ∈ cs, s.heap.get? p.1 = some p.2 ∧ ∃ q ∈ js, X.env.cells.lookup q.2 = some p.1
  | [], _ => ⟨[], ⟨fun _ h => absurd h (by simp), fun _ h => absurd h (by simp), fun _ h => absurd h (by simp), I.ok.inj⟩, fun _ h => absurd h (by simp)⟩
  | q :: js, h => by
    obtain ⟨cs, L, hc⟩ := lends_of I js fun q hq => h q (List.mem_cons_of_mem _ hq)
    obtain ⟨h1, h2⟩ := h q List.mem_cons_self
    obtain ⟨c, hcl⟩ := I.ok.has q.2 (.inl h2)
    obtain ⟨v, o, ho, hd⟩ := I.cell q.2 c hcl
    refine ⟨(c, o) :: cs, ⟨fun p hp => ?_, fun p hp => ?_, fun p hp w hw => ?_, I.ok.inj⟩, fun p hp => ?_⟩
    · rcases List.mem_cons.mp hp with rfl | hp
      · exact I.freeC q.2 c hcl
      · exact L.free p hp
    · rcases List.mem_cons.mp hp with rfl | hp
      · exact ⟨c, o, v, hcl, List.mem_cons_self, hd⟩
      · obtain ⟨c2, o2, v2, z1, z2, z3⟩ := L.all p hp
        exact ⟨c2, o2, v2, z1, List.mem_cons_of_mem _ z2, z3⟩
    · rcases List.mem_cons.mp hp with rfl | hp
      · obtain ⟨m, _, hl⟩ := I.loc
        obtain ⟨u, r, l⟩ := hl p.1 p.2 w h1 hw (.inr (.inl h2))
        rcases l with ⟨z, _⟩ | ⟨_, c2, hc2, o2, ho2, hd2⟩
        · have z : X.env.scope.names.lookup p.2 = some .local := z
          rw [h2] at z
          cases z
        · rw [hcl] at hc2
          cases hc2
          rw [ho] at ho2
          cases ho2
          exact ⟨c, o, u, hcl, List.mem_cons_self, hd2, r⟩
      · obtain ⟨c2, o2, u, z1, z2, z3, z4⟩ := L.has p hp w hw
        exact ⟨c2, o2, u, z1, List.mem_cons_of_mem _ z2, z3, z4⟩
    · rcases List.mem_cons.mp hp with rfl | hp
      · exact ⟨ho, q, List.mem_cons_self, hcl⟩
      · obtain ⟨z1, q2, z2, z3⟩ := hc p hp
        exact ⟨z1, q2, List.mem_cons_of_mem _ z2, z3⟩
theorem run_lend {k : Nat} {f : Addr} {fd : FuncData} {ps : List Str} {sp : Sp} {js : List (Nat × Str)} {Q : VK} {us : List Value} {vs : List V} (F : FnOk X.prog X.w X.K X.mg X.base L2.CX0 k f fd ps sp) (hr : Room k X.A) (hb : Binds X.K fd ps [])
    (hjs : ∀ q ∈ js, X.N[q.1]? = some q.2 ∧ X.env.scope.names.lookup q.2 = some .cell ∧ X.fn q.2 = true) (I : Inv X pins σ H s) (r : Vals vs us)
    (h : ∀ cs : List (Addr × Obj), Lends X.env.cells js σ H cs → (∀ p ∈ cs, ∀ q ∈ cs, p.1 = q.1 → p.2 = q.2) → sp vs (showC H cs) (fun v H' => (∀ p ∈ cs, H' p.1 = some (CellO p.1 p.2)) ∧ Q v (hideC H' cs)) (fun _ _ _ => False)) :
    wpAny (model X.prog X.w) X.A (call (.ref f) us) (EP X pins σ Q) X.xe s := by
  obtain ⟨cs, L, hc⟩ := lends_of I js fun q hq => ⟨(hjs q hq).1, (hjs q hq).2.1⟩
  have one : ∀ p ∈ cs, ∀ q ∈ cs, p.1 = q.1 → p.2 = q.2 := fun p hp q hq e => by
    have z1 := (hc p hp).1
    have z2 := (hc q hq).1
    rw [e, z2] at z1
    exact (Option.some.inj z1).symm
  have q := h cs L one
  have high : ∀ b ∈ cs.map (·.1), X.s_0.heap.objs.size ≤ b ∧ b ≠ X.env.locals := fun b hb => by
    obtain ⟨p, hp, e⟩ := List.mem_map.mp hb
    obtain ⟨_, q, hq, hl⟩ := hc p hp
    rw [← e]
    exact ⟨I.ok.cab q.2 p.1 (hjs q hq).2.2 hl, I.cne q.2 p.1 hl⟩
  have outS : ∀ b ∈ frs X.stack, b ∉ cs.map (·.1) := fun b hb hm => by
    obtain ⟨h1, h2⟩ := high b hm
    rcases List.mem_cons.mp (I.stkSub b hb) with e | hf
    · exact h2 e
    · obtain ⟨_, o, ho, _⟩ := I.ok.funs.mem hf
      exact Nat.lt_irrefl _ (Nat.lt_of_lt_of_le (Heap.lt_size ho) h1)
  have E0 := I.env0
  have hokS : HOk X.prog X.w (showC H cs) s.heap := hok_show I.hok L.free fun p hp => (hc p hp).1
  have e1 : Env0 X.prog X.w X.K X.mg X.base X.A X.stack s (showC H cs) := ⟨E0.frames, E0.mod, fun b o e => ⟨(E0.bs b o e).1, (show_out fun hm => Nat.lt_irrefl _ (Nat.lt_of_lt_of_le (Heap.lt_size (I.ok.bs b o e).1) (high b hm).1)).trans (E0.bs b o e).2⟩, E0.bsz, E0.funs, fun b hb => (show_out (outS b hb)).trans (E0.frf b hb), hokS, E0.bare⟩
  have hl : us.length = ps.length := by rw [← r.length]; exact F.len _ _ _ _ q
  have hb2 := hb s us I.kIn (by rw [List.append_nil]; exact hl)
  rw [List.append_nil] at hb2
  refine wpAny_call (codeAny_mono (F.run X.A X.stack s _ ⟨us, []⟩ us vs _ _ hr e1 hb2 r q) fun r s' hq => ?_)
  cases r with
  | error e => exact (show False from hq).elim
  | ok fl =>
    cases fl with
    | ret u =>
      obtain ⟨v, H', os, bare, un, hok', rv, own', qq⟩ := hq
      have at1 : ∀ p ∈ cs, s'.heap.get? p.1 = some p.2 := fun p hp => (hok' p.1 _ (own' p hp)).1
      have cellK : ∀ b o, b ∈ cs.map (·.1) → s.heap.get? b = some o → s'.heap.get? b = some o := fun b o hb e => by
        obtain ⟨p, hp, z⟩ := List.mem_map.mp hb
        rw [← z] at e ⊢
        rw [(hc p hp).1] at e
        cases e
        exact at1 p hp
      have tracked : ∀ b u, H b = some u → b ∉ cs.map (·.1) := fun b u e hb => by
        obtain ⟨p, hp, z⟩ := List.mem_map.mp hb
        rw [← z, L.free p hp] at e
        cases e
      have un2 : Un (frs X.stack) [] H (hideC H' cs) s.heap s'.heap := by
        refine ⟨fun b o e n hb hx => ?_, fun b o e n hb hx => un.slot b o e ((show_out (outS b hb)).trans n) hb hx, fun b o e n hx => ?_, un.there, fun b xs e => ?_, fun b o u e => ?_, fun b ps e => ?_⟩
        · by_cases hm : b ∈ cs.map (·.1)
          · exact cellK b o hm e
          · exact un.keep b o e ((show_out hm).trans n) hb hx
        · by_cases hm : b ∈ cs.map (·.1)
          · exact hide_in hm
          · exact (hide_out hm).trans (un.free b o e ((show_out hm).trans n) hx)
        · have m := tracked b _ e
          exact (hide_out m).trans (un.tups b xs ((show_out m).trans e))
        · have m := tracked b _ e
          exact (hide_out m).trans (un.frzs b o u ((show_out m).trans e))
        · have m := tracked b _ e
          obtain ⟨more, z⟩ := un.tbls b ps ((show_out m).trans e)
          exact ⟨more, (hide_out m).trans z⟩
      exact ⟨v, hideC H' cs, I.call' (ch := []) os un2 (hok_hide hok' own') bare (fun _ z => nomatch z), rv, qq⟩
    | next => exact False.elim hq
    | brk => exact False.elim hq
    | cont => exact False.elim hq
theorem pe_lend {k : Nat} {f : Addr} {fd : FuncData} {ps : List Str} {sp : Sp} {js : List (Nat × Str)} {x : Str} {p pos : Pos} {e : Expr} {es : List Expr} {t : TA} (hjs : ∀ q ∈ js, X.N[q.1]? = some q.2 ∧ X.env.scope.names.lookup q.2 = some .cell ∧ X.fn q.2 = true) (F : FnOk X.prog X.w X.K X.mg X.base L2.CX0 k f fd ps sp) (hr : Room k X.A) (hg : Gl X x) (hm : X.mg x = some (.ref f)) (hk : PySem.W.keepIn X.K (.ref f) = true) (hb : Binds X.K fd ps [])
    (ha : PA X (e :: es) t) (hdb : (x == ("__debug__" : Str)) = false := by decide) (he : starEach (e :: es) X.env = (false, eval e X.env) :: starEach es X.env := by rfl) (hpl : (backTo pos (starEach es X.env)).any (·.1) = false := by rfl) :
    PE X (.Call (.Name x p) (e :: es) [] pos) (tLend X.env.cells js sp t) := by
  refine ⟨fun pins s σ H Q I h => ?_⟩
  refine wpAny_Call_Name_kw (ld_glob I hg hm ?_ hdb)
  refine PySem.W.callWith_K (h₀ := X.base) I.ok.mod.kin hk (thn (ha.run pos pins s σ H _ I h) fun us s1 ⟨vs, H1, I1, r, q⟩ => ⟨I1.kIn, ?_⟩) he hpl
  exact run_lend F hr hb hjs I1 r q
end
def lendB (N : List Str) (sc : Scope) (js : List (Nat × Str)) : Bool := js.all fun q => decide (N[q.1]? = some q.2) && decide (sc.names.lookup q.2 = some .cell)
theorem lend_by {X : Cx} {N : List Str} {sc : Scope} {js : List (Nat × Str)} (h : lendB N sc js = true) (hN : X.N = N) (hs : X.env.scope = sc) (hf : ∀ x, X.fn x = true) : ∀ q ∈ js, X.N[q.1]? = some q.2 ∧ X.env.scope.names.lookup q.2 = some .cell ∧ X.fn q.2 = true := fun q hq => by
  have z := List.all_eq_true.mp h q hq
  rw [Bool.and_eq_true, decide_eq_true_eq, decide_eq_true_eq] at z
  exact ⟨by rw [hN]; exact z.1, by rw [hs]; exact z.2, hf _⟩
theorem Goes.imp {P : Program} {w : World} {K : PySem.W.Frag} {mg : Str → Option Value} {base : Heap} {k : Nat} {f : Addr} {H : Hp} {vs : List V} {Q Q' : VK} {E E' : XK} (g : Goes P w K mg base (L2.CX P w) k f H vs Q E) (hQ : ∀ v H', Q v H' → Q' v H') (hE : ∀ c d H', E c d H' → E' c d H') : Goes P w K mg base (L2.CX P w) k f H vs Q' E' := by
  intro A outer s us hr e0 r
  refine codeAny_mono (g A outer s us hr e0 r) fun x s' h => ?_
  cases x with
  | ok fl =>
    cases fl with
    | ret u =>
      obtain ⟨v, H', h1, h2, h3, h4, h5, h6⟩ := h
      exact ⟨v, H', h1, h2, h3, h4, h5, hQ _ _ h6⟩
    | next => exact h
    | brk => exact h
    | cont => exact h
  | error e =>
    obtain ⟨a, B, H', cls, d, h1, h2, h3, h4, h5, h6, h7, h8⟩ := h
    exact ⟨a, B, H', cls, d, h1, h2, h3, h4, h5, h6, h7, hE _ _ _ h8⟩
section
variable {cells : List (Str × Addr)} {js : List (Nat × Str)} {σ : L2.St} {H H' : Hp} {cs : List (Addr × Obj)}
theorem show_same {b : Addr} (h : b ∈ cs.map (·.1)) : showC H cs b = showC H' cs b := by
  unfold showC
  cases z : cs.find? (fun p => decide (p.1 = b)) with
  | some p => rfl
  | none =>
    obtain ⟨p, hp, e⟩ := List.mem_map.mp h
    exact absurd (decide_eq_true e) (List.find?_eq_none.mp z p hp)
theorem show_ext (e : Ext [] H H') : Ext [] (showC H cs) (showC H' cs) := by
  have cell : ∀ b u, b ∈ cs.map (·.1) → showC H cs b = some u → ∃ o, u = CellO b o := fun b u hb z => by
    obtain ⟨o, _, q⟩ := show_in (H := H) hb
    rw [q] at z
    exact ⟨o, (Option.some.inj z).symm⟩
  refine ⟨fun b xs z => ?_, fun b o u z => ?_, fun b ps z t => ?_, fun b xs n z => ?_, fun b u n t z => ?_, fun b z => ?_⟩
  · by_cases hb : b ∈ cs.map (·.1)
    · obtain ⟨o, q⟩ := cell b _ hb z
      cases q
    · rw [show_out hb] at z ⊢
      exact e.tup b xs z
  · by_cases hb : b ∈ cs.map (·.1)
    · obtain ⟨o, q⟩ := cell b _ hb z
      cases q
    · rw [show_out hb] at z ⊢
      exact e.frz b o u z
  · by_cases hb : b ∈ cs.map (·.1)
    · obtain ⟨o, q⟩ := cell b _ hb z
      cases q
    · rw [show_out hb] at z ⊢
      exact e.tbl b ps z t
  · by_cases hb : b ∈ cs.map (·.1)
    · obtain ⟨o, q⟩ := cell b _ hb z
      cases q
    · rw [show_out hb] at z ⊢
      exact e.lst b xs n z
  · by_cases hb : b ∈ cs.map (·.1)
    · rw [← show_same (H := H) hb]
      exact z
    · rw [show_out hb] at z ⊢
      exact e.oth b u n t z
  · by_cases hb : b ∈ cs.map (·.1)
    · obtain ⟨o, _, q⟩ := show_in (H := H') hb
      rw [q] at z
      cases z
    · rw [show_out hb] at z ⊢
      exact e.dom b z
theorem lend_back (L : Lends cells js σ H cs) (one : ∀ p ∈ cs, ∀ q ∈ cs, p.1 = q.1 → p.2 = q.2) (e : Ext [] (showC H cs) H') : (∀ p ∈ cs, H' p.1 = some (CellO p.1 p.2)) ∧ Ext [] H (hideC H' cs) := by
  have out : ∀ b u, H b = some u → b ∉ cs.map (·.1) := fun b u z hb => by
    obtain ⟨p, hp, q⟩ := List.mem_map.mp hb
    rw [← q, L.free p hp] at z
    cases z
  refine ⟨fun p hp => e.oth p.1 _ (by simp) (fun ps z => by cases z) (L.own one p hp), ?_⟩
  refine ⟨fun b xs z => (hide_out (out b _ z)).trans (e.tup b xs (ext_show L z)), fun b o u z => (hide_out (out b _ z)).trans (e.frz b o u (ext_show L z)), fun b ps z t => ?_, fun b xs n z => (hide_out (out b _ z)).trans (e.lst b xs n (ext_show L z)), fun b u n t z => (hide_out (out b _ z)).trans (e.oth b u n t (ext_show L z)), fun b z => ?_⟩
  · obtain ⟨ps', h1, h2⟩ := e.tbl b ps (ext_show L z) t
    exact ⟨ps', (hide_out (out b _ z)).trans h1, h2⟩
  · by_cases hb : b ∈ cs.map (·.1)
    · obtain ⟨p, hp, q⟩ := List.mem_map.mp hb
      rw [← q]
      exact L.free p hp
    · rw [hide_out hb] at z
      have := e.dom b z
      rw [show_out hb] at this
      exact this
/-- behind cells that were shown: what stood without them -/
theorem back_ext {ex : List Addr} (free : ∀ p ∈ cs, H p.1 = none) (e : Ext ex (showC H cs) H') : Ext ex H (hideC H' cs) := by
  have out : ∀ b u, H b = some u → b ∉ cs.map (·.1) := fun b u z hb => by
    obtain ⟨p, hp, q⟩ := List.mem_map.mp hb
    rw [← q, free p hp] at z
    cases z
  have sh : ∀ b u, H b = some u → showC H cs b = some u := fun b u z => (show_out (out b u z)).trans z
  refine ⟨fun b xs z => (hide_out (out b _ z)).trans (e.tup b xs (sh b _ z)), fun b o u z => (hide_out (out b _ z)).trans (e.frz b o u (sh b _ z)), fun b ps z t => ?_, fun b xs n z => (hide_out (out b _ z)).trans (e.lst b xs n (sh b _ z)), fun b u n t z => (hide_out (out b _ z)).trans (e.oth b u n t (sh b _ z)), fun b z => ?_⟩
  · obtain ⟨ps', h1, h2⟩ := e.tbl b ps (sh b _ z) t
    exact ⟨ps', (hide_out (out b _ z)).trans h1, h2⟩
  · by_cases hb : b ∈ cs.map (·.1)
    · obtain ⟨p, hp, q⟩ := List.mem_map.mp hb
      rw [← q]
      exact free p hp
    · rw [hide_out hb] at z
      have := e.dom b z
      rw [show_out hb] at this
      exact this
/-- cells that are shown: nothing else changes -/
theorem ext_lend (L : Lends cells js σ H cs) : Ext [] H (showC H cs) :=
  ⟨fun b xs z => ext_show L z, fun b o u z => ext_show L z, fun b ps z t => ⟨ps, ext_show L z, t⟩, fun b xs _ z => ext_show L z, fun b u _ _ z => ext_show L z, fun b z => by
    by_cases hb : b ∈ cs.map (·.1)
    · obtain ⟨o, _, q⟩ := show_in (H := H) hb
      rw [q] at z
      cases z
    · rw [show_out hb] at z
      exact z⟩
theorem IsLam.show {f : Addr} (h : IsLam H f) (L : Lends cells js σ H cs) : IsLam (showC H cs) f := let ⟨F, b, z⟩ := h; ⟨F, b, ext_show L z⟩
/-- a lambda of the running frame, where that frame's cells are lent: by its body's reading -/
theorem Lam.lent {P : Program} {w : World} {K : PySem.W.Frag} {mg : Str → Option Value} {base : Heap} {k : Nat} {f c : Addr} {names : List (Str × NameKind)} {N ps fr : List Str} {t : XK → TE} {ws : List (Option V)} {vs : List V} {Q : VK} {E : XK}
    (Lm : Lam P w K mg base (L2.CX P w) k H f c (cloFrom cells names []) N ps fr t) (L : Lends cells js σ H cs) (one : ∀ p ∈ cs, ∀ q ∈ cs, p.1 = q.1 → p.2 = q.2) (hl : ws.length = fr.length) (hn : ∀ y, (y, NameKind.free) ∈ names ↔ y ∈ fr)
    (hs : ∀ (i : Nat) (y : Str), fr[i]? = some y → ∃ j, (j, y) ∈ js ∧ ∀ v, ws[i]? = some (some v) → σ[j]? = some (some v)) (hvs : vs.length = ps.length) (q : t (fun c d H' => E c d (showC H' cs)) (startF N vs ws) H (fun v H' => Q v (showC H' cs))) : Goes P w K mg base (L2.CX P w) k f (showC H cs) vs Q E := by
  obtain ⟨F, b, h1, h2, h3, h4, h5⟩ := id Lm.ex
  have out : ∀ b u, H b = some u → b ∉ cs.map (·.1) := fun b u z hb => by
    obtain ⟨p, hp, q⟩ := List.mem_map.mp hb
    rw [← q, L.free p hp] at z
    cases z
  have Ls : Lam P w K mg base (L2.CX P w) k (showC H cs) f c (cloFrom cells names []) N ps fr t := ⟨F, b, h1, h2, ext_show L h3, ext_show L h4, h5⟩
  refine Ls.goes (L.caught one hl hn hs) (out f _ h3) (out c _ h4) hvs ?_
  rw [hide_show L.free]
  exact q
end
end LM
namespace LM
open PySem PySem.Spec PyProof.Rows L2 NdefX LamX GD
/-! ### a def whose last row is a return: its cells are tracked behind it -/
structure PSr (X : Cx) (st : List Stmt) (t : (L2.St → VK) → L2.St → Hp → Prop) : Prop where
  run : ∀ (pins : List (Addr × Obj)) (s : Shared) (σ : L2.St) (H : Hp) (R : L2.St → VK), Inv X pins σ H s → t R σ H → wpAny (model X.prog X.w) X.A (execs st X.env) (fun fl s' => ∃ u v σ' H', fl = .ret u ∧ Inv X pins σ' H' s' ∧ L2.RelV v u ∧ R σ' v H') X.xe s
section
variable {X : Cx}
theorem psr_cons {st : Stmt} {rest : List Stmt} {t : TS} {u : (L2.St → VK) → L2.St → Hp → Prop} (h1 : PS X st t) (h2 : PSr X rest u) : PSr X (st :: rest) (fun R σ H => t { nx := u R, rt := fun _ _ => False } σ H) := by
  refine ⟨fun pins s σ H R I h => ?_⟩
  refine wpAny_execs_cons (thn (h1.run pins s σ H _ I h) fun f s1 q => ?_)
  cases f with
  | next =>
    obtain ⟨σ', H', I', q⟩ := q
    exact h2.run pins s1 σ' H' R I' q
  | ret v =>
    obtain ⟨_, _, _, _, _, q⟩ := q
    exact False.elim q
  | brk =>
    obtain ⟨_, _, _, q⟩ := q
    exact False.elim q
  | cont =>
    obtain ⟨_, _, _, q⟩ := q
    exact False.elim q
theorem psr_ret {e : Expr} {pos : Pos} {te : TE} (he : PE X e te) : PSr X [.Return (some e) pos] (fun R σ H => te σ H (R σ)) := by
  refine ⟨fun pins s σ H R I h => ?_⟩
  refine wpAny_execs_cons (wpAny_Return_some (thn (he.run pins s σ H _ I h) fun v s1 ⟨x, H1, I1, r1, q1⟩ => ?_))
  exact ⟨v, x, σ, H1, rfl, I1, r1, q1⟩
end
theorem PSr.nox {X : Cx} {st : List Stmt} {t : (L2.St → VK) → L2.St → Hp → Prop} (h : PSr X.nox st t) : PSr X st t := ⟨fun pins s σ H R I hw =>
  wpAny_mono (h.run pins s σ H R (I.wish _) hw) (fun _ _ ⟨u, v, σ', H', e, I', r, q⟩ => ⟨u, v, σ', H', e, I'.unwish, r, q⟩) fun _ _ z => False.elim z⟩
theorem okTA {P : Program} {w : World} {K : PySem.W.Frag} {mg : Str → Option Value} {base : Heap} {x qual : Str} {params : Arguments} {body : List Stmt} {scope : Scope} {dvs : List V} {kws : List (Str × V)} {f c : Addr} {fd : FuncData} {N ps : List Str} {k : Nat} {sp : Sp} {js : List (Nat × Str)}
    (F : FunD K x qual params body scope dvs kws f fd) (hc : fd.code = .ref c) (S : FnScope N ps scope) (hjs : lendB N scope js = true) (len : ∀ vs H Q E, sp vs H Q E → vs.length = ps.length)
    (hbody : ∀ (A : Around) (outer : List Env) (s : Shared) (H : Hp) (vs : List V) (Q : VK) (E : XK), Room k (A.deeper (envOfC qual scope s.heap.objs.size f (.ref c))) → sp vs H Q E →
      ∃ t, PSr (cxOf L2.CX0 P w K mg base N qual scope f (.ref c) A outer s H E) body t ∧ t (fun σ v H2 => ∀ cs : List (Addr × Obj), Lends (cellsFrom (s.heap.objs.size + 1) scope.names []) js σ H2 cs → (∀ p ∈ cs, ∀ q ∈ cs, p.1 = q.1 → p.2 = q.2) → Q v (showC H2 cs)) (L2.start N vs) H) : FnOk P w K mg base L2.CX0 (k + 1) f fd ps sp := by
  obtain ⟨oc, od, dV, kV, doc, pm, an, cdv, ct, osl, rfl, lk, hcd, _, _⟩ := F.ex
  have e : cdv = .ref c := hc
  subst e
  refine ⟨len, fun A outer s H args us vs Q E hr e0 hb r hsp => ?_⟩
  have hl := len _ _ _ _ hsp
  have KX : K.In s.heap := e0.mod.kin.keeps fun b o e => (e0.bs b o e).1
  have lim : s.heap.NoLimit := e0.mod.nolimit.keeps fun b o e => (e0.bs b o e).1
  have kinds : ∀ y ∈ ps.zip us, scope.names.lookup y.1 = some .local ∨ (scope.names.lookup y.1 = some .cell ∧ ((cellsFrom (s.heap.objs.size + 1) scope.names []).lookup y.1).isSome = true) := fun ⟨n, v⟩ hy => (S.par n (List.of_mem_zip hy).1).elim .inl fun q => .inr ⟨q, PySem.W.cellsFrom_some _ _ _ (.inl q)⟩
  refine codeAny_call_function hr.depth (KX _ _ lk) rfl S.co S.gen rfl (PySem.W.codeRec_of KX hcd) (hb _ _ _ _ ?_)
  refine wpAny_newFunctionEnv_cells S.kind kinds fun env he s1 z => ?_
  subst he
  refine ⟨lim.keeps z.toInCall.keep, codeAny_func ?_⟩
  obtain ⟨t, ht, hq⟩ := hbody A outer s H vs Q E (hr.deeper _) hsp
  have I : Inv (cxOf L2.CX0 P w K mg base N qual scope f (.ref c) A outer s H E) [] (L2.start N vs) H s1 := inv_start S hr.hd e0 hl r z
  refine wpAny_mono (ht.run [] s1 (L2.start N vs) H _ I hq) (fun fl s' hs => ?_) fun e s' hs => hs
  obtain ⟨u, v, σ', H', rfl, J, rv, q⟩ := hs
  have hj : ∀ p ∈ js, N[p.1]? = some p.2 ∧ scope.names.lookup p.2 = some .cell := fun p hp => by
    have y := List.all_eq_true.mp hjs p hp
    rw [Bool.and_eq_true, decide_eq_true_eq, decide_eq_true_eq] at y
    exact y
  obtain ⟨cs, L, hcs⟩ := lends_of J js hj
  have one : ∀ p ∈ cs, ∀ q ∈ cs, p.1 = q.1 → p.2 = q.2 := fun p hp q hq e => by
    have z1 := (hcs p hp).1
    have z2 := (hcs q hq).1
    rw [e, z2] at z1
    exact (Option.some.inj z1).symm
  have fin := q cs L one
  have high : ∀ b ∈ cs.map (·.1), s.heap.objs.size ≤ b := fun b hb => by
    obtain ⟨p, hp, e⟩ := List.mem_map.mp hb
    obtain ⟨_, q, hq, hl⟩ := hcs p hp
    rw [← e]
    exact J.ok.cab q.2 p.1 rfl hl
  have out : ∀ b u, H' b = some u → b ∉ cs.map (·.1) := fun b u e hb => by
    obtain ⟨p, hp, y⟩ := List.mem_map.mp hb
    rw [← y, L.free p hp] at e
    cases e
  have un : Un (frs outer) [] H H' s.heap s'.heap := J.base
  refine ⟨v, showC H' cs, J.os, J.bare, ⟨un.keep, un.slot, fun b o e n hx => ?_, un.there, fun b xs e => ?_, fun b o u e => ?_, fun b ps e => ?_⟩, hok_show J.hok L.free fun p hp => (hcs p hp).1, rv, fin⟩
  · exact (show_out fun hb => Nat.lt_irrefl _ (Nat.lt_of_lt_of_le (Heap.lt_size e) (high b hb))).trans (un.free b o e n hx)
  · have y := un.tups b xs e
    exact (show_out (out b _ y)).trans y
  · have y := un.frzs b o u e
    exact (show_out (out b _ y)).trans y
  · obtain ⟨more, y⟩ := un.tbls b ps e
    exact ⟨more, (show_out (out b _ y)).trans y⟩
end LM
namespace GD
theorem all1 {α : Type} {p : α → Prop} {a : α} (h : p a) : ∀ x ∈ [a], p x := fun x hx => by rw [List.mem_singleton.mp hx]; exact h
theorem allC {α : Type} {p : α → Prop} {a : α} {as : List α} (h : p a) (hs : ∀ x ∈ as, p x) : ∀ x ∈ a :: as, p x := fun x hx => by
  rcases List.mem_cons.mp hx with rfl | hx
  · exact h
  · exact hs x hx
theorem allN {α : Type} {p : α → Prop} : ∀ x ∈ ([] : List α), p x := fun x hx => absurd hx (by simp)
end GD

namespace LX
open PySem PySem.Spec PyProof.Rows L2
open HandSPX (HeldZ FlyingZ)
/-! ### a list comprehension whose element may let an exception out -/
/-- a call in the block let e out -/
def BlkX (X : Cx) (s : Shared) (H : Hp) (scope : Scope) (ce : Env) (fp : List Addr) (E : XK) (e : Value) (s' : Shared) : Prop :=
  ∃ (pins : List (Addr × Obj)) (σ' : L2.St) (H' : Hp) (s1 : Shared), Inv (X.blk s H scope ce fp) pins σ' H' s1 ∧ CX X.prog X.w X.stack H' s1 E e s'
/-- the block, whose exceptions are looked after -/
abbrev blkE (X : Cx) (s : Shared) (H : Hp) (scope : Scope) (ce : Env) (fp : List Addr) (E : XK) : Cx := (X.blk s H scope ce fp).wish (BlkX X s H scope ce fp E)
theorem blk_pass {X : Cx} {s : Shared} {H : Hp} {scope : Scope} {ce : Env} {fp : List Addr} {E : XK} : Passes (L2.CX X.prog X.w) (blkE X s H scope ce fp E) E := fun pins σ H1 s1 e s' I c => ⟨pins, σ, H1, s1, I.unwish, c⟩
section
variable {B h h2 : Heap} {l : List Env} {a L C : Addr} {Z : Obj → Prop} {m m2 : Str → Option Value}
theorem hid_sub {b : Addr} {o : Obj} (e : (PySem.W.hideAll B [C]).get? b = some o) : B.get? b = some o ∧ b ≠ C := ⟨PySem.W.of_hideAll [C] e, fun q => by
  subst q
  rw [PySem.W.hideAll_none [b] (by simp)] at e
  cases e⟩
theorem hid_get {b : Addr} {o : Obj} (e : B.get? b = some o) (n : b ≠ C) : (PySem.W.hideAll B [C]).get? b = some o := PySem.W.hideAll_get [C] e (by simpa using n)
theorem hid_none {b : Addr} (e : B.get? b = none) : (PySem.W.hideAll B [C]).get? b = none := by
  cases q : (PySem.W.hideAll B [C]).get? b with
  | none => rfl
  | some o =>
    have z := (hid_sub q).1
    rw [e] at z
    cases z
/-- .. held over less ground -/
theorem held_less (hh : HeldZ B l a Z L h) : HeldZ (PySem.W.hideAll B [C]) l a Z L h := by
  obtain ⟨k, n, f, oe, vs, T, oT, ts, he, hz, hd, h1, hnT, hTe, hT, hdT, h3⟩ := hh
  exact ⟨fun b o e => k b o (hid_sub e).1, hid_none n, funFrames_none f fun b hb => hid_none (f.mem hb).1, oe, vs, T, oT, ts, he, hz, hd, h1, hid_none hnT, hTe, hT, hdT, h3⟩
/-- .. where a block's names are let go -/
theorem held_same (hh : HeldZ B l a Z L h) (hC : B.get? C = none) (hn : h.Ns C m) (hn2 : h2.Ns C m2) (sb : Heap.SameBut C h h2) : HeldZ B l a Z L h2 := by
  obtain ⟨k, n, f, oe, vs, T, oT, ts, he, hz, hd, h1, hnT, hTe, hT, hdT, h3⟩ := hh
  have ne : ∀ b o vs, h.get? b = some o → o.data = .fields vs → b ≠ C := fun b o vs e d q => by
    subst q
    obtain ⟨oC, es, ep, ho, hdC, _⟩ := hn
    rw [e] at ho
    cases ho
    rw [d] at hdC
    cases hdC
  exact ⟨fun b o e => (sb.2 b fun q => by rw [q, hC] at e; cases e).trans (k b o e), n, Heap.FunFrames.sameBut sb hn2 f, oe, vs, T, oT, ts, (sb.2 _ (ne _ _ _ he hd)).trans he, hz, hd, h1, hnT, hTe, (sb.2 _ (ne _ _ _ hT hdT)).trans hT, hdT, h3⟩
end
section
variable {X : Cx} {pins : List (Addr × Obj)} {σ : L2.St} {H H1 : Hp} {s s1 s' : Shared} {W : WX} {E : XK}
/-- noted at this frame: it is in our air -/
theorem air_held {a : Addr} {B : Heap} {cls : Value} {d : Option Addr} (I : Inv X pins σ H s) (fl : HeldZ B X.stack a (Zc cls d) X.env.locals s'.heap) (hok : HOk X.prog X.w H1 B) (ub : UB (frs X.stack) H H1 s.heap B s'.heap) (na : H1 a = none) (os : s'.os = s.os) (ag : AllBare s'.gens) (w : W cls d σ H1) :
    XE X W (.ref a) s' := by
  have ⟨G, in_, out⟩ := restrict s'.heap fun b => decide ((B.get? b).isSome = true ∨ b ∈ frs X.stack)
  have grow : ∀ {b o}, B.get? b = some o → G.get? b = some o := fun {b o} e => (in_ b (decide_eq_true (.inl (by rw [e]; rfl)))).trans (fl.1 b o e)
  have fram : ∀ {b}, b ∈ frs X.stack → G.get? b = s'.heap.get? b := fun {b} hb => in_ b (decide_eq_true (.inr hb))
  have back : ∀ {b o}, G.get? b = some o → s'.heap.get? b = some o ∧ (b ∉ frs X.stack → B.get? b = some o) := fun {b o} e => by
    by_cases p : (B.get? b).isSome = true ∨ b ∈ frs X.stack
    · have e2 := (in_ b (decide_eq_true p)).symm.trans e
      refine ⟨e2, fun n => ?_⟩
      obtain ⟨o', q⟩ := Option.isSome_iff_exists.mp (p.resolve_right n)
      have z := fl.1 b o' q
      rw [e2] at z
      cases z
      exact q
    · rw [out b (decide_eq_false p)] at e
      cases e
  have any : ∀ b o, s.heap.get? b = some o → ∃ o', G.get? b = some o' := fun b o e => by
    by_cases hb : b ∈ frs X.stack
    · obtain ⟨sl, q⟩ := ub.slot b o e hb
      exact ⟨_, (fram hb).trans q⟩
    · obtain ⟨o', q⟩ := ub.there b o e hb
      exact ⟨o', grow q⟩
  have J : L2.Inv X pins σ H1 { s with heap := G, gens := s'.gens, drawn := s'.drawn, toks := s'.toks } :=
    I.call (ch := []) ⟨fun b o e n hb _ => grow (ub.keep b o e n hb), fun b o e _ hb _ => (ub.slot b o e hb).imp fun sl q => (fram hb).trans q, fun b o e n _ => ub.free b o e n, fun b o e _ => any b o e, ub.tups, ub.frzs, ub.tbls⟩ (hok.kept fun b o e => grow e) ag fun _ z => nomatch z
  exact ⟨a, B, _, pins, σ, H1, cls, d, rfl, J, fun b o e hb => (back e).2 hb, Heap.UpToSlots.of_keeps fun b o e => (back e).1, .inr (.inr fl), na, os, ag, w⟩
/-- out of the block, through the frame's note and the block's end -/
theorem blk_out {ce : Env} {C : Addr} {e : Value} {mC : Str → Option Value} (tk : Takes X W) (hs : X.stack = X.env :: X.outer) (hf : X.env.frame = some X.env.locals) (hcf : ce.frame = X.env.frame) (hC : ce.locals = C) (I : Inv X pins σ H s1) (f : FpOk X pins H C) (hn : s1.heap.Ns C mC)
    (hW : ∀ cls d H', E cls d H' → W cls d σ H') (c : CX X.prog X.w X.stack H s1 E e s') : notedBy (model X.prog X.w) X.A ce (fun e s' => CompFails (model X.prog X.w) X.A X.xe ce e s') e s' := by
  obtain ⟨a, B, H', cls, d, rfl, fl, hok, ub, na, os, ag, hE⟩ := c
  show wpAny _ _ (noteFrame (.ref a) ce) _ _ s'
  rw [noteFrame_env _ hcf]
  have hfr : X.A.frames = some (X.env :: X.outer) := by rw [I.ok.frames, hs]
  have nfC : C ∉ frs X.stack := fun z => (List.mem_cons.mp (I.stkSub C z)).elim f.2.1 f.2.2.1
  obtain ⟨oC, es, ep, ho, hdC, r⟩ := hn
  have ho' := fl.1 C oC (ub.keep C oC ho f.1 nfC)
  have frees : H' C = none := ub.free C oC ho f.1
  have slot : ∀ b o, s1.heap.get? b = some o → b ∈ frs X.stack → (∃ sl, s'.heap.get? b = some { o with slots := sl }) ∧ ∀ vs, o.data ≠ .fields vs := fun b o e hb => ⟨ub.slot b o e hb, by
    obtain ⟨_, o', e', hd⟩ := I.stack.mem hb
    rw [e] at e'
    cases e'
    exact hd⟩
  have fl2 : FlyingZ B (X.env :: X.outer) a (Zc cls d) s'.heap := hs ▸ fl
  refine HandSPX.looks_onZ Zc.steady hfr hf fl2 fun h2 hH up => ?_
  obtain ⟨sl, ho2⟩ := up C oC ho' (fun vs z => by rw [hdC] at z; cases z)
  have hn2 : h2.Ns C mC := ⟨_, es, ep, ho2, hdC, r⟩
  refine ⟨mC, by rw [hC]; exact hn2, fun h3 m3 hn3 sb => ?_⟩
  rw [hC] at hn3 sb
  have hh3 := held_same (held_less (C := C) hH) (PySem.W.hideAll_none [C] (by simp)) hn2 hn3 sb
  obtain ⟨oe, vs, T, oT, ts, he, hz, hd, h1, _⟩ := id hh3.2.2.2
  unfold PySem.passOn
  refine wpAny_bind (wpAny_field he hd h1 ?_)
  rw [if_neg (show ¬ ((Value.ref T == Value.none) = true) from by simp)]
  rw [show ce.frame = some X.env.locals from hcf.trans hf]
  refine wpAny_bind (HandSPX.setFlight_onZ hh3 fun h4 hh4 up4 => ?_)
  refine wpAny_throw ?_
  refine tk _ _ (air_held (H1 := H') (B := PySem.W.hideAll B [C]) (I.turned (t' := s1.toks) (h' := PySem.W.hideAll s1.heap [C]) (fun b o hb e => hid_get e hb) f.1 f.2.1 f.2.2.2.1 f.2.2.2.2.1 f.2.2.2.2.2) (hs ▸ hh4) (fun b o q => ?_) ?_ na os ag (hW _ _ _ hE))
  · exact (hok b o q).stay (fun c u hc r => hid_get r fun z => by
      rcases hc with hc | hc
      · rw [← hc, z, frees] at q
        cases q
      · rw [z, frees] at hc
        cases hc) (fun _ r => r) fun _ _ r => r
  · refine ⟨fun b o e n hb => hid_get (ub.keep b o (hid_sub e).1 n hb) (hid_sub e).2, fun b o e hb => ?_, fun b o e n => ub.free b o (hid_sub e).1 n, fun b o e hb => ?_, ub.tups, ub.frzs, ub.tbls⟩
    · obtain ⟨⟨sl, q⟩, hd⟩ := slot b o (hid_sub e).1 hb
      obtain ⟨sl2, q2⟩ := up b _ q hd
      obtain ⟨sl4, q4⟩ := up4 b _ ((sb.2 b (hid_sub e).2).trans q2) hd
      exact ⟨sl4, q4⟩
    · obtain ⟨o', q⟩ := ub.there b o (hid_sub e).1 hb
      exact ⟨o', hid_get q (hid_sub e).2⟩
end
/-- a comprehension whose element may let E out -/
theorem lc_coreX {X : Cx} {W : WX} {E : XK} {pins : List (Addr × Obj)} {s : Shared} {σ : L2.St} {H : Hp} {Q : VK} {elt tg iter : Expr} {ifs : List Expr} {scope : Scope} {own : List (Str × Nat)} {pos pos' : Pos} {wi : TI} {g : TG} {tt : TT} {te : TE} {use : Option (Value → Sem Unit)} {Qf : Value → Shared → Prop} (tk : Takes X W) (hst : X.stack = X.env :: X.outer) (hf : X.env.frame = some X.env.locals) (hW : ∀ cls d σ H, E cls d H → W cls d σ H)
    (hc : X.calm = true) (hN : X.N.Nodup) (I : L2.Inv X pins σ H s) (hi : PI X tg iter wi) (ok : BlkOk X.N X.env.scope scope own)
    (hg : ∀ (s : Shared) (H : Hp) (C : Addr) (cl : List (Str × Addr)) (fp : List Addr), PG (X.blk s H scope (compEnvC scope cl C X.env) fp) tg g) (ht : ∀ (s : Shared) (H : Hp) (C : Addr) (cl : List (Str × Addr)) (fp : List Addr), PTs (X.blk s H scope (compEnvC scope cl C X.env) fp) ifs tt)
    (he : ∀ (s : Shared) (H : Hp) (C : Addr) (cl : List (Str × Addr)) (fp : List Addr), PE (blkE X s H scope (compEnvC scope cl C X.env) fp E) elt te) (hs : ∀ x, foldedSetIterable iter X.env x = pure x) (h : tLc wi g tt te (own.map (·.2)) σ H Q)
    (hRR : ∀ D ce s' m H', L2.Inv X pins σ H' s' → Q (.ref D) H' → s'.heap.Ns ce.locals m → FpOk X pins H' ce.locals → compEnds (model X.prog X.w) X.A X.xe use Qf (.ref D) ce (.ok .next) s') :
    wpAny (model X.prog X.w) X.A (comprehension (.ListComp elt [⟨tg, iter, ifs, 0⟩] scope pos) scope X.env pos' (newList []) false (eval iter X.env) use) Qf X.xe s := by
  have caught : ∀ y ∈ scope.names, y.2 = .free → ∃ c, X.env.cells.lookup y.1 = some c := fun y hy e => (ok.free y hy e).elim (fun k => I.ok.has _ (.inl k)) fun k => I.ok.has _ (.inr k)
  refine comprehension_at (use := use) rfl hs (closure_ok caught) ok.kind (fun y hy e => by rw [ok.uniq y hy, e]) (thn (hi.run pins s σ H _ I h) fun xv s1 hx => thn hx fun itv s2 h2 => ?_)
  obtain ⟨it, fp, tn, J, H2, rfl, I2, T, st2, f2, q⟩ := h2
  refine wpAny_newObj_type (newEnv_comp ?_) (by show 0 ≤ sizeLine; decide)
  obtain ⟨D, hD⟩ : ∃ D, D = s2.heap.objs.size := ⟨_, rfl⟩
  rw [← hD]
  have nD : H2 D = none := I2.hok.fresh (Nat.le_of_eq hD.symm)
  obtain ⟨V, ⟨m0, v0⟩, turn⟩ := q D nD
  obtain ⟨s3, h3⟩ : ∃ s3 : Shared, s3 = { s2 with heap := s2.heap.push { cls := .type "list", data := .seq ([] : List Value).toArray } } := ⟨_, rfl⟩
  have e3 : s3.heap = s2.heap.push { cls := .type "list", data := .seq ([] : List Value).toArray } := by rw [h3]
  have I3 : L2.Inv X pins σ (upd H2 D (.lst [])) s3 := by
    rw [h3]
    refine I2.laid (t' := s2.toks) (fun b o e => Heap.get?_push_of_some _ e) (Nat.le_of_eq hD.symm) ⟨Nat.zero_le _, [], 0, .nil, ?_⟩
    rw [hD]
    exact Heap.get?_push_size _ rfl
  have below : ∀ b ∈ fp, b < D := fun b hb => by
    obtain ⟨o, e, _⟩ := T.obj _ _ st2 b hb
    rw [hD]
    exact Heap.lt_size e
  have f3 : ∀ b ∈ fp, FpOk X pins (upd H2 D (.lst [])) b ∧ b < s3.heap.objs.size := fun b hb => by
    have hlt := below b hb
    exact ⟨⟨(upd_ne (Nat.ne_of_lt hlt)).trans (f2 b hb).1, (f2 b hb).2⟩, by rw [e3, Heap.size_push, ← hD]; exact Nat.lt_succ_of_lt hlt⟩
  have st3 : tn 0 s3.heap := T.keep _ _ _ st2 fun b _ o e => by rw [e3]; exact Heap.get?_push_of_some _ e
  have I4 := block_start I3 ok hN f3
  have pg := hg s3 (upd H2 D (.lst [])) s3.heap.objs.size (cellsFrom (s3.heap.objs.size + 1) scope.names (cloFrom X.env.cells scope.names [])) fp
  have pt := ht s3 (upd H2 D (.lst [])) s3.heap.objs.size (cellsFrom (s3.heap.objs.size + 1) scope.names (cloFrom X.env.cells scope.names [])) fp
  have pe := he s3 (upd H2 D (.lst [])) s3.heap.objs.size (cellsFrom (s3.heap.objs.size + 1) scope.names (cloFrom X.env.cells scope.names [])) fp
  show codeAny _ _ (.compStart (.ListComp elt [⟨tg, iter, ifs, 0⟩] scope pos) 0 (.ref it) (.ref D) (compEnvC scope (cellsFrom (s2.heap.push { cls := .type "list", data := .seq ([] : List Value).toArray }).objs.size.succ scope.names (cloFrom X.env.cells scope.names [])) (s2.heap.push { cls := .type "list", data := .seq ([] : List Value).toArray }).objs.size X.env))
    (compEnds (model X.prog X.w) X.A X.xe use _ (.ref D) (compEnvC scope (cellsFrom (s2.heap.push { cls := .type "list", data := .seq ([] : List Value).toArray }).objs.size.succ scope.names (cloFrom X.env.cells scope.names [])) (s2.heap.push { cls := .type "list", data := .seq ([] : List Value).toArray }).objs.size X.env))
    { ({ s2 with heap := s2.heap.push { cls := .type "list", data := .seq ([] : List Value).toArray } } : Shared) with heap := pushCells ((s2.heap.push { cls := .type "list", data := .seq ([] : List Value).toArray }).push { cls := .type "dict", data := .dict #[] }) scope.names }
  rw [← h3, ← e3]
  change codeAny _ _ (.compStart (.ListComp elt [⟨tg, iter, ifs, 0⟩] scope pos) 0 (.ref it) (.ref D) (compEnvC scope (cellsFrom (s3.heap.objs.size + 1) scope.names (cloFrom X.env.cells scope.names [])) s3.heap.objs.size X.env))
    (compEnds (model X.prog X.w) X.A X.xe use _ (.ref D) (compEnvC scope (cellsFrom (s3.heap.objs.size + 1) scope.names (cloFrom X.env.cells scope.names [])) s3.heap.objs.size X.env)) _
  have nfp : ∀ b ∈ fp, (upd H2 D (.lst [])) b = none := fun b hb => (f3 b hb).1.1
  have cF : (compEnvC scope (cellsFrom (s3.heap.objs.size + 1) scope.names (cloFrom X.env.cells scope.names [])) s3.heap.objs.size X.env).frame = X.env.frame := rfl
  have cL : (compEnvC scope (cellsFrom (s3.heap.objs.size + 1) scope.names (cloFrom X.env.cells scope.names [])) s3.heap.objs.size X.env).locals = s3.heap.objs.size := rfl
  generalize compEnvC scope (cellsFrom (s3.heap.objs.size + 1) scope.names (cloFrom X.env.cells scope.names [])) s3.heap.objs.size X.env = ce at I4 pg pt pe cF cL ⊢
  generalize upd H2 D (.lst []) = H3 at I3 I4 pg pt pe v0 nfp f3
  have keep4 : ∀ b o, s3.heap.get? b = some o → (pushCells (s3.heap.push { cls := .type "dict", data := .dict #[] }) scope.names).get? b = some o := fun b o e => pushCells_keeps _ _ _ _ (Heap.get?_push_of_some _ e)
  have st4 : tn 0 (pushCells (s3.heap.push { cls := .type "dict", data := .dict #[] }) scope.names) := T.keep _ _ _ st3 fun b _ o e => keep4 b o e
  generalize hs4 : ({ s3 with heap := pushCells (s3.heap.push { cls := .type "dict", data := .dict #[] }) scope.names } : Shared) = s4 at I4 ⊢
  have st4 : tn 0 s4.heap := by rw [← hs4]; exact st4
  have fps : ∀ {σ' : L2.St} {H' : Hp} {s' : Shared}, L2.Inv (X.blk s3 H3 scope ce fp) [] σ' H' s' → (∀ b ∈ fp, H' b = none) → ∀ b ∈ fp, FpOk (X.blk s3 H3 scope ce fp) [] H' b := fun {σ' H' s'} I' hn b hb =>
    ⟨hn b hb, (I'.ok.exf b hb).1, I'.ok.exfs b hb, .inl hb, fun x c e => (I'.ok.exf b hb).2 x c e, fun p hp => absurd (show p ∈ ([] : List (Addr × Obj)) ++ [] from hp) (by simp)⟩
  -- a state of the block is one of the def
  have home : ∀ {pins' : List (Addr × Obj)} {σ' : L2.St} {H' : Hp} {s' : Shared}, L2.Inv (X.blk s3 H3 scope ce fp) pins' σ' H' s' → L2.Inv X pins σ H' s' ∧ FpOk X pins H' s3.heap.objs.size ∧ ∃ m, s'.heap.Ns s3.heap.objs.size m := fun {pins' σ' H' s'} J => by
    have z : H' ce.locals = none := J.free
    rw [cL] at z
    obtain ⟨m, hn, _⟩ := J.loc
    have hn : s'.heap.Ns ce.locals m := hn
    rw [cL] at hn
    exact ⟨I3.call' (ch := fp) J.os J.base J.hok J.bare fun b hb => ⟨(f3 b hb).1.2.2.2.1, (f3 b hb).1.2.1, (f3 b hb).1.2.2.2.2.1, (f3 b hb).1.2.2.2.2.2⟩, I3.fpOk (Nat.le_refl _) z, m, hn⟩
  have loop : codeAny (model X.prog X.w) X.A (.compLoop (.ListComp elt [⟨tg, iter, ifs, 0⟩] scope pos) 0 (.ref it) (.ref D) ce) (compEnds (model X.prog X.w) X.A X.xe use Qf (.ref D) ce) s4 := by
    refine compLoop_any (fun n s' => ∃ i H', L2.Inv (X.blk s3 H3 scope ce fp) [] (wipe σ (own.map (·.2))) H' s' ∧ tn i s'.heap ∧ (∀ b ∈ fp, H' b = none) ∧ V i n H') ?_ m0 ⟨0, H3, I4, st4, nfp, v0⟩
    rintro n s5 ⟨i, H5, I5, st5, n5, v5⟩
    rcases turn i n H5 v5 with ⟨stop, qq⟩ | ⟨go, Nx, hNx, step⟩
    · refine thnF (T.done (X.blk s3 H3 scope ce fp) rfl rfl rfl hc i [] s5 _ H5 (fun _ _ => False) I5 (fps I5 n5) st5 stop) fun r s6 ⟨hr, I6⟩ => ?_
      subst hr
      obtain ⟨I7, f7, m, hn⟩ := home I6
      exact hRR D ce s6 m H5 I7 qq (by rw [cL]; exact hn) (by rw [cL]; exact f7)
    · refine thnF (T.item (X.blk s3 H3 scope ce fp) rfl rfl rfl hc i [] s5 _ H5 (fun _ _ => False) I5 (fps I5 n5) st5 go) fun r s6 ⟨u, hr, h6⟩ => ?_
      subst hr
      refine thnF h6 fun _ s7 ⟨x, H7, I7, r7, y7, st7, n7⟩ => ?_
      have I7' := I7.pinned (fps I7 n7) (T.obj _ _ st7)
      refine thnF (pg.run _ s7 _ H7 x u _ I7' r7 (step x H7 y7)) fun _ s8 ⟨σ8, H8, I8, hw8, q8⟩ => ?_
      refine thnF (pt.run _ s8 σ8 H8 _ I8 q8) fun b s9 ⟨H9, I9, q9⟩ => ?_
      have fin : ∀ {s' : Shared} {H' : Hp}, L2.Inv (X.blk s3 H3 scope ce fp) ([] ++ pinsAt fp s7.heap) σ8 H' s' → Nx H' → ∃ m, m < n ∧ ∃ i H', L2.Inv (X.blk s3 H3 scope ce fp) [] (wipe σ (own.map (·.2))) H' s' ∧ tn i s'.heap ∧ (∀ b ∈ fp, H' b = none) ∧ V i m H' := fun {s' H'} I' nx => by
        obtain ⟨m', hm, v'⟩ := hNx H' nx
        have held : ∀ b ∈ fp, ∀ o, s7.heap.get? b = some o → s'.heap.get? b = some o ∧ H' b = none := fun b hb o e =>
          let z := I'.pin (b, o) (List.mem_append_right _ (List.mem_append_right _ (mem_pinsAt hb e)))
          ⟨z.1, z.2.1⟩
        refine ⟨m', hm, i + 1, H', (I'.unpinned (pins := [])).weak (by rw [← hw8, wipe_length]) (fun j v e => ?_), T.keep _ _ _ st7 fun b hb o e => (held b hb o e).1, fun b hb => ?_, v'⟩
        · rw [← hw8] at e
          exact (wipe_some e).1
        · obtain ⟨o, e, _⟩ := T.obj _ _ st7 b hb
          exact (held b hb o e).2
      cases b with
      | false =>
        simp only [Bool.false_eq_true, if_false] at q9 ⊢
        exact fin I9 q9
      | true =>
        simp only [if_true] at q9 ⊢
        refine wpAny_mono (pe.run _ s9 σ8 H9 _ (I9.wish _) q9) (fun z s10 ⟨yv, H10, I10, r10, acc, hD10, hz10, nx⟩ => ?_) fun e s' hx => ?_
        · exact app_ok (X := X.blk s3 H3 scope ce fp) I10.unwish hD10 hz10 r10 fun s11 I11 => fin I11 nx
        · obtain ⟨pins', σ', H', s1', J, c⟩ := hx
          obtain ⟨I7, f7, m, hn⟩ := home J
          have eE : (fun e s' => compEnds (model X.prog X.w) X.A X.xe use Qf (.ref D) ce (.error e) s') = fun e s' => CompFails (model X.prog X.w) X.A X.xe ce e s' := by
            funext e s'
            cases use <;> rfl
          rw [eE]
          exact blk_out tk hst hf cF cL I7 f7 hn (fun cls d H' z => hW cls d σ H' z) c
  exact codeAny_compStart_list loop (T.self X.A 0 _ _ _ st4 loop)
/-- [elt for tg in iter if ..], whose element may let E out -/
theorem pe_lcX {X : Cx} {W : WX} {E : XK} {elt tg iter : Expr} {ifs : List Expr} {scope : Scope} {own : List (Str × Nat)} {pos : Pos} {wi : TI} {g : TG} {tt : TT} {te : TE} (tk : Takes X W) (hst : X.stack = X.env :: X.outer) (hf : X.env.frame = some X.env.locals) (hW : ∀ cls d σ H, E cls d H → W cls d σ H)
    (hc : X.calm = true) (hN : X.N.Nodup) (hi : PI X tg iter wi) (ok : BlkOk X.N X.env.scope scope own)
    (hg : ∀ (s : Shared) (H : Hp) (C : Addr) (cl : List (Str × Addr)) (fp : List Addr), PG (X.blk s H scope (compEnvC scope cl C X.env) fp) tg g) (ht : ∀ (s : Shared) (H : Hp) (C : Addr) (cl : List (Str × Addr)) (fp : List Addr), PTs (X.blk s H scope (compEnvC scope cl C X.env) fp) ifs tt)
    (he : ∀ (s : Shared) (H : Hp) (C : Addr) (cl : List (Str × Addr)) (fp : List Addr), PE (blkE X s H scope (compEnvC scope cl C X.env) fp E) elt te) (hs : ∀ x, foldedSetIterable iter X.env x = pure x := by intro _; rfl) :
    PE X (.ListComp elt [⟨tg, iter, ifs, 0⟩] scope pos) (tLc wi g tt te (own.map (·.2))) := by
  refine ⟨fun pins s σ H Q I h => ?_⟩
  rw [eval_ListComp]
  refine lc_coreX (use := none) tk hst hf hW hc hN I hi ok hg ht he hs h fun D ce s' m H' I' q hn f => ⟨m, hn, fun h'' sb => ?_⟩
  obtain ⟨f0, f1, f2, f3, f4, f5⟩ := f
  exact ⟨.ref D, H', I'.turned (t' := s'.toks) (fun b o hb e => (sb.2 b hb).trans e) f0 f1 f3 f4 f5, rfl, q⟩
/-- name = [..] whose element may let E out, the name a local -/
theorem ps_setLcX {X : Cx} {W : WX} {E : XK} {i : Nat} {y : Str} {py : Pos} {elt tg iter : Expr} {ifs : List Expr} {scope : Scope} {own : List (Str × Nat)} {pos spos : Pos} {wi : TI} {g : TG} {tt : TT} {te : TE} (tk : Takes X W) (hst : X.stack = X.env :: X.outer) (hf : X.env.frame = some X.env.locals) (hW : ∀ cls d σ H, E cls d H → W cls d σ H)
    (hc : X.calm = true) (hN : X.N.Nodup) (hy : X.N[i]? = some y) (hyl : X.env.scope.names.lookup y = some .local)
    (hsw : swapsWith (.ListComp elt [⟨tg, iter, ifs, 0⟩] scope pos) (some (.Name y py)) spos.line X.env = pure true) (hi : PI X tg iter wi) (ok : BlkOk X.N X.env.scope scope own)
    (hg : ∀ (s : Shared) (H : Hp) (C : Addr) (cl : List (Str × Addr)) (fp : List Addr), PG (X.blk s H scope (compEnvC scope cl C X.env) fp) tg g) (ht : ∀ (s : Shared) (H : Hp) (C : Addr) (cl : List (Str × Addr)) (fp : List Addr), PTs (X.blk s H scope (compEnvC scope cl C X.env) fp) ifs tt)
    (he : ∀ (s : Shared) (H : Hp) (C : Addr) (cl : List (Str × Addr)) (fp : List Addr), PE (blkE X s H scope (compEnvC scope cl C X.env) fp E) elt te) (hs : ∀ x, foldedSetIterable iter X.env x = pure x := by intro _; rfl) :
    PS X (.Assign [.Name y py] (.ListComp elt [⟨tg, iter, ifs, 0⟩] scope pos) spos) (tAsg (tLc wi g tt te (own.map (·.2))) (gName i)) := by
  refine ⟨fun pins s σ H D I h => ?_⟩
  rw [exec_Assign_Name_used _ _ _ _ hsw]
  refine wpAny_bind (wpAny_standAt (wpAny_bind ?_))
  show wpAny _ X.A (do let _ ← comprehension (.ListComp elt [⟨tg, iter, ifs, 0⟩] scope pos) scope X.env (firstIterPos [⟨tg, iter, ifs, 0⟩] pos) (newList []) false (eval iter X.env) (some (assign (.Name y py) X.env))) _ _ s
  have h : tLc wi g tt te (own.map (·.2)) σ H (fun x H1 => gName i x σ H1 D.nx) := h
  refine wpAny_bind (thn (lc_coreX (Qf := fun _ s' => SP X pins D .next s') tk hst hf hW hc hN I hi ok hg ht he hs h fun L ce s' m H' I' q hn f => ?_) fun _ s' hq => wpAny_pure (wpAny_pure hq))
  show wpAny _ _ (assign (.Name y py) X.env (.ref L)) _ _ _
  refine wpAny_assign_Name (store_ok2 (v := V.ref L) I' hN hy (.inl hyl) rfl (fun s2 I2 ⟨a, sb, ha⟩ => ?_) (.inr hyl))
  obtain ⟨f0, f1, f2, f3, f4, f5⟩ := f
  have apart : ce.locals ≠ a := ha.elim (fun z => by rw [z]; exact f1) fun z e => f4 y a z e.symm
  exact ⟨m, hn.sameBut sb apart, fun h3 sb3 => ⟨_, H', I2.turned (t' := s2.toks) (fun b o hb e => (sb3.2 b hb).trans e) f0 f1 f3 f4 f5, q⟩⟩
end LX

namespace GX
open PySem PySem.Spec PyProof.Rows L2 GxR
/-- what comes behind a statement that never goes on is cut -/
theorem pss_cut {X : Cx} {st : Stmt} {rest : List Stmt} {t : TS} (h1 : PS X st t) : PSs X (st :: rest) (fun D σ H => t { D with nx := fun _ _ => False } σ H) := by
  refine ⟨fun pins s σ H D I h => ?_⟩
  refine wpAny_execs_cons (thn (h1.run pins s σ H { D with nx := fun _ _ => False } I h) fun f s1 q => ?_)
  cases f with
  | next =>
    obtain ⟨_, _, _, q⟩ := q
    exact False.elim q
  | ret v => exact q
  | brk => exact q
  | cont => exact q
end GX
namespace GD
open PySem PySem.Spec PyProof.Rows L2 GxR GX GS GT GC
/-! ### things that are no book, no plan -/
def numD (lo hi : Int) : PyData → Bool
  | .int v => decide (lo ≤ v) && decide (v ≤ hi)
  | _ => false
def rowDD (lo hi : Int) : PyData → Bool
  | .tuple ds => decide (lo ≤ (ds.length : Int)) && decide ((ds.length : Int) ≤ hi)
  | _ => false
def itemsB (f : PyData → Bool) : PyData → Bool
  | .tuple ds => ds.all f
  | _ => false
def stretchB : PyData → Bool
  | .tuple [h, r, ds] => numD 1 9 h && numD 1 9 r && (rowDD 1 24 ds && itemsB (numD 0 99) ds)
  | _ => false
def ltD : PyData → PyData → Bool
  | .int a, .int b => decide (a < b)
  | _, _ => false
def bargeB (n : Int) : PyData → Bool
  | .tuple [b, g, d, r, u] => numD 0 n b && numD 0 n g && ltD b g && (numD 1 99 d && (numD 0 99 r && numD 0 199 u))
  | _ => false
def lenD : PyData → Int
  | .tuple ds => ds.length
  | _ => 0
def bookB : PyData → Bool
  | .tuple [r, b] => (rowDD 1 8 r && itemsB stretchB r) && (rowDD 0 7 b && itemsB (bargeB (lenD r)) b)
  | _ => false
def bargesOf : PyData → Int
  | .tuple [_, b] => lenD b
  | _ => 0
def noneD : PyData → Bool
  | .none => true
  | _ => false
def planB (many : Int) (e : PyData) : Bool := rowDD many many e && itemsB (fun x => noneD x || numD 0 11 x) e
theorem rowDD_n {n : Nat} {d : PyData} (h : rowDD (n : Int) (n : Int) d = true) : ∃ ds, d = .tuple ds ∧ ds.length = n := by
  cases d with
  | tuple ds =>
    refine ⟨ds, rfl, ?_⟩
    have h : (decide ((n : Int) ≤ (ds.length : Int)) && decide ((ds.length : Int) ≤ (n : Int))) = true := h
    rw [Bool.and_eq_true, decide_eq_true_eq, decide_eq_true_eq] at h
    omega
  | _ => cases h
theorem rowDD_tup {lo hi : Int} {d : PyData} (h : rowDD lo hi d = true) : ∃ ds, d = .tuple ds ∧ lo ≤ (ds.length : Int) ∧ (ds.length : Int) ≤ hi := by
  cases d with
  | tuple ds =>
    have h : (decide (lo ≤ (ds.length : Int)) && decide ((ds.length : Int) ≤ hi)) = true := h
    rw [Bool.and_eq_true, decide_eq_true_eq, decide_eq_true_eq] at h
    exact ⟨ds, rfl, h.1, h.2⟩
  | _ => cases h
theorem len3 {α : Type} {xs : List α} (h : xs.length = 3) : ∃ a b c, xs = [a, b, c] := by
  match xs, h with
  | [a, b, c], _ => exact ⟨a, b, c, rfl⟩
theorem len2 {α : Type} {xs : List α} (h : xs.length = 2) : ∃ a b, xs = [a, b] := by
  match xs, h with
  | [a, b], _ => exact ⟨a, b, rfl⟩
theorem len5 {α : Type} {xs : List α} (h : xs.length = 5) : ∃ a b c d e, xs = [a, b, c, d, e] := by
  match xs, h with
  | [a, b, c, d, e], _ => exact ⟨a, b, c, d, e, rfl⟩
theorem stretchB_no {d : PyData} (h : rowDD 3 3 d = false) : stretchB d = false := by
  unfold stretchB
  split
  · cases h
  · rfl
theorem bargeB_no {n : Int} {d : PyData} (h : rowDD 5 5 d = false) : bargeB n d = false := by
  unfold bargeB
  split
  · cases h
  · rfl
theorem bookB_no {d : PyData} (h : rowDD 2 2 d = false) : bookB d = false := by
  unfold bookB
  split
  · cases h
  · rfl
theorem dpGet {K : PySem.W.Frag} {H : Hp} : ∀ {vs : List V} {ds : List PyData} {i : Nat} {x : V}, DpAll K H vs ds → vs[i]? = some x → ∃ d, ds[i]? = some d ∧ Dp K H x d
  | _, _, 0, _, .cons a _, h => ⟨_, rfl, by cases h; exact a⟩
  | _, _, i + 1, _, .cons _ t, h => dpGet (i := i) t h
theorem dpLen {K : PySem.W.Frag} {H : Hp} : ∀ {vs : List V} {ds : List PyData}, DpAll K H vs ds → vs.length = ds.length
  | _, _, .nil => rfl
  | _, _, .cons _ t => congrArg (· + 1) (dpLen t)
theorem dpTup {K : PySem.W.Frag} {H : Hp} {v : V} {ds : List PyData} (h : Dp K H v (.tuple ds)) : ∃ a xs, v = .ref a ∧ SqT K H a xs ∧ DpAll K H xs ds := by
  cases h with
  | tup h1 h2 => exact ⟨_, _, rfl, h1, h2⟩
theorem allB_step {p : Nat → Bool} {n i : Nat} {H1 H4 : Hp} {Q : VK} (e : Ext [] H1 H4) (hi : i < n) (hp : ∀ j, j < i → p j = true) (q : ∀ H, Ext [] H1 H → Q (.bl ((List.range n).all p)) H) : ∃ c, V.bl (p i) = .bl c ∧ if c = true then (Ext [] H1 H4 ∧ ∀ j, j < i + 1 → p j = true) else Q (.bl false) H4 := by
  refine ⟨p i, rfl, ?_⟩
  cases h : p i with
  | true =>
    refine iteT ⟨e, fun j hj => ?_⟩
    by_cases c : j = i
    · rw [c]; exact h
    · exact hp j (by omega)
  | false =>
    refine iteF ?_
    have z := q H4 e
    have : (List.range n).all p = false := by
      rw [List.all_eq_false]
      exact ⟨i, List.mem_range.mpr hi, by rw [h]; decide⟩
    rw [this] at z
    exact z
theorem allB_end {p : Nat → Bool} {n : Nat} (hp : ∀ j, j < n → p j = true) : (List.range n).all p = true := by
  rw [List.all_eq_true]
  exact fun j hj => hp j (List.mem_range.mp hj)
theorem all_range {f : PyData → Bool} {ds : List PyData} {g : Nat → PyData} (h : ∀ i, i < ds.length → ds[i]? = some (g i)) : (List.range ds.length).all (fun i => f (g i)) = ds.all f := by
  rw [Bool.eq_iff_iff, List.all_eq_true, List.all_eq_true]
  constructor
  · intro z x hx
    obtain ⟨i, hi⟩ := List.mem_iff_getElem?.mp hx
    have lt := (List.getElem?_eq_some_iff.mp hi).1
    have := z i (List.mem_range.mpr lt)
    rw [h i lt] at hi
    rw [← Option.some.inj hi]
    exact this
  · intro z i hi
    have lt := List.mem_range.mp hi
    exact z _ (List.mem_of_getElem? (h i lt))
theorem all_getD (f : PyData → Bool) (ds : List PyData) : (List.range ds.length).all (fun i => f (ds.getD i .none)) = ds.all f := all_range fun i hi => by
  rw [List.getD_eq_getElem?_getD, List.getElem?_eq_getElem hi]
  rfl
theorem getD_at {ds : List PyData} {i : Nat} {d : PyData} (h : ds[i]? = some d) : ds.getD i .none = d := by
  rw [List.getD_eq_getElem?_getD, h]
  rfl
/-! isinstance of things -/
def tyD : PyData → String
  | .none => "NoneType"
  | .bool _ => "bool"
  | .int _ => "int"
  | .str _ => "str"
  | .list _ => "list"
  | _ => "tuple"
theorem dpTy {K : PySem.W.Frag} {H : Hp} {v : V} {d : PyData} (h : Dp K H v d) : TyX K H v (.type (tyD d)) := by
  cases h with
  | non => exact .base .non
  | bl b => exact .base (.bl b)
  | int i => exact .base (.int i)
  | str x => exact .base (.str x)
  | @lst a xs ds h1 h2 =>
    rcases h1 with (z | ⟨o, z⟩) | ⟨o, its, n, e, c, _⟩
    · exact .base (.lst z)
    · exact .base (.frz z)
    · exact .kList e c
  | @tup a xs ds h1 h2 =>
    rcases h1 with (z | ⟨o, z⟩) | ⟨o, its, n, e, c, _⟩
    · exact .base (.tup z)
    · exact .fTuple z
    · exact .kTuple e c
def isTup : PyData → Bool
  | .tuple _ => true
  | _ => false
def isBool : PyData → Bool
  | .bool _ => true
  | _ => false
def isInt : PyData → Bool
  | .int _ => true
  | .bool _ => true
  | _ => false
section
variable {K : PySem.W.Frag} {H : Hp} {Q : VK} {v : V} {d : PyData}
theorem isD_tup (h : Dp K H v d) (q : Q (.bl (isTup d)) H) : rIsi K [v, .ty "tuple"] H Q := by
  refine ⟨v, .ty "tuple", _, .type "tuple", isTup d, rfl, .ty _, dpTy h, ?_, q⟩
  cases h with
  | non => exact kit_ty (show L2.kitB "NoneType" "tuple" = some false by decide +kernel)
  | bl _ => exact kit_ty (show L2.kitB "bool" "tuple" = some false by decide +kernel)
  | int _ => exact kit_ty (show L2.kitB "int" "tuple" = some false by decide +kernel)
  | str _ => exact kit_ty (show L2.kitB "str" "tuple" = some false by decide +kernel)
  | lst _ _ => exact kit_ty (show L2.kitB "list" "tuple" = some false by decide +kernel)
  | tup _ _ => exact kit_ty (show L2.kitB "tuple" "tuple" = some true by decide +kernel)
theorem isD_bool (h : Dp K H v d) (q : Q (.bl (isBool d)) H) : rIsi K [v, .ty "bool"] H Q := by
  refine ⟨v, .ty "bool", _, .type "bool", isBool d, rfl, .ty _, dpTy h, ?_, q⟩
  cases h with
  | non => exact kit_ty (show L2.kitB "NoneType" "bool" = some false by decide +kernel)
  | bl _ => exact kit_ty (show L2.kitB "bool" "bool" = some true by decide +kernel)
  | int _ => exact kit_ty (show L2.kitB "int" "bool" = some false by decide +kernel)
  | str _ => exact kit_ty (show L2.kitB "str" "bool" = some false by decide +kernel)
  | lst _ _ => exact kit_ty (show L2.kitB "list" "bool" = some false by decide +kernel)
  | tup _ _ => exact kit_ty (show L2.kitB "tuple" "bool" = some false by decide +kernel)
theorem isD_int (h : Dp K H v d) (q : Q (.bl (isInt d)) H) : rIsi K [v, .ty "int"] H Q := by
  refine ⟨v, .ty "int", _, .type "int", isInt d, rfl, .ty _, dpTy h, ?_, q⟩
  cases h with
  | non => exact kit_ty (show L2.kitB "NoneType" "int" = some false by decide +kernel)
  | bl _ => exact kit_ty (show L2.kitB "bool" "int" = some true by decide +kernel)
  | int _ => exact kit_ty (show L2.kitB "int" "int" = some true by decide +kernel)
  | str _ => exact kit_ty (show L2.kitB "str" "int" = some false by decide +kernel)
  | lst _ _ => exact kit_ty (show L2.kitB "list" "int" = some false by decide +kernel)
  | tup _ _ => exact kit_ty (show L2.kitB "tuple" "int" = some false by decide +kernel)
end
/-! ### things that are no plan of a book, as they are drawn -/
def IsBad (K : PySem.W.Frag) (many : Nat) (H : Hp) (v : V) : Prop := ∃ d, Dp K H v d ∧ planB (many : Int) d = false
theorem IsBad.keep {K : PySem.W.Frag} {many : Nat} {H H1 : Hp} {v : V} (h : IsBad K many H v) (e : Ext [] H H1) : IsBad K many H1 v := let ⟨d, h1, h2⟩ := h; ⟨d, e.dp h1, h2⟩
structure BadsAt (K : PySem.W.Frag) (many c : Nat) (H : Hp) (L : Addr) : Prop where
  ex : ∃ us, H L = some (.lst us) ∧ us.length = c ∧ ∀ u ∈ us, IsBad K many H u
theorem BadsAt.pick {K : PySem.W.Frag} {many c : Nat} {H : Hp} {L : Addr} {v : Int} (r : BadsAt K many c H L) (h0 : 0 ≤ v) (h1 : v < (c : Int)) : ∃ us u, H L = some (.lst us) ∧ atI us v = some u ∧ IsBad K many H u := by
  obtain ⟨us, k1, k3, k4⟩ := r.ex
  obtain ⟨j, rfl⟩ : ∃ j : Nat, v = (j : Int) := ⟨v.toNat, by omega⟩
  have hj : j < us.length := by omega
  exact ⟨us, us[j], k1, atI_nat (List.getElem?_eq_getElem hj), k4 _ (List.getElem_mem hj)⟩
theorem rep_anyI {K : PySem.W.Frag} {H : Hp} {t : Addr} {x : V} {n : Nat} {z : Int} {Q : VK} (hz : z = (n : Int)) (h : SqT K H t [x]) (n7 : n ≤ 1000) (q : ∀ c H', Ext [] H H' → SqT K H' c (List.replicate n x) → Q (.ref c) H') : rRepTA K (.ref t) (.int z) H Q := by
  subst hz
  exact rep_any h n7 q
theorem dp_rep {K : PySem.W.Frag} {H : Hp} {v : V} {d : PyData} (h : Dp K H v d) : ∀ n : Nat, DpAll K H (List.replicate n v) (List.replicate n d)
  | 0 => .nil
  | n + 1 => .cons h (dp_rep h n)
theorem dp_app {K : PySem.W.Frag} {H : Hp} : ∀ {vs ws : List V} {ds es : List PyData}, DpAll K H vs ds → DpAll K H ws es → DpAll K H (vs ++ ws) (ds ++ es)
  | _, _, _, _, .nil, h => h
  | _, _, _, _, .cons a b, h => .cons a (dp_app b h)
theorem plan_odd {many : Nat} {ds : List PyData} {d : PyData} (h : d ∈ ds) (o : (noneD d || numD 0 11 d) = false) : planB (many : Int) (.tuple ds) = false := by
  have z : itemsB (fun x => noneD x || numD 0 11 x) (.tuple ds) = false := by
    show ds.all _ = false
    rw [List.all_eq_false]
    exact ⟨d, h, by rw [o]; decide⟩
  unfold planB
  rw [z, Bool.and_false]
theorem plan_len {many : Nat} {ds : List PyData} (h : ds.length ≠ many) : planB (many : Int) (.tuple ds) = false := by
  have z : rowDD (many : Int) (many : Int) (.tuple ds) = false := by
    show (decide ((many : Int) ≤ (ds.length : Int)) && decide ((ds.length : Int) ≤ (many : Int))) = false
    rw [← Bool.decide_and]
    exact decide_eq_false (by omega)
  unfold planB
  rw [z, Bool.false_and]
/-- a book is one -/
theorem dp_ints {K : PySem.W.Frag} {H : Hp} : ∀ ns : List Int, DpAll K H (ns.map V.int) (ns.map PyData.int)
  | [] => .nil
  | n :: ns => .cons (.int n) (dp_ints ns)
theorem all_map {α : Type} {f : PyData → Bool} {g : α → PyData} {xs : List α} (h : ∀ x ∈ xs, f (g x) = true) : itemsB f (.tuple (xs.map g)) = true := by
  show (xs.map g).all f = true
  rw [List.all_eq_true]
  intro y hy
  obtain ⟨x, hx, rfl⟩ := List.mem_map.mp hy
  exact h x hx
theorem num_ok {lo hi v : Int} (h1 : lo ≤ v) (h2 : v ≤ hi) : numD lo hi (.int v) = true := by
  show (decide (lo ≤ v) && decide (v ≤ hi)) = true
  rw [decide_eq_true h1, decide_eq_true h2]
  rfl
theorem row_ok {lo hi : Int} {ds : List PyData} (h1 : lo ≤ (ds.length : Int)) (h2 : (ds.length : Int) ≤ hi) : rowDD lo hi (.tuple ds) = true := by
  show (decide (lo ≤ (ds.length : Int)) && decide ((ds.length : Int) ≤ hi)) = true
  rw [decide_eq_true h1, decide_eq_true h2]
  rfl
theorem book_ok {k : Book} (ok : k.Ok) : bookB (bookD k) = true ∧ bargesOf (bookD k) = (k.bs.length : Int) := by
  have n1 := ok.rv.n1
  have n8 := ok.rv.n8
  have n7 := ok.n7
  refine ⟨?_, ?_⟩
  · show ((rowDD 1 8 (.tuple (k.rv.map stretchD)) && itemsB stretchB (.tuple (k.rv.map stretchD))) && (rowDD 0 7 (.tuple (k.bs.map bargeD)) && itemsB (bargeB (lenD (.tuple (k.rv.map stretchD)))) (.tuple (k.bs.map bargeD)))) = true
    rw [row_ok (by rw [List.length_map]; omega) (by rw [List.length_map]; omega), row_ok (by omega) (by rw [List.length_map]; omega), all_map fun s hs => ?_, all_map fun b hb => ?_]
    · rfl
    · have o := ok.ok b hb
      have := o.b0
      have := o.bg
      have := o.gn
      have e : lenD (.tuple (k.rv.map stretchD)) = (k.rv.length : Int) := congrArg Int.ofNat (List.length_map ..)
      rw [e]
      show (numD 0 (k.rv.length : Int) (.int b.b) && numD 0 (k.rv.length : Int) (.int b.g) && decide (b.b < b.g) && (numD 1 99 (.int b.d) && (numD 0 99 (.int b.r) && numD 0 199 (.int b.u)))) = true
      rw [num_ok o.b0 (by omega), num_ok (by omega) o.gn, decide_eq_true o.bg, num_ok o.d1 o.d99, num_ok o.r0 o.r99, num_ok o.u0 o.u199]
      rfl
    · have o := ok.rv.ok s hs
      have d1 := o.d1
      have d24 := o.d24
      show (numD 1 9 (.int s.hours) && numD 1 9 (.int s.room) && (rowDD 1 24 (.tuple (s.ds.map PyData.int)) && itemsB (numD 0 99) (.tuple (s.ds.map PyData.int)))) = true
      rw [num_ok o.h1 o.h9, num_ok o.r1 o.r9, row_ok (by rw [List.length_map]; omega) (by rw [List.length_map]; omega), all_map fun d hd => num_ok (o.ds d hd).1 (o.ds d hd).2]
      rfl
  · exact congrArg Int.ofNat (List.length_map ..)
/-! data where some addresses that hold none of them change -/
theorem Ext.sqLN {K : PySem.W.Frag} {ex : List Addr} {H H1 : Hp} {a : Addr} {xs : List V} (e : Ext ex H H1) (n : ∀ b ∈ ex, ∀ ys, H b ≠ some (.lst ys)) (h : SqL K H a xs) : SqL K H1 a xs := by
  rcases h with (h | ⟨o, h⟩) | h
  · exact .inl (.inl (e.lst a xs (fun z => n a z xs h) h))
  · exact .inl (.inr ⟨o, e.frz a o _ h⟩)
  · exact .inr h
mutual
theorem Ext.dpN {K : PySem.W.Frag} {ex : List Addr} {H H1 : Hp} (e : Ext ex H H1) (n : ∀ b ∈ ex, ∀ ys, H b ≠ some (.lst ys)) : ∀ {v : V} {d : PyData}, Dp K H v d → Dp K H1 v d
  | _, _, .non => .non
  | _, _, .bl b => .bl b
  | _, _, .int i => .int i
  | _, _, .str x => .str x
  | _, _, .lst h1 h2 => .lst (e.sqLN n h1) (Ext.dpAllN e n h2)
  | _, _, .tup h1 h2 => .tup (e.sqT h1) (Ext.dpAllN e n h2)
theorem Ext.dpAllN {K : PySem.W.Frag} {ex : List Addr} {H H1 : Hp} (e : Ext ex H H1) (n : ∀ b ∈ ex, ∀ ys, H b ≠ some (.lst ys)) : ∀ {vs : List V} {ds : List PyData}, DpAll K H vs ds → DpAll K H1 vs ds
  | _, _, .nil => .nil
  | _, _, .cons a b => .cons (Ext.dpN e n a) (Ext.dpAllN e n b)
end
end GD
namespace GD
open PySem PySem.Spec PyProof.Rows L2 GxR GX GS GT GC
/-! ### books that are none, as they are drawn -/
theorem tdCutB {K : PySem.W.Frag} {H : Hp} : ∀ {xs : List V} {ds : List PyData}, TdAll K H xs ds → ∀ n, TdAll K H (xs.take n) (ds.take n) ∧ TdAll K H (xs.drop n) (ds.drop n)
  | _, _, .nil, n => by
    simp only [List.take_nil, List.drop_nil]
    exact And.intro .nil .nil
  | _, _, .cons a t, 0 => ⟨.nil, .cons a t⟩
  | _, _, .cons a t, n + 1 => by
    obtain ⟨h1, h2⟩ := tdCutB t n
    exact ⟨.cons a h1, h2⟩
theorem items_bad {f : PyData → Bool} {ds : List PyData} {d : PyData} (h : d ∈ ds) (hf : f d = false) : itemsB f (.tuple ds) = false := by
  show ds.all f = false
  rw [List.all_eq_false]
  exact ⟨d, h, by rw [hf]; decide⟩
theorem book_stretch {ds : List PyData} {d e : PyData} (h : d ∈ ds) (hd : stretchB d = false) : bookB (.tuple [.tuple ds, e]) = false := by
  show ((rowDD 1 8 (.tuple ds) && itemsB stretchB (.tuple ds)) && _) = false
  rw [items_bad h hd, Bool.and_false, Bool.false_and]
theorem book_barge {rs ds : List PyData} {d : PyData} (h : d ∈ ds) (hd : bargeB (rs.length : Int) d = false) : bookB (.tuple [.tuple rs, .tuple ds]) = false := by
  show (_ && (rowDD 0 7 (.tuple ds) && itemsB (bargeB (lenD (.tuple rs))) (.tuple ds))) = false
  rw [show itemsB (bargeB (lenD (.tuple rs))) (.tuple ds) = false from items_bad h hd, Bool.and_false, Bool.and_false]
theorem book_row1 {r b : PyData} (h : rowDD 1 8 r = false) : bookB (.tuple [r, b]) = false := by
  show ((rowDD 1 8 r && itemsB stretchB r) && (rowDD 0 7 b && itemsB (bargeB (lenD r)) b)) = false
  rw [h]; rfl
theorem book_row2 {r b : PyData} (h : rowDD 0 7 b = false) : bookB (.tuple [r, b]) = false := by
  show ((rowDD 1 8 r && itemsB stretchB r) && (rowDD 0 7 b && itemsB (bargeB (lenD r)) b)) = false
  rw [h, Bool.false_and, Bool.and_false]
theorem books_bad (k : Book) (y : PyData) : (([PyData.tuple [.tuple [], .tuple []], .tuple [.tuple (List.replicate 9 y), .tuple []], .tuple [.tuple (k.rv.map stretchD), .tuple (List.replicate 8 (.tuple [.int 0, .int 1, .int 1, .int 5, .int 99]))], .tuple [.tuple (k.rv.map stretchD), .list (k.bs.map bargeD)], .tuple [.list (k.rv.map stretchD), .tuple (k.bs.map bargeD)], .none] ++
    [PyData.tuple [.tuple (k.rv.map stretchD)], .list [.tuple (k.rv.map stretchD), .tuple (k.bs.map bargeD)], .tuple [.tuple (k.rv.map stretchD), .tuple (k.bs.map bargeD), .tuple []]]).all fun d => !bookB d) = true := by
  have h3 : bookB (.tuple [.tuple (k.rv.map stretchD), .tuple (List.replicate 8 (.tuple [.int 0, .int 1, .int 1, .int 5, .int 99]))]) = false := book_row2 (by decide +kernel)
  have h2 : bookB (.tuple [.tuple (List.replicate 9 y), .tuple []]) = false := book_row1 rfl
  have h4 : bookB (.tuple [.tuple (k.rv.map stretchD), .list (k.bs.map bargeD)]) = false := book_row2 rfl
  rw [List.all_eq_true]
  intro d hd
  simp only [List.cons_append, List.nil_append, List.mem_cons, List.not_mem_nil, or_false] at hd
  rcases hd with rfl | rfl | rfl | rfl | rfl | rfl | rfl | rfl | rfl
  · rfl
  · rw [h2]; rfl
  · rw [h3]; rfl
  · rw [h4]; rfl
  · rfl
  · rfl
  · rfl
  · rfl
  · rfl
end GD
/-! ### written things as data -/
namespace GL
open PySem PySem.Spec PyProof.Rows L2 GxR GX GD
def tD (K : PySem.W.Frag) (d : PyData) : TE := fun _ H Q => ∀ (v : V) (H' : Hp), Ext [] H H' → Dp K H' v d → Q v H'
def tDs (K : PySem.W.Frag) (ds : List PyData) : TA := fun _ H R => ∀ (vs : List V) (H' : Hp), Ext [] H H' → DpAll K H' vs ds → R vs H'
theorem pe_imp {X : Cx} {e : Expr} {t t' : TE} (h : PE X e t) (i : ∀ σ H Q, t' σ H Q → t σ H Q) : PE X e t' := ⟨fun pins s σ H Q I q => h.run pins s σ H Q I (i σ H Q q)⟩
theorem pa_imp {X : Cx} {es : List Expr} {t t' : TA} (h : PA X es t) (i : ∀ σ H Q, t' σ H Q → t σ H Q) : PA X es t' := ⟨fun pos pins s σ H Q I q => h.run pos pins s σ H Q I (i σ H Q q)⟩
section
variable {X : Cx} {pos : Pos}
theorem pl_int {i j} : PE X (.Constant (.int i) j pos) (tD X.K (.int i)) := pe_imp pe_int fun σ H Q h => h _ H Ext.refl (.int i)
theorem pl_bl {b j} : PE X (.Constant (.bool b) j pos) (tD X.K (.bool b)) := pe_imp pe_bl fun σ H Q h => h _ H Ext.refl (.bl b)
theorem pl_non {j} : PE X (.Constant .none j pos) (tD X.K .none) := pe_imp pe_non fun σ H Q h => h _ H Ext.refl .non
theorem pl_str {x j} : PE X (.Constant (.str x) j pos) (tD X.K (.str x)) := pe_imp pe_str fun σ H Q h => h _ H Ext.refl (.str x)
theorem pl_neg {i j p2} : PE X (.UnaryOp .USub (.Constant (.int i) j p2) pos) (tD X.K (.int (-i))) := pe_imp (pe_un un_neg pe_int) fun σ H Q h => ⟨i, rfl, h _ H Ext.refl (.int _)⟩
theorem pl_nil : PA X [] (tDs X.K []) := pa_imp pa_nil fun σ H Q h => h [] H Ext.refl .nil
theorem pl_cons {e : Expr} {es : List Expr} {d : PyData} {ds : List PyData} (h1 : PE X e (tD X.K d)) (h2 : PA X es (tDs X.K ds)) (hs : starEach (e :: es) X.env = (false, eval e X.env) :: starEach es X.env := by rfl) : PA X (e :: es) (tDs X.K (d :: ds)) :=
  pa_imp (pa_cons h1 h2 hs) fun σ H R h => fun v H1 e1 dp1 vs H2 e2 dp2 => h (v :: vs) H2 (e1.trans e2) (.cons (e2.dp dp1) dp2)
theorem pl_tup {x1} {es : List Expr} {ds : List PyData} (h : PA X es (tDs X.K ds)) (hl : ds.length ≤ 1000) : PE X (.Tuple es x1 pos) (tD X.K (.tuple ds)) :=
  pe_imp (pe_tup h) fun σ H Q q => fun xs H1 e dp => ⟨by rw [dpLen dp]; exact Nat.le_of_lt (small1000 hl), fun p hp => q (.ref p) _ (e.trans (Ext.new hp)) (.tup sqT_new ((Ext.new hp).dpAll dp))⟩
theorem pl_lst {es : List Expr} {ds : List PyData} (h : PA X es (tDs X.K ds)) (hl : ds.length ≤ 1000) : PE X (.List es pos) (tD X.K (.list ds)) :=
  pe_imp (pe_lst h) fun σ H Q q => fun xs H1 e dp => ⟨by rw [dpLen dp]; exact Nat.le_of_lt (small1000 hl), fun p hp => q (.ref p) _ (e.trans (Ext.new hp)) (.lst (.inl (.inl upd_same)) ((Ext.new hp).dpAll dp))⟩
theorem pl_rep {x1 p2 p3 j} {e : Expr} {d : PyData} {n : Nat} (h : PE X (.Tuple [e] x1 p2) (tTup (tCons (tD X.K d) tNil))) (hn : n ≤ 1000) : PE X (.BinOp (.Tuple [e] x1 p2) .Mult (.Constant (.int (n : Int)) j p3) pos) (tD X.K (.tuple (List.replicate n d))) :=
  pe_imp (pe_op GT.op_repTA h pe_int) fun σ H Q q => fun v H1 e1 dp => ⟨by show 1 ≤ sizeLine; decide, fun p hp => rep_any sqT_new hn fun c H2 e2 s2 => q (.ref c) H2 (e1.trans ((Ext.new hp).trans e2)) (.tup s2 (dp_rep (e2.dp ((Ext.new hp).dp dp)) n))⟩
end
/-- an item of a list of bad things -/
theorem pick_bad {K : PySem.W.Frag} {H : Hp} {vs : List V} {ds : List PyData} {f : PyData → Bool} {z : Int} {n : Nat} (dp : DpAll K H vs ds) (hn : ds.length = n) (h0 : 0 ≤ z) (h1 : z < (n : Int)) (hf : (ds.all fun d => !f d) = true) : ∃ u d, atI vs z = some u ∧ Dp K H u d ∧ f d = false := by
  obtain ⟨j, rfl⟩ : ∃ j : Nat, z = (j : Int) := ⟨z.toNat, by omega⟩
  have l := dpLen dp
  have hj : j < vs.length := by omega
  obtain ⟨d, hd, p⟩ := dpGet dp (List.getElem?_eq_getElem hj)
  refine ⟨vs[j], d, atI_nat (List.getElem?_eq_getElem hj), p, ?_⟩
  have := List.all_eq_true.mp hf d (List.mem_of_getElem? hd)
  simpa using this
end GL

namespace GD
open PySem PySem.Spec PyProof.Rows L2 GxR GX GS GT GC TL
def rJoin (K : PySem.W.Frag) : V → List V → Hp → VK → Prop := fun x xs H Q => ∃ a p, ∃ ys : List Str, x = .str a ∧ xs = [.ref p] ∧ (SqL K H p (ys.map V.str) ∨ SqT K H p (ys.map V.str)) ∧ (ys.map (·.length)).sum + ys.length * a.length ≤ 16777216 ∧ Q (.str (Txt.join a ys)) H
theorem pe_joinK {X : Cx} {o e : Expr} {to te : TE} {apos pos : Pos} (K : PySem.W.Frag) (h : X.K = K) (ho : PE X o to) (he : PE X e te) (hs : starEach [e] X.env = [(false, eval e X.env)] := by rfl) (hbase : attributeBase o "join" X.env (eval o X.env) = eval o X.env := by rfl) (hline : (apos.endLine == pos.line) = true := by rfl) :
    PE X (.Call (.Attribute o "join" apos) [e] [] pos) (tM1 (rJoin K) to te) := by
  subst h
  exact pe_join ho he hs hbase hline
/-! ### texts that are none -/
/-- a word is a number, written in the shortest way -/
def numWB (w : Str) : Bool := (decide (1 ≤ (tl w).length) && decide ((tl w).length ≤ 3)) && ((tl w).all (fun c => decide (48 ≤ c) && decide (c ≤ 57)) && (decide ((tl w).head? ≠ some 48) || decide (tl w = [48])))
def NumW (w : Str) (n : Int) : Prop := (0 ≤ n ∧ n ≤ 999) ∧ w = cellS (some n)
theorem numW_of {w : Str} (h : numWB w = true) : ∃ n, NumW w n := by
  unfold numWB at h
  rw [Bool.and_eq_true, Bool.and_eq_true, Bool.and_eq_true, decide_eq_true_eq, decide_eq_true_eq] at h
  obtain ⟨⟨h1, h3⟩, ha, hl⟩ := h
  rw [List.all_eq_true] at ha
  rw [Bool.or_eq_true, decide_eq_true_eq, decide_eq_true_eq] at hl
  have dig : ∀ c ∈ tl w, 48 ≤ c ∧ c ≤ 57 := fun c hc => by
    have z := ha c hc
    rw [Bool.and_eq_true, decide_eq_true_eq, decide_eq_true_eq] at z
    exact z
  have key : ∃ m : Nat, m ≤ 999 ∧ numL m = tl w := by
    match e : tl w, h1, h3 with
    | [a], _, _ =>
      have da := dig a (by rw [e]; simp)
      exact ⟨a - 48, by omega, by rw [numL_lt (by omega)]; congr 1; omega⟩
    | [a, b], _, _ =>
      have da := dig a (by rw [e]; simp)
      have db := dig b (by rw [e]; simp)
      have na : a ≠ 48 := fun z => by
        rcases hl with hl | hl
        · rw [e, z] at hl; exact hl rfl
        · rw [e] at hl; cases hl
      refine ⟨(a - 48) * 10 + (b - 48), by omega, ?_⟩
      rw [numL_step (by omega), show ((a - 48) * 10 + (b - 48)) / 10 = a - 48 by omega, numL_lt (by omega), show ((a - 48) * 10 + (b - 48)) % 10 = b - 48 by omega]
      show [48 + (a - 48), 48 + (b - 48)] = _
      rw [show 48 + (a - 48) = a by omega, show 48 + (b - 48) = b by omega]
    | [a, b, c], _, _ =>
      have da := dig a (by rw [e]; simp)
      have db := dig b (by rw [e]; simp)
      have dc := dig c (by rw [e]; simp)
      have na : a ≠ 48 := fun z => by
        rcases hl with hl | hl
        · rw [e, z] at hl; exact hl rfl
        · rw [e] at hl; cases hl
      refine ⟨((a - 48) * 10 + (b - 48)) * 10 + (c - 48), by omega, ?_⟩
      rw [numL_step (by omega), show (((a - 48) * 10 + (b - 48)) * 10 + (c - 48)) / 10 = (a - 48) * 10 + (b - 48) by omega, numL_step (by omega), show ((a - 48) * 10 + (b - 48)) / 10 = a - 48 by omega, numL_lt (by omega), show ((a - 48) * 10 + (b - 48)) % 10 = b - 48 by omega, show (((a - 48) * 10 + (b - 48)) * 10 + (c - 48)) % 10 = c - 48 by omega]
      show [48 + (a - 48), 48 + (b - 48), 48 + (c - 48)] = _
      rw [show 48 + (a - 48) = a by omega, show 48 + (b - 48) = b by omega, show 48 + (c - 48) = c by omega]
    | [], h1, _ => exact absurd h1 (by simp)
    | _ :: _ :: _ :: _ :: _, _, h3 => exact absurd h3 (by simp)
  obtain ⟨m, hm, e⟩ := key
  exact ⟨(m : Int), ⟨by omega, by omega⟩, ext_tl (by rw [cell_num, e])⟩
/-- the words are the numbers ns -/
def NumsW (ws : List Str) (ns : List Int) : Prop := ws = ns.map (fun n => cellS (some n)) ∧ ∀ n ∈ ns, 0 ≤ n ∧ n ≤ 999
theorem numsW_snoc {ws : List Str} {ns : List Int} {w : Str} {n : Int} (h : NumsW ws ns) (hn : NumW w n) : NumsW (ws ++ [w]) (ns ++ [n]) := by
  refine ⟨by rw [h.1, hn.2, List.map_append]; rfl, fun x hx => ?_⟩
  rcases List.mem_append.mp hx with hx | hx
  · exact h.2 x hx
  · rw [List.mem_singleton.mp hx]; exact hn.1
theorem numsW_len {ws : List Str} {ns : List Int} (h : NumsW ws ns) : ws.length = ns.length := by rw [h.1, List.length_map]
/-- a row of words: its name, and whether the words are those of such a row -/
abbrev RowW := Str × List Str
def hourWB (w : Str) : Bool := decide (w = "-") || numWB w
def rowWB (r : RowW) : Bool := if r.1 = "stretch" then decide (3 ≤ r.2.length) && r.2.all numWB else if r.1 = "barge" then decide (r.2.length = 5) && r.2.all numWB else r.1 == "plan" && r.2.all hourWB
def strNs : List Int → PyData
  | h :: r :: ds => .tuple [.int h, .int r, .tuple (ds.map .int)]
  | _ => .none
/-- what a word tells -/
def numV (w : Str) : Int := (PySem.intText? w).getD 0
theorem numV_of {w : Str} {n : Int} (h : NumW w n) : numV w = n := by
  obtain ⟨⟨h0, h9⟩, e⟩ := h
  obtain ⟨m, rfl⟩ : ∃ m : Nat, n = (m : Int) := ⟨n.toNat, by omega⟩
  have l3 : (cellS (some (m : Int))).length ≤ 3 := cellS_len (fun k e => by cases e; exact ⟨h0, h9⟩)
  have z : PySem.intText? (cellS (some (m : Int))) = some (m : Int) := int_num (by rw [← cell_num, ← len_tl]; omega)
  unfold numV
  rw [e, z]
  rfl
theorem numsV_of {ns : List Int} : ∀ {ws : List Str}, NumsW ws ns → ns = ws.map numV := fun {ws} h => by
  rw [h.1, List.map_map]
  have : ns.map (numV ∘ fun n => cellS (some n)) = ns.map id := List.map_congr_left fun n hn => numV_of ⟨h.2 n hn, rfl⟩
  rw [this, List.map_id]
def hourV (w : Str) : PyData := if w = "-" then .none else .int (numV w)
def namesW (Rs : List RowW) : List Str := Rs.map (·.1)
def patB (ns : List Str) : Bool := decide (ns = List.replicate (ns.count ("stretch" : Str)) ("stretch" : Str) ++ List.replicate (ns.count ("barge" : Str)) ("barge" : Str) ++ (("plan" : Str) :: []))
/-- a text is one -/
def textB (Rs : List RowW) : Bool := patB (namesW Rs) && Rs.all rowWB
def strW (r : RowW) : PyData := strNs (r.2.map numV)
def barW (r : RowW) : PyData := .tuple ((r.2.map numV).map .int)
def bookW (Rs : List RowW) : PyData := .tuple [.tuple ((Rs.take ((namesW Rs).count ("stretch" : Str))).map strW), .tuple (((Rs.drop ((namesW Rs).count ("stretch" : Str))).take ((namesW Rs).count ("barge" : Str))).map barW)]
def planW (Rs : List RowW) : PyData := .tuple (((Rs.getD (Rs.length - 1) ("", [])).2).map hourV)
/-- lines and their rows -/
structure LinesW (Ls : List Str) (Rs : List RowW) : Prop where
  ne : Ls ≠ []
  n20 : Ls.length ≤ 24
  line : ∀ l ∈ Ls, (10 : Nat) ∉ tl l ∧ l.length ≤ 400
  rows : Ls.map (fun l => Txt.split l " ") = Rs.map fun r => r.1 :: r.2
  row : ∀ r ∈ Rs, r.2.length ≤ 30 ∧ (∀ w ∈ r.2, w.length ≤ 600) ∧ PyData.strOk r.1 = true
theorem LinesW.len {Ls : List Str} {Rs : List RowW} (h : LinesW Ls Rs) : Rs.length = Ls.length := by
  have z := congrArg List.length h.rows
  rw [List.length_map, List.length_map] at z
  exact z.symm
theorem LinesW.get {Ls : List Str} {Rs : List RowW} (h : LinesW Ls Rs) {i : Nat} {l : Str} (e : Ls[i]? = some l) : ∃ r, Rs[i]? = some r ∧ Txt.split l " " = r.1 :: r.2 := by
  have z := congrArg (fun x : List (List Str) => x[i]?) h.rows
  simp only [List.getElem?_map, e, Option.map_some] at z
  cases q : Rs[i]? with
  | none => rw [q] at z; cases z
  | some r =>
    rw [q] at z
    exact ⟨r, rfl, Option.some.inj z⟩
theorem LinesW.split {Ls : List Str} {Rs : List RowW} (h : LinesW Ls Rs) : Txt.split (Txt.join "\n" Ls) "\n" = Ls := split_join (s := 10) (S := []) (by decide +kernel) (by decide +kernel) h.ne fun p hp => (h.line p hp).1
theorem LinesW.text {Ls : List Str} {Rs : List RowW} (h : LinesW Ls Rs) : (Txt.join "\n" Ls).length + 2 ≤ sizeLine := by
  have h1 := join_len "\n" Ls
  have h3 := h.n20
  have h4 := sum_le (f := fun x : Str => x.length) (c := 400) (xs := Ls) fun x hx => (h.line x hx).2
  have h5 : ("\n" : Str).length = 1 := by decide +kernel
  rw [h5] at h1
  have h6 := sizeLine_eq
  omega
/-- the names in their order -/
structure PatW (Rs : List RowW) (a b : Nat) : Prop where
  all : namesW Rs = List.replicate a ("stretch" : Str) ++ List.replicate b ("barge" : Str) ++ (("plan" : Str) :: [])
theorem PatW.len {Rs : List RowW} {a b : Nat} (h : PatW Rs a b) : Rs.length = a + b + 1 := by
  have z := congrArg List.length h.all
  unfold namesW at z
  simp at z
  omega
theorem PatW.fst {Rs : List RowW} {a b : Nat} (h : PatW Rs a b) {i : Nat} {r : RowW} (e : Rs[i]? = some r) : (i < a → r.1 = "stretch") ∧ (a ≤ i → i < a + b → r.1 = "barge") ∧ (i = a + b → r.1 = "plan") := by
  have z := congrArg (fun x : List Str => x[i]?) h.all
  unfold namesW at z
  simp only [List.getElem?_map, e, Option.map_some] at z
  refine ⟨fun hi => ?_, fun h1 h2 => ?_, fun hi => ?_⟩
  · rw [List.append_assoc, List.getElem?_append_left (by rw [List.length_replicate]; exact hi), List.getElem?_replicate, if_pos hi] at z
    exact Option.some.inj z
  · rw [List.append_assoc, List.getElem?_append_right (by rw [List.length_replicate]; exact h1), List.length_replicate, List.getElem?_append_left (by rw [List.length_replicate]; omega), List.getElem?_replicate, if_pos (by omega)] at z
    exact Option.some.inj z
  · rw [List.getElem?_append_right (by simp; omega)] at z
    subst hi
    simp at z
    exact z
theorem patW_of {Rs : List RowW} (h : patB (namesW Rs) = true) : PatW Rs ((namesW Rs).count ("stretch" : Str)) ((namesW Rs).count ("barge" : Str)) := ⟨of_decide_eq_true h⟩
theorem text_row {Rs : List RowW} {r : RowW} (hr : r ∈ Rs) (h : rowWB r = false) : textB Rs = false := by
  have z : Rs.all rowWB = false := by
    rw [List.all_eq_false]
    exact ⟨r, hr, by rw [h]; decide⟩
  unfold textB
  rw [z, Bool.and_false]
theorem row_stretch {r : RowW} (e : r.1 = "stretch") (h : r.2.length < 3 ∨ r.2.all numWB = false) : rowWB r = false := by
  unfold rowWB
  rw [if_pos e]
  rcases h with h | h
  · rw [decide_eq_false (by omega), Bool.false_and]
  · rw [h, Bool.and_false]
theorem row_barge {r : RowW} (e : r.1 = "barge") (h : r.2.length ≠ 5 ∨ r.2.all numWB = false) : rowWB r = false := by
  unfold rowWB
  rw [if_neg (by rw [e]; decide +kernel), if_pos e]
  rcases h with h | h
  · rw [decide_eq_false h, Bool.false_and]
  · rw [h, Bool.and_false]
theorem row_plan {r : RowW} (e : r.1 = "plan") (h : r.2.all hourWB = false) : rowWB r = false := by
  unfold rowWB
  rw [if_neg (by rw [e]; decide +kernel), if_neg (by rw [e]; decide +kernel), h, Bool.and_false]
theorem numW_ok : ∀ n : Nat, n < 1000 → numWB (cellS (some (n : Int))) = true := by decide +kernel
theorem numW_true {w : Str} {n : Int} (h : NumW w n) : numWB w = true := by
  obtain ⟨⟨h0, h9⟩, e⟩ := h
  obtain ⟨m, rfl⟩ : ∃ m : Nat, n = (m : Int) := ⟨n.toNat, by omega⟩
  rw [e]
  exact numW_ok m (by omega)
theorem numsW_true {ws : List Str} {ns : List Int} (h : NumsW ws ns) : ws.all numWB = true := by
  rw [List.all_eq_true, h.1]
  intro w hw
  obtain ⟨n, hn, rfl⟩ := List.mem_map.mp hw
  exact numW_true ⟨h.2 n hn, rfl⟩
theorem rowOk_stretch {r : RowW} (e : r.1 = "stretch") (h3 : 3 ≤ r.2.length) (h : r.2.all numWB = true) : rowWB r = true := by
  unfold rowWB
  rw [if_pos e, decide_eq_true h3, h]
  rfl
theorem rowOk_barge {r : RowW} (e : r.1 = "barge") (h5 : r.2.length = 5) (h : r.2.all numWB = true) : rowWB r = true := by
  unfold rowWB
  rw [if_neg (by rw [e]; decide +kernel), if_pos e, decide_eq_true h5, h]
  rfl
theorem rowOk_plan {r : RowW} (e : r.1 = "plan") (h : r.2.all hourWB = true) : rowWB r = true := by
  unfold rowWB
  rw [if_neg (by rw [e]; decide +kernel), if_neg (by rw [e]; decide +kernel), h, e]
  rfl
/-- a list of one's own of the words of a row -/
def IsRowW (K : PySem.W.Frag) (H : Hp) (v : V) (r : RowW) : Prop := ∃ d, v = .ref d ∧ SqL K H d (strsV (r.1 :: r.2))
theorem Ext.rowW {H H1 : Hp} {K : PySem.W.Frag} {v : V} {r : RowW} (e : Ext [] H H1) (h : IsRowW K H v r) : IsRowW K H1 v r := let ⟨d, a, b⟩ := h; ⟨d, a, e.sqL (by simp) b⟩
theorem rowW_wr {H : Hp} {K : PySem.W.Frag} {D : Addr} {v : V} {r : RowW} {xs : List V} {o : HO} (hD : H D = some (.lst xs)) (hne : v ≠ .ref D) (h : IsRowW K H v r) : IsRowW K (upd H D o) v r := by
  obtain ⟨d, rfl, b⟩ := h
  have hd : d ≠ D := fun e => hne (by rw [e])
  refine ⟨d, rfl, ?_⟩
  rcases b with (b | ⟨u, b⟩) | b
  · exact .inl (.inl ((upd_ne hd).trans b))
  · exact .inl (.inr ⟨u, (upd_ne hd).trans b⟩)
  · exact .inr b
theorem count_strs (s : Str) : ∀ ys : List Str, (strsV ys).countP (fun z => eqV z (.str s)) = ys.count s
  | [] => rfl
  | y :: ys => by
    have ih := count_strs s ys
    have e : strsV (y :: ys) = V.str y :: strsV ys := rfl
    rw [e, List.countP_cons, List.count_cons, ih]
    rfl
theorem lay_strs {ys : List Str} (h : ∀ y ∈ ys, PyData.strOk y = true) : (PyData.list (strsD ys)).canLay0 = true ∧ (PyData.list (strsD ys)).depth ≤ 1 := by
  have key : PyData.canLayAll0 (strsD ys) = true ∧ PyData.depthAll (strsD ys) ≤ 0 := by
    induction ys with
    | nil => exact ⟨rfl, Nat.le_refl _⟩
    | cons y ys ih =>
      obtain ⟨h1, h2⟩ := ih fun z hz => h z (by simp [hz])
      constructor
      · show (PyData.strOk y && PyData.canLayAll0 (strsD ys)) = true
        rw [h y (by simp), h1]
        rfl
      · show max 0 (PyData.depthAll (strsD ys)) ≤ 0
        omega
  exact ⟨key.1, Nat.succ_le_succ key.2⟩
theorem eqv_strs : ∀ {xs ys : List Str}, PyData.eqv (.list (strsD xs)) (.list (strsD ys)) = decide (xs = ys)
  | [], [] => rfl
  | [], _ :: _ => rfl
  | _ :: _, [] => rfl
  | x :: xs, y :: ys => by
    have ih := eqv_strs (xs := xs) (ys := ys)
    have e1 : PyData.eqv (.list (strsD (x :: xs))) (.list (strsD (y :: ys))) = (PyData.eqv (.str x) (.str y) && PyData.eqv (.list (strsD xs)) (.list (strsD ys))) := by
      simp [strsD, PyData.eqv, PyData.eqvAll]
    rw [e1, ih]
    have e2 : PyData.eqv (.str x) (.str y) = decide (x = y) := by
      show (x == y) = decide (x = y)
      rw [Bool.eq_iff_iff]
      simp
    rw [e2]
    by_cases h1 : x = y <;> by_cases h2 : xs = ys <;> simp [h1, h2]
/-! ### lines, and which rows they are -/
structure LineW (l : Str) (r : RowW) : Prop where
  line : (10 : Nat) ∉ tl l
  len : l.length ≤ 400
  split : Txt.split l " " = r.1 :: r.2
  n30 : r.2.length ≤ 30
  w600 : ∀ w ∈ r.2, w.length ≤ 600
  ok : PyData.strOk r.1 = true
theorem line_rows : ∀ {Ls : List Str} {Rs : List RowW}, Paired LineW Ls Rs → Ls.map (fun l => Txt.split l " ") = Rs.map fun r => r.1 :: r.2
  | _, _, .nil => rfl
  | _, _, .cons a t => by rw [List.map_cons, List.map_cons, LineW.split a, line_rows t]
theorem linesW_of {Ls : List Str} {Rs : List RowW} (p : Paired LineW Ls Rs) (ne : Ls ≠ []) (n20 : Ls.length ≤ 24) : LinesW Ls Rs := by
  refine ⟨ne, n20, fun l hl => ?_, ?_, fun r hr => ?_⟩
  · obtain ⟨i, hi⟩ := List.getElem?_of_mem hl
    obtain ⟨r, _, h⟩ := pget p hi
    exact ⟨h.line, h.len⟩
  · exact line_rows p
  · obtain ⟨i, hi⟩ := List.getElem?_of_mem hr
    obtain ⟨l, _, h⟩ := pgetR p hi
    exact ⟨h.n30, h.w600, h.ok⟩
def lineB (l : Str) (r : RowW) : Bool := (!(tl l).contains 10 && decide (l.length ≤ 400)) && ((decide (Txt.split l " " = r.1 :: r.2) && decide (r.2.length ≤ 30)) && (r.2.all (fun w => decide (w.length ≤ 600)) && PyData.strOk r.1))
theorem lineW_of {l : Str} {r : RowW} (h : lineB l r = true) : LineW l r := by
  unfold lineB at h
  rw [Bool.and_eq_true, Bool.and_eq_true, Bool.and_eq_true, Bool.and_eq_true, Bool.and_eq_true] at h
  obtain ⟨⟨h1, h2⟩, ⟨h3, h4⟩, h5, h6⟩ := h
  refine ⟨fun z => ?_, of_decide_eq_true h2, of_decide_eq_true h3, of_decide_eq_true h4, fun w hw => of_decide_eq_true (List.all_eq_true.mp h5 w hw), h6⟩
  rw [List.contains_iff_mem.mpr z] at h1
  cases h1
def rowOf (s : Str) : RowW := match Txt.split s " " with | [] => ("", []) | a :: ws => (a, ws)
/-- lists of lines that stand written -/
def rowsOf (Ls : List Str) : List RowW := Ls.map rowOf
def linesB (Ls : List Str) : Bool := Ls.all fun l => lineB l (rowOf l)
theorem paired_rows : ∀ {Ls : List Str}, linesB Ls = true → Paired LineW Ls (rowsOf Ls)
  | [], _ => .nil
  | l :: Ls, h => by
    have h : (lineB l (rowOf l) && linesB Ls) = true := h
    rw [Bool.and_eq_true] at h
    exact .cons (lineW_of h.1) (paired_rows h.2)
def rowsG (k : Book) (pl : List (Option Int)) : List RowW := (rowsC k pl).map fun r => (r.1, r.2.map cellS)
theorem paired_map2 {α β γ : Type} {F : α → β → Prop} {f : γ → α} {g : γ → β} : ∀ {xs : List γ}, (∀ x ∈ xs, F (f x) (g x)) → Paired F (xs.map f) (xs.map g)
  | [], _ => .nil
  | x :: xs, h => .cons (h x (by simp)) (paired_map2 fun y hy => h y (by simp [hy]))
theorem good_lines {k : Book} {pl : List (Option Int)} (ok : k.Ok) (okp : PlOk k.bs.length pl) : Paired LineW (linesN k pl) (rowsG k pl) := by
  rw [← rowsC_lines]
  refine paired_map2 fun r hr => ?_
  obtain ⟨h1, h2, h3⟩ := rowsC_ok ok okp r hr
  have hl : rowS r.1 r.2 ∈ linesN k pl := by rw [← rowsC_lines]; exact List.mem_map.mpr ⟨r, hr, rfl⟩
  refine ⟨row_line h1 h2, Nat.le_trans ((lines_small ok okp).1 _ hl) (by decide), split_row h1 h2, by show (r.2.map cellS).length ≤ 30; rw [List.length_map]; exact h3, fun w hw => ?_, ?_⟩
  · obtain ⟨o, ho, rfl⟩ := List.mem_map.mp hw
    exact Nat.le_trans (cellS_len (h2 o ho)) (by decide)
  · show PyData.strOk r.1 = true
    unfold rowsC at hr
    rcases List.mem_append.mp hr with hr | hr
    · rcases List.mem_append.mp hr with hr | hr
      · obtain ⟨s, _, rfl⟩ := List.mem_map.mp hr
        show PyData.strOk ("stretch" : Str) = true
        decide +kernel
      · obtain ⟨s, _, rfl⟩ := List.mem_map.mp hr
        show PyData.strOk ("barge" : Str) = true
        decide +kernel
    · rw [List.mem_singleton.mp hr]
      show PyData.strOk ("plan" : Str) = true
      decide +kernel
/-- the names of good rows -/
theorem good_names {k : Book} {pl : List (Option Int)} : ∀ (i : Nat) (r : RowW), (rowsG k pl)[i]? = some r → (i < k.rv.length → r.1 = "stretch") ∧ (i + 1 = (rowsG k pl).length → r.1 = "plan") ∧ (i + 1 < (rowsG k pl).length → r.1 = "stretch" ∨ r.1 = "barge") := by
  intro i r hr
  have pat : PatW (rowsG k pl) k.rv.length k.bs.length := ⟨by
    have z := names_rows k pl
    unfold namesN at z
    rw [← z]
    unfold namesW rowsG
    rw [List.map_map]
    rfl⟩
  have l := pat.len
  obtain ⟨h1, h2, h3⟩ := pat.fst hr
  refine ⟨h1, fun z => h3 (by omega), fun z => ?_⟩
  by_cases c : i < k.rv.length
  · exact .inl (h1 c)
  · exact .inr (h2 (by omega) (by omega))
/-- no text: by its names -/
theorem no_pat {Rs : List RowW} {i : Nat} {r : RowW} (hr : Rs[i]? = some r) (h : (i + 1 = Rs.length ∧ r.1 ≠ "plan") ∨ (i + 1 < Rs.length ∧ r.1 = "plan")) : textB Rs = false := by
  cases hp : patB (namesW Rs) with
  | false =>
    unfold textB
    rw [hp, Bool.false_and]
  | true =>
    have pat := patW_of hp
    have l := pat.len
    obtain ⟨h1, h2, h3⟩ := pat.fst hr
    rcases h with ⟨h4, h5⟩ | ⟨h4, h5⟩
    · exact absurd (h3 (by omega)) h5
    · by_cases c : i < (namesW Rs).count ("stretch" : Str)
      · rw [h1 c] at h5; exact absurd h5 (by decide +kernel)
      · rw [h2 (by omega) (by omega)] at h5; exact absurd h5 (by decide +kernel)
theorem no_pat2 {Rs : List RowW} {r r' : RowW} (h0 : Rs[0]? = some r) (h1 : Rs[1]? = some r') (e0 : r.1 = "barge") (e1 : r'.1 = "stretch") : textB Rs = false := by
  cases hp : patB (namesW Rs) with
  | false =>
    unfold textB
    rw [hp, Bool.false_and]
  | true =>
    have pat := patW_of hp
    have l := pat.len
    have l1 := (List.getElem?_eq_some_iff.mp h1).1
    obtain ⟨a1, _, _⟩ := pat.fst h0
    obtain ⟨_, b2, b3⟩ := pat.fst h1
    by_cases c : 0 < (namesW Rs).count ("stretch" : Str)
    · have z := a1 c
      rw [e0] at z
      exact absurd z (by decide +kernel)
    · by_cases d : 1 = (namesW Rs).count ("stretch" : Str) + (namesW Rs).count ("barge" : Str)
      · have z := b3 d
        rw [e1] at z
        exact absurd z (by decide +kernel)
      · have z := b2 (by omega) (by omega)
        rw [e1] at z
        exact absurd z (by decide +kernel)
theorem strsV_app (xs ys : List Str) : strsV xs ++ strsV ys = strsV (xs ++ ys) := by unfold strsV; rw [List.map_append]
theorem len_strs (xs : List Str) : (strsV xs).length = xs.length := by unfold strsV; rw [List.length_map]
theorem strsV_take (xs : List Str) (n : Nat) : (strsV xs).take n = strsV (xs.take n) := by unfold strsV; rw [List.map_take]
theorem strsV_drop (xs : List Str) (n : Nat) : (strsV xs).drop n = strsV (xs.drop n) := by unfold strsV; rw [List.map_drop]
theorem cut_but (xs : List V) (h : 1 ≤ xs.length) : cutV xs none (some (-1)) = xs.take (xs.length - 1) := by
  unfold cutV
  have e : HT.sIx xs.length xs.length (some (-1)) = xs.length - 1 := by
    unfold HT.sIx
    simp
    omega
  rw [HT.sIx_none, e, List.drop_zero, Nat.sub_zero]
theorem cut_last (xs : List V) (h : 1 ≤ xs.length) : cutV xs (some (-1)) none = xs.drop (xs.length - 1) := by
  unfold cutV
  have e : HT.sIx xs.length 0 (some (-1)) = xs.length - 1 := by
    unfold HT.sIx
    simp
    omega
  rw [HT.sIx_none, e]
  exact List.take_of_length_le (by rw [List.length_drop]; omega)
theorem al_lst {Hn Hm : Hp} {p : Addr} {X Y : List V} (hp : Hn p = none) (hq : upd Hn p (.lst X) = Hm) (e : X = Y) : Ext [] Hn Hm ∧ Hm p = some (.lst Y) := by
  subst e
  subst hq
  exact ⟨Ext.new hp, upd_same⟩
theorem al_tup {K : PySem.W.Frag} {Hn Hm : Hp} {p : Addr} {X : List V} (hp : Hn p = none) (hq : upd Hn p (.tup X) = Hm) : Ext [] Hn Hm ∧ SqT K Hm p X := by
  subst hq
  exact ⟨Ext.new hp, sqT_new⟩
theorem papp2 {α β : Type} {F : α → β → Prop} : ∀ {xs : List α} {ys : List β} {us : List α} {vs : List β}, Paired F xs ys → Paired F us vs → Paired F (xs ++ us) (ys ++ vs)
  | _, _, _, _, .nil, h => h
  | _, _, _, _, .cons a t, h => .cons a (papp2 t h)
theorem ptakeW {α β : Type} {F : α → β → Prop} : ∀ {xs : List α} {ys : List β}, Paired F xs ys → ∀ n, Paired F (xs.take n) (ys.take n) ∧ Paired F (xs.drop n) (ys.drop n)
  | _, _, .nil, n => by simp only [List.take_nil, List.drop_nil]; exact ⟨.nil, .nil⟩
  | _, _, .cons a t, 0 => ⟨.nil, .cons a t⟩
  | _, _, .cons a t, n + 1 => ⟨.cons a (ptakeW t n).1, (ptakeW t n).2⟩
/-- the rows that are none -/
def badRows : List Str := ("" : Str) :: ("stretch" : Str) :: ("stretch 1 1" : Str) :: ("stretch 1 1 05" : Str) :: ("stretch 1 1 1000" : Str) :: ("stretch 1 1 -1" : Str) :: ("stretch 1  1 5" : Str) :: ("stretch 1 1 5 " : Str) :: (" stretch 1 1 5" : Str) :: ("stretches 1 1 5" : Str) :: ("Stretch 1 1 5" : Str) :: ("stretch 1 1 x" : Str) :: ("1 1 5" : Str) :: ("barge" : Str) :: ("barge 0 1 5 5" : Str) :: ("barge 0 1 5 5 9 9" : Str) :: ("barge 0 1 5 5 x" : Str) :: ("barge 0 1 5 5 09" : Str) :: ("barges 0 1 5 5 9" : Str) :: ("barge  0 1 5 5 9" : Str) :: ("barge 0 1 5 5 9 " : Str) :: ("plan x" : Str) :: ("plan 05" : Str) :: ("plan 1 --" : Str) :: ("plan 5 " : Str) :: ("plan -1" : Str) :: ("plan 1000" : Str) :: ("plans 5" : Str) :: ("plan,5" : Str) :: ("barge 0 1 5 5 1000" : Str) :: ("barge 0 1 5 -5 9" : Str) :: ("plan  5" : Str) :: ("stretch 1 1 +5" : Str) :: ("plan -0" : Str) :: ("barge 0 1 5 5 1_0" : Str) :: ("plan 5\t" : Str) :: ("plan +5" : Str) :: []
theorem badRows_line : (badRows.all fun s => lineB s (rowOf s) && !rowWB (rowOf s)) = true := by decide +kernel
theorem badRows_bad : (badRows.all fun s => !(match Txt.split s " " with | [] => true | a :: ws => rowWB (a, ws))) = true := by decide +kernel
end GD

set_option pp.maxSteps 1500
set_option pp.deepTerms false
namespace TB
open PySem PySem.Spec PyProof.Rows L2 GxR GX GE GD GS GT GC TL

def top (i : Nat) : Stmt := PySem.Challenge.pw_towbarges_k18_texts_refused.main.body.getD i (.Pass ⟨0, 0, 0, 0⟩)
abbrev s_is_number : Stmt := top 9
theorem sc_is_number : FnScope ["value", "least", "most"] ["value", "least", "most"] (defScope s_is_number) := ⟨rfl, rfl, rfl, by decide +kernel, rfl, by decide +kernel, by decide +kernel⟩
abbrev s_is_row : Stmt := top 10
theorem sc_is_row : FnScope ["value", "least", "most"] ["value", "least", "most"] (defScope s_is_row) := ⟨rfl, rfl, rfl, by decide +kernel, rfl, by decide +kernel, by decide +kernel⟩
abbrev s_is_stretch : Stmt := top 11
theorem sc_is_stretch : FnScope ["value", "hours", "room", "depths", "depth"] ["value"] (defScope s_is_stretch) := ⟨rfl, rfl, rfl, by decide +kernel, rfl, by decide +kernel, by decide +kernel⟩
abbrev s_is_ready : Stmt := top 12
theorem sc_is_ready : FnScope ["value"] ["value"] (defScope s_is_ready) := ⟨rfl, rfl, rfl, by decide +kernel, rfl, by decide +kernel, by decide +kernel⟩
abbrev s_is_barge : Stmt := top 13
theorem sc_is_barge : FnScope ["value", "last", "begin", "goal", "draft", "ready", "due"] ["value", "last"] (defScope s_is_barge) := ⟨rfl, rfl, rfl, by decide +kernel, rfl, by decide +kernel, by decide +kernel⟩
abbrev s_check_book : Stmt := top 14
theorem sc_check_book : FnScope ["book", "stretches", "barges", "stretch", "last", "barge"] ["book"] (defScope s_check_book) := ⟨rfl, rfl, rfl, by decide +kernel, rfl, by decide +kernel, by decide +kernel⟩
abbrev s_check_plan : Stmt := top 15
theorem sc_check_plan : FnScope ["book", "plan", "many", "hour"] ["book", "plan"] (defScope s_check_plan) := ⟨rfl, rfl, rfl, by decide +kernel, rfl, by decide +kernel, by decide +kernel⟩
abbrev s_number_of : Stmt := top 18
theorem sc_number_of : FnScope ["word", "plain", "sign"] ["word"] (defScope s_number_of) := ⟨rfl, rfl, rfl, by decide +kernel, rfl, by decide +kernel, by decide +kernel⟩
abbrev s_stretch_of : Stmt := top 19
theorem sc_stretch_of : FnScope ["words", "numbers", "word"] ["words"] (defScope s_stretch_of) := ⟨rfl, rfl, rfl, by decide +kernel, rfl, by decide +kernel, by decide +kernel⟩
abbrev s_barge_of : Stmt := top 20
theorem sc_barge_of : FnScope ["words", "word"] ["words"] (defScope s_barge_of) := ⟨rfl, rfl, rfl, by decide +kernel, rfl, by decide +kernel, by decide +kernel⟩
abbrev s_hour_of : Stmt := top 21
theorem sc_hour_of : FnScope ["word"] ["word"] (defScope s_hour_of) := ⟨rfl, rfl, rfl, by decide +kernel, rfl, by decide +kernel, by decide +kernel⟩
abbrev s_read : Stmt := top 22
theorem sc_read : FnScope ["text", "rows", "row", "names", "many", "stretches", "barges", "plan", "word", "book"] ["text"] (defScope s_read) := ⟨rfl, rfl, rfl, by decide +kernel, rfl, by decide +kernel, by decide +kernel⟩
abbrev s__law_cell_at : Stmt := top 24
theorem sc__law_cell_at : FnScope ["_law_script", "_law_k"] ["_law_script", "_law_k"] (defScope s__law_cell_at) := ⟨rfl, rfl, rfl, by decide +kernel, rfl, by decide +kernel, by decide +kernel⟩
abbrev s__law_dice : Stmt := top 25
theorem sc__law_dice : FnScope ["_law_cell"] ["_law_cell"] (defScope s__law_dice) := ⟨rfl, rfl, rfl, by decide +kernel, rfl, by decide +kernel, by decide +kernel⟩
abbrev s__law_roll : Stmt := top 26
theorem sc__law_roll : FnScope ["_law_dice_here", "_law_most", "_law_found"] ["_law_dice_here", "_law_most"] (defScope s__law_roll) := ⟨rfl, rfl, rfl, by decide +kernel, rfl, by decide +kernel, by decide +kernel⟩
abbrev s__law_river : Stmt := top 27
theorem sc__law_river : FnScope ["_law_dice_here", "_law_many", "_law_out", "_law_k", "_law_slow", "_law_depths", "_law_turn"] ["_law_dice_here", "_law_many"] (defScope s__law_river) := ⟨rfl, rfl, rfl, by decide +kernel, rfl, by decide +kernel, by decide +kernel⟩
abbrev s__law_time : Stmt := top 28
theorem sc__law_time : FnScope ["_law_river_here", "_law_place", "_law_hour", "_law_stretch"] ["_law_river_here", "_law_place", "_law_hour"] (defScope s__law_time) := ⟨rfl, rfl, rfl, by decide +kernel, rfl, by decide +kernel, by decide +kernel⟩
abbrev s__law_barges : Stmt := top 29
theorem sc__law_barges : FnScope ["_law_dice_here", "_law_river_here", "_law_many", "_law_out", "_law_slack", "_law_k", "_law_begin", "_law_goal", "_law_hour", "_law_ready", "_law_due", "_law_draft", "_law_odd"] ["_law_dice_here", "_law_river_here", "_law_many"] (defScope s__law_barges) := ⟨rfl, rfl, rfl, by decide +kernel, rfl, by decide +kernel, by decide +kernel⟩
abbrev s__law_book : Stmt := top 30
theorem sc__law_book : FnScope ["_law_script", "_law_most", "_law_dice_here", "_law_cell", "_law_river_here"] ["_law_script", "_law_most"] (defScope s__law_book) := ⟨rfl, rfl, rfl, by decide +kernel, rfl, by decide +kernel, by decide +kernel⟩
abbrev s__law_plan : Stmt := top 31
theorem sc__law_plan : FnScope ["_law_script", "_law_many", "_law_dice_here", "_law_out", "_law_k"] ["_law_script", "_law_many"] (defScope s__law_plan) := ⟨rfl, rfl, rfl, by decide +kernel, rfl, by decide +kernel, by decide +kernel⟩
abbrev s__law_text : Stmt := top 32
theorem sc__law_text : FnScope ["_law_book_here", "_law_plan_here", "_law_out", "_law_hours", "_law_room", "_law_depths", "_law_depth", "_law_barge", "_law_number", "_law_hour"] ["_law_book_here", "_law_plan_here"] (defScope s__law_text) := ⟨rfl, rfl, rfl, by decide +kernel, rfl, by decide +kernel, by decide +kernel⟩
abbrev s__law_bad_row : Stmt := top 33
theorem sc__law_bad_row : FnScope ["_law_cell", "_law_some"] ["_law_cell"] (defScope s__law_bad_row) := ⟨rfl, rfl, rfl, by decide +kernel, rfl, by decide +kernel, by decide +kernel⟩
abbrev s__law_word : Stmt := top 34
theorem sc__law_word : FnScope ["_law_lines", "e", "_law_kinds"] ["_law_lines"] (defScope s__law_word) := ⟨rfl, rfl, rfl, by decide +kernel, rfl, by decide +kernel, by decide +kernel⟩
abbrev s_law : Stmt := top 35
theorem sc_law : FnScope ["_law_script", "_law_book_here", "_law_lines", "_law_bad", "_law_at", "_law_texts", "_law_one", "_law_good", "_law_barge", "_law_some", "_law_text_here", "_law_word_here"] ["_law_script"] (defScope s_law) := ⟨rfl, rfl, rfl, by decide +kernel, rfl, by decide +kernel, by decide +kernel⟩

abbrev FnP (K : PySem.W.Frag) (x : Str) (st : Stmt) (f : Addr) (fd : FuncData) : Prop := FunD K x x (defArgs st) (defBody st) (defScope st) [] [] f fd
/-- where the defs stand -/
structure Ad where
  a_is_number : Addr
  d_is_number : FuncData
  a_is_row : Addr
  d_is_row : FuncData
  a_is_stretch : Addr
  d_is_stretch : FuncData
  k_is_stretch : Addr × Addr
  a_is_ready : Addr
  d_is_ready : FuncData
  a_is_barge : Addr
  d_is_barge : FuncData
  a_check_book : Addr
  d_check_book : FuncData
  k_check_book : Addr × Addr
  a_check_plan : Addr
  d_check_plan : FuncData
  k_check_plan : Addr × Addr
  a_number_of : Addr
  d_number_of : FuncData
  k_number_of : Addr × Addr
  a_stretch_of : Addr
  d_stretch_of : FuncData
  a_barge_of : Addr
  d_barge_of : FuncData
  a_hour_of : Addr
  d_hour_of : FuncData
  a_read : Addr
  d_read : FuncData
  a__law_cell_at : Addr
  d__law_cell_at : FuncData
  a__law_dice : Addr
  d__law_dice : FuncData
  a__law_roll : Addr
  d__law_roll : FuncData
  a__law_river : Addr
  d__law_river : FuncData
  a__law_time : Addr
  d__law_time : FuncData
  a__law_barges : Addr
  d__law_barges : FuncData
  a__law_book : Addr
  d__law_book : FuncData
  a__law_plan : Addr
  d__law_plan : FuncData
  a__law_text : Addr
  d__law_text : FuncData
  a__law_bad_row : Addr
  d__law_bad_row : FuncData
  a__law_word : Addr
  d__law_word : FuncData
  a_law : Addr
  d_law : FuncData
  c_TowError : Addr
  c_BadBook : Addr
  c_BadPlan : Addr
  c_NoPlan : Addr
  c_Gone : Addr
  c_BadText : Addr
structure Facts (A : Ad) (K : PySem.W.Frag) (mg : Str → Option Value) (base : Heap) : Prop where
  F_is_number : FnP K "is_number" s_is_number A.a_is_number A.d_is_number
  g_is_number : mg "is_number" = some (.ref A.a_is_number)
  b_is_number : Binds K A.d_is_number ["value", "least", "most"] []
  F_is_row : FnP K "is_row" s_is_row A.a_is_row A.d_is_row
  g_is_row : mg "is_row" = some (.ref A.a_is_row)
  b_is_row : Binds K A.d_is_row ["value", "least", "most"] []
  F_is_stretch : FnP K "is_stretch" s_is_stretch A.a_is_stretch A.d_is_stretch
  g_is_stretch : mg "is_stretch" = some (.ref A.a_is_stretch)
  b_is_stretch : Binds K A.d_is_stretch ["value"] []
  h_is_stretch : A.d_is_stretch.code = .ref A.k_is_stretch.1
  t_is_stretch : GxR.TabB base mg A.k_is_stretch.1 A.k_is_stretch.2
  F_is_ready : FnP K "is_ready" s_is_ready A.a_is_ready A.d_is_ready
  g_is_ready : mg "is_ready" = some (.ref A.a_is_ready)
  b_is_ready : Binds K A.d_is_ready ["value"] []
  F_is_barge : FnP K "is_barge" s_is_barge A.a_is_barge A.d_is_barge
  g_is_barge : mg "is_barge" = some (.ref A.a_is_barge)
  b_is_barge : Binds K A.d_is_barge ["value", "last"] []
  F_check_book : FnP K "check_book" s_check_book A.a_check_book A.d_check_book
  g_check_book : mg "check_book" = some (.ref A.a_check_book)
  b_check_book : Binds K A.d_check_book ["book"] []
  h_check_book : A.d_check_book.code = .ref A.k_check_book.1
  t_check_book : GxR.TabB base mg A.k_check_book.1 A.k_check_book.2
  F_check_plan : FnP K "check_plan" s_check_plan A.a_check_plan A.d_check_plan
  g_check_plan : mg "check_plan" = some (.ref A.a_check_plan)
  b_check_plan : Binds K A.d_check_plan ["book", "plan"] []
  h_check_plan : A.d_check_plan.code = .ref A.k_check_plan.1
  t_check_plan : GxR.TabB base mg A.k_check_plan.1 A.k_check_plan.2
  F_number_of : FnP K "number_of" s_number_of A.a_number_of A.d_number_of
  g_number_of : mg "number_of" = some (.ref A.a_number_of)
  b_number_of : Binds K A.d_number_of ["word"] []
  h_number_of : A.d_number_of.code = .ref A.k_number_of.1
  t_number_of : GxR.TabB base mg A.k_number_of.1 A.k_number_of.2
  F_stretch_of : FnP K "stretch_of" s_stretch_of A.a_stretch_of A.d_stretch_of
  g_stretch_of : mg "stretch_of" = some (.ref A.a_stretch_of)
  b_stretch_of : Binds K A.d_stretch_of ["words"] []
  F_barge_of : FnP K "barge_of" s_barge_of A.a_barge_of A.d_barge_of
  g_barge_of : mg "barge_of" = some (.ref A.a_barge_of)
  b_barge_of : Binds K A.d_barge_of ["words"] []
  F_hour_of : FnP K "hour_of" s_hour_of A.a_hour_of A.d_hour_of
  g_hour_of : mg "hour_of" = some (.ref A.a_hour_of)
  b_hour_of : Binds K A.d_hour_of ["word"] []
  F_read : FnP K "read" s_read A.a_read A.d_read
  g_read : mg "read" = some (.ref A.a_read)
  b_read : Binds K A.d_read ["text"] []
  F__law_cell_at : FnP K "_law_cell_at" s__law_cell_at A.a__law_cell_at A.d__law_cell_at
  g__law_cell_at : mg "_law_cell_at" = some (.ref A.a__law_cell_at)
  b__law_cell_at : Binds K A.d__law_cell_at ["_law_script", "_law_k"] []
  F__law_dice : FnP K "_law_dice" s__law_dice A.a__law_dice A.d__law_dice
  g__law_dice : mg "_law_dice" = some (.ref A.a__law_dice)
  b__law_dice : Binds K A.d__law_dice ["_law_cell"] []
  F__law_roll : FnP K "_law_roll" s__law_roll A.a__law_roll A.d__law_roll
  g__law_roll : mg "_law_roll" = some (.ref A.a__law_roll)
  b__law_roll : Binds K A.d__law_roll ["_law_dice_here", "_law_most"] []
  F__law_river : FnP K "_law_river" s__law_river A.a__law_river A.d__law_river
  g__law_river : mg "_law_river" = some (.ref A.a__law_river)
  b__law_river : Binds K A.d__law_river ["_law_dice_here", "_law_many"] []
  F__law_time : FnP K "_law_time" s__law_time A.a__law_time A.d__law_time
  g__law_time : mg "_law_time" = some (.ref A.a__law_time)
  b__law_time : Binds K A.d__law_time ["_law_river_here", "_law_place", "_law_hour"] []
  F__law_barges : FnP K "_law_barges" s__law_barges A.a__law_barges A.d__law_barges
  g__law_barges : mg "_law_barges" = some (.ref A.a__law_barges)
  b__law_barges : Binds K A.d__law_barges ["_law_dice_here", "_law_river_here", "_law_many"] []
  F__law_book : FnP K "_law_book" s__law_book A.a__law_book A.d__law_book
  g__law_book : mg "_law_book" = some (.ref A.a__law_book)
  b__law_book : Binds K A.d__law_book ["_law_script", "_law_most"] []
  F__law_plan : FnP K "_law_plan" s__law_plan A.a__law_plan A.d__law_plan
  g__law_plan : mg "_law_plan" = some (.ref A.a__law_plan)
  b__law_plan : Binds K A.d__law_plan ["_law_script", "_law_many"] []
  F__law_text : FnP K "_law_text" s__law_text A.a__law_text A.d__law_text
  g__law_text : mg "_law_text" = some (.ref A.a__law_text)
  b__law_text : Binds K A.d__law_text ["_law_book_here", "_law_plan_here"] []
  F__law_bad_row : FnP K "_law_bad_row" s__law_bad_row A.a__law_bad_row A.d__law_bad_row
  g__law_bad_row : mg "_law_bad_row" = some (.ref A.a__law_bad_row)
  b__law_bad_row : Binds K A.d__law_bad_row ["_law_cell"] []
  F__law_word : FnP K "_law_word" s__law_word A.a__law_word A.d__law_word
  g__law_word : mg "_law_word" = some (.ref A.a__law_word)
  b__law_word : Binds K A.d__law_word ["_law_lines"] []
  F_law : FnP K "law" s_law A.a_law A.d_law
  c_HOURS : ∃ t, mg "HOURS" = some (.int 12 t)
  c_FIGURES : ∃ t, mg "FIGURES" = some (.str "0123456789" t)
  g_TowError : mg "TowError" = some (.ref A.c_TowError)
  g_BadBook : mg "BadBook" = some (.ref A.c_BadBook)
  e_BadBook : PySem.W.exmOne K (.ref A.c_BadBook) (.ref A.c_TowError) = some true
  cc_BadBook : ExcC K A.c_BadBook
  kv_BadBook : PySem.W.kitOne K (.ref A.c_BadBook) (.type "ValueError") = some true
  k_BadBook_BadBook : PySem.W.kitOne K (.ref A.c_BadBook) (.ref A.c_BadBook) = some true
  k_BadBook_BadPlan : PySem.W.kitOne K (.ref A.c_BadBook) (.ref A.c_BadPlan) = some false
  k_BadBook_NoPlan : PySem.W.kitOne K (.ref A.c_BadBook) (.ref A.c_NoPlan) = some false
  k_BadBook_Gone : PySem.W.kitOne K (.ref A.c_BadBook) (.ref A.c_Gone) = some false
  k_BadBook_BadText : PySem.W.kitOne K (.ref A.c_BadBook) (.ref A.c_BadText) = some false
  x_BadBook : PySem.W.excIn K A.c_BadBook [.type "ValueError", .type "Exception", .type "BaseException", .type "object"] "ValueError.__new__" = true
  kp_BadBook : PySem.W.keepIn K (.ref A.c_BadBook) = true
  sb_BadBook : PySem.W.subIn K (.ref A.c_BadBook) (.type "BaseException") = some true
  tp_BadBook : PySem.W.typeIn K (.ref A.c_BadBook) = some (.type "type")
  g_BadPlan : mg "BadPlan" = some (.ref A.c_BadPlan)
  e_BadPlan : PySem.W.exmOne K (.ref A.c_BadPlan) (.ref A.c_TowError) = some true
  cc_BadPlan : ExcC K A.c_BadPlan
  kv_BadPlan : PySem.W.kitOne K (.ref A.c_BadPlan) (.type "ValueError") = some true
  k_BadPlan_BadBook : PySem.W.kitOne K (.ref A.c_BadPlan) (.ref A.c_BadBook) = some false
  k_BadPlan_BadPlan : PySem.W.kitOne K (.ref A.c_BadPlan) (.ref A.c_BadPlan) = some true
  k_BadPlan_NoPlan : PySem.W.kitOne K (.ref A.c_BadPlan) (.ref A.c_NoPlan) = some false
  k_BadPlan_Gone : PySem.W.kitOne K (.ref A.c_BadPlan) (.ref A.c_Gone) = some false
  k_BadPlan_BadText : PySem.W.kitOne K (.ref A.c_BadPlan) (.ref A.c_BadText) = some false
  x_BadPlan : PySem.W.excIn K A.c_BadPlan [.type "ValueError", .type "Exception", .type "BaseException", .type "object"] "ValueError.__new__" = true
  kp_BadPlan : PySem.W.keepIn K (.ref A.c_BadPlan) = true
  sb_BadPlan : PySem.W.subIn K (.ref A.c_BadPlan) (.type "BaseException") = some true
  tp_BadPlan : PySem.W.typeIn K (.ref A.c_BadPlan) = some (.type "type")
  g_NoPlan : mg "NoPlan" = some (.ref A.c_NoPlan)
  e_NoPlan : PySem.W.exmOne K (.ref A.c_NoPlan) (.ref A.c_TowError) = some true
  cc_NoPlan : ExcC K A.c_NoPlan
  kv_NoPlan : PySem.W.kitOne K (.ref A.c_NoPlan) (.type "ValueError") = some true
  k_NoPlan_BadBook : PySem.W.kitOne K (.ref A.c_NoPlan) (.ref A.c_BadBook) = some false
  k_NoPlan_BadPlan : PySem.W.kitOne K (.ref A.c_NoPlan) (.ref A.c_BadPlan) = some false
  k_NoPlan_NoPlan : PySem.W.kitOne K (.ref A.c_NoPlan) (.ref A.c_NoPlan) = some true
  k_NoPlan_Gone : PySem.W.kitOne K (.ref A.c_NoPlan) (.ref A.c_Gone) = some false
  k_NoPlan_BadText : PySem.W.kitOne K (.ref A.c_NoPlan) (.ref A.c_BadText) = some false
  g_Gone : mg "Gone" = some (.ref A.c_Gone)
  e_Gone : PySem.W.exmOne K (.ref A.c_Gone) (.ref A.c_TowError) = some true
  cc_Gone : ExcC K A.c_Gone
  kv_Gone : PySem.W.kitOne K (.ref A.c_Gone) (.type "ValueError") = some true
  k_Gone_BadBook : PySem.W.kitOne K (.ref A.c_Gone) (.ref A.c_BadBook) = some false
  k_Gone_BadPlan : PySem.W.kitOne K (.ref A.c_Gone) (.ref A.c_BadPlan) = some false
  k_Gone_NoPlan : PySem.W.kitOne K (.ref A.c_Gone) (.ref A.c_NoPlan) = some false
  k_Gone_Gone : PySem.W.kitOne K (.ref A.c_Gone) (.ref A.c_Gone) = some true
  k_Gone_BadText : PySem.W.kitOne K (.ref A.c_Gone) (.ref A.c_BadText) = some false
  x_Gone : PySem.W.excIn K A.c_Gone [.type "ValueError", .type "Exception", .type "BaseException", .type "object"] "ValueError.__new__" = true
  kp_Gone : PySem.W.keepIn K (.ref A.c_Gone) = true
  sb_Gone : PySem.W.subIn K (.ref A.c_Gone) (.type "BaseException") = some true
  tp_Gone : PySem.W.typeIn K (.ref A.c_Gone) = some (.type "type")
  g_BadText : mg "BadText" = some (.ref A.c_BadText)
  e_BadText : PySem.W.exmOne K (.ref A.c_BadText) (.ref A.c_TowError) = some true
  cc_BadText : ExcC K A.c_BadText
  kv_BadText : PySem.W.kitOne K (.ref A.c_BadText) (.type "ValueError") = some true
  k_BadText_BadBook : PySem.W.kitOne K (.ref A.c_BadText) (.ref A.c_BadBook) = some false
  k_BadText_BadPlan : PySem.W.kitOne K (.ref A.c_BadText) (.ref A.c_BadPlan) = some false
  k_BadText_NoPlan : PySem.W.kitOne K (.ref A.c_BadText) (.ref A.c_NoPlan) = some false
  k_BadText_Gone : PySem.W.kitOne K (.ref A.c_BadText) (.ref A.c_Gone) = some false
  k_BadText_BadText : PySem.W.kitOne K (.ref A.c_BadText) (.ref A.c_BadText) = some true
  x_BadText : PySem.W.excIn K A.c_BadText [.type "ValueError", .type "Exception", .type "BaseException", .type "object"] "ValueError.__new__" = true
  kp_BadText : PySem.W.keepIn K (.ref A.c_BadText) = true
  sb_BadText : PySem.W.subIn K (.ref A.c_BadText) (.type "BaseException") = some true
  tp_BadText : PySem.W.typeIn K (.ref A.c_BadText) = some (.type "type")
  n_ValueError : mg "ValueError" = none
  n_all : mg "all" = none
  n_bool : mg "bool" = none
  n_int : mg "int" = none
  n_isinstance : mg "isinstance" = none
  n_len : mg "len" = none
  n_max : mg "max" = none
  n_range : mg "range" = none
  n_str : mg "str" = none
  n_sum : mg "sum" = none
  n_tuple : mg "tuple" = none

def Tabs (A : Ad) (H : Hp) : Prop := TabG H A.k_is_stretch.2 ∧ TabG H A.k_check_book.2 ∧ TabG H A.k_check_plan.2 ∧ TabG H A.k_number_of.2
theorem Tabs.ext {A : Ad} {ex : List Addr} {H H1 : Hp} (h : Tabs A H) (e : Ext ex H H1) : Tabs A H1 := ⟨e.tabG h.1, e.tabG h.2.1, e.tabG h.2.2.1, e.tabG h.2.2.2⟩
theorem Tabs.is_stretch {A : Ad} {H : Hp} (h : Tabs A H) : TabG H A.k_is_stretch.2 := h.1
theorem Tabs.check_book {A : Ad} {H : Hp} (h : Tabs A H) : TabG H A.k_check_book.2 := h.2.1
theorem Tabs.check_plan {A : Ad} {H : Hp} (h : Tabs A H) : TabG H A.k_check_plan.2 := h.2.2.1
theorem Tabs.number_of {A : Ad} {H : Hp} (h : Tabs A H) : TabG H A.k_number_of.2 := h.2.2.2
section
variable {P : Program} {w : World} {A : Ad} {K : PySem.W.Frag} {mg : Str → Option Value} {base : Heap}
def spdIsNumber (K : PySem.W.Frag) : Sp := fun vs H Q _ => ∃ (v : V) (d : PyData) (lo hi : Int), vs = [v, .int lo, .int hi] ∧ Dp K H v d ∧ Q (.bl (numD lo hi d)) H
theorem okd_is_number (T : Facts A K mg base) : FnOk P w K mg base CX0 1 A.a_is_number A.d_is_number ["value", "least", "most"] (spdIsNumber K) := by
  refine T.F_is_number.ok sc_is_number (fun vs H Q E h => ?_) (fun cdv A1 outer s H vs Q E hr h => ?_)
  · obtain ⟨v, d, lo, hi, rfl, _⟩ := h
    rfl
  · obtain ⟨v, d, lo, hi, rfl, dp, q⟩ := h
    refine ⟨_, PSs.nox (pss_cons (ps_if (PW.pt (pw_or (pt_val (pe_callB call_isi (by rfl) T.n_isinstance PyProof.Rows.boot_isinstance (pa_cons (pv 0) (pa_cons (pe_bltn (v := .ty "bool") (by rfl) T.n_bool (by decide +kernel) rfl) pa_nil)))) (pw_or1 (pt_not (pt_val (pe_callB call_isi (by rfl) T.n_isinstance PyProof.Rows.boot_isinstance (pa_cons (pv 0) (pa_cons (pe_bltn (v := .ty "int") (by rfl) T.n_int (by decide +kernel) rfl) pa_nil)))))))) (pss_one (ps_ret pe_bl)) pss_nil)
      (pss_one (ps_ret (pe_chain op_le op_le (pv 1) (pv 0) (pv 2))))), ?_⟩
    refine ⟨v, rfl, tc1 (isD_bool dp ⟨_, rfl, ?_⟩)⟩
    cases d with
    | bool b => exact iteT q
    | int i =>
      cases dp
      refine iteF ⟨.int i, rfl, tc1 (isi_ii ⟨_, rfl, iteF ?_⟩)⟩
      refine ⟨.int lo, rfl, .int i, rfl, _, _, rfl, rfl, _, rfl, ?_⟩
      by_cases h1 : lo ≤ i
      · refine iteD h1 ⟨.int hi, rfl, _, _, rfl, rfl, ?_⟩
        have e : numD lo hi (.int i) = decide (i ≤ hi) := by
          show (decide (lo ≤ i) && decide (i ≤ hi)) = _
          rw [decide_eq_true h1, Bool.true_and]
        rw [e] at q
        exact q
      · refine iteDn h1 ?_
        have e : numD lo hi (.int i) = false := by
          show (decide (lo ≤ i) && decide (i ≤ hi)) = _
          rw [decide_eq_false h1, Bool.false_and]
        rw [e] at q
        exact q
    | none => exact iteF ⟨v, rfl, tc1 (isD_int dp ⟨_, rfl, iteT q⟩)⟩
    | str x => exact iteF ⟨v, rfl, tc1 (isD_int dp ⟨_, rfl, iteT q⟩)⟩
    | list ds => exact iteF ⟨v, rfl, tc1 (isD_int dp ⟨_, rfl, iteT q⟩)⟩
    | tuple ds => exact iteF ⟨v, rfl, tc1 (isD_int dp ⟨_, rfl, iteT q⟩)⟩
    | dict ds => cases dp

def spdIsRow (K : PySem.W.Frag) : Sp := fun vs H Q _ => ∃ (v : V) (d : PyData) (lo hi : Int), vs = [v, .int lo, .int hi] ∧ Dp K H v d ∧ Q (.bl (rowDD lo hi d)) H
theorem okd_is_row (T : Facts A K mg base) : FnOk P w K mg base CX0 1 A.a_is_row A.d_is_row ["value", "least", "most"] (spdIsRow K) := by
  refine T.F_is_row.ok sc_is_row (fun vs H Q E h => ?_) (fun cdv A1 outer s H vs Q E hr h => ?_)
  · obtain ⟨v, d, lo, hi, rfl, _⟩ := h
    rfl
  · obtain ⟨v, d, lo, hi, rfl, dp, q⟩ := h
    refine ⟨_, PSs.nox (pss_one (ps_ret (pe_and (pe_callB call_isi (by rfl) T.n_isinstance PyProof.Rows.boot_isinstance (pa_cons (pv 0) (pa_cons (pe_bltn (v := .ty "tuple") (by rfl) T.n_tuple (by decide +kernel) rfl) pa_nil))) (pe_one (pe_chain op_le op_le (pv 1) (pe_callB call_len_seq (by rfl) T.n_len PySem.boot_len (pa_cons (pv 0) pa_nil)) (pv 2)))))), ?_⟩
    refine ⟨v, rfl, tc1 (isD_tup dp ⟨_, rfl, ?_⟩)⟩
    cases d with
    | tuple ds =>
      obtain ⟨a, xs, rfl, h, hall⟩ := dpTup dp
      have lx := dpLen hall
      refine iteT ?_
      refine ⟨.int lo, rfl, .ref a, rfl, a, _, rfl, .inr h, _, _, rfl, rfl, _, rfl, ?_⟩
      rw [lx]
      by_cases h1 : lo ≤ (ds.length : Int)
      · refine iteD h1 ⟨.int hi, rfl, _, _, rfl, rfl, ?_⟩
        have e : rowDD lo hi (.tuple ds) = decide ((ds.length : Int) ≤ hi) := by
          show (decide (lo ≤ (ds.length : Int)) && _) = _
          rw [decide_eq_true h1, Bool.true_and]
        rw [e] at q
        exact q
      · refine iteDn h1 ?_
        have e : rowDD lo hi (.tuple ds) = false := by
          show (decide (lo ≤ (ds.length : Int)) && _) = _
          rw [decide_eq_false h1, Bool.false_and]
        rw [e] at q
        exact q
    | bool b => exact iteF q
    | int i => exact iteF q
    | none => exact iteF q
    | str x => exact iteF q
    | list ds => exact iteF q
    | dict ds => cases dp

def spdIsStretch (A : Ad) (K : PySem.W.Frag) : Sp := fun vs H Q _ => ∃ (v : V) (d : PyData), vs = [v] ∧ Dp K H v d ∧ Tabs A H ∧ ∀ H', Ext [] H H' → Q (.bl (stretchB d)) H'
theorem okd_is_stretch (T : Facts A K mg base) : FnOk P w K mg base CX0 3 A.a_is_stretch A.d_is_stretch ["value"] (spdIsStretch A K) := by
  refine GX.okT T.F_is_stretch T.h_is_stretch sc_is_stretch (fun vs H Q E h => ?_) (fun A1 outer s H vs Q E hr h => ?_)
  · obtain ⟨v, d, rfl, _⟩ := h
    rfl
  · obtain ⟨v, d, rfl, dp, tb, q⟩ := h
    refine ⟨_, PSs.nox (pss_cons (ps_if (pt_not (pt_val (pe_call (okd_is_row T) (hr.mono (by decide)) (by rfl) T.g_is_row T.F_is_row.kp T.b_is_row .nil pass0 (pa_cons (pv 0) (pa_cons pe_int (pa_cons pe_int pa_nil)))))) (pss_one (ps_ret pe_bl)) pss_nil)
      (pss_cons (ps_asg (pv 0) (pg_tup (by rfl) (pgs_cons (pg_name (i := 1) sc_is_stretch.nd rfl (Or.inl rfl)) (pgs_cons (pg_name (i := 2) sc_is_stretch.nd rfl (Or.inl rfl)) (pgs_cons (pg_name (i := 3) sc_is_stretch.nd rfl (Or.inl rfl)) pgs_nil)))))
      (pss_cons (ps_if (PW.pt (pw_or (pt_not (pt_val (pe_call (okd_is_number T) (hr.mono (by decide)) (by rfl) T.g_is_number T.F_is_number.kp T.b_is_number .nil pass0 (pa_cons (pv 1) (pa_cons pe_int (pa_cons pe_int pa_nil)))))) (pw_or1 (pt_not (pt_val (pe_call (okd_is_number T) (hr.mono (by decide)) (by rfl) T.g_is_number T.F_is_number.kp T.b_is_number .nil pass0 (pa_cons (pv 2) (pa_cons pe_int (pa_cons pe_int pa_nil))))))))) (pss_one (ps_ret pe_bl)) pss_nil)
      (pss_one (ps_ret (pe_and (pe_call (okd_is_row T) (hr.mono (by decide)) (by rfl) T.g_is_row T.F_is_row.kp T.b_is_row .nil pass0 (pa_cons (pv 3) (pa_cons pe_int (pa_cons pe_int pa_nil)))) (pe_one (GX.pe_allG (own := [("depth", 4)]) (g := (gName 4)) hr (by rfl) T.n_all T.t_is_stretch rfl (GX.genOk_by (own := [("depth", 4)]) (N := ["value", "hours", "room", "depths", "depth"]) (sc := defScope s_is_stretch) (by decide +kernel)) sc_is_stretch.nd (pi_tup (pv 3)) (fun _ _ _ _ _ _ _ => (pg_name (i := 4) sc_is_stretch.nd rfl (Or.inl rfl))) (fun _ _ _ _ _ _ _ => pts_nil) (fun _ _ _ _ _ _ _ => (pe_call (okd_is_number T) ((GX.room_gcx hr).mono (by decide)) (by rfl) T.g_is_number T.F_is_number.kp T.b_is_number .nil pass0 (pa_cons (pv 4) (pa_cons pe_int (pa_cons pe_int pa_nil))))))))))))), ?_⟩
    refine ⟨v, rfl, v, d, 3, 3, rfl, dp, _, rfl, ?_⟩
    cases hr : rowDD 3 3 d with
    | false =>
      rw [stretchB_no hr] at q
      exact iteT (q H Ext.refl)
    | true =>
      refine iteF ?_
      obtain ⟨ds, rfl, l3⟩ := rowDD_n (n := 3) hr
      obtain ⟨x, y, z, rfl⟩ := len3 l3
      obtain ⟨a, xs, rfl, h, hall⟩ := dpTup dp
      cases hall with
      | @cons xv _ _ _ c1 hall =>
        cases hall with
        | @cons yv _ _ _ c2 hall =>
          cases hall with
          | @cons zv _ _ _ c3 hall =>
            cases hall
            refine ⟨.ref a, rfl, a, _, rfl, h, rfl, _, _, rfl, _, _, rfl, _, _, rfl, rfl, ?_⟩
            have e : stretchB (.tuple [x, y, z]) = (numD 1 9 x && numD 1 9 y && (rowDD 1 24 z && itemsB (numD 0 99) z)) := rfl
            rw [e] at q
            refine ⟨_, rfl, xv, x, 1, 9, rfl, c1, _, rfl, ?_⟩
            cases h1 : numD 1 9 x with
            | false =>
              rw [h1, Bool.false_and, Bool.false_and] at q
              exact iteT (iteT (q H Ext.refl))
            | true =>
              rw [h1, Bool.true_and] at q
              refine iteF ⟨_, rfl, yv, y, 1, 9, rfl, c2, _, rfl, ?_⟩
              cases h2 : numD 1 9 y with
              | false =>
                rw [h2, Bool.false_and] at q
                exact iteT (q H Ext.refl)
              | true =>
                rw [h2, Bool.true_and] at q
                refine iteF ⟨_, rfl, zv, z, 1, 24, rfl, c3, _, rfl, ?_⟩
                cases h3 : rowDD 1 24 z with
                | false =>
                  rw [h3, Bool.false_and] at q
                  exact iteF (q H Ext.refl)
                | true =>
                  rw [h3, Bool.true_and] at q
                  refine iteT ?_
                  obtain ⟨es, rfl, _, _⟩ := rowDD_tup h3
                  obtain ⟨b, zs, rfl, hz, hzs⟩ := dpTup c3
                  have lz := dpLen hzs
                  have q2 : ∀ H', Ext [] H H' → Q (.bl ((List.range zs.length).all fun i => numD 0 99 (es.getD i .none))) H' := fun H' e => by
                    rw [lz, all_getD]
                    exact q H' e
                  refine ⟨.ref b, rfl, b, rfl, ⟨_, hz⟩, all_tup (xs := zs) tb.is_stretch (fun i H2 => Ext [] H H2 ∧ ∀ j, j < i → numD 0 99 (es.getD j .none) = true) (fun H2 hT => ⟨Ext.tab tb.is_stretch hT, fun j hj => absurd hj (Nat.not_lt_zero j)⟩) (fun _ _ _ e => e.1.sqT hz) (fun i w H2 hx e => ?_) (fun H2 e => ?_)⟩
                  · obtain ⟨d2, hd2, dp2⟩ := dpGet hzs hx
                    refine ⟨rfl, _, rfl, w, d2, 0, 99, rfl, e.1.dp dp2, ?_⟩
                    rw [← getD_at hd2]
                    exact allB_step e.1 (List.getElem?_eq_some_iff.mp hx).1 e.2 q2
                  · have z := q2 H2 e.1
                    rw [allB_end e.2] at z
                    exact z

def spdIsReady (K : PySem.W.Frag) : Sp := fun vs H Q _ => ∃ (v : V) (d : PyData), vs = [v] ∧ Dp K H v d ∧ Q (.bl (numD 0 99 d)) H
theorem okd_is_ready (T : Facts A K mg base) : FnOk P w K mg base CX0 2 A.a_is_ready A.d_is_ready ["value"] (spdIsReady K) := by
  refine T.F_is_ready.ok sc_is_ready (fun vs H Q E h => ?_) (fun cdv A1 outer s H vs Q E hr h => ?_)
  · obtain ⟨v, d, rfl, _⟩ := h
    rfl
  · obtain ⟨v, d, rfl, dp, q⟩ := h
    refine ⟨_, PSs.nox (pss_one (ps_ret (pe_call (okd_is_number T) (hr.mono (by decide)) (by rfl) T.g_is_number T.F_is_number.kp T.b_is_number .nil pass0 (pa_cons (pv 0) (pa_cons pe_int (pa_cons pe_int pa_nil)))))), ?_⟩
    exact ⟨_, rfl, _, _, _, _, rfl, dp, q⟩

def spdIsBarge (K : PySem.W.Frag) : Sp := fun vs H Q _ => ∃ (v : V) (d : PyData) (n : Int), vs = [v, .int n] ∧ Dp K H v d ∧ Q (.bl (bargeB n d)) H
theorem okd_is_barge (T : Facts A K mg base) : FnOk P w K mg base CX0 3 A.a_is_barge A.d_is_barge ["value", "last"] (spdIsBarge K) := by
  refine T.F_is_barge.ok sc_is_barge (fun vs H Q E h => ?_) (fun cdv A1 outer s H vs Q E hr h => ?_)
  · obtain ⟨v, d, n, rfl, _⟩ := h
    rfl
  · obtain ⟨v, d, n, rfl, dp, q⟩ := h
    refine ⟨_, PSs.nox (pss_cons (ps_if (pt_not (pt_val (pe_call (okd_is_row T) (hr.mono (by decide)) (by rfl) T.g_is_row T.F_is_row.kp T.b_is_row .nil pass0 (pa_cons (pv 0) (pa_cons pe_int (pa_cons pe_int pa_nil)))))) (pss_one (ps_ret pe_bl)) pss_nil)
      (pss_cons (ps_asg (pv 0) (pg_tup (by rfl) (pgs_cons (pg_name (i := 2) sc_is_barge.nd rfl (Or.inl rfl)) (pgs_cons (pg_name (i := 3) sc_is_barge.nd rfl (Or.inl rfl)) (pgs_cons (pg_name (i := 4) sc_is_barge.nd rfl (Or.inl rfl)) (pgs_cons (pg_name (i := 5) sc_is_barge.nd rfl (Or.inl rfl)) (pgs_cons (pg_name (i := 6) sc_is_barge.nd rfl (Or.inl rfl)) pgs_nil)))))))
      (pss_cons (ps_if (PW.pt (pw_or (pt_not (pt_val (pe_call (okd_is_number T) (hr.mono (by decide)) (by rfl) T.g_is_number T.F_is_number.kp T.b_is_number .nil pass0 (pa_cons (pv 2) (pa_cons pe_int (pa_cons (pv 1) pa_nil)))))) (pw_or (pt_not (pt_val (pe_call (okd_is_number T) (hr.mono (by decide)) (by rfl) T.g_is_number T.F_is_number.kp T.b_is_number .nil pass0 (pa_cons (pv 3) (pa_cons pe_int (pa_cons (pv 1) pa_nil)))))) (pw_or1 (pt_cmpR op_ge (pv 2) (pv 3) (nomark _)))))) (pss_one (ps_ret pe_bl)) pss_nil)
      (pss_one (ps_ret (pe_and (pe_call (okd_is_number T) (hr.mono (by decide)) (by rfl) T.g_is_number T.F_is_number.kp T.b_is_number .nil pass0 (pa_cons (pv 4) (pa_cons pe_int (pa_cons pe_int pa_nil)))) (pe_and (pe_call (okd_is_ready T) (hr.mono (by decide)) (by rfl) T.g_is_ready T.F_is_ready.kp T.b_is_ready .nil pass0 (pa_cons (pv 5) pa_nil)) (pe_one (pe_call (okd_is_number T) (hr.mono (by decide)) (by rfl) T.g_is_number T.F_is_number.kp T.b_is_number .nil pass0 (pa_cons (pv 6) (pa_cons pe_int (pa_cons pe_int pa_nil)))))))))))), ?_⟩
    refine ⟨v, rfl, v, d, 5, 5, rfl, dp, _, rfl, ?_⟩
    cases hr : rowDD 5 5 d with
    | false =>
      rw [bargeB_no hr] at q
      exact iteT q
    | true =>
      refine iteF ?_
      obtain ⟨ds, rfl, l5⟩ := rowDD_n (n := 5) hr
      obtain ⟨x, y, z, s, t, rfl⟩ := len5 l5
      obtain ⟨a, xs, rfl, h, hall⟩ := dpTup dp
      cases hall with
      | @cons xv _ _ _ c1 hall =>
        cases hall with
        | @cons yv _ _ _ c2 hall =>
          cases hall with
          | @cons zv _ _ _ c3 hall =>
            cases hall with
            | @cons sv _ _ _ c4 hall =>
              cases hall with
              | @cons tv _ _ _ c5 hall =>
                cases hall
                refine ⟨.ref a, rfl, a, _, rfl, h, rfl, _, _, rfl, _, _, rfl, _, _, rfl, _, _, rfl, _, _, rfl, rfl, ?_⟩
                have e : bargeB n (.tuple [x, y, z, s, t]) = (numD 0 n x && numD 0 n y && ltD x y && (numD 1 99 z && (numD 0 99 s && numD 0 199 t))) := rfl
                rw [e] at q
                refine ⟨_, rfl, _, rfl, xv, x, 0, n, rfl, c1, _, rfl, ?_⟩
                cases h1 : numD 0 n x with
                | false =>
                  rw [h1, Bool.false_and, Bool.false_and, Bool.false_and] at q
                  exact iteT (iteT q)
                | true =>
                  rw [h1, Bool.true_and] at q
                  refine iteF ⟨_, rfl, _, rfl, yv, y, 0, n, rfl, c2, _, rfl, ?_⟩
                  cases h2 : numD 0 n y with
                  | false =>
                    rw [h2, Bool.false_and, Bool.false_and] at q
                    exact iteT (iteT q)
                  | true =>
                    rw [h2, Bool.true_and] at q
                    refine iteF ?_
                    obtain ⟨i, rfl⟩ : ∃ i, x = .int i := by
                      cases x <;> first | exact ⟨_, rfl⟩ | cases h1
                    obtain ⟨j, rfl⟩ : ∃ j, y = .int j := by
                      cases y <;> first | exact ⟨_, rfl⟩ | cases h2
                    cases c1
                    cases c2
                    have e2 : ltD (.int i) (.int j) = decide (i < j) := rfl
                    rw [e2] at q
                    refine ⟨_, rfl, _, rfl, _, _, rfl, rfl, _, rfl, ?_⟩
                    by_cases hlt : i < j
                    · rw [decide_eq_true hlt, Bool.true_and] at q
                      refine iteDn (by omega) ?_
                      refine ⟨_, rfl, zv, z, 1, 99, rfl, c3, _, rfl, ?_⟩
                      cases h3 : numD 1 99 z with
                      | false =>
                        rw [h3, Bool.false_and] at q
                        exact iteF q
                      | true =>
                        rw [h3, Bool.true_and] at q
                        refine iteT ⟨_, rfl, sv, s, rfl, c4, _, rfl, ?_⟩
                        cases h4 : numD 0 99 s with
                        | false =>
                          rw [h4, Bool.false_and] at q
                          exact iteF q
                        | true =>
                          rw [h4, Bool.true_and] at q
                          exact iteT ⟨_, rfl, tv, t, 0, 199, rfl, c5, q⟩
                    · rw [decide_eq_false hlt, Bool.false_and] at q
                      exact iteD (by omega) q

def RefD (A : Ad) (E : XK) (H : Hp) (d e : PyData) : Prop := (bookB d = false ∧ ∀ H', Ext [] H H' → E (.ref A.c_BadBook) none H') ∨ (bookB d = true ∧ planB (bargesOf d) e = false ∧ ∀ H', Ext [] H H' → E (.ref A.c_BadPlan) none H')
theorem RefD.use {A : Ad} {E : XK} {H : Hp} {d e : PyData} {G : Hp → Prop} (r : RefD A E H d e) : (bookB d = true → planB (bargesOf d) e = true → ∀ H', Ext [] H H' → G H') ∧ (bookB d = false → ∀ H', Ext [] H H' → E (.ref A.c_BadBook) none H') ∧ (bookB d = true → planB (bargesOf d) e = false → ∀ H', Ext [] H H' → E (.ref A.c_BadPlan) none H') := by
  rcases r with ⟨h1, h2⟩ | ⟨h1, h2, h3⟩
  · exact ⟨fun z => absurd (h1.symm.trans z) (by decide), fun _ => h2, fun z => absurd (h1.symm.trans z) (by decide)⟩
  · exact ⟨fun _ z => absurd (h2.symm.trans z) (by decide), fun z => absurd (h1.symm.trans z) (by decide), fun _ _ => h3⟩
def spdCheckBook (A : Ad) (K : PySem.W.Frag) : Sp := fun vs H Q E => ∃ (v : V) (d : PyData), vs = [v] ∧ Dp K H v d ∧ Tabs A H ∧ (bookB d = true → ∀ H', Ext [] H H' → Q .non H') ∧ (bookB d = false → ∀ H', Ext [] H H' → E (.ref A.c_BadBook) none H')
theorem okd_check_book (T : Facts A K mg base) : FnOk P w K mg base (L2.CX P w) 5 A.a_check_book A.d_check_book ["book"] (spdCheckBook A K) := by
  refine GX.okT T.F_check_book T.h_check_book sc_check_book (fun vs H Q E h => ?_) (fun A1 outer s H vs Q E hr h => ?_)
  · obtain ⟨v, d, rfl, _⟩ := h
    rfl
  · obtain ⟨v, d, rfl, dp, tb, q, qE⟩ := h
    refine ⟨_, id (pss_cons (ps_if (pt_not (pt_val (pe_call (okd_is_row T) (hr.mono (by decide)) (by rfl) T.g_is_row T.F_is_row.kp T.b_is_row .nil pass0 (pa_cons (pv 0) (pa_cons pe_int (pa_cons pe_int pa_nil)))))) (pss_one (ps_raise rfl (takes_of rfl rfl rfl rfl) (pmk_own PySem.F.excBase_ValueError T.x_BadBook T.g_BadBook T.kp_BadBook (raises_own T.sb_BadBook T.tp_BadBook) (by rfl)))) pss_nil)
      (pss_cons (ps_asg (pv 0) (pg_tup (by rfl) (pgs_cons (pg_name (i := 1) sc_check_book.nd rfl (Or.inl rfl)) (pgs_cons (pg_name (i := 2) sc_check_book.nd rfl (Or.inl rfl)) pgs_nil))))
      (pss_cons (ps_if (PW.pt (pw_or (pt_not (pt_val (pe_call (okd_is_row T) (hr.mono (by decide)) (by rfl) T.g_is_row T.F_is_row.kp T.b_is_row .nil pass0 (pa_cons (pv 1) (pa_cons pe_int (pa_cons pe_int pa_nil)))))) (pw_or1 (pt_not (pt_val (GX.pe_allG (own := [("stretch", 3)]) (g := (gName 3)) hr (by rfl) T.n_all T.t_check_book rfl (GX.genOk_by (own := [("stretch", 3)]) (N := ["book", "stretches", "barges", "stretch", "last", "barge"]) (sc := defScope s_check_book) (by decide +kernel)) sc_check_book.nd (pi_tup (pv 1)) (fun _ _ _ _ _ _ _ => (pg_name (i := 3) sc_check_book.nd rfl (Or.inl rfl))) (fun _ _ _ _ _ _ _ => pts_nil) (fun _ _ _ _ _ _ _ => (pe_call (okd_is_stretch T) ((GX.room_gcx hr).mono (by decide)) (by rfl) T.g_is_stretch T.F_is_stretch.kp T.b_is_stretch .nil pass0 (pa_cons (pv 3) pa_nil))))))))) (pss_one (ps_raise rfl (takes_of rfl rfl rfl rfl) (pmk_own PySem.F.excBase_ValueError T.x_BadBook T.g_BadBook T.kp_BadBook (raises_own T.sb_BadBook T.tp_BadBook) (by rfl)))) pss_nil)
      (pss_cons (ps_set (i := 4) sc_check_book.nd rfl (by first | exact Or.inr rfl | exact Or.inl rfl) (pe_callB call_len_seq (by rfl) T.n_len PySem.boot_len (pa_cons (pv 1) pa_nil)))
      (pss_one (ps_if (PW.pt (pw_or (pt_not (pt_val (pe_call (okd_is_row T) (hr.mono (by decide)) (by rfl) T.g_is_row T.F_is_row.kp T.b_is_row .nil pass0 (pa_cons (pv 2) (pa_cons pe_int (pa_cons pe_int pa_nil)))))) (pw_or1 (pt_not (pt_val (GX.pe_allG (own := [("barge", 5)]) (g := (gName 5)) hr (by rfl) T.n_all T.t_check_book rfl (GX.genOk_by (own := [("barge", 5)]) (N := ["book", "stretches", "barges", "stretch", "last", "barge"]) (sc := defScope s_check_book) (by decide +kernel)) sc_check_book.nd (pi_tup (pv 2)) (fun _ _ _ _ _ _ _ => (pg_name (i := 5) sc_check_book.nd rfl (Or.inl rfl))) (fun _ _ _ _ _ _ _ => pts_nil) (fun _ _ _ _ _ _ _ => (pe_call (okd_is_barge T) ((GX.room_gcx hr).mono (by decide)) (by rfl) T.g_is_barge T.F_is_barge.kp T.b_is_barge .nil pass0 (pa_cons (pv 5) (pa_cons (pv 4) pa_nil)))))))))) (pss_one (ps_raise rfl (takes_of rfl rfl rfl rfl) (pmk_own PySem.F.excBase_ValueError T.x_BadBook T.g_BadBook T.kp_BadBook (raises_own T.sb_BadBook T.tp_BadBook) (by rfl)))) pss_nil)))))), ?_⟩
    refine ⟨v, rfl, v, d, 2, 2, rfl, dp, _, rfl, ?_⟩
    cases hr : rowDD 2 2 d with
    | false => exact iteT (qE (bookB_no hr) H Ext.refl)
    | true =>
      refine iteF ?_
      obtain ⟨ds, rfl, l2⟩ := rowDD_n (n := 2) hr
      obtain ⟨x, y, rfl⟩ := len2 l2
      obtain ⟨a, xs, rfl, h, hall⟩ := dpTup dp
      cases hall with
      | @cons xv _ _ _ c1 hall =>
        cases hall with
        | @cons yv _ _ _ c2 hall =>
          cases hall
          refine ⟨.ref a, rfl, a, _, rfl, h, rfl, _, _, rfl, _, _, rfl, rfl, ?_⟩
          have e : bookB (.tuple [x, y]) = ((rowDD 1 8 x && itemsB stretchB x) && (rowDD 0 7 y && itemsB (bargeB (lenD x)) y)) := rfl
          rw [e] at q qE
          refine ⟨_, rfl, xv, x, 1, 8, rfl, c1, _, rfl, ?_⟩
          cases h1 : rowDD 1 8 x with
          | false =>
            rw [h1, Bool.false_and, Bool.false_and] at qE
            exact iteT (iteT (qE rfl H Ext.refl))
          | true =>
            rw [h1, Bool.true_and] at q qE
            refine iteF ?_
            obtain ⟨es, rfl, _, _⟩ := rowDD_tup h1
            obtain ⟨ra, zs, rfl, hz, hzs⟩ := dpTup c1
            have lz := dpLen hzs
            have ei : itemsB stretchB (.tuple es) = (List.range zs.length).all fun i => stretchB (es.getD i .none) := by rw [lz, all_getD]; rfl
            rw [ei] at q qE
            refine tNot_ (tB_ (all_var (xs := zs) rfl hz tb.check_book (fun i H2 => Ext [] H H2 ∧ ∀ j, j < i → stretchB (es.getD j .none) = true) (fun H2 hT => ⟨Ext.tab tb.check_book hT, fun j hj => absurd hj (Nat.not_lt_zero j)⟩) (fun _ _ _ e => e.1.sqT hz) (fun i w H2 hx e => ?_) (fun H2 e => ?_)))
            · obtain ⟨d2, hd2, dp2⟩ := dpGet hzs hx
              have hi := (List.getElem?_eq_some_iff.mp hx).1
              refine ⟨rfl, _, rfl, w, d2, rfl, e.1.dp dp2, tb.ext e.1, fun H3 e3 => ?_⟩
              rw [← getD_at hd2]
              refine ⟨_, rfl, ?_⟩
              cases hs : stretchB (es.getD i .none) with
              | true =>
                refine iteT ⟨e.1.trans e3, fun j hj => ?_⟩
                by_cases c : j = i
                · rw [c]; exact hs
                · exact e.2 j (by omega)
              | false =>
                refine iteF ?_
                have hf : ((List.range zs.length).all fun i => stretchB (es.getD i .none)) = false := by
                  rw [List.all_eq_false]
                  exact ⟨i, List.mem_range.mpr hi, by rw [hs]; decide⟩
                rw [hf, Bool.false_and] at qE
                exact ⟨_, rfl, iteT (qE rfl H3 (e.1.trans e3))⟩
            rw [allB_end e.2, Bool.true_and] at q qE
            obtain ⟨e2, _⟩ := e
            refine ⟨_, rfl, iteF ?_⟩
            refine ⟨_, rfl, ra, _, rfl, .inr (e2.sqT hz), ?_⟩
            rw [lz]
            refine ⟨_, rfl, yv, y, 0, 7, rfl, e2.dp c2, _, rfl, ?_⟩
            cases h2 : rowDD 0 7 y with
            | false =>
              rw [h2, Bool.false_and] at qE
              exact iteT (iteT (qE rfl H2 e2))
            | true =>
              rw [h2, Bool.true_and] at q qE
              refine iteF ?_
              obtain ⟨fs, rfl, _, _⟩ := rowDD_tup h2
              obtain ⟨ba, ys, rfl, hy, hys⟩ := dpTup c2
              have ly := dpLen hys
              have ej : itemsB (bargeB (lenD (.tuple es))) (.tuple fs) = (List.range ys.length).all fun i => bargeB (es.length : Int) (fs.getD i .none) := by rw [ly, all_getD]; rfl
              rw [ej] at q qE
              refine tNot_ (tB_ (all_var (xs := ys) rfl (e2.sqT hy) (tb.ext e2).check_book (fun i H3 => Ext [] H H3 ∧ ∀ j, j < i → bargeB (es.length : Int) (fs.getD j .none) = true) (fun H3 hT => ⟨e2.trans (Ext.tab (tb.ext e2).check_book hT), fun j hj => absurd hj (Nat.not_lt_zero j)⟩) (fun _ _ _ e => e.1.sqT hy) (fun i w H3 hx e => ?_) (fun H3 e => ?_)))
              · obtain ⟨d2, hd2, dp2⟩ := dpGet hys hx
                have hi := (List.getElem?_eq_some_iff.mp hx).1
                refine ⟨rfl, _, rfl, _, rfl, w, d2, _, rfl, e.1.dp dp2, ?_⟩
                rw [← getD_at hd2]
                refine ⟨_, rfl, ?_⟩
                cases hs : bargeB (es.length : Int) (fs.getD i .none) with
                | true =>
                  refine iteT ⟨e.1, fun j hj => ?_⟩
                  by_cases c : j = i
                  · rw [c]; exact hs
                  · exact e.2 j (by omega)
                | false =>
                  refine iteF ?_
                  have hf : ((List.range ys.length).all fun i => bargeB (es.length : Int) (fs.getD i .none)) = false := by
                    rw [List.all_eq_false]
                    exact ⟨i, List.mem_range.mpr hi, by rw [hs]; decide⟩
                  exact ⟨_, rfl, iteT (qE hf H3 e.1)⟩
              exact ⟨_, rfl, iteF (q (allB_end e.2) H3 e.1)⟩

def spdCheckPlan (A : Ad) (K : PySem.W.Frag) : Sp := fun vs H Q E => ∃ (v u : V) (d e : PyData), vs = [v, u] ∧ Dp K H v d ∧ Dp K H u e ∧ Tabs A H ∧ (bookB d = true → planB (bargesOf d) e = true → ∀ H', Ext [] H H' → Q .non H') ∧ (bookB d = false → ∀ H', Ext [] H H' → E (.ref A.c_BadBook) none H') ∧ (bookB d = true → planB (bargesOf d) e = false → ∀ H', Ext [] H H' → E (.ref A.c_BadPlan) none H')
theorem okd_check_plan (T : Facts A K mg base) : FnOk P w K mg base (L2.CX P w) 6 A.a_check_plan A.d_check_plan ["book", "plan"] (spdCheckPlan A K) := by
  refine GX.okT T.F_check_plan T.h_check_plan sc_check_plan (fun vs H Q E h => ?_) (fun A1 outer s H vs Q E hr h => ?_)
  · obtain ⟨v, u, d, e, rfl, _⟩ := h
    rfl
  · obtain ⟨v, u, d, e, rfl, dv, du, tb, q, qB, qP⟩ := h
    obtain ⟨ct_HOURS, c_HOURS⟩ := T.c_HOURS
    refine ⟨_, id (pss_cons (ps_expr (pe_call (okd_check_book T) (hr.mono (by decide)) (by rfl) T.g_check_book T.F_check_book.kp T.b_check_book .nil (passes_call (takes_of rfl rfl rfl rfl) (fun _ _ _ _ h => h)) (pa_cons (pv 0) pa_nil)))
      (pss_cons (ps_set (i := 2) sc_check_plan.nd rfl (Or.inl rfl) (pe_callB call_len_seq (by rfl) T.n_len PySem.boot_len (pa_cons (pe_ix ix_seq (pv 0) pe_int (fun _ _ => rfl)) pa_nil)))
      (pss_cons (ps_if (pt_not (pt_val (pe_call (okd_is_row T) (hr.mono (by decide)) (by rfl) T.g_is_row T.F_is_row.kp T.b_is_row .nil pass0 (pa_cons (pv 1) (pa_cons (pv 2) (pa_cons (pv 2) pa_nil)))))) (pss_one (ps_raise rfl (takes_of rfl rfl rfl rfl) (pmk_own PySem.F.excBase_ValueError T.x_BadPlan T.g_BadPlan T.kp_BadPlan (raises_own T.sb_BadPlan T.tp_BadPlan) (by rfl)))) pss_nil)
      (pss_one (ps_if (pt_not (pt_val (GX.pe_allG (own := [("hour", 3)]) (g := (gName 3)) hr (by rfl) T.n_all T.t_check_plan rfl (GX.genOk_by (own := [("hour", 3)]) (N := ["book", "plan", "many", "hour"]) (sc := defScope s_check_plan) (by decide +kernel)) sc_check_plan.nd (pi_tup (pv 1)) (fun _ _ _ _ _ _ _ => (pg_name (i := 3) sc_check_plan.nd rfl (Or.inl rfl))) (fun _ _ _ _ _ _ _ => pts_nil) (fun _ _ _ _ _ _ _ => (pe_or (pe_cmpR op_isN (pv 3) pe_non (nomark _)) (pe_one (pe_call (okd_is_number T) ((GX.room_gcx hr).mono (by decide)) (by rfl) T.g_is_number T.F_is_number.kp T.b_is_number .nil pass0 (pa_cons (pv 3) (pa_cons pe_int (pa_cons (pe_op op_sub (pe_glob (v := .int 12) (by rfl) c_HOURS ⟨_, rfl⟩) pe_int) pa_nil)))))))))) (pss_one (ps_raise rfl (takes_of rfl rfl rfl rfl) (pmk_own PySem.F.excBase_ValueError T.x_BadPlan T.g_BadPlan T.kp_BadPlan (raises_own T.sb_BadPlan T.tp_BadPlan) (by rfl)))) pss_nil))))), ?_⟩
    refine ⟨_, rfl, v, d, rfl, dv, tb, fun hb H1 e1 => ?_, qB⟩
    replace q := q hb
    replace qP := qP hb
    obtain ⟨ds, rfl, l2⟩ := rowDD_n (n := 2) (show rowDD ((2 : Nat) : Int) ((2 : Nat) : Int) d = true from Classical.byContradiction fun z => by rw [bookB_no (by simpa using z)] at hb; cases hb)
    obtain ⟨x, y, rfl⟩ := len2 l2
    have e0 : bookB (.tuple [x, y]) = ((rowDD 1 8 x && itemsB stretchB x) && (rowDD 0 7 y && itemsB (bargeB (lenD x)) y)) := rfl
    rw [e0, Bool.and_eq_true, Bool.and_eq_true, Bool.and_eq_true] at hb
    obtain ⟨bs, rfl, _, hb7⟩ := rowDD_tup hb.2.1
    obtain ⟨a, xs, rfl, h, hall⟩ := dpTup (e1.dp dv)
    cases hall with
    | @cons xv _ _ _ c1 hall =>
      cases hall with
      | @cons yv _ _ _ c2 hall =>
        cases hall
        obtain ⟨ba, ys, rfl, hy, hys⟩ := dpTup c2
        have ly := dpLen hys
        refine ⟨_, rfl, .inr (.inl ⟨a, _, 1, _, rfl, rfl, h, atI_nat (j := 1) rfl, ba, ys, rfl, .inr hy, ?_⟩)⟩
        rw [ly]
        have em : bargesOf (.tuple [x, .tuple bs]) = (bs.length : Int) := rfl
        rw [em] at q qP
        unfold planB at q qP
        refine ⟨_, rfl, _, rfl, _, rfl, u, e, _, _, rfl, e1.dp du, _, rfl, ?_⟩
        cases hr : rowDD (bs.length : Int) (bs.length : Int) e with
        | false =>
          rw [hr, Bool.false_and] at qP
          exact iteT (qP rfl H1 e1)
        | true =>
          rw [hr, Bool.true_and] at q qP
          refine iteF ?_
          obtain ⟨fs, rfl, _⟩ := rowDD_n hr
          obtain ⟨pa, zs, rfl, hz, hzs⟩ := dpTup (e1.dp du)
          have lz := dpLen hzs
          have ei : itemsB (fun x => noneD x || numD 0 11 x) (.tuple fs) = (List.range zs.length).all fun i => (fun x => noneD x || numD 0 11 x) (fs.getD i .none) := by rw [lz]; exact (all_getD (fun x => noneD x || numD 0 11 x) fs).symm
          rw [ei] at q qP
          unfold tNext
          dsimp only
          unfold tIfS
          refine tNot_ ?_
          refine tB_ ?_
          refine (all_var (xs := zs) rfl hz (tb.ext e1).check_plan (fun i H2 => Ext [] H1 H2 ∧ ∀ j, j < i → (noneD (fs.getD j .none) || numD 0 11 (fs.getD j .none)) = true) (fun H2 hT => ⟨Ext.tab (tb.ext e1).check_plan hT, fun j hj => absurd hj (Nat.not_lt_zero j)⟩) (fun _ _ _ e => e.1.sqT hz) (fun i w H2 hx e => ?_) (fun H2 e => ?_))
          · obtain ⟨d2, hd2, dp2⟩ := dpGet hzs hx
            have hi := (List.getElem?_eq_some_iff.mp hx).1
            replace dp2 := e.1.dp dp2
            have good : (noneD d2 || numD 0 11 d2) = true → (Ext [] H1 H2 ∧ ∀ j, j < i + 1 → (noneD (fs.getD j .none) || numD 0 11 (fs.getD j .none)) = true) := fun hg => ⟨e.1, fun j hj => by
              by_cases c : j = i
              · rw [c, getD_at hd2]; exact hg
              · exact e.2 j (by omega)⟩
            have bad : (noneD d2 || numD 0 11 d2) = false → ((List.range zs.length).all fun i => (fun x => noneD x || numD 0 11 x) (fs.getD i .none)) = false := fun hg => by
              rw [List.all_eq_false]
              exact ⟨i, List.mem_range.mpr hi, by rw [getD_at hd2]; show ¬ (noneD d2 || numD 0 11 d2) = true; rw [hg]; decide⟩
            refine ⟨rfl, _, rfl, rfl, _, rfl, ?_⟩
            by_cases hw : w = .non
            · subst hw
              cases dp2
              exact iteD rfl ⟨true, rfl, iteT (good rfl)⟩
            · have hn : noneD d2 = false := by
                cases dp2 <;> first | rfl | exact absurd rfl hw
              refine iteDn hw ⟨_, rfl, _, _, rfl, rfl, w, d2, 0, 12 - 1, rfl, dp2, ?_⟩
              rw [hn, Bool.false_or] at good bad
              refine ⟨_, rfl, ?_⟩
              cases hs : numD 0 (12 - 1) d2 with
              | true => exact iteT (good hs)
              | false =>
                refine iteF ?_
                exact ⟨_, rfl, iteT (qP (bad hs) H2 (e1.trans e.1))⟩
          · exact ⟨_, rfl, iteF (q (allB_end e.2) H2 (e1.trans e.1))⟩

def spxNumberOf (A : Ad) (K : PySem.W.Frag) : Sp := fun vs H Q E => ∃ (w : Str), vs = [.str w] ∧ w.length ≤ 600 ∧ Tabs A H ∧ (∀ n, NumW w n → ∀ H', Ext [] H H' → Q (.int n) H') ∧ (numWB w = false → ∀ H', Ext [] H H' → E (.ref A.c_BadText) none H')
theorem okx_number_of (T : Facts A K mg base) : FnOk P w K mg base (L2.CX P w) 2 A.a_number_of A.d_number_of ["word"] (spxNumberOf A K) := by
  refine GX.okT T.F_number_of T.h_number_of sc_number_of (fun vs H Q E h => ?_) (fun A1 outer s H vs Q E hr h => ?_)
  · obtain ⟨w, rfl, _⟩ := h
    rfl
  · obtain ⟨w, rfl, hw, tb, q, qE⟩ := h
    obtain ⟨ct_FIGURES, c_FIGURES⟩ := T.c_FIGURES
    refine ⟨_, id (pss_cons (ps_set (i := 1) sc_number_of.nd rfl (Or.inl rfl) (pe_and (pe_chain op_le op_le pe_int (pe_callB call_len_str (by rfl) T.n_len PySem.boot_len (pa_cons (pv 0) pa_nil)) pe_int) (pe_one (GX.pe_allG (own := [("sign", 2)]) (g := (gName 2)) hr (by rfl) T.n_all T.t_number_of rfl (GX.genOk_by (own := [("sign", 2)]) (N := ["word", "plain", "sign"]) (sc := defScope s_number_of) (by decide +kernel)) sc_number_of.nd (pi_str (pv 0)) (fun _ _ _ _ _ _ _ => (pg_name (i := 2) sc_number_of.nd rfl (Or.inl rfl))) (fun _ _ _ _ _ _ _ => pts_nil) (fun _ _ _ _ _ _ _ => (pe_cmpR op_in_sign (pv 2) (pe_glob (v := .str "0123456789") (by rfl) c_FIGURES ⟨_, rfl⟩) (by rfl)))))))
      (pss_cons (ps_if (PW.pt (pw_or (pt_not (pt_truth (pv 1) (by intro _; rfl))) (pw_or1 (PW.pt (pw_and (pt_cmpR op_eq (pe_ix ix_seq (pv 0) pe_int (fun _ _ => rfl)) pe_str (nomark _)) (pw_and1 (pt_cmpR op_ne (pv 0) pe_str (nomark _)))))))) (pss_one (ps_raise rfl (takes_of rfl rfl rfl rfl) (pmk_own PySem.F.excBase_ValueError T.x_BadText T.g_BadText T.kp_BadText (raises_own T.sb_BadText T.tp_BadText) (by rfl)))) pss_nil)
      (pss_one (ps_ret (pe_callTy call_int_str (by rfl) T.n_int (by decide +kernel) (pa_cons (pv 0) pa_nil)))))), ?_⟩
    have ez := sizeLine_eq
    have ll : w.length ≤ sizeLine := by omega
    have lw := len_tl w
    let dig : Nat → Bool := fun c => decide (48 ≤ c) && decide (c ≤ 57)
    have shape : numWB w = ((decide (1 ≤ (tl w).length) && decide ((tl w).length ≤ 3)) && ((tl w).all dig && (decide ((tl w).head? ≠ some 48) || decide (tl w = [48])))) := rfl
    refine ⟨_, rfl, _, rfl, ll, _, _, rfl, rfl, _, rfl, ?_⟩
    by_cases h1 : 1 ≤ (tl w).length
    case neg =>
      refine iteDn (by show ¬ ((1 : Int) ≤ (w.length : Int)); omega) ?_
      refine ⟨false, rfl, iteF ?_⟩
      refine ⟨_, rfl, false, rfl, ?_⟩
      exact qE (by rw [shape, decide_eq_false h1]; rfl) _ Ext.refl
    refine iteD (by show (1 : Int) ≤ (w.length : Int); omega) ?_
    refine ⟨_, _, rfl, rfl, ?_⟩
    by_cases h3 : (tl w).length ≤ 3
    case neg =>
      refine ⟨false, by show V.bl (decide ((w.length : Int) ≤ 3)) = _; rw [decide_eq_false (by omega)], iteF ?_⟩
      refine ⟨_, rfl, false, rfl, ?_⟩
      exact qE (by rw [shape, decide_eq_false h3, Bool.and_false]; rfl) _ Ext.refl
    refine ⟨true, by show V.bl (decide ((w.length : Int) ≤ 3)) = _; rw [decide_eq_true (by omega)], iteT ?_⟩
    refine ⟨_, rfl, _, rfl, tb.number_of, fun H2 hT => ⟨fun i m' H3 => m' = w.cps.size - i ∧ i ≤ w.cps.size ∧ Ext [] H H3 ∧ ((tl w).take i).all dig = true, ⟨_, rfl, Nat.zero_le _, Ext.tab tb.number_of hT, rfl⟩, ?_⟩⟩
    rintro i m' H3 ⟨rfl, hi, e3, had⟩
    by_cases hlt : i < w.cps.size
    · refine .inr ⟨hlt, fun H4 => i + 1 ≤ w.cps.size ∧ Ext [] H H4 ∧ ((tl w).take (i + 1)).all dig = true, fun H4 z => ⟨_, by omega, rfl, z.1, z.2.1, z.2.2⟩, fun x H4 y => ?_⟩
      obtain ⟨rfl, c, hc, rfl⟩ := y
      have hcm : (tl w)[i]? = some c := by
        show w.cps.toList[i]? = some c
        rw [Array.getElem?_toList]
        exact hc
      have hf : ("0123456789" : Str).cps.toList = [48, 49, 50, 51, 52, 53, 54, 55, 56, 57] := by decide +kernel
      cases hd : dig c with
      | true =>
        have hd2 : 48 ≤ c ∧ c ≤ 57 := by
          have hd2 : (decide (48 ≤ c) && decide (c ≤ 57)) = true := hd
          rw [Bool.and_eq_true, decide_eq_true_eq, decide_eq_true_eq] at hd2
          exact hd2
        refine ⟨rfl, yesT ⟨_, rfl, c, _, rfl, rfl, true, ?_, iteT ⟨hlt, e3, ?_⟩⟩⟩
        · have : c ∈ ("0123456789" : Str).cps.toList := by
            rw [hf]
            simp only [List.mem_cons, List.not_mem_nil, or_false]
            omega
          exact congrArg V.bl (decide_eq_true this)
        · rw [List.take_add_one, hcm, List.all_append, had]
          show (true && (dig c && true)) = true
          rw [hd]
          rfl
      | false =>
        have hd2 : ¬ (48 ≤ c ∧ c ≤ 57) := fun z => by
          have hd2 : (decide (48 ≤ c) && decide (c ≤ 57)) = false := hd
          rw [decide_eq_true z.1, decide_eq_true z.2] at hd2
          cases hd2
        refine ⟨rfl, yesT ⟨_, rfl, c, _, rfl, rfl, false, ?_, iteF ?_⟩⟩
        · have : c ∉ ("0123456789" : Str).cps.toList := by
            rw [hf]
            simp only [List.mem_cons, List.not_mem_nil, or_false]
            omega
          exact congrArg V.bl (decide_eq_false this)
        · refine ⟨_, rfl, false, rfl, ?_⟩
          refine qE ?_ _ e3
          have ha : (tl w).all dig = false := by
            rw [List.all_eq_false]
            exact ⟨c, List.mem_of_getElem? hcm, by rw [hd]; decide⟩
          rw [shape, ha, Bool.false_and, Bool.and_false]
    refine .inl ⟨Nat.not_lt.mp hlt, ?_⟩
    have hall : (tl w).all dig = true := by
      have z : (tl w).take i = tl w := List.take_of_length_le (by show w.cps.toList.length ≤ i; rw [Array.length_toList]; omega)
      rw [z] at had
      exact had
    refine ⟨_, rfl, true, rfl, ?_⟩
    refine iteF ?_
    obtain ⟨c, hc⟩ : ∃ c, (tl w)[0]? = some c := ⟨_, List.getElem?_eq_getElem (by omega)⟩
    have hh : (tl w).head? = some c := by rw [List.head?_eq_getElem?]; exact hc
    have last : numWB w = true → ∃ a n, [V.str w] = [.str a] ∧ PySem.intText? a = some n ∧ a.length ≤ 640 ∧ Q (.int n) H3 := fun hb => by
      obtain ⟨n, ⟨h0, h9⟩, e⟩ := numW_of hb
      obtain ⟨m, rfl⟩ : ∃ m : Nat, n = (m : Int) := ⟨n.toNat, by omega⟩
      have etl := cell_num m
      refine ⟨_, (m : Int), rfl, ?_, by omega, q _ ⟨⟨h0, h9⟩, e⟩ H3 e3⟩
      rw [e]
      exact int_num (by rw [← etl, ← len_tl, ← e]; omega)
    refine ⟨_, rfl, .inr (.inr ⟨_, 0, c, rfl, rfl, ll, atI_nat (j := 0) hc, rfl, _, rfl, ?_⟩)⟩
    by_cases h48 : c = 48
    · subst h48
      refine iteD (by decide +kernel) ?_
      by_cases hz : w = "0"
      · refine ⟨_, rfl, rfl, _, rfl, iteNS (congrArg V.str hz) ?_⟩
        refine ⟨_, rfl, last ?_⟩
        rw [hz]
        decide +kernel
      · refine ⟨_, rfl, rfl, _, rfl, ?_⟩
        rw [decide_eq_false (fun z => hz (V.str.inj z))]
        refine iteT ?_
        refine qE ?_ _ e3
        have n1 : ¬ (tl w).head? ≠ some 48 := fun z => z hh
        have n2 : ¬ tl w = [48] := fun z => hz (ext_tl (z.trans (by decide +kernel)))
        rw [shape, decide_eq_false n1, decide_eq_false n2, Bool.or_false, Bool.and_false, Bool.and_false]
    · refine iteDn ?_ ⟨_, rfl, last ?_⟩
      · intro z
        have z2 : (⟨#[c]⟩ : Str) = "0" := V.str.inj z
        have z3 := congrArg (fun s : Str => s.cps.toList) z2
        have z4 : [c] = [48] := z3.trans (by decide +kernel)
        exact h48 (List.cons.inj z4).1
      · have n1 : (tl w).head? ≠ some 48 := fun z => h48 (Option.some.inj (hh.symm.trans z))
        rw [shape, decide_eq_true h1, decide_eq_true h3, hall, decide_eq_true n1]
        rfl

def spxStretchOf (A : Ad) (K : PySem.W.Frag) : Sp := fun vs H Q E => ∃ (d : Addr) (ws : List Str), vs = [.ref d] ∧ SqL K H d (strsV ws) ∧ ws.length ≤ 40 ∧ (∀ w ∈ ws, w.length ≤ 600) ∧ Tabs A H ∧ (3 ≤ ws.length → ∀ ns, NumsW ws ns → ∀ H' v, Ext [] H H' → Td K H' v (strNs ns) → Q v H') ∧ ((ws.length < 3 ∨ ws.all numWB = false) → ∀ H', Ext [] H H' → E (.ref A.c_BadText) none H')
theorem okx_stretch_of (T : Facts A K mg base) : FnOk P w K mg base (L2.CX P w) 3 A.a_stretch_of A.d_stretch_of ["words"] (spxStretchOf A K) := by
  refine T.F_stretch_of.ok sc_stretch_of (fun vs H Q E h => ?_) (fun cdv A1 outer s H vs Q E hr h => ?_)
  · obtain ⟨d, ws, rfl, _⟩ := h
    rfl
  · obtain ⟨d, ws, rfl, hd, l40, hw, tb, q, qE⟩ := h
    refine ⟨_, id (pss_cons (ps_if (pt_cmpR op_lt (pe_callB call_len_seq (by rfl) T.n_len PySem.boot_len (pa_cons (pv 0) pa_nil)) pe_int (nomark _)) (pss_one (ps_raise rfl (takes_of rfl rfl rfl rfl) (pmk_own PySem.F.excBase_ValueError T.x_BadText T.g_BadText T.kp_BadText (raises_own T.sb_BadText T.tp_BadText) (by rfl)))) pss_nil)
      (pss_cons (LX.ps_setLcX (E := E) (W := fun cls d _ H => E cls d H) (takes_of rfl rfl rfl rfl) rfl rfl (fun _ _ _ _ h => h) (i := 1) (own := [("word", 2)]) (g := (gName 2)) rfl sc_stretch_of.nd rfl rfl (sw_true rfl rfl rfl (by decide +kernel)) (pi_list (pv 0)) (blkOk_by (own := [("word", 2)]) (N := ["words", "numbers", "word"]) (sc := defScope s_stretch_of) (by decide +kernel)) (fun _ _ _ _ _ => (pg_name (i := 2) sc_stretch_of.nd rfl (Or.inl rfl))) (fun _ _ _ _ _ => pts_nil) (fun _ _ _ _ _ => (pe_call (okx_number_of T) (hr.mono (by decide)) (by rfl) T.g_number_of T.F_number_of.kp T.b_number_of .nil LX.blk_pass (pa_cons (pv 2) pa_nil))))
      (pss_one (ps_ret (pe_tup (pa_cons (pe_ix ix_seq (pv 1) pe_int (fun _ _ => rfl)) (pa_cons (pe_ix ix_seq (pv 1) pe_int (fun _ _ => rfl)) (pa_cons (pe_callTy call_tuple_of (by rfl) T.n_tuple (by decide +kernel) (pa_cons (pe_slice sl_list (pv 1) (po_some pe_int) po_none) pa_nil)) pa_nil)))))))), ?_⟩
    have hl : (strsV ws).length = ws.length := by unfold strsV; rw [List.length_map]
    refine ⟨_, rfl, d, _, rfl, .inl hd, _, _, rfl, rfl, _, rfl, ?_⟩
    by_cases h3 : ws.length < 3
    · refine iteD (by rw [hl]; omega) ?_
      exact qE (.inl h3) _ Ext.refl
    refine iteDn (by rw [hl]; omega) ?_
    refine ⟨_, rfl, d, rfl, ⟨_, hd⟩, fun D hD => lc_list (xs := strsV ws) (fun i H3 => Ext [] H H3 ∧ i ≤ ws.length ∧ ∃ ns, NumsW (ws.take i) ns ∧ H3 D = some (.lst (ns.map V.int))) ⟨Ext.new hD, Nat.zero_le _, [], ⟨rfl, by simp⟩, upd_same⟩ (fun _ _ _ z => z.1.sqL (by simp) hd) (fun i x H3 hx z => ?_) (fun H3 z => ?_)⟩
    · obtain ⟨e3, _, ns, hn, hL⟩ := z
      obtain ⟨w, hw2, rfl⟩ := map_get hx
      have hi : i < ws.length := (List.getElem?_eq_some_iff.mp hw2).1
      have hm := List.mem_of_getElem? hw2
      have ln := numsW_len hn
      rw [List.length_take] at ln
      refine ⟨rfl, yesT ⟨_, rfl, w, rfl, hw w hm, tb.ext e3, fun n hnw H4 e4 => ?_, fun hb H4 e4 => ?_⟩⟩
      · refine ⟨_, e4.lst D _ (by simp) hL, small1000 (by rw [List.length_map]; omega), (e3.trans e4).wrNew hD, hi, ns ++ [n], ?_, ?_⟩
        · rw [List.take_add_one, hw2]
          exact numsW_snoc hn hnw
        · rw [upd_same, List.map_append]
          rfl
      · exact qE (.inr (by rw [List.all_eq_false]; exact ⟨w, hm, by rw [hb]; decide⟩)) _ (e3.trans e4)
    obtain ⟨e3, _, ns, hn, hL⟩ := z
    rw [hl, List.take_length] at hn
    have ln := numsW_len hn
    obtain ⟨a, b, ds, rfl⟩ : ∃ a b ds, ns = a :: b :: ds := by
      match ns, ln with
      | [], ln => exact (by have z : ws.length = 0 := ln; omega)
      | [_], ln => exact (by have z : ws.length = 1 := ln; omega)
      | a :: b :: ds, _ => exact ⟨a, b, ds, rfl⟩
    have hL : H3 D = some (.lst (V.int a :: V.int b :: ds.map V.int)) := hL
    refine ⟨_, rfl, .inl ⟨D, _, 0, _, rfl, rfl, .inl (.inl hL), atI_nat (j := 0) rfl, ?_⟩⟩
    refine ⟨_, rfl, .inl ⟨D, _, 1, _, rfl, rfl, .inl (.inl hL), atI_nat (j := 1) rfl, ?_⟩⟩
    refine ⟨_, rfl, ((2 : Nat) : Int), rfl, ?_⟩
    first | (unfold tNoPart; dsimp only) | dsimp only
    refine ⟨D, _, rfl, .inl (.inl hL), fun p hp => ?_⟩
    rw [cut_list]
    have e4 := Ext.new (ex := []) (o := .lst ((V.int a :: V.int b :: ds.map V.int).drop 2)) hp
    refine ⟨p, _, rfl, .inl ⟨.inl (.inl upd_same), fun t ht => ?_⟩⟩
    have e5 := Ext.new (ex := []) (o := .tup (ds.map V.int)) ht
    refine ⟨by show 3 ≤ sizeLine; decide, fun r hr => ?_⟩
    have e6 := Ext.new (ex := []) (o := .tup [.int a, .int b, .ref t]) hr
    exact q (by omega) _ hn _ _ (e3.trans (e4.trans (e5.trans e6))) (.tup sqT_new (.cons (.int a) (.cons (.int b) (.cons (.tup (e6.sqT sqT_new) (td_ints ds)) .nil))))

def spxBargeOf (A : Ad) (K : PySem.W.Frag) : Sp := fun vs H Q E => ∃ (d : Addr) (ws : List Str), vs = [.ref d] ∧ SqL K H d (strsV ws) ∧ ws.length ≤ 40 ∧ (∀ w ∈ ws, w.length ≤ 600) ∧ Tabs A H ∧ (ws.length = 5 → ∀ ns, NumsW ws ns → ∀ H' v, Ext [] H H' → Td K H' v (.tuple (ns.map .int)) → Q v H') ∧ ((ws.length ≠ 5 ∨ ws.all numWB = false) → ∀ H', Ext [] H H' → E (.ref A.c_BadText) none H')
theorem okx_barge_of (T : Facts A K mg base) : FnOk P w K mg base (L2.CX P w) 3 A.a_barge_of A.d_barge_of ["words"] (spxBargeOf A K) := by
  refine T.F_barge_of.ok sc_barge_of (fun vs H Q E h => ?_) (fun cdv A1 outer s H vs Q E hr h => ?_)
  · obtain ⟨d, ws, rfl, _⟩ := h
    rfl
  · obtain ⟨d, ws, rfl, hd, l40, hw, tb, q, qE⟩ := h
    refine ⟨_, id (pss_cons (ps_if (pt_cmpR op_ne (pe_callB call_len_seq (by rfl) T.n_len PySem.boot_len (pa_cons (pv 0) pa_nil)) pe_int (nomark _)) (pss_one (ps_raise rfl (takes_of rfl rfl rfl rfl) (pmk_own PySem.F.excBase_ValueError T.x_BadText T.g_BadText T.kp_BadText (raises_own T.sb_BadText T.tp_BadText) (by rfl)))) pss_nil)
      (pss_one (ps_ret (pe_callTy call_tuple_of (by rfl) T.n_tuple (by decide +kernel) (pa_cons (LX.pe_lcX (E := E) (W := fun cls d _ H => E cls d H) (takes_of rfl rfl rfl rfl) rfl rfl (fun _ _ _ _ h => h) (own := [("word", 1)]) (g := (gName 1)) rfl sc_barge_of.nd (pi_list (pv 0)) (blkOk_by (own := [("word", 1)]) (N := ["words", "word"]) (sc := defScope s_barge_of) (by decide +kernel)) (fun _ _ _ _ _ => (pg_name (i := 1) sc_barge_of.nd rfl (Or.inl rfl))) (fun _ _ _ _ _ => pts_nil) (fun _ _ _ _ _ => (pe_call (okx_number_of T) (hr.mono (by decide)) (by rfl) T.g_number_of T.F_number_of.kp T.b_number_of .nil LX.blk_pass (pa_cons (pv 1) pa_nil)))) pa_nil))))), ?_⟩
    have hl : (strsV ws).length = ws.length := by unfold strsV; rw [List.length_map]
    refine ⟨_, rfl, d, _, rfl, .inl hd, rfl, _, rfl, ?_⟩
    by_cases h5 : ws.length = 5
    case neg =>
      rw [decide_eq_false (fun z => by injection z with z; rw [hl] at z; exact h5 (by omega))]
      refine iteT ?_
      exact qE (.inl h5) _ Ext.refl
    refine iteNS (by rw [hl, h5]; rfl) ?_
    refine ⟨_, rfl, d, rfl, ⟨_, hd⟩, fun D hD => lc_list (xs := strsV ws) (fun i H3 => Ext [] H H3 ∧ i ≤ ws.length ∧ ∃ ns, NumsW (ws.take i) ns ∧ H3 D = some (.lst (ns.map V.int))) ⟨Ext.new hD, Nat.zero_le _, [], ⟨rfl, by simp⟩, upd_same⟩ (fun _ _ _ z => z.1.sqL (by simp) hd) (fun i x H3 hx z => ?_) (fun H3 z => ?_)⟩
    · obtain ⟨e3, _, ns, hn, hL⟩ := z
      obtain ⟨w, hw2, rfl⟩ := map_get hx
      have hi : i < ws.length := (List.getElem?_eq_some_iff.mp hw2).1
      have hm := List.mem_of_getElem? hw2
      have ln := numsW_len hn
      rw [List.length_take] at ln
      refine ⟨rfl, yesT ⟨_, rfl, w, rfl, hw w hm, tb.ext e3, fun n hnw H4 e4 => ?_, fun hb H4 e4 => ?_⟩⟩
      · refine ⟨_, e4.lst D _ (by simp) hL, small1000 (by rw [List.length_map]; omega), (e3.trans e4).wrNew hD, hi, ns ++ [n], ?_, ?_⟩
        · rw [List.take_add_one, hw2]
          exact numsW_snoc hn hnw
        · rw [upd_same, List.map_append]
          rfl
      · exact qE (.inr (by rw [List.all_eq_false]; exact ⟨w, hm, by rw [hb]; decide⟩)) _ (e3.trans e4)
    obtain ⟨e3, _, ns, hn, hL⟩ := z
    rw [hl, List.take_length] at hn
    refine ⟨D, _, rfl, .inl ⟨.inl (.inl hL), fun t ht => ?_⟩⟩
    exact q h5 _ hn _ _ (e3.trans (Ext.new ht)) (.tup sqT_new (td_ints ns))

def spxHourOf (A : Ad) (K : PySem.W.Frag) : Sp := fun vs H Q E => ∃ (w : Str), vs = [.str w] ∧ w.length ≤ 600 ∧ Tabs A H ∧ (w = "-" → Q .non H) ∧ (∀ n, NumW w n → ∀ H', Ext [] H H' → Q (.int n) H') ∧ (hourWB w = false → ∀ H', Ext [] H H' → E (.ref A.c_BadText) none H')
theorem okx_hour_of (T : Facts A K mg base) : FnOk P w K mg base (L2.CX P w) 3 A.a_hour_of A.d_hour_of ["word"] (spxHourOf A K) := by
  refine T.F_hour_of.ok sc_hour_of (fun vs H Q E h => ?_) (fun cdv A1 outer s H vs Q E hr h => ?_)
  · obtain ⟨w, rfl, _⟩ := h
    rfl
  · obtain ⟨w, rfl, hw, tb, q0, q1, qE⟩ := h
    refine ⟨_, id (pss_one (ps_ret (pe_ifExp (pt_cmpR op_eq (pv 0) pe_str (nomark _)) pe_non (pe_call (okx_number_of T) (hr.mono (by decide)) (by rfl) T.g_number_of T.F_number_of.kp T.b_number_of .nil (passes_call (takes_of rfl rfl rfl rfl) (fun _ _ _ _ h => h)) (pa_cons (pv 0) pa_nil))))), ?_⟩
    refine ⟨_, rfl, rfl, _, rfl, ?_⟩
    by_cases h : w = "-"
    · exact iteD (congrArg V.str h) (q0 h)
    refine iteDn (fun z => h (V.str.inj z)) ⟨_, rfl, w, rfl, hw, tb, q1, fun hb => qE ?_⟩
    unfold hourWB
    rw [hb, decide_eq_false h]
    rfl

def spxRead (A : Ad) (K : PySem.W.Frag) : Sp := fun vs H Q E => ∃ (Ls : List Str) (Rs : List RowW), vs = [.str (Txt.join "\n" Ls)] ∧ LinesW Ls Rs ∧ Tabs A H ∧ (textB Rs = false → ∀ H', Ext [] H H' → E (.ref A.c_BadText) none H') ∧ (textB Rs = true → bookB (bookW Rs) = true → planB (bargesOf (bookW Rs)) (planW Rs) = true → ∀ H' p, Ext [] H H' → Q (.ref p) H') ∧ (textB Rs = true → bookB (bookW Rs) = false → ∀ H', Ext [] H H' → E (.ref A.c_BadBook) none H') ∧ (textB Rs = true → bookB (bookW Rs) = true → planB (bargesOf (bookW Rs)) (planW Rs) = false → ∀ H', Ext [] H H' → E (.ref A.c_BadPlan) none H')
theorem okx_read (T : Facts A K mg base) : FnOk P w K mg base (L2.CX P w) 7 A.a_read A.d_read ["text"] (spxRead A K) := by
  refine T.F_read.ok sc_read (fun vs H Q E h => ?_) (fun cdv A1 outer s H vs Q E hr h => ?_)
  · obtain ⟨Ls, Rs, rfl, _⟩ := h
    rfl
  · obtain ⟨Ls, Rs, rfl, lw, tb, qT, q, qB, qP⟩ := h
    refine ⟨_, id (pss_cons (ps_setLc (i := 1) (own := [("row", 2)]) (g := (gName 2)) rfl sc_read.nd rfl rfl (sw_true rfl rfl rfl (by decide +kernel)) (pi_list (pe_split (pv 0) pe_str)) (blkOk_by (own := [("row", 2)]) (N := ["text", "rows", "row", "names", "many", "stretches", "barges", "plan", "word", "book"]) (sc := defScope s_read) (by decide +kernel)) (fun _ _ _ _ _ => (pg_name (i := 2) sc_read.nd rfl (Or.inl rfl))) (fun _ _ _ _ _ => pts_nil) (fun _ _ _ _ _ => (pe_split (pv 2) pe_str)))
      (pss_cons (ps_setLc (i := 3) (own := [("row", 2)]) (g := (gName 2)) rfl sc_read.nd rfl rfl (sw_true rfl rfl rfl (by decide +kernel)) (pi_list (pv 1)) (blkOk_by (own := [("row", 2)]) (N := ["text", "rows", "row", "names", "many", "stretches", "barges", "plan", "word", "book"]) (sc := defScope s_read) (by decide +kernel)) (fun _ _ _ _ _ => (pg_name (i := 2) sc_read.nd rfl (Or.inl rfl))) (fun _ _ _ _ _ => pts_nil) (fun _ _ _ _ _ => (pe_ix (ixK K rfl) (pv 2) pe_int (fun _ _ => rfl))))
      (pss_cons (ps_set (i := 4) sc_read.nd rfl (Or.inl rfl) (GXC.pe_bmK K rfl PySem.F.plainAttrs_list PySem.F.slot_list_count PySem.F.type_list_count (GXC.countK K rfl) (pv 3) (pa_cons pe_str pa_nil)))
      (pss_cons (ps_if (pt_cmpR (op_neD hr.units) (pv 3) (pe_op op_cat (pe_op op_cat (pe_op op_rep (pe_lst (pa_cons pe_str pa_nil)) (pv 4)) (pe_op op_rep (pe_lst (pa_cons pe_str pa_nil)) (GXC.pe_bmK K rfl PySem.F.plainAttrs_list PySem.F.slot_list_count PySem.F.type_list_count (GXC.countK K rfl) (pv 3) (pa_cons pe_str pa_nil)))) (pe_lst (pa_cons pe_str pa_nil))) (nomark _)) (pss_one (ps_raise rfl (takes_of rfl rfl rfl rfl) (pmk_own PySem.F.excBase_ValueError T.x_BadText T.g_BadText T.kp_BadText (raises_own T.sb_BadText T.tp_BadText) (by rfl)))) pss_nil)
      (pss_cons (ps_set (i := 5) sc_read.nd rfl (Or.inl rfl) (pe_callTy call_tuple_of (by rfl) T.n_tuple (by decide +kernel) (pa_cons (LX.pe_lcX (E := E) (W := fun cls d _ H => E cls d H) (takes_of rfl rfl rfl rfl) rfl rfl (fun _ _ _ _ h => h) (own := [("row", 2)]) (g := (gName 2)) rfl sc_read.nd (pi_list (pe_slice sl_list (pv 1) po_none (po_some (pv 4)))) (blkOk_by (own := [("row", 2)]) (N := ["text", "rows", "row", "names", "many", "stretches", "barges", "plan", "word", "book"]) (sc := defScope s_read) (by decide +kernel)) (fun _ _ _ _ _ => (pg_name (i := 2) sc_read.nd rfl (Or.inl rfl))) (fun _ _ _ _ _ => pts_nil) (fun _ _ _ _ _ => (pe_call (okx_stretch_of T) (hr.mono (by decide)) (by rfl) T.g_stretch_of T.F_stretch_of.kp T.b_stretch_of .nil LX.blk_pass (pa_cons (pe_slice (slLK K rfl) (pv 2) (po_some pe_int) po_none) pa_nil)))) pa_nil)))
      (pss_cons (ps_set (i := 6) sc_read.nd rfl (Or.inl rfl) (pe_callTy call_tuple_of (by rfl) T.n_tuple (by decide +kernel) (pa_cons (LX.pe_lcX (E := E) (W := fun cls d _ H => E cls d H) (takes_of rfl rfl rfl rfl) rfl rfl (fun _ _ _ _ h => h) (own := [("row", 2)]) (g := (gName 2)) rfl sc_read.nd (pi_list (pe_slice sl_list (pv 1) (po_some (pv 4)) (po_some (pe_un un_neg pe_int)))) (blkOk_by (own := [("row", 2)]) (N := ["text", "rows", "row", "names", "many", "stretches", "barges", "plan", "word", "book"]) (sc := defScope s_read) (by decide +kernel)) (fun _ _ _ _ _ => (pg_name (i := 2) sc_read.nd rfl (Or.inl rfl))) (fun _ _ _ _ _ => pts_nil) (fun _ _ _ _ _ => (pe_call (okx_barge_of T) (hr.mono (by decide)) (by rfl) T.g_barge_of T.F_barge_of.kp T.b_barge_of .nil LX.blk_pass (pa_cons (pe_slice (slLK K rfl) (pv 2) (po_some pe_int) po_none) pa_nil)))) pa_nil)))
      (pss_cons (ps_set (i := 7) sc_read.nd rfl (Or.inl rfl) (pe_callTy call_tuple_of (by rfl) T.n_tuple (by decide +kernel) (pa_cons (LX.pe_lcX (E := E) (W := fun cls d _ H => E cls d H) (takes_of rfl rfl rfl rfl) rfl rfl (fun _ _ _ _ h => h) (own := [("word", 8)]) (g := (gName 8)) rfl sc_read.nd (pi_list (pe_slice sl_list (pe_ix ix_seq (pv 1) (pe_un un_neg pe_int) (fun _ _ => rfl)) (po_some pe_int) po_none)) (blkOk_by (own := [("word", 8)]) (N := ["text", "rows", "row", "names", "many", "stretches", "barges", "plan", "word", "book"]) (sc := defScope s_read) (by decide +kernel)) (fun _ _ _ _ _ => (pg_name (i := 8) sc_read.nd rfl (Or.inl rfl))) (fun _ _ _ _ _ => pts_nil) (fun _ _ _ _ _ => (pe_call (okx_hour_of T) (hr.mono (by decide)) (by rfl) T.g_hour_of T.F_hour_of.kp T.b_hour_of .nil LX.blk_pass (pa_cons (pv 8) pa_nil)))) pa_nil)))
      (pss_cons (ps_set (i := 9) sc_read.nd rfl (Or.inl rfl) (pe_tup (pa_cons (pv 5) (pa_cons (pv 6) pa_nil))))
      (pss_cons (ps_expr (pe_call (okd_check_plan T) (hr.mono (by decide)) (by rfl) T.g_check_plan T.F_check_plan.kp T.b_check_plan .nil (passes_call (takes_of rfl rfl rfl rfl) (fun _ _ _ _ h => h)) (pa_cons (pv 9) (pa_cons (pv 7) pa_nil))))
      (pss_one (ps_ret (pe_tup (pa_cons (pv 9) (pa_cons (pv 7) pa_nil)))))))))))))), ?_⟩
    have n20 := lw.n20
    have lr := lw.len
    have ez := sizeLine_eq
    -- rows
    refine ⟨_, rfl, ⟨_, rfl⟩, _, _, rfl, rfl, by decide +kernel, lw.text, fun S hS => ?_⟩
    rw [lw.split]
    have eS := Ext.new (ex := []) (o := .lst (strsV Ls)) hS
    refine ⟨S, rfl, ⟨_, .inl (.inl upd_same)⟩, fun D hD => lc_list (xs := strsV Ls) (fun i H3 => Ext [] (upd H S (.lst (strsV Ls))) H3 ∧ i ≤ Ls.length ∧ ∃ us, H3 D = some (.lst us) ∧ Paired (IsRowW K H3) us (Rs.take i) ∧ ∀ u ∈ us, u ≠ .ref D) ⟨Ext.new hD, Nat.zero_le _, [], upd_same, .nil, by simp⟩ (fun _ _ _ z => .inl (.inl (z.1.lst S _ (by simp) upd_same))) (fun i x H3 hx z => ?_) (fun H3 z => ?_)⟩
    · obtain ⟨e3, _, us, hL, pu, hne⟩ := z
      obtain ⟨w, hw, rfl⟩ := map_get hx
      have hi : i < Ls.length := (List.getElem?_eq_some_iff.mp hw).1
      obtain ⟨r, hr, hs⟩ := lw.get hw
      have lu := plen pu
      rw [List.length_take] at lu
      have hlen := (lw.line _ (List.mem_of_getElem? hw)).2
      refine ⟨rfl, yesT ⟨_, rfl, ⟨_, rfl⟩, _, _, rfl, rfl, by decide +kernel, by omega, fun p hp => ?_⟩⟩
      rw [hs]
      have e4 := Ext.new (ex := []) (o := .lst (strsV (r.1 :: r.2))) hp
      have hL4 := e4.lst D _ (by simp) hL
      have nDp : D ≠ p := ne_of_none hL hp
      refine ⟨_, hL4, small1000 (by omega), (e3.trans e4).wrNew hD, by omega, _, upd_same, ?_, ?_⟩
      · rw [List.take_add_one, hr]
        refine papp (paired_memP pu fun v' r' hm z => rowW_wr hL4 (hne v' hm) (e4.rowW z)) ⟨p, rfl, .inl (.inl ?_)⟩
        rw [upd_ne nDp.symm]
        exact upd_same
      · intro u hu
        rcases List.mem_append.mp hu with hu | hu
        · exact hne u hu
        · rw [List.mem_singleton.mp hu]
          intro z
          exact nDp (V.ref.inj z).symm
    obtain ⟨e3, _, us, hD3, pu, _⟩ := z
    have hll : (strsV Ls).length = Rs.length := by unfold strsV; rw [List.length_map, lr]
    rw [hll, List.take_length] at pu
    have lu := plen pu
    have f3 := eS.trans e3
    -- names
    refine ⟨_, rfl, D, rfl, ⟨_, .inl (.inl hD3)⟩, fun N hN => lc_list (xs := us) (fun i H4 => Ext [] H3 H4 ∧ i ≤ us.length ∧ H4 N = some (.lst (strsV ((Rs.take i).map (·.1))))) ⟨Ext.new hN, Nat.zero_le _, upd_same⟩ (fun _ _ _ z => .inl (.inl (z.1.lst D _ (by simp) hD3))) (fun i x H4 hx z => ?_) (fun H4 z => ?_)⟩
    · obtain ⟨e4, _, hL⟩ := z
      obtain ⟨r, hr, d, rfl, hd⟩ := pget pu hx
      have hi : i < us.length := (List.getElem?_eq_some_iff.mp hx).1
      refine ⟨rfl, yesT ⟨_, rfl, .inl ⟨d, _, 0, _, rfl, rfl, e4.sqL (by simp) hd, atI_nat (j := 0) rfl, ?_⟩⟩⟩
      refine ⟨_, hL, small1000 (by unfold strsV; rw [List.length_map, List.length_map, List.length_take]; omega), e4.wrNew hN, hi, ?_⟩
      rw [upd_same, map_take hr]
      unfold strsV
      rw [List.map_append]
      rfl
    obtain ⟨e4, _, hN4⟩ := z
    rw [lu, List.take_length] at hN4
    have hN4 : H4 N = some (.lst (strsV (namesW Rs))) := hN4
    have f4 := f3.trans e4
    have lnm : (namesW Rs).length = Rs.length := by unfold namesW; rw [List.length_map]
    have hnn : (strsV (namesW Rs)).length = Rs.length := by unfold strsV; rw [List.length_map, lnm]
    have ca : (namesW Rs).count ("stretch" : Str) ≤ Rs.length := by rw [← lnm]; exact List.count_le_length
    have cb : (namesW Rs).count ("barge" : Str) ≤ Rs.length := by rw [← lnm]; exact List.count_le_length
    have shN := shaped_at (lay_strs (ys := namesW Rs) fun y hy => by
      obtain ⟨r, hr, rfl⟩ := List.mem_map.mp hy
      exact (lw.row r hr).2.2) (by decide)
    have patD : patB (namesW Rs) = decide (namesW Rs = List.replicate ((namesW Rs).count ("stretch" : Str)) ("stretch" : Str) ++ List.replicate ((namesW Rs).count ("barge" : Str)) ("barge" : Str) ++ (("plan" : Str) :: [])) := rfl
    have pw := fun h => patW_of (Rs := Rs) h
    have tB : textB Rs = (patB (namesW Rs) && Rs.all rowWB) := rfl
    have cst := count_strs ("stretch" : Str) (namesW Rs)
    have cba := count_strs ("barge" : Str) (namesW Rs)
    have bkW : bookW Rs = .tuple [.tuple ((Rs.take ((namesW Rs).count ("stretch" : Str))).map strW), .tuple (((Rs.drop ((namesW Rs).count ("stretch" : Str))).take ((namesW Rs).count ("barge" : Str))).map barW)] := rfl
    refine ⟨_, rfl, .inl ⟨rfl, _, .inl (.inl hN4)⟩, N, _, _, rfl, rfl, .inl (.inl hN4), rfl, flat_strs2 _, ?_⟩
    rw [cst]
    generalize (namesW Rs).count ("stretch" : Str) = a at ca patD pw bkW ⊢
    generalize hcb : (namesW Rs).count ("barge" : Str) = b at cb patD pw bkW cba
    -- the names in their order
    refine ⟨_, rfl, by show 1 ≤ sizeLine; decide, fun s1 hs1 => ?_⟩
    have g1 := Ext.new (ex := []) (o := .lst [.str "stretch"]) hs1
    refine ⟨_, rfl, s1, _, _, rfl, rfl, upd_same, by omega, by omega, (by rw [Int.toNat_natCast]; show 1 * a ≤ sizeLine; omega), fun s2 hs2 => ?_⟩
    have g2 := Ext.new (ex := []) (o := .lst (List.replicate (a : Int).toNat [V.str "stretch"]).flatten) hs2
    refine ⟨by show 1 ≤ sizeLine; decide, fun s3 hs3 => ?_⟩
    have g3 := Ext.new (ex := []) (o := .lst [.str "barge"]) hs3
    have hN5 := g3.lst N _ (by simp) (g2.lst N _ (by simp) (g1.lst N _ (by simp) hN4))
    refine ⟨_, rfl, .inl ⟨rfl, _, .inl (.inl hN5)⟩, N, _, _, rfl, rfl, .inl (.inl hN5), rfl, flat_strs2 _, ?_⟩
    rw [cba]
    refine ⟨s3, _, _, rfl, rfl, upd_same, by omega, by omega, (by rw [Int.toNat_natCast]; show 1 * b ≤ sizeLine; omega), fun s4 hs4 => ?_⟩
    have g4 := Ext.new (ex := []) (o := .lst (List.replicate (b : Int).toNat [V.str "barge"]).flatten) hs4
    have ef1 : (List.replicate (a : Int).toNat [V.str "stretch"]).flatten = strsV (List.replicate a ("stretch" : Str)) := by
      rw [Int.toNat_natCast]
      unfold strsV
      rw [List.map_replicate]
      exact List.flatten_replicate_singleton
    have ef2 : (List.replicate (b : Int).toNat [V.str "barge"]).flatten = strsV (List.replicate b ("barge" : Str)) := by
      rw [Int.toNat_natCast]
      unfold strsV
      rw [List.map_replicate]
      exact List.flatten_replicate_singleton
    have l1 : (strsV (List.replicate a ("stretch" : Str))).length = a := by unfold strsV; rw [List.length_map, List.length_replicate]
    have l2 : (strsV (List.replicate b ("barge" : Str))).length = b := by unfold strsV; rw [List.length_map, List.length_replicate]
    refine ⟨s2, s4, _, _, rfl, rfl, g4.lst s2 _ (by simp) (g3.lst s2 _ (by simp) upd_same), upd_same, (by rw [ef1, ef2, l1, l2]; omega), fun s5 hs5 => ?_⟩
    have g5 := Ext.new (ex := []) (o := .lst ((List.replicate (a : Int).toNat [V.str "stretch"]).flatten ++ (List.replicate (b : Int).toNat [V.str "barge"]).flatten)) hs5
    refine ⟨by show 1 ≤ sizeLine; decide, fun s6 hs6 => ?_⟩
    have g6 := Ext.new (ex := []) (o := .lst [.str "plan"]) hs6
    refine ⟨s5, s6, _, _, rfl, rfl, g6.lst s5 _ (by simp) upd_same, upd_same, (by rw [ef1, ef2, List.length_append, l1, l2]; simp; omega), fun s7 hs7 => ?_⟩
    have g7 := Ext.new (ex := []) (o := .lst ((List.replicate (a : Int).toNat [V.str "stretch"]).flatten ++ (List.replicate (b : Int).toNat [V.str "barge"]).flatten ++ [.str "plan"])) hs7
    have g17 := g1.trans (g2.trans (g3.trans (g4.trans (g5.trans (g6.trans g7)))))
    have hN7 := g17.lst N _ (by simp) hN4
    have eall : (List.replicate (a : Int).toNat [V.str "stretch"]).flatten ++ (List.replicate (b : Int).toNat [V.str "barge"]).flatten ++ [V.str "plan"] = strsV (List.replicate a ("stretch" : Str) ++ List.replicate b ("barge" : Str) ++ (("plan" : Str) :: [])) := by
      rw [ef1, ef2]
      unfold strsV
      rw [List.map_append, List.map_append]
      rfl
    have shP := shaped_at (lay_strs (ys := List.replicate a ("stretch" : Str) ++ List.replicate b ("barge" : Str) ++ (("plan" : Str) :: [])) fun y hy => by
      rcases List.mem_append.mp hy with hy | hy
      · rcases List.mem_append.mp hy with hy | hy
        · rw [(List.mem_replicate.mp hy).2]; decide +kernel
        · rw [(List.mem_replicate.mp hy).2]; decide +kernel
      · rw [List.mem_singleton.mp hy]; decide +kernel) (by decide)
    refine ⟨.list (strsD (namesW Rs)), .list (strsD (List.replicate a ("stretch" : Str) ++ List.replicate b ("barge" : Str) ++ (("plan" : Str) :: []))), .lst (.inl (.inl hN7)) (dp_strs _), .lst (.inl (.inl upd_same)) (by rw [eall]; exact dp_strs _), shN, shP, ?_⟩
    rw [eqv_strs, ← patD]
    have f7 := f4.trans g17
    have e37 := e4.trans g17
    have hD7 := e37.lst D _ (by simp) hD3
    have pu7 := Paired.mapP pu fun _ _ z => e37.rowW z
    generalize upd (upd (upd (upd (upd (upd (upd H4 s1 _) s2 _) s3 _) s4 _) s5 _) s6 _) s7 _ = H7 at f7 e37 hD7 pu7 ⊢
    cases hpat : patB (namesW Rs) with
    | false =>
      refine ⟨_, rfl, iteT ?_⟩
      exact qT (by rw [tB, hpat, Bool.false_and]) _ f7
    | true =>
    refine ⟨_, rfl, iteF ?_⟩
    have pat := pw hpat
    have lRs := pat.len
    have lus : us.length = a + b + 1 := by omega
    -- stretches
    refine ⟨.ref D, rfl, .int (a : Int), rfl, (a : Int), rfl, D, us, rfl, .inl (.inl hD7), fun p8 hp8 => ?_⟩
    rw [cut_upto _ _ (by omega)]
    have e8 := Ext.new (ex := []) (o := .lst (us.take a)) hp8
    generalize hH8 : upd H7 p8 (.lst (us.take a)) = H8 at e8 ⊢
    have hp8' : H8 p8 = some (.lst (us.take a)) := by rw [← hH8]; exact upd_same
    refine ⟨p8, rfl, ⟨_, .inl (.inl hp8')⟩, fun S2 hS2 => lc_list (xs := us.take a) (fun i H9 => Ext [] H8 H9 ∧ i ≤ a ∧ ∃ vs, H9 S2 = some (.lst vs) ∧ TdAll K H9 vs ((Rs.take i).map strW) ∧ ∀ j r, j < i → Rs[j]? = some r → rowWB r = true) ⟨Ext.new hS2, Nat.zero_le _, [], upd_same, .nil, fun j r hj => absurd hj (by omega)⟩ (fun _ _ _ z => .inl (.inl (z.1.lst p8 _ (by simp) hp8'))) (fun i x H9 hx z => ?_) (fun H9 z => ?_)⟩
    · obtain ⟨e9, _, vs, hL, pv, good⟩ := z
      have hi : i < (us.take a).length := (List.getElem?_eq_some_iff.mp hx).1
      rw [List.length_take] at hi
      have hi2 : i < a := by omega
      rw [List.getElem?_take_of_lt hi2] at hx
      obtain ⟨r, hr, d, rfl, hd⟩ := pget pu7 hx
      have hname := (pat.fst hr).1 hi2
      have hmem := List.mem_of_getElem? hr
      obtain ⟨r30, r600, _⟩ := lw.row r hmem
      have lv := dpLen pv.dp
      rw [List.length_map, List.length_take] at lv
      refine ⟨rfl, yesT ⟨_, rfl, ((1 : Nat) : Int), rfl, ?_⟩⟩
      first | (unfold tNoPart; dsimp only) | dsimp only
      refine ⟨d, _, rfl, e9.sqL (by simp) (e8.sqL (by simp) hd), fun p hp => ?_⟩
      rw [cut_list]
      have e10 := Ext.new (ex := []) (o := .lst ((strsV (r.1 :: r.2)).drop 1)) hp
      refine ⟨p, r.2, rfl, .inl (.inl upd_same), by omega, r600, tb.ext (f7.trans (e8.trans (e9.trans e10))), fun h3 ns hns H11 v e11 is => ?_, fun hb H11 e11 => qT (text_row hmem (row_stretch hname hb)) _ (f7.trans (e8.trans (e9.trans (e10.trans e11))))⟩
      have f := e10.trans e11
      have hL' := f.lst S2 _ (by simp) hL
      have w : Ext [S2] _ _ := Ext.wr (ys := vs ++ [v]) (ex := [S2]) (by simp) hL'
      refine ⟨_, hL', small1000 (by omega), (e9.trans f).wrNew hS2, hi2, _, upd_same, ?_, fun j r' hj hr' => ?_⟩
      · rw [map_take hr]
        refine TdAll.app (w.tdAll (f.tdAll pv)) (.cons (w.td ?_) .nil)
        unfold strW
        rw [← numsV_of hns]
        exact is
      · rcases Nat.lt_or_ge j i with hj2 | hj2
        · exact good j r' hj2 hr'
        · rw [show j = i by omega, hr] at hr'
          cases hr'
          exact rowOk_stretch hname h3 (numsW_true hns)
    obtain ⟨e9, _, vs, hS9, pv, good1⟩ := z
    have ltk : (us.take a).length = a := by rw [List.length_take]; omega
    rw [ltk] at pv
    refine ⟨S2, _, rfl, .inl ⟨.inl (.inl hS9), fun t1 ht1 => ?_⟩⟩
    have ir : Td K (upd H9 t1 (.tup vs)) (.ref t1) (.tuple ((Rs.take a).map strW)) := .tup sqT_new ((Ext.new (ex := []) ht1).tdAll pv)
    have f9 := e8.trans (e9.trans (Ext.new (ex := []) (o := .tup vs) ht1))
    have hD9 := f9.lst D _ (by simp) hD7
    have pu9 := Paired.mapP pu7 fun _ _ z => f9.rowW z
    have f9 := f7.trans f9
    generalize upd H9 t1 (.tup vs) = H10 at ir f9 hD9 pu9 ⊢
    -- barges
    refine ⟨.ref D, rfl, .int (a : Int), rfl, (a : Int), rfl, 1, rfl, (-1 : Int), rfl, D, us, rfl, .inl (.inl hD9), fun p8 hp8 => ?_⟩
    rw [cut_mid _ _ (by omega), show us.length - 1 - a = b by omega]
    have e8 := Ext.new (ex := []) (o := .lst ((us.drop a).take b)) hp8
    generalize hH8 : upd H10 p8 (.lst ((us.drop a).take b)) = H8 at e8 ⊢
    have hp8' : H8 p8 = some (.lst ((us.drop a).take b)) := by rw [← hH8]; exact upd_same
    have lbt : ((us.drop a).take b).length = b := by rw [List.length_take, List.length_drop]; omega
    refine ⟨p8, rfl, ⟨_, .inl (.inl hp8')⟩, fun S2 hS2 => lc_list (xs := (us.drop a).take b) (fun i H9 => Ext [] H8 H9 ∧ i ≤ b ∧ ∃ vs, H9 S2 = some (.lst vs) ∧ TdAll K H9 vs (((Rs.drop a).take i).map barW) ∧ ∀ j r, j < i → Rs[a + j]? = some r → rowWB r = true) ⟨Ext.new hS2, Nat.zero_le _, [], upd_same, .nil, fun j r hj => absurd hj (by omega)⟩ (fun _ _ _ z => .inl (.inl (z.1.lst p8 _ (by simp) hp8'))) (fun i x H9 hx z => ?_) (fun H9 z => ?_)⟩
    · obtain ⟨e9, _, vs, hL, pv, good⟩ := z
      have hi : i < ((us.drop a).take b).length := (List.getElem?_eq_some_iff.mp hx).1
      rw [lbt] at hi
      rw [List.getElem?_take_of_lt hi, List.getElem?_drop] at hx
      obtain ⟨r, hr, d, rfl, hd⟩ := pget pu9 hx
      have hname := (pat.fst hr).2.1 (by omega) (by omega)
      have hmem := List.mem_of_getElem? hr
      obtain ⟨r30, r600, _⟩ := lw.row r hmem
      have lv := dpLen pv.dp
      rw [List.length_map, List.length_take] at lv
      refine ⟨rfl, yesT ⟨_, rfl, ((1 : Nat) : Int), rfl, ?_⟩⟩
      first | (unfold tNoPart; dsimp only) | dsimp only
      refine ⟨d, _, rfl, e9.sqL (by simp) (e8.sqL (by simp) hd), fun p hp => ?_⟩
      rw [cut_list]
      have e10 := Ext.new (ex := []) (o := .lst ((strsV (r.1 :: r.2)).drop 1)) hp
      refine ⟨p, r.2, rfl, .inl (.inl upd_same), by omega, r600, tb.ext (f9.trans (e8.trans (e9.trans e10))), fun h3 ns hns H11 v e11 is => ?_, fun hb H11 e11 => qT (text_row hmem (row_barge hname hb)) _ (f9.trans (e8.trans (e9.trans (e10.trans e11))))⟩
      have f := e10.trans e11
      have hL' := f.lst S2 _ (by simp) hL
      have w : Ext [S2] _ _ := Ext.wr (ys := vs ++ [v]) (ex := [S2]) (by simp) hL'
      refine ⟨_, hL', small1000 (by omega), (e9.trans f).wrNew hS2, hi, _, upd_same, ?_, fun j r' hj hr' => ?_⟩
      · rw [map_take (by rw [List.getElem?_drop]; exact hr)]
        refine TdAll.app (w.tdAll (f.tdAll pv)) (.cons (w.td ?_) .nil)
        unfold barW
        rw [← numsV_of hns]
        exact is
      · rcases Nat.lt_or_ge j i with hj2 | hj2
        · exact good j r' hj2 hr'
        · rw [show j = i by omega, hr] at hr'
          cases hr'
          exact rowOk_barge hname h3 (numsW_true hns)
    obtain ⟨e9, _, vs2, hS9, pv2, good2⟩ := z
    rw [lbt] at pv2
    refine ⟨S2, _, rfl, .inl ⟨.inl (.inl hS9), fun t2 ht2 => ?_⟩⟩
    have ib : Td K (upd H9 t2 (.tup vs2)) (.ref t2) (.tuple (((Rs.drop a).take b).map barW)) := .tup sqT_new ((Ext.new (ex := []) ht2).tdAll pv2)
    have f10 := e8.trans (e9.trans (Ext.new (ex := []) (o := .tup vs2) ht2))
    have hD11 := f10.lst D _ (by simp) hD9
    have pu11 := Paired.mapP pu9 fun _ _ z => f10.rowW z
    have ir := f10.td ir
    have f10 := f9.trans f10
    generalize upd H9 t2 (.tup vs2) = H11 at ib ir f10 hD11 pu11 ⊢
    -- the plan
    obtain ⟨r, er⟩ : ∃ r, Rs[a + b]? = some r := ⟨_, List.getElem?_eq_getElem (by omega)⟩
    have hname := (pat.fst er).2.2 rfl
    have hmem := List.mem_of_getElem? er
    obtain ⟨r30, r600, _⟩ := lw.row r hmem
    have hplan : planW Rs = .tuple (r.2.map hourV) := by
      unfold planW
      rw [List.getD_eq_getElem?_getD, show Rs.length - 1 = a + b by omega, er]
      rfl
    obtain ⟨u, hu, d, rfl, hd⟩ := pgetR pu11 er
    have hus : us = us.take (a + b) ++ [.ref d] := by
      have e : us.take (a + b + 1) = us := List.take_of_length_le (by omega)
      rw [List.take_add_one, hu] at e
      exact e.symm
    have hat : atI us (-1) = some (.ref d) := by rw [hus]; exact atI_last _ _
    refine ⟨.ref D, rfl, 1, rfl, .inl ⟨D, _, -1, _, rfl, rfl, .inl (.inl hD11), hat, ((1 : Nat) : Int), rfl, ?_⟩⟩
    first | (unfold tNoPart; dsimp only) | dsimp only
    refine ⟨d, _, rfl, hd, fun p8 hp8 => ?_⟩
    rw [cut_list]
    have e8 := Ext.new (ex := []) (o := .lst (strsV r.2)) hp8
    generalize hH8 : upd H11 p8 _ = H8
    have hH8 : upd H11 p8 (.lst (strsV r.2)) = H8 := hH8
    rw [hH8] at e8
    have hp8' : H8 p8 = some (.lst (strsV r.2)) := by rw [← hH8]; exact upd_same
    have lpt : (strsV r.2).length = r.2.length := by unfold strsV; rw [List.length_map]
    refine ⟨p8, rfl, ⟨_, .inl (.inl hp8')⟩, fun S3 hS3 => lc_list (xs := strsV r.2) (fun i H9 => Ext [] H8 H9 ∧ i ≤ r.2.length ∧ ∃ vs, H9 S3 = some (.lst vs) ∧ TdAll K H9 vs ((r.2.take i).map hourV) ∧ (r.2.take i).all hourWB = true) ⟨Ext.new hS3, Nat.zero_le _, [], upd_same, .nil, rfl⟩ (fun _ _ _ z => .inl (.inl (z.1.lst p8 _ (by simp) hp8'))) (fun i x H9 hx z => ?_) (fun H9 z => ?_)⟩
    · obtain ⟨e9, _, vs, hL, pv, good⟩ := z
      obtain ⟨w, hw, rfl⟩ := map_get hx
      have hi : i < r.2.length := (List.getElem?_eq_some_iff.mp hw).1
      have hm := List.mem_of_getElem? hw
      have lv := dpLen pv.dp
      rw [List.length_map, List.length_take] at lv
      have allh : hourWB w = true → (r.2.take (i + 1)).all hourWB = true := fun z => by
        rw [List.take_add_one, hw, List.all_append, good]
        show (true && (hourWB w && true)) = true
        rw [z]
        rfl
      have fin : ∀ {v : V} {H12 : Hp}, Ext [] H9 H12 → Td K H12 v (hourV w) → TdAll K (upd H12 S3 (.lst (vs ++ [v]))) (vs ++ [v]) ((r.2.take (i + 1)).map hourV) := fun {v H12} e12 is => by
        have hL' := e12.lst S3 _ (by simp) hL
        have w : Ext [S3] _ _ := Ext.wr (ys := vs ++ [v]) (ex := [S3]) (by simp) hL'
        rw [map_take hw]
        exact TdAll.app (w.tdAll (e12.tdAll pv)) (.cons (w.td is) .nil)
      refine ⟨rfl, yesT ⟨_, rfl, w, rfl, r600 w hm, tb.ext (f10.trans (e8.trans e9)), fun h0 => ?_, fun n hn H12 e12 => ?_, fun hb H12 e12 => qT (text_row hmem (row_plan hname (by rw [List.all_eq_false]; exact ⟨w, hm, by rw [hb]; decide⟩))) _ (f10.trans (e8.trans (e9.trans e12)))⟩⟩
      · exact ⟨_, hL, small1000 (by omega), e9.wrNew hS3, hi, _, upd_same, fin Ext.refl (by unfold hourV; rw [if_pos h0]; exact .non), allh (by unfold hourWB; rw [decide_eq_true h0]; rfl)⟩
      · refine ⟨_, e12.lst S3 _ (by simp) hL, small1000 (by omega), (e9.trans e12).wrNew hS3, hi, _, upd_same, fin e12 ?_, allh (by unfold hourWB; rw [numW_true hn, Bool.or_true])⟩
        unfold hourV
        rw [if_neg (fun z => ?_), numV_of hn]
        · exact .int n
        · obtain ⟨⟨h0, h9⟩, e⟩ := hn
          obtain ⟨m, rfl⟩ : ∃ m : Nat, n = (m : Int) := ⟨n.toNat, by omega⟩
          have z3 : tl (cellS (some (m : Int))) = tl (cellS none) := congrArg tl (e.symm.trans z)
          have e45 : tl (cellS none) = [45] := by decide +kernel
          rw [cell_num, e45] at z3
          have := numL_digits m 45 (by rw [z3]; simp)
          omega
    obtain ⟨e9, _, vs3, hS9, pv3, good3⟩ := z
    rw [lpt, List.take_length] at pv3 good3
    refine ⟨S3, _, rfl, .inl ⟨.inl (.inl hS9), fun t3 ht3 => ?_⟩⟩
    have ip : Td K (upd H9 t3 (.tup vs3)) (.ref t3) (planW Rs) := by rw [hplan]; exact .tup sqT_new ((Ext.new (ex := []) ht3).tdAll pv3)
    have f11 := e8.trans (e9.trans (Ext.new (ex := []) (o := .tup vs3) ht3))
    have ir := f11.td ir
    have ib := f11.td ib
    have f11 := f10.trans f11
    -- the book
    refine ⟨.ref t1, rfl, .ref t2, rfl, by show 2 ≤ sizeLine; decide, fun t4 ht4 => ?_⟩
    have e12 := Ext.new (ex := []) (o := .tup [V.ref t1, V.ref t2]) ht4
    have ibk : Td K (upd (upd H9 t3 (.tup vs3)) t4 (.tup [V.ref t1, V.ref t2])) (.ref t4) (bookW Rs) := by
      rw [bkW]
      exact .tup sqT_new (.cons (e12.td ir) (.cons (e12.td ib) .nil))
    have ip := e12.td ip
    have f12 := f11.trans e12
    have tT : textB Rs = true := by
      rw [tB, hpat, Bool.true_and, List.all_eq_true]
      intro r' hr'
      obtain ⟨j, hj⟩ := List.getElem?_of_mem hr'
      have hjl : j < Rs.length := (List.getElem?_eq_some_iff.mp hj).1
      rcases Nat.lt_or_ge j a with h1 | h1
      · exact good1 j r' (by rw [ltk]; exact h1) hj
      · rcases Nat.lt_or_ge j (a + b) with h2 | h2
        · exact good2 (j - a) r' (by rw [lbt]; omega) (by rw [show a + (j - a) = j by omega]; exact hj)
        · rw [show j = a + b by omega, er] at hj
          cases hj
          exact rowOk_plan hname good3
    refine ⟨_, rfl, _, rfl, _, _, _, _, rfl, ibk.dp, ip.dp, tb.ext f12, fun c1 c2 H13 e13 => ?_, fun c1 H13 e13 => qB tT c1 _ (f12.trans e13), fun c1 c2 H13 e13 => qP tT c1 c2 _ (f12.trans e13)⟩
    refine ⟨.ref t4, rfl, .ref t3, rfl, by show 2 ≤ sizeLine; decide, fun t5 ht5 => ?_⟩
    exact q tT c1 c2 _ t5 (f12.trans (e13.trans (Ext.new ht5)))

def spCellAt (K : PySem.W.Frag) : Sp := fun vs H Q _ => ∃ (a : Addr) (ns : List Int) (k : Nat), vs = [.ref a, .int (k : Int)] ∧ SqL K H a (ns.map V.int) ∧ ∀ v : Int, Q (.int v) H
theorem ok__law_cell_at (T : Facts A K mg base) : FnOk P w K mg base CX0 1 A.a__law_cell_at A.d__law_cell_at ["_law_script", "_law_k"] (spCellAt K) := by
  refine T.F__law_cell_at.ok sc__law_cell_at (fun vs H Q E h => ?_) (fun cdv A1 outer s H vs Q E hr h => ?_)
  · obtain ⟨a, ns, k, rfl, _⟩ := h
    rfl
  · obtain ⟨a, ns, k, rfl, t, q⟩ := h
    refine ⟨_, PSs.nox (pss_cons (ps_if (pt_cmpR op_lt (pv 1) (pe_callB call_len_seq (by rfl) T.n_len PySem.boot_len (pa_cons (pv 0) pa_nil)) (nomark _)) (pss_one (ps_ret (pe_ix ix_seq (pv 0) (pv 1) (fun _ _ => rfl)))) pss_nil)
      (pss_one (ps_ret pe_int))), ?_⟩
    refine ⟨_, rfl, _, rfl, a, _, rfl, .inl t, _, _, rfl, rfl, _, rfl, ite2 (fun c => ?_) (fun c => q 0)⟩
    have hk : k < ns.length := by
      have c' := of_decide_eq_true c
      rw [List.length_map] at c'
      exact Int.ofNat_lt.mp c'
    exact ⟨_, rfl, _, rfl, .inl ⟨a, _, _, _, rfl, rfl, t, atI_cell hk, q _⟩⟩

def spDice : Sp := fun vs H Q _ => ∃ c : Int, vs = [.int c] ∧ ∀ (D : Addr) (H' : Hp), H D = none → Ext [] H H' → DiceAt H' D → Q (.ref D) H'
theorem ok__law_dice (T : Facts A K mg base) : FnOk P w K mg base CX0 1 A.a__law_dice A.d__law_dice ["_law_cell"] (spDice) := by
  refine T.F__law_dice.ok sc__law_dice (fun vs H Q E h => ?_) (fun cdv A1 outer s H vs Q E hr h => ?_)
  · obtain ⟨c, rfl, _⟩ := h
    rfl
  · obtain ⟨c, rfl, q⟩ := h
    refine ⟨_, PSs.nox (pss_one (ps_ret (pe_lst (pa_cons (pe_op op_modN (pv 0) pe_int) (pa_cons (pe_op op_mul (pe_op op_fdivW (pv 0) pe_int) (pe_callTy call_int1 (by rfl) T.n_int (by decide +kernel) (pa_cons (pe_cmpR op_ge (pv 0) (pe_op op_pow pe_int pe_int) (nomark _)) pa_nil))) pa_nil))))), ?_⟩
    refine ⟨_, rfl, _, _, rfl, rfl, by show (2147483647 : Int) ≠ 0; decide, ?_⟩
    refine ⟨_, rfl, c, 2147483647, rfl, rfl, wide_div (b := 40) (by decide) (by decide) (by decide) (by decide), _, rfl, 10, 18, rfl, rfl, ⟨by decide, by decide, by decide⟩, _, _, rfl, rfl, .inr ⟨_, rfl, ?_⟩⟩
    have hz : (10 : Int) ^ (Int.toNat 18) = 1000000000000000000 := by decide
    by_cases hc : (10 : Int) ^ (Int.toNat 18) ≤ c
    · refine ⟨_, _, rfl, by rw [decide_eq_true hc], .inr ⟨by decide, by decide⟩, (by show 2 ≤ sizeLine; decide), fun D hD => q D _ hD (Ext.new hD) ⟨_, _, upd_same, Int.fmod_nonneg_of_pos _ (by decide), Int.fmod_lt_of_pos _ (by decide), ?_⟩⟩
      show 0 ≤ c / 2147483647 * 1
      rw [Int.mul_one]
      exact Int.ediv_nonneg (by omega) (by decide)
    · refine ⟨_, _, rfl, by rw [decide_eq_false hc], .inr ⟨by decide, by decide⟩, (by show 2 ≤ sizeLine; decide), fun D hD => q D _ hD (Ext.new hD) ⟨_, _, upd_same, Int.fmod_nonneg_of_pos _ (by decide), Int.fmod_lt_of_pos _ (by decide), ?_⟩⟩
      show 0 ≤ c / 2147483647 * 0
      rw [Int.mul_zero]
      exact Int.le_refl _

def spRoll : Sp := fun vs H Q _ => ∃ (D : Addr) (m : Int), vs = [.ref D, .int m] ∧ DiceAt H D ∧ 0 < m ∧ m < 1000000 ∧ ∀ (v : Int) (H' : Hp), 0 ≤ v → v < m → Ext [D] H H' → DiceAt H' D → Q (.int v) H'
theorem ok__law_roll (T : Facts A K mg base) : FnOk P w K mg base CX0 1 A.a__law_roll A.d__law_roll ["_law_dice_here", "_law_most"] (spRoll) := by
  refine T.F__law_roll.ok sc__law_roll (fun vs H Q E h => ?_) (fun cdv A1 outer s H vs Q E hr h => ?_)
  · obtain ⟨D, m, rfl, _⟩ := h
    rfl
  · obtain ⟨D, m, rfl, ⟨a, b, hD, a0, a1, b0⟩, m0, m1, q⟩ := h
    refine ⟨_, PSs.nox (pss_cons (ps_if (pt_cmpR op_gt (pe_ix ix_seq (pv 0) pe_int (fun _ _ => rfl)) pe_int (nomark _)) (pss_cons (ps_set (i := 2) sc__law_roll.nd rfl (Or.inl rfl) (pe_op op_modN (pe_ix ix_seq (pv 0) pe_int (fun _ _ => rfl)) (pv 1)))
      (pss_cons (ps_asg (pe_op op_fdivN (pe_ix ix_seq (pv 0) pe_int (fun _ _ => rfl)) (pv 1)) (pg_sub (pv 0) pe_int set_list))
      (pss_one (ps_ret (pv 2))))) pss_nil)
      (pss_cons (ps_asg (pe_op op_modN (pe_op op_add (pe_op op_mul (pe_ix ix_seq (pv 0) pe_int (fun _ _ => rfl)) pe_int) pe_int) pe_int) (pg_sub (pv 0) pe_int set_list))
      (pss_one (ps_ret (pe_op op_modN (pe_op op_fdivN (pe_ix ix_seq (pv 0) pe_int (fun _ _ => rfl)) pe_int) (pv 1)))))), ?_⟩
    have hL : ∀ {K}, SqL K H D [.int a, .int b] := .inl (.inl hD)
    refine ⟨_, rfl, .inl ⟨D, _, 1, _, rfl, rfl, hL, atI_nat (j := 1) rfl, _, _, rfl, rfl, _, rfl, ite2 (fun c => ?_) (fun c => ?_)⟩⟩
    · refine ⟨_, rfl, .inl ⟨D, _, 1, _, rfl, rfl, hL, atI_nat (j := 1) rfl, _, rfl, _, _, rfl, rfl, by omega, ?_⟩⟩
      refine ⟨_, rfl, .inl ⟨D, _, 1, _, rfl, rfl, hL, atI_nat (j := 1) rfl, _, rfl, _, _, rfl, rfl, ⟨by omega, by omega⟩, ?_⟩⟩
      refine ⟨_, rfl, D, _, 1, 1, rfl, rfl, hD, rfl, ?_⟩
      refine ⟨_, rfl, q _ _ ?_ ?_ (Ext.wr (by simp) hD) ⟨a, b.fdiv m, ?_, a0, a1, ?_⟩⟩
      · exact Int.fmod_nonneg_of_pos _ m0
      · exact Int.fmod_lt_of_pos _ m0
      · rw [upd_same]
        rfl
      · rw [Int.fdiv_eq_ediv_of_nonneg _ (by omega)]
        exact Int.ediv_nonneg b0 (by omega)
    · refine ⟨_, rfl, .inl ⟨D, _, 0, _, rfl, rfl, hL, atI_nat (j := 0) rfl, _, _, rfl, rfl, .inl ⟨by omega, by omega⟩, _, _, rfl, rfl, _, _, rfl, rfl, by show (2147483647 : Int) ≠ 0; decide, ?_⟩⟩
      refine ⟨_, rfl, D, _, 0, 0, rfl, rfl, hD, rfl, ?_⟩
      have hL2 : ∀ {K}, SqL K (upd H D (.lst [.int ((a * 48271 + 11).fmod 2147483647), .int b])) D [.int ((a * 48271 + 11).fmod 2147483647), .int b] := .inl (.inl upd_same)
      refine ⟨_, rfl, .inl ⟨D, _, 0, _, rfl, rfl, hL2, atI_nat (j := 0) rfl, _, _, rfl, rfl, ⟨by decide, by decide⟩, _, rfl, _, _, rfl, rfl, by omega, ?_⟩⟩
      refine q _ _ (Int.fmod_nonneg_of_pos _ m0) (Int.fmod_lt_of_pos _ m0) (Ext.wr (by simp) hD) ⟨_, b, upd_same, Int.fmod_nonneg_of_pos _ (by decide), Int.fmod_lt_of_pos _ (by decide), b0⟩

def spRiver (K : PySem.W.Frag) : Sp := fun vs H Q _ => ∃ (D : Addr) (n : Nat), vs = [.ref D, .int (n : Int)] ∧ DiceAt H D ∧ 1 ≤ n ∧ n ≤ 8 ∧ ∀ (v : V) (rv : List Stretch) (H' : Hp), rv.length = n → RvOk rv → Ext [D] H H' → DiceAt H' D → IsRiver K H' v rv → Q v H'
theorem ok__law_river (T : Facts A K mg base) : FnOk P w K mg base CX0 2 A.a__law_river A.d__law_river ["_law_dice_here", "_law_many"] (spRiver K) := by
  refine T.F__law_river.ok sc__law_river (fun vs H Q E h => ?_) (fun cdv A1 outer s H vs Q E hr h => ?_)
  · obtain ⟨D, n, rfl, _⟩ := h
    rfl
  · obtain ⟨D, n, rfl, dD, n1, n8, q⟩ := h
    refine ⟨_, PSs.nox (pss_cons (ps_set (i := 2) sc__law_river.nd rfl (Or.inl rfl) (pe_lst pa_nil))
      (pss_cons (ps_for PassesOwn.never rfl (pi_range1 (by rfl) T.n_range (pa_cons (pv 1) pa_nil)) (pg_name (i := 3) sc__law_river.nd rfl (Or.inl rfl)) (pss_cons (ps_set (i := 4) sc__law_river.nd rfl (Or.inl rfl) (pe_callTy call_int1 (by rfl) T.n_int (by decide +kernel) (pa_cons (pe_cmpR op_eq (pe_call (ok__law_roll T) (hr.mono (by decide)) (by rfl) T.g__law_roll T.F__law_roll.kp T.b__law_roll .nil pass0 (pa_cons (pv 0) (pa_cons pe_int pa_nil))) pe_int (nomark _)) pa_nil)))
      (pss_cons (ps_set (i := 5) sc__law_river.nd rfl (Or.inl rfl) (pe_lst pa_nil))
      (pss_cons (ps_for PassesOwn.never rfl (pi_range1 (by rfl) T.n_range (pa_cons (pe_ix ix_seq (pe_lst (pa_cons (pe_op op_add pe_int (pe_call (ok__law_roll T) (hr.mono (by decide)) (by rfl) T.g__law_roll T.F__law_roll.kp T.b__law_roll .nil pass0 (pa_cons (pv 0) (pa_cons pe_int pa_nil)))) (pa_cons pe_int pa_nil))) (pv 4) (fun _ _ => rfl)) pa_nil)) (pg_name (i := 6) sc__law_river.nd rfl (Or.inl rfl)) (pss_one (ps_expr (pe_bm PySem.F.plainAttrs_list PySem.F.slot_list_append PySem.F.type_list_append mt_append (pv 5) (pa_cons (pe_ix ix_seq (pe_lst (pa_cons (pe_op op_add pe_int (pe_call (ok__law_roll T) (hr.mono (by decide)) (by rfl) T.g__law_roll T.F__law_roll.kp T.b__law_roll .nil pass0 (pa_cons (pv 0) (pa_cons pe_int pa_nil)))) (pa_cons pe_int pa_nil))) (pe_callTy call_int1 (by rfl) T.n_int (by decide +kernel) (pa_cons (pe_cmpR op_eq (pe_call (ok__law_roll T) (hr.mono (by decide)) (by rfl) T.g__law_roll T.F__law_roll.kp T.b__law_roll .nil pass0 (pa_cons (pv 0) (pa_cons pe_int pa_nil))) pe_int (nomark _)) pa_nil)) (fun _ _ => rfl)) pa_nil)))))
      (pss_one (ps_expr (pe_bm PySem.F.plainAttrs_list PySem.F.slot_list_append PySem.F.type_list_append mt_append (pv 2) (pa_cons (pe_tup (pa_cons (pe_op op_add pe_int (pe_call (ok__law_roll T) (hr.mono (by decide)) (by rfl) T.g__law_roll T.F__law_roll.kp T.b__law_roll .nil pass0 (pa_cons (pv 0) (pa_cons (pe_ix ix_seq (pe_lst (pa_cons pe_int (pa_cons pe_int pa_nil))) (pv 4) (fun _ _ => rfl)) pa_nil)))) (pa_cons (pe_op op_add pe_int (pe_call (ok__law_roll T) (hr.mono (by decide)) (by rfl) T.g__law_roll T.F__law_roll.kp T.b__law_roll .nil pass0 (pa_cons (pv 0) (pa_cons (pe_ix ix_seq (pe_lst (pa_cons pe_int (pa_cons pe_int pa_nil))) (pv 4) (fun _ _ => rfl)) pa_nil)))) (pa_cons (pe_callTy call_tuple_of (by rfl) T.n_tuple (by decide +kernel) (pa_cons (pv 5) pa_nil)) pa_nil)))) pa_nil))))))))
      (pss_one (ps_ret (pe_callTy call_tuple_of (by rfl) T.n_tuple (by decide +kernel) (pa_cons (pv 2) pa_nil)))))), ?_⟩
    refine ⟨Nat.zero_le _, fun O hO => ?_⟩
    have nDO : D ≠ O := by
      obtain ⟨a, b, z, _⟩ := dD
      exact ne_of_none z hO
    have e0 : Ext [D] H (upd H O (.lst [])) := Ext.new hO
    refine ⟨_, rfl, (n : Int), rfl, by omega, by omega, for_range (n := n) (fun i σ H1 => ∃ y3 y4 y5 y6 vs rv, σ = [some (.ref D), some (.int (n : Int)), some (.ref O), y3, y4, y5, y6] ∧ Ext [D] H H1 ∧ DiceAt H1 D ∧ H1 O = some (.lst vs) ∧ Paired (IsStretch K H1) vs rv ∧ rv.length = i ∧ ∀ s ∈ rv, s.Ok)
      ⟨none, none, none, none, [], [], rfl, e0, (Ext.new (ex := []) hO).dice (by simp) dD, upd_same, .nil, rfl, fun _ h => absurd h (by simp)⟩ ?_ ?_⟩
    · rintro i σ H1 hi ⟨y3, y4, y5, y6, vs, rv, rfl, e1, d1, hO1, pv, hl, okr⟩
      have lv := plen pv
      -- slow
      refine ⟨_, rfl, D, 9, rfl, d1, by omega, by omega, fun v H2 v0 v1 e2 d2 => ⟨rfl, .inr ⟨_, rfl, ?_⟩⟩⟩
      have hsl := b01 (decide (V.int v = V.int 0))
      generalize (if decide (V.int v = V.int 0) = true then (1 : Int) else 0) = sl at hsl ⊢
      -- depths = []
      refine ⟨Nat.zero_le _, fun L hL => ?_⟩
      have nDL : D ≠ L := by
        obtain ⟨a, b, z, _⟩ := d2
        exact ne_of_none z hL
      have hO2 : H2 O = some (.lst vs) := e2.lst O _ (by simp [nDO.symm]) hO1
      have nOL : O ≠ L := ne_of_none hO2 hL
      have e3 : Ext [D] H1 (upd H2 L (.lst [])) := e2.trans (Ext.new hL)
      have d3 : DiceAt (upd H2 L (.lst [])) D := (Ext.new (ex := []) hL).dice (by simp) d2
      -- range([1 + roll(4), 24][slow])
      refine ⟨_, rfl, D, 4, rfl, d3, by omega, by omega, fun w4 H4 w0 w1 e4 d4 => ⟨_, _, rfl, rfl, by show 2 ≤ sizeLine; decide, fun p hp => ?_⟩⟩
      obtain ⟨z, hz, hz2⟩ := pick2 (x := 1 + w4) (y := 24) hsl
      refine ⟨_, rfl, .inl ⟨p, _, sl, .int z, rfl, rfl, .inl (.inl upd_same), hz, ?_⟩⟩
      obtain ⟨m, rfl⟩ : ∃ m : Nat, z = (m : Int) := ⟨z.toNat, by omega⟩
      have hm : 1 ≤ m ∧ m ≤ 24 := by omega
      have e5 : Ext [D] H1 (upd H4 p (.lst [.int (1 + w4), .int 24])) := e3.trans (e4.trans (Ext.new hp))
      have d5 : DiceAt (upd H4 p (.lst [.int (1 + w4), .int 24])) D := (Ext.new (ex := []) hp).dice (by simp) d4
      have hL4 : H4 L = some (.lst []) := e4.lst L _ (by simp [nDL.symm]) upd_same
      have hL5 : (upd H4 p (.lst [.int (1 + w4), .int 24])) L = some (.lst []) := (Ext.new (ex := []) hp).lst L _ (by simp) hL4
      refine ⟨(m : Int), rfl, by omega, by omega, for_range (n := m) (fun j σ H6 => ∃ y6 ds, σ = [some (.ref D), some (.int (n : Int)), some (.ref O), some (.int (0 + (i : Int))), some (.int sl), some (.ref L), y6] ∧ Ext [D] H1 H6 ∧ DiceAt H6 D ∧ H6 L = some (.lst (ds.map V.int)) ∧ ds.length = j ∧ ∀ d ∈ ds, 0 ≤ d ∧ d ≤ 99)
        ⟨y6, [], rfl, e5, d5, hL5, rfl, fun _ h => absurd h (by simp)⟩ ?_ ?_⟩
      · rintro j σ H6 hj ⟨y6, ds, rfl, e6, d6, hL6, hdl, okd⟩
        refine ⟨_, rfl, .inl ⟨rfl, _, .inl (.inl hL6)⟩, ?_⟩
        refine ⟨_, rfl, D, 8, rfl, d6, by omega, by omega, fun w8 H7 w80 w81 e7 d7 => ⟨_, _, rfl, rfl, by show 2 ≤ sizeLine; decide, fun p2 hp2 => ?_⟩⟩
        have d8 : DiceAt (upd H7 p2 (.lst [.int (5 + w8), .int 0])) D := (Ext.new (ex := []) hp2).dice (by simp) d7
        have hL7 : H7 L = some (.lst (ds.map V.int)) := e7.lst L _ (by simp [nDL.symm]) hL6
        have hL8 : (upd H7 p2 (.lst [.int (5 + w8), .int 0])) L = some (.lst (ds.map V.int)) := (Ext.new (ex := []) hp2).lst L _ (by simp) hL7
        refine ⟨_, rfl, D, 20, rfl, d8, by omega, by omega, fun w9 H9 w90 w91 e9 d9 => ⟨rfl, .inr ⟨_, rfl, ?_⟩⟩⟩
        have hsk := b01 (decide (V.int w9 = V.int 0))
        generalize (if decide (V.int w9 = V.int 0) = true then (1 : Int) else 0) = sk at hsk ⊢
        obtain ⟨z, hz, hz2⟩ := pick2 (x := 5 + w8) (y := 0) hsk
        have np : D ≠ p2 := by
          obtain ⟨a, b, zz, _⟩ := d7
          exact ne_of_none zz hp2
        have hp9 : H9 p2 = some (.lst [.int (5 + w8), .int 0]) := e9.lst p2 _ (by simp [np.symm]) upd_same
        have hL9 : H9 L = some (.lst (ds.map V.int)) := e9.lst L _ (by simp [nDL.symm]) hL8
        refine .inl ⟨p2, _, sk, .int z, rfl, rfl, .inl (.inl hp9), hz, L, _, _, rfl, rfl, hL9, small1000 (by rw [List.length_map]; omega), ?_⟩
        refine ⟨_, ds ++ [z], rfl, ?_, ?_, ?_, by rw [List.length_append]; simp; omega, fun d hd => ?_⟩
        · have e10 : Ext [D] H1 H9 := e6.trans (e7.trans ((Ext.new hp2).trans e9))
          exact e10.wrNew (e2.dom L hL)
        · obtain ⟨a, b, zz, r⟩ := d9
          exact ⟨a, b, by rw [upd_ne nDL]; exact zz, r⟩
        · rw [upd_same, List.map_append]
          rfl
        · rcases List.mem_append.mp hd with hd | hd
          · exact okd d hd
          · rw [List.mem_singleton.mp hd]
            omega
      · rintro σ H6 ⟨y6, ds, rfl, e6, d6, hL6, hdl, okd⟩
        have hO6 : H6 O = some (.lst vs) := e6.lst O _ (by simp [nDO.symm]) hO1
        refine ⟨_, rfl, .inl ⟨rfl, _, .inl (.inl hO6)⟩, ?_⟩
        -- 1 + roll([3, 9][slow])
        refine ⟨_, rfl, by show 2 ≤ sizeLine; decide, fun p3 hp3 => ?_⟩
        obtain ⟨z3, hz3, hz32⟩ := pick2 (x := 3) (y := 9) hsl
        have d7 : DiceAt (upd H6 p3 (.lst [.int 3, .int 9])) D := (Ext.new (ex := []) hp3).dice (by simp) d6
        refine ⟨_, rfl, .inl ⟨p3, _, sl, .int z3, rfl, rfl, .inl (.inl upd_same), hz3, D, z3, rfl, d7, by omega, by omega, fun h1 H8 h10 h11 e8 d8 => ⟨_, _, rfl, rfl, ?_⟩⟩⟩
        refine ⟨_, rfl, by show 2 ≤ sizeLine; decide, fun p4 hp4 => ?_⟩
        obtain ⟨z4, hz4, hz42⟩ := pick2 (x := 3) (y := 9) hsl
        have d9 : DiceAt (upd H8 p4 (.lst [.int 3, .int 9])) D := (Ext.new (ex := []) hp4).dice (by simp) d8
        refine ⟨_, rfl, .inl ⟨p4, _, sl, .int z4, rfl, rfl, .inl (.inl upd_same), hz4, D, z4, rfl, d9, by omega, by omega, fun r1 H10 r10 r11 e10 d10 => ⟨_, _, rfl, rfl, ?_⟩⟩⟩
        have f6 : Ext [D] H6 H10 := (Ext.new hp3).trans (e8.trans ((Ext.new hp4).trans e10))
        have hL10 : H10 L = some (.lst (ds.map V.int)) := f6.lst L _ (by simp [nDL.symm]) hL6
        have hO10 : H10 O = some (.lst vs) := f6.lst O _ (by simp [nDO.symm]) hO6
        refine ⟨_, rfl, L, _, rfl, .inl ⟨.inl (.inl hL10), fun t ht => ?_⟩⟩
        have d11 : DiceAt (upd H10 t (.tup (ds.map V.int))) D := (Ext.new (ex := []) ht).dice (by simp) d10
        refine ⟨by show 3 ≤ sizeLine; decide, fun u hu => ?_⟩
        have d12 := (Ext.new (ex := []) (o := .tup [.int (1 + h1), .int (1 + r1), .ref t]) hu).dice (by simp) d11
        have g6 : Ext [D] H6 (upd (upd H10 t (.tup (ds.map V.int))) u (.tup [.int (1 + h1), .int (1 + r1), .ref t])) := f6.trans ((Ext.new ht).trans (Ext.new hu))
        have hO12 : (upd (upd H10 t (.tup (ds.map V.int))) u (.tup [.int (1 + h1), .int (1 + r1), .ref t])) O = some (.lst vs) := g6.lst O _ (by simp [nDO.symm]) hO6
        have st : IsStretch K (upd (upd H10 t (.tup (ds.map V.int))) u (.tup [.int (1 + h1), .int (1 + r1), .ref t])) (.ref u) ⟨1 + h1, 1 + r1, ds⟩ :=
          ⟨u, t, rfl, sqT_new, (Ext.new (ex := []) hu).sqT sqT_new⟩
        refine ⟨O, _, _, rfl, rfl, hO12, small1000 (by omega), ?_⟩
        have w12 : Ext [O] (upd (upd H10 t (.tup (ds.map V.int))) u (.tup [.int (1 + h1), .int (1 + r1), .ref t])) (upd (upd (upd H10 t (.tup (ds.map V.int))) u (.tup [.int (1 + h1), .int (1 + r1), .ref t])) O (.lst (vs ++ [.ref u]))) := Ext.wr (by simp) hO12
        refine ⟨_, _, _, _, vs ++ [.ref u], rv ++ [⟨1 + h1, 1 + r1, ds⟩], rfl, (e1.trans (e6.trans g6)).wrNew hO, ?_, upd_same, ?_, by rw [List.length_append, hl]; rfl, fun s hs => ?_⟩
        · obtain ⟨a, b, zz, r⟩ := d12
          exact ⟨a, b, by rw [upd_ne nDO]; exact zz, r⟩
        · refine papp (Paired.mapP pv fun _ _ z => ?_) (w12.stretch st)
          exact w12.stretch ((e6.trans g6).stretch z)
        · rcases List.mem_append.mp hs with hs | hs
          · exact okr s hs
          · rw [List.mem_singleton.mp hs]
            exact ⟨by show 1 ≤ 1 + h1; omega, by show 1 + h1 ≤ 9; omega, by show 1 ≤ 1 + r1; omega, by show 1 + r1 ≤ 9; omega, by show 1 ≤ ds.length; omega, by show ds.length ≤ 24; omega, okd⟩
    · rintro σ H1 ⟨y3, y4, y5, y6, vs, rv, rfl, e1, d1, hO1, pv, hl, okr⟩
      refine ⟨_, rfl, O, _, rfl, .inl ⟨.inl (.inl hO1), fun t ht => ?_⟩⟩
      exact q (.ref t) rv _ hl ⟨by omega, by omega, okr⟩ (e1.trans (Ext.new ht)) ((Ext.new (ex := []) ht).dice (by simp) d1) ⟨t, vs, rfl, sqT_new, Paired.mapP pv fun _ _ z => (Ext.new (ex := []) ht).stretch z⟩

def spTime (K : PySem.W.Frag) : Sp := fun vs H Q _ => ∃ (v : V) (rv : List Stretch) (p : Nat) (h : Int), vs = [v, .int (p : Int), .int h] ∧ IsRiver K H v rv ∧ RvOk rv ∧ ∀ H', Ext [] H H' → Q (.int (h + hsum rv p)) H'
theorem ok__law_time (T : Facts A K mg base) : FnOk P w K mg base CX0 1 A.a__law_time A.d__law_time ["_law_river_here", "_law_place", "_law_hour"] (spTime K) := by
  refine T.F__law_time.ok sc__law_time (fun vs H Q E h => ?_) (fun cdv A1 outer s H vs Q E hr h => ?_)
  · obtain ⟨v, rv, p, h, rfl, _⟩ := h
    rfl
  · obtain ⟨v, rv, p, h, rfl, ⟨ra, rs, rfl, t1, pr⟩, ok, q⟩ := h
    refine ⟨_, PSs.nox (pss_one (ps_ret (pe_op op_add (pv 2) (pe_callB (cr_sum rfl) (by rfl) T.n_sum PyProof.Rows.boot_sum (pa_cons (pe_lc (own := [("_law_stretch", 3)]) (g := (gName 3)) rfl sc__law_time.nd (pi_tup (pe_slice GX.sl_tupA (pv 0) po_none (po_some (pv 1)))) (blkOk_by (own := [("_law_stretch", 3)]) (N := ["_law_river_here", "_law_place", "_law_hour", "_law_stretch"]) (sc := defScope s__law_time) (by decide +kernel)) (fun _ _ _ _ _ => (pg_name (i := 3) sc__law_time.nd rfl (Or.inl rfl))) (fun _ _ _ _ _ => pts_nil) (fun _ _ _ _ _ => (pe_ix (ixK K rfl) (pv 3) pe_int (fun _ _ => rfl)))) pa_nil))))), ?_⟩
    have l1 := plen pr
    have n8 := ok.n8
    refine ⟨.int h, rfl, .ref ra, rfl, .int (p : Int), rfl, (p : Int), rfl, ra, rs, rfl, t1, fun hw => ?_, fun hw S hS => ?_⟩
    · have tt : SqT K H ra (rs.take p) := by
        rw [whole_take hw]
        exact t1
      have ee : Ext [] H H := Ext.refl
      refine ⟨_, rfl, ⟨_, tt⟩, fun D hD => lc_tup (xs := rs.take p) (fun i H3 => Ext [] H H3 ∧ SqT K H3 ra (rs.take p) ∧ H3 D = some (.lst ((((rv.take p).map (fun s : Stretch => s.hours)).take i).map V.int))) ⟨ee.trans (Ext.new hD), (Ext.new (ex := []) hD).sqT tt, upd_same⟩ (fun _ _ _ z => z.2.1) (fun i x H3 hx z => ?_) (fun H3 z => ?_)⟩
      · obtain ⟨s1, hs1, is1⟩ := pget (ptake p pr) hx
        obtain ⟨z1, z2, z3⟩ := z
        obtain ⟨sa, sd, rfl, u1, u2⟩ := z1.stretch is1
        refine ⟨rfl, yesT ?_⟩
        refine ⟨_, rfl, .inr (.inl ⟨sa, _, 0, _, rfl, rfl, u1, atI_nat (j := 0) rfl, _, z3, small1000 (by simp only [List.length_map, List.length_take]; omega), z1.wrNew (ee.dom D hD), (Ext.wr (ex := [D]) (by simp) z3).sqT z2, ?_⟩)⟩
        have e : ((rv.take p).map (fun s : Stretch => s.hours))[i]? = some s1.hours := by rw [List.getElem?_map, hs1]; rfl
        rw [upd_same, List.take_add_one, e, List.map_append]
        rfl
      · obtain ⟨z1, z2, z3⟩ := z
        have e : ((rv.take p).map (fun s : Stretch => s.hours)).take (rs.take p).length = (rv.take p).map (fun s : Stretch => s.hours) := List.take_of_length_le (by simp only [List.length_map, List.length_take]; omega)
        rw [e] at z3
        exact ⟨D, (rv.take p).map (fun s : Stretch => s.hours), rfl, .inl (.inl z3), _, _, rfl, rfl, q H3 z1⟩
    · have tt : SqT K (upd H S (.tup (cutV rs none (some (p : Int))))) S (rs.take p) := by
        have z := sqT_new (K := K) (H := H) (p := S) (xs := cutV rs none (some (p : Int)))
        rw [cut_take] at z ⊢
        exact z
      have ee : Ext [] H (upd H S (.tup (cutV rs none (some (p : Int))))) := Ext.new hS
      refine ⟨_, rfl, ⟨_, tt⟩, fun D hD => lc_tup (xs := rs.take p) (fun i H3 => Ext [] H H3 ∧ SqT K H3 S (rs.take p) ∧ H3 D = some (.lst ((((rv.take p).map (fun s : Stretch => s.hours)).take i).map V.int))) ⟨ee.trans (Ext.new hD), (Ext.new (ex := []) hD).sqT tt, upd_same⟩ (fun _ _ _ z => z.2.1) (fun i x H3 hx z => ?_) (fun H3 z => ?_)⟩
      · obtain ⟨s1, hs1, is1⟩ := pget (ptake p pr) hx
        obtain ⟨z1, z2, z3⟩ := z
        obtain ⟨sa, sd, rfl, u1, u2⟩ := z1.stretch is1
        refine ⟨rfl, yesT ?_⟩
        refine ⟨_, rfl, .inr (.inl ⟨sa, _, 0, _, rfl, rfl, u1, atI_nat (j := 0) rfl, _, z3, small1000 (by simp only [List.length_map, List.length_take]; omega), z1.wrNew (ee.dom D hD), (Ext.wr (ex := [D]) (by simp) z3).sqT z2, ?_⟩)⟩
        have e : ((rv.take p).map (fun s : Stretch => s.hours))[i]? = some s1.hours := by rw [List.getElem?_map, hs1]; rfl
        rw [upd_same, List.take_add_one, e, List.map_append]
        rfl
      · obtain ⟨z1, z2, z3⟩ := z
        have e : ((rv.take p).map (fun s : Stretch => s.hours)).take (rs.take p).length = (rv.take p).map (fun s : Stretch => s.hours) := List.take_of_length_le (by simp only [List.length_map, List.length_take]; omega)
        rw [e] at z3
        exact ⟨D, (rv.take p).map (fun s : Stretch => s.hours), rfl, .inl (.inl z3), _, _, rfl, rfl, q H3 z1⟩

def spBarges (K : PySem.W.Frag) : Sp := fun vs H Q _ => ∃ (D : Addr) (v : V) (rv : List Stretch) (n : Nat), vs = [.ref D, v, .int (n : Int)] ∧ DiceAt H D ∧ IsRiver K H v rv ∧ RvOk rv ∧ n ≤ 7 ∧ ∀ (u : V) (bs : List Barge) (H' : Hp), bs.length = n → (∀ b ∈ bs, b.Ok rv.length) → Ext [D] H H' → DiceAt H' D → IsBarges K H' u bs → Q u H'
theorem ok__law_barges (T : Facts A K mg base) : FnOk P w K mg base CX0 2 A.a__law_barges A.d__law_barges ["_law_dice_here", "_law_river_here", "_law_many"] (spBarges K) := by
  refine T.F__law_barges.ok sc__law_barges (fun vs H Q E h => ?_) (fun cdv A1 outer s H vs Q E hr h => ?_)
  · obtain ⟨D, v, rv, n, rfl, _⟩ := h
    rfl
  · obtain ⟨D, v, rv, n, rfl, dD, ir, ok, n7, q⟩ := h
    refine ⟨_, PSs.nox (pss_cons (ps_set (i := 3) sc__law_barges.nd rfl (Or.inl rfl) (pe_lst pa_nil))
      (pss_cons (ps_set (i := 4) sc__law_barges.nd rfl (Or.inl rfl) (pe_ix ix_seq (pe_lst (pa_cons pe_int (pa_cons pe_int pa_nil))) (pe_callTy call_int1 (by rfl) T.n_int (by decide +kernel) (pa_cons (pe_cmpR op_gt (pv 2) pe_int (nomark _)) pa_nil)) (fun _ _ => rfl)))
      (pss_cons (ps_for PassesOwn.never rfl (pi_range1 (by rfl) T.n_range (pa_cons (pv 2) pa_nil)) (pg_name (i := 5) sc__law_barges.nd rfl (Or.inl rfl)) (pss_cons (ps_set (i := 6) sc__law_barges.nd rfl (Or.inl rfl) (pe_call (ok__law_roll T) (hr.mono (by decide)) (by rfl) T.g__law_roll T.F__law_roll.kp T.b__law_roll .nil pass0 (pa_cons (pv 0) (pa_cons (pe_callB call_len_seq (by rfl) T.n_len PySem.boot_len (pa_cons (pv 1) pa_nil)) pa_nil))))
      (pss_cons (ps_set (i := 7) sc__law_barges.nd rfl (Or.inl rfl) (pe_op op_add (pe_op op_add (pv 6) pe_int) (pe_call (ok__law_roll T) (hr.mono (by decide)) (by rfl) T.g__law_roll T.F__law_roll.kp T.b__law_roll .nil pass0 (pa_cons (pv 0) (pa_cons (pe_op op_sub (pe_callB call_len_seq (by rfl) T.n_len PySem.boot_len (pa_cons (pv 1) pa_nil)) (pv 6)) pa_nil)))))
      (pss_cons (ps_set (i := 8) sc__law_barges.nd rfl (Or.inl rfl) (pe_call (ok__law_roll T) (hr.mono (by decide)) (by rfl) T.g__law_roll T.F__law_roll.kp T.b__law_roll .nil pass0 (pa_cons (pv 0) (pa_cons pe_int pa_nil))))
      (pss_cons (ps_set (i := 9) sc__law_barges.nd rfl (Or.inl rfl) (pe_callB (call_max2 rfl) (by rfl) T.n_max (by decide +kernel) (pa_cons pe_int (pa_cons (pe_op op_sub (pe_call (ok__law_time T) (hr.mono (by decide)) (by rfl) T.g__law_time T.F__law_time.kp T.b__law_time .nil pass0 (pa_cons (pv 1) (pa_cons (pv 6) (pa_cons (pv 8) pa_nil)))) (pe_call (ok__law_roll T) (hr.mono (by decide)) (by rfl) T.g__law_roll T.F__law_roll.kp T.b__law_roll .nil pass0 (pa_cons (pv 0) (pa_cons (pv 4) pa_nil)))) pa_nil))))
      (pss_cons (ps_set (i := 10) sc__law_barges.nd rfl (Or.inl rfl) (pe_op op_add (pe_call (ok__law_time T) (hr.mono (by decide)) (by rfl) T.g__law_time T.F__law_time.kp T.b__law_time .nil pass0 (pa_cons (pv 1) (pa_cons (pv 7) (pa_cons (pv 8) pa_nil)))) (pe_call (ok__law_roll T) (hr.mono (by decide)) (by rfl) T.g__law_roll T.F__law_roll.kp T.b__law_roll .nil pass0 (pa_cons (pv 0) (pa_cons (pv 4) pa_nil)))))
      (pss_cons (ps_set (i := 11) sc__law_barges.nd rfl (Or.inl rfl) (pe_ix ix_seq (pe_lst (pa_cons (pe_op op_add pe_int (pe_call (ok__law_roll T) (hr.mono (by decide)) (by rfl) T.g__law_roll T.F__law_roll.kp T.b__law_roll .nil pass0 (pa_cons (pv 0) (pa_cons pe_int pa_nil)))) (pa_cons (pe_op op_add pe_int (pe_call (ok__law_roll T) (hr.mono (by decide)) (by rfl) T.g__law_roll T.F__law_roll.kp T.b__law_roll .nil pass0 (pa_cons (pv 0) (pa_cons pe_int pa_nil)))) pa_nil))) (pe_callTy call_int1 (by rfl) T.n_int (by decide +kernel) (pa_cons (pe_cmpR op_eq (pe_call (ok__law_roll T) (hr.mono (by decide)) (by rfl) T.g__law_roll T.F__law_roll.kp T.b__law_roll .nil pass0 (pa_cons (pv 0) (pa_cons pe_int pa_nil))) pe_int (nomark _)) pa_nil)) (fun _ _ => rfl)))
      (pss_cons (ps_set (i := 12) sc__law_barges.nd rfl (Or.inl rfl) (pe_call (ok__law_roll T) (hr.mono (by decide)) (by rfl) T.g__law_roll T.F__law_roll.kp T.b__law_roll .nil pass0 (pa_cons (pv 0) (pa_cons pe_int pa_nil))))
      (pss_cons (ps_if (pt_cmpR op_lt (pv 12) pe_int (nomark _)) (pss_one (ps_asg (pe_ix ix_seq (pe_lst (pa_cons (pe_tup (pa_cons pe_int (pa_cons (pv 9) (pa_cons (pv 10) pa_nil)))) (pa_cons (pe_tup (pa_cons (pv 11) (pa_cons pe_int (pa_cons pe_int pa_nil)))) (pa_cons (pe_tup (pa_cons (pv 11) (pa_cons (pv 9) (pa_cons pe_int pa_nil)))) pa_nil)))) (pv 12) (fun _ _ => rfl)) (pg_tup (by rfl) (pgs_cons (pg_name (i := 11) sc__law_barges.nd rfl (Or.inl rfl)) (pgs_cons (pg_name (i := 9) sc__law_barges.nd rfl (Or.inl rfl)) (pgs_cons (pg_name (i := 10) sc__law_barges.nd rfl (Or.inl rfl)) pgs_nil)))))) pss_nil)
      (pss_one (ps_expr (pe_bm PySem.F.plainAttrs_list PySem.F.slot_list_append PySem.F.type_list_append mt_append (pv 3) (pa_cons (pe_tup (pa_cons (pv 6) (pa_cons (pv 7) (pa_cons (pv 11) (pa_cons (pv 9) (pa_cons (pv 10) pa_nil)))))) pa_nil)))))))))))))
      (pss_one (ps_ret (pe_callTy call_tuple_of (by rfl) T.n_tuple (by decide +kernel) (pa_cons (pv 3) pa_nil))))))), ?_⟩
    obtain ⟨ra, rs, rfl, t1, pr⟩ := id ir
    have lr := plen pr
    have rn1 := ok.n1
    have rn8 := ok.n8
    refine ⟨Nat.zero_le _, fun O hO => ?_⟩
    have nDO : D ≠ O := by
      obtain ⟨a, b, z, _⟩ := dD
      exact ne_of_none z hO
    -- slack
    refine ⟨by show 2 ≤ sizeLine; decide, fun p0 hp0 => ⟨_, rfl, _, _, rfl, rfl, .inr ⟨_, rfl, ?_⟩⟩⟩
    have hsl := b01 (decide ((4 : Int) < (n : Int)))
    generalize (if decide ((4 : Int) < (n : Int)) = true then (1 : Int) else 0) = sl at hsl ⊢
    obtain ⟨sk, hz, hz2⟩ := pick2 (x := 6) (y := 3) hsl
    refine .inl ⟨p0, _, sl, .int sk, rfl, rfl, .inl (.inl upd_same), hz, ?_⟩
    have e0 : Ext [D] H (upd (upd H O (.lst [])) p0 (.lst [.int 6, .int 3])) := (Ext.new hO).trans (Ext.new hp0)
    have d0 : DiceAt (upd (upd H O (.lst [])) p0 (.lst [.int 6, .int 3])) D := (Ext.new (ex := []) hp0).dice (by simp) ((Ext.new (ex := []) hO).dice (by simp) dD)
    have hO0 : (upd (upd H O (.lst [])) p0 (.lst [.int 6, .int 3])) O = some (.lst []) := (Ext.new (ex := []) hp0).lst O _ (by simp) upd_same
    refine ⟨_, rfl, (n : Int), rfl, by omega, by omega, for_range (n := n) (fun i σ H1 => ∃ y5 y6 y7 y8 y9 y10 y11 y12 vs bs, σ = [some (.ref D), some (.ref ra), some (.int (n : Int)), some (.ref O), some (.int sk), y5, y6, y7, y8, y9, y10, y11, y12] ∧ Ext [D] H H1 ∧ DiceAt H1 D ∧ H1 O = some (.lst vs) ∧ Paired (IsBarge K H1) vs bs ∧ bs.length = i ∧ ∀ b ∈ bs, b.Ok rv.length)
      ⟨none, none, none, none, none, none, none, none, [], [], rfl, e0, d0, hO0, .nil, rfl, fun _ h => absurd h (by simp)⟩ ?_ ?_⟩
    · rintro i σ H1 hi ⟨y5, y6, y7, y8, y9, y10, y11, y12, vs, bs, rfl, e1, d1, hO1, pv, hl, okb⟩
      have lv := plen pv
      have r1 := e1.river ir
      have t1' := e1.sqT t1
      -- begin
      refine ⟨_, rfl, _, rfl, ra, rs, rfl, .inr t1', D, _, rfl, d1, by omega, by omega, fun b H2 b0 b1 e2 d2 => ?_⟩
      -- goal
      refine ⟨_, rfl, _, _, rfl, rfl, _, rfl, _, rfl, ra, rs, rfl, .inr (e2.sqT t1'), _, rfl, _, _, rfl, rfl, D, _, rfl, d2, by omega, by omega, fun g H3 g0 g1 e3 d3 => ⟨_, _, rfl, rfl, ?_⟩⟩
      -- hour
      refine ⟨_, rfl, D, 12, rfl, d3, by omega, by omega, fun h H4 h0 h1 e4 d4 => ?_⟩
      obtain ⟨bn, rfl⟩ : ∃ m : Nat, b = (m : Int) := ⟨b.toNat, by omega⟩
      obtain ⟨gn, hgn⟩ : ∃ m : Nat, (bn : Int) + 1 + g = (m : Int) := ⟨((bn : Int) + 1 + g).toNat, by omega⟩
      have f4 : Ext [D] H1 H4 := e2.trans (e3.trans e4)
      -- ready
      refine ⟨_, rfl, _, rfl, _, rfl, .ref ra, rv, bn, h, rfl, f4.river r1, ok, fun H5 e5 => ?_⟩
      have d5 := e5.dice (by simp) d4
      refine ⟨_, rfl, _, rfl, D, sk, rfl, d5, by omega, by omega, fun s1 H6 s10 s11 e6 d6 => ⟨_, _, rfl, rfl, _, _, rfl, ?_⟩⟩
      have f6 : Ext [D] H1 H6 := f4.trans (e5.any.trans e6)
      have bb := hsum_bound ok.ok bn
      have bg := hsum_bound ok.ok gn
      -- due
      refine ⟨_, rfl, _, rfl, _, rfl, .ref ra, rv, gn, h, by rw [← hgn]; rfl, f6.river r1, ok, fun H7 e7 => ?_⟩
      have d7 := e7.dice (by simp) d6
      refine ⟨_, rfl, _, rfl, D, sk, rfl, d7, by omega, by omega, fun s2 H8 s20 s21 e8 d8 => ⟨_, _, rfl, rfl, ?_⟩⟩
      have f8 : Ext [D] H1 H8 := f6.trans (e7.any.trans e8)
      -- draft
      refine ⟨_, rfl, D, 5, rfl, d8, by omega, by omega, fun w1 H9 w10 w11 e9 d9 => ⟨_, _, rfl, rfl, ?_⟩⟩
      refine ⟨_, rfl, D, 8, rfl, d9, by omega, by omega, fun w2 H10 w20 w21 e10 d10 => ⟨_, _, rfl, rfl, by show 2 ≤ sizeLine; decide, fun p1 hp1 => ?_⟩⟩
      have d11 : DiceAt (upd H10 p1 (.lst [.int (1 + w1), .int (5 + w2)])) D := (Ext.new (ex := []) hp1).dice (by simp) d10
      refine ⟨_, rfl, D, 4, rfl, d11, by omega, by omega, fun w3 H12 w30 w31 e12 d12 => ⟨rfl, .inr ⟨_, rfl, ?_⟩⟩⟩
      have hsx := b01 (decide (V.int w3 = V.int 0))
      generalize (if decide (V.int w3 = V.int 0) = true then (1 : Int) else 0) = sx at hsx ⊢
      obtain ⟨dr, hdr, hdr2⟩ := pick2 (x := 1 + w1) (y := 5 + w2) hsx
      have np1 : D ≠ p1 := by
        obtain ⟨a, b, zz, _⟩ := d10
        exact ne_of_none zz hp1
      have hp12 : H12 p1 = some (.lst [.int (1 + w1), .int (5 + w2)]) := e12.lst p1 _ (by simp [np1.symm]) upd_same
      refine .inl ⟨p1, _, sx, .int dr, rfl, rfl, .inl (.inl hp12), hdr, ?_⟩
      have f12 : Ext [D] H1 H12 := f8.trans (e9.trans (e10.trans ((Ext.new hp1).trans e12)))
      -- odd
      refine ⟨_, rfl, D, 60, rfl, d12, by omega, by omega, fun od H13 od0 od1 e13 d13 => ?_⟩
      have f13 : Ext [D] H1 H13 := f12.trans e13
      have d13' := d13
      have hrd : 0 ≤ (if h + hsum rv bn - s1 > 0 then h + hsum rv bn - s1 else 0) ∧ (if h + hsum rv bn - s1 > 0 then h + hsum rv bn - s1 else 0) ≤ 99 := by split <;> omega
      have hgl : (bn : Int) + 1 + g ≤ (rv.length : Int) := by omega
      have hgr : hsum rv gn ≤ 72 := by omega
      generalize (if h + hsum rv bn - s1 > 0 then h + hsum rv bn - s1 else 0) = rd at hrd ⊢
      refine ⟨_, rfl, _, _, rfl, rfl, _, rfl, ite2 (fun c => ?_) (fun c => ?_)⟩
      · have hod : od < 3 := of_decide_eq_true c
        refine ⟨_, rfl, _, rfl, by show 3 ≤ sizeLine; decide, fun q1 hq1 => ?_⟩
        refine ⟨_, rfl, by show 3 ≤ sizeLine; decide, fun q2 hq2 => ?_⟩
        refine ⟨_, rfl, _, rfl, by show 3 ≤ sizeLine; decide, fun q3 hq3 => ?_⟩
        refine ⟨by show 3 ≤ sizeLine; decide, fun q4 hq4 => ?_⟩
        have x1 := Ext.new (ex := [D]) (o := .tup [.int 99, .int rd, .int (h + hsum rv gn + s2)]) hq1
        have x2 := Ext.new (ex := [D]) (o := .tup [.int dr, .int 99, .int 199]) hq2
        have x3 := Ext.new (ex := [D]) (o := .tup [.int dr, .int rd, .int 0]) hq3
        have x4 := Ext.new (ex := [D]) (o := .lst [.ref q1, .ref q2, .ref q3]) hq4
        have fH := f13.trans (x1.trans (x2.trans (x3.trans x4)))
        have dH := (Ext.new (ex := []) (o := .lst [.ref q1, .ref q2, .ref q3]) hq4).dice (by simp) ((Ext.new (ex := []) (o := .tup [.int dr, .int rd, .int 0]) hq3).dice (by simp) ((Ext.new (ex := []) (o := .tup [.int dr, .int 99, .int 199]) hq2).dice (by simp) ((Ext.new (ex := []) (o := .tup [.int 99, .int rd, .int (h + hsum rv gn + s2)]) hq1).dice (by simp) d13)))
        have t1q := (x2.trans (x3.trans x4)).sqT (sqT_new (K := K) (H := H13) (p := q1) (xs := [.int 99, .int rd, .int (h + hsum rv gn + s2)]))
        have t2q := (x3.trans x4).sqT (sqT_new (K := K) (H := upd H13 q1 (.tup [.int 99, .int rd, .int (h + hsum rv gn + s2)])) (p := q2) (xs := [.int dr, .int 99, .int 199]))
        have t3q := x4.sqT (sqT_new (K := K) (H := upd (upd H13 q1 (.tup [.int 99, .int rd, .int (h + hsum rv gn + s2)])) q2 (.tup [.int dr, .int 99, .int 199])) (p := q3) (xs := [.int dr, .int rd, .int 0]))
        have ho : od = 0 ∨ od = 1 ∨ od = 2 := by omega
        rcases ho with rfl | rfl | rfl
        · have okB : (⟨bn, (bn : Int) + 1 + g, 99, rd, h + hsum rv gn + s2⟩ : Barge).Ok rv.length := ⟨by show 0 ≤ (bn : Int); omega, by show (bn : Int) < (bn : Int) + 1 + g; omega, hgl, by show (1 : Int) ≤ 99; omega, by show (99 : Int) ≤ 99; omega, hrd.1, hrd.2, by show 0 ≤ h + hsum rv gn + s2; omega, by show h + hsum rv gn + s2 ≤ 199; omega⟩
          refine ⟨_, rfl, .inl ⟨q4, _, 0, .ref q1, rfl, rfl, .inl (.inl upd_same), atI_nat (j := 0) rfl, q1, _, rfl, t1q, rfl, _, _, rfl, _, _, rfl, _, _, rfl, rfl, ?_⟩⟩
          have hO14 := fH.lst O _ (by simp [nDO.symm]) hO1
          refine ⟨_, rfl, .inl ⟨rfl, _, .inl (.inl hO14)⟩, ?_⟩
          refine ⟨_, rfl, _, rfl, _, rfl, _, rfl, _, rfl, by show 5 ≤ sizeLine; decide, fun u hu => ?_⟩
          have hO15 := fun o => (Ext.new (ex := []) (o := o) hu).lst O _ (by simp) hO14
          refine ⟨O, _, _, rfl, rfl, hO15 _, small1000 (by omega), ?_⟩
          have w15 := fun o ys => Ext.wr (ex := [O]) (ys := ys) (by simp) (hO15 o)
          refine ⟨_, _, _, _, _, _, _, _, vs ++ [.ref u], bs ++ [⟨bn, (bn : Int) + 1 + g, 99, rd, h + hsum rv gn + s2⟩], rfl, (e1.trans (fH.trans (Ext.new hu))).wrNew hO, ?_, upd_same, papp (Paired.mapP pv fun _ _ z => (w15 _ _).barge ((fH.trans (Ext.new hu)).barge z)) ⟨u, rfl, (w15 _ _).sqT sqT_new⟩, by rw [List.length_append, hl]; rfl, fun b' hb' => ?_⟩
          · exact (w15 _ _).dice (by simp [nDO]) ((Ext.new (ex := []) hu).dice (by simp) dH)
          · rcases List.mem_append.mp hb' with hb' | hb'
            · exact okb b' hb'
            · rw [List.mem_singleton.mp hb']
              exact okB
        · have okB : (⟨bn, (bn : Int) + 1 + g, dr, 99, 199⟩ : Barge).Ok rv.length := ⟨by show 0 ≤ (bn : Int); omega, by show (bn : Int) < (bn : Int) + 1 + g; omega, hgl, by show 1 ≤ dr; omega, by show dr ≤ 99; omega, by show (0 : Int) ≤ 99; omega, by show (99 : Int) ≤ 99; omega, by show (0 : Int) ≤ 199; omega, by show (199 : Int) ≤ 199; omega⟩
          refine ⟨_, rfl, .inl ⟨q4, _, 1, .ref q2, rfl, rfl, .inl (.inl upd_same), atI_nat (j := 1) rfl, q2, _, rfl, t2q, rfl, _, _, rfl, _, _, rfl, _, _, rfl, rfl, ?_⟩⟩
          have hO14 := fH.lst O _ (by simp [nDO.symm]) hO1
          refine ⟨_, rfl, .inl ⟨rfl, _, .inl (.inl hO14)⟩, ?_⟩
          refine ⟨_, rfl, _, rfl, _, rfl, _, rfl, _, rfl, by show 5 ≤ sizeLine; decide, fun u hu => ?_⟩
          have hO15 := fun o => (Ext.new (ex := []) (o := o) hu).lst O _ (by simp) hO14
          refine ⟨O, _, _, rfl, rfl, hO15 _, small1000 (by omega), ?_⟩
          have w15 := fun o ys => Ext.wr (ex := [O]) (ys := ys) (by simp) (hO15 o)
          refine ⟨_, _, _, _, _, _, _, _, vs ++ [.ref u], bs ++ [⟨bn, (bn : Int) + 1 + g, dr, 99, 199⟩], rfl, (e1.trans (fH.trans (Ext.new hu))).wrNew hO, ?_, upd_same, papp (Paired.mapP pv fun _ _ z => (w15 _ _).barge ((fH.trans (Ext.new hu)).barge z)) ⟨u, rfl, (w15 _ _).sqT sqT_new⟩, by rw [List.length_append, hl]; rfl, fun b' hb' => ?_⟩
          · exact (w15 _ _).dice (by simp [nDO]) ((Ext.new (ex := []) hu).dice (by simp) dH)
          · rcases List.mem_append.mp hb' with hb' | hb'
            · exact okb b' hb'
            · rw [List.mem_singleton.mp hb']
              exact okB
        · have okB : (⟨bn, (bn : Int) + 1 + g, dr, rd, 0⟩ : Barge).Ok rv.length := ⟨by show 0 ≤ (bn : Int); omega, by show (bn : Int) < (bn : Int) + 1 + g; omega, hgl, by show 1 ≤ dr; omega, by show dr ≤ 99; omega, hrd.1, hrd.2, by show (0 : Int) ≤ 0; omega, by show (0 : Int) ≤ 199; omega⟩
          refine ⟨_, rfl, .inl ⟨q4, _, 2, .ref q3, rfl, rfl, .inl (.inl upd_same), atI_nat (j := 2) rfl, q3, _, rfl, t3q, rfl, _, _, rfl, _, _, rfl, _, _, rfl, rfl, ?_⟩⟩
          have hO14 := fH.lst O _ (by simp [nDO.symm]) hO1
          refine ⟨_, rfl, .inl ⟨rfl, _, .inl (.inl hO14)⟩, ?_⟩
          refine ⟨_, rfl, _, rfl, _, rfl, _, rfl, _, rfl, by show 5 ≤ sizeLine; decide, fun u hu => ?_⟩
          have hO15 := fun o => (Ext.new (ex := []) (o := o) hu).lst O _ (by simp) hO14
          refine ⟨O, _, _, rfl, rfl, hO15 _, small1000 (by omega), ?_⟩
          have w15 := fun o ys => Ext.wr (ex := [O]) (ys := ys) (by simp) (hO15 o)
          refine ⟨_, _, _, _, _, _, _, _, vs ++ [.ref u], bs ++ [⟨bn, (bn : Int) + 1 + g, dr, rd, 0⟩], rfl, (e1.trans (fH.trans (Ext.new hu))).wrNew hO, ?_, upd_same, papp (Paired.mapP pv fun _ _ z => (w15 _ _).barge ((fH.trans (Ext.new hu)).barge z)) ⟨u, rfl, (w15 _ _).sqT sqT_new⟩, by rw [List.length_append, hl]; rfl, fun b' hb' => ?_⟩
          · exact (w15 _ _).dice (by simp [nDO]) ((Ext.new (ex := []) hu).dice (by simp) dH)
          · rcases List.mem_append.mp hb' with hb' | hb'
            · exact okb b' hb'
            · rw [List.mem_singleton.mp hb']
              exact okB
      · have fH := f13
        have dH := d13
        have okB : (⟨bn, (bn : Int) + 1 + g, dr, rd, h + hsum rv gn + s2⟩ : Barge).Ok rv.length := ⟨by show 0 ≤ (bn : Int); omega, by show (bn : Int) < (bn : Int) + 1 + g; omega, hgl, by show 1 ≤ dr; omega, by show dr ≤ 99; omega, hrd.1, hrd.2, by show 0 ≤ h + hsum rv gn + s2; omega, by show h + hsum rv gn + s2 ≤ 199; omega⟩
        have hO14 := fH.lst O _ (by simp [nDO.symm]) hO1
        refine ⟨_, rfl, .inl ⟨rfl, _, .inl (.inl hO14)⟩, ?_⟩
        refine ⟨_, rfl, _, rfl, _, rfl, _, rfl, _, rfl, by show 5 ≤ sizeLine; decide, fun u hu => ?_⟩
        have hO15 := fun o => (Ext.new (ex := []) (o := o) hu).lst O _ (by simp) hO14
        refine ⟨O, _, _, rfl, rfl, hO15 _, small1000 (by omega), ?_⟩
        have w15 := fun o ys => Ext.wr (ex := [O]) (ys := ys) (by simp) (hO15 o)
        refine ⟨_, _, _, _, _, _, _, _, vs ++ [.ref u], bs ++ [⟨bn, (bn : Int) + 1 + g, dr, rd, h + hsum rv gn + s2⟩], rfl, (e1.trans (fH.trans (Ext.new hu))).wrNew hO, ?_, upd_same, papp (Paired.mapP pv fun _ _ z => (w15 _ _).barge ((fH.trans (Ext.new hu)).barge z)) ⟨u, rfl, (w15 _ _).sqT sqT_new⟩, by rw [List.length_append, hl]; rfl, fun b' hb' => ?_⟩
        · exact (w15 _ _).dice (by simp [nDO]) ((Ext.new (ex := []) hu).dice (by simp) dH)
        · rcases List.mem_append.mp hb' with hb' | hb'
          · exact okb b' hb'
          · rw [List.mem_singleton.mp hb']
            exact okB
    · rintro σ H1 ⟨y5, y6, y7, y8, y9, y10, y11, y12, vs, bs, rfl, e1, d1, hO1, pv, hl, okb⟩
      refine ⟨_, rfl, O, _, rfl, .inl ⟨.inl (.inl hO1), fun t ht => ?_⟩⟩
      exact q (.ref t) bs _ hl okb (e1.trans (Ext.new ht)) ((Ext.new (ex := []) ht).dice (by simp) d1) ⟨t, vs, rfl, sqT_new, Paired.mapP pv fun _ _ z => (Ext.new (ex := []) ht).barge z⟩

def spBook (K : PySem.W.Frag) : Sp := fun vs H Q _ => ∃ (a : Addr) (ns : List Int) (m : Nat), vs = [.ref a, .int (m : Int)] ∧ SqL K H a (ns.map V.int) ∧ m ≤ 7 ∧ ∀ (v : V) (k : Book) (H' : Hp), k.Ok → k.bs.length ≤ m → Ext [] H H' → IsBook K H' v k → Q v H'
theorem ok__law_book (T : Facts A K mg base) : FnOk P w K mg base CX0 3 A.a__law_book A.d__law_book ["_law_script", "_law_most"] (spBook K) := by
  refine T.F__law_book.ok sc__law_book (fun vs H Q E h => ?_) (fun cdv A1 outer s H vs Q E hr h => ?_)
  · obtain ⟨a, ns, m, rfl, _⟩ := h
    rfl
  · obtain ⟨a, ns, m, rfl, hS, m7, q⟩ := h
    refine ⟨_, PSs.nox (pss_cons (ps_set (i := 2) sc__law_book.nd rfl (Or.inl rfl) (pe_call (ok__law_dice T) (hr.mono (by decide)) (by rfl) T.g__law_dice T.F__law_dice.kp T.b__law_dice .nil pass0 (pa_cons (pe_call (ok__law_cell_at T) (hr.mono (by decide)) (by rfl) T.g__law_cell_at T.F__law_cell_at.kp T.b__law_cell_at .nil pass0 (pa_cons (pv 0) (pa_cons pe_int pa_nil))) pa_nil)))
      (pss_cons (ps_set (i := 3) sc__law_book.nd rfl (Or.inl rfl) (pe_call (ok__law_cell_at T) (hr.mono (by decide)) (by rfl) T.g__law_cell_at T.F__law_cell_at.kp T.b__law_cell_at .nil pass0 (pa_cons (pv 0) (pa_cons pe_int pa_nil))))
      (pss_cons (ps_set (i := 4) sc__law_book.nd rfl (Or.inl rfl) (pe_call (ok__law_river T) (hr.mono (by decide)) (by rfl) T.g__law_river T.F__law_river.kp T.b__law_river .nil pass0 (pa_cons (pv 2) (pa_cons (pe_ix ix_seq (pe_lst (pa_cons (pe_op op_add pe_int (pe_op op_modN (pv 3) pe_int)) (pa_cons (pe_op op_add pe_int (pe_op op_modN (pv 3) pe_int)) pa_nil))) (pe_callTy call_int1 (by rfl) T.n_int (by decide +kernel) (pa_cons (pe_cmpR op_eq (pe_op op_modN (pe_op op_fdivN (pv 3) pe_int) pe_int) pe_int (nomark _)) pa_nil)) (fun _ _ => rfl)) pa_nil))))
      (pss_one (ps_ret (pe_tup (pa_cons (pv 4) (pa_cons (pe_call (ok__law_barges T) (hr.mono (by decide)) (by rfl) T.g__law_barges T.F__law_barges.kp T.b__law_barges .nil pass0 (pa_cons (pv 2) (pa_cons (pv 4) (pa_cons (pe_op op_modN (pe_call (ok__law_cell_at T) (hr.mono (by decide)) (by rfl) T.g__law_cell_at T.F__law_cell_at.kp T.b__law_cell_at .nil pass0 (pa_cons (pv 0) (pa_cons pe_int pa_nil))) (pe_op op_add (pv 1) pe_int)) pa_nil)))) pa_nil)))))))), ?_⟩
    have keep : ∀ {H1}, Ext [] H H1 → SqL K H1 a (ns.map V.int) := fun e => e.sqL (by simp) hS
    refine ⟨_, rfl, a, ns, 0, rfl, hS, fun c => ⟨c, rfl, fun D H1 hD e1 d1 => ?_⟩⟩
    refine ⟨_, rfl, a, ns, 1, rfl, keep e1, fun c1 => ?_⟩
    have nD : ∀ {H2}, Ext [D] H1 H2 → Ext [] H H2 := fun e => ⟨fun b xs z => e.tup b xs (e1.tup b xs z), fun b o u z => e.frz b o u (e1.frz b o u z), fun b ps z t => let ⟨ps', z', t'⟩ := e1.tbl b ps z t; e.tbl b ps' z' t', fun b xs n z => e.lst b xs (by simp; exact ne_of_none z hD) (e1.lst b xs (by simp) z), fun b u n t z => e.oth b u (by simp; exact ne_of_none z hD) t (e1.oth b u (by simp) t z), fun b z => e1.dom b (e.dom b z)⟩
    -- river
    have m40 : 0 ≤ c1.fmod 4 := Int.fmod_nonneg_of_pos _ (by decide)
    have m41 : c1.fmod 4 < 4 := Int.fmod_lt_of_pos _ (by decide)
    refine ⟨_, rfl, _, rfl, _, _, rfl, rfl, (by show (4 : Int) ≠ 0; decide), _, _, rfl, rfl, _, rfl, _, _, rfl, rfl, (by show (4 : Int) ≠ 0; decide), _, _, rfl, rfl, (by show 2 ≤ sizeLine; decide), fun p hp => ?_⟩
    refine ⟨_, rfl, _, _, rfl, rfl, ⟨by decide, by decide⟩, _, _, rfl, rfl, (by show (6 : Int) ≠ 0; decide), rfl, .inr ⟨_, rfl, ?_⟩⟩
    have hsl := b01 (decide (V.int ((c1.fdiv 4).fmod 6) = V.int 1))
    generalize (if decide (V.int ((c1.fdiv 4).fmod 6) = V.int 1) = true then (1 : Int) else 0) = sl at hsl ⊢
    obtain ⟨z, hz, hz2⟩ := pick2 (x := 1 + c1.fmod 4) (y := 5 + c1.fmod 4) hsl
    obtain ⟨n, rfl⟩ : ∃ n : Nat, z = (n : Int) := ⟨z.toNat, by omega⟩
    have e2 : Ext [D] H1 (upd H1 p (.lst [.int (1 + c1.fmod 4), .int (5 + c1.fmod 4)])) := Ext.new hp
    refine .inl ⟨p, _, sl, .int (n : Int), rfl, rfl, .inl (.inl upd_same), hz, D, n, rfl, (Ext.new (ex := []) hp).dice (by simp) d1, by omega, by omega, fun v rv H3 hn okr e3 d3 ir => ?_⟩
    -- the pair
    have f3 := e2.trans e3
    refine ⟨_, rfl, _, rfl, _, rfl, _, rfl, a, ns, 2, rfl, keep (nD f3), fun c2 => ⟨_, rfl, _, _, rfl, rfl, _, _, rfl, rfl, by omega, ?_⟩⟩
    have b0 : 0 ≤ c2.fmod ((m : Int) + 1) := Int.fmod_nonneg_of_pos _ (by omega)
    have b1 : c2.fmod ((m : Int) + 1) < (m : Int) + 1 := Int.fmod_lt_of_pos _ (by omega)
    obtain ⟨q1, hq1⟩ : ∃ n : Nat, c2.fmod ((m : Int) + 1) = (n : Int) := ⟨(c2.fmod ((m : Int) + 1)).toNat, by omega⟩
    refine ⟨D, v, rv, q1, by rw [← hq1]; rfl, d3, ir, okr, by omega, fun u bs H4 hb okb e4 d4 ib => ⟨by show 2 ≤ sizeLine; decide, fun t ht => ?_⟩⟩
    exact q (.ref t) ⟨rv, bs⟩ _ ⟨okr, by show bs.length ≤ 7; omega, okb⟩ (by show bs.length ≤ m; omega) (nD (f3.trans (e4.trans (Ext.new ht)))) ⟨t, v, u, rfl, sqT_new, (Ext.new (ex := []) ht).river (e4.river ir), (Ext.new (ex := []) ht).barges ib⟩

def spLPlan (K : PySem.W.Frag) : Sp := fun vs H Q _ => ∃ (a : Addr) (ns : List Int) (m : Nat), vs = [.ref a, .int (m : Int)] ∧ SqL K H a (ns.map V.int) ∧ m ≤ 7 ∧ ∀ (u : V) (pl : List (Option Int)) (H' : Hp), PlOk m pl → Ext [] H H' → IsPlan K H' u pl → Q u H'
theorem ok__law_plan (T : Facts A K mg base) : FnOk P w K mg base CX0 2 A.a__law_plan A.d__law_plan ["_law_script", "_law_many"] (spLPlan K) := by
  refine T.F__law_plan.ok sc__law_plan (fun vs H Q E h => ?_) (fun cdv A1 outer s H vs Q E hr h => ?_)
  · obtain ⟨a, ns, m, rfl, _⟩ := h
    rfl
  · obtain ⟨a, ns, m, rfl, hS, m7, q⟩ := h
    refine ⟨_, PSs.nox (pss_cons (ps_set (i := 2) sc__law_plan.nd rfl (Or.inl rfl) (pe_call (ok__law_dice T) (hr.mono (by decide)) (by rfl) T.g__law_dice T.F__law_dice.kp T.b__law_dice .nil pass0 (pa_cons (pe_call (ok__law_cell_at T) (hr.mono (by decide)) (by rfl) T.g__law_cell_at T.F__law_cell_at.kp T.b__law_cell_at .nil pass0 (pa_cons (pv 0) (pa_cons pe_int pa_nil))) pa_nil)))
      (pss_cons (ps_set (i := 3) sc__law_plan.nd rfl (Or.inl rfl) (pe_lst pa_nil))
      (pss_cons (ps_for PassesOwn.never rfl (pi_range1 (by rfl) T.n_range (pa_cons (pv 1) pa_nil)) (pg_name (i := 4) sc__law_plan.nd rfl (Or.inl rfl)) (pss_one (ps_expr (pe_bm PySem.F.plainAttrs_list PySem.F.slot_list_append PySem.F.type_list_append mt_append (pv 3) (pa_cons (pe_ix ix_seq (pe_lst (pa_cons pe_non (pa_cons (pe_call (ok__law_roll T) (hr.mono (by decide)) (by rfl) T.g__law_roll T.F__law_roll.kp T.b__law_roll .nil pass0 (pa_cons (pv 2) (pa_cons pe_int pa_nil))) (pa_cons (pe_op op_add (pe_call (ok__law_roll T) (hr.mono (by decide)) (by rfl) T.g__law_roll T.F__law_roll.kp T.b__law_roll .nil pass0 (pa_cons (pv 2) (pa_cons pe_int pa_nil))) pe_int) pa_nil)))) (pe_call (ok__law_roll T) (hr.mono (by decide)) (by rfl) T.g__law_roll T.F__law_roll.kp T.b__law_roll .nil pass0 (pa_cons (pv 2) (pa_cons pe_int pa_nil))) (fun _ _ => rfl)) pa_nil)))))
      (pss_one (ps_ret (pe_callTy call_tuple_of (by rfl) T.n_tuple (by decide +kernel) (pa_cons (pv 3) pa_nil))))))), ?_⟩
    refine ⟨_, rfl, a, ns, 3, rfl, hS, fun c => ⟨c, rfl, fun D H1 hD e1 d1 => ?_⟩⟩
    have born : ∀ {H2 H3}, Ext [] H H2 → Ext [D] H2 H3 → Ext [] H H3 := fun e f => e.born hD f
    refine ⟨Nat.zero_le _, fun L hL => ?_⟩
    have hL0 : H L = none := e1.dom L hL
    have nDL : D ≠ L := by
      obtain ⟨a, b, z, _⟩ := d1
      exact ne_of_none z hL
    refine ⟨_, rfl, (m : Int), rfl, by omega, by omega, for_range (n := m) (fun j σ H3 => ∃ y4 pl, σ = [some (.ref a), some (.int (m : Int)), some (.ref D), some (.ref L), y4] ∧ Ext [] H H3 ∧ DiceAt H3 D ∧ H3 L = some (.lst (pl.map oV)) ∧ j ≤ m ∧ PlOk j pl)
      ⟨none, [], rfl, e1.trans (Ext.new hL), (Ext.new (ex := []) hL).dice (by simp) d1, upd_same, Nat.zero_le _, ⟨rfl, fun _ h => absurd h (by simp)⟩⟩ ?_ ?_⟩
    · rintro j σ H3 hj ⟨y4, pl, rfl, e3, d3, hL3, _, okp⟩
      have lp := okp.len
      refine ⟨_, rfl, .inl ⟨rfl, _, .inl (.inl hL3)⟩, ?_⟩
      refine ⟨_, rfl, D, 12, rfl, d3, by omega, by omega, fun w4 H4 w40 w41 e4 d4 => ?_⟩
      refine ⟨_, rfl, D, 3, rfl, d4, by omega, by omega, fun w5 H5 w50 w51 e5 d5 => ⟨_, _, rfl, rfl, ?_⟩⟩
      refine ⟨by show 3 ≤ sizeLine; decide, fun p hp => ?_⟩
      have e6 := Ext.new (ex := []) (o := .lst [.non, .int w4, .int (w5 + 9)]) hp
      have d6 := e6.dice (by simp) d5
      refine ⟨_, rfl, D, 3, rfl, d6, by omega, by omega, fun w6 H6 w60 w61 e7 d7 => ?_⟩
      obtain ⟨o, ho, hoo⟩ : ∃ o : Option Int, atI [V.non, .int w4, .int (w5 + 9)] w6 = some (oV o) ∧ ∀ h, o = some h → 0 ≤ h ∧ h ≤ 11 := by
        obtain rfl | rfl | rfl : w6 = 0 ∨ w6 = 1 ∨ w6 = 2 := by omega
        · exact ⟨none, atI_nat (j := 0) rfl, fun h z => by cases z⟩
        · exact ⟨some w4, atI_nat (j := 1) rfl, fun h z => by cases z; omega⟩
        · exact ⟨some (w5 + 9), atI_nat (j := 2) rfl, fun h z => by cases z; omega⟩
      have nDp : D ≠ p := by
        obtain ⟨a, b, zz, _⟩ := d5
        exact ne_of_none zz hp
      have hp6 : H6 p = some (.lst [.non, .int w4, .int (w5 + 9)]) := e7.lst p _ (by simp [nDp.symm]) upd_same
      have hL5 : H5 L = some (.lst (pl.map oV)) := e5.lst L _ (by simp [nDL.symm]) (e4.lst L _ (by simp [nDL.symm]) hL3)
      have hL6 : H6 L = some (.lst (pl.map oV)) := e7.lst L _ (by simp [nDL.symm]) (e6.lst L _ (by simp) hL5)
      refine .inl ⟨p, _, w6, oV o, rfl, rfl, .inl (.inl hp6), ho, L, _, _, rfl, rfl, hL6, small1000 (by rw [List.length_map]; omega), ?_⟩
      refine ⟨_, pl ++ [o], rfl, ?_, ?_, ?_, by omega, ⟨by rw [List.length_append, lp]; rfl, fun h hh => ?_⟩⟩
      · exact (born (born (born e3 e4) e5 |>.trans e6) e7).wrNew hL0
      · obtain ⟨a, b, zz, r⟩ := d7
        exact ⟨a, b, by rw [upd_ne nDL]; exact zz, r⟩
      · rw [upd_same, List.map_append]
        rfl
      · rcases List.mem_append.mp hh with hh | hh
        · exact okp.ok h hh
        · exact hoo h (List.mem_singleton.mp hh).symm
    · rintro σ H3 ⟨y4, pl, rfl, e3, d3, hL3, _, okp⟩
      refine ⟨_, rfl, L, _, rfl, .inl ⟨.inl (.inl hL3), fun t ht => ?_⟩⟩
      exact q _ pl _ okp (e3.trans (Ext.new ht)) ⟨t, rfl, sqT_new⟩

def spLText (K : PySem.W.Frag) : Sp := fun vs H Q _ => ∃ (v u : V) (k : Book) (pl : List (Option Int)), vs = [v, u] ∧ IsBook K H v k ∧ k.Ok ∧ IsPlan K H u pl ∧ PlOk k.bs.length pl ∧ ∀ H', Ext [] H H' → Q (.str (textN k pl)) H'
theorem ok__law_text (T : Facts A K mg base) : FnOk P w K mg base CX0 1 A.a__law_text A.d__law_text ["_law_book_here", "_law_plan_here"] (spLText K) := by
  refine T.F__law_text.ok sc__law_text (fun vs H Q E h => ?_) (fun cdv A1 outer s H vs Q E hr h => ?_)
  · obtain ⟨v, u, k, pl, rfl, _⟩ := h
    rfl
  · obtain ⟨v, u, k, pl, rfl, ib, ok, ⟨pa, rfl, tp⟩, okp, q⟩ := h
    refine ⟨_, PSs.nox (pss_cons (ps_set (i := 2) sc__law_text.nd rfl (Or.inl rfl) (pe_lst pa_nil))
      (pss_cons (ps_for PassesOwn.never rfl (pi_tup (pe_ix ix_seq (pv 0) pe_int (fun _ _ => rfl))) (pg_tup (by rfl) (pgs_cons (pg_name (i := 3) sc__law_text.nd rfl (Or.inl rfl)) (pgs_cons (pg_name (i := 4) sc__law_text.nd rfl (Or.inl rfl)) (pgs_cons (pg_name (i := 5) sc__law_text.nd rfl (Or.inl rfl)) pgs_nil)))) (pss_one (ps_expr (pe_bm PySem.F.plainAttrs_list PySem.F.slot_list_append PySem.F.type_list_append mt_append (pv 2) (pa_cons (pe_join pe_str (pe_op op_cat (pe_lst (pa_cons pe_str (pa_cons (pe_callTy call_str_int (by rfl) T.n_str (by decide +kernel) (pa_cons (pv 3) pa_nil)) (pa_cons (pe_callTy call_str_int (by rfl) T.n_str (by decide +kernel) (pa_cons (pv 4) pa_nil)) pa_nil)))) (pe_lc (own := [("_law_depth", 6)]) (g := (gName 6)) rfl sc__law_text.nd (pi_tup (pv 5)) (blkOk_by (own := [("_law_depth", 6)]) (N := ["_law_book_here", "_law_plan_here", "_law_out", "_law_hours", "_law_room", "_law_depths", "_law_depth", "_law_barge", "_law_number", "_law_hour"]) (sc := defScope s__law_text) (by decide +kernel)) (fun _ _ _ _ _ => (pg_name (i := 6) sc__law_text.nd rfl (Or.inl rfl))) (fun _ _ _ _ _ => pts_nil) (fun _ _ _ _ _ => (pe_callTy call_str_int (by rfl) T.n_str (by decide +kernel) (pa_cons (pv 6) pa_nil)))))) pa_nil)))))
      (pss_cons (ps_for PassesOwn.never rfl (pi_tup (pe_ix ix_seq (pv 0) pe_int (fun _ _ => rfl))) (pg_name (i := 7) sc__law_text.nd rfl (Or.inl rfl)) (pss_one (ps_expr (pe_bm PySem.F.plainAttrs_list PySem.F.slot_list_append PySem.F.type_list_append mt_append (pv 2) (pa_cons (pe_join pe_str (pe_op op_cat (pe_lst (pa_cons pe_str pa_nil)) (pe_lc (own := [("_law_number", 8)]) (g := (gName 8)) rfl sc__law_text.nd (pi_tup (pv 7)) (blkOk_by (own := [("_law_number", 8)]) (N := ["_law_book_here", "_law_plan_here", "_law_out", "_law_hours", "_law_room", "_law_depths", "_law_depth", "_law_barge", "_law_number", "_law_hour"]) (sc := defScope s__law_text) (by decide +kernel)) (fun _ _ _ _ _ => (pg_name (i := 8) sc__law_text.nd rfl (Or.inl rfl))) (fun _ _ _ _ _ => pts_nil) (fun _ _ _ _ _ => (pe_callTy call_str_int (by rfl) T.n_str (by decide +kernel) (pa_cons (pv 8) pa_nil)))))) pa_nil)))))
      (pss_one (ps_ret (pe_join pe_str (pe_op op_cat (pv 2) (pe_lst (pa_cons (pe_join pe_str (pe_op op_cat (pe_lst (pa_cons pe_str pa_nil)) (pe_lc (own := [("_law_hour", 9)]) (g := (gName 9)) rfl sc__law_text.nd (pi_tup (pv 1)) (blkOk_by (own := [("_law_hour", 9)]) (N := ["_law_book_here", "_law_plan_here", "_law_out", "_law_hours", "_law_room", "_law_depths", "_law_depth", "_law_barge", "_law_number", "_law_hour"]) (sc := defScope s__law_text) (by decide +kernel)) (fun _ _ _ _ _ => (pg_name (i := 9) sc__law_text.nd rfl (Or.inl rfl))) (fun _ _ _ _ _ => pts_nil) (fun _ _ _ _ _ => (pe_ifExp (pt_cmpR op_isN (pv 9) pe_non (nomark _)) pe_str (pe_callTy call_str_int (by rfl) T.n_str (by decide +kernel) (pa_cons (pv 9) pa_nil))))))) pa_nil))))))))), ?_⟩
    have n7 := ok.n7
    have n8 := ok.rv.n8
    have lp := okp.len
    obtain ⟨a, r, b, rfl, t0, ⟨ra, rs, rfl, t1, pr⟩, ⟨ba, bs, rfl, t2, pb⟩⟩ := id ib
    have lr := plen pr
    have lb := plen pb
    refine ⟨Nat.zero_le _, fun L hL => ?_⟩
    have e0 : Ext [] H (upd H L (.lst [])) := Ext.new hL
    refine ⟨_, rfl, .inr (.inl ⟨a, _, 0, _, rfl, rfl, e0.sqT t0, atI_nat (j := 0) rfl, ?_⟩)⟩
    refine ⟨ra, rfl, ⟨_, e0.sqT t1⟩, for_tup (xs := rs) (fun i σ H3 => ∃ y3 y4 y5 y6 y7 y8 y9, σ = [some (.ref a), some (.ref pa), some (.ref L), y3, y4, y5, y6, y7, y8, y9] ∧ i ≤ rs.length ∧ Ext [] H H3 ∧ H3 L = some (.lst (strsV ((k.rv.take i).map fun s => rowS "stretch" (stretchC s)))))
      ⟨_, _, _, _, _, _, _, rfl, Nat.zero_le _, e0, upd_same⟩ (fun i σ H3 _ z => ?_) (fun i x σ H3 hx z => ?_) (fun σ H3 z => ?_)⟩
    · obtain ⟨_, _, _, _, _, _, _, _, _, e, _⟩ := z
      exact e.sqT t1
    · obtain ⟨s, hs, sa, sd, rfl, u1, u2⟩ := pget pr hx
      obtain ⟨y3, y4, y5, y6, y7, y8, y9, rfl, _, e3, hL3⟩ := z
      have hi : i < rs.length := (List.getElem?_eq_some_iff.mp hx).1
      have okS := ok.rv.ok s (List.mem_of_getElem? hs)
      have sm := stretchC_small okS
      have d24 := okS.d24
      have h1 := okS.h1
      have h9 := okS.h9
      have r1 := okS.r1
      have r9 := okS.r9
      refine ⟨sa, _, rfl, e3.sqT u1, rfl, _, _, rfl, _, _, rfl, _, _, rfl, rfl, ?_⟩
      refine ⟨_, rfl, .inl ⟨rfl, _, .inl (.inl hL3)⟩, ⟨_, rfl⟩, _, rfl, s.hours, rfl, cellS_log (by omega) (by omega), _, rfl, s.room, rfl, cellS_log (by omega) (by omega), by show 3 ≤ sizeLine; decide, fun N hN => ?_⟩
      have eN := Ext.new (ex := []) (o := .lst [.str "stretch", .str (toString s.hours), .str (toString s.room)]) hN
      have f3 := e3.trans eN
      refine ⟨.ref sd, rfl, sd, rfl, ⟨_, f3.sqT u2⟩, fun D hD => lc_tup (xs := s.ds.map V.int) (fun j H5 => Ext [] (upd H3 N (.lst [.str "stretch", .str (toString s.hours), .str (toString s.room)])) H5 ∧ j ≤ s.ds.length ∧ H5 D = some (.lst (strsV ((s.ds.take j).map fun d => cellS (some d))))) ⟨Ext.new hD, Nat.zero_le _, upd_same⟩ (fun _ _ _ z => (f3.trans z.1).sqT u2) (fun j x H5 hx z => ?_) (fun H5 z => ?_)⟩
      · obtain ⟨d, hd, rfl⟩ := map_int hx
        obtain ⟨e5, _, hL5⟩ := z
        have hj : j < s.ds.length := (List.getElem?_eq_some_iff.mp hd).1
        have hds := okS.ds d (List.mem_of_getElem? hd)
        refine ⟨rfl, yesT ⟨_, rfl, d, rfl, cellS_log (by omega) (by omega), _, hL5, small1000 (by rw [List.length_map, List.length_map, List.length_take]; omega), e5.wrNew hD, hj, ?_⟩⟩
        rw [upd_same, map_take hd]
        unfold strsV
        rw [List.map_append]
        rfl
      · obtain ⟨e5, _, hL5⟩ := z
        rw [List.length_map, List.take_length] at hL5
        have hN5 := e5.lst N _ (by simp) upd_same
        refine ⟨N, D, _, _, rfl, rfl, hN5, hL5, Nat.le_of_lt (small1000 (by rw [List.length_map, List.length_map]; simp; omega)), fun p hp => ?_⟩
        have e6 := e5.trans (Ext.new (ex := []) (o := .lst ([.str "stretch", .str (toString s.hours), .str (toString s.room)] ++ strsV (s.ds.map fun d => cellS (some d)))) hp)
        have ew : ("stretch" : Str) :: (stretchC s).map cellS = (("stretch" : Str) :: Str.ofString (toString s.hours) :: Str.ofString (toString s.room) :: []) ++ s.ds.map fun d => cellS (some d) := by
          unfold stretchC
          rw [List.map_cons, List.map_cons, List.map_map]
          rfl
        have hb := rowSum_le (z := "stretch") (by decide +kernel) sm.1
        have sm2 := sm.2
        refine ⟨_, p, "stretch" :: (stretchC s).map cellS, rfl, rfl, .inl (.inl (.inl ?_)), ?_, L, _, _, rfl, rfl, (eN.trans e6).lst L _ (by simp) hL3, small1000 (by rw [List.length_map, List.length_map, List.length_take]; omega), ?_⟩
        · rw [upd_same, ew]
          unfold strsV
          rw [List.map_append]
          rfl
        · have h3 : (" " : Str).length = 1 := by decide +kernel
          rw [h3, List.length_cons, List.length_map]
          omega
        refine ⟨_, _, _, _, _, _, _, rfl, hi, (e3.trans (eN.trans e6)).wrNew hL, ?_⟩
        rw [upd_same, map_take hs]
        unfold strsV
        rw [List.map_append]
        rfl
    obtain ⟨y3, y4, y5, y6, y7, y8, y9, rfl, _, e3, hL3⟩ := z
    rw [lr, List.take_length] at hL3
    refine ⟨_, rfl, .inr (.inl ⟨a, _, 1, _, rfl, rfl, e3.sqT t0, atI_nat (j := 1) rfl, ?_⟩)⟩
    refine ⟨ba, rfl, ⟨_, e3.sqT t2⟩, for_tup (xs := bs) (fun i σ H4 => ∃ y3 y4 y5 y6 y7 y8 y9, σ = [some (.ref a), some (.ref pa), some (.ref L), y3, y4, y5, y6, y7, y8, y9] ∧ i ≤ bs.length ∧ Ext [] H H4 ∧ H4 L = some (.lst (strsV ((k.rv.map fun s => rowS "stretch" (stretchC s)) ++ (k.bs.take i).map fun s => rowS "barge" (bargeC s)))))
      ⟨_, _, _, _, _, _, _, rfl, Nat.zero_le _, e3, by rw [List.take_zero, List.map_nil, List.append_nil]; exact hL3⟩ (fun i σ H4 _ z => ?_) (fun i x σ H4 hx z => ?_) (fun σ H4 z => ?_)⟩
    · obtain ⟨_, _, _, _, _, _, _, _, _, e, _⟩ := z
      exact e.sqT t2
    · obtain ⟨s, hs, sa, rfl, u1⟩ := pget pb hx
      obtain ⟨y3, y4, y5, y6, y7, y8, y9, rfl, _, e4, hL4⟩ := z
      have hi : i < bs.length := (List.getElem?_eq_some_iff.mp hx).1
      have sm := bargeC_small (ok.ok s (List.mem_of_getElem? hs)) n8
      have l5 : (bargeC s).length = 5 := rfl
      refine ⟨_, rfl, .inl ⟨rfl, _, .inl (.inl hL4)⟩, ⟨_, rfl⟩, by show 1 ≤ sizeLine; decide, fun N hN => ?_⟩
      have eN := Ext.new (ex := []) (o := .lst [.str "barge"]) hN
      have f4 := e4.trans eN
      refine ⟨.ref sa, rfl, sa, rfl, ⟨_, f4.sqT u1⟩, fun D hD => lc_tup (xs := (bargeC s).map oV) (fun j H5 => Ext [] (upd H4 N (.lst [.str "barge"])) H5 ∧ j ≤ (bargeC s).length ∧ H5 D = some (.lst (strsV (((bargeC s).take j).map cellS)))) ⟨Ext.new hD, Nat.zero_le _, upd_same⟩ (fun _ _ _ z => (f4.trans z.1).sqT u1) (fun j x H5 hx z => ?_) (fun H5 z => ?_)⟩
      · obtain ⟨o, hd, rfl⟩ := map_get hx
        obtain ⟨e5, _, hL5⟩ := z
        have hj : j < (bargeC s).length := (List.getElem?_eq_some_iff.mp hd).1
        obtain ⟨d, rfl⟩ : ∃ d, o = some d := by
          have hm := List.mem_of_getElem? hd
          unfold bargeC at hm
          simp only [List.mem_cons, List.not_mem_nil, or_false] at hm
          rcases hm with rfl | rfl | rfl | rfl | rfl <;> exact ⟨_, rfl⟩
        have hds := sm.1 (some d) (List.mem_of_getElem? hd) d rfl
        refine ⟨rfl, yesT ⟨_, rfl, d, rfl, cellS_log (by omega) (by omega), _, hL5, small1000 (by rw [List.length_map, List.length_map, List.length_take]; omega), e5.wrNew hD, hj, ?_⟩⟩
        rw [upd_same, map_take hd]
        unfold strsV
        rw [List.map_append]
        rfl
      · obtain ⟨e5, _, hL5⟩ := z
        rw [List.length_map, List.take_length] at hL5
        have hN5 := e5.lst N _ (by simp) upd_same
        refine ⟨N, D, _, _, rfl, rfl, hN5, hL5, Nat.le_of_lt (small1000 (by rw [List.length_map, List.length_map]; simp; omega)), fun p hp => ?_⟩
        have e6 := e5.trans (Ext.new (ex := []) (o := .lst ([.str "barge"] ++ strsV ((bargeC s).map cellS))) hp)
        have hb := rowSum_le (z := "barge") (by decide +kernel) sm.1
        have hl4 : (strsV ((k.rv.map fun s => rowS "stretch" (stretchC s)) ++ (k.bs.take i).map fun s => rowS "barge" (bargeC s))).length ≤ 15 := by
          simp only [List.length_map, List.length_append, List.length_take]
          omega
        refine ⟨_, p, "barge" :: (bargeC s).map cellS, rfl, rfl, .inl (.inl (.inl upd_same)), ?_, L, _, _, rfl, rfl, (eN.trans e6).lst L _ (by simp) hL4, small1000 (by omega), ?_⟩
        · have h3 : (" " : Str).length = 1 := by decide +kernel
          rw [h3, List.length_cons, List.length_map]
          omega
        refine ⟨_, _, _, _, _, _, _, rfl, hi, (e4.trans (eN.trans e6)).wrNew hL, ?_⟩
        rw [upd_same, map_take hs]
        unfold strsV
        rw [List.map_append, List.map_append, List.map_append, List.append_assoc]
        rfl
    obtain ⟨y3, y4, y5, y6, y7, y8, y9, rfl, _, e4, hL4⟩ := z
    rw [lb, List.take_length] at hL4
    refine ⟨⟨_, rfl⟩, _, rfl, ⟨_, rfl⟩, by show 1 ≤ sizeLine; decide, fun N hN => ?_⟩
    have eN := Ext.new (ex := []) (o := .lst [.str "plan"]) hN
    have f4 := e4.trans eN
    refine ⟨.ref pa, rfl, pa, rfl, ⟨_, f4.sqT tp⟩, fun D hD => lc_tup (xs := pl.map oV) (fun i H5 => Ext [] (upd H4 N (.lst [.str "plan"])) H5 ∧ i ≤ pl.length ∧ H5 D = some (.lst (strsV ((pl.take i).map cellS)))) ⟨Ext.new hD, Nat.zero_le _, upd_same⟩ (fun _ _ _ z => (f4.trans z.1).sqT tp) (fun i x H5 hx2 z => ?_) (fun H5 z => ?_)⟩
    · obtain ⟨o, ho, rfl⟩ := map_get hx2
      obtain ⟨e5, _, hL5⟩ := z
      have hi : i < pl.length := (List.getElem?_eq_some_iff.mp ho).1
      have sm := plan_small okp o (List.mem_of_getElem? ho)
      have ln : (strsV ((pl.take i).map cellS)).length ≤ 30 := by
        rw [List.length_map, List.length_map, List.length_take]
        omega
      have step : strsV ((pl.take (i + 1)).map cellS) = strsV ((pl.take i).map cellS) ++ [.str (cellS o)] := by
        rw [map_take ho]
        unfold strsV
        rw [List.map_append]
        rfl
      refine ⟨rfl, yesT ?_⟩
      cases o with
      | none =>
        refine ⟨_, rfl, rfl, _, rfl, iteD rfl ⟨_, hL5, small1000 (by omega), e5.wrNew hD, hi, ?_⟩⟩
        rw [upd_same, step]
        rfl
      | some n =>
        obtain ⟨h0, h9⟩ := sm n rfl
        refine ⟨_, rfl, rfl, _, rfl, iteDn (by simp [oV]) ⟨_, rfl, n, rfl, cellS_log h0 h9, _, hL5, small1000 (by omega), e5.wrNew hD, hi, ?_⟩⟩
        rw [upd_same, step]
        rfl
    obtain ⟨e5, _, hL5⟩ := z
    rw [List.length_map, List.take_length] at hL5
    have hN5 := e5.lst N _ (by simp) upd_same
    refine ⟨N, D, _, _, rfl, rfl, hN5, hL5, Nat.le_of_lt (small1000 (by rw [List.length_map, List.length_map]; simp; omega)), fun p hp => ?_⟩
    have e6 := Ext.new (ex := []) (o := .lst ([.str "plan"] ++ strsV (pl.map cellS))) hp
    have hb := rowSum_le (z := "plan") (xs := pl) (by decide +kernel) (plan_small okp)
    refine ⟨_, p, "plan" :: pl.map cellS, rfl, rfl, .inl (.inl (.inl upd_same)), ?_, by show 1 ≤ sizeLine; decide, fun p2 hp2 => ?_⟩
    · have h3 : (" " : Str).length = 1 := by decide +kernel
      rw [h3, List.length_cons, List.length_map]
      omega
    have e7 := Ext.new (ex := []) (o := .lst [.str (rowS "plan" pl)]) hp2
    have f7 := eN.trans (e5.trans (e6.trans e7))
    refine ⟨L, p2, _, _, rfl, rfl, f7.lst L _ (by simp) hL4, upd_same, Nat.le_of_lt (small1000 (by simp only [List.length_append, List.length_map]; simp; omega)), fun p3 hp3 => ?_⟩
    refine ⟨_, p3, linesN k pl, rfl, rfl, .inl (.inl (.inl ?_)), lines_sum ok okp, q _ (e4.trans (f7.trans (Ext.new hp3)))⟩
    rw [upd_same]
    unfold linesN strsV
    rw [List.map_append (l₂ := [rowS "plan" pl])]
    rfl

def spLBadRow : Sp := fun vs H Q _ => ∃ c : Int, vs = [.int c] ∧ ∀ s H', Ext [] H H' → s ∈ badRows → Q (.str s) H'
theorem ok__law_bad_row (T : Facts A K mg base) : FnOk P w K mg base CX0 1 A.a__law_bad_row A.d__law_bad_row ["_law_cell"] (spLBadRow) := by
  refine T.F__law_bad_row.ok sc__law_bad_row (fun vs H Q E h => ?_) (fun cdv A1 outer s H vs Q E hr h => ?_)
  · obtain ⟨c, rfl, _⟩ := h
    rfl
  · obtain ⟨c, rfl, q⟩ := h
    refine ⟨_, PSs.nox (pss_cons (ps_set (i := 1) sc__law_bad_row.nd rfl (Or.inl rfl) (pe_lst (pa_cons pe_str (pa_cons pe_str (pa_cons pe_str (pa_cons pe_str (pa_cons pe_str (pa_cons pe_str (pa_cons pe_str pa_nil)))))))))
      (pss_cons (ps_set (i := 1) sc__law_bad_row.nd rfl (Or.inl rfl) (pe_op op_cat (pv 1) (pe_lst (pa_cons pe_str (pa_cons pe_str (pa_cons pe_str pa_nil))))))
      (pss_cons (ps_set (i := 1) sc__law_bad_row.nd rfl (Or.inl rfl) (pe_op op_cat (pv 1) (pe_lst (pa_cons pe_str (pa_cons pe_str (pa_cons pe_str pa_nil))))))
      (pss_cons (ps_set (i := 1) sc__law_bad_row.nd rfl (Or.inl rfl) (pe_op op_cat (pv 1) (pe_lst (pa_cons pe_str (pa_cons pe_str (pa_cons pe_str (pa_cons pe_str (pa_cons pe_str pa_nil))))))))
      (pss_cons (ps_set (i := 1) sc__law_bad_row.nd rfl (Or.inl rfl) (pe_op op_cat (pv 1) (pe_lst (pa_cons pe_str (pa_cons pe_str (pa_cons pe_str (pa_cons pe_str (pa_cons pe_str (pa_cons pe_str pa_nil)))))))))
      (pss_cons (ps_set (i := 1) sc__law_bad_row.nd rfl (Or.inl rfl) (pe_op op_cat (pv 1) (pe_lst (pa_cons pe_str (pa_cons pe_str (pa_cons pe_str (pa_cons pe_str pa_nil)))))))
      (pss_cons (ps_set (i := 1) sc__law_bad_row.nd rfl (Or.inl rfl) (pe_op op_cat (pv 1) (pe_lst (pa_cons pe_str (pa_cons pe_str (pa_cons pe_str pa_nil))))))
      (pss_cons (ps_set (i := 1) sc__law_bad_row.nd rfl (Or.inl rfl) (pe_op op_cat (pv 1) (pe_lst (pa_cons pe_str (pa_cons pe_str (pa_cons pe_str (pa_cons pe_str pa_nil)))))))
      (pss_one (ps_ret (pe_ix ix_seq (pe_op op_cat (pv 1) (pe_lst (pa_cons pe_str (pa_cons pe_str pa_nil)))) (pe_op op_modN (pv 0) pe_int) (fun _ _ => rfl)))))))))))), ?_⟩
    refine ⟨by show 7 ≤ sizeLine; decide, fun l0 hl0 => ?_⟩
    have e0 := Ext.new (ex := []) (o := .lst [.str "", .str "stretch", .str "stretch 1 1", .str "stretch 1 1 05", .str "stretch 1 1 1000", .str "stretch 1 1 -1", .str "stretch 1  1 5"]) hl0
    have h0 : (upd H l0 (.lst [.str "", .str "stretch", .str "stretch 1 1", .str "stretch 1 1 05", .str "stretch 1 1 1000", .str "stretch 1 1 -1", .str "stretch 1  1 5"])) l0 = some (.lst [.str "", .str "stretch", .str "stretch 1 1", .str "stretch 1 1 05", .str "stretch 1 1 1000", .str "stretch 1 1 -1", .str "stretch 1  1 5"]) := upd_same
    generalize upd H l0 (.lst [.str "", .str "stretch", .str "stretch 1 1", .str "stretch 1 1 05", .str "stretch 1 1 1000", .str "stretch 1 1 -1", .str "stretch 1  1 5"]) = H0 at e0 h0 ⊢
    refine ⟨_, rfl, by show 3 ≤ sizeLine; decide, fun m1 hm1 => ⟨l0, m1, _, _, rfl, rfl, (Ext.new (ex := []) hm1).lst l0 _ (by simp) h0, upd_same, Nat.le_of_lt (small1000 (by decide)), fun l1 hl1 => ?_⟩⟩
    have e1 := e0.trans ((Ext.new (ex := []) (o := .lst [.str "stretch 1 1 5 ", .str " stretch 1 1 5", .str "stretches 1 1 5"]) hm1).trans (Ext.new (ex := []) (o := .lst [.str "", .str "stretch", .str "stretch 1 1", .str "stretch 1 1 05", .str "stretch 1 1 1000", .str "stretch 1 1 -1", .str "stretch 1  1 5", .str "stretch 1 1 5 ", .str " stretch 1 1 5", .str "stretches 1 1 5"]) hl1))
    have h1 : (upd (upd H0 m1 (.lst [.str "stretch 1 1 5 ", .str " stretch 1 1 5", .str "stretches 1 1 5"])) l1 (.lst [.str "", .str "stretch", .str "stretch 1 1", .str "stretch 1 1 05", .str "stretch 1 1 1000", .str "stretch 1 1 -1", .str "stretch 1  1 5", .str "stretch 1 1 5 ", .str " stretch 1 1 5", .str "stretches 1 1 5"])) l1 = some (.lst [.str "", .str "stretch", .str "stretch 1 1", .str "stretch 1 1 05", .str "stretch 1 1 1000", .str "stretch 1 1 -1", .str "stretch 1  1 5", .str "stretch 1 1 5 ", .str " stretch 1 1 5", .str "stretches 1 1 5"]) := upd_same
    generalize hH1 : upd (upd H0 m1 (.lst [.str "stretch 1 1 5 ", .str " stretch 1 1 5", .str "stretches 1 1 5"])) l1 (.lst [.str "", .str "stretch", .str "stretch 1 1", .str "stretch 1 1 05", .str "stretch 1 1 1000", .str "stretch 1 1 -1", .str "stretch 1  1 5", .str "stretch 1 1 5 ", .str " stretch 1 1 5", .str "stretches 1 1 5"]) = H1 at e1 h1
    rw [show upd (upd H0 m1 (.lst [.str "stretch 1 1 5 ", .str " stretch 1 1 5", .str "stretches 1 1 5"])) l1 (.lst ([.str "", .str "stretch", .str "stretch 1 1", .str "stretch 1 1 05", .str "stretch 1 1 1000", .str "stretch 1 1 -1", .str "stretch 1  1 5"] ++ [.str "stretch 1 1 5 ", .str " stretch 1 1 5", .str "stretches 1 1 5"])) = H1 from hH1]
    refine ⟨_, rfl, by show 3 ≤ sizeLine; decide, fun m2 hm2 => ⟨l1, m2, _, _, rfl, rfl, (Ext.new (ex := []) hm2).lst l1 _ (by simp) h1, upd_same, Nat.le_of_lt (small1000 (by decide)), fun l2 hl2 => ?_⟩⟩
    have e2 := e1.trans ((Ext.new (ex := []) (o := .lst [.str "Stretch 1 1 5", .str "stretch 1 1 x", .str "1 1 5"]) hm2).trans (Ext.new (ex := []) (o := .lst [.str "", .str "stretch", .str "stretch 1 1", .str "stretch 1 1 05", .str "stretch 1 1 1000", .str "stretch 1 1 -1", .str "stretch 1  1 5", .str "stretch 1 1 5 ", .str " stretch 1 1 5", .str "stretches 1 1 5", .str "Stretch 1 1 5", .str "stretch 1 1 x", .str "1 1 5"]) hl2))
    have h2 : (upd (upd H1 m2 (.lst [.str "Stretch 1 1 5", .str "stretch 1 1 x", .str "1 1 5"])) l2 (.lst [.str "", .str "stretch", .str "stretch 1 1", .str "stretch 1 1 05", .str "stretch 1 1 1000", .str "stretch 1 1 -1", .str "stretch 1  1 5", .str "stretch 1 1 5 ", .str " stretch 1 1 5", .str "stretches 1 1 5", .str "Stretch 1 1 5", .str "stretch 1 1 x", .str "1 1 5"])) l2 = some (.lst [.str "", .str "stretch", .str "stretch 1 1", .str "stretch 1 1 05", .str "stretch 1 1 1000", .str "stretch 1 1 -1", .str "stretch 1  1 5", .str "stretch 1 1 5 ", .str " stretch 1 1 5", .str "stretches 1 1 5", .str "Stretch 1 1 5", .str "stretch 1 1 x", .str "1 1 5"]) := upd_same
    generalize hH2 : upd (upd H1 m2 (.lst [.str "Stretch 1 1 5", .str "stretch 1 1 x", .str "1 1 5"])) l2 (.lst [.str "", .str "stretch", .str "stretch 1 1", .str "stretch 1 1 05", .str "stretch 1 1 1000", .str "stretch 1 1 -1", .str "stretch 1  1 5", .str "stretch 1 1 5 ", .str " stretch 1 1 5", .str "stretches 1 1 5", .str "Stretch 1 1 5", .str "stretch 1 1 x", .str "1 1 5"]) = H2 at e2 h2
    rw [show upd (upd H1 m2 (.lst [.str "Stretch 1 1 5", .str "stretch 1 1 x", .str "1 1 5"])) l2 (.lst ([.str "", .str "stretch", .str "stretch 1 1", .str "stretch 1 1 05", .str "stretch 1 1 1000", .str "stretch 1 1 -1", .str "stretch 1  1 5", .str "stretch 1 1 5 ", .str " stretch 1 1 5", .str "stretches 1 1 5"] ++ [.str "Stretch 1 1 5", .str "stretch 1 1 x", .str "1 1 5"])) = H2 from hH2]
    refine ⟨_, rfl, by show 5 ≤ sizeLine; decide, fun m3 hm3 => ⟨l2, m3, _, _, rfl, rfl, (Ext.new (ex := []) hm3).lst l2 _ (by simp) h2, upd_same, Nat.le_of_lt (small1000 (by decide)), fun l3 hl3 => ?_⟩⟩
    have e3 := e2.trans ((Ext.new (ex := []) (o := .lst [.str "barge", .str "barge 0 1 5 5", .str "barge 0 1 5 5 9 9", .str "barge 0 1 5 5 x", .str "barge 0 1 5 5 09"]) hm3).trans (Ext.new (ex := []) (o := .lst [.str "", .str "stretch", .str "stretch 1 1", .str "stretch 1 1 05", .str "stretch 1 1 1000", .str "stretch 1 1 -1", .str "stretch 1  1 5", .str "stretch 1 1 5 ", .str " stretch 1 1 5", .str "stretches 1 1 5", .str "Stretch 1 1 5", .str "stretch 1 1 x", .str "1 1 5", .str "barge", .str "barge 0 1 5 5", .str "barge 0 1 5 5 9 9", .str "barge 0 1 5 5 x", .str "barge 0 1 5 5 09"]) hl3))
    have h3 : (upd (upd H2 m3 (.lst [.str "barge", .str "barge 0 1 5 5", .str "barge 0 1 5 5 9 9", .str "barge 0 1 5 5 x", .str "barge 0 1 5 5 09"])) l3 (.lst [.str "", .str "stretch", .str "stretch 1 1", .str "stretch 1 1 05", .str "stretch 1 1 1000", .str "stretch 1 1 -1", .str "stretch 1  1 5", .str "stretch 1 1 5 ", .str " stretch 1 1 5", .str "stretches 1 1 5", .str "Stretch 1 1 5", .str "stretch 1 1 x", .str "1 1 5", .str "barge", .str "barge 0 1 5 5", .str "barge 0 1 5 5 9 9", .str "barge 0 1 5 5 x", .str "barge 0 1 5 5 09"])) l3 = some (.lst [.str "", .str "stretch", .str "stretch 1 1", .str "stretch 1 1 05", .str "stretch 1 1 1000", .str "stretch 1 1 -1", .str "stretch 1  1 5", .str "stretch 1 1 5 ", .str " stretch 1 1 5", .str "stretches 1 1 5", .str "Stretch 1 1 5", .str "stretch 1 1 x", .str "1 1 5", .str "barge", .str "barge 0 1 5 5", .str "barge 0 1 5 5 9 9", .str "barge 0 1 5 5 x", .str "barge 0 1 5 5 09"]) := upd_same
    generalize hH3 : upd (upd H2 m3 (.lst [.str "barge", .str "barge 0 1 5 5", .str "barge 0 1 5 5 9 9", .str "barge 0 1 5 5 x", .str "barge 0 1 5 5 09"])) l3 (.lst [.str "", .str "stretch", .str "stretch 1 1", .str "stretch 1 1 05", .str "stretch 1 1 1000", .str "stretch 1 1 -1", .str "stretch 1  1 5", .str "stretch 1 1 5 ", .str " stretch 1 1 5", .str "stretches 1 1 5", .str "Stretch 1 1 5", .str "stretch 1 1 x", .str "1 1 5", .str "barge", .str "barge 0 1 5 5", .str "barge 0 1 5 5 9 9", .str "barge 0 1 5 5 x", .str "barge 0 1 5 5 09"]) = H3 at e3 h3
    rw [show upd (upd H2 m3 (.lst [.str "barge", .str "barge 0 1 5 5", .str "barge 0 1 5 5 9 9", .str "barge 0 1 5 5 x", .str "barge 0 1 5 5 09"])) l3 (.lst ([.str "", .str "stretch", .str "stretch 1 1", .str "stretch 1 1 05", .str "stretch 1 1 1000", .str "stretch 1 1 -1", .str "stretch 1  1 5", .str "stretch 1 1 5 ", .str " stretch 1 1 5", .str "stretches 1 1 5", .str "Stretch 1 1 5", .str "stretch 1 1 x", .str "1 1 5"] ++ [.str "barge", .str "barge 0 1 5 5", .str "barge 0 1 5 5 9 9", .str "barge 0 1 5 5 x", .str "barge 0 1 5 5 09"])) = H3 from hH3]
    refine ⟨_, rfl, by show 6 ≤ sizeLine; decide, fun m4 hm4 => ⟨l3, m4, _, _, rfl, rfl, (Ext.new (ex := []) hm4).lst l3 _ (by simp) h3, upd_same, Nat.le_of_lt (small1000 (by decide)), fun l4 hl4 => ?_⟩⟩
    have e4 := e3.trans ((Ext.new (ex := []) (o := .lst [.str "barges 0 1 5 5 9", .str "barge  0 1 5 5 9", .str "barge 0 1 5 5 9 ", .str "plan x", .str "plan 05", .str "plan 1 --"]) hm4).trans (Ext.new (ex := []) (o := .lst [.str "", .str "stretch", .str "stretch 1 1", .str "stretch 1 1 05", .str "stretch 1 1 1000", .str "stretch 1 1 -1", .str "stretch 1  1 5", .str "stretch 1 1 5 ", .str " stretch 1 1 5", .str "stretches 1 1 5", .str "Stretch 1 1 5", .str "stretch 1 1 x", .str "1 1 5", .str "barge", .str "barge 0 1 5 5", .str "barge 0 1 5 5 9 9", .str "barge 0 1 5 5 x", .str "barge 0 1 5 5 09", .str "barges 0 1 5 5 9", .str "barge  0 1 5 5 9", .str "barge 0 1 5 5 9 ", .str "plan x", .str "plan 05", .str "plan 1 --"]) hl4))
    have h4 : (upd (upd H3 m4 (.lst [.str "barges 0 1 5 5 9", .str "barge  0 1 5 5 9", .str "barge 0 1 5 5 9 ", .str "plan x", .str "plan 05", .str "plan 1 --"])) l4 (.lst [.str "", .str "stretch", .str "stretch 1 1", .str "stretch 1 1 05", .str "stretch 1 1 1000", .str "stretch 1 1 -1", .str "stretch 1  1 5", .str "stretch 1 1 5 ", .str " stretch 1 1 5", .str "stretches 1 1 5", .str "Stretch 1 1 5", .str "stretch 1 1 x", .str "1 1 5", .str "barge", .str "barge 0 1 5 5", .str "barge 0 1 5 5 9 9", .str "barge 0 1 5 5 x", .str "barge 0 1 5 5 09", .str "barges 0 1 5 5 9", .str "barge  0 1 5 5 9", .str "barge 0 1 5 5 9 ", .str "plan x", .str "plan 05", .str "plan 1 --"])) l4 = some (.lst [.str "", .str "stretch", .str "stretch 1 1", .str "stretch 1 1 05", .str "stretch 1 1 1000", .str "stretch 1 1 -1", .str "stretch 1  1 5", .str "stretch 1 1 5 ", .str " stretch 1 1 5", .str "stretches 1 1 5", .str "Stretch 1 1 5", .str "stretch 1 1 x", .str "1 1 5", .str "barge", .str "barge 0 1 5 5", .str "barge 0 1 5 5 9 9", .str "barge 0 1 5 5 x", .str "barge 0 1 5 5 09", .str "barges 0 1 5 5 9", .str "barge  0 1 5 5 9", .str "barge 0 1 5 5 9 ", .str "plan x", .str "plan 05", .str "plan 1 --"]) := upd_same
    generalize hH4 : upd (upd H3 m4 (.lst [.str "barges 0 1 5 5 9", .str "barge  0 1 5 5 9", .str "barge 0 1 5 5 9 ", .str "plan x", .str "plan 05", .str "plan 1 --"])) l4 (.lst [.str "", .str "stretch", .str "stretch 1 1", .str "stretch 1 1 05", .str "stretch 1 1 1000", .str "stretch 1 1 -1", .str "stretch 1  1 5", .str "stretch 1 1 5 ", .str " stretch 1 1 5", .str "stretches 1 1 5", .str "Stretch 1 1 5", .str "stretch 1 1 x", .str "1 1 5", .str "barge", .str "barge 0 1 5 5", .str "barge 0 1 5 5 9 9", .str "barge 0 1 5 5 x", .str "barge 0 1 5 5 09", .str "barges 0 1 5 5 9", .str "barge  0 1 5 5 9", .str "barge 0 1 5 5 9 ", .str "plan x", .str "plan 05", .str "plan 1 --"]) = H4 at e4 h4
    rw [show upd (upd H3 m4 (.lst [.str "barges 0 1 5 5 9", .str "barge  0 1 5 5 9", .str "barge 0 1 5 5 9 ", .str "plan x", .str "plan 05", .str "plan 1 --"])) l4 (.lst ([.str "", .str "stretch", .str "stretch 1 1", .str "stretch 1 1 05", .str "stretch 1 1 1000", .str "stretch 1 1 -1", .str "stretch 1  1 5", .str "stretch 1 1 5 ", .str " stretch 1 1 5", .str "stretches 1 1 5", .str "Stretch 1 1 5", .str "stretch 1 1 x", .str "1 1 5", .str "barge", .str "barge 0 1 5 5", .str "barge 0 1 5 5 9 9", .str "barge 0 1 5 5 x", .str "barge 0 1 5 5 09"] ++ [.str "barges 0 1 5 5 9", .str "barge  0 1 5 5 9", .str "barge 0 1 5 5 9 ", .str "plan x", .str "plan 05", .str "plan 1 --"])) = H4 from hH4]
    refine ⟨_, rfl, by show 4 ≤ sizeLine; decide, fun m5 hm5 => ⟨l4, m5, _, _, rfl, rfl, (Ext.new (ex := []) hm5).lst l4 _ (by simp) h4, upd_same, Nat.le_of_lt (small1000 (by decide)), fun l5 hl5 => ?_⟩⟩
    have e5 := e4.trans ((Ext.new (ex := []) (o := .lst [.str "plan 5 ", .str "plan -1", .str "plan 1000", .str "plans 5"]) hm5).trans (Ext.new (ex := []) (o := .lst [.str "", .str "stretch", .str "stretch 1 1", .str "stretch 1 1 05", .str "stretch 1 1 1000", .str "stretch 1 1 -1", .str "stretch 1  1 5", .str "stretch 1 1 5 ", .str " stretch 1 1 5", .str "stretches 1 1 5", .str "Stretch 1 1 5", .str "stretch 1 1 x", .str "1 1 5", .str "barge", .str "barge 0 1 5 5", .str "barge 0 1 5 5 9 9", .str "barge 0 1 5 5 x", .str "barge 0 1 5 5 09", .str "barges 0 1 5 5 9", .str "barge  0 1 5 5 9", .str "barge 0 1 5 5 9 ", .str "plan x", .str "plan 05", .str "plan 1 --", .str "plan 5 ", .str "plan -1", .str "plan 1000", .str "plans 5"]) hl5))
    have h5 : (upd (upd H4 m5 (.lst [.str "plan 5 ", .str "plan -1", .str "plan 1000", .str "plans 5"])) l5 (.lst [.str "", .str "stretch", .str "stretch 1 1", .str "stretch 1 1 05", .str "stretch 1 1 1000", .str "stretch 1 1 -1", .str "stretch 1  1 5", .str "stretch 1 1 5 ", .str " stretch 1 1 5", .str "stretches 1 1 5", .str "Stretch 1 1 5", .str "stretch 1 1 x", .str "1 1 5", .str "barge", .str "barge 0 1 5 5", .str "barge 0 1 5 5 9 9", .str "barge 0 1 5 5 x", .str "barge 0 1 5 5 09", .str "barges 0 1 5 5 9", .str "barge  0 1 5 5 9", .str "barge 0 1 5 5 9 ", .str "plan x", .str "plan 05", .str "plan 1 --", .str "plan 5 ", .str "plan -1", .str "plan 1000", .str "plans 5"])) l5 = some (.lst [.str "", .str "stretch", .str "stretch 1 1", .str "stretch 1 1 05", .str "stretch 1 1 1000", .str "stretch 1 1 -1", .str "stretch 1  1 5", .str "stretch 1 1 5 ", .str " stretch 1 1 5", .str "stretches 1 1 5", .str "Stretch 1 1 5", .str "stretch 1 1 x", .str "1 1 5", .str "barge", .str "barge 0 1 5 5", .str "barge 0 1 5 5 9 9", .str "barge 0 1 5 5 x", .str "barge 0 1 5 5 09", .str "barges 0 1 5 5 9", .str "barge  0 1 5 5 9", .str "barge 0 1 5 5 9 ", .str "plan x", .str "plan 05", .str "plan 1 --", .str "plan 5 ", .str "plan -1", .str "plan 1000", .str "plans 5"]) := upd_same
    generalize hH5 : upd (upd H4 m5 (.lst [.str "plan 5 ", .str "plan -1", .str "plan 1000", .str "plans 5"])) l5 (.lst [.str "", .str "stretch", .str "stretch 1 1", .str "stretch 1 1 05", .str "stretch 1 1 1000", .str "stretch 1 1 -1", .str "stretch 1  1 5", .str "stretch 1 1 5 ", .str " stretch 1 1 5", .str "stretches 1 1 5", .str "Stretch 1 1 5", .str "stretch 1 1 x", .str "1 1 5", .str "barge", .str "barge 0 1 5 5", .str "barge 0 1 5 5 9 9", .str "barge 0 1 5 5 x", .str "barge 0 1 5 5 09", .str "barges 0 1 5 5 9", .str "barge  0 1 5 5 9", .str "barge 0 1 5 5 9 ", .str "plan x", .str "plan 05", .str "plan 1 --", .str "plan 5 ", .str "plan -1", .str "plan 1000", .str "plans 5"]) = H5 at e5 h5
    rw [show upd (upd H4 m5 (.lst [.str "plan 5 ", .str "plan -1", .str "plan 1000", .str "plans 5"])) l5 (.lst ([.str "", .str "stretch", .str "stretch 1 1", .str "stretch 1 1 05", .str "stretch 1 1 1000", .str "stretch 1 1 -1", .str "stretch 1  1 5", .str "stretch 1 1 5 ", .str " stretch 1 1 5", .str "stretches 1 1 5", .str "Stretch 1 1 5", .str "stretch 1 1 x", .str "1 1 5", .str "barge", .str "barge 0 1 5 5", .str "barge 0 1 5 5 9 9", .str "barge 0 1 5 5 x", .str "barge 0 1 5 5 09", .str "barges 0 1 5 5 9", .str "barge  0 1 5 5 9", .str "barge 0 1 5 5 9 ", .str "plan x", .str "plan 05", .str "plan 1 --"] ++ [.str "plan 5 ", .str "plan -1", .str "plan 1000", .str "plans 5"])) = H5 from hH5]
    refine ⟨_, rfl, by show 3 ≤ sizeLine; decide, fun m6 hm6 => ⟨l5, m6, _, _, rfl, rfl, (Ext.new (ex := []) hm6).lst l5 _ (by simp) h5, upd_same, Nat.le_of_lt (small1000 (by decide)), fun l6 hl6 => ?_⟩⟩
    have e6 := e5.trans ((Ext.new (ex := []) (o := .lst [.str "plan,5", .str "barge 0 1 5 5 1000", .str "barge 0 1 5 -5 9"]) hm6).trans (Ext.new (ex := []) (o := .lst [.str "", .str "stretch", .str "stretch 1 1", .str "stretch 1 1 05", .str "stretch 1 1 1000", .str "stretch 1 1 -1", .str "stretch 1  1 5", .str "stretch 1 1 5 ", .str " stretch 1 1 5", .str "stretches 1 1 5", .str "Stretch 1 1 5", .str "stretch 1 1 x", .str "1 1 5", .str "barge", .str "barge 0 1 5 5", .str "barge 0 1 5 5 9 9", .str "barge 0 1 5 5 x", .str "barge 0 1 5 5 09", .str "barges 0 1 5 5 9", .str "barge  0 1 5 5 9", .str "barge 0 1 5 5 9 ", .str "plan x", .str "plan 05", .str "plan 1 --", .str "plan 5 ", .str "plan -1", .str "plan 1000", .str "plans 5", .str "plan,5", .str "barge 0 1 5 5 1000", .str "barge 0 1 5 -5 9"]) hl6))
    have h6 : (upd (upd H5 m6 (.lst [.str "plan,5", .str "barge 0 1 5 5 1000", .str "barge 0 1 5 -5 9"])) l6 (.lst [.str "", .str "stretch", .str "stretch 1 1", .str "stretch 1 1 05", .str "stretch 1 1 1000", .str "stretch 1 1 -1", .str "stretch 1  1 5", .str "stretch 1 1 5 ", .str " stretch 1 1 5", .str "stretches 1 1 5", .str "Stretch 1 1 5", .str "stretch 1 1 x", .str "1 1 5", .str "barge", .str "barge 0 1 5 5", .str "barge 0 1 5 5 9 9", .str "barge 0 1 5 5 x", .str "barge 0 1 5 5 09", .str "barges 0 1 5 5 9", .str "barge  0 1 5 5 9", .str "barge 0 1 5 5 9 ", .str "plan x", .str "plan 05", .str "plan 1 --", .str "plan 5 ", .str "plan -1", .str "plan 1000", .str "plans 5", .str "plan,5", .str "barge 0 1 5 5 1000", .str "barge 0 1 5 -5 9"])) l6 = some (.lst [.str "", .str "stretch", .str "stretch 1 1", .str "stretch 1 1 05", .str "stretch 1 1 1000", .str "stretch 1 1 -1", .str "stretch 1  1 5", .str "stretch 1 1 5 ", .str " stretch 1 1 5", .str "stretches 1 1 5", .str "Stretch 1 1 5", .str "stretch 1 1 x", .str "1 1 5", .str "barge", .str "barge 0 1 5 5", .str "barge 0 1 5 5 9 9", .str "barge 0 1 5 5 x", .str "barge 0 1 5 5 09", .str "barges 0 1 5 5 9", .str "barge  0 1 5 5 9", .str "barge 0 1 5 5 9 ", .str "plan x", .str "plan 05", .str "plan 1 --", .str "plan 5 ", .str "plan -1", .str "plan 1000", .str "plans 5", .str "plan,5", .str "barge 0 1 5 5 1000", .str "barge 0 1 5 -5 9"]) := upd_same
    generalize hH6 : upd (upd H5 m6 (.lst [.str "plan,5", .str "barge 0 1 5 5 1000", .str "barge 0 1 5 -5 9"])) l6 (.lst [.str "", .str "stretch", .str "stretch 1 1", .str "stretch 1 1 05", .str "stretch 1 1 1000", .str "stretch 1 1 -1", .str "stretch 1  1 5", .str "stretch 1 1 5 ", .str " stretch 1 1 5", .str "stretches 1 1 5", .str "Stretch 1 1 5", .str "stretch 1 1 x", .str "1 1 5", .str "barge", .str "barge 0 1 5 5", .str "barge 0 1 5 5 9 9", .str "barge 0 1 5 5 x", .str "barge 0 1 5 5 09", .str "barges 0 1 5 5 9", .str "barge  0 1 5 5 9", .str "barge 0 1 5 5 9 ", .str "plan x", .str "plan 05", .str "plan 1 --", .str "plan 5 ", .str "plan -1", .str "plan 1000", .str "plans 5", .str "plan,5", .str "barge 0 1 5 5 1000", .str "barge 0 1 5 -5 9"]) = H6 at e6 h6
    rw [show upd (upd H5 m6 (.lst [.str "plan,5", .str "barge 0 1 5 5 1000", .str "barge 0 1 5 -5 9"])) l6 (.lst ([.str "", .str "stretch", .str "stretch 1 1", .str "stretch 1 1 05", .str "stretch 1 1 1000", .str "stretch 1 1 -1", .str "stretch 1  1 5", .str "stretch 1 1 5 ", .str " stretch 1 1 5", .str "stretches 1 1 5", .str "Stretch 1 1 5", .str "stretch 1 1 x", .str "1 1 5", .str "barge", .str "barge 0 1 5 5", .str "barge 0 1 5 5 9 9", .str "barge 0 1 5 5 x", .str "barge 0 1 5 5 09", .str "barges 0 1 5 5 9", .str "barge  0 1 5 5 9", .str "barge 0 1 5 5 9 ", .str "plan x", .str "plan 05", .str "plan 1 --", .str "plan 5 ", .str "plan -1", .str "plan 1000", .str "plans 5"] ++ [.str "plan,5", .str "barge 0 1 5 5 1000", .str "barge 0 1 5 -5 9"])) = H6 from hH6]
    refine ⟨_, rfl, by show 4 ≤ sizeLine; decide, fun m7 hm7 => ⟨l6, m7, _, _, rfl, rfl, (Ext.new (ex := []) hm7).lst l6 _ (by simp) h6, upd_same, Nat.le_of_lt (small1000 (by decide)), fun l7 hl7 => ?_⟩⟩
    have e7 := e6.trans ((Ext.new (ex := []) (o := .lst [.str "plan  5", .str "stretch 1 1 +5", .str "plan -0", .str "barge 0 1 5 5 1_0"]) hm7).trans (Ext.new (ex := []) (o := .lst [.str "", .str "stretch", .str "stretch 1 1", .str "stretch 1 1 05", .str "stretch 1 1 1000", .str "stretch 1 1 -1", .str "stretch 1  1 5", .str "stretch 1 1 5 ", .str " stretch 1 1 5", .str "stretches 1 1 5", .str "Stretch 1 1 5", .str "stretch 1 1 x", .str "1 1 5", .str "barge", .str "barge 0 1 5 5", .str "barge 0 1 5 5 9 9", .str "barge 0 1 5 5 x", .str "barge 0 1 5 5 09", .str "barges 0 1 5 5 9", .str "barge  0 1 5 5 9", .str "barge 0 1 5 5 9 ", .str "plan x", .str "plan 05", .str "plan 1 --", .str "plan 5 ", .str "plan -1", .str "plan 1000", .str "plans 5", .str "plan,5", .str "barge 0 1 5 5 1000", .str "barge 0 1 5 -5 9", .str "plan  5", .str "stretch 1 1 +5", .str "plan -0", .str "barge 0 1 5 5 1_0"]) hl7))
    have h7 : (upd (upd H6 m7 (.lst [.str "plan  5", .str "stretch 1 1 +5", .str "plan -0", .str "barge 0 1 5 5 1_0"])) l7 (.lst [.str "", .str "stretch", .str "stretch 1 1", .str "stretch 1 1 05", .str "stretch 1 1 1000", .str "stretch 1 1 -1", .str "stretch 1  1 5", .str "stretch 1 1 5 ", .str " stretch 1 1 5", .str "stretches 1 1 5", .str "Stretch 1 1 5", .str "stretch 1 1 x", .str "1 1 5", .str "barge", .str "barge 0 1 5 5", .str "barge 0 1 5 5 9 9", .str "barge 0 1 5 5 x", .str "barge 0 1 5 5 09", .str "barges 0 1 5 5 9", .str "barge  0 1 5 5 9", .str "barge 0 1 5 5 9 ", .str "plan x", .str "plan 05", .str "plan 1 --", .str "plan 5 ", .str "plan -1", .str "plan 1000", .str "plans 5", .str "plan,5", .str "barge 0 1 5 5 1000", .str "barge 0 1 5 -5 9", .str "plan  5", .str "stretch 1 1 +5", .str "plan -0", .str "barge 0 1 5 5 1_0"])) l7 = some (.lst [.str "", .str "stretch", .str "stretch 1 1", .str "stretch 1 1 05", .str "stretch 1 1 1000", .str "stretch 1 1 -1", .str "stretch 1  1 5", .str "stretch 1 1 5 ", .str " stretch 1 1 5", .str "stretches 1 1 5", .str "Stretch 1 1 5", .str "stretch 1 1 x", .str "1 1 5", .str "barge", .str "barge 0 1 5 5", .str "barge 0 1 5 5 9 9", .str "barge 0 1 5 5 x", .str "barge 0 1 5 5 09", .str "barges 0 1 5 5 9", .str "barge  0 1 5 5 9", .str "barge 0 1 5 5 9 ", .str "plan x", .str "plan 05", .str "plan 1 --", .str "plan 5 ", .str "plan -1", .str "plan 1000", .str "plans 5", .str "plan,5", .str "barge 0 1 5 5 1000", .str "barge 0 1 5 -5 9", .str "plan  5", .str "stretch 1 1 +5", .str "plan -0", .str "barge 0 1 5 5 1_0"]) := upd_same
    generalize hH7 : upd (upd H6 m7 (.lst [.str "plan  5", .str "stretch 1 1 +5", .str "plan -0", .str "barge 0 1 5 5 1_0"])) l7 (.lst [.str "", .str "stretch", .str "stretch 1 1", .str "stretch 1 1 05", .str "stretch 1 1 1000", .str "stretch 1 1 -1", .str "stretch 1  1 5", .str "stretch 1 1 5 ", .str " stretch 1 1 5", .str "stretches 1 1 5", .str "Stretch 1 1 5", .str "stretch 1 1 x", .str "1 1 5", .str "barge", .str "barge 0 1 5 5", .str "barge 0 1 5 5 9 9", .str "barge 0 1 5 5 x", .str "barge 0 1 5 5 09", .str "barges 0 1 5 5 9", .str "barge  0 1 5 5 9", .str "barge 0 1 5 5 9 ", .str "plan x", .str "plan 05", .str "plan 1 --", .str "plan 5 ", .str "plan -1", .str "plan 1000", .str "plans 5", .str "plan,5", .str "barge 0 1 5 5 1000", .str "barge 0 1 5 -5 9", .str "plan  5", .str "stretch 1 1 +5", .str "plan -0", .str "barge 0 1 5 5 1_0"]) = H7 at e7 h7
    rw [show upd (upd H6 m7 (.lst [.str "plan  5", .str "stretch 1 1 +5", .str "plan -0", .str "barge 0 1 5 5 1_0"])) l7 (.lst ([.str "", .str "stretch", .str "stretch 1 1", .str "stretch 1 1 05", .str "stretch 1 1 1000", .str "stretch 1 1 -1", .str "stretch 1  1 5", .str "stretch 1 1 5 ", .str " stretch 1 1 5", .str "stretches 1 1 5", .str "Stretch 1 1 5", .str "stretch 1 1 x", .str "1 1 5", .str "barge", .str "barge 0 1 5 5", .str "barge 0 1 5 5 9 9", .str "barge 0 1 5 5 x", .str "barge 0 1 5 5 09", .str "barges 0 1 5 5 9", .str "barge  0 1 5 5 9", .str "barge 0 1 5 5 9 ", .str "plan x", .str "plan 05", .str "plan 1 --", .str "plan 5 ", .str "plan -1", .str "plan 1000", .str "plans 5", .str "plan,5", .str "barge 0 1 5 5 1000", .str "barge 0 1 5 -5 9"] ++ [.str "plan  5", .str "stretch 1 1 +5", .str "plan -0", .str "barge 0 1 5 5 1_0"])) = H7 from hH7]
    refine ⟨_, rfl, by show 2 ≤ sizeLine; decide, fun m8 hm8 => ⟨l7, m8, _, _, rfl, rfl, (Ext.new (ex := []) hm8).lst l7 _ (by simp) h7, upd_same, Nat.le_of_lt (small1000 (by decide)), fun l8 hl8 => ?_⟩⟩
    have e8 := e7.trans ((Ext.new (ex := []) (o := .lst [.str "plan 5\t", .str "plan +5"]) hm8).trans (Ext.new (ex := []) (o := .lst [.str "", .str "stretch", .str "stretch 1 1", .str "stretch 1 1 05", .str "stretch 1 1 1000", .str "stretch 1 1 -1", .str "stretch 1  1 5", .str "stretch 1 1 5 ", .str " stretch 1 1 5", .str "stretches 1 1 5", .str "Stretch 1 1 5", .str "stretch 1 1 x", .str "1 1 5", .str "barge", .str "barge 0 1 5 5", .str "barge 0 1 5 5 9 9", .str "barge 0 1 5 5 x", .str "barge 0 1 5 5 09", .str "barges 0 1 5 5 9", .str "barge  0 1 5 5 9", .str "barge 0 1 5 5 9 ", .str "plan x", .str "plan 05", .str "plan 1 --", .str "plan 5 ", .str "plan -1", .str "plan 1000", .str "plans 5", .str "plan,5", .str "barge 0 1 5 5 1000", .str "barge 0 1 5 -5 9", .str "plan  5", .str "stretch 1 1 +5", .str "plan -0", .str "barge 0 1 5 5 1_0", .str "plan 5\t", .str "plan +5"]) hl8))
    have h8 : (upd (upd H7 m8 (.lst [.str "plan 5\t", .str "plan +5"])) l8 (.lst [.str "", .str "stretch", .str "stretch 1 1", .str "stretch 1 1 05", .str "stretch 1 1 1000", .str "stretch 1 1 -1", .str "stretch 1  1 5", .str "stretch 1 1 5 ", .str " stretch 1 1 5", .str "stretches 1 1 5", .str "Stretch 1 1 5", .str "stretch 1 1 x", .str "1 1 5", .str "barge", .str "barge 0 1 5 5", .str "barge 0 1 5 5 9 9", .str "barge 0 1 5 5 x", .str "barge 0 1 5 5 09", .str "barges 0 1 5 5 9", .str "barge  0 1 5 5 9", .str "barge 0 1 5 5 9 ", .str "plan x", .str "plan 05", .str "plan 1 --", .str "plan 5 ", .str "plan -1", .str "plan 1000", .str "plans 5", .str "plan,5", .str "barge 0 1 5 5 1000", .str "barge 0 1 5 -5 9", .str "plan  5", .str "stretch 1 1 +5", .str "plan -0", .str "barge 0 1 5 5 1_0", .str "plan 5\t", .str "plan +5"])) l8 = some (.lst [.str "", .str "stretch", .str "stretch 1 1", .str "stretch 1 1 05", .str "stretch 1 1 1000", .str "stretch 1 1 -1", .str "stretch 1  1 5", .str "stretch 1 1 5 ", .str " stretch 1 1 5", .str "stretches 1 1 5", .str "Stretch 1 1 5", .str "stretch 1 1 x", .str "1 1 5", .str "barge", .str "barge 0 1 5 5", .str "barge 0 1 5 5 9 9", .str "barge 0 1 5 5 x", .str "barge 0 1 5 5 09", .str "barges 0 1 5 5 9", .str "barge  0 1 5 5 9", .str "barge 0 1 5 5 9 ", .str "plan x", .str "plan 05", .str "plan 1 --", .str "plan 5 ", .str "plan -1", .str "plan 1000", .str "plans 5", .str "plan,5", .str "barge 0 1 5 5 1000", .str "barge 0 1 5 -5 9", .str "plan  5", .str "stretch 1 1 +5", .str "plan -0", .str "barge 0 1 5 5 1_0", .str "plan 5\t", .str "plan +5"]) := upd_same
    generalize hH8 : upd (upd H7 m8 (.lst [.str "plan 5\t", .str "plan +5"])) l8 (.lst [.str "", .str "stretch", .str "stretch 1 1", .str "stretch 1 1 05", .str "stretch 1 1 1000", .str "stretch 1 1 -1", .str "stretch 1  1 5", .str "stretch 1 1 5 ", .str " stretch 1 1 5", .str "stretches 1 1 5", .str "Stretch 1 1 5", .str "stretch 1 1 x", .str "1 1 5", .str "barge", .str "barge 0 1 5 5", .str "barge 0 1 5 5 9 9", .str "barge 0 1 5 5 x", .str "barge 0 1 5 5 09", .str "barges 0 1 5 5 9", .str "barge  0 1 5 5 9", .str "barge 0 1 5 5 9 ", .str "plan x", .str "plan 05", .str "plan 1 --", .str "plan 5 ", .str "plan -1", .str "plan 1000", .str "plans 5", .str "plan,5", .str "barge 0 1 5 5 1000", .str "barge 0 1 5 -5 9", .str "plan  5", .str "stretch 1 1 +5", .str "plan -0", .str "barge 0 1 5 5 1_0", .str "plan 5\t", .str "plan +5"]) = H8 at e8 h8
    rw [show upd (upd H7 m8 (.lst [.str "plan 5\t", .str "plan +5"])) l8 (.lst ([.str "", .str "stretch", .str "stretch 1 1", .str "stretch 1 1 05", .str "stretch 1 1 1000", .str "stretch 1 1 -1", .str "stretch 1  1 5", .str "stretch 1 1 5 ", .str " stretch 1 1 5", .str "stretches 1 1 5", .str "Stretch 1 1 5", .str "stretch 1 1 x", .str "1 1 5", .str "barge", .str "barge 0 1 5 5", .str "barge 0 1 5 5 9 9", .str "barge 0 1 5 5 x", .str "barge 0 1 5 5 09", .str "barges 0 1 5 5 9", .str "barge  0 1 5 5 9", .str "barge 0 1 5 5 9 ", .str "plan x", .str "plan 05", .str "plan 1 --", .str "plan 5 ", .str "plan -1", .str "plan 1000", .str "plans 5", .str "plan,5", .str "barge 0 1 5 5 1000", .str "barge 0 1 5 -5 9", .str "plan  5", .str "stretch 1 1 +5", .str "plan -0", .str "barge 0 1 5 5 1_0"] ++ [.str "plan 5\t", .str "plan +5"])) = H8 from hH8]
    have z0 : 0 ≤ c.fmod 37 := Int.fmod_nonneg_of_pos _ (by decide)
    have z1 : c.fmod 37 < 37 := Int.fmod_lt_of_pos _ (by decide)
    obtain ⟨j, hj⟩ : ∃ j : Nat, c.fmod 37 = (j : Int) := ⟨(c.fmod 37).toNat, by omega⟩
    have hj2 : j < badRows.length := by show j < 37; omega
    refine ⟨_, rfl, _, _, rfl, rfl, (by show (37 : Int) ≠ 0; decide), .inl ⟨l8, _, _, .str (badRows[j]'hj2), rfl, rfl, .inl (.inl h8), ?_, q _ _ e8 (List.getElem_mem hj2)⟩⟩
    rw [hj]
    refine atI_nat ?_
    show (badRows.map V.str)[j]? = _
    rw [List.getElem?_map, List.getElem?_eq_getElem hj2]
    rfl

def wordR (Rs : List RowW) : Str := if textB Rs = false then "text" else if bookB (bookW Rs) = false then "book" else if planB (bargesOf (bookW Rs)) (planW Rs) = false then "plan" else "read"
def spLWord (A : Ad) (K : PySem.W.Frag) : Sp := fun vs H Q _ => ∃ (a : Addr) (Ls : List Str) (Rs : List RowW), vs = [.ref a] ∧ SqL K H a (strsV Ls) ∧ LinesW Ls Rs ∧ Tabs A H ∧ ∀ H', Ext [] H H' → Q (.str (wordR Rs)) H'
theorem ok__law_word (T : Facts A K mg base) : FnOk P w K mg base CX0 8 A.a__law_word A.d__law_word ["_law_lines"] (spLWord A K) := by
  refine T.F__law_word.ok sc__law_word (fun vs H Q E h => ?_) (fun cdv A1 outer s H vs Q E hr h => ?_)
  · obtain ⟨a, Ls, Rs, rfl, _⟩ := h
    rfl
  · obtain ⟨a, Ls, Rs, rfl, hS, lw, tb, q⟩ := h
    refine ⟨_, PSs.nox (pss_cons (ps_try_as (i := 1) (Wout := fun _ _ _ _ => False) rfl rfl sc__law_word.nd rfl rfl ⟨rfl, by decide, Or.inl T.g_TowError⟩ takes0
        (fun W pn xe tk _ => (pss_one (ps_expr (by exact (pe_callS (okx_read T) (hr.mono (by decide)) (by rfl) T.g_read T.F_read.kp T.b_read (fun σ => passAt tk σ) (pa_cons (GD.pe_joinK K rfl pe_str (pv 0)) pa_nil))))))
        (fun a oe cls d pn hz hf => (pss_cons (ps_set (i := 2) sc__law_word.nd rfl (Or.inl rfl) (pe_lst (pa_cons (pe_callB (GXC.call_isX hz hf) (by rfl) T.n_isinstance PyProof.Rows.boot_isinstance (pa_cons (pv 1) (pa_cons (pe_glob (v := .ref A.c_BadText) (by rfl) T.g_BadText rfl) pa_nil))) (pa_cons (pe_callB (GXC.call_isX hz hf) (by rfl) T.n_isinstance PyProof.Rows.boot_isinstance (pa_cons (pv 1) (pa_cons (pe_glob (v := .ref A.c_BadBook) (by rfl) T.g_BadBook rfl) pa_nil))) (pa_cons (pe_callB (GXC.call_isX hz hf) (by rfl) T.n_isinstance PyProof.Rows.boot_isinstance (pa_cons (pv 1) (pa_cons (pe_glob (v := .ref A.c_BadPlan) (by rfl) T.g_BadPlan rfl) pa_nil))) pa_nil)))))
      (pss_cons (ps_if (PW.pt (pw_or (pt_val (pe_callB (GXC.call_isXT hz hf) (by rfl) T.n_isinstance PyProof.Rows.boot_isinstance (pa_cons (pv 1) (pa_cons (pe_tup (pa_cons (pe_glob (v := .ref A.c_Gone) (by rfl) T.g_Gone rfl) (pa_cons (pe_glob (v := .ref A.c_NoPlan) (by rfl) T.g_NoPlan rfl) pa_nil))) pa_nil)))) (pw_or (pt_cmpR op_ne (GXC.pe_bmK K rfl PySem.F.plainAttrs_list PySem.F.slot_list_count PySem.F.type_list_count (GXC.countK K rfl) (pv 2) (pa_cons pe_bl pa_nil)) pe_int (nomark _)) (pw_or1 (pt_not (pt_val (pe_callB (GXC.call_isX hz hf) (by rfl) T.n_isinstance PyProof.Rows.boot_isinstance (pa_cons (pv 1) (pa_cons (pe_bltn (v := .ty "ValueError") (by rfl) T.n_ValueError (by decide +kernel) rfl) pa_nil))))))))) (pss_one (ps_ret pe_str)) pss_nil)
      (pss_one (ps_ret (pe_ix (ixK K rfl) (pe_lst (pa_cons pe_str (pa_cons pe_str (pa_cons pe_str pa_nil)))) (GXC.pe_bmK K rfl PySem.F.plainAttrs_list PySem.F.slot_list_index PySem.F.type_list_index (GXC.indexK K rfl) (pv 2) (pa_cons pe_bl pa_nil)) (fun _ _ => rfl))))))))
      (pss_one (ps_ret pe_str))), ?_⟩
    have ez := sizeLine_eq
    have exT : ∀ {H' : Hp}, Ext [] H H' → textB Rs = false → Q (.str "text") H' := fun {H'} e c => by
      have z := q H' e
      unfold wordR at z
      rw [if_pos c] at z
      exact z
    have exB : ∀ {H' : Hp}, Ext [] H H' → textB Rs = true → bookB (bookW Rs) = false → Q (.str "book") H' := fun {H'} e c c2 => by
      have z := q H' e
      unfold wordR at z
      rw [if_neg (by rw [c]; decide), if_pos c2] at z
      exact z
    have exP : ∀ {H' : Hp}, Ext [] H H' → textB Rs = true → bookB (bookW Rs) = true → planB (bargesOf (bookW Rs)) (planW Rs) = false → Q (.str "plan") H' := fun {H'} e c c2 c3 => by
      have z := q H' e
      unfold wordR at z
      rw [if_neg (by rw [c]; decide), if_neg (by rw [c2]; decide), if_pos c3] at z
      exact z
    have exR : ∀ {H' : Hp}, Ext [] H H' → textB Rs = true → bookB (bookW Rs) = true → planB (bargesOf (bookW Rs)) (planW Rs) = true → Q (.str "read") H' := fun {H'} e c c2 c3 => by
      have z := q H' e
      unfold wordR at z
      rw [if_neg (by rw [c]; decide), if_neg (by rw [c2]; decide), if_neg (by rw [c3]; decide)] at z
      exact z
    have stepBadText : PySem.W.kitAny K (.ref A.c_BadText) [.ref A.c_Gone, .ref A.c_NoPlan] = some false := kitAny_cons T.k_BadText_Gone (fun _ => kitAny_cons T.k_BadText_NoPlan (fun _ => kitAny_nil) (fun z => by cases z)) (fun z => by cases z)
    have stepBadBook : PySem.W.kitAny K (.ref A.c_BadBook) [.ref A.c_Gone, .ref A.c_NoPlan] = some false := kitAny_cons T.k_BadBook_Gone (fun _ => kitAny_cons T.k_BadBook_NoPlan (fun _ => kitAny_nil) (fun z => by cases z)) (fun z => by cases z)
    have stepBadPlan : PySem.W.kitAny K (.ref A.c_BadPlan) [.ref A.c_Gone, .ref A.c_NoPlan] = some false := kitAny_cons T.k_BadPlan_Gone (fun _ => kitAny_cons T.k_BadPlan_NoPlan (fun _ => kitAny_nil) (fun z => by cases z)) (fun z => by cases z)
    have hsz : (Ls.map (·.length)).sum + Ls.length * ("\n" : Str).length ≤ 16777216 := by
      have h3 := lw.n20
      have h4 := sum_le (f := fun x : Str => x.length) (c := 400) (xs := Ls) fun x hx => (lw.line x hx).2
      have h5 : ("\n" : Str).length = 1 := by decide +kernel
      rw [h5]
      omega
    refine ⟨⟨_, rfl⟩, _, rfl, "\n", a, Ls, rfl, rfl, .inl hS, hsz, Ls, Rs, rfl, lw, tb, fun c1 H1 e1 => ?_, fun c1 c2 c3 H1 p e1 => ?_, fun c1 c2 H1 e1 => ?_, fun c1 c2 c3 H1 e1 => ?_⟩
    ·
      refine ⟨true, T.e_BadText, fun _ ax hax => ?_, fun z => nomatch z⟩
      refine ⟨_, rfl, A.c_BadText, .ref A.c_BadText, .ref A.c_BadText, true, rfl, .inl rfl, T.cc_BadText, rfl, .own _, T.k_BadText_BadText, _, rfl, A.c_BadText, .ref A.c_BadBook, .ref A.c_BadBook, false, rfl, .inl rfl, T.cc_BadText, rfl, .own _, T.k_BadText_BadBook, _, rfl, A.c_BadText, .ref A.c_BadPlan, .ref A.c_BadPlan, false, rfl, .inl rfl, T.cc_BadText, rfl, .own _, T.k_BadText_BadPlan, by show 3 ≤ sizeLine; decide, fun L hL => ?_⟩
      have eL := Ext.new (ex := []) (o := .lst [.bl true, .bl false, .bl false]) hL
      refine ⟨_, rfl, by show 2 ≤ sizeLine; decide, fun tp htp => ⟨A.c_BadText, tp, [.ref A.c_Gone, .ref A.c_NoPlan], [.ref A.c_Gone, .ref A.c_NoPlan], false, rfl, .inl rfl, T.cc_BadText, rfl, upd_same, .cons (.own _) (.cons (.own _) .nil), stepBadText, _, rfl, iteF ?_⟩⟩
      have eT := Ext.new (ex := []) (o := .tup [.ref A.c_Gone, .ref A.c_NoPlan]) htp
      have hL2 := eT.lst L _ (by simp) upd_same
      refine ⟨_, rfl, .inl ⟨rfl, _, .inl (.inl hL2)⟩, L, [.bl true, .bl false, .bl false], .bl true, rfl, rfl, .inl (.inl hL2), rfl, rfl, rfl, _, rfl, iteNS rfl ?_⟩
      refine ⟨_, rfl, A.c_BadText, .ty "ValueError", .type "ValueError", true, rfl, .inl rfl, T.cc_BadText, rfl, .ty _, T.kv_BadText, _, rfl, iteF ?_⟩
      refine ⟨by show 3 ≤ sizeLine; decide, fun M hM => ?_⟩
      have eM := Ext.new (ex := []) (o := .lst [.str "text", .str "book", .str "plan"]) hM
      have hL3 := eM.lst L _ (by simp) hL2
      refine ⟨_, rfl, .inl ⟨rfl, _, .inl (.inl hL3)⟩, L, [.bl true, .bl false, .bl false], .bl true, 0, .bl true, rfl, rfl, .inl (.inl hL3), rfl, rfl, rfl, rfl, (fun m z hm hz => by rcases m with _ | _ | m <;> first | omega | (cases hz; rfl)), .inl ⟨M, _, _, _, rfl, rfl, .inl (.inl upd_same), atI_nat (j := 0) rfl, ?_⟩⟩
      exact exT (e1.trans (eL.trans (eT.trans eM))) c1

    · exact exR e1 c1 c2 c3
    ·
      refine ⟨true, T.e_BadBook, fun _ ax hax => ?_, fun z => nomatch z⟩
      refine ⟨_, rfl, A.c_BadBook, .ref A.c_BadText, .ref A.c_BadText, false, rfl, .inl rfl, T.cc_BadBook, rfl, .own _, T.k_BadBook_BadText, _, rfl, A.c_BadBook, .ref A.c_BadBook, .ref A.c_BadBook, true, rfl, .inl rfl, T.cc_BadBook, rfl, .own _, T.k_BadBook_BadBook, _, rfl, A.c_BadBook, .ref A.c_BadPlan, .ref A.c_BadPlan, false, rfl, .inl rfl, T.cc_BadBook, rfl, .own _, T.k_BadBook_BadPlan, by show 3 ≤ sizeLine; decide, fun L hL => ?_⟩
      have eL := Ext.new (ex := []) (o := .lst [.bl false, .bl true, .bl false]) hL
      refine ⟨_, rfl, by show 2 ≤ sizeLine; decide, fun tp htp => ⟨A.c_BadBook, tp, [.ref A.c_Gone, .ref A.c_NoPlan], [.ref A.c_Gone, .ref A.c_NoPlan], false, rfl, .inl rfl, T.cc_BadBook, rfl, upd_same, .cons (.own _) (.cons (.own _) .nil), stepBadBook, _, rfl, iteF ?_⟩⟩
      have eT := Ext.new (ex := []) (o := .tup [.ref A.c_Gone, .ref A.c_NoPlan]) htp
      have hL2 := eT.lst L _ (by simp) upd_same
      refine ⟨_, rfl, .inl ⟨rfl, _, .inl (.inl hL2)⟩, L, [.bl false, .bl true, .bl false], .bl true, rfl, rfl, .inl (.inl hL2), rfl, rfl, rfl, _, rfl, iteNS rfl ?_⟩
      refine ⟨_, rfl, A.c_BadBook, .ty "ValueError", .type "ValueError", true, rfl, .inl rfl, T.cc_BadBook, rfl, .ty _, T.kv_BadBook, _, rfl, iteF ?_⟩
      refine ⟨by show 3 ≤ sizeLine; decide, fun M hM => ?_⟩
      have eM := Ext.new (ex := []) (o := .lst [.str "text", .str "book", .str "plan"]) hM
      have hL3 := eM.lst L _ (by simp) hL2
      refine ⟨_, rfl, .inl ⟨rfl, _, .inl (.inl hL3)⟩, L, [.bl false, .bl true, .bl false], .bl true, 1, .bl true, rfl, rfl, .inl (.inl hL3), rfl, rfl, rfl, rfl, (fun m z hm hz => by rcases m with _ | _ | m <;> first | omega | (cases hz; rfl)), .inl ⟨M, _, _, _, rfl, rfl, .inl (.inl upd_same), atI_nat (j := 1) rfl, ?_⟩⟩
      exact exB (e1.trans (eL.trans (eT.trans eM))) c1 c2

    ·
      refine ⟨true, T.e_BadPlan, fun _ ax hax => ?_, fun z => nomatch z⟩
      refine ⟨_, rfl, A.c_BadPlan, .ref A.c_BadText, .ref A.c_BadText, false, rfl, .inl rfl, T.cc_BadPlan, rfl, .own _, T.k_BadPlan_BadText, _, rfl, A.c_BadPlan, .ref A.c_BadBook, .ref A.c_BadBook, false, rfl, .inl rfl, T.cc_BadPlan, rfl, .own _, T.k_BadPlan_BadBook, _, rfl, A.c_BadPlan, .ref A.c_BadPlan, .ref A.c_BadPlan, true, rfl, .inl rfl, T.cc_BadPlan, rfl, .own _, T.k_BadPlan_BadPlan, by show 3 ≤ sizeLine; decide, fun L hL => ?_⟩
      have eL := Ext.new (ex := []) (o := .lst [.bl false, .bl false, .bl true]) hL
      refine ⟨_, rfl, by show 2 ≤ sizeLine; decide, fun tp htp => ⟨A.c_BadPlan, tp, [.ref A.c_Gone, .ref A.c_NoPlan], [.ref A.c_Gone, .ref A.c_NoPlan], false, rfl, .inl rfl, T.cc_BadPlan, rfl, upd_same, .cons (.own _) (.cons (.own _) .nil), stepBadPlan, _, rfl, iteF ?_⟩⟩
      have eT := Ext.new (ex := []) (o := .tup [.ref A.c_Gone, .ref A.c_NoPlan]) htp
      have hL2 := eT.lst L _ (by simp) upd_same
      refine ⟨_, rfl, .inl ⟨rfl, _, .inl (.inl hL2)⟩, L, [.bl false, .bl false, .bl true], .bl true, rfl, rfl, .inl (.inl hL2), rfl, rfl, rfl, _, rfl, iteNS rfl ?_⟩
      refine ⟨_, rfl, A.c_BadPlan, .ty "ValueError", .type "ValueError", true, rfl, .inl rfl, T.cc_BadPlan, rfl, .ty _, T.kv_BadPlan, _, rfl, iteF ?_⟩
      refine ⟨by show 3 ≤ sizeLine; decide, fun M hM => ?_⟩
      have eM := Ext.new (ex := []) (o := .lst [.str "text", .str "book", .str "plan"]) hM
      have hL3 := eM.lst L _ (by simp) hL2
      refine ⟨_, rfl, .inl ⟨rfl, _, .inl (.inl hL3)⟩, L, [.bl false, .bl false, .bl true], .bl true, 2, .bl true, rfl, rfl, .inl (.inl hL3), rfl, rfl, rfl, rfl, (fun m z hm hz => by rcases m with _ | _ | m <;> first | omega | (cases hz; rfl)), .inl ⟨M, _, _, _, rfl, rfl, .inl (.inl upd_same), atI_nat (j := 2) rfl, ?_⟩⟩
      exact exP (e1.trans (eL.trans (eT.trans eM))) c1 c2 c3

/-- a list of lines -/
def IsT (H : Hp) (v : V) (Ls : List Str) : Prop := ∃ l, v = .ref l ∧ H l = some (.lst (strsV Ls))
theorem IsT.ext {H H1 : Hp} {v : V} {Ls : List Str} (e : Ext [] H H1) (h : IsT H v Ls) : IsT H1 v Ls := let ⟨l, a, b⟩ := h; ⟨l, a, e.lst l _ (by simp) b⟩
/-- lines and the word for them -/
def IsP (K : PySem.W.Frag) (H : Hp) (v : V) (c : List Str × Str) : Prop := ∃ t l, v = .ref t ∧ SqT K H t [.ref l, .str c.2] ∧ H l = some (.lst (strsV c.1))
theorem IsP.ext {K : PySem.W.Frag} {H H1 : Hp} {v : V} {c : List Str × Str} (e : Ext [] H H1) (h : IsP K H v c) : IsP K H1 v c := let ⟨t, l, a, b, d⟩ := h; ⟨t, l, a, e.sqT b, e.lst l _ (by simp) d⟩
def casesW : List (List Str × Str) := ((("plan" : Str) :: []), ("book" : Str)) :: ((("stretch 1 1 5" : Str) :: ("stretch 1 1 5" : Str) :: ("stretch 1 1 5" : Str) :: ("stretch 1 1 5" : Str) :: ("stretch 1 1 5" : Str) :: ("stretch 1 1 5" : Str) :: ("stretch 1 1 5" : Str) :: ("stretch 1 1 5" : Str) :: ("stretch 1 1 5" : Str) :: ("plan" : Str) :: []), ("book" : Str)) :: ((("stretch 10 1 5" : Str) :: ("plan" : Str) :: []), ("book" : Str)) :: ((("stretch 1 1 5" : Str) :: ("barge 0 1 5 5 9" : Str) :: ("plan" : Str) :: []), ("plan" : Str)) :: ((("stretch 1 1 5" : Str) :: ("barge 0 1 5 5 9" : Str) :: ("plan 12" : Str) :: []), ("plan" : Str)) :: ((("stretch 1 1 5" : Str) :: ("plan 5" : Str) :: []), ("plan" : Str)) :: ((("stretch 1 1 5" : Str) :: ("barge 0 2 5 5 9" : Str) :: ("plan 12" : Str) :: []), ("book" : Str)) :: ((("stretch 1 1 5" : Str) :: ("barge 0 1 5 5 200" : Str) :: ("plan -" : Str) :: []), ("book" : Str)) :: ((("stretch 1 1 5" : Str) :: ("plan" : Str) :: []), ("read" : Str)) :: ((("stretch 1 1 5" : Str) :: ("barge 0 1 5 5 9" : Str) :: ("plan -" : Str) :: []), ("read" : Str)) :: []
theorem casesW_ok : (casesW.all fun c => linesB c.1 && decide (c.1 ≠ []) && decide (c.1.length ≤ 24) && decide (wordR (rowsOf c.1) = c.2)) = true := by decide +kernel
def lastBad : List Str := ("stretch 10 1 5" : Str) :: ("plan x" : Str) :: []
theorem lastBad_ok : (linesB lastBad && !rowWB (rowOf "plan x")) = true := by decide +kernel
theorem extra_ok : (lineB "stretch 1 1 5" (rowOf "stretch 1 1 5") && lineB "barge 0 1 5 5 9" (rowOf "barge 0 1 5 5 9")) = true := by decide +kernel
def spLaw (A : Ad) (K : PySem.W.Frag) : Sp := fun vs H Q _ => ∃ (a : Addr) (ns : List Int), vs = [.ref a] ∧ SqL K H a (ns.map V.int) ∧ ns.length ≤ 63 ∧ Tabs A H ∧ ∀ H', Q (.bl true) H'
theorem ok_law (T : Facts A K mg base) : FnOk P w K mg base CX0 9 A.a_law A.d_law ["_law_script"] (spLaw A K) := by
  refine T.F_law.ok sc_law (fun vs H Q E h => ?_) (fun cdv A1 outer s H vs Q E hr h => ?_)
  · obtain ⟨a, ns, rfl, _⟩ := h
    rfl
  · obtain ⟨a, ns, rfl, hS, hlen, tb, q⟩ := h
    refine ⟨_, PSs.nox (pss_cons (ps_set (i := 1) sc_law.nd rfl (Or.inl rfl) (pe_call (ok__law_book T) (hr.mono (by decide)) (by rfl) T.g__law_book T.F__law_book.kp T.b__law_book .nil pass0 (pa_cons (pv 0) (pa_cons pe_int pa_nil))))
      (pss_cons (ps_set (i := 2) sc_law.nd rfl (Or.inl rfl) (pe_split (pe_call (ok__law_text T) (hr.mono (by decide)) (by rfl) T.g__law_text T.F__law_text.kp T.b__law_text .nil pass0 (pa_cons (pv 1) (pa_cons (pe_call (ok__law_plan T) (hr.mono (by decide)) (by rfl) T.g__law_plan T.F__law_plan.kp T.b__law_plan .nil pass0 (pa_cons (pv 0) (pa_cons (pe_callB call_len_seq (by rfl) T.n_len PySem.boot_len (pa_cons (pe_ix ix_seq (pv 1) pe_int (fun _ _ => rfl)) pa_nil)) pa_nil))) pa_nil))) pe_str))
      (pss_cons (ps_set (i := 3) sc_law.nd rfl (Or.inl rfl) (pe_call (ok__law_bad_row T) (hr.mono (by decide)) (by rfl) T.g__law_bad_row T.F__law_bad_row.kp T.b__law_bad_row .nil pass0 (pa_cons (pe_call (ok__law_cell_at T) (hr.mono (by decide)) (by rfl) T.g__law_cell_at T.F__law_cell_at.kp T.b__law_cell_at .nil pass0 (pa_cons (pv 0) (pa_cons pe_int pa_nil))) pa_nil)))
      (pss_cons (ps_set (i := 4) sc_law.nd rfl (Or.inl rfl) (pe_op op_modN (pe_call (ok__law_cell_at T) (hr.mono (by decide)) (by rfl) T.g__law_cell_at T.F__law_cell_at.kp T.b__law_cell_at .nil pass0 (pa_cons (pv 0) (pa_cons pe_int pa_nil))) (pe_callB call_len_seq (by rfl) T.n_len PySem.boot_len (pa_cons (pv 2) pa_nil))))
      (pss_cons (ps_set (i := 5) sc_law.nd rfl (Or.inl rfl) (pe_lst (pa_cons (pe_op op_cat (pe_op op_cat (pe_slice sl_list (pv 2) po_none (po_some (pv 4))) (pe_lst (pa_cons (pv 3) pa_nil))) (pe_slice sl_list (pv 2) (po_some (pv 4)) po_none)) (pa_cons (pe_op op_cat (pe_op op_cat (pe_slice sl_list (pv 2) po_none (po_some (pv 4))) (pe_lst (pa_cons (pv 3) pa_nil))) (pe_slice sl_list (pv 2) (po_some (pe_op op_add (pv 4) pe_int)) po_none)) (pa_cons (pe_slice sl_list (pv 2) po_none (po_some (pe_un un_neg pe_int))) (pa_cons (pe_op op_cat (pv 2) (pe_slice sl_list (pv 2) (po_some (pe_un un_neg pe_int)) po_none)) pa_nil))))))
      (pss_cons (ps_set (i := 5) sc_law.nd rfl (Or.inl rfl) (pe_op op_cat (pv 5) (pe_lst (pa_cons (pe_op op_cat (pe_slice sl_list (pv 2) (po_some (pe_un un_neg pe_int)) po_none) (pe_slice sl_list (pv 2) po_none (po_some (pe_un un_neg pe_int)))) (pa_cons (pe_op op_cat (pv 2) (pe_lst (pa_cons pe_str pa_nil))) pa_nil)))))
      (pss_cons (ps_set (i := 5) sc_law.nd rfl (Or.inl rfl) (pe_op op_cat (pv 5) (pe_lst (pa_cons (pe_op op_cat (pe_lst (pa_cons pe_str pa_nil)) (pv 2)) (pa_cons (pe_op op_cat (pv 2) (pe_lst (pa_cons (pv 3) pa_nil))) (pa_cons (pe_lst (pa_cons pe_str (pa_cons pe_str pa_nil))) pa_nil))))))
      (pss_cons (ps_for PassesOwn.never rfl (pi_list (pv 5)) (pg_name (i := 6) sc_law.nd rfl (Or.inl rfl)) (pss_one (ps_if (pt_cmpR op_ne (pe_call (ok__law_word T) (hr.mono (by decide)) (by rfl) T.g__law_word T.F__law_word.kp T.b__law_word .nil pass0 (pa_cons (pv 6) pa_nil)) pe_str (nomark _)) (pss_one (ps_ret pe_bl)) pss_nil)))
      (pss_cons (ps_set (i := 7) sc_law.nd rfl (Or.inl rfl) pe_str)
      (pss_cons (ps_set (i := 8) sc_law.nd rfl (Or.inl rfl) pe_str)
      (pss_cons (ps_set (i := 9) sc_law.nd rfl (Or.inl rfl) (pe_lst (pa_cons (pe_tup (pa_cons (pe_lst (pa_cons pe_str pa_nil)) (pa_cons pe_str pa_nil))) (pa_cons (pe_tup (pa_cons (pe_op op_cat (pe_op op_rep (pe_lst (pa_cons (pv 7) pa_nil)) pe_int) (pe_lst (pa_cons pe_str pa_nil))) (pa_cons pe_str pa_nil))) (pa_cons (pe_tup (pa_cons (pe_lst (pa_cons pe_str (pa_cons pe_str pa_nil))) (pa_cons pe_str pa_nil))) pa_nil)))))
      (pss_cons (ps_set (i := 9) sc_law.nd rfl (Or.inl rfl) (pe_op op_cat (pv 9) (pe_lst (pa_cons (pe_tup (pa_cons (pe_lst (pa_cons (pv 7) (pa_cons (pv 8) (pa_cons pe_str pa_nil)))) (pa_cons pe_str pa_nil))) pa_nil))))
      (pss_cons (ps_set (i := 9) sc_law.nd rfl (Or.inl rfl) (pe_op op_cat (pv 9) (pe_lst (pa_cons (pe_tup (pa_cons (pe_lst (pa_cons (pv 7) (pa_cons (pv 8) (pa_cons pe_str pa_nil)))) (pa_cons pe_str pa_nil))) (pa_cons (pe_tup (pa_cons (pe_lst (pa_cons (pv 7) (pa_cons pe_str pa_nil))) (pa_cons pe_str pa_nil))) pa_nil)))))
      (pss_cons (ps_set (i := 9) sc_law.nd rfl (Or.inl rfl) (pe_op op_cat (pv 9) (pe_lst (pa_cons (pe_tup (pa_cons (pe_lst (pa_cons (pv 7) (pa_cons pe_str (pa_cons pe_str pa_nil)))) (pa_cons pe_str pa_nil))) pa_nil))))
      (pss_cons (ps_set (i := 9) sc_law.nd rfl (Or.inl rfl) (pe_op op_cat (pv 9) (pe_lst (pa_cons (pe_tup (pa_cons (pe_lst (pa_cons (pv 7) (pa_cons pe_str (pa_cons pe_str pa_nil)))) (pa_cons pe_str pa_nil))) pa_nil))))
      (pss_cons (ps_set (i := 9) sc_law.nd rfl (Or.inl rfl) (pe_op op_cat (pv 9) (pe_lst (pa_cons (pe_tup (pa_cons (pe_lst (pa_cons (pv 7) (pa_cons pe_str pa_nil))) (pa_cons pe_str pa_nil))) (pa_cons (pe_tup (pa_cons (pe_lst (pa_cons (pv 7) (pa_cons (pv 8) (pa_cons pe_str pa_nil)))) (pa_cons pe_str pa_nil))) pa_nil)))))
      (pss_cons (ps_asg (pe_ix ix_seq (pv 9) (pe_op op_modN (pe_call (ok__law_cell_at T) (hr.mono (by decide)) (by rfl) T.g__law_cell_at T.F__law_cell_at.kp T.b__law_cell_at .nil pass0 (pa_cons (pv 0) (pa_cons pe_int pa_nil))) (pe_callB call_len_seq (by rfl) T.n_len PySem.boot_len (pa_cons (pv 9) pa_nil))) (fun _ _ => rfl)) (pg_tup (by rfl) (pgs_cons (pg_name (i := 10) sc_law.nd rfl (Or.inl rfl)) (pgs_cons (pg_name (i := 11) sc_law.nd rfl (Or.inl rfl)) pgs_nil))))
      (pss_one (ps_ret (pe_cmpR op_eq (pe_call (ok__law_word T) (hr.mono (by decide)) (by rfl) T.g__law_word T.F__law_word.kp T.b__law_word .nil pass0 (pa_cons (pv 10) pa_nil)) (pv 11) (nomark _))))))))))))))))))))), ?_⟩
    refine ⟨_, rfl, a, ns, 5, rfl, hS, by omega, fun v k H0 ok hb e0 ib => ?_⟩
    obtain ⟨ka, r, b, rfl, t0, ir, ⟨ba, bs, rfl, t2, pb⟩⟩ := id ib
    have lb := plen pb
    have n7 := ok.n7
    have n1 := ok.rv.n1
    refine ⟨_, rfl, _, rfl, _, rfl, .inr (.inl ⟨ka, _, 1, _, rfl, rfl, t0, atI_nat (j := 1) rfl, ba, bs, rfl, .inr t2, ?_⟩)⟩
    refine ⟨a, ns, bs.length, rfl, e0.sqL (by simp) hS, by omega, fun u pl H1 okp e1 ip => ?_⟩
    rw [lb] at okp
    refine ⟨.ref ka, u, k, pl, rfl, e1.book ib, ok, ip, okp, fun H2 e2 => ⟨⟨_, rfl⟩, _, _, rfl, rfl, by decide +kernel, text_len ok okp, fun S hS0 => ?_⟩⟩
    rw [split_text ok okp]
    have gl := good_lines ok okp
    have gn := good_names (k := k) (pl := pl)
    have lLR := plen gl
    have lL : (linesN k pl).length ≤ 16 := (lines_small ok okp).2
    have lL2 : (linesN k pl).length = k.rv.length + k.bs.length + 1 := by rw [lLR]; unfold rowsG rowsC; simp; omega
    generalize linesN k pl = L at gl lLR lL lL2 ⊢
    generalize rowsG k pl = R at gl gn lLR ⊢
    generalize hq : upd H2 S _ = H3
    obtain ⟨e3, kS⟩ := al_lst (Y := strsV L) hS0 hq rfl
    have f3 := e0.trans (e1.trans (e2.trans e3))
    refine ⟨_, rfl, a, ns, 4, rfl, f3.sqL (by simp) hS, fun c4 => ⟨c4, rfl, fun bad H4 e4 hbad => ?_⟩⟩
    have kS := e4.lst S _ (by simp) kS
    have f4 := f3.trans e4
    refine ⟨_, rfl, a, ns, 5, rfl, f4.sqL (by simp) hS, fun c5 => ⟨_, rfl, S, _, rfl, .inl (.inl (.inl kS)), _, _, rfl, rfl, (by show ((strsV L).length : Int) ≠ 0; rw [GD.len_strs]; omega), ?_⟩⟩
    rw [GD.len_strs]
    have j0 : 0 ≤ c5.fmod (L.length : Int) := Int.fmod_nonneg_of_pos _ (by omega)
    have j1 : c5.fmod (L.length : Int) < (L.length : Int) := Int.fmod_lt_of_pos _ (by omega)
    obtain ⟨j, hj⟩ : ∃ j : Nat, c5.fmod (L.length : Int) = (j : Int) := ⟨(c5.fmod (L.length : Int)).toNat, by omega⟩
    have hj2 : j < L.length := by omega
    have tbx := tb.ext f4
    have hSx : SqL K H4 a (ns.map V.int) := f4.sqL (by simp) hS
    clear f4 f3 e4 e3 e2 e1 e0 ib ir ip hq
    refine ⟨.ref S, rfl, _, rfl, (j : Int), congrArg V.int hj, S, _, rfl, .inl (.inl kS), fun p1 hp1 => ?_⟩
    rw [cut_upto _ _ (by rw [GD.len_strs]; omega)]
    generalize hq1 : upd H4 p1 _ = HA1
    obtain ⟨a1, k_p1⟩ := al_lst (Y := strsV (L.take j)) hp1 hq1 (strsV_take _ _)
    have kS := a1.lst _ _ (by simp) kS
    have tbx := tbx.ext a1
    have hSx := a1.sqL (by simp) hSx
    clear hq1 a1
    refine ⟨_, rfl, by show 1 ≤ sizeLine; decide, fun p2 hp2 => ?_⟩
    generalize hq2 : upd HA1 p2 _ = HA2
    obtain ⟨a2, k_p2⟩ := al_lst (Y := strsV (bad :: [])) hp2 hq2 (rfl)
    have kS := a2.lst _ _ (by simp) kS
    have k_p1 := a2.lst _ _ (by simp) k_p1
    have tbx := tbx.ext a2
    have hSx := a2.sqL (by simp) hSx
    clear hq2 a2
    refine ⟨p1, p2, _, _, rfl, rfl, k_p1, k_p2, Nat.le_of_lt (small1000 (by simp only [GD.len_strs, List.length_append, List.length_take, List.length_drop, List.length_cons, List.length_nil]; omega)), fun p3 hp3 => ?_⟩
    generalize hq3 : upd HA2 p3 _ = HA3
    obtain ⟨a3, k_p3⟩ := al_lst (Y := strsV (L.take j ++ (bad :: []))) hp3 hq3 (strsV_app _ _)
    have kS := a3.lst _ _ (by simp) kS
    have k_p1 := a3.lst _ _ (by simp) k_p1
    have k_p2 := a3.lst _ _ (by simp) k_p2
    have tbx := tbx.ext a3
    have hSx := a3.sqL (by simp) hSx
    clear hq3 a3
    refine ⟨.ref S, rfl, _, rfl, (j : Int), congrArg V.int hj, ?_⟩
    first | (unfold tNoPart; dsimp only) | dsimp only
    refine ⟨S, _, rfl, .inl (.inl kS), fun p4 hp4 => ?_⟩
    rw [cut_list]
    generalize hq4 : upd HA3 p4 _ = HA4
    obtain ⟨a4, k_p4⟩ := al_lst (Y := strsV (L.drop j)) hp4 hq4 (strsV_drop _ _)
    have kS := a4.lst _ _ (by simp) kS
    have k_p1 := a4.lst _ _ (by simp) k_p1
    have k_p2 := a4.lst _ _ (by simp) k_p2
    have k_p3 := a4.lst _ _ (by simp) k_p3
    have tbx := tbx.ext a4
    have hSx := a4.sqL (by simp) hSx
    clear hq4 a4
    refine ⟨p3, p4, _, _, rfl, rfl, k_p3, k_p4, Nat.le_of_lt (small1000 (by simp only [GD.len_strs, List.length_append, List.length_take, List.length_drop, List.length_cons, List.length_nil]; omega)), fun t1 ht1 => ?_⟩
    generalize hq5 : upd HA4 t1 _ = HA5
    obtain ⟨a5, k_t1⟩ := al_lst (Y := strsV ((L.take j ++ (bad :: [])) ++ L.drop j)) ht1 hq5 (strsV_app _ _)
    have kS := a5.lst _ _ (by simp) kS
    have k_p1 := a5.lst _ _ (by simp) k_p1
    have k_p2 := a5.lst _ _ (by simp) k_p2
    have k_p3 := a5.lst _ _ (by simp) k_p3
    have k_p4 := a5.lst _ _ (by simp) k_p4
    have tbx := tbx.ext a5
    have hSx := a5.sqL (by simp) hSx
    clear hq5 a5
    refine ⟨.ref S, rfl, _, rfl, (j : Int), congrArg V.int hj, S, _, rfl, .inl (.inl kS), fun p5 hp5 => ?_⟩
    rw [cut_upto _ _ (by rw [GD.len_strs]; omega)]
    generalize hq6 : upd HA5 p5 _ = HA6
    obtain ⟨a6, k_p5⟩ := al_lst (Y := strsV (L.take j)) hp5 hq6 (strsV_take _ _)
    have kS := a6.lst _ _ (by simp) kS
    have k_t1 := a6.lst _ _ (by simp) k_t1
    have tbx := tbx.ext a6
    have hSx := a6.sqL (by simp) hSx
    clear hq6 a6
    refine ⟨_, rfl, by show 1 ≤ sizeLine; decide, fun p6 hp6 => ?_⟩
    generalize hq7 : upd HA6 p6 _ = HA7
    obtain ⟨a7, k_p6⟩ := al_lst (Y := strsV (bad :: [])) hp6 hq7 (rfl)
    have kS := a7.lst _ _ (by simp) kS
    have k_t1 := a7.lst _ _ (by simp) k_t1
    have k_p5 := a7.lst _ _ (by simp) k_p5
    have tbx := tbx.ext a7
    have hSx := a7.sqL (by simp) hSx
    clear hq7 a7
    refine ⟨p5, p6, _, _, rfl, rfl, k_p5, k_p6, Nat.le_of_lt (small1000 (by simp only [GD.len_strs, List.length_append, List.length_take, List.length_drop, List.length_cons, List.length_nil]; omega)), fun p7 hp7 => ?_⟩
    generalize hq8 : upd HA7 p7 _ = HA8
    obtain ⟨a8, k_p7⟩ := al_lst (Y := strsV (L.take j ++ (bad :: []))) hp7 hq8 (strsV_app _ _)
    have kS := a8.lst _ _ (by simp) kS
    have k_t1 := a8.lst _ _ (by simp) k_t1
    have k_p5 := a8.lst _ _ (by simp) k_p5
    have k_p6 := a8.lst _ _ (by simp) k_p6
    have tbx := tbx.ext a8
    have hSx := a8.sqL (by simp) hSx
    clear hq8 a8
    refine ⟨.ref S, rfl, _, rfl, _, _, rfl, rfl, ((j + 1 : Nat) : Int), by show V.int (c5.fmod (L.length : Int) + 1) = _; rw [hj]; rfl, ?_⟩
    first | (unfold tNoPart; dsimp only) | dsimp only
    refine ⟨S, _, rfl, .inl (.inl kS), fun p8 hp8 => ?_⟩
    rw [cut_list]
    generalize hq9 : upd HA8 p8 _ = HA9
    obtain ⟨a9, k_p8⟩ := al_lst (Y := strsV (L.drop (j + 1))) hp8 hq9 (strsV_drop _ _)
    have kS := a9.lst _ _ (by simp) kS
    have k_t1 := a9.lst _ _ (by simp) k_t1
    have k_p5 := a9.lst _ _ (by simp) k_p5
    have k_p6 := a9.lst _ _ (by simp) k_p6
    have k_p7 := a9.lst _ _ (by simp) k_p7
    have tbx := tbx.ext a9
    have hSx := a9.sqL (by simp) hSx
    clear hq9 a9
    refine ⟨p7, p8, _, _, rfl, rfl, k_p7, k_p8, Nat.le_of_lt (small1000 (by simp only [GD.len_strs, List.length_append, List.length_take, List.length_drop, List.length_cons, List.length_nil]; omega)), fun t2 ht2 => ?_⟩
    generalize hq10 : upd HA9 t2 _ = HA10
    obtain ⟨a10, k_t2⟩ := al_lst (Y := strsV ((L.take j ++ (bad :: [])) ++ L.drop (j + 1))) ht2 hq10 (strsV_app _ _)
    have kS := a10.lst _ _ (by simp) kS
    have k_t1 := a10.lst _ _ (by simp) k_t1
    have k_p5 := a10.lst _ _ (by simp) k_p5
    have k_p6 := a10.lst _ _ (by simp) k_p6
    have k_p7 := a10.lst _ _ (by simp) k_p7
    have k_p8 := a10.lst _ _ (by simp) k_p8
    have tbx := tbx.ext a10
    have hSx := a10.sqL (by simp) hSx
    clear hq10 a10
    refine ⟨.ref S, rfl, 1, rfl, (-1 : Int), rfl, S, _, rfl, .inl (.inl kS), fun t3 ht3 => ?_⟩
    rw [cut_but _ (by rw [GD.len_strs]; omega), GD.len_strs]
    generalize hq11 : upd HA10 t3 _ = HA11
    obtain ⟨a11, k_t3⟩ := al_lst (Y := strsV (L.take (L.length - 1))) ht3 hq11 (strsV_take _ _)
    have kS := a11.lst _ _ (by simp) kS
    have k_t1 := a11.lst _ _ (by simp) k_t1
    have k_t2 := a11.lst _ _ (by simp) k_t2
    have tbx := tbx.ext a11
    have hSx := a11.sqL (by simp) hSx
    clear hq11 a11
    refine ⟨_, rfl, ?_⟩
    refine ⟨.ref S, rfl, 1, rfl, (-1 : Int), rfl, ?_⟩
    first | (unfold tNoPart; dsimp only) | dsimp only
    refine ⟨S, _, rfl, .inl (.inl kS), fun p9 hp9 => ?_⟩
    rw [cut_last _ (by rw [GD.len_strs]; omega), GD.len_strs]
    generalize hq12 : upd HA11 p9 _ = HA12
    obtain ⟨a12, k_p9⟩ := al_lst (Y := strsV (L.drop (L.length - 1))) hp9 hq12 (strsV_drop _ _)
    have kS := a12.lst _ _ (by simp) kS
    have k_t1 := a12.lst _ _ (by simp) k_t1
    have k_t2 := a12.lst _ _ (by simp) k_t2
    have k_t3 := a12.lst _ _ (by simp) k_t3
    have tbx := tbx.ext a12
    have hSx := a12.sqL (by simp) hSx
    clear hq12 a12
    refine ⟨S, p9, _, _, rfl, rfl, kS, k_p9, Nat.le_of_lt (small1000 (by simp only [GD.len_strs, List.length_append, List.length_take, List.length_drop, List.length_cons, List.length_nil]; omega)), fun t4 ht4 => ?_⟩
    generalize hq13 : upd HA12 t4 _ = HA13
    obtain ⟨a13, k_t4⟩ := al_lst (Y := strsV (L ++ L.drop (L.length - 1))) ht4 hq13 (strsV_app _ _)
    have kS := a13.lst _ _ (by simp) kS
    have k_t1 := a13.lst _ _ (by simp) k_t1
    have k_t2 := a13.lst _ _ (by simp) k_t2
    have k_t3 := a13.lst _ _ (by simp) k_t3
    have k_p9 := a13.lst _ _ (by simp) k_p9
    have tbx := tbx.ext a13
    have hSx := a13.sqL (by simp) hSx
    clear hq13 a13
    refine ⟨by show 4 ≤ sizeLine; decide, fun u1 hu1 => ?_⟩
    generalize hq14 : upd HA13 u1 _ = HA14
    obtain ⟨a14, k_u1⟩ := al_lst (Y := [.ref t1, .ref t2, .ref t3, .ref t4]) hu1 hq14 (rfl)
    have kS := a14.lst _ _ (by simp) kS
    have k_t1 := a14.lst _ _ (by simp) k_t1
    have k_t2 := a14.lst _ _ (by simp) k_t2
    have k_t3 := a14.lst _ _ (by simp) k_t3
    have k_t4 := a14.lst _ _ (by simp) k_t4
    have tbx := tbx.ext a14
    have hSx := a14.sqL (by simp) hSx
    clear hq14 a14
    refine ⟨_, rfl, ?_⟩
    refine ⟨.ref S, rfl, 1, rfl, (-1 : Int), rfl, ?_⟩
    first | (unfold tNoPart; dsimp only) | dsimp only
    refine ⟨S, _, rfl, .inl (.inl kS), fun p10 hp10 => ?_⟩
    rw [cut_last _ (by rw [GD.len_strs]; omega), GD.len_strs]
    generalize hq15 : upd HA14 p10 _ = HA15
    obtain ⟨a15, k_p10⟩ := al_lst (Y := strsV (L.drop (L.length - 1))) hp10 hq15 (strsV_drop _ _)
    have kS := a15.lst _ _ (by simp) kS
    have k_t1 := a15.lst _ _ (by simp) k_t1
    have k_t2 := a15.lst _ _ (by simp) k_t2
    have k_t3 := a15.lst _ _ (by simp) k_t3
    have k_t4 := a15.lst _ _ (by simp) k_t4
    have k_u1 := a15.lst _ _ (by simp) k_u1
    have tbx := tbx.ext a15
    have hSx := a15.sqL (by simp) hSx
    clear hq15 a15
    refine ⟨.ref S, rfl, 1, rfl, (-1 : Int), rfl, S, _, rfl, .inl (.inl kS), fun p11 hp11 => ?_⟩
    rw [cut_but _ (by rw [GD.len_strs]; omega), GD.len_strs]
    generalize hq16 : upd HA15 p11 _ = HA16
    obtain ⟨a16, k_p11⟩ := al_lst (Y := strsV (L.take (L.length - 1))) hp11 hq16 (strsV_take _ _)
    have kS := a16.lst _ _ (by simp) kS
    have k_t1 := a16.lst _ _ (by simp) k_t1
    have k_t2 := a16.lst _ _ (by simp) k_t2
    have k_t3 := a16.lst _ _ (by simp) k_t3
    have k_t4 := a16.lst _ _ (by simp) k_t4
    have k_u1 := a16.lst _ _ (by simp) k_u1
    have k_p10 := a16.lst _ _ (by simp) k_p10
    have tbx := tbx.ext a16
    have hSx := a16.sqL (by simp) hSx
    clear hq16 a16
    refine ⟨p10, p11, _, _, rfl, rfl, k_p10, k_p11, Nat.le_of_lt (small1000 (by simp only [GD.len_strs, List.length_append, List.length_take, List.length_drop, List.length_cons, List.length_nil]; omega)), fun t5 ht5 => ?_⟩
    generalize hq17 : upd HA16 t5 _ = HA17
    obtain ⟨a17, k_t5⟩ := al_lst (Y := strsV (L.drop (L.length - 1) ++ L.take (L.length - 1))) ht5 hq17 (strsV_app _ _)
    have kS := a17.lst _ _ (by simp) kS
    have k_t1 := a17.lst _ _ (by simp) k_t1
    have k_t2 := a17.lst _ _ (by simp) k_t2
    have k_t3 := a17.lst _ _ (by simp) k_t3
    have k_t4 := a17.lst _ _ (by simp) k_t4
    have k_u1 := a17.lst _ _ (by simp) k_u1
    have k_p10 := a17.lst _ _ (by simp) k_p10
    have k_p11 := a17.lst _ _ (by simp) k_p11
    have tbx := tbx.ext a17
    have hSx := a17.sqL (by simp) hSx
    clear hq17 a17
    refine ⟨_, rfl, by show 1 ≤ sizeLine; decide, fun p12 hp12 => ?_⟩
    generalize hq18 : upd HA17 p12 _ = HA18
    obtain ⟨a18, k_p12⟩ := al_lst (Y := strsV (("stretch 1 1 5" : Str) :: [])) hp12 hq18 (rfl)
    have kS := a18.lst _ _ (by simp) kS
    have k_t1 := a18.lst _ _ (by simp) k_t1
    have k_t2 := a18.lst _ _ (by simp) k_t2
    have k_t3 := a18.lst _ _ (by simp) k_t3
    have k_t4 := a18.lst _ _ (by simp) k_t4
    have k_u1 := a18.lst _ _ (by simp) k_u1
    have k_t5 := a18.lst _ _ (by simp) k_t5
    have tbx := tbx.ext a18
    have hSx := a18.sqL (by simp) hSx
    clear hq18 a18
    refine ⟨S, p12, _, _, rfl, rfl, kS, k_p12, Nat.le_of_lt (small1000 (by simp only [GD.len_strs, List.length_append, List.length_take, List.length_drop, List.length_cons, List.length_nil]; omega)), fun t6 ht6 => ?_⟩
    generalize hq19 : upd HA18 t6 _ = HA19
    obtain ⟨a19, k_t6⟩ := al_lst (Y := strsV (L ++ (("stretch 1 1 5" : Str) :: []))) ht6 hq19 (strsV_app _ _)
    have kS := a19.lst _ _ (by simp) kS
    have k_t1 := a19.lst _ _ (by simp) k_t1
    have k_t2 := a19.lst _ _ (by simp) k_t2
    have k_t3 := a19.lst _ _ (by simp) k_t3
    have k_t4 := a19.lst _ _ (by simp) k_t4
    have k_u1 := a19.lst _ _ (by simp) k_u1
    have k_t5 := a19.lst _ _ (by simp) k_t5
    have k_p12 := a19.lst _ _ (by simp) k_p12
    have tbx := tbx.ext a19
    have hSx := a19.sqL (by simp) hSx
    clear hq19 a19
    refine ⟨by show 2 ≤ sizeLine; decide, fun u2 hu2 => ?_⟩
    generalize hq20 : upd HA19 u2 _ = HA20
    obtain ⟨a20, k_u2⟩ := al_lst (Y := [.ref t5, .ref t6]) hu2 hq20 (rfl)
    have kS := a20.lst _ _ (by simp) kS
    have k_t1 := a20.lst _ _ (by simp) k_t1
    have k_t2 := a20.lst _ _ (by simp) k_t2
    have k_t3 := a20.lst _ _ (by simp) k_t3
    have k_t4 := a20.lst _ _ (by simp) k_t4
    have k_u1 := a20.lst _ _ (by simp) k_u1
    have k_t5 := a20.lst _ _ (by simp) k_t5
    have k_t6 := a20.lst _ _ (by simp) k_t6
    have tbx := tbx.ext a20
    have hSx := a20.sqL (by simp) hSx
    clear hq20 a20
    refine ⟨u1, u2, _, _, rfl, rfl, k_u1, k_u2, Nat.le_of_lt (small1000 (by simp)), fun u3 hu3 => ?_⟩
    generalize hq21 : upd HA20 u3 _ = HA21
    obtain ⟨a21, k_u3⟩ := al_lst (Y := [.ref t1, .ref t2, .ref t3, .ref t4, .ref t5, .ref t6]) hu3 hq21 (rfl)
    have kS := a21.lst _ _ (by simp) kS
    have k_t1 := a21.lst _ _ (by simp) k_t1
    have k_t2 := a21.lst _ _ (by simp) k_t2
    have k_t3 := a21.lst _ _ (by simp) k_t3
    have k_t4 := a21.lst _ _ (by simp) k_t4
    have k_u1 := a21.lst _ _ (by simp) k_u1
    have k_t5 := a21.lst _ _ (by simp) k_t5
    have k_t6 := a21.lst _ _ (by simp) k_t6
    have k_u2 := a21.lst _ _ (by simp) k_u2
    have tbx := tbx.ext a21
    have hSx := a21.sqL (by simp) hSx
    clear hq21 a21
    refine ⟨_, rfl, by show 1 ≤ sizeLine; decide, fun p13 hp13 => ?_⟩
    generalize hq22 : upd HA21 p13 _ = HA22
    obtain ⟨a22, k_p13⟩ := al_lst (Y := strsV (("barge 0 1 5 5 9" : Str) :: [])) hp13 hq22 (rfl)
    have kS := a22.lst _ _ (by simp) kS
    have k_t1 := a22.lst _ _ (by simp) k_t1
    have k_t2 := a22.lst _ _ (by simp) k_t2
    have k_t3 := a22.lst _ _ (by simp) k_t3
    have k_t4 := a22.lst _ _ (by simp) k_t4
    have k_t5 := a22.lst _ _ (by simp) k_t5
    have k_t6 := a22.lst _ _ (by simp) k_t6
    have k_u3 := a22.lst _ _ (by simp) k_u3
    have tbx := tbx.ext a22
    have hSx := a22.sqL (by simp) hSx
    clear hq22 a22
    refine ⟨_, rfl, ?_⟩
    refine ⟨p13, S, _, _, rfl, rfl, k_p13, kS, Nat.le_of_lt (small1000 (by simp only [GD.len_strs, List.length_append, List.length_take, List.length_drop, List.length_cons, List.length_nil]; omega)), fun t7 ht7 => ?_⟩
    generalize hq23 : upd HA22 t7 _ = HA23
    obtain ⟨a23, k_t7⟩ := al_lst (Y := strsV ((("barge 0 1 5 5 9" : Str) :: []) ++ L)) ht7 hq23 (strsV_app _ _)
    have kS := a23.lst _ _ (by simp) kS
    have k_t1 := a23.lst _ _ (by simp) k_t1
    have k_t2 := a23.lst _ _ (by simp) k_t2
    have k_t3 := a23.lst _ _ (by simp) k_t3
    have k_t4 := a23.lst _ _ (by simp) k_t4
    have k_t5 := a23.lst _ _ (by simp) k_t5
    have k_t6 := a23.lst _ _ (by simp) k_t6
    have k_u3 := a23.lst _ _ (by simp) k_u3
    have k_p13 := a23.lst _ _ (by simp) k_p13
    have tbx := tbx.ext a23
    have hSx := a23.sqL (by simp) hSx
    clear hq23 a23
    refine ⟨_, rfl, _, rfl, by show 1 ≤ sizeLine; decide, fun p14 hp14 => ?_⟩
    generalize hq24 : upd HA23 p14 _ = HA24
    obtain ⟨a24, k_p14⟩ := al_lst (Y := strsV (bad :: [])) hp14 hq24 (rfl)
    have kS := a24.lst _ _ (by simp) kS
    have k_t1 := a24.lst _ _ (by simp) k_t1
    have k_t2 := a24.lst _ _ (by simp) k_t2
    have k_t3 := a24.lst _ _ (by simp) k_t3
    have k_t4 := a24.lst _ _ (by simp) k_t4
    have k_t5 := a24.lst _ _ (by simp) k_t5
    have k_t6 := a24.lst _ _ (by simp) k_t6
    have k_u3 := a24.lst _ _ (by simp) k_u3
    have k_t7 := a24.lst _ _ (by simp) k_t7
    have tbx := tbx.ext a24
    have hSx := a24.sqL (by simp) hSx
    clear hq24 a24
    refine ⟨S, p14, _, _, rfl, rfl, kS, k_p14, Nat.le_of_lt (small1000 (by simp only [GD.len_strs, List.length_append, List.length_take, List.length_drop, List.length_cons, List.length_nil]; omega)), fun t8 ht8 => ?_⟩
    generalize hq25 : upd HA24 t8 _ = HA25
    obtain ⟨a25, k_t8⟩ := al_lst (Y := strsV (L ++ (bad :: []))) ht8 hq25 (strsV_app _ _)
    have kS := a25.lst _ _ (by simp) kS
    have k_t1 := a25.lst _ _ (by simp) k_t1
    have k_t2 := a25.lst _ _ (by simp) k_t2
    have k_t3 := a25.lst _ _ (by simp) k_t3
    have k_t4 := a25.lst _ _ (by simp) k_t4
    have k_t5 := a25.lst _ _ (by simp) k_t5
    have k_t6 := a25.lst _ _ (by simp) k_t6
    have k_u3 := a25.lst _ _ (by simp) k_u3
    have k_t7 := a25.lst _ _ (by simp) k_t7
    have k_p14 := a25.lst _ _ (by simp) k_p14
    have tbx := tbx.ext a25
    have hSx := a25.sqL (by simp) hSx
    clear hq25 a25
    refine ⟨by show 2 ≤ sizeLine; decide, fun t9 ht9 => ?_⟩
    generalize hq26 : upd HA25 t9 _ = HA26
    obtain ⟨a26, k_t9⟩ := al_lst (Y := strsV lastBad) ht9 hq26 (rfl)
    have kS := a26.lst _ _ (by simp) kS
    have k_t1 := a26.lst _ _ (by simp) k_t1
    have k_t2 := a26.lst _ _ (by simp) k_t2
    have k_t3 := a26.lst _ _ (by simp) k_t3
    have k_t4 := a26.lst _ _ (by simp) k_t4
    have k_t5 := a26.lst _ _ (by simp) k_t5
    have k_t6 := a26.lst _ _ (by simp) k_t6
    have k_u3 := a26.lst _ _ (by simp) k_u3
    have k_t7 := a26.lst _ _ (by simp) k_t7
    have k_t8 := a26.lst _ _ (by simp) k_t8
    have tbx := tbx.ext a26
    have hSx := a26.sqL (by simp) hSx
    clear hq26 a26
    refine ⟨by show 3 ≤ sizeLine; decide, fun u4 hu4 => ?_⟩
    generalize hq27 : upd HA26 u4 _ = HA27
    obtain ⟨a27, k_u4⟩ := al_lst (Y := [.ref t7, .ref t8, .ref t9]) hu4 hq27 (rfl)
    have kS := a27.lst _ _ (by simp) kS
    have k_t1 := a27.lst _ _ (by simp) k_t1
    have k_t2 := a27.lst _ _ (by simp) k_t2
    have k_t3 := a27.lst _ _ (by simp) k_t3
    have k_t4 := a27.lst _ _ (by simp) k_t4
    have k_t5 := a27.lst _ _ (by simp) k_t5
    have k_t6 := a27.lst _ _ (by simp) k_t6
    have k_u3 := a27.lst _ _ (by simp) k_u3
    have k_t7 := a27.lst _ _ (by simp) k_t7
    have k_t8 := a27.lst _ _ (by simp) k_t8
    have k_t9 := a27.lst _ _ (by simp) k_t9
    have tbx := tbx.ext a27
    have hSx := a27.sqL (by simp) hSx
    clear hq27 a27
    refine ⟨u3, u4, _, _, rfl, rfl, k_u3, k_u4, Nat.le_of_lt (small1000 (by simp)), fun u5 hu5 => ?_⟩
    generalize hq28 : upd HA27 u5 _ = HA28
    obtain ⟨a28, k_u5⟩ := al_lst (Y := [.ref t1, .ref t2, .ref t3, .ref t4, .ref t5, .ref t6, .ref t7, .ref t8, .ref t9]) hu5 hq28 (rfl)
    have kS := a28.lst _ _ (by simp) kS
    have k_t1 := a28.lst _ _ (by simp) k_t1
    have k_t2 := a28.lst _ _ (by simp) k_t2
    have k_t3 := a28.lst _ _ (by simp) k_t3
    have k_t4 := a28.lst _ _ (by simp) k_t4
    have k_t5 := a28.lst _ _ (by simp) k_t5
    have k_t6 := a28.lst _ _ (by simp) k_t6
    have k_u3 := a28.lst _ _ (by simp) k_u3
    have k_t7 := a28.lst _ _ (by simp) k_t7
    have k_t8 := a28.lst _ _ (by simp) k_t8
    have k_t9 := a28.lst _ _ (by simp) k_t9
    have k_u4 := a28.lst _ _ (by simp) k_u4
    have tbx := tbx.ext a28
    have hSx := a28.sqL (by simp) hSx
    clear hq28 a28
    have tx : Paired (IsT HA28) [.ref t1, .ref t2, .ref t3, .ref t4, .ref t5, .ref t6, .ref t7, .ref t8, .ref t9] (((L.take j ++ (bad :: [])) ++ L.drop j) :: ((L.take j ++ (bad :: [])) ++ L.drop (j + 1)) :: (L.take (L.length - 1)) :: (L ++ L.drop (L.length - 1)) :: (L.drop (L.length - 1) ++ L.take (L.length - 1)) :: (L ++ (("stretch 1 1 5" : Str) :: [])) :: ((("barge 0 1 5 5 9" : Str) :: []) ++ L) :: (L ++ (bad :: [])) :: lastBad :: []) := .cons ⟨t1, rfl, k_t1⟩ (.cons ⟨t2, rfl, k_t2⟩ (.cons ⟨t3, rfl, k_t3⟩ (.cons ⟨t4, rfl, k_t4⟩ (.cons ⟨t5, rfl, k_t5⟩ (.cons ⟨t6, rfl, k_t6⟩ (.cons ⟨t7, rfl, k_t7⟩ (.cons ⟨t8, rfl, k_t8⟩ (.cons ⟨t9, rfl, k_t9⟩ (.nil)))))))))
    have hb := List.all_eq_true.mp badRows_line bad hbad
    rw [Bool.and_eq_true] at hb
    have hbr : rowWB (rowOf bad) = false := by
      have z := hb.2
      cases hz : rowWB (rowOf bad) with
      | false => rfl
      | true => rw [hz] at z; cases z
    have LB : Paired LineW (bad :: []) (rowOf bad :: []) := .cons (lineW_of hb.1) .nil
    have ext2 := extra_ok
    rw [Bool.and_eq_true] at ext2
    have lbk := lastBad_ok
    rw [Bool.and_eq_true] at lbk
    have rLast : ∃ r, R[R.length - 1]? = some r := ⟨_, List.getElem?_eq_getElem (by omega)⟩
    obtain ⟨rp, hrp⟩ := rLast
    have nrp := (gn _ rp hrp).2.1 (by omega)
    have bads : ∀ Ls ∈ (((L.take j ++ (bad :: [])) ++ L.drop j) :: ((L.take j ++ (bad :: [])) ++ L.drop (j + 1)) :: (L.take (L.length - 1)) :: (L ++ L.drop (L.length - 1)) :: (L.drop (L.length - 1) ++ L.take (L.length - 1)) :: (L ++ (("stretch 1 1 5" : Str) :: [])) :: ((("barge 0 1 5 5 9" : Str) :: []) ++ L) :: (L ++ (bad :: [])) :: lastBad :: []), ∃ Rs, LinesW Ls Rs ∧ textB Rs = false := by
      intro Ls hLs
      simp only [List.mem_cons, List.not_mem_nil, or_false] at hLs
      rcases hLs with rfl | rfl | rfl | rfl | rfl | rfl | rfl | rfl | rfl
      · exact ⟨(R.take j ++ (rowOf bad :: [])) ++ R.drop j, linesW_of (papp2 (papp2 (ptakeW gl j).1 LB) (ptakeW gl j).2) (by simp) (by rw [List.length_append, List.length_append, List.length_take, List.length_drop]; show min j L.length + 1 + (L.length - j) ≤ 24; omega), text_row (r := rowOf bad) (by simp) hbr⟩
      · exact ⟨(R.take j ++ (rowOf bad :: [])) ++ R.drop (j + 1), linesW_of (papp2 (papp2 (ptakeW gl j).1 LB) (ptakeW gl (j + 1)).2) (by simp) (by rw [List.length_append, List.length_append, List.length_take, List.length_drop]; show min j L.length + 1 + (L.length - (j + 1)) ≤ 24; omega), text_row (r := rowOf bad) (by simp) hbr⟩
      · obtain ⟨r2, hr2⟩ : ∃ r, R[R.length - 2]? = some r := ⟨_, List.getElem?_eq_getElem (by omega)⟩
        refine ⟨R.take (L.length - 1), linesW_of (ptakeW gl _).1 (fun z => by have z := congrArg List.length z; rw [List.length_take] at z; simp at z; omega) (by rw [List.length_take]; omega), no_pat (i := R.length - 2) (r := r2) (by rw [List.getElem?_take_of_lt (by omega)]; exact hr2) (.inl ⟨by rw [List.length_take]; omega, ?_⟩)⟩
        rcases (gn _ r2 hr2).2.2 (by omega) with e | e
        · rw [e]; decide +kernel
        · rw [e]; decide +kernel
      · exact ⟨R ++ R.drop (L.length - 1), linesW_of (papp2 gl (ptakeW gl _).2) (fun z => by have z := congrArg List.length z; rw [List.length_append] at z; simp at z; omega) (by rw [List.length_append, List.length_drop]; omega), no_pat (i := R.length - 1) (r := rp) (by rw [List.getElem?_append_left (by omega)]; exact hrp) (.inr ⟨by rw [List.length_append, List.length_drop]; omega, nrp⟩)⟩
      · exact ⟨R.drop (L.length - 1) ++ R.take (L.length - 1), linesW_of (papp2 (ptakeW gl _).2 (ptakeW gl _).1) (List.ne_nil_of_length_pos (by rw [List.length_append, List.length_drop, List.length_take]; omega)) (by rw [List.length_append, List.length_drop, List.length_take]; omega), no_pat (i := 0) (r := rp) (by rw [List.getElem?_append_left (by rw [List.length_drop]; omega), List.getElem?_drop, ← hrp]; congr 1; omega) (.inr ⟨by rw [List.length_append, List.length_drop, List.length_take]; omega, nrp⟩)⟩
      · exact ⟨R ++ (rowOf "stretch 1 1 5" :: []), linesW_of (papp2 gl (.cons (lineW_of ext2.1) .nil)) (by simp) (by rw [List.length_append]; simp; omega), no_pat (i := R.length) (r := rowOf "stretch 1 1 5") (by rw [List.getElem?_append_right (Nat.le_refl _)]; simp) (.inl ⟨by rw [List.length_append]; rfl, by decide +kernel⟩)⟩
      · obtain ⟨r0, hr0⟩ : ∃ r, R[0]? = some r := ⟨_, List.getElem?_eq_getElem (by omega)⟩
        exact ⟨(rowOf "barge 0 1 5 5 9" :: []) ++ R, linesW_of (papp2 (.cons (lineW_of ext2.2) .nil) gl) (by simp) (by rw [List.length_append]; simp; omega), no_pat2 (r := rowOf "barge 0 1 5 5 9") (r' := r0) rfl (by show R[0]? = _; exact hr0) (by decide +kernel) ((gn _ r0 hr0).1 (by omega))⟩
      · exact ⟨R ++ (rowOf bad :: []), linesW_of (papp2 gl LB) (by simp) (by rw [List.length_append]; simp; omega), text_row (r := rowOf bad) (by simp) hbr⟩
      · refine ⟨rowsOf lastBad, linesW_of (paired_rows lbk.1) (by decide) (by decide), text_row (r := rowOf "plan x") (by unfold rowsOf lastBad; simp) ?_⟩
        have z := lbk.2
        cases hz : rowWB (rowOf "plan x") with
        | false => rfl
        | true => rw [hz] at z; cases z
    refine ⟨_, rfl, u5, rfl, ⟨_, .inl (.inl k_u5)⟩, for_list (xs := [V.ref t1, .ref t2, .ref t3, .ref t4, .ref t5, .ref t6, .ref t7, .ref t8, .ref t9]) (fun i σ Hx => ∃ (y4 y6 : Option V), σ = [some (.ref a), some (.ref ka), some (.ref S), some (.str bad), y4, some (.ref u5), y6, none, none, none, none, none] ∧ Ext [] HA28 Hx)
      ⟨_, _, rfl, Ext.refl⟩ (fun i σ Hx _ z => ?_) (fun i x σ Hx hx z => ?_) (fun σ Hx z => ?_)⟩
    · obtain ⟨_, _, _, ex⟩ := z
      exact .inl (.inl (ex.lst _ _ (by simp) k_u5))
    · obtain ⟨y4, y6, rfl, ex⟩ := z
      obtain ⟨Ls, hLs, l, rfl, hl⟩ := pget tx hx
      obtain ⟨Rs, lw, hT⟩ := bads Ls (List.mem_of_getElem? hLs)
      refine ⟨_, rfl, l, Ls, Rs, rfl, .inl (.inl (ex.lst l _ (by simp) hl)), lw, tbx.ext ex, fun H' e' => ?_⟩
      have hw : wordR Rs = "text" := by unfold wordR; rw [if_pos hT]
      exact ⟨rfl, _, rfl, iteNS (congrArg V.str hw) ⟨_, _, rfl, ex.trans e'⟩⟩
    obtain ⟨y4, y6, rfl, ex⟩ := z
    have tbx := tbx.ext ex
    have hSx := ex.sqL (by simp) hSx
    clear bads tx ex
    have PW : Paired (IsP K Hx) [] [] := .nil
    refine ⟨by show 1 ≤ sizeLine; decide, fun c1 hc1 => ?_⟩
    generalize hq29 : upd Hx c1 _ = HA29
    obtain ⟨a29, k_c1⟩ := al_lst (Y := strsV (("plan" : Str) :: [])) hc1 hq29 (rfl)
    have tbx := tbx.ext a29
    have hSx := a29.sqL (by simp) hSx
    have PW := Paired.mapP PW fun _ _ z => IsP.ext a29 z
    clear hq29 a29
    refine ⟨by show 2 ≤ sizeLine; decide, fun d1 hd1 => ?_⟩
    generalize hq30 : upd HA29 d1 _ = HA30
    obtain ⟨a30, k_d1⟩ := al_tup (K := K) (X := [.ref c1, .str ("book" : Str)]) hd1 hq30
    have k_c1 := a30.lst _ _ (by simp) k_c1
    have tbx := tbx.ext a30
    have hSx := a30.sqL (by simp) hSx
    have PW := Paired.mapP PW fun _ _ z => IsP.ext a30 z
    clear hq30 a30
    have PW := papp2 PW (.cons (show IsP K HA30 (.ref d1) ((("plan" : Str) :: []), ("book" : Str)) from ⟨d1, c1, rfl, k_d1, k_c1⟩) .nil)
    refine ⟨_, rfl, by show 1 ≤ sizeLine; decide, fun x1 hx1 => ?_⟩
    generalize hq31 : upd HA30 x1 _ = HA31
    obtain ⟨a31, k_x1⟩ := al_lst (Y := strsV (("stretch 1 1 5" : Str) :: [])) hx1 hq31 (rfl)
    have tbx := tbx.ext a31
    have hSx := a31.sqL (by simp) hSx
    have PW := Paired.mapP PW fun _ _ z => IsP.ext a31 z
    clear hq31 a31
    refine ⟨x1, _, _, rfl, rfl, k_x1, by decide, by decide, by decide, fun x2 hx2 => ?_⟩
    generalize hq32 : upd HA31 x2 _ = HA32
    obtain ⟨a32, k_x2⟩ := al_lst (Y := strsV (("stretch 1 1 5" : Str) :: ("stretch 1 1 5" : Str) :: ("stretch 1 1 5" : Str) :: ("stretch 1 1 5" : Str) :: ("stretch 1 1 5" : Str) :: ("stretch 1 1 5" : Str) :: ("stretch 1 1 5" : Str) :: ("stretch 1 1 5" : Str) :: ("stretch 1 1 5" : Str) :: [])) hx2 hq32 (rfl)
    have k_x1 := a32.lst _ _ (by simp) k_x1
    have tbx := tbx.ext a32
    have hSx := a32.sqL (by simp) hSx
    have PW := Paired.mapP PW fun _ _ z => IsP.ext a32 z
    clear hq32 a32
    refine ⟨by show 1 ≤ sizeLine; decide, fun x3 hx3 => ?_⟩
    generalize hq33 : upd HA32 x3 _ = HA33
    obtain ⟨a33, k_x3⟩ := al_lst (Y := strsV (("plan" : Str) :: [])) hx3 hq33 (rfl)
    have k_x1 := a33.lst _ _ (by simp) k_x1
    have k_x2 := a33.lst _ _ (by simp) k_x2
    have tbx := tbx.ext a33
    have hSx := a33.sqL (by simp) hSx
    have PW := Paired.mapP PW fun _ _ z => IsP.ext a33 z
    clear hq33 a33
    refine ⟨x2, x3, _, _, rfl, rfl, k_x2, k_x3, Nat.le_of_lt (small1000 (by decide)), fun c2 hc2 => ?_⟩
    generalize hq34 : upd HA33 c2 _ = HA34
    obtain ⟨a34, k_c2⟩ := al_lst (Y := strsV (("stretch 1 1 5" : Str) :: ("stretch 1 1 5" : Str) :: ("stretch 1 1 5" : Str) :: ("stretch 1 1 5" : Str) :: ("stretch 1 1 5" : Str) :: ("stretch 1 1 5" : Str) :: ("stretch 1 1 5" : Str) :: ("stretch 1 1 5" : Str) :: ("stretch 1 1 5" : Str) :: ("plan" : Str) :: [])) hc2 hq34 (rfl)
    have k_x1 := a34.lst _ _ (by simp) k_x1
    have k_x2 := a34.lst _ _ (by simp) k_x2
    have k_x3 := a34.lst _ _ (by simp) k_x3
    have tbx := tbx.ext a34
    have hSx := a34.sqL (by simp) hSx
    have PW := Paired.mapP PW fun _ _ z => IsP.ext a34 z
    clear hq34 a34
    refine ⟨by show 2 ≤ sizeLine; decide, fun d2 hd2 => ?_⟩
    generalize hq35 : upd HA34 d2 _ = HA35
    obtain ⟨a35, k_d2⟩ := al_tup (K := K) (X := [.ref c2, .str ("book" : Str)]) hd2 hq35
    have k_c2 := a35.lst _ _ (by simp) k_c2
    have tbx := tbx.ext a35
    have hSx := a35.sqL (by simp) hSx
    have PW := Paired.mapP PW fun _ _ z => IsP.ext a35 z
    clear hq35 a35
    have PW := papp2 PW (.cons (show IsP K HA35 (.ref d2) ((("stretch 1 1 5" : Str) :: ("stretch 1 1 5" : Str) :: ("stretch 1 1 5" : Str) :: ("stretch 1 1 5" : Str) :: ("stretch 1 1 5" : Str) :: ("stretch 1 1 5" : Str) :: ("stretch 1 1 5" : Str) :: ("stretch 1 1 5" : Str) :: ("stretch 1 1 5" : Str) :: ("plan" : Str) :: []), ("book" : Str)) from ⟨d2, c2, rfl, k_d2, k_c2⟩) .nil)
    refine ⟨by show 2 ≤ sizeLine; decide, fun c3 hc3 => ?_⟩
    generalize hq36 : upd HA35 c3 _ = HA36
    obtain ⟨a36, k_c3⟩ := al_lst (Y := strsV (("stretch 10 1 5" : Str) :: ("plan" : Str) :: [])) hc3 hq36 (rfl)
    have tbx := tbx.ext a36
    have hSx := a36.sqL (by simp) hSx
    have PW := Paired.mapP PW fun _ _ z => IsP.ext a36 z
    clear hq36 a36
    refine ⟨by show 2 ≤ sizeLine; decide, fun d3 hd3 => ?_⟩
    generalize hq37 : upd HA36 d3 _ = HA37
    obtain ⟨a37, k_d3⟩ := al_tup (K := K) (X := [.ref c3, .str ("book" : Str)]) hd3 hq37
    have k_c3 := a37.lst _ _ (by simp) k_c3
    have tbx := tbx.ext a37
    have hSx := a37.sqL (by simp) hSx
    have PW := Paired.mapP PW fun _ _ z => IsP.ext a37 z
    clear hq37 a37
    have PW := papp2 PW (.cons (show IsP K HA37 (.ref d3) ((("stretch 10 1 5" : Str) :: ("plan" : Str) :: []), ("book" : Str)) from ⟨d3, c3, rfl, k_d3, k_c3⟩) .nil)
    refine ⟨by show 3 ≤ sizeLine; decide, fun g0 hg0 => ?_⟩
    generalize hq38 : upd HA37 g0 _ = HA38
    obtain ⟨a38, k_g0⟩ := al_lst (Y := [.ref d1, .ref d2, .ref d3]) hg0 hq38 (rfl)
    have tbx := tbx.ext a38
    have hSx := a38.sqL (by simp) hSx
    have PW := Paired.mapP PW fun _ _ z => IsP.ext a38 z
    clear hq38 a38
    refine ⟨_, rfl, ?_⟩
    refine ⟨_, rfl, _, rfl, by show 3 ≤ sizeLine; decide, fun c4 hc4 => ?_⟩
    generalize hq39 : upd HA38 c4 _ = HA39
    obtain ⟨a39, k_c4⟩ := al_lst (Y := strsV (("stretch 1 1 5" : Str) :: ("barge 0 1 5 5 9" : Str) :: ("plan" : Str) :: [])) hc4 hq39 (rfl)
    have k_g0 := a39.lst _ _ (by simp) k_g0
    have tbx := tbx.ext a39
    have hSx := a39.sqL (by simp) hSx
    have PW := Paired.mapP PW fun _ _ z => IsP.ext a39 z
    clear hq39 a39
    refine ⟨by show 2 ≤ sizeLine; decide, fun d4 hd4 => ?_⟩
    generalize hq40 : upd HA39 d4 _ = HA40
    obtain ⟨a40, k_d4⟩ := al_tup (K := K) (X := [.ref c4, .str ("plan" : Str)]) hd4 hq40
    have k_g0 := a40.lst _ _ (by simp) k_g0
    have k_c4 := a40.lst _ _ (by simp) k_c4
    have tbx := tbx.ext a40
    have hSx := a40.sqL (by simp) hSx
    have PW := Paired.mapP PW fun _ _ z => IsP.ext a40 z
    clear hq40 a40
    have PW := papp2 PW (.cons (show IsP K HA40 (.ref d4) ((("stretch 1 1 5" : Str) :: ("barge 0 1 5 5 9" : Str) :: ("plan" : Str) :: []), ("plan" : Str)) from ⟨d4, c4, rfl, k_d4, k_c4⟩) .nil)
    refine ⟨by show 1 ≤ sizeLine; decide, fun g1l hg1l => ?_⟩
    generalize hq41 : upd HA40 g1l _ = HA41
    obtain ⟨a41, k_g1l⟩ := al_lst (Y := [.ref d4]) hg1l hq41 (rfl)
    have k_g0 := a41.lst _ _ (by simp) k_g0
    have tbx := tbx.ext a41
    have hSx := a41.sqL (by simp) hSx
    have PW := Paired.mapP PW fun _ _ z => IsP.ext a41 z
    clear hq41 a41
    refine ⟨g0, g1l, _, _, rfl, rfl, k_g0, k_g1l, Nat.le_of_lt (small1000 (by simp)), fun g1 hg1 => ?_⟩
    generalize hq42 : upd HA41 g1 _ = HA42
    obtain ⟨a42, k_g1⟩ := al_lst (Y := [.ref d1, .ref d2, .ref d3, .ref d4]) hg1 hq42 (rfl)
    have k_g0 := a42.lst _ _ (by simp) k_g0
    have k_g1l := a42.lst _ _ (by simp) k_g1l
    have tbx := tbx.ext a42
    have hSx := a42.sqL (by simp) hSx
    have PW := Paired.mapP PW fun _ _ z => IsP.ext a42 z
    clear hq42 a42
    refine ⟨_, rfl, ?_⟩
    refine ⟨_, rfl, _, rfl, by show 3 ≤ sizeLine; decide, fun c5 hc5 => ?_⟩
    generalize hq43 : upd HA42 c5 _ = HA43
    obtain ⟨a43, k_c5⟩ := al_lst (Y := strsV (("stretch 1 1 5" : Str) :: ("barge 0 1 5 5 9" : Str) :: ("plan 12" : Str) :: [])) hc5 hq43 (rfl)
    have k_g1 := a43.lst _ _ (by simp) k_g1
    have tbx := tbx.ext a43
    have hSx := a43.sqL (by simp) hSx
    have PW := Paired.mapP PW fun _ _ z => IsP.ext a43 z
    clear hq43 a43
    refine ⟨by show 2 ≤ sizeLine; decide, fun d5 hd5 => ?_⟩
    generalize hq44 : upd HA43 d5 _ = HA44
    obtain ⟨a44, k_d5⟩ := al_tup (K := K) (X := [.ref c5, .str ("plan" : Str)]) hd5 hq44
    have k_g1 := a44.lst _ _ (by simp) k_g1
    have k_c5 := a44.lst _ _ (by simp) k_c5
    have tbx := tbx.ext a44
    have hSx := a44.sqL (by simp) hSx
    have PW := Paired.mapP PW fun _ _ z => IsP.ext a44 z
    clear hq44 a44
    have PW := papp2 PW (.cons (show IsP K HA44 (.ref d5) ((("stretch 1 1 5" : Str) :: ("barge 0 1 5 5 9" : Str) :: ("plan 12" : Str) :: []), ("plan" : Str)) from ⟨d5, c5, rfl, k_d5, k_c5⟩) .nil)
    refine ⟨_, rfl, by show 2 ≤ sizeLine; decide, fun c6 hc6 => ?_⟩
    generalize hq45 : upd HA44 c6 _ = HA45
    obtain ⟨a45, k_c6⟩ := al_lst (Y := strsV (("stretch 1 1 5" : Str) :: ("plan 5" : Str) :: [])) hc6 hq45 (rfl)
    have k_g1 := a45.lst _ _ (by simp) k_g1
    have tbx := tbx.ext a45
    have hSx := a45.sqL (by simp) hSx
    have PW := Paired.mapP PW fun _ _ z => IsP.ext a45 z
    clear hq45 a45
    refine ⟨by show 2 ≤ sizeLine; decide, fun d6 hd6 => ?_⟩
    generalize hq46 : upd HA45 d6 _ = HA46
    obtain ⟨a46, k_d6⟩ := al_tup (K := K) (X := [.ref c6, .str ("plan" : Str)]) hd6 hq46
    have k_g1 := a46.lst _ _ (by simp) k_g1
    have k_c6 := a46.lst _ _ (by simp) k_c6
    have tbx := tbx.ext a46
    have hSx := a46.sqL (by simp) hSx
    have PW := Paired.mapP PW fun _ _ z => IsP.ext a46 z
    clear hq46 a46
    have PW := papp2 PW (.cons (show IsP K HA46 (.ref d6) ((("stretch 1 1 5" : Str) :: ("plan 5" : Str) :: []), ("plan" : Str)) from ⟨d6, c6, rfl, k_d6, k_c6⟩) .nil)
    refine ⟨by show 2 ≤ sizeLine; decide, fun g2l hg2l => ?_⟩
    generalize hq47 : upd HA46 g2l _ = HA47
    obtain ⟨a47, k_g2l⟩ := al_lst (Y := [.ref d5, .ref d6]) hg2l hq47 (rfl)
    have k_g1 := a47.lst _ _ (by simp) k_g1
    have tbx := tbx.ext a47
    have hSx := a47.sqL (by simp) hSx
    have PW := Paired.mapP PW fun _ _ z => IsP.ext a47 z
    clear hq47 a47
    refine ⟨g1, g2l, _, _, rfl, rfl, k_g1, k_g2l, Nat.le_of_lt (small1000 (by simp)), fun g2 hg2 => ?_⟩
    generalize hq48 : upd HA47 g2 _ = HA48
    obtain ⟨a48, k_g2⟩ := al_lst (Y := [.ref d1, .ref d2, .ref d3, .ref d4, .ref d5, .ref d6]) hg2 hq48 (rfl)
    have k_g1 := a48.lst _ _ (by simp) k_g1
    have k_g2l := a48.lst _ _ (by simp) k_g2l
    have tbx := tbx.ext a48
    have hSx := a48.sqL (by simp) hSx
    have PW := Paired.mapP PW fun _ _ z => IsP.ext a48 z
    clear hq48 a48
    refine ⟨_, rfl, ?_⟩
    refine ⟨_, rfl, by show 3 ≤ sizeLine; decide, fun c7 hc7 => ?_⟩
    generalize hq49 : upd HA48 c7 _ = HA49
    obtain ⟨a49, k_c7⟩ := al_lst (Y := strsV (("stretch 1 1 5" : Str) :: ("barge 0 2 5 5 9" : Str) :: ("plan 12" : Str) :: [])) hc7 hq49 (rfl)
    have k_g2 := a49.lst _ _ (by simp) k_g2
    have tbx := tbx.ext a49
    have hSx := a49.sqL (by simp) hSx
    have PW := Paired.mapP PW fun _ _ z => IsP.ext a49 z
    clear hq49 a49
    refine ⟨by show 2 ≤ sizeLine; decide, fun d7 hd7 => ?_⟩
    generalize hq50 : upd HA49 d7 _ = HA50
    obtain ⟨a50, k_d7⟩ := al_tup (K := K) (X := [.ref c7, .str ("book" : Str)]) hd7 hq50
    have k_g2 := a50.lst _ _ (by simp) k_g2
    have k_c7 := a50.lst _ _ (by simp) k_c7
    have tbx := tbx.ext a50
    have hSx := a50.sqL (by simp) hSx
    have PW := Paired.mapP PW fun _ _ z => IsP.ext a50 z
    clear hq50 a50
    have PW := papp2 PW (.cons (show IsP K HA50 (.ref d7) ((("stretch 1 1 5" : Str) :: ("barge 0 2 5 5 9" : Str) :: ("plan 12" : Str) :: []), ("book" : Str)) from ⟨d7, c7, rfl, k_d7, k_c7⟩) .nil)
    refine ⟨by show 1 ≤ sizeLine; decide, fun g3l hg3l => ?_⟩
    generalize hq51 : upd HA50 g3l _ = HA51
    obtain ⟨a51, k_g3l⟩ := al_lst (Y := [.ref d7]) hg3l hq51 (rfl)
    have k_g2 := a51.lst _ _ (by simp) k_g2
    have tbx := tbx.ext a51
    have hSx := a51.sqL (by simp) hSx
    have PW := Paired.mapP PW fun _ _ z => IsP.ext a51 z
    clear hq51 a51
    refine ⟨g2, g3l, _, _, rfl, rfl, k_g2, k_g3l, Nat.le_of_lt (small1000 (by simp)), fun g3 hg3 => ?_⟩
    generalize hq52 : upd HA51 g3 _ = HA52
    obtain ⟨a52, k_g3⟩ := al_lst (Y := [.ref d1, .ref d2, .ref d3, .ref d4, .ref d5, .ref d6, .ref d7]) hg3 hq52 (rfl)
    have k_g2 := a52.lst _ _ (by simp) k_g2
    have k_g3l := a52.lst _ _ (by simp) k_g3l
    have tbx := tbx.ext a52
    have hSx := a52.sqL (by simp) hSx
    have PW := Paired.mapP PW fun _ _ z => IsP.ext a52 z
    clear hq52 a52
    refine ⟨_, rfl, ?_⟩
    refine ⟨_, rfl, by show 3 ≤ sizeLine; decide, fun c8 hc8 => ?_⟩
    generalize hq53 : upd HA52 c8 _ = HA53
    obtain ⟨a53, k_c8⟩ := al_lst (Y := strsV (("stretch 1 1 5" : Str) :: ("barge 0 1 5 5 200" : Str) :: ("plan -" : Str) :: [])) hc8 hq53 (rfl)
    have k_g3 := a53.lst _ _ (by simp) k_g3
    have tbx := tbx.ext a53
    have hSx := a53.sqL (by simp) hSx
    have PW := Paired.mapP PW fun _ _ z => IsP.ext a53 z
    clear hq53 a53
    refine ⟨by show 2 ≤ sizeLine; decide, fun d8 hd8 => ?_⟩
    generalize hq54 : upd HA53 d8 _ = HA54
    obtain ⟨a54, k_d8⟩ := al_tup (K := K) (X := [.ref c8, .str ("book" : Str)]) hd8 hq54
    have k_g3 := a54.lst _ _ (by simp) k_g3
    have k_c8 := a54.lst _ _ (by simp) k_c8
    have tbx := tbx.ext a54
    have hSx := a54.sqL (by simp) hSx
    have PW := Paired.mapP PW fun _ _ z => IsP.ext a54 z
    clear hq54 a54
    have PW := papp2 PW (.cons (show IsP K HA54 (.ref d8) ((("stretch 1 1 5" : Str) :: ("barge 0 1 5 5 200" : Str) :: ("plan -" : Str) :: []), ("book" : Str)) from ⟨d8, c8, rfl, k_d8, k_c8⟩) .nil)
    refine ⟨by show 1 ≤ sizeLine; decide, fun g4l hg4l => ?_⟩
    generalize hq55 : upd HA54 g4l _ = HA55
    obtain ⟨a55, k_g4l⟩ := al_lst (Y := [.ref d8]) hg4l hq55 (rfl)
    have k_g3 := a55.lst _ _ (by simp) k_g3
    have tbx := tbx.ext a55
    have hSx := a55.sqL (by simp) hSx
    have PW := Paired.mapP PW fun _ _ z => IsP.ext a55 z
    clear hq55 a55
    refine ⟨g3, g4l, _, _, rfl, rfl, k_g3, k_g4l, Nat.le_of_lt (small1000 (by simp)), fun g4 hg4 => ?_⟩
    generalize hq56 : upd HA55 g4 _ = HA56
    obtain ⟨a56, k_g4⟩ := al_lst (Y := [.ref d1, .ref d2, .ref d3, .ref d4, .ref d5, .ref d6, .ref d7, .ref d8]) hg4 hq56 (rfl)
    have k_g3 := a56.lst _ _ (by simp) k_g3
    have k_g4l := a56.lst _ _ (by simp) k_g4l
    have tbx := tbx.ext a56
    have hSx := a56.sqL (by simp) hSx
    have PW := Paired.mapP PW fun _ _ z => IsP.ext a56 z
    clear hq56 a56
    refine ⟨_, rfl, ?_⟩
    refine ⟨_, rfl, by show 2 ≤ sizeLine; decide, fun c9 hc9 => ?_⟩
    generalize hq57 : upd HA56 c9 _ = HA57
    obtain ⟨a57, k_c9⟩ := al_lst (Y := strsV (("stretch 1 1 5" : Str) :: ("plan" : Str) :: [])) hc9 hq57 (rfl)
    have k_g4 := a57.lst _ _ (by simp) k_g4
    have tbx := tbx.ext a57
    have hSx := a57.sqL (by simp) hSx
    have PW := Paired.mapP PW fun _ _ z => IsP.ext a57 z
    clear hq57 a57
    refine ⟨by show 2 ≤ sizeLine; decide, fun d9 hd9 => ?_⟩
    generalize hq58 : upd HA57 d9 _ = HA58
    obtain ⟨a58, k_d9⟩ := al_tup (K := K) (X := [.ref c9, .str ("read" : Str)]) hd9 hq58
    have k_g4 := a58.lst _ _ (by simp) k_g4
    have k_c9 := a58.lst _ _ (by simp) k_c9
    have tbx := tbx.ext a58
    have hSx := a58.sqL (by simp) hSx
    have PW := Paired.mapP PW fun _ _ z => IsP.ext a58 z
    clear hq58 a58
    have PW := papp2 PW (.cons (show IsP K HA58 (.ref d9) ((("stretch 1 1 5" : Str) :: ("plan" : Str) :: []), ("read" : Str)) from ⟨d9, c9, rfl, k_d9, k_c9⟩) .nil)
    refine ⟨_, rfl, _, rfl, by show 3 ≤ sizeLine; decide, fun c10 hc10 => ?_⟩
    generalize hq59 : upd HA58 c10 _ = HA59
    obtain ⟨a59, k_c10⟩ := al_lst (Y := strsV (("stretch 1 1 5" : Str) :: ("barge 0 1 5 5 9" : Str) :: ("plan -" : Str) :: [])) hc10 hq59 (rfl)
    have k_g4 := a59.lst _ _ (by simp) k_g4
    have tbx := tbx.ext a59
    have hSx := a59.sqL (by simp) hSx
    have PW := Paired.mapP PW fun _ _ z => IsP.ext a59 z
    clear hq59 a59
    refine ⟨by show 2 ≤ sizeLine; decide, fun d10 hd10 => ?_⟩
    generalize hq60 : upd HA59 d10 _ = HA60
    obtain ⟨a60, k_d10⟩ := al_tup (K := K) (X := [.ref c10, .str ("read" : Str)]) hd10 hq60
    have k_g4 := a60.lst _ _ (by simp) k_g4
    have k_c10 := a60.lst _ _ (by simp) k_c10
    have tbx := tbx.ext a60
    have hSx := a60.sqL (by simp) hSx
    have PW := Paired.mapP PW fun _ _ z => IsP.ext a60 z
    clear hq60 a60
    have PW := papp2 PW (.cons (show IsP K HA60 (.ref d10) ((("stretch 1 1 5" : Str) :: ("barge 0 1 5 5 9" : Str) :: ("plan -" : Str) :: []), ("read" : Str)) from ⟨d10, c10, rfl, k_d10, k_c10⟩) .nil)
    refine ⟨by show 2 ≤ sizeLine; decide, fun g5l hg5l => ?_⟩
    generalize hq61 : upd HA60 g5l _ = HA61
    obtain ⟨a61, k_g5l⟩ := al_lst (Y := [.ref d9, .ref d10]) hg5l hq61 (rfl)
    have k_g4 := a61.lst _ _ (by simp) k_g4
    have tbx := tbx.ext a61
    have hSx := a61.sqL (by simp) hSx
    have PW := Paired.mapP PW fun _ _ z => IsP.ext a61 z
    clear hq61 a61
    refine ⟨g4, g5l, _, _, rfl, rfl, k_g4, k_g5l, Nat.le_of_lt (small1000 (by simp)), fun g5 hg5 => ?_⟩
    generalize hq62 : upd HA61 g5 _ = HA62
    obtain ⟨a62, k_g5⟩ := al_lst (Y := [.ref d1, .ref d2, .ref d3, .ref d4, .ref d5, .ref d6, .ref d7, .ref d8, .ref d9, .ref d10]) hg5 hq62 (rfl)
    have k_g4 := a62.lst _ _ (by simp) k_g4
    have k_g5l := a62.lst _ _ (by simp) k_g5l
    have tbx := tbx.ext a62
    have hSx := a62.sqL (by simp) hSx
    have PW := Paired.mapP PW fun _ _ z => IsP.ext a62 z
    clear hq62 a62
    have PW : Paired (IsP K HA62) [.ref d1, .ref d2, .ref d3, .ref d4, .ref d5, .ref d6, .ref d7, .ref d8, .ref d9, .ref d10] casesW := PW
    refine ⟨_, rfl, _, rfl, a, ns, 6, rfl, hSx, fun c6 => ⟨_, rfl, g5, _, rfl, .inl (.inl (.inl k_g5)), _, _, rfl, rfl, (by show (10 : Int) ≠ 0; decide), ?_⟩⟩
    have z0 : 0 ≤ c6.fmod 10 := Int.fmod_nonneg_of_pos _ (by decide)
    have z1 : c6.fmod 10 < 10 := Int.fmod_lt_of_pos _ (by decide)
    obtain ⟨m, hm⟩ : ∃ m : Nat, c6.fmod 10 = (m : Int) := ⟨(c6.fmod 10).toNat, by omega⟩
    obtain ⟨cc, hcc⟩ : ∃ c, casesW[m]? = some c := ⟨_, List.getElem?_eq_getElem (by show m < 10; omega)⟩
    obtain ⟨vv, hvv, t, l, rfl, ht, hl⟩ := pgetR PW hcc
    have good := List.all_eq_true.mp casesW_ok cc (List.mem_of_getElem? hcc)
    rw [Bool.and_eq_true, Bool.and_eq_true, Bool.and_eq_true, decide_eq_true_eq, decide_eq_true_eq, decide_eq_true_eq] at good
    obtain ⟨⟨⟨g1, g2⟩, g3⟩, g4⟩ := good
    refine .inl ⟨g5, _, c6.fmod 10, .ref t, rfl, rfl, .inl (.inl k_g5), by rw [hm]; exact atI_nat hvv, ?_⟩
    refine ⟨t, _, rfl, ht, rfl, _, _, rfl, _, _, rfl, rfl, ?_⟩
    refine ⟨_, rfl, l, cc.1, rowsOf cc.1, rfl, .inl (.inl hl), linesW_of (paired_rows g1) g2 g3, tbx, fun H' e' => ⟨_, rfl, rfl, ?_⟩⟩
    rw [decide_eq_true (congrArg V.str g4)]
    exact q _

end
/-! ### the head -/
def dd_is_number : He.DefD := ⟨("is_number", none), "is_number", "is_number", defArgs s_is_number, defBody s_is_number, defScope s_is_number, [], []⟩
def dd_is_row : He.DefD := ⟨("is_row", none), "is_row", "is_row", defArgs s_is_row, defBody s_is_row, defScope s_is_row, [], []⟩
def dd_is_stretch : He.DefD := ⟨("is_stretch", none), "is_stretch", "is_stretch", defArgs s_is_stretch, defBody s_is_stretch, defScope s_is_stretch, [], []⟩
def dd_is_ready : He.DefD := ⟨("is_ready", none), "is_ready", "is_ready", defArgs s_is_ready, defBody s_is_ready, defScope s_is_ready, [], []⟩
def dd_is_barge : He.DefD := ⟨("is_barge", none), "is_barge", "is_barge", defArgs s_is_barge, defBody s_is_barge, defScope s_is_barge, [], []⟩
def dd_check_book : He.DefD := ⟨("check_book", none), "check_book", "check_book", defArgs s_check_book, defBody s_check_book, defScope s_check_book, [], []⟩
def dd_check_plan : He.DefD := ⟨("check_plan", none), "check_plan", "check_plan", defArgs s_check_plan, defBody s_check_plan, defScope s_check_plan, [], []⟩
def dd_number_of : He.DefD := ⟨("number_of", none), "number_of", "number_of", defArgs s_number_of, defBody s_number_of, defScope s_number_of, [], []⟩
def dd_stretch_of : He.DefD := ⟨("stretch_of", none), "stretch_of", "stretch_of", defArgs s_stretch_of, defBody s_stretch_of, defScope s_stretch_of, [], []⟩
def dd_barge_of : He.DefD := ⟨("barge_of", none), "barge_of", "barge_of", defArgs s_barge_of, defBody s_barge_of, defScope s_barge_of, [], []⟩
def dd_hour_of : He.DefD := ⟨("hour_of", none), "hour_of", "hour_of", defArgs s_hour_of, defBody s_hour_of, defScope s_hour_of, [], []⟩
def dd_read : He.DefD := ⟨("read", none), "read", "read", defArgs s_read, defBody s_read, defScope s_read, [], []⟩
def dd__law_cell_at : He.DefD := ⟨("_law_cell_at", none), "_law_cell_at", "_law_cell_at", defArgs s__law_cell_at, defBody s__law_cell_at, defScope s__law_cell_at, [], []⟩
def dd__law_dice : He.DefD := ⟨("_law_dice", none), "_law_dice", "_law_dice", defArgs s__law_dice, defBody s__law_dice, defScope s__law_dice, [], []⟩
def dd__law_roll : He.DefD := ⟨("_law_roll", none), "_law_roll", "_law_roll", defArgs s__law_roll, defBody s__law_roll, defScope s__law_roll, [], []⟩
def dd__law_river : He.DefD := ⟨("_law_river", none), "_law_river", "_law_river", defArgs s__law_river, defBody s__law_river, defScope s__law_river, [], []⟩
def dd__law_time : He.DefD := ⟨("_law_time", none), "_law_time", "_law_time", defArgs s__law_time, defBody s__law_time, defScope s__law_time, [], []⟩
def dd__law_barges : He.DefD := ⟨("_law_barges", none), "_law_barges", "_law_barges", defArgs s__law_barges, defBody s__law_barges, defScope s__law_barges, [], []⟩
def dd__law_book : He.DefD := ⟨("_law_book", none), "_law_book", "_law_book", defArgs s__law_book, defBody s__law_book, defScope s__law_book, [], []⟩
def dd__law_plan : He.DefD := ⟨("_law_plan", none), "_law_plan", "_law_plan", defArgs s__law_plan, defBody s__law_plan, defScope s__law_plan, [], []⟩
def dd__law_text : He.DefD := ⟨("_law_text", none), "_law_text", "_law_text", defArgs s__law_text, defBody s__law_text, defScope s__law_text, [], []⟩
def dd__law_bad_row : He.DefD := ⟨("_law_bad_row", none), "_law_bad_row", "_law_bad_row", defArgs s__law_bad_row, defBody s__law_bad_row, defScope s__law_bad_row, [], []⟩
def dd__law_word : He.DefD := ⟨("_law_word", none), "_law_word", "_law_word", defArgs s__law_word, defBody s__law_word, defScope s__law_word, [], []⟩
def dd_law : He.DefD := ⟨("law", none), "law", "law", defArgs s_law, defBody s_law, defScope s_law, [], []⟩
def hfn : List He.DefD := dd_is_number :: dd_is_row :: dd_is_stretch :: dd_is_ready :: dd_is_barge :: dd_check_book :: dd_check_plan :: dd_number_of :: dd_stretch_of :: dd_barge_of :: dd_hour_of :: dd_read :: dd__law_cell_at :: dd__law_dice :: dd__law_roll :: dd__law_river :: dd__law_time :: dd__law_barges :: dd__law_book :: dd__law_plan :: dd__law_text :: dd__law_bad_row :: dd__law_word :: dd_law :: []
def hfa : List He.Fa := (.glo "is_number" : He.Fa) :: (.glo "is_row" : He.Fa) :: (.glo "is_stretch" : He.Fa) :: (.glo "is_ready" : He.Fa) :: (.glo "is_barge" : He.Fa) :: (.glo "check_book" : He.Fa) :: (.glo "check_plan" : He.Fa) :: (.glo "number_of" : He.Fa) :: (.glo "stretch_of" : He.Fa) :: (.glo "barge_of" : He.Fa) :: (.glo "hour_of" : He.Fa) :: (.glo "read" : He.Fa) :: (.glo "_law_cell_at" : He.Fa) :: (.glo "_law_dice" : He.Fa) :: (.glo "_law_roll" : He.Fa) :: (.glo "_law_river" : He.Fa) :: (.glo "_law_time" : He.Fa) :: (.glo "_law_barges" : He.Fa) :: (.glo "_law_book" : He.Fa) :: (.glo "_law_plan" : He.Fa) :: (.glo "_law_text" : He.Fa) :: (.glo "_law_bad_row" : He.Fa) :: (.glo "_law_word" : He.Fa) :: (.glo "law" : He.Fa) :: (.free "ValueError" : He.Fa) :: (.free "all" : He.Fa) :: (.free "bool" : He.Fa) :: (.free "int" : He.Fa) :: (.free "isinstance" : He.Fa) :: (.free "len" : He.Fa) :: (.free "max" : He.Fa) :: (.free "range" : He.Fa) :: (.free "str" : He.Fa) :: (.free "sum" : He.Fa) :: (.free "tuple" : He.Fa) :: (.int "HOURS" 12 : He.Fa) :: (.str "FIGURES" "0123456789" : He.Fa) :: (.glo "TowError" : He.Fa) :: (.glo "BadBook" : He.Fa) :: (.glo "BadPlan" : He.Fa) :: (.glo "NoPlan" : He.Fa) :: (.glo "Gone" : He.Fa) :: (.glo "BadText" : He.Fa) :: (.exm "BadBook" "TowError" true : He.Fa) :: (.exm "BadPlan" "TowError" true : He.Fa) :: (.exm "NoPlan" "TowError" true : He.Fa) :: (.exm "Gone" "TowError" true : He.Fa) :: (.exm "BadText" "TowError" true : He.Fa) :: (.exc "BadBook" : He.Fa) :: (.exc "BadPlan" : He.Fa) :: (.exc "Gone" : He.Fa) :: (.exc "BadText" : He.Fa) :: []
def htf : List He.Defn := (("is_stretch", none) : He.Defn) :: (("check_book", none) : He.Defn) :: (("check_plan", none) : He.Defn) :: (("number_of", none) : He.Defn) :: []
def hgf : List He.Defn := (("is_stretch", none) : He.Defn) :: (("check_book", none) : He.Defn) :: (("check_plan", none) : He.Defn) :: (("number_of", none) : He.Defn) :: []
def hlf : List He.Defn := []
abbrev RR : PySem.W.OpenRow := PySem.W.OpenLaw.row PySem.Challenge.rw_towbarges_k18_texts_refused
def hex : PySem.W.Frag → Bool := (GXC.exAll (("BadBook" : PySem.Str) :: ("BadPlan" : PySem.Str) :: ("NoPlan" : PySem.Str) :: ("Gone" : PySem.Str) :: ("BadText" : PySem.Str) :: []))
abbrev hk : PySem.W.Hook := He.hookX 4 hfa hfn [] htf hex
def hob (s : PySem.W.SharedT) : He.AlX := He.obsX 4 hfa hfn [] htf hex (HandSHeadRun.getT s)
theorem hob_eq (s : PySem.W.SharedT) : hob s = hk.obs s.abs := He.obsX_eq (HandSHeadRun.getT_eq s)
def hloose : List PySem.Str := ("is_number" : PySem.Str) :: ("is_row" : PySem.Str) :: ("is_stretch" : PySem.Str) :: ("is_ready" : PySem.Str) :: ("is_barge" : PySem.Str) :: ("check_book" : PySem.Str) :: ("check_plan" : PySem.Str) :: ("number_of" : PySem.Str) :: ("stretch_of" : PySem.Str) :: ("barge_of" : PySem.Str) :: ("hour_of" : PySem.Str) :: ("read" : PySem.Str) :: ("_law_cell_at" : PySem.Str) :: ("_law_dice" : PySem.Str) :: ("_law_roll" : PySem.Str) :: ("_law_river" : PySem.Str) :: ("_law_time" : PySem.Str) :: ("_law_barges" : PySem.Str) :: ("_law_book" : PySem.Str) :: ("_law_plan" : PySem.Str) :: ("_law_text" : PySem.Str) :: ("_law_bad_row" : PySem.Str) :: ("_law_word" : PySem.Str) :: ("TowError" : PySem.Str) :: ("BadBook" : PySem.Str) :: ("BadPlan" : PySem.Str) :: ("NoPlan" : PySem.Str) :: ("Gone" : PySem.Str) :: ("BadText" : PySem.Str) :: ("HOURS" : PySem.Str) :: ("FIGURES" : PySem.Str) :: []
set_option maxHeartbeats 0 in
theorem hrun (w : World) : HandSHeadRun.RunEq RR (PySem.W.view RR.prog [35]) hk hob 6000 hloose w := by
  intro os
  kernel_rfl
theorem code_of {K : PySem.W.Frag} {x q : Str} {pa : Arguments} {bd : List Stmt} {sc : Scope} {p : He.Defn} {fd : FuncData} (F : FunD K x q pa bd sc [] [] (He.fAd K p) fd) : fd.code = .ref (He.cT K p).1 := by
  obtain ⟨oc, od, dV, kV, doc, pm, an, cdv, ct, osl, rfl, lk, hcd, _, _⟩ := F.ex
  obtain ⟨c, rfl⟩ := He.codeIn_ref hcd
  show Value.ref c = .ref (He.codeOf K p)
  rw [He.codeOf_eq lk rfl]
theorem hfacts {w : World} {K : PySem.W.Frag} {h : Heap} {mg : Str → Option Value} (X : K.In h) (G : h.Ns mainGlobals mg) (c : He.SaysX hfa hfn [] htf hex w h K) :
    ∃ A : Ad, A.a_law = He.ga K "law" ∧ (A.k_is_stretch = He.cT K ("is_stretch", none) ∧ A.k_check_book = He.cT K ("check_book", none) ∧ A.k_check_plan = He.cT K ("check_plan", none) ∧ A.k_number_of = He.cT K ("number_of", none)) ∧ (∀ (s : Shared) (v : Value), BindsTo s A.d_law ⟨[v], []⟩ [("_law_script", v)]) ∧ ∀ base : Heap, GxR.TabB base mg (He.cT K ("is_stretch", none)).1 (He.cT K ("is_stretch", none)).2 → GxR.TabB base mg (He.cT K ("check_book", none)).1 (He.cT K ("check_book", none)).2 → GxR.TabB base mg (He.cT K ("check_plan", none)).1 (He.cT K ("check_plan", none)).2 → GxR.TabB base mg (He.cT K ("number_of", none)).1 (He.cT K ("number_of", none)).2 → Facts A K mg base := by
  have cd : He.SaysD hfa hfn K := congrArg (fun z : He.AlT => z.1) c.t
  have cme : (GXC.exAll (("BadBook" : PySem.Str) :: ("BadPlan" : PySem.Str) :: ("NoPlan" : PySem.Str) :: ("Gone" : PySem.Str) :: ("BadText" : PySem.Str) :: [])) K = true := c.more
  obtain ⟨fd_is_number, F_is_number⟩ := cd.defs (d := dd_is_number) (by unfold hfn; simp)
  obtain ⟨fd_is_row, F_is_row⟩ := cd.defs (d := dd_is_row) (by unfold hfn; simp)
  obtain ⟨fd_is_stretch, F_is_stretch⟩ := cd.defs (d := dd_is_stretch) (by unfold hfn; simp)
  obtain ⟨fd_is_ready, F_is_ready⟩ := cd.defs (d := dd_is_ready) (by unfold hfn; simp)
  obtain ⟨fd_is_barge, F_is_barge⟩ := cd.defs (d := dd_is_barge) (by unfold hfn; simp)
  obtain ⟨fd_check_book, F_check_book⟩ := cd.defs (d := dd_check_book) (by unfold hfn; simp)
  obtain ⟨fd_check_plan, F_check_plan⟩ := cd.defs (d := dd_check_plan) (by unfold hfn; simp)
  obtain ⟨fd_number_of, F_number_of⟩ := cd.defs (d := dd_number_of) (by unfold hfn; simp)
  obtain ⟨fd_stretch_of, F_stretch_of⟩ := cd.defs (d := dd_stretch_of) (by unfold hfn; simp)
  obtain ⟨fd_barge_of, F_barge_of⟩ := cd.defs (d := dd_barge_of) (by unfold hfn; simp)
  obtain ⟨fd_hour_of, F_hour_of⟩ := cd.defs (d := dd_hour_of) (by unfold hfn; simp)
  obtain ⟨fd_read, F_read⟩ := cd.defs (d := dd_read) (by unfold hfn; simp)
  obtain ⟨fd__law_cell_at, F__law_cell_at⟩ := cd.defs (d := dd__law_cell_at) (by unfold hfn; simp)
  obtain ⟨fd__law_dice, F__law_dice⟩ := cd.defs (d := dd__law_dice) (by unfold hfn; simp)
  obtain ⟨fd__law_roll, F__law_roll⟩ := cd.defs (d := dd__law_roll) (by unfold hfn; simp)
  obtain ⟨fd__law_river, F__law_river⟩ := cd.defs (d := dd__law_river) (by unfold hfn; simp)
  obtain ⟨fd__law_time, F__law_time⟩ := cd.defs (d := dd__law_time) (by unfold hfn; simp)
  obtain ⟨fd__law_barges, F__law_barges⟩ := cd.defs (d := dd__law_barges) (by unfold hfn; simp)
  obtain ⟨fd__law_book, F__law_book⟩ := cd.defs (d := dd__law_book) (by unfold hfn; simp)
  obtain ⟨fd__law_plan, F__law_plan⟩ := cd.defs (d := dd__law_plan) (by unfold hfn; simp)
  obtain ⟨fd__law_text, F__law_text⟩ := cd.defs (d := dd__law_text) (by unfold hfn; simp)
  obtain ⟨fd__law_bad_row, F__law_bad_row⟩ := cd.defs (d := dd__law_bad_row) (by unfold hfn; simp)
  obtain ⟨fd__law_word, F__law_word⟩ := cd.defs (d := dd__law_word) (by unfold hfn; simp)
  obtain ⟨fd_law, F_law⟩ := cd.defs (d := dd_law) (by unfold hfn; simp)
  refine ⟨⟨He.ga K "is_number", fd_is_number, He.ga K "is_row", fd_is_row, He.ga K "is_stretch", fd_is_stretch, He.cT K ("is_stretch", none), He.ga K "is_ready", fd_is_ready, He.ga K "is_barge", fd_is_barge, He.ga K "check_book", fd_check_book, He.cT K ("check_book", none), He.ga K "check_plan", fd_check_plan, He.cT K ("check_plan", none), He.ga K "number_of", fd_number_of, He.cT K ("number_of", none), He.ga K "stretch_of", fd_stretch_of, He.ga K "barge_of", fd_barge_of, He.ga K "hour_of", fd_hour_of, He.ga K "read", fd_read, He.ga K "_law_cell_at", fd__law_cell_at, He.ga K "_law_dice", fd__law_dice, He.ga K "_law_roll", fd__law_roll, He.ga K "_law_river", fd__law_river, He.ga K "_law_time", fd__law_time, He.ga K "_law_barges", fd__law_barges, He.ga K "_law_book", fd__law_book, He.ga K "_law_plan", fd__law_plan, He.ga K "_law_text", fd__law_text, He.ga K "_law_bad_row", fd__law_bad_row, He.ga K "_law_word", fd__law_word, He.ga K "law", fd_law, He.ga K "TowError", He.ga K "BadBook", He.ga K "BadPlan", He.ga K "NoPlan", He.ga K "Gone", He.ga K "BadText"⟩, rfl, ⟨rfl, rfl, rfl, rfl⟩, fun s v => FunD.bindsA (ps := ["_law_script"]) F_law (fun _ _ _ _ _ _ us hl => match us, hl with | [_], _ => rfl) s [v] rfl, fun base t_is_stretch t_check_book t_check_plan t_number_of => ?_⟩
  exact {
    F_is_number := F_is_number
    g_is_number := He.glo_ok X G (cd.facts (f := .glo "is_number") (by unfold hfa; simp))
    b_is_number := F_is_number.bindsN fun _ _ _ _ _ _ us hl => match us, hl with | [_, _, _], _ => rfl
    F_is_row := F_is_row
    g_is_row := He.glo_ok X G (cd.facts (f := .glo "is_row") (by unfold hfa; simp))
    b_is_row := F_is_row.bindsN fun _ _ _ _ _ _ us hl => match us, hl with | [_, _, _], _ => rfl
    F_is_stretch := F_is_stretch
    g_is_stretch := He.glo_ok X G (cd.facts (f := .glo "is_stretch") (by unfold hfa; simp))
    b_is_stretch := F_is_stretch.bindsN fun _ _ _ _ _ _ us hl => match us, hl with | [_], _ => rfl
    h_is_stretch := code_of (p := ("is_stretch", none)) F_is_stretch
    t_is_stretch := t_is_stretch
    F_is_ready := F_is_ready
    g_is_ready := He.glo_ok X G (cd.facts (f := .glo "is_ready") (by unfold hfa; simp))
    b_is_ready := F_is_ready.bindsN fun _ _ _ _ _ _ us hl => match us, hl with | [_], _ => rfl
    F_is_barge := F_is_barge
    g_is_barge := He.glo_ok X G (cd.facts (f := .glo "is_barge") (by unfold hfa; simp))
    b_is_barge := F_is_barge.bindsN fun _ _ _ _ _ _ us hl => match us, hl with | [_, _], _ => rfl
    F_check_book := F_check_book
    g_check_book := He.glo_ok X G (cd.facts (f := .glo "check_book") (by unfold hfa; simp))
    b_check_book := F_check_book.bindsN fun _ _ _ _ _ _ us hl => match us, hl with | [_], _ => rfl
    h_check_book := code_of (p := ("check_book", none)) F_check_book
    t_check_book := t_check_book
    F_check_plan := F_check_plan
    g_check_plan := He.glo_ok X G (cd.facts (f := .glo "check_plan") (by unfold hfa; simp))
    b_check_plan := F_check_plan.bindsN fun _ _ _ _ _ _ us hl => match us, hl with | [_, _], _ => rfl
    h_check_plan := code_of (p := ("check_plan", none)) F_check_plan
    t_check_plan := t_check_plan
    F_number_of := F_number_of
    g_number_of := He.glo_ok X G (cd.facts (f := .glo "number_of") (by unfold hfa; simp))
    b_number_of := F_number_of.bindsN fun _ _ _ _ _ _ us hl => match us, hl with | [_], _ => rfl
    h_number_of := code_of (p := ("number_of", none)) F_number_of
    t_number_of := t_number_of
    F_stretch_of := F_stretch_of
    g_stretch_of := He.glo_ok X G (cd.facts (f := .glo "stretch_of") (by unfold hfa; simp))
    b_stretch_of := F_stretch_of.bindsN fun _ _ _ _ _ _ us hl => match us, hl with | [_], _ => rfl
    F_barge_of := F_barge_of
    g_barge_of := He.glo_ok X G (cd.facts (f := .glo "barge_of") (by unfold hfa; simp))
    b_barge_of := F_barge_of.bindsN fun _ _ _ _ _ _ us hl => match us, hl with | [_], _ => rfl
    F_hour_of := F_hour_of
    g_hour_of := He.glo_ok X G (cd.facts (f := .glo "hour_of") (by unfold hfa; simp))
    b_hour_of := F_hour_of.bindsN fun _ _ _ _ _ _ us hl => match us, hl with | [_], _ => rfl
    F_read := F_read
    g_read := He.glo_ok X G (cd.facts (f := .glo "read") (by unfold hfa; simp))
    b_read := F_read.bindsN fun _ _ _ _ _ _ us hl => match us, hl with | [_], _ => rfl
    F__law_cell_at := F__law_cell_at
    g__law_cell_at := He.glo_ok X G (cd.facts (f := .glo "_law_cell_at") (by unfold hfa; simp))
    b__law_cell_at := F__law_cell_at.bindsN fun _ _ _ _ _ _ us hl => match us, hl with | [_, _], _ => rfl
    F__law_dice := F__law_dice
    g__law_dice := He.glo_ok X G (cd.facts (f := .glo "_law_dice") (by unfold hfa; simp))
    b__law_dice := F__law_dice.bindsN fun _ _ _ _ _ _ us hl => match us, hl with | [_], _ => rfl
    F__law_roll := F__law_roll
    g__law_roll := He.glo_ok X G (cd.facts (f := .glo "_law_roll") (by unfold hfa; simp))
    b__law_roll := F__law_roll.bindsN fun _ _ _ _ _ _ us hl => match us, hl with | [_, _], _ => rfl
    F__law_river := F__law_river
    g__law_river := He.glo_ok X G (cd.facts (f := .glo "_law_river") (by unfold hfa; simp))
    b__law_river := F__law_river.bindsN fun _ _ _ _ _ _ us hl => match us, hl with | [_, _], _ => rfl
    F__law_time := F__law_time
    g__law_time := He.glo_ok X G (cd.facts (f := .glo "_law_time") (by unfold hfa; simp))
    b__law_time := F__law_time.bindsN fun _ _ _ _ _ _ us hl => match us, hl with | [_, _, _], _ => rfl
    F__law_barges := F__law_barges
    g__law_barges := He.glo_ok X G (cd.facts (f := .glo "_law_barges") (by unfold hfa; simp))
    b__law_barges := F__law_barges.bindsN fun _ _ _ _ _ _ us hl => match us, hl with | [_, _, _], _ => rfl
    F__law_book := F__law_book
    g__law_book := He.glo_ok X G (cd.facts (f := .glo "_law_book") (by unfold hfa; simp))
    b__law_book := F__law_book.bindsN fun _ _ _ _ _ _ us hl => match us, hl with | [_, _], _ => rfl
    F__law_plan := F__law_plan
    g__law_plan := He.glo_ok X G (cd.facts (f := .glo "_law_plan") (by unfold hfa; simp))
    b__law_plan := F__law_plan.bindsN fun _ _ _ _ _ _ us hl => match us, hl with | [_, _], _ => rfl
    F__law_text := F__law_text
    g__law_text := He.glo_ok X G (cd.facts (f := .glo "_law_text") (by unfold hfa; simp))
    b__law_text := F__law_text.bindsN fun _ _ _ _ _ _ us hl => match us, hl with | [_, _], _ => rfl
    F__law_bad_row := F__law_bad_row
    g__law_bad_row := He.glo_ok X G (cd.facts (f := .glo "_law_bad_row") (by unfold hfa; simp))
    b__law_bad_row := F__law_bad_row.bindsN fun _ _ _ _ _ _ us hl => match us, hl with | [_], _ => rfl
    F__law_word := F__law_word
    g__law_word := He.glo_ok X G (cd.facts (f := .glo "_law_word") (by unfold hfa; simp))
    b__law_word := F__law_word.bindsN fun _ _ _ _ _ _ us hl => match us, hl with | [_], _ => rfl
    F_law := F_law
    g_TowError := He.glo_ok X G (cd.facts (f := .glo "TowError") (by unfold hfa; simp))
    g_BadBook := He.glo_ok X G (cd.facts (f := .glo "BadBook") (by unfold hfa; simp))
    e_BadBook := He.exm_ok (cd.facts (f := .exm "BadBook" "TowError" true) (by unfold hfa; simp))
    cc_BadBook := (GXC.exAll_c cme (c := "BadBook") (by simp)).1
    kv_BadBook := (GXC.exAll_c cme (c := "BadBook") (by simp)).2
    k_BadBook_BadBook := (GXC.exAll_k cme (c := "BadBook") (d := "BadBook") (by simp) (by simp)).trans (by decide +kernel)
    k_BadBook_BadPlan := (GXC.exAll_k cme (c := "BadBook") (d := "BadPlan") (by simp) (by simp)).trans (by decide +kernel)
    k_BadBook_NoPlan := (GXC.exAll_k cme (c := "BadBook") (d := "NoPlan") (by simp) (by simp)).trans (by decide +kernel)
    k_BadBook_Gone := (GXC.exAll_k cme (c := "BadBook") (d := "Gone") (by simp) (by simp)).trans (by decide +kernel)
    k_BadBook_BadText := (GXC.exAll_k cme (c := "BadBook") (d := "BadText") (by simp) (by simp)).trans (by decide +kernel)
    x_BadBook := (He.exc_ok (cd.facts (f := .exc "BadBook") (by unfold hfa; simp))).1
    kp_BadBook := (He.exc_ok (cd.facts (f := .exc "BadBook") (by unfold hfa; simp))).2.1
    sb_BadBook := (He.exc_ok (cd.facts (f := .exc "BadBook") (by unfold hfa; simp))).2.2.1
    tp_BadBook := (He.exc_ok (cd.facts (f := .exc "BadBook") (by unfold hfa; simp))).2.2.2
    g_BadPlan := He.glo_ok X G (cd.facts (f := .glo "BadPlan") (by unfold hfa; simp))
    e_BadPlan := He.exm_ok (cd.facts (f := .exm "BadPlan" "TowError" true) (by unfold hfa; simp))
    cc_BadPlan := (GXC.exAll_c cme (c := "BadPlan") (by simp)).1
    kv_BadPlan := (GXC.exAll_c cme (c := "BadPlan") (by simp)).2
    k_BadPlan_BadBook := (GXC.exAll_k cme (c := "BadPlan") (d := "BadBook") (by simp) (by simp)).trans (by decide +kernel)
    k_BadPlan_BadPlan := (GXC.exAll_k cme (c := "BadPlan") (d := "BadPlan") (by simp) (by simp)).trans (by decide +kernel)
    k_BadPlan_NoPlan := (GXC.exAll_k cme (c := "BadPlan") (d := "NoPlan") (by simp) (by simp)).trans (by decide +kernel)
    k_BadPlan_Gone := (GXC.exAll_k cme (c := "BadPlan") (d := "Gone") (by simp) (by simp)).trans (by decide +kernel)
    k_BadPlan_BadText := (GXC.exAll_k cme (c := "BadPlan") (d := "BadText") (by simp) (by simp)).trans (by decide +kernel)
    x_BadPlan := (He.exc_ok (cd.facts (f := .exc "BadPlan") (by unfold hfa; simp))).1
    kp_BadPlan := (He.exc_ok (cd.facts (f := .exc "BadPlan") (by unfold hfa; simp))).2.1
    sb_BadPlan := (He.exc_ok (cd.facts (f := .exc "BadPlan") (by unfold hfa; simp))).2.2.1
    tp_BadPlan := (He.exc_ok (cd.facts (f := .exc "BadPlan") (by unfold hfa; simp))).2.2.2
    g_NoPlan := He.glo_ok X G (cd.facts (f := .glo "NoPlan") (by unfold hfa; simp))
    e_NoPlan := He.exm_ok (cd.facts (f := .exm "NoPlan" "TowError" true) (by unfold hfa; simp))
    cc_NoPlan := (GXC.exAll_c cme (c := "NoPlan") (by simp)).1
    kv_NoPlan := (GXC.exAll_c cme (c := "NoPlan") (by simp)).2
    k_NoPlan_BadBook := (GXC.exAll_k cme (c := "NoPlan") (d := "BadBook") (by simp) (by simp)).trans (by decide +kernel)
    k_NoPlan_BadPlan := (GXC.exAll_k cme (c := "NoPlan") (d := "BadPlan") (by simp) (by simp)).trans (by decide +kernel)
    k_NoPlan_NoPlan := (GXC.exAll_k cme (c := "NoPlan") (d := "NoPlan") (by simp) (by simp)).trans (by decide +kernel)
    k_NoPlan_Gone := (GXC.exAll_k cme (c := "NoPlan") (d := "Gone") (by simp) (by simp)).trans (by decide +kernel)
    k_NoPlan_BadText := (GXC.exAll_k cme (c := "NoPlan") (d := "BadText") (by simp) (by simp)).trans (by decide +kernel)
    g_Gone := He.glo_ok X G (cd.facts (f := .glo "Gone") (by unfold hfa; simp))
    e_Gone := He.exm_ok (cd.facts (f := .exm "Gone" "TowError" true) (by unfold hfa; simp))
    cc_Gone := (GXC.exAll_c cme (c := "Gone") (by simp)).1
    kv_Gone := (GXC.exAll_c cme (c := "Gone") (by simp)).2
    k_Gone_BadBook := (GXC.exAll_k cme (c := "Gone") (d := "BadBook") (by simp) (by simp)).trans (by decide +kernel)
    k_Gone_BadPlan := (GXC.exAll_k cme (c := "Gone") (d := "BadPlan") (by simp) (by simp)).trans (by decide +kernel)
    k_Gone_NoPlan := (GXC.exAll_k cme (c := "Gone") (d := "NoPlan") (by simp) (by simp)).trans (by decide +kernel)
    k_Gone_Gone := (GXC.exAll_k cme (c := "Gone") (d := "Gone") (by simp) (by simp)).trans (by decide +kernel)
    k_Gone_BadText := (GXC.exAll_k cme (c := "Gone") (d := "BadText") (by simp) (by simp)).trans (by decide +kernel)
    x_Gone := (He.exc_ok (cd.facts (f := .exc "Gone") (by unfold hfa; simp))).1
    kp_Gone := (He.exc_ok (cd.facts (f := .exc "Gone") (by unfold hfa; simp))).2.1
    sb_Gone := (He.exc_ok (cd.facts (f := .exc "Gone") (by unfold hfa; simp))).2.2.1
    tp_Gone := (He.exc_ok (cd.facts (f := .exc "Gone") (by unfold hfa; simp))).2.2.2
    g_BadText := He.glo_ok X G (cd.facts (f := .glo "BadText") (by unfold hfa; simp))
    e_BadText := He.exm_ok (cd.facts (f := .exm "BadText" "TowError" true) (by unfold hfa; simp))
    cc_BadText := (GXC.exAll_c cme (c := "BadText") (by simp)).1
    kv_BadText := (GXC.exAll_c cme (c := "BadText") (by simp)).2
    k_BadText_BadBook := (GXC.exAll_k cme (c := "BadText") (d := "BadBook") (by simp) (by simp)).trans (by decide +kernel)
    k_BadText_BadPlan := (GXC.exAll_k cme (c := "BadText") (d := "BadPlan") (by simp) (by simp)).trans (by decide +kernel)
    k_BadText_NoPlan := (GXC.exAll_k cme (c := "BadText") (d := "NoPlan") (by simp) (by simp)).trans (by decide +kernel)
    k_BadText_Gone := (GXC.exAll_k cme (c := "BadText") (d := "Gone") (by simp) (by simp)).trans (by decide +kernel)
    k_BadText_BadText := (GXC.exAll_k cme (c := "BadText") (d := "BadText") (by simp) (by simp)).trans (by decide +kernel)
    x_BadText := (He.exc_ok (cd.facts (f := .exc "BadText") (by unfold hfa; simp))).1
    kp_BadText := (He.exc_ok (cd.facts (f := .exc "BadText") (by unfold hfa; simp))).2.1
    sb_BadText := (He.exc_ok (cd.facts (f := .exc "BadText") (by unfold hfa; simp))).2.2.1
    tp_BadText := (He.exc_ok (cd.facts (f := .exc "BadText") (by unfold hfa; simp))).2.2.2
    c_HOURS := He.int_ok X G (cd.facts (f := .int "HOURS" 12) (by unfold hfa; simp))
    c_FIGURES := He.str_ok X G (cd.facts (f := .str "FIGURES" "0123456789") (by unfold hfa; simp))
    n_ValueError := He.free_ok X G (cd.facts (f := .free "ValueError") (by unfold hfa; simp))
    n_all := He.free_ok X G (cd.facts (f := .free "all") (by unfold hfa; simp))
    n_bool := He.free_ok X G (cd.facts (f := .free "bool") (by unfold hfa; simp))
    n_int := He.free_ok X G (cd.facts (f := .free "int") (by unfold hfa; simp))
    n_isinstance := He.free_ok X G (cd.facts (f := .free "isinstance") (by unfold hfa; simp))
    n_len := He.free_ok X G (cd.facts (f := .free "len") (by unfold hfa; simp))
    n_max := He.free_ok X G (cd.facts (f := .free "max") (by unfold hfa; simp))
    n_range := He.free_ok X G (cd.facts (f := .free "range") (by unfold hfa; simp))
    n_str := He.free_ok X G (cd.facts (f := .free "str") (by unfold hfa; simp))
    n_sum := He.free_ok X G (cd.facts (f := .free "sum") (by unfold hfa; simp))
    n_tuple := He.free_ok X G (cd.facts (f := .free "tuple") (by unfold hfa; simp))
  }
end TB
open PySem PySem.W PySem.Calls PyProof.Rows
set_option maxRecDepth 100000 in
set_option maxHeartbeats 0 in
theorem PySem.Challenge.cw_towbarges_k18_texts_refused_holds : PySem.Challenge.rw_towbarges_k18_texts_refused.Holds := by
  w_on; o_law
  refine HandSHeadRun.head_any (r := OpenLaw.row PySem.Challenge.rw_towbarges_k18_texts_refused) (q := view (OpenLaw.row PySem.Challenge.rw_towbarges_k18_texts_refused).prog [35]) (H := TB.hk) (ob := TB.hob) (M := 6000) (loose := TB.hloose) (d := HandSHeadRun.topDef (OpenLaw.row PySem.Challenge.rw_towbarges_k18_texts_refused).prog 35) (kwd := []) TB.hob_eq
    (by kernel_rfl) (fun s => by kernel_rfl) TB.hrun (by kernel_rfl) (by kernel_rfl) (by kernel_rfl) (by rfl) (by first | assumption | decide +kernel) (by decide +kernel) ⟨rfl, rfl, rfl, rfl, rfl, by decide +kernel⟩ ?hw ?hc
  case hw => w_witness2
  case hc =>
    refine LamX.walk_ofTsE (l := PySem.Challenge.rw_towbarges_k18_texts_refused) (n := 63) (k := 9) (x := "_law_script") (CX := fun _ => L2.CX0) rfl (by decide) (by kernel_rfl) ⟨rfl, by decide, by decide⟩ ?F (fun _ _ _ _ _ z => z)
    intro w mg fa h Y G hmg0
    obtain ⟨K, KX, c⟩ := Y
    have hmg : mg ("law" : PySem.Str) = some (.ref fa) := by
      have e : (HandSHeadRun.topDef (OpenLaw.row PySem.Challenge.rw_towbarges_k18_texts_refused).prog 35).name = ("law" : PySem.Str) := by kernel_rfl
      rw [← e]
      exact hmg0
    obtain ⟨A, ea, ek, hb, hF⟩ := TB.hfacts KX G c
    have cd : He.SaysD TB.hfa TB.hfn K := congrArg (fun z : He.AlT => z.1) c.t
    have el := hmg.symm.trans (He.glo_ok KX G (cd.facts (f := .glo "law") (by unfold TB.hfa; simp)))
    rw [← ea] at el
    cases el
    refine ⟨K, KX, A.d_law, TB.htf.map (He.cT K), TB.spLaw A K, fun p hp => ?e1, fun p hp => ?e2, fun p hp => ?e3, hb, fun H a ns hl _ hT hS => ⟨a, ns, rfl, hS, hl, ?tb, fun _ => rfl⟩, fun base _ _ hTB => ?e4⟩
    case e1 =>
      obtain ⟨p0, hp0, rfl⟩ := List.mem_map.mp hp
      exact c.empty p0 hp0
    case e2 =>
      obtain ⟨p0, hp0, rfl⟩ := List.mem_map.mp hp
      exact c.out p0 hp0
    case e3 =>
      obtain ⟨p0, hp0, rfl⟩ := List.mem_map.mp hp
      exact PySem.W.codeHd_of_K KX (c.hd p0 hp0)
    case tb =>
      unfold TB.Tabs
      obtain ⟨ek0, ek1, ek2, ek3⟩ := ek
      rw [ek0, ek1, ek2, ek3]
      exact ⟨⟨#[], hT _ (List.mem_map.mpr ⟨("is_stretch", none), by unfold TB.htf; simp, rfl⟩), trivial⟩, ⟨#[], hT _ (List.mem_map.mpr ⟨("check_book", none), by unfold TB.htf; simp, rfl⟩), trivial⟩, ⟨#[], hT _ (List.mem_map.mpr ⟨("check_plan", none), by unfold TB.htf; simp, rfl⟩), trivial⟩, ⟨#[], hT _ (List.mem_map.mpr ⟨("number_of", none), by unfold TB.htf; simp, rfl⟩), trivial⟩⟩
    case e4 =>
      have tb : ∀ p ∈ TB.htf, GxR.TabB base mg (He.cT K p).1 (He.cT K p).2 := fun p hp => let z := hTB _ (List.mem_map.mpr ⟨p, hp, rfl⟩); ⟨z.code, z.bm, z.gP⟩
      exact TB.ok_law (hF base (tb ("is_stretch", none) (by unfold TB.htf; simp)) (tb ("check_book", none) (by unfold TB.htf; simp)) (tb ("check_plan", none) (by unfold TB.htf; simp)) (tb ("number_of", none) (by unfold TB.htf; simp)))
#print axioms PySem.Challenge.cw_towbarges_k18_texts_refused_holds
