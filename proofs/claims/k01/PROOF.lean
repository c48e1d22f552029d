import PyProof.Rows.All
import Wide.All
import OpenK.AllK
import Wide.FinOn
import HandS.ForMost
import HandS.ForExc
import HandS.AnyAll
import HandS.GenList
import HandS.Defaults
import HandS.IsInst
import HandS.Wide
import HandS.EndTab
import HandS.More
import HandS.LawCells
import KE.KStateDown
import KE.KNestM
import HandS.Head0
import HandS.Head1
import HandS.Head2
import HandS.HeadEnd
import HandS.HeadHook1
import HandS.HeadHook2
import HandS.HeadHook3
import HandS.HeadHook4
import HandS.HeadWalk
import PySem.Challenge.RW_towbarges_k01_times_and_depths
set_option Elab.async false
set_option linter.all false
set_option maxRecDepth 100000
set_option maxHeartbeats 2000000
namespace GX
open PySem PySem.Spec PyProof.Rows L2 GxR GenW

theorem over_gen {A : Around} {elt tg iter : Expr} {ifs : List Expr} {scope : Scope} {pos : Pos} {it acc : Value} {env : Env} :
    A.over (.compLoop (.GeneratorExp elt [⟨tg, iter, ifs, 0⟩] scope pos) 0 it acc env) [] = A.deeper env := by
  first
    | rfl
    | (obtain ⟨hd, d, fr, gs, u⟩ := A; simp [Around.over, Around.deeper, marksOver, frameCount, unitsOf, envsOf, guardsOf, pushEnvs, pushGuards, Code.envs, Code.env?, Code.isFrame, Code.guards, Code.isGuard, Code.weight, Code.frames, Code.isCreation, Code.isCaller, Code.cUnits])

abbrev gcx (X : Cx) (s : Shared) (H : Hp) (cenv : Env) (fp : List Addr) (pn : List (Addr × Obj)) : Cx :=
  { X with A := X.A.in1.in1.deeper cenv, s_0 := s, H_0 := H, env := cenv, outer := X.stack, stack := cenv :: X.stack, ex := fp, fn := fun _ => false, calm := true, pn := pn, xe := fun _ _ => False }

theorem room_gcx {X : Cx} {s : Shared} {H : Hp} {cenv : Env} {fp : List Addr} {pn : List (Addr × Obj)} {k : Nat} (hr : Room (k + 1) X.A) : Room k (gcx X s H cenv fp pn).A :=
  ⟨hr.hd, by have := hr.dp; show X.A.depth + 1 + 3 * k + 5 < _; omega, by have := hr.un; show X.A.units + 1 + 1 + 3 + 16 * k + 200 < _; omega⟩

structure GenOk (N : List Str) (sc scope : Scope) (own : List (Str × Nat)) : Prop where
  kind : scope.kind = .function
  co : scope.isCoroutine = false
  uniq : ∀ y ∈ scope.names, scope.names.lookup y.1 = some y.2
  cell : ∀ y ∈ scope.names, y.2 ≠ .cell
  dot : scope.names.lookup (".0" : Str) = some NameKind.local
  ix : ∀ p ∈ own, N[p.2]? = some p.1
  free : ∀ y ∈ scope.names, y.2 = .free → sc.names.lookup y.1 = some .cell ∨ sc.names.lookup y.1 = some .free
  own : ∀ y ∈ scope.names, y.2 = .local → y.1 ∈ own.map (·.1) ∨ y.1 ∉ N

section
variable {X : Cx} {pins : List (Addr × Obj)} {σ : L2.St} {H : Hp} {s : Shared}
theorem gen_start {scope : Scope} {own : List (Str × Nat)} {fp : List Addr} {code : Value} {s5 : Shared} (I : Inv X pins σ H s) (hh : X.A.handled = none) (ok : GenOk X.N X.env.scope scope own) (hN : X.N.Nodup)
    (hfp : ∀ b ∈ fp, FpOk X pins H b ∧ b < s.heap.objs.size) (hos : s5.os = s.os) (hb5 : AllBare s5.gens) (kp : ∀ b o, s.heap.get? b = some o → s5.heap.get? b = some o)
    (hns : ∃ m, s5.heap.Ns s.heap.objs.size m) :
    Inv (gcx X s H (genEnv scope (cloFrom X.env.cells scope.names []) s.heap.objs.size code builtinsNs X.env) fp []) [] (wipe σ (own.map (·.2))) H s5 := by
  have hfree : ∀ y ∈ scope.names, y.2 = .free → ∃ c, X.env.cells.lookup y.1 = some c := fun y hy e => by
    rcases ok.free y hy e with k | k
    · exact I.ok.has _ (.inl k)
    · exact I.ok.has _ (.inr k)
  generalize hcenv : genEnv scope (cloFrom X.env.cells scope.names []) s.heap.objs.size code builtinsNs X.env = cenv
  have hL : cenv.locals = s.heap.objs.size := by rw [← hcenv]; rfl
  have hcl : cenv.cells = cloFrom X.env.cells scope.names [] := by rw [← hcenv]; rfl
  have hsc : cenv.scope = scope := by rw [← hcenv]; rfl
  have hfr : cenv.frame = some cenv.locals := by rw [← hcenv]; rfl
  have cm : ∀ {y c}, (y, c) ∈ cloFrom X.env.cells scope.names [] → X.env.cells.lookup y = some c ∧ c < s.heap.objs.size := fun {y c} hm => by
    rcases cloFrom_mem hm with hm | ⟨h1, rfl⟩
    · cases hm
    · obtain ⟨c, hc⟩ := hfree _ h1 rfl
      rw [hc]
      obtain ⟨w, z⟩ := I.cell _ _ hc
      exact ⟨rfl, z.lt⟩
  have mem : ∀ {y c}, cenv.cells.lookup y = some c → X.env.cells.lookup y = some c ∧ c < s.heap.objs.size := fun {y c} e => by
    rw [hcl] at e
    exact cm (PySem.mem_of_lookup e)
  have look : ∀ {y}, scope.names.lookup y = some .free → ∃ c, cenv.cells.lookup y = some c ∧ X.env.cells.lookup y = some c := fun {y} hl => by
    have hy : (y, NameKind.free) ∈ scope.names := PySem.mem_of_lookup hl
    obtain ⟨c', e'⟩ := L2.mem_lookup (cloFrom_has (cells := X.env.cells) (acc := []) hy)
    rw [← hcl] at e'
    exact ⟨c', e', (mem e').1⟩
  have okB : (gcx X s H cenv fp []).Ok := by
    refine ⟨I.ok.mod, by show cenv.scope.kind = _; rw [hsc]; exact ok.kind, by show cenv.globals = _; rw [← hcenv]; exact I.ok.glob, by show cenv.builtins = _; rw [← hcenv]; rfl, by show s.heap.objs.size ≤ cenv.locals; rw [hL]; exact Nat.le_refl _,
      fun y z c e1 e2 => I.ok.inj y z c (mem e1).1 (mem e2).1, fun y hy => ?_, fun y c z e => ?_, fun _ => hh, ?_, .inr ⟨rfl, hfr⟩, fun b hb => ⟨?_, fun y c e z => ?_⟩, I.bs, Nat.le_trans I.ok.bsz I.sz, fun b o e hb => ?_, fun b hb z => ?_, I.stack, I.stkFree⟩
    · show ∃ c, cenv.cells.lookup y = some c
      have hy : cenv.scope.names.lookup y = some .cell ∨ cenv.scope.names.lookup y = some .free := hy
      rw [hsc] at hy
      rcases hy with hy | hy
      · exact absurd rfl (ok.cell _ (PySem.mem_of_lookup hy))
      · obtain ⟨c, h1, _⟩ := look hy
        exact ⟨c, h1⟩
    · exact absurd (show false = true from z) (by decide)
    · exact Around.frames_deeper (A := X.A.in1.in1) I.ok.frames
    · show b ≠ cenv.locals
      rw [hL]; exact Nat.ne_of_lt (hfp b hb).2
    · exact (hfp b hb).1.2.2.2.2.1 y c (mem e).1 z
    · rcases (hfp b hb).1.2.2.2.1 with z | z
      · exact I.ok.noex b o e z
      · exact absurd (Nat.lt_of_lt_of_le (Heap.lt_size e) (Nat.le_trans I.ok.bsz z)) (Nat.lt_irrefl _)
    · rcases List.mem_cons.mp (I.stkSub b z) with z | z
      · exact (hfp b hb).1.2.1 z
      · exact (hfp b hb).1.2.2.1 z
  obtain ⟨mm, hmm⟩ := hns
  refine ⟨okB, hos, hb5, Un.kept kp, ⟨mm, ?_, fun i y av e1 e2 e3 => ?_⟩, fun y c e => ?_, ?_, fun y c e => ?_, fun p hp => ?_, I.hok.kept kp, by rw [wipe_length]; exact I.len⟩
  · show s5.heap.Ns cenv.locals mm
    rw [hL]; exact hmm
  · obtain ⟨e2, hne⟩ := wipe_some e2
    have e3 : cenv.scope.names.lookup y = some .local ∨ cenv.scope.names.lookup y = some .cell ∨ cenv.scope.names.lookup y = some .free := e3
    rw [hsc] at e3
    have e1 : X.N[i]? = some y := e1
    rcases e3 with e3 | e3 | e3
    · exfalso
      rcases ok.own _ (PySem.mem_of_lookup e3) rfl with e' | e'
      · obtain ⟨p, hp, hpy⟩ := List.mem_map.mp e'
        have e4 := ok.ix p hp
        have : p.1 = y := hpy
        rw [this] at e4
        exact hne (List.mem_map.mpr ⟨p, hp, nodup_ix hN e4 e1⟩)
      · exact e' (List.mem_of_getElem? e1)
    · exact absurd rfl (ok.cell _ (PySem.mem_of_lookup e3))
    · obtain ⟨m, hn, hl⟩ := I.loc
      have hvis : Vis X.env.scope y := (ok.free _ (PySem.mem_of_lookup e3) rfl).elim (fun k => .inr (.inl k)) (fun k => .inr (.inr k))
      obtain ⟨w, r, q⟩ := hl i y av e1 e2 hvis
      have hk : cenv.kindOf y = some .free := by
        show cenv.scope.names.lookup y = _
        rw [hsc]; exact e3
      refine ⟨w, r, .inr ⟨.inr hk, ?_⟩⟩
      obtain ⟨c, h1, h2⟩ := look e3
      rcases q with ⟨k, _⟩ | ⟨_, c', e', z⟩
      · have k : X.env.scope.names.lookup y = some .local := k
        rcases ok.free _ (PySem.mem_of_lookup e3) rfl with k' | k' <;> rw [show X.env.scope.names.lookup y = _ from k'] at k <;> cases k
      · rw [h2] at e'; cases e'
        exact ⟨c, h1, z.keeps kp⟩
  · obtain ⟨h1, _⟩ := mem (show cenv.cells.lookup y = some c from e)
    obtain ⟨w, z⟩ := I.cell y c h1
    exact ⟨w, z.keeps kp⟩
  · show H cenv.locals = none
    rw [hL]; exact I.hok.fresh (Nat.le_refl _)
  · obtain ⟨h1, _⟩ := mem (show cenv.cells.lookup y = some c from e)
    exact I.freeC y c h1
  · exact absurd (show p ∈ ([] : List (Addr × Obj)) ++ [] from hp) (by simp)

/-- other gens, other toks, a heap that keeps all -/
theorem inv_gens {g' : Array GenState} (I : Inv X pins σ H s) (hg : AllBare g') : Inv X pins σ H { s with gens := g' } :=
  ⟨I.ok, I.os, hg, I.base, I.loc, I.cell, I.free, I.freeC, I.pin, I.hok, I.len⟩
theorem inv_pn {s4 : Shared} {H4 : Hp} {cenv : Env} {fp : List Addr} {pn : List (Addr × Obj)} (I : Inv (gcx X s4 H4 cenv fp []) pins σ H s)
    (h : ∀ p ∈ pn ++ pins, s.heap.get? p.1 = some p.2 ∧ H p.1 = none ∧ p.1 ≠ cenv.locals ∧ p.1 ∉ frs X.stack ∧ ∀ v, p.2.data ≠ .cell v) : Inv (gcx X s4 H4 cenv fp pn) pins σ H s :=
  ⟨⟨I.ok.mod, I.ok.kind, I.ok.glob, I.ok.blt, I.ok.above, I.ok.inj, I.ok.has, I.ok.cab, I.ok.hd, I.ok.frames, I.ok.stk, I.ok.exf, I.ok.bs, I.ok.bsz, I.ok.noex, I.ok.exfs, I.ok.funs, I.ok.frf⟩, I.os, I.bare, I.base, I.loc, I.cell, I.free, I.freeC, h, I.hok, I.len⟩
end

/-! ### the turns -/
section
variable (X : Cx) (s4 : Shared) (H4 : Hp) (cenv : Env) (fp : List Addr) (pn : List (Addr × Obj)) (tn : Nat → Heap → Prop) (σ0 : L2.St) (W : Nat → Nat → Int → Hp → Prop) (Ip : Int → List (Addr × Obj) → Prop)
/-- at rest, ahead of turn i -/
structure GRest (i m : Nat) (z : Int) (ip : List (Addr × Obj)) (H : Hp) (s : Shared) : Prop where
  w : W i m z H
  hip : Ip z ip
  inv : Inv (gcx X s4 H4 cenv fp pn) ip σ0 H s
  tn : tn i s.heap
  nf : ∀ b ∈ fp, H b = none
def GEndP (Sp : Int → Hp → Prop) (s₀ s1 : Shared) : Prop := ∃ z ip H, Ip z ip ∧ Sp z H ∧ Inv (gcx X s4 H4 cenv fp pn) ip σ0 H s1 ∧ ∀ p ∈ ip, s₀.heap.get? p.1 = some p.2
def GYield (Yw : Int → (Int → Hp → Prop) → V → Hp → Prop) : Protocol := fun n s₀ v s kap =>
  ∃ i m z y ip H Nx, m ≤ n ∧ RelV y v ∧ Ip z ip ∧ Inv (gcx X s4 H4 cenv fp pn) ip σ0 H s ∧ tn (i + 1) s.heap ∧ (∀ b ∈ fp, H b = none) ∧ (∀ z' H', Nx z' H' → ∃ m', m' < m ∧ W (i + 1) m' z' H') ∧ Yw z Nx y H ∧ (∀ p ∈ ip, s₀.heap.get? p.1 = some p.2) ∧
    ∀ s' ip' z' m' H', m' < m → GRest X s4 H4 cenv fp pn tn σ0 W Ip (i + 1) m' z' ip' H' s' → kap (.send .none) s'
end
/-- what a turn is to do -/
def Turns (J : It) (g : TG) (tt : TT) (te : TE) (σ0 : L2.St) (vs : List Nat) (W : Nat → Nat → Int → Hp → Prop) (Sp : Int → Hp → Prop) (Yw : Int → (Int → Hp → Prop) → V → Hp → Prop) : Prop :=
  ∀ i m z H, W i m z H → (J.stop i H ∧ Sp z H) ∨ (J.go i H ∧ ∃ Nx : Int → Hp → Prop, (∀ z' H', Nx z' H' → ∃ m', m' < m ∧ W (i + 1) m' z' H') ∧ ∀ x H', J.yld i H x H' → g x σ0 H' fun σ2 H2 => wipe σ2 vs = σ0 ∧ tt σ2 H2 fun b H3 =>
    if b = true then te σ2 H3 (Yw z Nx) else Nx z H3)
section
variable {X : Cx} {s4 : Shared} {H4 : Hp} {cenv : Env} {fp : List Addr} {pn : List (Addr × Obj)} {tn : Nat → Heap → Prop} {σ0 : L2.St} {W : Nat → Nat → Int → Hp → Prop} {Ip : Int → List (Addr × Obj) → Prop}
  {Sp : Int → Hp → Prop} {Yw : Int → (Int → Hp → Prop) → V → Hp → Prop} {J : It} {g : TG} {tt : TT} {te : TE} {vs : List Nat} {elt tg iter : Expr} {ifs : List Expr} {scope : Scope} {pos : Pos} {it : Addr}
theorem seg_turns (hco : cenv.scope.isCoroutine = false) (hpn : ∀ z ip, Ip z ip → ∀ b ∈ fp, ∀ p ∈ pn ++ ip, p.1 ≠ b) (T : Turn X.prog X.w X.K tg J fp it tn)
    (pg : PG (gcx X s4 H4 cenv fp pn) tg g) (pt : PTs (gcx X s4 H4 cenv fp pn) ifs tt) (pe : PE (gcx X s4 H4 cenv fp pn) elt te) (turn : Turns J g tt te σ0 vs W Sp Yw) :
    ∀ (m n i : Nat) (z : Int) (ip : List (Addr × Obj)) (H : Hp) (s s₀ : Shared), m < n → GRest X s4 H4 cenv fp pn tn σ0 W Ip i m z ip H s → (∀ p ∈ ip, s₀.heap.get? p.1 = some p.2) →
      Seg (model X.prog X.w) X.A.in1.in1 (fun n s₀ r s₁ => r = .ok .next ∧ GEndP X s4 H4 cenv fp pn σ0 Ip Sp s₀ s₁) (GYield X s4 H4 cenv fp pn tn σ0 W Ip Yw) n s₀
        (.compLoop (.GeneratorExp elt [⟨tg, iter, ifs, 0⟩] scope pos) 0 (.ref it) .none cenv)
        ((model X.prog X.w).den (.compLoop (.GeneratorExp elt [⟨tg, iter, ifs, 0⟩] scope pos) 0 (.ref it) .none cenv)) [] s := by
  have stat : ∀ {z : Int} {ip : List (Addr × Obj)} {σ' : L2.St} {H' : Hp} {s' : Shared}, Ip z ip → Inv (gcx X s4 H4 cenv fp pn) ip σ' H' s' → (∀ b ∈ fp, H' b = none) → ∀ b ∈ fp, FpOk (gcx X s4 H4 cenv fp pn) ip H' b := fun {z ip σ' H' s'} hz I' hn b hb =>
    ⟨hn b hb, (I'.ok.exf b hb).1, I'.ok.exfs b hb, .inl hb, fun x c e => (I'.ok.exf b hb).2 x c e, fun p hp => hpn z ip hz b hb p hp⟩
  intro m
  induction m using Nat.strongRecOn with
  | ind m ih =>
    rintro n i z ip H s s₀ hmn ⟨w, hip, I, st, nf⟩ h0
    show Seg _ _ _ _ _ _ _ ((compTurn (.GeneratorExp elt [⟨tg, iter, ifs, 0⟩] scope pos) 0 (.ref it) .none cenv).onRaise (leaving cenv)) [] s
    rw [compTurn_gen, Sem.onRaise_eq_wrap]
    refine seg_bind_wrap (wpAny_standAt ?_)
    rcases turn i m z H w with ⟨stop, qq⟩ | ⟨go, Nx, hNx, step⟩
    · have td := T.done (gcx X s4 H4 cenv fp pn) rfl rfl rfl rfl i ip s _ H (fun _ _ => False) I (stat hip I nf) st stop
      refine seg_bind_wrap ?_
      rw [over_gen]
      refine thnF td fun r s6 ⟨hr, I6⟩ => ?_
      subst hr
      exact seg_end (.ok .next) ⟨rfl, z, ip, H, hip, qq, I6, h0⟩
    · have ti := T.item (gcx X s4 H4 cenv fp pn) rfl rfl rfl rfl i ip s _ H (fun _ _ => False) I (stat hip I nf) st go
      refine seg_bind_wrap ?_
      rw [over_gen]
      refine thnF ti fun r s6 ⟨u, hr, h6⟩ => ?_
      subst hr
      refine seg_bind_wrap (m := letOwnedTupleGo tg (.ref it) u) ?_
      rw [over_gen]
      refine thnF h6 fun _ s7 ⟨x, H7, I7, r7, y7, st7, n7⟩ => ?_
      have I7' := I7.pinned (stat hip I7 n7) (T.obj _ _ st7)
      refine seg_bind_wrap (m := assign tg cenv u) ?_
      rw [over_gen]
      refine thnF (pg.run _ s7 _ H7 x u _ I7' r7 (step x H7 y7)) fun _ s8 ⟨σ8, H8, I8, hw8, q8⟩ => ?_
      refine seg_bind_wrap ?_
      rw [over_gen]
      refine thnF (pt.run _ s8 σ8 H8 _ I8 q8) fun b s9 ⟨H9, I9, q9⟩ => ?_
      have fin : ∀ {s' : Shared} {H' : Hp}, Inv (gcx X s4 H4 cenv fp pn) (ip ++ pinsAt fp s7.heap) σ8 H' s' → Inv (gcx X s4 H4 cenv fp pn) ip σ0 H' s' ∧ tn (i + 1) s'.heap ∧ ∀ b ∈ fp, H' b = none := fun {s' H'} I' => by
        have pin' : ∀ b ∈ fp, ∀ o, s7.heap.get? b = some o → s'.heap.get? b = some o ∧ H' b = none := fun b hb o e =>
          let z := I'.pin (b, o) (List.mem_append_right _ (List.mem_append_right _ (mem_pinsAt hb e)))
          ⟨z.1, z.2.1⟩
        have hl : σ0.length = σ8.length := by rw [← hw8, wipe_length]
        refine ⟨(I'.unpinned (pins := ip)).weak hl (fun j v e => ?_), T.keep _ _ _ st7 fun b hb o e => (pin' b hb o e).1, fun b hb => ?_⟩
        · rw [← hw8] at e
          exact (wipe_some e).1
        · obtain ⟨o, e, _⟩ := T.obj _ _ st7 b hb
          exact (pin' b hb o e).2
      cases b with
      | false =>
        simp only [Bool.false_eq_true, if_false] at q9 ⊢
        obtain ⟨m', hm, w'⟩ := hNx z H9 q9
        obtain ⟨f1, f2, f3⟩ := fin I9
        exact seg_again rfl (ih m' hm n (i + 1) z ip H9 s9 s₀ (by omega) ⟨w', hip, f1, f2, f3⟩ h0)
      | true =>
        simp only [if_true] at q9 ⊢
        have hy : ∀ v, yieldOut cenv v = yieldValue v := fun v => by simp only [yieldOut, hco, Bool.false_eq_true, if_false]
        simp only [hy]
        obtain ⟨k, rfl⟩ : ∃ k, n = k + 1 := ⟨n - 1, by omega⟩
        rw [Sem.bind_eq_wrap', Sem.bind_eq_wrap', Sem.wrap_wrap, Sem.wrap_wrap]
        refine seg_wrap ?_
        rw [over_gen]
        refine thnF (pe.run _ s9 σ8 H9 _ I9 q9) fun yv s10 ⟨y, H10, I10, r10, yw⟩ => ?_
        obtain ⟨f1, f2, f3⟩ := fin I10
        refine seg_at (seg_yield rfl rfl rfl ⟨i, m, z, y, ip, H10, Nx, by omega, r10, hip, f1, f2, f3, hNx, yw, h0, fun s' ip' z' m' H' hm hR => ?_⟩)
        exact seg_again rfl (ih m' hm k (i + 1) z' ip' H' s' s' (by omega) hR fun p hp => (hR.inv.pin p (List.mem_append_right _ hp)).1)
theorem seg_first (hco : cenv.scope.isCoroutine = false) (hpn : ∀ z ip, Ip z ip → ∀ b ∈ fp, ∀ p ∈ pn ++ ip, p.1 ≠ b) (T : Turn X.prog X.w X.K tg J fp it tn)
    (pg : PG (gcx X s4 H4 cenv fp pn) tg g) (pt : PTs (gcx X s4 H4 cenv fp pn) ifs tt) (pe : PE (gcx X s4 H4 cenv fp pn) elt te) (turn : Turns J g tt te σ0 vs W Sp Yw)
    {m n : Nat} {z : Int} {ip : List (Addr × Obj)} {H : Hp} {s s₀ : Shared} (hmn : m < n) (hR : GRest X s4 H4 cenv fp pn tn σ0 W Ip 0 m z ip H s) (h0 : ∀ p ∈ ip, s₀.heap.get? p.1 = some p.2) :
      Seg (model X.prog X.w) X.A.in1.in1 (fun n s₀ r s₁ => r = .ok .next ∧ GEndP X s4 H4 cenv fp pn σ0 Ip Sp s₀ s₁) (GYield X s4 H4 cenv fp pn tn σ0 W Ip Yw) n s₀
        (.compStart (.GeneratorExp elt [⟨tg, iter, ifs, 0⟩] scope pos) 0 (.ref it) .none cenv)
        ((model X.prog X.w).den (.compStart (.GeneratorExp elt [⟨tg, iter, ifs, 0⟩] scope pos) 0 (.ref it) .none cenv)) [] s := by
  have loop := seg_turns (iter := iter) (scope := scope) (pos := pos) hco hpn T pg pt pe turn m n 0 z ip H s s₀ hmn hR h0
  show Seg _ _ _ _ _ s₀ _ ((compStart (.GeneratorExp elt [⟨tg, iter, ifs, 0⟩] scope pos) 0 (.ref it) .none cenv).onRaise (leaving cenv)) [] s
  unfold compStart
  rw [Sem.onRaise_eq_wrap]
  show Seg _ _ _ _ _ s₀ _ ((ask >>= _).wrap _ _ _ _) [] s
  refine seg_bind_wrap (wpAny_askSetting ?_)
  split
  · exact seg_again rfl loop
  · first
      | exact seg_bind_wrap (wpAny_rule (seg_bind_wrap (wpAny_standAt (seg_bind_wrap (T.self _ 0 s _ _ hR.tn (seg_again rfl loop))))))
      | (refine seg_bind_wrap (wpAny_rule ?_); show Seg _ _ _ _ _ s₀ _ ((standAt iter.pos >>= _).wrap _ _ _ _) [] s; exact seg_bind_wrap (wpAny_standAt (seg_bind_wrap (T.self _ 0 s _ _ hR.tn (seg_again rfl loop)))))
end

/-! ### a generator expression made -/
section
variable {X : Cx} {pins : List (Addr × Obj)} {σ : L2.St} {H : Hp} {s : Shared}
theorem back {s4 s6 : Shared} {H2 H6 : Hp} {cenv : Env} {fp : List Addr} {pn ip : List (Addr × Obj)} {σ6 : L2.St} (I4 : Inv X pins σ H2 s4) (hf : ∀ b ∈ fp, FpOk X pins H2 b) (I6 : Inv (gcx X s4 H2 cenv fp pn) ip σ6 H6 s6) : Inv X pins σ H6 s6 :=
  I4.call' (ch := fp) I6.os I6.base I6.hok I6.bare fun b hb => ⟨(hf b hb).2.2.2.1, (hf b hb).2.1, (hf b hb).2.2.2.2.1, (hf b hb).2.2.2.2.2⟩

/-- it is made, at a, its number g: not begun -/
structure Made (X : Cx) (pins : List (Addr × Obj)) (σ : L2.St) (elt tg iter : Expr) (ifs : List Expr) (scope : Scope) (gpos : Pos) (own : List (Str × Nat)) (J : It) (H2 : Hp) (s4 s5 : Shared) (cenv : Env) (it : Addr) (fp : List Addr) (tn : Nat → Heap → Prop) (a : Addr) (g : Nat) (go : Obj) : Prop where
  i4 : Inv X pins σ H2 s4
  env : ∃ (C : Addr) (code : Value), cenv = genEnv scope (cloFrom X.env.cells scope.names []) C code builtinsNs X.env
  turn : Turn X.prog X.w X.K tg J fp it tn
  tn0 : tn 0 s5.heap
  fok : ∀ b ∈ fp, FpOk X pins H2 b
  fa : ∀ b ∈ fp, b < a
  inv : Inv (gcx X s4 H2 cenv fp [(a, go)]) [] (wipe σ (own.map (·.2))) H2 s5
  gen : ∀ h : Heap, h.get? a = some go → h.IsGen a g
  gs : s5.gens[g]? = some (.fresh (.compStart (.GeneratorExp elt [⟨tg, iter, ifs, 0⟩] scope gpos) 0 (.ref it) .none cenv))
  lt : a < s5.heap.objs.size
theorem gen_made {c P : Addr} {elt tg iter : Expr} {ifs : List Expr} {gpos : Pos} {scope : Scope} {own : List (Str × Nat)} {wi : TI} {k : Nat} {Q' : Value → Shared → Prop} {R : It → Hp → Prop}
    (hr : Room k X.A) (TB : TabB X.base X.mg c P) (hcode : X.env.code = .ref c) (ok : GenOk X.N X.env.scope scope own) (hN : X.N.Nodup) (hi : PI X tg iter wi)
    (hs : ∀ v, genFold iter X.env v = pure v) (I : Inv X pins σ H s) (h : wi σ H fun J H1 => TabG H1 P ∧ ∀ H2, Tabbed P H1 H2 → R J H2)
    (hQ : ∀ J H2 s4 s5 cenv it fp tn a g go, R J H2 → Made X pins σ elt tg iter ifs scope gpos own J H2 s4 s5 cenv it fp tn a g go → Q' (.ref a) s5) :
    wpAny (model X.prog X.w) X.A (eval (.GeneratorExp elt [⟨tg, iter, ifs, 0⟩] scope gpos) X.env) Q' X.xe s := by
  have hfree : ∀ y ∈ scope.names, y.2 = .free → ∃ c, X.env.cells.lookup y.1 = some c := fun y hy e => by
    rcases ok.free y hy e with k | k
    · exact I.ok.has _ (.inl k)
    · exact I.ok.has _ (.inr k)
  refine wpAny_GeneratorExp_make ok.co (closure_ok hfree) ok.cell ok.dot ok.kind (by have := hr.dp; omega) ?_ hs
  refine thn (hi.run pins s σ H _ I h) fun xv s1 hx => thn hx fun itv s2 h2 => ?_
  obtain ⟨it, fp, tn, J, H1, e, I2, T, st2, f2, ⟨ps, hP, ht⟩, q⟩ := h2
  subst e
  have hPs : s2.heap.get? P = some { cls := .none, data := .fields ps } := I2.hok P _ hP
  have hPlt : P < s2.heap.objs.size := Heap.lt_size hPs
  have cd : PySem.W.CodeHd s2.heap c P := TB.code.keeps fun b u e => I2.bk b u e
  have lim2 : s2.heap.NoLimit := I2.nolimit
  have cont : ∀ (code : Value) (h3 : Heap) (tk : Nat) (ps' : Array Value), Heap.ExtBut P s2.heap h3 → s2.heap.objs.size ≤ h3.objs.size → h3.get? P = some { cls := .none, data := .fields ps' } → (∃ more, ps' = ps ++ more) → TriplesOk ps'.toList →
      wpAny (model X.prog X.w) X.A (builtinsFor X.env.globals X.env.builtins) (fun bi s₄ =>
        ∀ h', h'.Ns s₄.heap.objs.size (fun y => if y = ".0" then some (.ref it) else none) → Heap.SameBut s₄.heap.objs.size (s₄.heap.push { cls := .type "frame", data := .dict #[] }) h' →
          Q' (.ref h'.objs.size) { s₄ with
            gens := s₄.gens.push (.fresh (.compStart (.GeneratorExp elt [⟨tg, iter, ifs, 0⟩] scope gpos) 0 (.ref it) .none (genEnv scope (cloFrom X.env.cells scope.names []) s₄.heap.objs.size code bi X.env))),
            toks := s₄.toks + 1 + 1 + 1,
            heap := h'.push { cls := .type "generator", data := .fields #[.int s₄.gens.size 0, .str "<genexpr>" (s₄.toks + 1), .str (X.env.qual ++ "<genexpr>") (s₄.toks + 1 + 1)] } }) X.xe { s2 with heap := h3, toks := tk } := by
    intro code h3 tk ps' hx hsz hP3 hmore ht3
    obtain ⟨bm, ob, e1, e2, e3, e4, e5, e6, e7, e8⟩ := TB.bm
    have keep3 : ∀ b u, b ≠ P → s2.heap.get? b = some u → h3.get? b = some u := fun b u hb e => hx b u hb e
    refine wpAny_builtinsFor (m := X.mg) (by rw [I2.ok.glob]; exact (I2.mod.glob.keeps I2.bk).extBut hx TB.gP) e1 e2 (keep3 _ _ e4 (I2.bk _ _ e5)) e6 e7 e8 ?_
    intro h' hn' hs'
    obtain ⟨more, em⟩ := hmore
    subst em
    have I4 : Inv X pins σ (upd H1 P (.tbl (ps ++ more))) { s2 with heap := h3, toks := tk } := inv_tab (more := more) (h' := h3) (g' := s2.gens) (d' := s2.drawn) (t' := tk) I2 hP (fun b u hb e => hx b u hb e) hP3 I2.bare
    generalize hH2 : upd H1 P (.tbl (ps ++ more)) = H2 at I4
    have hTab : Tabbed P H1 H2 := by
      rw [← hH2]
      exact ⟨⟨ps ++ more, upd_same, ht3⟩, fun b hb => upd_ne hb⟩
    generalize hs4 : ({ s2 with heap := h3, toks := tk } : Shared) = s4 at I4
    have hh3 : h3 = s4.heap := by rw [← hs4]
    have hg2 : s2.gens = s4.gens := by rw [← hs4]
    have htk : tk = s4.toks := by rw [← hs4]
    have hsz4 : h'.objs.size = s4.heap.objs.size + 1 := by
      have z := hs'.1
      rw [Heap.size_push] at z
      rw [← hh3]
      exact z
    have keep' : ∀ b o, s4.heap.get? b = some o → h'.get? b = some o := fun b o e => by
      rw [← hh3] at e
      exact hs'.extBut b o (Nat.ne_of_lt (Heap.lt_size e)) (Heap.get?_push_of_some _ e)
    have fne : ∀ b ∈ fp, b ≠ P := fun b hb z => by
      have z1 := (f2 b hb).1
      rw [z, hP] at z1
      cases z1
    have flt : ∀ b ∈ fp, b < s2.heap.objs.size := fun b hb => by
      obtain ⟨o, e, _⟩ := T.obj _ _ st2 b hb
      exact Heap.lt_size e
    have f4 : ∀ b ∈ fp, FpOk X pins H2 b := fun b hb => by
      refine ⟨?_, (f2 b hb).2⟩
      rw [hTab.2 b (fne b hb)]
      exact (f2 b hb).1
    have f4l : ∀ b ∈ fp, b < s4.heap.objs.size := fun b hb => by
      rw [← hh3]
      exact Nat.lt_of_lt_of_le (flt b hb) hsz
    have stay : ∀ b ∈ fp, ∀ o, s2.heap.get? b = some o → h'.get? b = some o := fun b hb o e => keep' b o (by rw [← hh3]; exact keep3 b o (fne b hb) e)
    refine hQ J H2 s4 _ (genEnv scope (cloFrom X.env.cells scope.names []) s4.heap.objs.size code builtinsNs X.env) it fp tn h'.objs.size s4.gens.size
      { cls := .type "generator", data := .fields #[.int s4.gens.size 0, .str "<genexpr>" (s4.toks + 1), .str (X.env.qual ++ "<genexpr>") (s4.toks + 1 + 1)] } (q H2 hTab) ?_
    have hn4 : h'.Ns s4.heap.objs.size (fun y => if y = ".0" then some (.ref it) else none) := by first | exact hn' | (rw [← hh3]; exact hn')
    have I5 : Inv (gcx X s4 H2 (genEnv scope (cloFrom X.env.cells scope.names []) s4.heap.objs.size code builtinsNs X.env) fp []) [] (wipe σ (own.map (·.2))) H2
        { s4 with heap := h'.push { cls := .type "generator", data := .fields #[.int s4.gens.size 0, .str "<genexpr>" (s4.toks + 1), .str (X.env.qual ++ "<genexpr>") (s4.toks + 1 + 1)] }, toks := s4.toks + 1 + 1 + 1, gens := s4.gens.push (.fresh (.compStart (.GeneratorExp elt [⟨tg, iter, ifs, 0⟩] scope gpos) 0 (.ref it) .none (genEnv scope (cloFrom X.env.cells scope.names []) s4.heap.objs.size code builtinsNs X.env))) } :=
      gen_start I4 hr.hd ok hN (fun b hb => ⟨f4 b hb, f4l b hb⟩) rfl (AllBare.push I4.bare rfl) (fun b o e => Heap.get?_push_of_some _ (keep' b o e)) ⟨_, hn4.push _⟩
    have hgo : ∀ h : Heap, h.get? h'.objs.size = some { cls := .type "generator", data := .fields #[.int s4.gens.size 0, .str "<genexpr>" (s4.toks + 1), .str (X.env.qual ++ "<genexpr>") (s4.toks + 1 + 1)] } → h.IsGen h'.objs.size s4.gens.size := fun h e => ⟨_, _, _, e, rfl, rfl, rfl⟩
    refine ⟨I4, ⟨_, _, rfl⟩, T, T.keep _ _ _ st2 fun b hb o e => Heap.get?_push_of_some _ (stay b hb o e), f4, fun b hb => by rw [hsz4]; exact Nat.lt_succ_of_lt (f4l b hb), ?_, hgo, ?_, ?_⟩
    · refine inv_pn I5 fun p hp => ?_
      rw [List.append_nil] at hp
      rw [List.mem_singleton.mp hp]
      refine ⟨?_, I4.hok.fresh (by rw [hsz4]; exact Nat.le_succ _), ?_, fun z => ?_, fun v z => by cases z⟩
      · show (h'.push _).get? h'.objs.size = _
        exact Heap.get?_push_size _ rfl
      · show h'.objs.size ≠ s4.heap.objs.size
        rw [hsz4]
        exact Nat.succ_ne_self _
      · have z2 : h'.objs.size ∈ X.env.locals :: X.fs := I4.stkSub _ z
        rcases List.mem_cons.mp z2 with z3 | z3
        · have z4 := I4.lt
          rw [← z3, hsz4] at z4
          exact absurd (Nat.lt_of_succ_lt z4) (Nat.lt_irrefl _)
        · exact I4.nofs (by rw [hsz4]; exact Nat.le_succ _) z3
    · exact Array.getElem?_push_size ..
    · show h'.objs.size < (h'.push _).objs.size
      rw [Heap.size_push]
      exact Nat.lt_succ_self _
  refine ⟨lim2, ?_⟩
  cases hf : codeAmong gpos ps.toList with
  | none =>
    refine wpAny_genexprCodeX hcode (cd.code hPs ht) (cd.tab hPs) hf fun c' h' tk hx hge hlt hco' _ htab' _ => ?_
    obtain ⟨o1, vs, f1, tf, fl, tg, inF, tx, tt, op, _, _, _, _, _, _, _, _, _, htr, _⟩ := hco'
    exact cont _ h' tk _ hx (Nat.le_trans hge (Nat.le_of_lt hlt)) htab'.2 ⟨_, rfl⟩ htr
  | some cv =>
    refine wpAny_genexprCode_hit hcode (cd.code hPs ht) hf ?_
    exact cont cv s2.heap s2.toks ps (Heap.ExtBut.refl _ _) (Nat.le_refl _) hPs ⟨#[], by simp⟩ ht
end

/-! ### the consumers -/
theorem next_at {s : Shared} {g : Nat} {x y : GenState} (h : s.gens[g]? = some x) : (s.setGen g y).gens[g]? = some y := setGen_at (Array.getElem?_eq_some_iff.mp h).1
section
variable {X : Cx} {s4 : Shared} {H4 : Hp} {cenv : Env} {fp : List Addr} {pn : List (Addr × Obj)} {tn : Nat → Heap → Prop} {σ0 : L2.St} {W : Nat → Nat → Int → Hp → Prop} {Ip : Int → List (Addr × Obj) → Prop}
  {Sp : Int → Hp → Prop} {Yw : Int → (Int → Hp → Prop) → V → Hp → Prop} {a : Addr} {g : Nat}
/-- one next of it: E nothing -/
theorem next_of {A : Around} {s : Shared} {gs : GenState} {n : Nat} {Q : Option Value → Shared → Prop} {E : Value → Shared → Prop} (hh : X.A.handled = none) (hroom : X.A.depth < recursionLimit) (hl : s.heap.NoLimit) (hg : s.heap.IsGen a g) (hgs : s.gens[g]? = some gs)
    (hgo : gs.Goes (model X.prog X.w) X.A.in1.in1 (fun n s₀ r s₁ => r = .ok .next ∧ GEndP X s4 H4 cenv fp pn σ0 Ip Sp s₀ s₁) (GYield X s4 H4 cenv fp pn tn σ0 W Ip Yw) n (.send .none) (s.setGen g .running))
    (hend : ∀ z ip H s', (∀ p ∈ ip, s.heap.get? p.1 = some p.2) → Ip z ip → Sp z H → Inv (gcx X s4 H4 cenv fp pn) ip σ0 H s' → Q none s')
    (hyld : ∀ i m z y v ip H Nx s', (∀ p ∈ ip, s.heap.get? p.1 = some p.2) → (∃ gs', s'.gens[g]? = some gs') → RelV y v → Ip z ip → Inv (gcx X s4 H4 cenv fp pn) ip σ0 H s' → tn (i + 1) s'.heap → (∀ b ∈ fp, H b = none) → (∀ z' H', Nx z' H' → ∃ m', m' < m ∧ W (i + 1) m' z' H') → Yw z Nx y H →
      (∀ s2 ip' z' m' H', (∃ gs', s2.gens[g]? = some gs' ∧ s'.gens[g]? = some gs') → m' < m → GRest X s4 H4 cenv fp pn tn σ0 W Ip (i + 1) m' z' ip' H' s2 →
        ∃ gs' k, s2.gens[g]? = some gs' ∧ n = k + 1 ∧ gs'.Goes (model X.prog X.w) X.A.in1.in1 (fun n s₀ r s₁ => r = .ok .next ∧ GEndP X s4 H4 cenv fp pn σ0 Ip Sp s₀ s₁) (GYield X s4 H4 cenv fp pn tn σ0 W Ip Yw) k (.send .none) (s2.setGen g .running)) → Q (some v) s') :
    wpAny (model X.prog X.w) X.A.in1 (pyNext (.ref a)) Q E s := by
  have hlt := (Array.getElem?_eq_some_iff.mp hgs).1
  refine wpAny_gsz (n := g + 1) hlt ?_
  refine wpAny_pyNext_genexpQ (P := fun _ s₀ s₁ => GEndP X s4 H4 cenv fp pn σ0 Ip Sp s₀ s₁) hh hl hroom hg hgs hgo (fun v s₁ gs' hb hv => ?_) (fun s₁ hp h' hk => ?_)
  · intro hsz
    obtain ⟨i, m, z, y, ip, H, Nx, hmn, ry, hip, I, ht, nf, hNx, yw, h0, kap⟩ := hv
    have q : (s₁.setGen g gs').gens.size = s₁.gens.size := setGen_size _ _ _
    have hsz1 : g < s₁.gens.size := by
      have hsz' : g + 1 ≤ (s₁.setGen g gs').gens.size := hsz
      omega
    have I' : Inv (gcx X s4 H4 cenv fp pn) ip σ0 H (s₁.setGen g gs') := inv_gens I (allBare_setGen I.bare hb)
    refine hyld i m z y v ip H Nx _ h0 ⟨gs', setGen_at hsz1⟩ ry hip I' ht nf hNx yw fun s2 ip' z' m' H' hg2 hm hR => ?_
    obtain ⟨gs2, h1, h2⟩ := hg2
    rw [setGen_at hsz1] at h2
    cases h2
    have kk := kap (s2.setGen g .running) ip' z' m' H' hm ⟨hR.w, hR.hip, inv_gens hR.inv (allBare_setGen hR.inv.bare rfl), hR.tn, hR.nf⟩
    cases n with
    | zero => exact False.elim kk
    | succ k => exact ⟨gs', k, h1, rfl, kk⟩
  · intro _
    obtain ⟨z, ip, H, hip, sp, I, h0⟩ := hp
    refine hend z ip H _ h0 hip sp ?_
    have I1 : Inv (gcx X s4 H4 cenv fp pn) ip σ0 H (s₁.setGen g .finished) := inv_gens I (allBare_setGen I.bare rfl)
    exact I1.kept (t' := s₁.toks) hk

/-- the loop of all -/
theorem all_loop {Rr : Result → Shared → Prop} {Qf : Bool → Hp → Prop} (hh : X.A.handled = none) (hroom : X.A.depth < recursionLimit) (hgen : ∀ s ip H, Inv (gcx X s4 H4 cenv fp pn) ip σ0 H s → s.heap.IsGen a g)
    (hSp : ∀ z H, Sp z H → Qf true H) (hYw : ∀ z Nx y H, Yw z Nx y H → ∃ c, y = .bl c ∧ if c = true then Nx z H else Qf false H)
    (hR : ∀ b ip H s', Inv (gcx X s4 H4 cenv fp pn) ip σ0 H s' → Qf b H → Rr (.ok (.ret (.bool b))) s') :
    ∀ (n : Nat) (s : Shared), (∃ gs, s.gens[g]? = some gs ∧ gs.Goes (model X.prog X.w) X.A.in1.in1 (fun n s₀ r s₁ => r = .ok .next ∧ GEndP X s4 H4 cenv fp pn σ0 Ip Sp s₀ s₁) (GYield X s4 H4 cenv fp pn tn σ0 W Ip Yw) n (.send .none) (s.setGen g .running)) →
      s.heap.NoLimit → s.heap.IsGen a g → codeAny (model X.prog X.w) X.A (.builtin "all.loop" ⟨[.ref a], []⟩) Rr s := by
  intro n
  induction n using Nat.strongRecOn with
  | ind n ih =>
    intro s ⟨gs, hgs, hgo⟩ hl hg
    refine codeAny_builtin F.entry_all_loop ?_
    rw [Around.under_plainId F.plain_all_loop _]
    show wpAny _ X.A.in1 (pyNext (.ref a) >>= _) _ _ s
    refine wpAny_bind (next_of (A := X.A) hh hroom hl hg hgs hgo (fun z ip H s' h0 hip sp I => ?_) (fun i m z y v ip H Nx s' h0 ⟨gs1, hgs1⟩ ry hip I ht nf hNx yw res => ?_))
    · refine wpAny_bind (wpAny_rule (wpAny_pure ?_))
      exact hR true ip H s' I (hSp z H sp)
    · obtain ⟨c, rfl, hc⟩ := hYw z Nx y H yw
      obtain rfl : v = Value.bool c := ry
      refine wpAny_bind (wpAny_holding (wpAny_truthy_bool ?_))
      refine wpAny_bind (wpAny_letGo ?_)
      cases c with
      | true =>
        simp only [if_true] at hc ⊢
        obtain ⟨m', hm, w'⟩ := hNx _ _ hc
        refine wpAny_pure ⟨plainId_quiet F.plain_all_loop _, ?_⟩
        obtain ⟨gs2, k, h1, h2, h3⟩ := res s' ip z m' H ⟨gs1, hgs1, hgs1⟩ hm ⟨w', hip, I, ht, nf⟩
        exact ih k (by omega) s' ⟨gs2, h1, h3⟩ I.nolimit (hgen _ _ _ I)
      | false =>
        simp only [Bool.false_eq_true, if_false] at hc ⊢
        refine wpAny_bind (wpAny_rule (wpAny_pure ?_))
        exact hR false ip H s' I hc
theorem any_loop {Rr : Result → Shared → Prop} {Qf : Bool → Hp → Prop} (hh : X.A.handled = none) (hroom : X.A.depth < recursionLimit) (hgen : ∀ s ip H, Inv (gcx X s4 H4 cenv fp pn) ip σ0 H s → s.heap.IsGen a g)
    (hSp : ∀ z H, Sp z H → Qf false H) (hYw : ∀ z Nx y H, Yw z Nx y H → ∃ c, y = .bl c ∧ if c = true then Qf true H else Nx z H)
    (hR : ∀ b ip H s', Inv (gcx X s4 H4 cenv fp pn) ip σ0 H s' → Qf b H → Rr (.ok (.ret (.bool b))) s') :
    ∀ (n : Nat) (s : Shared), (∃ gs, s.gens[g]? = some gs ∧ gs.Goes (model X.prog X.w) X.A.in1.in1 (fun n s₀ r s₁ => r = .ok .next ∧ GEndP X s4 H4 cenv fp pn σ0 Ip Sp s₀ s₁) (GYield X s4 H4 cenv fp pn tn σ0 W Ip Yw) n (.send .none) (s.setGen g .running)) →
      s.heap.NoLimit → s.heap.IsGen a g → codeAny (model X.prog X.w) X.A (.builtin "any.loop" ⟨[.ref a], []⟩) Rr s := by
  intro n
  induction n using Nat.strongRecOn with
  | ind n ih =>
    intro s ⟨gs, hgs, hgo⟩ hl hg
    refine codeAny_builtin F.entry_any_loop ?_
    rw [Around.under_plainId F.plain_any_loop _]
    show wpAny _ X.A.in1 (pyNext (.ref a) >>= _) _ _ s
    refine wpAny_bind (next_of (A := X.A) hh hroom hl hg hgs hgo (fun z ip H s' h0 hip sp I => ?_) (fun i m z y v ip H Nx s' h0 ⟨gs1, hgs1⟩ ry hip I ht nf hNx yw res => ?_))
    · refine wpAny_bind (wpAny_rule (wpAny_pure ?_))
      exact hR false ip H s' I (hSp z H sp)
    · obtain ⟨c, rfl, hc⟩ := hYw z Nx y H yw
      obtain rfl : v = Value.bool c := ry
      refine wpAny_bind (wpAny_holding (wpAny_truthy_bool ?_))
      refine wpAny_bind (wpAny_letGo ?_)
      cases c with
      | false =>
        simp only [Bool.false_eq_true, if_false] at hc ⊢
        obtain ⟨m', hm, w'⟩ := hNx _ _ hc
        refine wpAny_pure ⟨plainId_quiet F.plain_any_loop _, ?_⟩
        obtain ⟨gs2, k, h1, h2, h3⟩ := res s' ip z m' H ⟨gs1, hgs1, hgs1⟩ hm ⟨w', hip, I, ht, nf⟩
        exact ih k (by omega) s' ⟨gs2, h1, h3⟩ I.nolimit (hgen _ _ _ I)
      | true =>
        simp only [if_true] at hc ⊢
        refine wpAny_bind (wpAny_rule (wpAny_pure ?_))
        exact hR true ip H s' I hc
/-- sum's own list -/
abbrev accObj (z : Int) (t : Tok) (c : Nat) : Obj := { cls := .type "list", dict := none, data := .seq #[.int z t] c, slots := #[] }
def IpSum (S : Addr) (z : Int) (ip : List (Addr × Obj)) : Prop := ∃ t c, ip = [(S, accObj z t c)]
theorem inv_acc {S : Addr} {H : Hp} {s : Shared} {z z' : Int} {t t' : Tok} {c c' : Nat} {h' : Heap} {tk : Nat} (I : Inv (gcx X s4 H4 cenv fp pn) [(S, accObj z t c)] σ0 H s)
    (hSfp : S ∉ fp) (hSpn : ∀ p ∈ pn, p.1 ≠ S) (hS4 : s4.heap.objs.size ≤ S) (hk : ∀ b o, b ≠ S → s.heap.get? b = some o → h'.get? b = some o) (hS : h'.get? S = some (accObj z' t' c')) :
    Inv (gcx X s4 H4 cenv fp pn) [(S, accObj z' t' c')] σ0 H { s with heap := h', toks := tk } := by
  obtain ⟨p1, p2, p3, p4, p5⟩ := I.pin (S, accObj z t c) (List.mem_append_right _ (List.mem_singleton.mpr rfl))
  have I0 : Inv (gcx X s4 H4 cenv fp pn) [] σ0 H s := I.pins_of fun p hp => absurd hp (by simp)
  have I1 : Inv (gcx X s4 H4 cenv fp pn) [] σ0 H { s with heap := h', toks := tk } := by
    refine I0.turned (it := S) hk p2 p3 (.inr hS4) (fun x cc e zz => ?_) fun p hp => ?_
    · obtain ⟨v, o, ho, hd⟩ := I.cell x cc e
      rw [zz, p1] at ho
      cases ho
      cases hd
    · rw [List.append_nil] at hp
      exact hSpn p hp
  refine I1.pins_of fun p hp => ?_
  rw [List.mem_singleton.mp hp]
  exact ⟨hS, p2, p3, p4, fun v q => by cases q⟩
theorem sum_loop {Rr : Result → Shared → Prop} {Qf : Int → Hp → Prop} {S : Addr} (hh : X.A.handled = none) (hroom : X.A.depth < recursionLimit) (hgen : ∀ s ip H, Inv (gcx X s4 H4 cenv fp pn) ip σ0 H s → s.heap.IsGen a g)
    (hSfp : S ∉ fp) (hSpn : ∀ p ∈ pn, p.1 ≠ S) (hS4 : s4.heap.objs.size ≤ S) (hkeep : ∀ i (h h' : Heap), tn i h → (∀ b ∈ fp, ∀ o, h.get? b = some o → h'.get? b = some o) → tn i h')
    (hSp : ∀ z H, Sp z H → Qf z H) (hYw : ∀ z Nx y H, Yw z Nx y H → ∃ v, y = .int v ∧ InLong v ∧ InLong (z + v) ∧ Nx (z + v) H)
    (hR : ∀ z t ip H s', Inv (gcx X s4 H4 cenv fp pn) ip σ0 H s' → Qf z H → Rr (.ok (.ret (.int z t))) s') :
    ∀ (n : Nat) (s : Shared) (z0 : Int) (tA : Tok) (c0 : Nat), s.heap.get? S = some (accObj z0 tA c0) →
      (∃ gs, s.gens[g]? = some gs ∧ gs.Goes (model X.prog X.w) X.A.in1.in1 (fun n s₀ r s₁ => r = .ok .next ∧ GEndP X s4 H4 cenv fp pn σ0 (IpSum S) Sp s₀ s₁) (GYield X s4 H4 cenv fp pn tn σ0 W (IpSum S) Yw) n (.send .none) (s.setGen g .running)) →
      s.heap.NoLimit → s.heap.IsGen a g → codeAny (model X.prog X.w) X.A (.builtin "sum.loop" ⟨[.ref a, .ref S, rawInt 0, rawInt 0], []⟩) Rr s := by
  intro n
  induction n using Nat.strongRecOn with
  | ind n ih =>
    intro s z0 tA c0 hS ⟨gs, hgs, hgo⟩ hl hg
    refine codeAny_builtin F.entry_sum_loop ?_
    rw [Around.under_plainId F.plain_sum_loop _]
    show wpAny _ X.A.in1 (seqItems? (.ref S) >>= _) _ _ s
    refine wpAny_bind (wpAny_seqItems hS rfl ?_)
    show wpAny _ X.A.in1 (tryCatch (pyNext (.ref a)) _ >>= _) _ _ s
    refine wpAny_bind (wpAny_tryCatch (next_of (A := X.A) hh hroom hl hg hgs hgo (fun z ip H s' h0 hip sp I => ?_) (fun i m z y v ip H Nx s' h0 ⟨gs1, hgs1⟩ ry hip I ht nf hNx yw res => ?_)))
    · obtain ⟨t, c, rfl⟩ := hip
      have e := h0 (S, accObj z t c) (List.mem_singleton.mpr rfl)
      rw [hS] at e
      injection Option.some.inj e with _ _ e3 _
      injection e3 with e4 _
      have e5 : Value.int z0 tA = Value.int z t := by
        have := congrArg (fun q : Array Value => q[0]?) e4
        simpa using this
      injection e5 with e6 e7
      subst e6
      exact wpAny_pure (hR z0 tA _ H s' I (hSp z0 H sp))
    · obtain ⟨t, c, rfl⟩ := hip
      have e := h0 (S, accObj z t c) (List.mem_singleton.mpr rfl)
      rw [hS] at e
      injection Option.some.inj e with _ _ e3 _
      injection e3 with e4 _
      have e5 : Value.int z0 tA = Value.int z t := by
        have := congrArg (fun q : Array Value => q[0]?) e4
        simpa using this
      injection e5 with e6 e7
      subst e6
      obtain ⟨v0, rfl, ⟨f1, f2⟩, ⟨f3, f4⟩, hnx⟩ := hYw z0 Nx y H yw
      obtain ⟨m', hm, w'⟩ := hNx _ _ hnx
      obtain ⟨tv, rfl⟩ : ∃ tv, v = Value.int v0 tv := ry
      have hS' : s'.heap.get? S = some (accObj z0 t c) := (I.pin (S, accObj z0 t c) (List.mem_append_right _ (List.mem_singleton.mpr rfl))).1
      have hc : ((decide (-(2 ^ 63) ≤ v0) && decide (v0 < 2 ^ 63)) && (decide (-(2 ^ 63) ≤ z0 + v0) && decide (z0 + v0 < 2 ^ 63))) = true := by
        simp only [Bool.and_eq_true, decide_eq_true_eq]
        exact ⟨⟨f1, f2⟩, f3, f4⟩
      show wpAny _ X.A.in1 (if (_ : Bool) = true then (mkInt (z0 + v0) >>= _) else _) _ _ _
      split
      · refine wpAny_bind (wpAny_mkInt ?_)
        show wpAny _ X.A.in1 (updateSeq S (fun _ => #[.int (z0 + v0) s'.toks]) >>= _) _ _ _
        refine wpAny_bind ?_
        refine wpAny_updateSeq hS' rfl (wpAny_pure ⟨plainId_quiet F.plain_sum_loop _, ?_⟩)
        obtain ⟨c', hup⟩ : ∃ c', (s'.heap.update S (Obj.mapSeq (fun _ => #[.int (z0 + v0) s'.toks]))).get? S = some (accObj (z0 + v0) s'.toks c') := ⟨_, Heap.get?_update_self _ hS' rfl⟩
        have I2 : Inv (gcx X s4 H4 cenv fp pn) [(S, accObj (z0 + v0) s'.toks c')] σ0 H { s' with heap := s'.heap.update S (Obj.mapSeq (fun _ => #[.int (z0 + v0) s'.toks])), toks := s'.toks + 1 } :=
          inv_acc I hSfp hSpn hS4 (fun b o hb e => (Heap.get?_update_other _ _ (Ne.symm hb)).trans e) hup
        obtain ⟨gs2, k, h1, h2, h3⟩ := res { s' with heap := s'.heap.update S (Obj.mapSeq (fun _ => #[.int (z0 + v0) s'.toks])), toks := s'.toks + 1 } [(S, accObj (z0 + v0) s'.toks c')] (z0 + v0) m' H ⟨gs1, hgs1, hgs1⟩ hm
          ⟨w', ⟨_, _, rfl⟩, I2, hkeep _ _ _ ht fun b hb o e => (Heap.get?_update_other _ _ (fun z : S = b => hSfp (by rw [z]; exact hb))).trans e, nf⟩
        exact ih k (by omega) _ (z0 + v0) s'.toks c' hup ⟨gs2, h1, h3⟩ I2.nolimit (hgen _ _ _ I2)
      · rename_i hneg
        exact absurd hc hneg
end

/-! ### the rules -/
section
variable {X : Cx}
/-- all(elt for tg in iter if ..), by an invariant W of the turn, a measure and the heap -/
def tAllG (P : Addr) (wi : TI) (g : TG) (tt : TT) (te : TE) (vs : List Nat) : TE := fun σ H Q => wi σ H fun J H1 => TabG H1 P ∧ ∀ H2, Tabbed P H1 H2 → ∃ W : Nat → Nat → Hp → Prop, (∃ m, W 0 m H2) ∧ ∀ i m H, W i m H →
  (J.stop i H ∧ Q (.bl true) H) ∨ (J.go i H ∧ ∃ Nx : Hp → Prop, (∀ H', Nx H' → ∃ m', m' < m ∧ W (i + 1) m' H') ∧ ∀ x H', J.yld i H x H' → g x (wipe σ vs) H' fun σ2 H2 => wipe σ2 vs = wipe σ vs ∧ tt σ2 H2 fun b H3 =>
    if b = true then te σ2 H3 fun y H4 => ∃ c, y = .bl c ∧ if c = true then Nx H4 else Q (.bl false) H4 else Nx H3)
def tAnyG (P : Addr) (wi : TI) (g : TG) (tt : TT) (te : TE) (vs : List Nat) : TE := fun σ H Q => wi σ H fun J H1 => TabG H1 P ∧ ∀ H2, Tabbed P H1 H2 → ∃ W : Nat → Nat → Hp → Prop, (∃ m, W 0 m H2) ∧ ∀ i m H, W i m H →
  (J.stop i H ∧ Q (.bl false) H) ∨ (J.go i H ∧ ∃ Nx : Hp → Prop, (∀ H', Nx H' → ∃ m', m' < m ∧ W (i + 1) m' H') ∧ ∀ x H', J.yld i H x H' → g x (wipe σ vs) H' fun σ2 H2 => wipe σ2 vs = wipe σ vs ∧ tt σ2 H2 fun b H3 =>
    if b = true then te σ2 H3 fun y H4 => ∃ c, y = .bl c ∧ if c = true then Q (.bl true) H4 else Nx H4 else Nx H3)
/-- sum(elt for ..): W bears the sum so far -/
def tSumG (P : Addr) (wi : TI) (g : TG) (tt : TT) (te : TE) (vs : List Nat) : TE := fun σ H Q => wi σ H fun J H1 => TabG H1 P ∧ ∀ H2, Tabbed P H1 H2 → ∃ W : Nat → Nat → Int → Hp → Prop, (∃ m, W 0 m 0 H2) ∧ ∀ i m z H, W i m z H →
  (J.stop i H ∧ Q (.int z) H) ∨ (J.go i H ∧ ∃ Nx : Int → Hp → Prop, (∀ z' H', Nx z' H' → ∃ m', m' < m ∧ W (i + 1) m' z' H') ∧ ∀ x H', J.yld i H x H' → g x (wipe σ vs) H' fun σ2 H2 => wipe σ2 vs = wipe σ vs ∧ tt σ2 H2 fun b H3 =>
    if b = true then te σ2 H3 fun y H4 => ∃ v, y = .int v ∧ InLong v ∧ InLong (z + v) ∧ Nx (z + v) H4 else Nx z H3)
variable {c P : Addr} {elt tg iter : Expr} {ifs : List Expr} {p pos gpos : Pos} {scope : Scope} {own : List (Str × Nat)} {wi : TI} {g : TG} {tt : TT} {te : TE} {k : Nat}
theorem pe_allG (hr : Room k X.A) (hgl : Gl X "all") (hm : X.mg "all" = none) (TB : TabB X.base X.mg c P) (hcode : X.env.code = .ref c) (ok : GenOk X.N X.env.scope scope own) (hN : X.N.Nodup) (hi : PI X tg iter wi)
    (hg : ∀ (s : Shared) (H : Hp) (C : Addr) (cl : List (Str × Addr)) (cd : Value) (fp : List Addr) (pn : List (Addr × Obj)), PG (gcx X s H (genEnv scope cl C cd builtinsNs X.env) fp pn) tg g)
    (ht : ∀ (s : Shared) (H : Hp) (C : Addr) (cl : List (Str × Addr)) (cd : Value) (fp : List Addr) (pn : List (Addr × Obj)), PTs (gcx X s H (genEnv scope cl C cd builtinsNs X.env) fp pn) ifs tt)
    (he : ∀ (s : Shared) (H : Hp) (C : Addr) (cl : List (Str × Addr)) (cd : Value) (fp : List Addr) (pn : List (Addr × Obj)), PE (gcx X s H (genEnv scope cl C cd builtinsNs X.env) fp pn) elt te)
    (hs : ∀ v, genFold iter X.env v = pure v := by intro _; rfl)
    (hst : starEach [.GeneratorExp elt [⟨tg, iter, ifs, 0⟩] scope gpos] X.env = (false, eval (.GeneratorExp elt [⟨tg, iter, ifs, 0⟩] scope gpos) X.env) :: starEach [] X.env := by rfl) :
    PE X (.Call (.Name "all" p) [.GeneratorExp elt [⟨tg, iter, ifs, 0⟩] scope gpos] [] pos) (tAllG P wi g tt te (own.map (·.2))) := by
  refine ⟨fun pins s σ H Q I h => ?_⟩
  refine wpAny_Call_Name_kw (ld_blt I hgl hm boot_all ?_)
  refine PyProof.Rows.callWith_builtin1 ?_ hst (by rfl)
  rw [hst]
  show wpAny _ _ (spliced ((false, eval (.GeneratorExp elt [⟨tg, iter, ifs, 0⟩] scope gpos) X.env) :: backTo pos (starEach [] X.env))) _ _ s
  refine Calls.spliced_cons (gen_made hr TB hcode ok hN hi hs I h fun J H2 s4 s5 cenv it fp tn a gn go hR M => ?_)
  obtain ⟨W, ⟨m0, w0⟩, turn⟩ := hR
  obtain ⟨C, cd, rfl⟩ := M.env
  refine Calls.spliced_nil ?_
  refine call_function_tree F.kind_all F.plain_all F.entry_all (F.args_all1 _) ?_
  unfold Builtin.«all»
  refine wpAny_bind (m := oneArg "all" _) (wpAny_pure ?_)
  have hgen : ∀ s ip H, Inv (gcx X s4 H2 (genEnv scope (cloFrom X.env.cells scope.names []) C cd builtinsNs X.env) fp [(a, go)]) ip (wipe σ (own.map (·.2))) H s → s.heap.IsGen a gn := fun s ip H I' =>
    M.gen _ (I'.pin (a, go) (List.mem_append_left _ (List.mem_singleton.mpr rfl))).1
  have hg5 := hgen _ _ _ M.inv
  refine wpAny_bind (wpAny_pyIter_gen hg5 ?_)
  have sg := seg_first (W := fun i m _ H => W i m H) (Ip := fun _ ip => ip = []) (Sp := fun _ H => Q (.bl true) H) (Yw := fun z Nx y H => ∃ c, y = .bl c ∧ if c = true then Nx z H else Q (.bl false) H) (vs := own.map (·.2)) (σ0 := wipe σ (own.map (·.2)))
    (iter := iter) (scope := scope) (pos := gpos) (s := s5.setGen gn .running) (s₀ := s5.setGen gn .running) (m := m0) (n := m0 + 1) (z := 0) (ip := []) (H := H2) ok.co (fun z ip hip b hb q hq e => ?_) M.turn (hg s4 H2 C (cloFrom X.env.cells scope.names []) cd fp [(a, go)]) (ht s4 H2 C (cloFrom X.env.cells scope.names []) cd fp [(a, go)]) (he s4 H2 C (cloFrom X.env.cells scope.names []) cd fp [(a, go)])
    (fun i m z H w => ?_) (Nat.lt_succ_self _) ⟨w0, rfl, inv_gens M.inv (allBare_setGen M.inv.bare rfl), M.tn0, fun b hb => (M.fok b hb).1⟩ (fun p hp => absurd hp (by simp))
  · exact wpAny_pure ⟨plainId_quiet F.plain_all_loop _, all_loop (Qf := fun b H => Q (.bl b) H) hr.hd (by have := hr.dp; omega) hgen (fun _ _ h => h) (fun z Nx y H h => h) (fun b ip H s' I' q => ⟨.bl b, H, back M.i4 M.fok I', rfl, q⟩) (m0 + 1) s5 ⟨_, M.gs, rfl, sg⟩ M.inv.nolimit hg5⟩
  · subst hip
    rw [List.append_nil] at hq
    rw [List.mem_singleton.mp hq] at e
    have := M.fa b hb
    rw [← e] at this
    exact Nat.lt_irrefl _ this
  · rcases turn i m H w with h1 | ⟨go1, Nx, h2, h3⟩
    · exact .inl h1
    · exact .inr ⟨go1, fun _ H => Nx H, fun _ H' => h2 H', h3⟩
theorem pe_anyG (hr : Room k X.A) (hgl : Gl X "any") (hm : X.mg "any" = none) (TB : TabB X.base X.mg c P) (hcode : X.env.code = .ref c) (ok : GenOk X.N X.env.scope scope own) (hN : X.N.Nodup) (hi : PI X tg iter wi)
    (hg : ∀ (s : Shared) (H : Hp) (C : Addr) (cl : List (Str × Addr)) (cd : Value) (fp : List Addr) (pn : List (Addr × Obj)), PG (gcx X s H (genEnv scope cl C cd builtinsNs X.env) fp pn) tg g)
    (ht : ∀ (s : Shared) (H : Hp) (C : Addr) (cl : List (Str × Addr)) (cd : Value) (fp : List Addr) (pn : List (Addr × Obj)), PTs (gcx X s H (genEnv scope cl C cd builtinsNs X.env) fp pn) ifs tt)
    (he : ∀ (s : Shared) (H : Hp) (C : Addr) (cl : List (Str × Addr)) (cd : Value) (fp : List Addr) (pn : List (Addr × Obj)), PE (gcx X s H (genEnv scope cl C cd builtinsNs X.env) fp pn) elt te)
    (hs : ∀ v, genFold iter X.env v = pure v := by intro _; rfl)
    (hst : starEach [.GeneratorExp elt [⟨tg, iter, ifs, 0⟩] scope gpos] X.env = (false, eval (.GeneratorExp elt [⟨tg, iter, ifs, 0⟩] scope gpos) X.env) :: starEach [] X.env := by rfl) :
    PE X (.Call (.Name "any" p) [.GeneratorExp elt [⟨tg, iter, ifs, 0⟩] scope gpos] [] pos) (tAnyG P wi g tt te (own.map (·.2))) := by
  refine ⟨fun pins s σ H Q I h => ?_⟩
  refine wpAny_Call_Name_kw (ld_blt I hgl hm boot_any ?_)
  refine PyProof.Rows.callWith_builtin1 ?_ hst (by rfl)
  rw [hst]
  show wpAny _ _ (spliced ((false, eval (.GeneratorExp elt [⟨tg, iter, ifs, 0⟩] scope gpos) X.env) :: backTo pos (starEach [] X.env))) _ _ s
  refine Calls.spliced_cons (gen_made hr TB hcode ok hN hi hs I h fun J H2 s4 s5 cenv it fp tn a gn go hR M => ?_)
  obtain ⟨W, ⟨m0, w0⟩, turn⟩ := hR
  obtain ⟨C, cd, rfl⟩ := M.env
  refine Calls.spliced_nil ?_
  refine call_function_tree F.kind_any F.plain_any F.entry_any (F.args_any1 _) ?_
  unfold Builtin.«any»
  refine wpAny_bind (m := oneArg "any" _) (wpAny_pure ?_)
  have hgen : ∀ s ip H, Inv (gcx X s4 H2 (genEnv scope (cloFrom X.env.cells scope.names []) C cd builtinsNs X.env) fp [(a, go)]) ip (wipe σ (own.map (·.2))) H s → s.heap.IsGen a gn := fun s ip H I' =>
    M.gen _ (I'.pin (a, go) (List.mem_append_left _ (List.mem_singleton.mpr rfl))).1
  have hg5 := hgen _ _ _ M.inv
  refine wpAny_bind (wpAny_pyIter_gen hg5 ?_)
  have sg := seg_first (W := fun i m _ H => W i m H) (Ip := fun _ ip => ip = []) (Sp := fun _ H => Q (.bl false) H) (Yw := fun z Nx y H => ∃ c, y = .bl c ∧ if c = true then Q (.bl true) H else Nx z H) (vs := own.map (·.2)) (σ0 := wipe σ (own.map (·.2)))
    (iter := iter) (scope := scope) (pos := gpos) (s := s5.setGen gn .running) (s₀ := s5.setGen gn .running) (m := m0) (n := m0 + 1) (z := 0) (ip := []) (H := H2) ok.co (fun z ip hip b hb q hq e => ?_) M.turn (hg s4 H2 C (cloFrom X.env.cells scope.names []) cd fp [(a, go)]) (ht s4 H2 C (cloFrom X.env.cells scope.names []) cd fp [(a, go)]) (he s4 H2 C (cloFrom X.env.cells scope.names []) cd fp [(a, go)])
    (fun i m z H w => ?_) (Nat.lt_succ_self _) ⟨w0, rfl, inv_gens M.inv (allBare_setGen M.inv.bare rfl), M.tn0, fun b hb => (M.fok b hb).1⟩ (fun p hp => absurd hp (by simp))
  · exact wpAny_pure ⟨plainId_quiet F.plain_any_loop _, any_loop (Qf := fun b H => Q (.bl b) H) hr.hd (by have := hr.dp; omega) hgen (fun _ _ h => h) (fun z Nx y H h => h) (fun b ip H s' I' q => ⟨.bl b, H, back M.i4 M.fok I', rfl, q⟩) (m0 + 1) s5 ⟨_, M.gs, rfl, sg⟩ M.inv.nolimit hg5⟩
  · subst hip
    rw [List.append_nil] at hq
    rw [List.mem_singleton.mp hq] at e
    have := M.fa b hb
    rw [← e] at this
    exact Nat.lt_irrefl _ this
  · rcases turn i m H w with h1 | ⟨go1, Nx, h2, h3⟩
    · exact .inl h1
    · exact .inr ⟨go1, fun _ H => Nx H, fun _ H' => h2 H', h3⟩
theorem pe_sumG (hr : Room k X.A) (hgl : Gl X "sum") (hm : X.mg "sum" = none) (TB : TabB X.base X.mg c P) (hcode : X.env.code = .ref c) (ok : GenOk X.N X.env.scope scope own) (hN : X.N.Nodup) (hi : PI X tg iter wi)
    (hg : ∀ (s : Shared) (H : Hp) (C : Addr) (cl : List (Str × Addr)) (cd : Value) (fp : List Addr) (pn : List (Addr × Obj)), PG (gcx X s H (genEnv scope cl C cd builtinsNs X.env) fp pn) tg g)
    (ht : ∀ (s : Shared) (H : Hp) (C : Addr) (cl : List (Str × Addr)) (cd : Value) (fp : List Addr) (pn : List (Addr × Obj)), PTs (gcx X s H (genEnv scope cl C cd builtinsNs X.env) fp pn) ifs tt)
    (he : ∀ (s : Shared) (H : Hp) (C : Addr) (cl : List (Str × Addr)) (cd : Value) (fp : List Addr) (pn : List (Addr × Obj)), PE (gcx X s H (genEnv scope cl C cd builtinsNs X.env) fp pn) elt te)
    (hs : ∀ v, genFold iter X.env v = pure v := by intro _; rfl)
    (hst : starEach [.GeneratorExp elt [⟨tg, iter, ifs, 0⟩] scope gpos] X.env = (false, eval (.GeneratorExp elt [⟨tg, iter, ifs, 0⟩] scope gpos) X.env) :: starEach [] X.env := by rfl) :
    PE X (.Call (.Name "sum" p) [.GeneratorExp elt [⟨tg, iter, ifs, 0⟩] scope gpos] [] pos) (tSumG P wi g tt te (own.map (·.2))) := by
  refine ⟨fun pins s σ H Q I h => ?_⟩
  refine wpAny_Call_Name_kw (ld_blt I hgl hm boot_sum ?_)
  refine PyProof.Rows.callWith_builtin1 ?_ hst (by rfl)
  rw [hst]
  show wpAny _ _ (spliced ((false, eval (.GeneratorExp elt [⟨tg, iter, ifs, 0⟩] scope gpos) X.env) :: backTo pos (starEach [] X.env))) _ _ s
  refine Calls.spliced_cons (gen_made hr TB hcode ok hN hi hs I h fun J H2 s4 s5 cenv it fp tn a gn go hR M => ?_)
  obtain ⟨W, ⟨m0, w0⟩, turn⟩ := hR
  obtain ⟨C, cd, rfl⟩ := M.env
  refine Calls.spliced_nil ?_
  refine call_function_tree F.kind_sum F.plain_sum F.entry_sum (F.args_sum1 _) ?_
  unfold Builtin.«sum»
  simp only [List.length_cons, List.length_nil]
  rw [if_neg (by decide)]
  refine wpAny_bind (wpAny_of_eq (show Builtin.Builtins.bindParams "sum" ["start"] 0 { } = pure [none] from rfl) ?_)
  have hgen : ∀ s ip H, Inv (gcx X s4 H2 (genEnv scope (cloFrom X.env.cells scope.names []) C cd builtinsNs X.env) fp [(a, go)]) ip (wipe σ (own.map (·.2))) H s → s.heap.IsGen a gn := fun s ip H I' =>
    M.gen _ (I'.pin (a, go) (List.mem_append_left _ (List.mem_singleton.mpr rfl))).1
  have hg5 := hgen _ _ _ M.inv
  refine wpAny_bind (wpAny_pyIter_gen hg5 ?_)
  refine wpAny_bind (wpAny_mkInt ?_)
  refine wpAny_bind (wpAny_pure ?_)
  simp only [List.forIn_cons, List.forIn_nil]
  refine wpAny_bind (wpAny_bind (wpAny_bind (wpAny_isInstance (T := "int") (b := false) (typeIs_int _ _ _) PySem.sub_int_str ?_)))
  simp only [Bool.false_eq_true, if_false]
  refine wpAny_pure (wpAny_bind (wpAny_bind (wpAny_isInstance (T := "int") (b := false) (typeIs_int _ _ _) PySem.sub_int_bytes ?_)))
  simp only [Bool.false_eq_true, if_false]
  refine wpAny_pure (wpAny_bind (wpAny_bind (wpAny_isInstance (T := "int") (b := false) (typeIs_int _ _ _) PySem.sub_int_bytearray ?_)))
  simp only [Bool.false_eq_true, if_false]
  refine wpAny_pure (wpAny_pure ?_)
  refine wpAny_bind (wpAny_newObj_type ?_)
  have Sz : s4.heap.objs.size ≤ s5.heap.objs.size := M.inv.sz
  have hSfp : s5.heap.objs.size ∉ fp := fun hm => by
    have h1 := M.fa _ hm
    have h2 := M.lt
    exact absurd (Nat.lt_trans h1 h2) (Nat.lt_irrefl _)
  have I6 : Inv (gcx X s4 H2 (genEnv scope (cloFrom X.env.cells scope.names []) C cd builtinsNs X.env) fp [(a, go)]) [(s5.heap.objs.size, accObj 0 s5.toks 0)] (wipe σ (own.map (·.2))) H2 { s5 with heap := s5.heap.push (accObj 0 s5.toks 0), toks := s5.toks + 1 } := by
    have I0 : Inv (gcx X s4 H2 (genEnv scope (cloFrom X.env.cells scope.names []) C cd builtinsNs X.env) fp [(a, go)]) [] (wipe σ (own.map (·.2))) H2 { s5 with heap := s5.heap.push (accObj 0 s5.toks 0), toks := s5.toks + 1 } := M.inv.kept fun b o e => Heap.get?_push_of_some _ e
    refine I0.pins_of fun p hp => ?_
    rw [List.mem_singleton.mp hp]
    have fk := M.inv.fpOk (Nat.le_refl _) (M.inv.hok.fresh (Nat.le_refl _))
    exact ⟨Heap.get?_push_size _ rfl, fk.1, fk.2.1, fk.2.2.1, fun v q => by cases q⟩
  generalize hs6 : ({ s5 with heap := s5.heap.push (accObj 0 s5.toks 0), toks := s5.toks + 1 } : Shared) = s6 at I6
  have hS6 : s6.heap.get? s5.heap.objs.size = some (accObj 0 s5.toks 0) := (I6.pin (s5.heap.objs.size, accObj 0 s5.toks 0) (List.mem_append_right _ (List.mem_singleton.mpr rfl))).1
  have gs6 : s6.gens = s5.gens := by rw [← hs6]
  have st6 : tn 0 s6.heap := M.turn.keep _ _ _ M.tn0 fun b _ o e => by rw [← hs6]; exact Heap.get?_push_of_some _ e
  have sg := seg_first (W := W) (Ip := IpSum s5.heap.objs.size) (Sp := fun z H => Q (.int z) H) (Yw := fun z Nx y H => ∃ v, y = .int v ∧ InLong v ∧ InLong (z + v) ∧ Nx (z + v) H) (vs := own.map (·.2)) (σ0 := wipe σ (own.map (·.2)))
    (iter := iter) (scope := scope) (pos := gpos) (s := s6.setGen gn .running) (s₀ := s6.setGen gn .running) (m := m0) (n := m0 + 1) (z := 0) (ip := [(s5.heap.objs.size, accObj 0 s5.toks 0)]) (H := H2) ok.co (fun z ip hip b hb q hq e => ?_) M.turn (hg s4 H2 C (cloFrom X.env.cells scope.names []) cd fp [(a, go)]) (ht s4 H2 C (cloFrom X.env.cells scope.names []) cd fp [(a, go)]) (he s4 H2 C (cloFrom X.env.cells scope.names []) cd fp [(a, go)])
    (show Turns J g tt te (wipe σ (own.map (·.2))) (own.map (·.2)) W (fun z H => Q (.int z) H) (fun z Nx y H => ∃ v, y = .int v ∧ InLong v ∧ InLong (z + v) ∧ Nx (z + v) H) from turn) (Nat.lt_succ_self _) ⟨w0, ⟨_, _, rfl⟩, inv_gens I6 (allBare_setGen I6.bare rfl), st6, fun b hb => (M.fok b hb).1⟩ (fun p hp => by rw [List.mem_singleton.mp hp]; exact hS6)
  · refine wpAny_pure ⟨plainId_quiet F.plain_sum_loop _, ?_⟩
    exact sum_loop (W := W) (S := s5.heap.objs.size) (a := a) (Qf := fun z H => Q (.int z) H) hr.hd (by have := hr.dp; omega) hgen hSfp (fun p hp e => by
        rw [List.mem_singleton.mp hp] at e
        have h2 := M.lt
        rw [show a = s5.heap.objs.size from e] at h2
        exact Nat.lt_irrefl _ h2) Sz M.turn.keep (fun _ _ h => h) (fun z Nx y H h => h) (fun z t ip H s' I' q => ⟨.int z, H, back M.i4 M.fok I', ⟨t, rfl⟩, q⟩) (m0 + 1) s6 0 s5.toks 0 hS6 ⟨.fresh _, by rw [gs6]; exact M.gs, rfl, sg⟩ I6.nolimit (hgen _ _ _ I6)
  · obtain ⟨t, c, rfl⟩ := hip
    rcases List.mem_append.mp hq with hq | hq
    · rw [List.mem_singleton.mp hq] at e
      have := M.fa b hb
      rw [← e] at this
      exact Nat.lt_irrefl _ this
    · rw [List.mem_singleton.mp hq] at e
      exact hSfp (by rw [show s5.heap.objs.size = b from e]; exact hb)
end
end GX

namespace GE
open PySem PySem.Spec PyProof.Rows L2
open AutoSeq1 (wpAny_loadPart')
theorem enum_newT (l : Addr) (items : Array Value) (n : Nat) (dct : Option Addr) (sl : Array (Option Value)) :
    Meets (Builtin.«enumerate.__new__» ⟨[.type "enumerate", .ref l], []⟩) (fun _ R s => s.heap.get? l = some { cls := .type "tuple", dict := dct, data := .seq items n, slots := sl } ∧
      R (.ok (.ret (.ref (s.heap.push { cls := .type "tuple_iterator", data := .fields #[.ref l, .int 0 0] }).objs.size)))
        { s with heap := (s.heap.push { cls := .type "tuple_iterator", data := .fields #[.ref l, .int 0 0] }).push { cls := .type "enumerate", data := .fields #[.none, .bool false, .ref s.heap.objs.size, rawInt 0, .none, .none] } }) :=
  .of_wp fun prog w A R s h => by
    obtain ⟨hp, g, d, tk, os⟩ := s; obtain ⟨hl, h⟩ := h
    have hsub := sub_enumerate
    have hL : Heap.IsTuple (Shared.heap ⟨hp, g, d, tk, os⟩) l items := ⟨_, hl, rfl, n, rfl⟩
    wp_walk using wpAny_loadPart' hl
    refine wpAny_stack_any fun st => wpAny_pure ?_
    split
    · rename_i c _ _ _ _ _
      cases (c == Value.type "enumerate")
      · wp_walk using wpAny_loadPart' hl, wpAny_pyIter_tuple hL
        exact ⟨_, rfl, h⟩
      · wp_walk using wpAny_loadPart' hl, wpAny_pyIter_tuple hL
        exact ⟨_, rfl, h⟩
    · wp_walk using wpAny_loadPart' hl, wpAny_pyIter_tuple hL
      exact ⟨_, rfl, h⟩

section
variable {prog : Program} {w : World} {A : Around} {E : Value → Shared → Prop} {s : Shared}
theorem enum_callT {l : Addr} {items : Array Value} {Q : Value → Shared → Prop} (hL : s.heap.IsTuple l items)
    (h : ∀ h', IsEnum h' (s.heap.objs.size + 1) s.heap.objs.size 0 .none → h'.IsTupleIter s.heap.objs.size l 0 → h'.objs.size = s.heap.objs.size + 2 →
      (∀ b o, s.heap.get? b = some o → h'.get? b = some o) → Q (.ref (s.heap.objs.size + 1)) { s with heap := h' }) :
    wpAny (model prog w) A (call (.type "enumerate") [.ref l]) Q E s := by
  obtain ⟨⟨c, dct, dt, sl⟩, hl, hc, n, hd⟩ := hL
  replace hc : c = .type "tuple" := hc
  replace hd : dt = .seq items n := hd
  subst hc hd
  refine callType_new F.called_enumerate (by decide) (F.typeCall_enumerate_1 _) (F.newCall_enumerate_1 _) (fun obj => F.args_object_init_2 obj _) F.entry_enumerate_new
    (enum_newT l items n dct sl) ⟨hl, ?_⟩
  have hz : (s.heap.push { cls := .type "tuple_iterator", data := .fields #[.ref l, .int 0 0] }).objs.size = s.heap.objs.size + 1 := Heap.size_push ..
  show _ ∧ _
  rw [hz]
  have he : IsEnum ((s.heap.push { cls := .type "tuple_iterator", data := .fields #[.ref l, .int 0 0] }).push
      { cls := .type "enumerate", data := .fields #[.none, .bool false, .ref s.heap.objs.size, rawInt 0, .none, .none] }) (s.heap.objs.size + 1) s.heap.objs.size 0 .none := by
    have := Heap.get?_push_size (s.heap.push { cls := .type "tuple_iterator", data := .fields #[.ref l, .int 0 0] })
      (o := { cls := .type "enumerate", data := .fields #[.none, .bool false, .ref s.heap.objs.size, rawInt 0, .none, .none] }) rfl
    rw [hz] at this; exact this
  refine ⟨⟨_, he, rfl⟩, h _ he ⟨_, Heap.get?_push_of_some _ (Heap.get?_push_size _ rfl), rfl, rfl⟩ (by rw [Heap.size_push, hz]) fun b o x => Heap.get?_push_of_some _ (Heap.get?_push_of_some _ x)⟩

theorem nextOf_tup {it l : Addr} {i : Nat} {items} {x : Value} {Q : Value → Shared → Prop} (hit : s.heap.IsTupleIter it l i)
    (hl : s.heap.IsTuple l items) (hx : items[i]? = some x)
    (hQ : ∀ h', h'.IsTupleIter it l (i + 1) → Heap.SameBut it s.heap h' → Q x { s with heap := h' }) :
    wpAny (model prog w) A (Builtin.SmallTypes.nextOf (.ref it)) Q E s := by
  obtain ⟨o, ho, hc, hd⟩ := id hit
  obtain ⟨ol, hol, _, nl, hdl⟩ := hl
  unfold Builtin.SmallTypes.nextOf
  refine wpAny_bind (wpAny_callSpecial?_slot (name := Str.ofString "__next__") hit.typeIs F.slot_tuple_iterator_next
    (wpAny_call_entry F.slot_tuple_iterator_next hit.typeIs F.entry_tuple_iterator_next ?_ (F.args_tuple_iterator_next_1 _)))
  show wpAny _ _ (field (.ref it) 0 >>= _) _ _ s
  refine wpAny_bind (wpAny_field ho hd (x := .ref l) rfl ?_)
  show wpAny _ _ (if (Value.ref l == Value.none) = true then _ else _) _ _ s
  rw [if_neg (show ¬ ((Value.ref l == Value.none) = true) from Bool.false_ne_true)]
  show wpAny _ _ (field (.ref it) 1 >>= _) _ _ s
  refine wpAny_bind (wpAny_field ho hd (x := .int i 0) rfl ?_)
  show wpAny _ _ (seqItems? (.ref l) >>= _) _ _ s
  refine wpAny_bind (wpAny_seqItems hol hdl ?_)
  simp only [Int.toNat_natCast, hx]
  refine wpAny_bind (wpAny_setField ho hd (by simp) (wpAny_pure ⟨x, rfl, wpAny_pure (hQ _ ?_ (Heap.SameBut.update ..))⟩))
  exact ⟨_, Heap.get?_update_self _ ho (Obj.isFreed_of_fields (Obj.data_mapFields hd _)), (Obj.cls_mapFields ..).trans hc, by
    rw [Obj.data_mapFields hd]; simp [rawInt]⟩

theorem nextOf_tupEnd {it l : Addr} {i : Nat} {items} {Q : Value → Shared → Prop} (hh : A.handled = none)
    (hit : s.heap.IsTupleIter it l i) (hl : s.heap.IsTuple l items) (hx : items[i]? = none)
    (hE : ∀ h' e, Heap.ExtBut it s.heap h' → (∃ o, h'.get? e = some o ∧ o.cls = .type "StopIteration") → E (.ref e) { s with heap := h' }) :
    wpAny (model prog w) A (Builtin.SmallTypes.nextOf (.ref it)) Q E s := by
  obtain ⟨o, ho, hc, hd⟩ := id hit
  obtain ⟨ol, hol, _, nl, hdl⟩ := hl
  unfold Builtin.SmallTypes.nextOf
  refine wpAny_bind (wpAny_callSpecial?_slot (name := Str.ofString "__next__") hit.typeIs F.slot_tuple_iterator_next
    (wpAny_call_entry F.slot_tuple_iterator_next hit.typeIs F.entry_tuple_iterator_next ?_ (F.args_tuple_iterator_next_1 _)))
  show wpAny _ _ (field (.ref it) 0 >>= _) _ _ s
  refine wpAny_bind (wpAny_field ho hd (x := .ref l) rfl ?_)
  show wpAny _ _ (if (Value.ref l == Value.none) = true then _ else _) _ _ s
  rw [if_neg (show ¬ ((Value.ref l == Value.none) = true) from Bool.false_ne_true)]
  show wpAny _ _ (field (.ref it) 1 >>= _) _ _ s
  refine wpAny_bind (wpAny_field ho hd (x := .int i 0) rfl ?_)
  show wpAny _ _ (seqItems? (.ref l) >>= _) _ _ s
  refine wpAny_bind (wpAny_seqItems hol hdl ?_)
  simp only [Int.toNat_natCast, hx]
  refine wpAny_bind (wpAny_rule (wpAny_bind (wpAny_setField ho hd (by simp) ?_)))
  show wpAny _ _ (newExc (.type "StopIteration") [] >>= _) _ _ _
  refine wpAny_bind ?_
  simp only [newExc, newTuple]
  refine wpAny_bind (wpAny_newObj_type ?_ (by size_fits))
  refine wpAny_bind (m := firstArgMember _ _) (wpAny_of_eq (a := Value.none) (by first | rfl | (simp only [firstArgMember]; rfl)) ?_)
  refine wpAny_newObj_type ?_ (by size_fits)
  simp only [raiseNew]
  refine wpAny_bind (wpAny_handled ?_)
  first | rw [show A.in1.handled = none from hh] | rw [hh]
  refine wpAny_bind (wpAny_pure (wpAny_throw ?_))
  exact hE _ _ (((Heap.SameBut.update ..).extBut.push _).push _) ⟨_, Heap.get?_push_size _ rfl, rfl⟩

theorem enum_nextT {e it l : Addr} {i : Nat} {items : Array Value} {x old : Value} {Q : Value → Shared → Prop}
    (he : IsEnum s.heap e it i old) (hit : s.heap.IsTupleIter it l i) (hl : s.heap.IsTuple l items) (hx : items[i]? = some x) (hne : e ≠ it)
    (hQ : ∀ h', IsEnumOut h' e it ((i : Int) + 1) x s.heap.objs.size → h'.IsTupleIter it l (i + 1) →
      h'.get? s.heap.objs.size = some { cls := .type "tuple", data := .seq #[.int i s.toks, x] } → h'.objs.size = s.heap.objs.size + 1 →
      (∀ b o, b ≠ e → b ≠ it → s.heap.get? b = some o → h'.get? b = some o) → Q (.ref s.heap.objs.size) { s with heap := h', toks := s.toks + 1 }) :
    wpAny (model prog w) A (Builtin.«enumerate.__next__» ⟨[.ref e], []⟩) (fun fin s' => ∃ v, fin = .done (.ret v) ∧ Q v s') E s := by
  obtain ⟨hp, g, d, tk, os⟩ := s
  show wpAny _ _ (field (.ref e) 2 >>= _) _ _ _
  refine wpAny_bind (wpAny_field he rfl (x := .ref it) rfl ?_)
  refine wpAny_bind (nextOf_tup hit hl hx fun h₁ hit₁ hs₁ => ?_)
  replace hs₁ : Heap.SameBut it hp h₁ := hs₁
  have he₁ : IsEnum h₁ e it i old := (hs₁.2 e hne).trans he
  show wpAny _ _ (field (.ref e) 3 >>= _) _ _ ⟨h₁, g, d, tk, os⟩
  refine wpAny_bind (wpAny_field he₁ rfl (x := rawInt i) rfl ?_)
  show wpAny _ _ (field (.ref e) 4 >>= _) _ _ ⟨h₁, g, d, tk, os⟩
  refine wpAny_bind (wpAny_field he₁ rfl (x := .none) rfl ?_)
  show wpAny _ _ (mkInt i >>= _) _ _ ⟨h₁, g, d, tk, os⟩
  refine wpAny_bind (wpAny_mkInt ?_)
  show wpAny _ _ (setField (.ref e) 3 (rawInt ((i : Int) + 1)) >>= _) _ _ ⟨h₁, g, d, tk + 1, os⟩
  refine wpAny_bind (wpAny_setField_rec he₁ (by simp) fun h₂ he₂ hs₂ => ?_)
  replace hs₂ : Heap.SameBut e h₁ h₂ := hs₂
  replace he₂ : IsEnum h₂ e it ((i : Int) + 1) old := he₂
  show wpAny _ _ (setField (.ref e) 4 .none >>= _) _ _ ⟨h₂, g, d, tk + 1, os⟩
  refine wpAny_bind (wpAny_setField_rec he₂ (by simp) fun h₃ he₃ hs₃ => ?_)
  replace hs₃ : Heap.SameBut e h₂ h₃ := hs₃
  replace he₃ : IsEnum h₃ e it ((i : Int) + 1) old := he₃
  show wpAny _ _ (newTuple [.int i tk, x] >>= _) _ _ ⟨h₃, g, d, tk + 1, os⟩
  refine wpAny_bind (wpAny_newTuple ?_)
  have he₄ : IsEnum (h₃.push { cls := .type "tuple", data := .seq #[.int i tk, x] }) e it ((i : Int) + 1) old := Heap.get?_push_of_some _ he₃
  generalize hh₄ : h₃.push { cls := .type "tuple", data := .seq #[.int i tk, x] } = h₄ at he₄
  have hsz : h₃.objs.size = hp.objs.size := by rw [hs₃.1, hs₂.1, hs₁.1]
  have hel : e < hp.objs.size := Heap.lt_size he
  have ht₄ : h₄.get? hp.objs.size = some { cls := .type "tuple", data := .seq #[.int i tk, x] } := by rw [← hh₄, ← hsz]; exact Heap.get?_push_size _ rfl
  have hz₄ : h₄.objs.size = hp.objs.size + 1 := by rw [← hh₄, Heap.size_push, hsz]
  have hk₄ : ∀ b o, b ≠ e → b ≠ it → hp.get? b = some o → h₄.get? b = some o := fun b o hbe hbi hb => by
    rw [← hh₄]; exact Heap.get?_push_of_some _ (hs₃.extBut b o hbe (hs₂.extBut b o hbe (hs₁.extBut b o hbi hb)))
  have hit₄ : h₄.IsTupleIter it l (i + 1) := by
    rw [← hh₄]; obtain ⟨o, ho, r⟩ := (hit₁.extBut hs₂.extBut (Ne.symm hne)).extBut hs₃.extBut (Ne.symm hne); exact ⟨o, Heap.get?_push_of_some _ ho, r⟩
  show wpAny _ _ (Builtin.SmallTypes.ownedTupleIsFree (.ref e) >>= _) _ _ ⟨h₄, g, d, tk + 1, os⟩
  rw [hsz]
  clear hh₄ he₃ hs₃ he₂ hs₂ he₁ hs₁ hit₁ hsz h₃ h₂ h₁
  refine wpAny_bind ?_
  · unfold Builtin.SmallTypes.ownedTupleIsFree
    refine wpAny_bind (wpAny_field he₄ rfl (x := .none) rfl (wpAny_pure ?_))
    simp only [if_true]
    refine wpAny_bind (wpAny_rule ?_)
    refine wpAny_bind (wpAny_field he₄ rfl (x := old) rfl ?_)
    refine wpAny_bind (wpAny_setField_rec he₄ (by simp) fun h₅ he₅ hs₅ => ?_)
    replace hs₅ : Heap.SameBut e h₄ h₅ := hs₅
    replace he₅ : IsEnum h₅ e it ((i : Int) + 1) x := he₅
    show wpAny _ _ (Builtin.SmallTypes.ownedTupleHandOut (.ref e) (.ref hp.objs.size) >>= _) _ _ ⟨h₅, g, d, tk + 1, os⟩
    refine wpAny_bind ?_
    · unfold Builtin.SmallTypes.ownedTupleHandOut
      refine wpAny_bind (wpAny_setField_rec he₅ (by simp) fun h₆ he₆ hs₆ => ?_)
      replace hs₆ : Heap.SameBut e h₅ h₆ := hs₆
      replace he₆ : IsEnumOut h₆ e it ((i : Int) + 1) x hp.objs.size := he₆
      refine wpAny_setField_rec he₆ (by simp) fun h₇ he₇ hs₇ => ?_
      replace hs₇ : Heap.SameBut e h₆ h₇ := hs₇
      replace he₇ : IsEnumOut h₇ e it ((i : Int) + 1) x hp.objs.size := he₇
      refine wpAny_bind (wpAny_letGo (wpAny_pure ⟨_, rfl, hQ h₇ he₇ ?_ ?_ ?_ ?_⟩))
      · exact ((hit₄.extBut hs₅.extBut (Ne.symm hne)).extBut hs₆.extBut (Ne.symm hne)).extBut hs₇.extBut (Ne.symm hne)
      · exact hs₇.extBut _ _ (Nat.ne_of_gt hel) (hs₆.extBut _ _ (Nat.ne_of_gt hel) (hs₅.extBut _ _ (Nat.ne_of_gt hel) ht₄))
      · rw [hs₇.1, hs₆.1, hs₅.1, hz₄]
      · exact fun b o hbe hbi hb => hs₇.extBut b o hbe (hs₆.extBut b o hbe (hs₅.extBut b o hbe (hk₄ b o hbe hbi hb)))

theorem enum_itemT {e it l : Addr} {i : Nat} {items : Array Value} {x old : Value} {Q : Option Value → Shared → Prop}
    (he : IsEnum s.heap e it i old) (hit : s.heap.IsTupleIter it l i) (hl : s.heap.IsTuple l items) (hx : items[i]? = some x) (hne : e ≠ it)
    (hQ : ∀ h', IsEnumOut h' e it ((i : Int) + 1) x s.heap.objs.size → h'.IsTupleIter it l (i + 1) →
      h'.get? s.heap.objs.size = some { cls := .type "tuple", data := .seq #[.int i s.toks, x] } → h'.objs.size = s.heap.objs.size + 1 →
      (∀ b o, b ≠ e → b ≠ it → s.heap.get? b = some o → h'.get? b = some o) → Q (some (.ref s.heap.objs.size)) { s with heap := h', toks := s.toks + 1 }) :
    wpAny (model prog w) A (pyNext (.ref e)) Q E s := by
  have hT : s.TypeIs (.ref e) "enumerate" := ⟨_, he, rfl⟩
  unfold pyNext
  exact wpAny_bind (wpAny_attempt (wpAny_callSpecial?_slot (name := Str.ofString "__next__") hT F.slot_enumerate_next
    (wpAny_call_entry F.slot_enumerate_next hT F.entry_enumerate_next
      (enum_nextT he hit hl hx hne fun h' a b c d k => wpAny_pure (hQ h' a b c d k)) (F.args_enumerate_next_1 _))))

theorem enum_endT {e it l : Addr} {i : Nat} {items : Array Value} {old : Value} {Q : Option Value → Shared → Prop} (hh : A.handled = none)
    (he : IsEnum s.heap e it i old) (hit : s.heap.IsTupleIter it l i) (hl : s.heap.IsTuple l items) (hx : items[i]? = none)
    (hQ : ∀ h', Heap.ExtBut it s.heap h' → Q none { s with heap := h' }) : wpAny (model prog w) A (pyNext (.ref e)) Q E s := by
  have hT : s.TypeIs (.ref e) "enumerate" := ⟨_, he, rfl⟩
  unfold pyNext
  refine wpAny_bind (wpAny_attempt (wpAny_callSpecial?_slot (name := Str.ofString "__next__") hT F.slot_enumerate_next
    (wpAny_call_entry F.slot_enumerate_next hT F.entry_enumerate_next ?_ (F.args_enumerate_next_1 _))))
  show wpAny _ _ (field (.ref e) 2 >>= _) _ _ _
  refine wpAny_bind (wpAny_field he rfl (x := .ref it) rfl ?_)
  refine wpAny_bind (nextOf_tupEnd hh hit hl hx fun h' x he' hx' => ?_)
  obtain ⟨o, ho, hc⟩ := hx'
  refine wpAny_bind (wpAny_isInstance (T := "StopIteration") (b := true) ⟨o, ho, hc⟩ isSubtype_stop ?_)
  exact wpAny_pure (hQ _ he')
end
def IteT (K : PySem.W.Frag) (a : Addr) : It :=
  ⟨fun i H => ∃ (xs : List V) (x : V), SqT K H a xs ∧ xs[i]? = some x, fun i H v H' => ∃ T x, v = .ref T ∧ H T = none ∧ H' = upd H T (.tup [.int (i : Nat), x]) ∧ ∀ xs, SqT K H a xs → xs[i]? = some x, fun i H => ∃ xs : List V, SqT K H a xs ∧ xs.length ≤ i⟩
theorem turn_enumT {P : Program} {w : World} {K : PySem.W.Frag} {elts : List Expr} {kk : Nat} {tpos : Pos} (a e it : Addr) :
    Turn P w K (.Tuple elts kk tpos) (IteT K a) [e, it] e (fun i h => (∃ old, IsEnum h e it ((i : Nat) : Int) old) ∧ h.IsTupleIter it a i ∧ e ≠ it) where
  mem := by simp
  obj := fun i h st b hb => by
    obtain ⟨⟨old, he⟩, ⟨o, ho, hc, hd⟩, _⟩ := st
    have e' : b = e ∨ b = it := by simpa using hb
    rcases e' with z | z
    · rw [z]; exact ⟨_, he, fun v q => nomatch q⟩
    · rw [z]; exact ⟨o, ho, fun v q => by rw [hd] at q; cases q⟩
  keep := fun i h h' st k => let ⟨⟨old, he⟩, hi, hne⟩ := st; ⟨⟨old, k e (by simp) _ he⟩, hi.at fun o q => k it (by simp) o q, hne⟩
  item := by
    intro X hP hw hK hc i pins s σ H E I hf st hg
    subst hP hw hK
    obtain ⟨⟨old, he⟩, hit, hne⟩ := st
    obtain ⟨xs, x, hq, hx⟩ := hg
    obtain ⟨its, rv, p, hz⟩ := I.tuple hq
    obtain ⟨u, hu, ru⟩ := rv.get hx
    have hel : e < s.heap.objs.size := Heap.lt_size he
    have hil : it < s.heap.objs.size := by obtain ⟨_, q, _⟩ := hit; exact Heap.lt_size q
    refine enum_itemT he hit (show Heap.IsTuple _ _ _ from p) (x := u) (by simpa using hu) hne fun h' ho hit' hT hsz hk => ?_
    refine ⟨_, rfl, wpAny_letOwnedTupleGo_enum (s := { s with heap := h', toks := s.toks + 1 }) ho fun h'' he' sb => ?_⟩
    have hT2 : h''.get? s.heap.objs.size = some { cls := .type "tuple", data := .seq #[.int i s.toks, u] } := (sb.2 _ (Nat.ne_of_gt hel)).trans hT
    have new : ObjOk X.prog X.w (upd H s.heap.objs.size (.tup [.int (i : Nat), x])) h'' s.heap.objs.size (.tup [.int (i : Nat), x]) :=
      ⟨by show 2 ≤ sizeLine; decide, [.int i s.toks, u], .cons ⟨_, rfl⟩ (.cons ru .nil), ⟨_, hT2, rfl, _, rfl⟩⟩
    have I1 : Inv X pins σ (upd H s.heap.objs.size (.tup [.int (i : Nat), x])) { s with heap := h'', toks := s.toks + 1 } :=
      I.turnedNew (ch := [e, it]) (fun b ob hb q => (sb.2 b (fun z => hb (by simp [z]))).trans (hk b ob (fun z => hb (by simp [z])) (fun z => hb (by simp [z])) q)) hf (Nat.le_refl _) new
    refine ⟨.ref s.heap.objs.size, _, I1, rfl, ⟨_, x, rfl, I.hok.fresh (Nat.le_refl _), rfl, fun ys hy => by rw [I.tuple_inj hy hq]; exact hx⟩, ⟨⟨u, ?_⟩, hit'.at fun o q => (sb.2 it (Ne.symm hne)).trans q, hne⟩, fun b hb => ?_⟩
    · have e1 : ((i + 1 : Nat) : Int) = (i : Int) + 1 := by omega
      rw [e1]; exact he'
    · have hb' : b < s.heap.objs.size := by
        have e' : b = e ∨ b = it := by simpa using hb
        rcases e' with z | z
        · rw [z]; exact hel
        · rw [z]; exact hil
      rw [upd_ne (Nat.ne_of_lt hb')]
      exact (hf b hb).1
  done := by
    intro X hP hw hK hc i pins s σ H E I hf st hg
    subst hP hw hK
    obtain ⟨⟨old, he⟩, hit, hne⟩ := st
    obtain ⟨xs, hq, hx⟩ := hg
    obtain ⟨its, rv, p, hz⟩ := I.tuple hq
    obtain ⟨f0, f1, f2, f3, f4, f5⟩ := hf it (by simp)
    have hl := rv.length
    exact enum_endT (I.ok.hd hc) he hit (show Heap.IsTuple _ _ _ from p) (by simp; omega) fun h' eb => ⟨rfl, I.turned (t' := s.toks) (fun b o hb q => eb b o hb q) f0 f1 f3 f4 f5⟩
  self := fun A i s Q E st h => let ⟨⟨_, he⟩, _⟩ := st; wpAny_pyIter_enum he h
def iEnumT (K : PySem.W.Frag) (ta : TA) : TI := fun σ H R => ta σ H fun vs H1 => ∃ a xs, vs = [.ref a] ∧ SqT K H1 a xs ∧ R (IteT K a) H1
theorem pi_enumT {X : Cx} {e : Expr} {ta : TA} {p pos tpos : Pos} {elts : List Expr} {kk : Nat} (hg : Gl X "enumerate") (hm : X.mg "enumerate" = none) (ha : PA X [e] ta) (hs : starEach [e] X.env = [(false, eval e X.env)] := by rfl) :
    PI X (.Tuple elts kk tpos) (.Call (.Name "enumerate" p) [e] [] pos) (iEnumT X.K ta) := by
  refine ⟨fun pins s σ H R I h => ?_⟩
  refine Call_ (ld_blt I hg hm boot_enumerate (PyProof.Rows.callWith_type1 (thn (ha.run pos pins s σ H _ I h) fun us s1 ⟨vs, H1, I1, r1, q1⟩ => ?_) hs rfl))
  obtain ⟨a, xs, ex, hq, q⟩ := q1
  subst ex
  cases r1 with
  | cons r rr =>
    cases rr
    cases r
    obtain ⟨its, rv, p', hz⟩ := I1.tuple hq
    refine enum_callT (show Heap.IsTuple _ _ _ from p') fun h' he hit hsz hk => wpAny_pyIter_enum he ?_
    have I2 : Inv X pins σ H1 { s1 with heap := h' } := I1.kept (t' := s1.toks) hk
    refine ⟨s1.heap.objs.size + 1, [s1.heap.objs.size + 1, s1.heap.objs.size], _, _, H1, rfl, I2, turn_enumT a (s1.heap.objs.size + 1) s1.heap.objs.size, ⟨⟨.none, he⟩, hit, Nat.succ_ne_self _⟩, fun b hb => ?_, q⟩
    have e' : b = s1.heap.objs.size + 1 ∨ b = s1.heap.objs.size := by simpa using hb
    have hle : s1.heap.objs.size ≤ b := by
      rcases e' with z | z
      · rw [z]; exact Nat.le_add_right _ _
      · rw [z]; exact Nat.le_refl _
    exact I1.fpOk hle (I1.hok.fresh hle)
end GE

namespace GX
open PySem PySem.Spec PyProof.Rows L2 GxR GenW
/-! ### small rules -/
def genOkB (N : List Str) (sc scope : Scope) (own : List (Str × Nat)) : Bool :=
  decide (scope.kind = .function) && (decide (scope.isCoroutine = false) && (scope.names.all (fun y => decide (scope.names.lookup y.1 = some y.2)) && (scope.names.all (fun y => decide (y.2 ≠ .cell)) && (decide (scope.names.lookup (".0" : Str) = some NameKind.local) &&
    (own.all (fun p => decide (N[p.2]? = some p.1)) && (scope.names.all (fun y => decide (y.2 ≠ .free) || (decide (sc.names.lookup y.1 = some .cell) || decide (sc.names.lookup y.1 = some .free))) && scope.names.all (fun y => decide (y.2 ≠ .local) || (decide (y.1 ∈ own.map (·.1)) || decide (y.1 ∉ N)))))))))
theorem genOk_by {N : List Str} {sc scope : Scope} {own : List (Str × Nat)} (h : genOkB N sc scope own = true) : GenOk N sc scope own := by
  unfold genOkB at h
  simp only [Bool.and_eq_true, List.all_eq_true, decide_eq_true_eq, Bool.or_eq_true] at h
  obtain ⟨h1, h2, h3, h4, h5, h6, h7, h8⟩ := h
  exact ⟨h1, h2, h3, h4, h5, h6, fun y hy e => (h7 y hy).elim (fun z => absurd e z) id, fun y hy e => (h8 y hy).elim (fun z => absurd e z) id⟩
theorem okT {CX : CXT} {P : Program} {w : World} {K : PySem.W.Frag} {mg : Str → Option Value} {base : Heap} {x qual : Str} {params : Arguments} {body : List Stmt} {scope : Scope} {dvs : List V} {kws : List (Str × V)} {f c : Addr} {fd : FuncData} {N ps : List Str} {k : Nat} {sp : Sp}
    (F : FunD K x qual params body scope dvs kws f fd) (hc : fd.code = .ref c) (S : FnScope N ps scope) (len : ∀ vs H Q E, sp vs H Q E → vs.length = ps.length)
    (hbody : ∀ (A : Around) (outer : List Env) (s : Shared) (H : Hp) (vs : List V) (Q : VK) (E : XK), Room k (A.deeper (envOfC qual scope s.heap.objs.size f (.ref c))) → sp vs H Q E →
      ∃ t, PSs (cxOf CX P w K mg base N qual scope f (.ref c) A outer s H E) body t ∧ t { nx := fun _ H' => Q .non H', rt := Q } (start N vs) H) : FnOk P w K mg base CX (k + 1) f fd ps sp := by
  obtain ⟨oc, od, dV, kV, doc, pm, an, cdv, ct, osl, rfl, lk, hcd, _, _⟩ := F.ex
  have e : cdv = .ref c := hc
  subst e
  exact fn_of lk hcd S len fun A outer s H vs Q E hr hsp => hbody A outer s H vs Q E hr hsp
/-- t[lo:hi], the whole of it too -/
def rSlTA (K : PySem.W.Frag) : V → Option Int → Option Int → Hp → VK → Prop := fun x lo hi H Q => ∃ a xs, x = .ref a ∧ SqT K H a xs ∧
  ((HT.sIx xs.length 0 lo = 0 ∧ HT.sIx xs.length xs.length hi = xs.length) → Q (.ref a) H) ∧ (¬ (HT.sIx xs.length 0 lo = 0 ∧ HT.sIx xs.length xs.length hi = xs.length) → ∀ p, H p = none → Q (.ref p) (upd H p (.tup (cutV xs lo hi))))
section
variable {prog : Program} {w : World} {A : Around} {E : Value → Shared → Prop} {s : Shared}
open HT in
theorem tup_whole {t sl : Addr} {items : Array Value} {vl vu : Value} {lo hi : Option Int} {Q : Value → Shared → Prop} (ht : IsTup s.heap t items) (hs : s.heap.IsSliceOf sl vl vu .none) (pl : IsPart vl lo) (pu : IsPart vu hi)
    (hw : sIx items.size 0 lo = 0 ∧ sIx items.size items.size hi = items.size) (h : Q (.ref t) s) : wpAny (model prog w) A (getItem (.ref t) (.ref sl)) Q E s := by
  obtain ⟨os, hos, hcs, hds⟩ := id hs
  have hTs : s.TypeIs (.ref sl) "slice" := ⟨os, hos, hcs⟩
  unfold getItem
  try with_reducible refine wpAny_holding ?_
  first | refine wpAny_bind (wpAny_pure ?_) | skip
  refine wpAny_bind (wpAny_sequenceKey ht.typeIs (by decide) ?_)
  refine wpAny_bind (wpAny_callSpecial?_slot (name := Str.ofString "__getitem__") ht.typeIs PyProof.Rows.slot_tuple_getitem
    (wpAny_call_entry PyProof.Rows.slot_tuple_getitem ht.typeIs entry_tuple_getitem ?_ (args_tuple_getitem _ _)))
  show wpAny _ _ (Builtin.Tuple.tupleItemsOf (.ref t) >>= _) _ _ s
  refine wpAny_bind (tupleItemsOf_ ht ?_)
  refine wpAny_bind (wpAny_typeOf hTs ?_)
  rw [if_pos (by decide)]
  refine wpAny_bind (sliceApplied_gen hs pl pu ?_)
  have hyes : ((((sIx items.size 0 lo : Nat) : Int) == 0 && (1 : Int) == 1 && (sIx items.size items.size hi - sIx items.size 0 lo) == items.size) = true) := by
    rw [hw.1, hw.2]
    simp
  show wpAny _ _ (if (((sIx items.size 0 lo : Nat) : Int) == 0 && (1 : Int) == 1 && (sIx items.size items.size hi - sIx items.size 0 lo) == items.size) = true then _ else _) _ _ s
  rw [if_pos hyes]
  obtain ⟨ot, hot, hct, nt, hdt⟩ := id ht
  refine wpAny_bind ?_
  unfold Builtin.Tuple.tupleIsExact
  refine wpAny_bind (wpAny_typeOf ht.typeIs (wpAny_pure ?_))
  rw [if_pos (by decide)]
  exact wpAny_bind (wpAny_rule (wpAny_pure ⟨_, rfl, wpAny_pure h⟩))
end
theorem sl_tupA {X : Cx} : SlR X (rSlTA X.K) := by
  intro pins s σ H x v vl vu lo hi sl Q I rx hs pl pu h
  obtain ⟨a, xs, rfl, hx, q1, q2⟩ := h
  by_cases hw : HT.sIx xs.length 0 lo = 0 ∧ HT.sIx xs.length xs.length hi = xs.length
  · cases rx
    obtain ⟨its, r, ht, hz⟩ := I.tuple hx
    have hlen : its.toArray.size = xs.length := by rw [List.size_toArray]; exact r.length.symm
    refine ⟨"tuple", _, PyProof.Rows.slot_tuple_getitem.lookup, ht.typeIs, ?_⟩
    exact tup_whole ht hs pl pu (by rw [hlen]; exact hw) ⟨.ref a, H, I, rfl, q1 hw⟩
  · exact sl_tup pins s σ H (.ref a) v vl vu lo hi sl Q I rx hs pl pu ⟨a, xs, rfl, hx, hw, q2 hw⟩
end GX
/-! ### data over the heap -/
namespace GD
open GX
open PySem PySem.Spec PyProof.Rows L2 GxR
/-- what stood stands: tuples, the script, tables grown, lists but for those at ex -/
structure Ext (ex : List Addr) (H H' : Hp) : Prop where
  tup : ∀ b xs, H b = some (.tup xs) → H' b = some (.tup xs)
  frz : ∀ b o u, H b = some (.frz o u) → H' b = some (.frz o u)
  tbl : ∀ b ps, H b = some (.tbl ps) → TriplesOk ps.toList → ∃ ps', H' b = some (.tbl ps') ∧ TriplesOk ps'.toList
  lst : ∀ b xs, b ∉ ex → H b = some (.lst xs) → H' b = some (.lst xs)
  dom : ∀ b, H' b = none → H b = none
section
variable {ex ex' : List Addr} {H H1 H2 : Hp} {p D : Addr} {o : HO} {xs ys : List V}
theorem Ext.refl : Ext ex H H := ⟨fun _ _ e => e, fun _ _ _ e => e, fun _ ps e t => ⟨ps, e, t⟩, fun _ _ _ e => e, fun _ e => e⟩
theorem Ext.trans (a : Ext ex H H1) (b : Ext ex H1 H2) : Ext ex H H2 :=
  ⟨fun c xs e => b.tup c xs (a.tup c xs e), fun c o u e => b.frz c o u (a.frz c o u e), fun c ps e t => let ⟨ps', e', t'⟩ := a.tbl c ps e t; b.tbl c ps' e' t', fun c xs n e => b.lst c xs n (a.lst c xs n e), fun c e => a.dom c (b.dom c e)⟩
theorem Ext.mono (a : Ext ex H H1) (h : ∀ b ∈ ex, b ∈ ex') : Ext ex' H H1 := ⟨a.tup, a.frz, a.tbl, fun b xs n e => a.lst b xs (fun z => n (h b z)) e, a.dom⟩
theorem Ext.any (a : Ext [] H H1) : Ext ex H H1 := a.mono fun b hb => absurd hb (by simp)
theorem Ext.new (h : H p = none) : Ext ex H (upd H p o) where
  tup := fun b xs e => by rw [upd_ne (ne_of_none e h)]; exact e
  frz := fun b u v e => by rw [upd_ne (ne_of_none e h)]; exact e
  tbl := fun b ps e t => ⟨ps, by rw [upd_ne (ne_of_none e h)]; exact e, t⟩
  lst := fun b xs _ e => by rw [upd_ne (ne_of_none e h)]; exact e
  dom := fun b e => by
    by_cases hb : b = p
    · rw [hb, upd_same] at e; cases e
    · rw [upd_ne hb] at e; exact e
theorem Ext.wr (hD : D ∈ ex) (h : H D = some (.lst xs)) : Ext ex H (upd H D (.lst ys)) where
  tup := fun b xs e => by rw [upd_ne (ne_of e h (by intro z; cases z))]; exact e
  frz := fun b u v e => by rw [upd_ne (ne_of e h (by intro z; cases z))]; exact e
  tbl := fun b ps e t => ⟨ps, by rw [upd_ne (ne_of e h (by intro z; cases z))]; exact e, t⟩
  lst := fun b xs n e => by rw [upd_ne (fun z => n (by rw [z]; exact hD))]; exact e
  dom := fun b e => by
    by_cases hb : b = D
    · rw [hb, upd_same] at e; cases e
    · rw [upd_ne hb] at e; exact e
theorem Ext.tab {P : Addr} (hP : TabG H P) (h : Tabbed P H H1) : Ext ex H H1 := by
  obtain ⟨ps0, e0, t0⟩ := hP
  obtain ⟨⟨ps1, e1, t1⟩, h2⟩ := h
  have nP : ∀ b u, H b = some u → (∀ q, u ≠ .tbl q) → b ≠ P := fun b u e n z => by
    rw [z, e0] at e
    exact n ps0 (Option.some.inj e).symm
  refine ⟨fun b xs e => by rw [h2 b (nP b _ e (fun q z => by cases z))]; exact e, fun b u v e => by rw [h2 b (nP b _ e (fun q z => by cases z))]; exact e, fun b ps e t => ?_, fun b xs _ e => by rw [h2 b (nP b _ e (fun q z => by cases z))]; exact e, fun b e => ?_⟩
  · by_cases hb : b = P
    · rw [hb]; exact ⟨ps1, e1, t1⟩
    · exact ⟨ps, by rw [h2 b hb]; exact e, t⟩
  · by_cases hb : b = P
    · rw [hb, e1] at e; cases e
    · rw [h2 b hb] at e; exact e
theorem Ext.tabG {P : Addr} (a : Ext ex H H1) (h : TabG H P) : TabG H1 P := let ⟨ps, e, t⟩ := h; let ⟨ps', e', t'⟩ := a.tbl P ps e t; ⟨ps', e', t'⟩
theorem Ext.sqT {K : PySem.W.Frag} {a : Addr} {xs : List V} (e : Ext ex H H1) (h : SqT K H a xs) : SqT K H1 a xs := by
  rcases h with (h | ⟨o, h⟩) | h
  · exact .inl (.inl (e.tup a xs h))
  · exact .inl (.inr ⟨o, e.frz a o _ h⟩)
  · exact .inr h
theorem sqT_new {K : PySem.W.Frag} : SqT K (upd H p (.tup xs)) p xs := .inl (.inl upd_same)
/-- a list that is read only: frozen or of the written part, or untouched -/
theorem Ext.sqL {K : PySem.W.Frag} {a : Addr} {xs : List V} (e : Ext ex H H1) (n : a ∉ ex) (h : SqL K H a xs) : SqL K H1 a xs := by
  rcases h with (h | ⟨o, h⟩) | h
  · exact .inl (.inl (e.lst a xs n h))
  · exact .inl (.inr ⟨o, e.frz a o _ h⟩)
  · exact .inr h
end
structure Stretch where
  hours : Int
  room : Int
  ds : List Int
structure Barge where
  b : Int
  g : Int
  d : Int
  r : Int
  u : Int
def IsStretch (K : PySem.W.Frag) (H : Hp) (v : V) (s : Stretch) : Prop := ∃ a d, v = .ref a ∧ SqT K H a [.int s.hours, .int s.room, .ref d] ∧ SqT K H d (s.ds.map V.int)
def IsBarge (K : PySem.W.Frag) (H : Hp) (v : V) (b : Barge) : Prop := ∃ a, v = .ref a ∧ SqT K H a [.int b.b, .int b.g, .int b.d, .int b.r, .int b.u]
/-- a tuple of things -/
def IsRows {α : Type} (F : V → α → Prop) (K : PySem.W.Frag) (H : Hp) (v : V) (xs : List α) : Prop := ∃ a vs, v = .ref a ∧ SqT K H a vs ∧ Paired F vs xs
abbrev IsRiver (K : PySem.W.Frag) (H : Hp) (v : V) (rv : List Stretch) : Prop := IsRows (IsStretch K H) K H v rv
abbrev IsBarges (K : PySem.W.Frag) (H : Hp) (v : V) (bs : List Barge) : Prop := IsRows (IsBarge K H) K H v bs
structure Book where
  rv : List Stretch
  bs : List Barge
def IsBook (K : PySem.W.Frag) (H : Hp) (v : V) (k : Book) : Prop := ∃ a r b, v = .ref a ∧ SqT K H a [r, b] ∧ IsRiver K H r k.rv ∧ IsBarges K H b k.bs
structure Stretch.Ok (s : Stretch) : Prop where
  h1 : 1 ≤ s.hours
  h9 : s.hours ≤ 9
  r1 : 1 ≤ s.room
  r9 : s.room ≤ 9
  d1 : 1 ≤ s.ds.length
  d24 : s.ds.length ≤ 24
  ds : ∀ d ∈ s.ds, 0 ≤ d ∧ d ≤ 99
structure Barge.Ok (n : Nat) (b : Barge) : Prop where
  b0 : 0 ≤ b.b
  bg : b.b < b.g
  gn : b.g ≤ (n : Int)
  d1 : 1 ≤ b.d
  d99 : b.d ≤ 99
  r0 : 0 ≤ b.r
  r99 : b.r ≤ 99
  u0 : 0 ≤ b.u
  u199 : b.u ≤ 199
structure RvOk (rv : List Stretch) : Prop where
  n1 : 1 ≤ rv.length
  n8 : rv.length ≤ 8
  ok : ∀ s ∈ rv, s.Ok
structure Book.Ok (k : Book) : Prop where
  rv : RvOk k.rv
  n7 : k.bs.length ≤ 7
  ok : ∀ b ∈ k.bs, b.Ok k.rv.length
section
variable {ex : List Addr} {H H1 : Hp} {K : PySem.W.Frag} {v : V}
theorem Ext.stretch {s : Stretch} (e : Ext ex H H1) (h : IsStretch K H v s) : IsStretch K H1 v s := let ⟨a, d, z, h1, h2⟩ := h; ⟨a, d, z, e.sqT h1, e.sqT h2⟩
theorem Ext.barge {s : Barge} (e : Ext ex H H1) (h : IsBarge K H v s) : IsBarge K H1 v s := let ⟨a, z, h1⟩ := h; ⟨a, z, e.sqT h1⟩
theorem Ext.river {rv : List Stretch} (e : Ext ex H H1) (h : IsRiver K H v rv) : IsRiver K H1 v rv := let ⟨a, vs, z, h1, h2⟩ := h; ⟨a, vs, z, e.sqT h1, Paired.mapP h2 fun _ _ q => e.stretch q⟩
theorem Ext.barges {bs : List Barge} (e : Ext ex H H1) (h : IsBarges K H v bs) : IsBarges K H1 v bs := let ⟨a, vs, z, h1, h2⟩ := h; ⟨a, vs, z, e.sqT h1, Paired.mapP h2 fun _ _ q => e.barge q⟩
theorem Ext.book {k : Book} (e : Ext ex H H1) (h : IsBook K H v k) : IsBook K H1 v k := let ⟨a, r, b, z, h1, h2, h3⟩ := h; ⟨a, r, b, z, e.sqT h1, e.river h2, e.barges h3⟩
end
/-- the draws' list -/
def DiceAt (H : Hp) (D : Addr) : Prop := ∃ a b : Int, H D = some (.lst [.int a, .int b]) ∧ 0 ≤ a ∧ a < 2147483647 ∧ 0 ≤ b
theorem Ext.dice {H H1 : Hp} {D : Addr} {ex : List Addr} (e : Ext ex H H1) (n : D ∉ ex) (h : DiceAt H D) : DiceAt H1 D := let ⟨a, b, z, r⟩ := h; ⟨a, b, e.lst D _ n z, r⟩
theorem pget {α β : Type} {F : α → β → Prop} : ∀ {xs : List α} {ys : List β} {i : Nat} {x : α}, Paired F xs ys → xs[i]? = some x → ∃ y, ys[i]? = some y ∧ F x y
  | _, _, _, _, .nil, e => by simp at e
  | _, _, 0, _, .cons r _, e => by simp at e; subst e; exact ⟨_, rfl, r⟩
  | _, _, i + 1, x, .cons _ t, e => by
    obtain ⟨u, h1, h2⟩ := pget (i := i) (x := x) t (by simpa using e)
    exact ⟨u, by simpa using h1, h2⟩
theorem pgetR {α β : Type} {F : α → β → Prop} : ∀ {xs : List α} {ys : List β} {i : Nat} {y : β}, Paired F xs ys → ys[i]? = some y → ∃ x, xs[i]? = some x ∧ F x y
  | _, _, _, _, .nil, e => by simp at e
  | _, _, 0, _, .cons r _, e => by simp at e; subst e; exact ⟨_, rfl, r⟩
  | _, _, i + 1, x, .cons _ t, e => by
    obtain ⟨u, h1, h2⟩ := pgetR (i := i) (y := x) t (by simpa using e)
    exact ⟨u, by simpa using h1, h2⟩
theorem plen {α β : Type} {F : α → β → Prop} {xs : List α} {ys : List β} (h : Paired F xs ys) : xs.length = ys.length := Paired.length h
theorem papp {α β : Type} {F : α → β → Prop} : ∀ {xs : List α} {ys : List β} {x : α} {y : β}, Paired F xs ys → F x y → Paired F (xs ++ [x]) (ys ++ [y])
  | _, _, _, _, .nil, h => .cons h .nil
  | _, _, _, _, .cons r t, h => .cons r (papp t h)
theorem ptake {α β : Type} {F : α → β → Prop} : ∀ {xs : List α} {ys : List β} (n : Nat), Paired F xs ys → Paired F (xs.take n) (ys.take n)
  | _, _, 0, _ => .nil
  | _, _, _ + 1, .nil => .nil
  | _, _, n + 1, .cons r t => .cons r (ptake n t)
/-- hours of the first n stretches together -/
def hsum (rv : List Stretch) (n : Nat) : Int := ((rv.take n).map (·.hours)).sum
theorem hsum_zero (rv : List Stretch) : hsum rv 0 = 0 := rfl
theorem hsum_succ {rv : List Stretch} {i : Nat} {s : Stretch} (h : rv[i]? = some s) : hsum rv (i + 1) = hsum rv i + s.hours := by
  unfold hsum
  rw [List.take_add_one, h, List.map_append, List.sum_append]
  simp
theorem hsum_bound {rv : List Stretch} (ok : ∀ s ∈ rv, s.Ok) : ∀ n, 0 ≤ hsum rv n ∧ hsum rv n ≤ 9 * (n : Int)
  | 0 => by rw [hsum_zero]; omega
  | n + 1 => by
    obtain ⟨h1, h2⟩ := hsum_bound ok n
    cases e : rv[n]? with
    | none =>
      have : hsum rv (n + 1) = hsum rv n := by
        unfold hsum
        rw [List.take_add_one, e]
        simp
      rw [this]; omega
    | some s =>
      rw [hsum_succ e]
      have q := ok s (List.mem_of_getElem? e)
      have := q.h1
      have := q.h9
      omega
theorem hsum_len {rv : List Stretch} {n : Nat} (h : rv.length ≤ n) : hsum rv n = hsum rv rv.length := by
  unfold hsum
  rw [List.take_of_length_le h, List.take_of_length_le (Nat.le_refl _)]
theorem same_small {n : Nat} (h : n ≤ 1000) : n ≤ sizeLine := Nat.le_of_lt (small1000 h)
theorem tc1 {v : V} {σ : L2.St} {H : Hp} {R : List V → Hp → Prop} (h : R [v] H) : tCons (tC v) tNil σ H R := h
theorem isi_ib {K : PySem.W.Frag} {H : Hp} {Q : VK} {v : Int} (h : Q (.bl false) H) : rIsi K [.int v, .ty "bool"] H Q := ⟨.int v, .ty "bool", .type "int", .type "bool", false, rfl, .ty _, .base (.int _), kit_ty (by decide +kernel), h⟩
theorem isi_ii {K : PySem.W.Frag} {H : Hp} {Q : VK} {v : Int} (h : Q (.bl true) H) : rIsi K [.int v, .ty "int"] H Q := ⟨.int v, .ty "int", .type "int", .type "int", true, rfl, .ty _, .base (.int _), kit_ty (by decide +kernel), h⟩
theorem isi_tt {K : PySem.W.Frag} {H : Hp} {Q : VK} {a : Addr} {xs : List V} (t : SqT K H a xs) (h : Q (.bl true) H) : rIsi K [.ref a, .ty "tuple"] H Q := by
  rcases t with (t | ⟨o, t⟩) | ⟨o, its, n, e, c, _⟩
  · exact ⟨.ref a, .ty "tuple", .type "tuple", .type "tuple", true, rfl, .ty _, .base (.tup t), kit_ty (by decide +kernel), h⟩
  · exact ⟨.ref a, .ty "tuple", .type "tuple", .type "tuple", true, rfl, .ty _, .fTuple t, kit_ty (by decide +kernel), h⟩
  · exact ⟨.ref a, .ty "tuple", .type "tuple", .type "tuple", true, rfl, .ty _, .kTuple e c, kit_ty (by decide +kernel), h⟩
theorem iteD {c : Prop} [Decidable c] {A B : Prop} (hc : c) (h : A) : if decide c = true then A else B := by
  rw [decide_eq_true hc]
  exact iteT h
theorem iteDn {c : Prop} [Decidable c] {A B : Prop} (hc : ¬ c) (h : B) : if decide c = true then A else B := by
  rw [decide_eq_false hc]
  exact iteF h
/-- the turns of all, over a tuple that stands -/
theorem all_tup {K : PySem.W.Frag} {P a : Addr} {xs : List V} {g : TG} {te : TE} {vs : List Nat} {σ : L2.St} {H1 : Hp} {Q : VK} (hT : TabG H1 P) (Pv : Nat → Hp → Prop) (h0 : ∀ H2, Tabbed P H1 H2 → Pv 0 H2) (hl : ∀ i H, i ≤ xs.length → Pv i H → SqT K H a xs)
    (hs : ∀ i x H, xs[i]? = some x → Pv i H → g x (wipe σ vs) H fun σ2 H2 => wipe σ2 vs = wipe σ vs ∧ te σ2 H2 fun y H4 => ∃ c, y = .bl c ∧ if c = true then Pv (i + 1) H4 else Q (.bl false) H4) (hd : ∀ H, Pv xs.length H → Q (.bl true) H) :
    TabG H1 P ∧ ∀ H2, Tabbed P H1 H2 → ∃ W : Nat → Nat → Hp → Prop, (∃ m, W 0 m H2) ∧ ∀ i m H, W i m H →
      ((Itt K a).stop i H ∧ Q (.bl true) H) ∨ ((Itt K a).go i H ∧ ∃ Nx : Hp → Prop, (∀ H', Nx H' → ∃ m', m' < m ∧ W (i + 1) m' H') ∧ ∀ x H', (Itt K a).yld i H x H' → g x (wipe σ vs) H' fun σ2 H2 => wipe σ2 vs = wipe σ vs ∧ tYes σ2 H2 fun b H3 =>
        if b = true then te σ2 H3 fun y H4 => ∃ c, y = .bl c ∧ if c = true then Nx H4 else Q (.bl false) H4 else Nx H3) := by
  refine ⟨hT, fun H2 hb => ⟨fun i m H => m = xs.length - i ∧ i ≤ xs.length ∧ Pv i H, ⟨xs.length, by simp, Nat.zero_le _, h0 H2 hb⟩, ?_⟩⟩
  rintro i m H ⟨rfl, hi, p⟩
  have q := hl i H hi p
  by_cases hlt : i < xs.length
  · refine .inr ⟨⟨xs, xs[i], q, by simp [hlt]⟩, Pv (i + 1), fun H' p' => ⟨xs.length - (i + 1), by omega, rfl, hlt, p'⟩, fun x H' y => ?_⟩
    obtain ⟨e, y⟩ := y
    subst e
    exact hs i x H' (y xs q) p
  · have e : i = xs.length := by omega
    subst e
    exact .inl ⟨⟨xs, q, Nat.le_refl _⟩, hd H p⟩
theorem map_get {α β : Type} {f : α → β} {xs : List α} {i : Nat} {x : β} (h : (xs.map f)[i]? = some x) : ∃ y, xs[i]? = some y ∧ x = f y := by
  rw [List.getElem?_map] at h
  cases e : xs[i]? with
  | none => rw [e] at h; cases h
  | some y => rw [e] at h; exact ⟨y, rfl, (Option.some.inj h).symm⟩
theorem all_var {K : PySem.W.Frag} {P a : Addr} {xs : List V} {g : TG} {te : TE} {vs : List Nat} {σ : L2.St} {H1 : Hp} {Q : VK} {j : Nat} (hv : σ[j]? = some (some (.ref a))) (ht : SqT K H1 a xs) (hT : TabG H1 P) (Pv : Nat → Hp → Prop) (h0 : ∀ H2, Tabbed P H1 H2 → Pv 0 H2) (hl : ∀ i H, i ≤ xs.length → Pv i H → SqT K H a xs)
    (hs : ∀ i x H, xs[i]? = some x → Pv i H → g x (wipe σ vs) H fun σ2 H2 => wipe σ2 vs = wipe σ vs ∧ te σ2 H2 fun y H4 => ∃ c, y = .bl c ∧ if c = true then Pv (i + 1) H4 else Q (.bl false) H4) (hd : ∀ H, Pv xs.length H → Q (.bl true) H) :
    tAllG P (iTup K (tVar j)) g tYes te vs σ H1 Q := ⟨.ref a, hv, a, rfl, ⟨xs, ht⟩, all_tup hT Pv h0 hl hs hd⟩
theorem tB_ {t : TE} {σ : L2.St} {H : Hp} {Q : Bool → Hp → Prop} (h : t σ H fun x H1 => ∃ c, x = .bl c ∧ Q c H1) : tB t σ H Q := h
theorem tNot_ {t : TT} {σ : L2.St} {H : Hp} {Q : Bool → Hp → Prop} (h : t σ H fun c H1 => Q (!c) H1) : tNot t σ H Q := h
theorem sum_enumT {K : PySem.W.Frag} {P a : Addr} {xs : List V} {g : TG} {tt : TT} {te : TE} {vs : List Nat} {σ : L2.St} {H1 : Hp} {Q : VK} {j : Nat} (hv : σ[j]? = some (some (.ref a))) (ht : SqT K H1 a xs) (hT : TabG H1 P) (Pv : Nat → Int → Hp → Prop) (h0 : ∀ H2, Tabbed P H1 H2 → Pv 0 0 H2) (hl : ∀ i z H, i ≤ xs.length → Pv i z H → SqT K H a xs)
    (hs : ∀ i x z H T, xs[i]? = some x → Pv i z H → H T = none → g (.ref T) (wipe σ vs) (upd H T (.tup [.int (i : Nat), x])) fun σ2 H2 => wipe σ2 vs = wipe σ vs ∧ tt σ2 H2 fun b H3 => if b = true then te σ2 H3 fun y H4 => ∃ v, y = .int v ∧ InLong v ∧ InLong (z + v) ∧ Pv (i + 1) (z + v) H4 else Pv (i + 1) z H3)
    (hd : ∀ z H, Pv xs.length z H → Q (.int z) H) : tSumG P (GE.iEnumT K (tCons (tVar j) tNil)) g tt te vs σ H1 Q := by
  refine ⟨.ref a, hv, a, xs, rfl, ht, hT, fun H2 hb => ⟨fun i m z H => m = xs.length - i ∧ i ≤ xs.length ∧ Pv i z H, ⟨xs.length, by simp, Nat.zero_le _, h0 H2 hb⟩, ?_⟩⟩
  rintro i m z H ⟨rfl, hi, p⟩
  have q := hl i z H hi p
  by_cases hlt : i < xs.length
  · refine .inr ⟨⟨xs, xs[i], q, by simp [hlt]⟩, fun z' H' => Pv (i + 1) z' H', fun z' H' p' => ⟨xs.length - (i + 1), by omega, rfl, hlt, p'⟩, fun x H' y => ?_⟩
    obtain ⟨T, x', rfl, hn, rfl, hx⟩ := y
    exact hs i x' z H T (hx xs q) p hn
  · have e : i = xs.length := by omega
    subst e
    exact .inl ⟨⟨xs, q, Nat.le_refl _⟩, hd z H p⟩
/-- how deep a stretch is at a time -/
def depthAt (s : Stretch) (t : Int) : Int := s.ds.getD (t % (s.ds.length : Int)).toNat 0
theorem fmod_place {t : Int} {n : Nat} (h : 0 < n) : t.fmod (n : Int) = (((t % (n : Int)).toNat : Nat) : Int) ∧ (t % (n : Int)).toNat < n := by
  have h1 : 0 ≤ t % (n : Int) := Int.emod_nonneg t (by omega)
  have h2 : t % (n : Int) < (n : Int) := Int.emod_lt_of_pos t (by omega)
  rw [Int.fmod_eq_emod_of_nonneg t (by omega)]
  omega
theorem depth_item {s : Stretch} {t : Int} (h : 0 < s.ds.length) : atI (s.ds.map V.int) (t.fmod ((s.ds.map V.int).length : Int)) = some (.int (depthAt s t)) := by
  rw [List.length_map, (fmod_place (t := t) h).1]
  refine atI_nat ?_
  rw [List.getElem?_map, List.getElem?_eq_getElem (fmod_place (t := t) h).2]
  unfold depthAt
  rw [List.getD_eq_getElem?_getD, List.getElem?_eq_getElem (fmod_place (t := t) h).2]
  rfl
theorem inLong_small {v : Int} (h1 : -1000000 ≤ v) (h2 : v ≤ 1000000) : InLong v := by
  unfold InLong
  omega
theorem ixK {X : Cx} (K : PySem.W.Frag) (h : X.K = K) : IxR X (rIx K) := by
  subst h
  exact ix_seq
theorem lenK {X : Cx} (K : PySem.W.Frag) (h : X.K = K) : CallR X (.builtin "len") (fun xs H Q => ∃ p ys, xs = [.ref p] ∧ (SqL K H p ys ∨ SqT K H p ys) ∧ Q (.int ys.length) H) := by
  subst h
  exact call_len_seq
theorem isiK {X : Cx} (K : PySem.W.Frag) (h : X.K = K) : CallR X (.builtin "isinstance") (rIsi K) := by
  subst h
  exact call_isi
theorem slK {X : Cx} (K : PySem.W.Frag) (h : X.K = K) : SlR X (rSlTA K) := by
  subst h
  exact GX.sl_tupA
theorem Ext.wrNew {ex : List Addr} {H H1 : Hp} {D : Addr} {o : HO} (e : Ext ex H H1) (h : H D = none) : Ext ex H (upd H1 D o) where
  tup := fun b xs z => by rw [upd_ne (ne_of_none z h)]; exact e.tup b xs z
  frz := fun b u v z => by rw [upd_ne (ne_of_none z h)]; exact e.frz b u v z
  tbl := fun b ps z t => by rw [upd_ne (ne_of_none z h)]; exact e.tbl b ps z t
  lst := fun b xs n z => by rw [upd_ne (ne_of_none z h)]; exact e.lst b xs n z
  dom := fun b z => by
    by_cases hb : b = D
    · rw [hb, upd_same] at z; cases z
    · rw [upd_ne hb] at z; exact e.dom b z
theorem pick2 {x y sl : Int} (h : sl = 0 ∨ sl = 1) : ∃ z, atI [V.int x, V.int y] sl = some (.int z) ∧ (z = x ∨ z = y) := by
  rcases h with rfl | rfl
  · exact ⟨x, atI_nat (j := 0) rfl, .inl rfl⟩
  · exact ⟨y, atI_nat (j := 1) rfl, .inr rfl⟩
theorem b01 (b : Bool) : (if b = true then (1 : Int) else 0) = 0 ∨ (if b = true then (1 : Int) else 0) = 1 := by
  cases b
  · exact .inl rfl
  · exact .inr rfl
theorem cut_take (xs : List V) (p : Nat) : cutV xs none (some (p : Int)) = xs.take p := by
  unfold cutV
  rw [HT.sIx_none, HT.sIx_nat, List.drop_zero, Nat.sub_zero]
  by_cases h : p ≤ xs.length
  · rw [Nat.min_eq_left h]
  · rw [Nat.min_eq_right (by omega), List.take_of_length_le (Nat.le_refl _), List.take_of_length_le (by omega)]
theorem whole_take {xs : List V} {p : Nat} (h : HT.sIx xs.length 0 none = 0 ∧ HT.sIx xs.length xs.length (some (p : Int)) = xs.length) : xs.take p = xs := by
  obtain ⟨_, h2⟩ := h
  rw [HT.sIx_nat] at h2
  exact List.take_of_length_le (by omega)
theorem yesT {σ : L2.St} {H : Hp} {F G : Hp → Prop} (h : F H) : tYes σ H (fun b H3 => if b = true then F H3 else G H3) := by
  show if true = true then F H else G H
  rw [if_pos rfl]
  exact h
end GD

namespace TB
open PySem PySem.Spec PyProof.Rows L2 GxR GX GE GD

def top (i : Nat) : Stmt := PySem.Challenge.pw_towbarges_k01_times_and_depths.main.body.getD i (.Pass ⟨0, 0, 0, 0⟩)
abbrev s_is_number : Stmt := top 4
theorem sc_is_number : FnScope ["value", "least", "most"] ["value", "least", "most"] (defScope s_is_number) := ⟨rfl, rfl, rfl, by decide +kernel, rfl, by decide +kernel, by decide +kernel⟩
abbrev s_is_row : Stmt := top 5
theorem sc_is_row : FnScope ["value", "least", "most"] ["value", "least", "most"] (defScope s_is_row) := ⟨rfl, rfl, rfl, by decide +kernel, rfl, by decide +kernel, by decide +kernel⟩
abbrev s_is_stretch : Stmt := top 6
theorem sc_is_stretch : FnScope ["value", "hours", "room", "depths", "depth"] ["value"] (defScope s_is_stretch) := ⟨rfl, rfl, rfl, by decide +kernel, rfl, by decide +kernel, by decide +kernel⟩
abbrev s_is_ready : Stmt := top 7
theorem sc_is_ready : FnScope ["value"] ["value"] (defScope s_is_ready) := ⟨rfl, rfl, rfl, by decide +kernel, rfl, by decide +kernel, by decide +kernel⟩
abbrev s_is_barge : Stmt := top 8
theorem sc_is_barge : FnScope ["value", "last", "begin", "goal", "draft", "ready", "due"] ["value", "last"] (defScope s_is_barge) := ⟨rfl, rfl, rfl, by decide +kernel, rfl, by decide +kernel, by decide +kernel⟩
abbrev s_check_book : Stmt := top 9
theorem sc_check_book : FnScope ["book", "stretches", "barges", "stretch", "last", "barge"] ["book"] (defScope s_check_book) := ⟨rfl, rfl, rfl, by decide +kernel, rfl, by decide +kernel, by decide +kernel⟩
abbrev s_arrival : Stmt := top 11
theorem sc_arrival : FnScope ["stretches", "place", "hour", "at", "stretch"] ["stretches", "place", "hour"] (defScope s_arrival) := ⟨rfl, rfl, rfl, by decide +kernel, rfl, by decide +kernel, by decide +kernel⟩
abbrev s_depth_then : Stmt := top 12
theorem sc_depth_then : FnScope ["stretches", "stretch", "time", "depths"] ["stretches", "stretch", "time"] (defScope s_depth_then) := ⟨rfl, rfl, rfl, by decide +kernel, rfl, by decide +kernel, by decide +kernel⟩
abbrev s_time_at : Stmt := top 13
theorem sc_time_at : FnScope ["book", "place", "hour"] ["book", "place", "hour"] (defScope s_time_at) := ⟨rfl, rfl, rfl, by decide +kernel, rfl, by decide +kernel, by decide +kernel⟩
abbrev s_depth_at : Stmt := top 14
theorem sc_depth_at : FnScope ["book", "stretch", "time", "stretches"] ["book", "stretch", "time"] (defScope s_depth_at) := ⟨rfl, rfl, rfl, by decide +kernel, rfl, by decide +kernel, by decide +kernel⟩
abbrev s__law_cell_at : Stmt := top 16
theorem sc__law_cell_at : FnScope ["_law_script", "_law_k"] ["_law_script", "_law_k"] (defScope s__law_cell_at) := ⟨rfl, rfl, rfl, by decide +kernel, rfl, by decide +kernel, by decide +kernel⟩
abbrev s__law_dice : Stmt := top 17
theorem sc__law_dice : FnScope ["_law_cell"] ["_law_cell"] (defScope s__law_dice) := ⟨rfl, rfl, rfl, by decide +kernel, rfl, by decide +kernel, by decide +kernel⟩
abbrev s__law_roll : Stmt := top 18
theorem sc__law_roll : FnScope ["_law_dice_here", "_law_most", "_law_found"] ["_law_dice_here", "_law_most"] (defScope s__law_roll) := ⟨rfl, rfl, rfl, by decide +kernel, rfl, by decide +kernel, by decide +kernel⟩
abbrev s__law_whole : Stmt := top 19
theorem sc__law_whole : FnScope ["_law_found"] ["_law_found"] (defScope s__law_whole) := ⟨rfl, rfl, rfl, by decide +kernel, rfl, by decide +kernel, by decide +kernel⟩
abbrev s__law_river : Stmt := top 20
theorem sc__law_river : FnScope ["_law_dice_here", "_law_many", "_law_out", "_law_k", "_law_slow", "_law_depths", "_law_turn"] ["_law_dice_here", "_law_many"] (defScope s__law_river) := ⟨rfl, rfl, rfl, by decide +kernel, rfl, by decide +kernel, by decide +kernel⟩
abbrev s__law_time : Stmt := top 21
theorem sc__law_time : FnScope ["_law_river_here", "_law_place", "_law_hour", "_law_stretch"] ["_law_river_here", "_law_place", "_law_hour"] (defScope s__law_time) := ⟨rfl, rfl, rfl, by decide +kernel, rfl, by decide +kernel, by decide +kernel⟩
abbrev s__law_barges : Stmt := top 22
theorem sc__law_barges : FnScope ["_law_dice_here", "_law_river_here", "_law_many", "_law_out", "_law_slack", "_law_k", "_law_begin", "_law_goal", "_law_hour", "_law_ready", "_law_due", "_law_draft", "_law_odd"] ["_law_dice_here", "_law_river_here", "_law_many"] (defScope s__law_barges) := ⟨rfl, rfl, rfl, by decide +kernel, rfl, by decide +kernel, by decide +kernel⟩
abbrev s__law_book : Stmt := top 23
theorem sc__law_book : FnScope ["_law_script", "_law_most", "_law_dice_here", "_law_cell", "_law_river_here"] ["_law_script", "_law_most"] (defScope s__law_book) := ⟨rfl, rfl, rfl, by decide +kernel, rfl, by decide +kernel, by decide +kernel⟩
abbrev s_law : Stmt := top 24
theorem sc_law : FnScope ["_law_script", "_law_book_here", "_law_river_here", "_law_place", "_law_hour", "_law_found", "_law_stretch", "_law_time_here", "_law_depths"] ["_law_script"] (defScope s_law) := ⟨rfl, rfl, rfl, by decide +kernel, rfl, by decide +kernel, by decide +kernel⟩

abbrev FnP (K : PySem.W.Frag) (x : Str) (st : Stmt) (f : Addr) (fd : FuncData) : Prop := FunD K x x (defArgs st) (defBody st) (defScope st) [] [] f fd
/-- where the defs stand -/
structure Ad where
  a_is_number : Addr
  d_is_number : FuncData
  a_is_row : Addr
  d_is_row : FuncData
  a_is_stretch : Addr
  d_is_stretch : FuncData
  k_is_stretch : Addr × Addr
  a_is_ready : Addr
  d_is_ready : FuncData
  a_is_barge : Addr
  d_is_barge : FuncData
  a_check_book : Addr
  d_check_book : FuncData
  k_check_book : Addr × Addr
  a_arrival : Addr
  d_arrival : FuncData
  k_arrival : Addr × Addr
  a_depth_then : Addr
  d_depth_then : FuncData
  a_time_at : Addr
  d_time_at : FuncData
  a_depth_at : Addr
  d_depth_at : FuncData
  a__law_cell_at : Addr
  d__law_cell_at : FuncData
  a__law_dice : Addr
  d__law_dice : FuncData
  a__law_roll : Addr
  d__law_roll : FuncData
  a__law_whole : Addr
  d__law_whole : FuncData
  a__law_river : Addr
  d__law_river : FuncData
  a__law_time : Addr
  d__law_time : FuncData
  a__law_barges : Addr
  d__law_barges : FuncData
  a__law_book : Addr
  d__law_book : FuncData
  a_law : Addr
  d_law : FuncData
structure Facts (A : Ad) (K : PySem.W.Frag) (mg : Str → Option Value) (base : Heap) : Prop where
  F_is_number : FnP K "is_number" s_is_number A.a_is_number A.d_is_number
  g_is_number : mg "is_number" = some (.ref A.a_is_number)
  b_is_number : Binds K A.d_is_number ["value", "least", "most"] []
  F_is_row : FnP K "is_row" s_is_row A.a_is_row A.d_is_row
  g_is_row : mg "is_row" = some (.ref A.a_is_row)
  b_is_row : Binds K A.d_is_row ["value", "least", "most"] []
  F_is_stretch : FnP K "is_stretch" s_is_stretch A.a_is_stretch A.d_is_stretch
  g_is_stretch : mg "is_stretch" = some (.ref A.a_is_stretch)
  b_is_stretch : Binds K A.d_is_stretch ["value"] []
  h_is_stretch : A.d_is_stretch.code = .ref A.k_is_stretch.1
  t_is_stretch : GxR.TabB base mg A.k_is_stretch.1 A.k_is_stretch.2
  F_is_ready : FnP K "is_ready" s_is_ready A.a_is_ready A.d_is_ready
  g_is_ready : mg "is_ready" = some (.ref A.a_is_ready)
  b_is_ready : Binds K A.d_is_ready ["value"] []
  F_is_barge : FnP K "is_barge" s_is_barge A.a_is_barge A.d_is_barge
  g_is_barge : mg "is_barge" = some (.ref A.a_is_barge)
  b_is_barge : Binds K A.d_is_barge ["value", "last"] []
  F_check_book : FnP K "check_book" s_check_book A.a_check_book A.d_check_book
  g_check_book : mg "check_book" = some (.ref A.a_check_book)
  b_check_book : Binds K A.d_check_book ["book"] []
  h_check_book : A.d_check_book.code = .ref A.k_check_book.1
  t_check_book : GxR.TabB base mg A.k_check_book.1 A.k_check_book.2
  F_arrival : FnP K "arrival" s_arrival A.a_arrival A.d_arrival
  g_arrival : mg "arrival" = some (.ref A.a_arrival)
  b_arrival : Binds K A.d_arrival ["stretches", "place", "hour"] []
  h_arrival : A.d_arrival.code = .ref A.k_arrival.1
  t_arrival : GxR.TabB base mg A.k_arrival.1 A.k_arrival.2
  F_depth_then : FnP K "depth_then" s_depth_then A.a_depth_then A.d_depth_then
  g_depth_then : mg "depth_then" = some (.ref A.a_depth_then)
  b_depth_then : Binds K A.d_depth_then ["stretches", "stretch", "time"] []
  F_time_at : FnP K "time_at" s_time_at A.a_time_at A.d_time_at
  g_time_at : mg "time_at" = some (.ref A.a_time_at)
  b_time_at : Binds K A.d_time_at ["book", "place", "hour"] []
  F_depth_at : FnP K "depth_at" s_depth_at A.a_depth_at A.d_depth_at
  g_depth_at : mg "depth_at" = some (.ref A.a_depth_at)
  b_depth_at : Binds K A.d_depth_at ["book", "stretch", "time"] []
  F__law_cell_at : FnP K "_law_cell_at" s__law_cell_at A.a__law_cell_at A.d__law_cell_at
  g__law_cell_at : mg "_law_cell_at" = some (.ref A.a__law_cell_at)
  b__law_cell_at : Binds K A.d__law_cell_at ["_law_script", "_law_k"] []
  F__law_dice : FnP K "_law_dice" s__law_dice A.a__law_dice A.d__law_dice
  g__law_dice : mg "_law_dice" = some (.ref A.a__law_dice)
  b__law_dice : Binds K A.d__law_dice ["_law_cell"] []
  F__law_roll : FnP K "_law_roll" s__law_roll A.a__law_roll A.d__law_roll
  g__law_roll : mg "_law_roll" = some (.ref A.a__law_roll)
  b__law_roll : Binds K A.d__law_roll ["_law_dice_here", "_law_most"] []
  F__law_whole : FnP K "_law_whole" s__law_whole A.a__law_whole A.d__law_whole
  g__law_whole : mg "_law_whole" = some (.ref A.a__law_whole)
  b__law_whole : Binds K A.d__law_whole ["_law_found"] []
  F__law_river : FnP K "_law_river" s__law_river A.a__law_river A.d__law_river
  g__law_river : mg "_law_river" = some (.ref A.a__law_river)
  b__law_river : Binds K A.d__law_river ["_law_dice_here", "_law_many"] []
  F__law_time : FnP K "_law_time" s__law_time A.a__law_time A.d__law_time
  g__law_time : mg "_law_time" = some (.ref A.a__law_time)
  b__law_time : Binds K A.d__law_time ["_law_river_here", "_law_place", "_law_hour"] []
  F__law_barges : FnP K "_law_barges" s__law_barges A.a__law_barges A.d__law_barges
  g__law_barges : mg "_law_barges" = some (.ref A.a__law_barges)
  b__law_barges : Binds K A.d__law_barges ["_law_dice_here", "_law_river_here", "_law_many"] []
  F__law_book : FnP K "_law_book" s__law_book A.a__law_book A.d__law_book
  g__law_book : mg "_law_book" = some (.ref A.a__law_book)
  b__law_book : Binds K A.d__law_book ["_law_script", "_law_most"] []
  F_law : FnP K "law" s_law A.a_law A.d_law
  n_all : mg "all" = none
  n_bool : mg "bool" = none
  n_enumerate : mg "enumerate" = none
  n_int : mg "int" = none
  n_isinstance : mg "isinstance" = none
  n_len : mg "len" = none
  n_max : mg "max" = none
  n_range : mg "range" = none
  n_sum : mg "sum" = none
  n_tuple : mg "tuple" = none

def Tabs (A : Ad) (H : Hp) : Prop := TabG H A.k_is_stretch.2 ∧ TabG H A.k_check_book.2 ∧ TabG H A.k_arrival.2
theorem Tabs.ext {A : Ad} {ex : List Addr} {H H1 : Hp} (h : Tabs A H) (e : Ext ex H H1) : Tabs A H1 := ⟨e.tabG h.1, e.tabG h.2.1, e.tabG h.2.2⟩
theorem Tabs.is_stretch {A : Ad} {H : Hp} (h : Tabs A H) : TabG H A.k_is_stretch.2 := h.1
theorem Tabs.check_book {A : Ad} {H : Hp} (h : Tabs A H) : TabG H A.k_check_book.2 := h.2.1
theorem Tabs.arrival {A : Ad} {H : Hp} (h : Tabs A H) : TabG H A.k_arrival.2 := h.2.2
section
variable {P : Program} {w : World} {A : Ad} {K : PySem.W.Frag} {mg : Str → Option Value} {base : Heap}
def spIsNumber : Sp := fun vs H Q _ => ∃ v lo hi : Int, vs = [.int v, .int lo, .int hi] ∧ lo ≤ v ∧ v ≤ hi ∧ Q (.bl true) H
theorem ok_is_number (T : Facts A K mg base) : FnOk P w K mg base CX0 1 A.a_is_number A.d_is_number ["value", "least", "most"] (spIsNumber) := by
  refine T.F_is_number.ok sc_is_number (fun vs H Q E h => ?_) (fun cdv A1 outer s H vs Q E hr h => ?_)
  · obtain ⟨v, lo, hi, rfl, _⟩ := h
    rfl
  · obtain ⟨v, lo, hi, rfl, h1, h2, q⟩ := h
    refine ⟨_, PSs.nox (pss_cons (ps_if (PW.pt (pw_or (pt_val (pe_callB call_isi (by rfl) T.n_isinstance PyProof.Rows.boot_isinstance (pa_cons (pv 0) (pa_cons (pe_bltn (v := .ty "bool") (by rfl) T.n_bool (by decide +kernel) rfl) pa_nil)))) (pw_or1 (pt_not (pt_val (pe_callB call_isi (by rfl) T.n_isinstance PyProof.Rows.boot_isinstance (pa_cons (pv 0) (pa_cons (pe_bltn (v := .ty "int") (by rfl) T.n_int (by decide +kernel) rfl) pa_nil)))))))) (pss_one (ps_ret pe_bl)) pss_nil)
      (pss_one (ps_ret (pe_chain op_le op_le (pv 1) (pv 0) (pv 2))))), ?_⟩
    refine ⟨.int v, rfl, tc1 (isi_ib ⟨_, rfl, iteF ⟨.int v, rfl, tc1 (isi_ii ⟨_, rfl, iteF ?_⟩)⟩⟩)⟩
    refine ⟨.int lo, rfl, .int v, rfl, _, _, rfl, rfl, _, rfl, iteD h1 ⟨.int hi, rfl, _, _, rfl, rfl, ?_⟩⟩
    show Q (.bl (decide (v ≤ hi))) H
    rw [decide_eq_true h2]
    exact q

def spIsRow (K : PySem.W.Frag) : Sp := fun vs H Q _ => ∃ (a : Addr) (xs : List V) (lo hi : Int), vs = [.ref a, .int lo, .int hi] ∧ SqT K H a xs ∧ lo ≤ (xs.length : Int) ∧ (xs.length : Int) ≤ hi ∧ Q (.bl true) H
theorem ok_is_row (T : Facts A K mg base) : FnOk P w K mg base CX0 1 A.a_is_row A.d_is_row ["value", "least", "most"] (spIsRow K) := by
  refine T.F_is_row.ok sc_is_row (fun vs H Q E h => ?_) (fun cdv A1 outer s H vs Q E hr h => ?_)
  · obtain ⟨a, xs, lo, hi, rfl, _⟩ := h
    rfl
  · obtain ⟨a, xs, lo, hi, rfl, t, h1, h2, q⟩ := h
    refine ⟨_, PSs.nox (pss_one (ps_ret (pe_and (pe_callB call_isi (by rfl) T.n_isinstance PyProof.Rows.boot_isinstance (pa_cons (pv 0) (pa_cons (pe_bltn (v := .ty "tuple") (by rfl) T.n_tuple (by decide +kernel) rfl) pa_nil))) (pe_one (pe_chain op_le op_le (pv 1) (pe_callB call_len_seq (by rfl) T.n_len PySem.boot_len (pa_cons (pv 0) pa_nil)) (pv 2)))))), ?_⟩
    refine ⟨.ref a, rfl, tc1 (isi_tt t ⟨_, rfl, iteT ?_⟩)⟩
    refine ⟨.int lo, rfl, .ref a, rfl, a, _, rfl, .inr t, _, _, rfl, rfl, _, rfl, iteD h1 ⟨.int hi, rfl, _, _, rfl, rfl, ?_⟩⟩
    show Q (.bl (decide ((xs.length : Int) ≤ hi))) H
    rw [decide_eq_true h2]
    exact q

def spIsStretch (A : Ad) (K : PySem.W.Frag) : Sp := fun vs H Q _ => ∃ (v : V) (s : Stretch), vs = [v] ∧ IsStretch K H v s ∧ s.Ok ∧ Tabs A H ∧ ∀ H', Ext [] H H' → Q (.bl true) H'
theorem ok_is_stretch (T : Facts A K mg base) : FnOk P w K mg base CX0 3 A.a_is_stretch A.d_is_stretch ["value"] (spIsStretch A K) := by
  refine GX.okT T.F_is_stretch T.h_is_stretch sc_is_stretch (fun vs H Q E h => ?_) (fun A1 outer s H vs Q E hr h => ?_)
  · obtain ⟨v, s, rfl, _⟩ := h
    rfl
  · obtain ⟨v, st, rfl, ⟨a, d, rfl, t1, t2⟩, ok, tb, q⟩ := h
    refine ⟨_, PSs.nox (pss_cons (ps_if (pt_not (pt_val (pe_call (ok_is_row T) (hr.mono (by decide)) (by rfl) T.g_is_row T.F_is_row.kp T.b_is_row .nil pass0 (pa_cons (pv 0) (pa_cons pe_int (pa_cons pe_int pa_nil)))))) (pss_one (ps_ret pe_bl)) pss_nil)
      (pss_cons (ps_asg (pv 0) (pg_tup (by rfl) (pgs_cons (pg_name (i := 1) sc_is_stretch.nd rfl (Or.inl rfl)) (pgs_cons (pg_name (i := 2) sc_is_stretch.nd rfl (Or.inl rfl)) (pgs_cons (pg_name (i := 3) sc_is_stretch.nd rfl (Or.inl rfl)) pgs_nil)))))
      (pss_cons (ps_if (PW.pt (pw_or (pt_not (pt_val (pe_call (ok_is_number T) (hr.mono (by decide)) (by rfl) T.g_is_number T.F_is_number.kp T.b_is_number .nil pass0 (pa_cons (pv 1) (pa_cons pe_int (pa_cons pe_int pa_nil)))))) (pw_or1 (pt_not (pt_val (pe_call (ok_is_number T) (hr.mono (by decide)) (by rfl) T.g_is_number T.F_is_number.kp T.b_is_number .nil pass0 (pa_cons (pv 2) (pa_cons pe_int (pa_cons pe_int pa_nil))))))))) (pss_one (ps_ret pe_bl)) pss_nil)
      (pss_one (ps_ret (pe_and (pe_call (ok_is_row T) (hr.mono (by decide)) (by rfl) T.g_is_row T.F_is_row.kp T.b_is_row .nil pass0 (pa_cons (pv 3) (pa_cons pe_int (pa_cons pe_int pa_nil)))) (pe_one (GX.pe_allG (own := [("depth", 4)]) (g := (gName 4)) hr (by rfl) T.n_all T.t_is_stretch rfl (GX.genOk_by (own := [("depth", 4)]) (N := ["value", "hours", "room", "depths", "depth"]) (sc := defScope s_is_stretch) (by decide +kernel)) sc_is_stretch.nd (pi_tup (pv 3)) (fun _ _ _ _ _ _ _ => (pg_name (i := 4) sc_is_stretch.nd rfl (Or.inl rfl))) (fun _ _ _ _ _ _ _ => pts_nil) (fun _ _ _ _ _ _ _ => (pe_call (ok_is_number T) ((GX.room_gcx hr).mono (by decide)) (by rfl) T.g_is_number T.F_is_number.kp T.b_is_number .nil pass0 (pa_cons (pv 4) (pa_cons pe_int (pa_cons pe_int pa_nil))))))))))))), ?_⟩
    refine ⟨.ref a, rfl, a, _, _, _, rfl, t1, by simp, by simp, _, rfl, iteF ?_⟩
    refine ⟨.ref a, rfl, a, _, rfl, t1, rfl, _, _, rfl, _, _, rfl, _, _, rfl, rfl, ?_⟩
    refine ⟨_, rfl, _, _, _, rfl, ok.h1, ok.h9, _, rfl, iteF ⟨_, rfl, _, _, _, rfl, ok.r1, ok.r9, _, rfl, iteF ?_⟩⟩
    refine ⟨_, rfl, d, _, _, _, rfl, t2, by rw [List.length_map]; exact Int.ofNat_le.mpr ok.d1, by rw [List.length_map]; exact Int.ofNat_le.mpr ok.d24, _, rfl, iteT ?_⟩
    refine ⟨.ref d, rfl, d, rfl, ⟨_, t2⟩, all_tup (xs := st.ds.map V.int) tb.is_stretch (fun _ H2 => Ext [] H H2) (fun H2 hT => Ext.tab tb.is_stretch hT) (fun _ _ _ e => e.sqT t2) (fun i x H2 hx e => ?_) (fun H2 e => q H2 e)⟩
    obtain ⟨y, hy, rfl⟩ := map_get hx
    have oy := ok.ds y (List.mem_of_getElem? hy)
    exact ⟨rfl, _, rfl, _, _, _, rfl, oy.1, oy.2, true, rfl, iteT e⟩

def spIsReady : Sp := fun vs H Q _ => ∃ v : Int, vs = [.int v] ∧ 0 ≤ v ∧ v ≤ 99 ∧ Q (.bl true) H
theorem ok_is_ready (T : Facts A K mg base) : FnOk P w K mg base CX0 2 A.a_is_ready A.d_is_ready ["value"] (spIsReady) := by
  refine T.F_is_ready.ok sc_is_ready (fun vs H Q E h => ?_) (fun cdv A1 outer s H vs Q E hr h => ?_)
  · obtain ⟨v, rfl, _⟩ := h
    rfl
  · obtain ⟨v, rfl, h1, h2, q⟩ := h
    refine ⟨_, PSs.nox (pss_one (ps_ret (pe_call (ok_is_number T) (hr.mono (by decide)) (by rfl) T.g_is_number T.F_is_number.kp T.b_is_number .nil pass0 (pa_cons (pv 0) (pa_cons pe_int (pa_cons pe_int pa_nil)))))), ?_⟩
    exact ⟨_, rfl, _, _, _, rfl, h1, h2, q⟩

def spIsBarge (K : PySem.W.Frag) : Sp := fun vs H Q _ => ∃ (v : V) (b : Barge) (n : Nat), vs = [v, .int (n : Int)] ∧ IsBarge K H v b ∧ b.Ok n ∧ Q (.bl true) H
theorem ok_is_barge (T : Facts A K mg base) : FnOk P w K mg base CX0 3 A.a_is_barge A.d_is_barge ["value", "last"] (spIsBarge K) := by
  refine T.F_is_barge.ok sc_is_barge (fun vs H Q E h => ?_) (fun cdv A1 outer s H vs Q E hr h => ?_)
  · obtain ⟨v, b, n, rfl, _⟩ := h
    rfl
  · obtain ⟨v, b, n, rfl, ⟨a, rfl, t1⟩, ok, q⟩ := h
    refine ⟨_, PSs.nox (pss_cons (ps_if (pt_not (pt_val (pe_call (ok_is_row T) (hr.mono (by decide)) (by rfl) T.g_is_row T.F_is_row.kp T.b_is_row .nil pass0 (pa_cons (pv 0) (pa_cons pe_int (pa_cons pe_int pa_nil)))))) (pss_one (ps_ret pe_bl)) pss_nil)
      (pss_cons (ps_asg (pv 0) (pg_tup (by rfl) (pgs_cons (pg_name (i := 2) sc_is_barge.nd rfl (Or.inl rfl)) (pgs_cons (pg_name (i := 3) sc_is_barge.nd rfl (Or.inl rfl)) (pgs_cons (pg_name (i := 4) sc_is_barge.nd rfl (Or.inl rfl)) (pgs_cons (pg_name (i := 5) sc_is_barge.nd rfl (Or.inl rfl)) (pgs_cons (pg_name (i := 6) sc_is_barge.nd rfl (Or.inl rfl)) pgs_nil)))))))
      (pss_cons (ps_if (PW.pt (pw_or (pt_not (pt_val (pe_call (ok_is_number T) (hr.mono (by decide)) (by rfl) T.g_is_number T.F_is_number.kp T.b_is_number .nil pass0 (pa_cons (pv 2) (pa_cons pe_int (pa_cons (pv 1) pa_nil)))))) (pw_or (pt_not (pt_val (pe_call (ok_is_number T) (hr.mono (by decide)) (by rfl) T.g_is_number T.F_is_number.kp T.b_is_number .nil pass0 (pa_cons (pv 3) (pa_cons pe_int (pa_cons (pv 1) pa_nil)))))) (pw_or1 (pt_cmpR op_ge (pv 2) (pv 3) (nomark _)))))) (pss_one (ps_ret pe_bl)) pss_nil)
      (pss_one (ps_ret (pe_and (pe_call (ok_is_number T) (hr.mono (by decide)) (by rfl) T.g_is_number T.F_is_number.kp T.b_is_number .nil pass0 (pa_cons (pv 4) (pa_cons pe_int (pa_cons pe_int pa_nil)))) (pe_and (pe_call (ok_is_ready T) (hr.mono (by decide)) (by rfl) T.g_is_ready T.F_is_ready.kp T.b_is_ready .nil pass0 (pa_cons (pv 5) pa_nil)) (pe_one (pe_call (ok_is_number T) (hr.mono (by decide)) (by rfl) T.g_is_number T.F_is_number.kp T.b_is_number .nil pass0 (pa_cons (pv 6) (pa_cons pe_int (pa_cons pe_int pa_nil)))))))))))), ?_⟩
    have := ok.b0
    have := ok.bg
    have := ok.gn
    refine ⟨.ref a, rfl, a, _, _, _, rfl, t1, by simp, by simp, _, rfl, iteF ?_⟩
    refine ⟨.ref a, rfl, a, _, rfl, t1, rfl, _, _, rfl, _, _, rfl, _, _, rfl, _, _, rfl, _, _, rfl, rfl, ?_⟩
    refine ⟨_, rfl, _, rfl, _, _, _, rfl, ok.b0, by omega, _, rfl, iteF ⟨_, rfl, _, rfl, _, _, _, rfl, by omega, ok.gn, _, rfl, iteF ⟨_, rfl, _, rfl, _, _, rfl, rfl, _, rfl, iteDn (by omega) ?_⟩⟩⟩
    refine ⟨_, rfl, _, _, _, rfl, ok.d1, ok.d99, _, rfl, iteT ⟨_, rfl, _, rfl, ok.r0, ok.r99, _, rfl, iteT ⟨_, rfl, _, _, _, rfl, ok.u0, ok.u199, q⟩⟩⟩

def spCheckBook (A : Ad) (K : PySem.W.Frag) : Sp := fun vs H Q _ => ∃ (v : V) (k : Book), vs = [v] ∧ IsBook K H v k ∧ k.Ok ∧ Tabs A H ∧ ∀ H', Ext [] H H' → Q .non H'
theorem ok_check_book (T : Facts A K mg base) : FnOk P w K mg base CX0 5 A.a_check_book A.d_check_book ["book"] (spCheckBook A K) := by
  refine GX.okT T.F_check_book T.h_check_book sc_check_book (fun vs H Q E h => ?_) (fun A1 outer s H vs Q E hr h => ?_)
  · obtain ⟨v, k, rfl, _⟩ := h
    rfl
  · obtain ⟨v, k, rfl, ⟨a, r, b, rfl, t0, ⟨ra, rs, rfl, t1, pr⟩, ⟨ba, bs, rfl, t2, pb⟩⟩, ok, tb, q⟩ := h
    refine ⟨_, PSs.nox (pss_cons (ps_if (pt_not (pt_val (pe_call (ok_is_row T) (hr.mono (by decide)) (by rfl) T.g_is_row T.F_is_row.kp T.b_is_row .nil pass0 (pa_cons (pv 0) (pa_cons pe_int (pa_cons pe_int pa_nil)))))) (pss_one ps_never) pss_nil)
      (pss_cons (ps_asg (pv 0) (pg_tup (by rfl) (pgs_cons (pg_name (i := 1) sc_check_book.nd rfl (Or.inl rfl)) (pgs_cons (pg_name (i := 2) sc_check_book.nd rfl (Or.inl rfl)) pgs_nil))))
      (pss_cons (ps_if (PW.pt (pw_or (pt_not (pt_val (pe_call (ok_is_row T) (hr.mono (by decide)) (by rfl) T.g_is_row T.F_is_row.kp T.b_is_row .nil pass0 (pa_cons (pv 1) (pa_cons pe_int (pa_cons pe_int pa_nil)))))) (pw_or1 (pt_not (pt_val (GX.pe_allG (own := [("stretch", 3)]) (g := (gName 3)) hr (by rfl) T.n_all T.t_check_book rfl (GX.genOk_by (own := [("stretch", 3)]) (N := ["book", "stretches", "barges", "stretch", "last", "barge"]) (sc := defScope s_check_book) (by decide +kernel)) sc_check_book.nd (pi_tup (pv 1)) (fun _ _ _ _ _ _ _ => (pg_name (i := 3) sc_check_book.nd rfl (Or.inl rfl))) (fun _ _ _ _ _ _ _ => pts_nil) (fun _ _ _ _ _ _ _ => (pe_call (ok_is_stretch T) ((GX.room_gcx hr).mono (by decide)) (by rfl) T.g_is_stretch T.F_is_stretch.kp T.b_is_stretch .nil pass0 (pa_cons (pv 3) pa_nil))))))))) (pss_one ps_never) pss_nil)
      (pss_cons (ps_set (i := 4) sc_check_book.nd rfl (Or.inr rfl) (pe_callB call_len_seq (by rfl) T.n_len PySem.boot_len (pa_cons (pv 1) pa_nil)))
      (pss_one (ps_if (PW.pt (pw_or (pt_not (pt_val (pe_call (ok_is_row T) (hr.mono (by decide)) (by rfl) T.g_is_row T.F_is_row.kp T.b_is_row .nil pass0 (pa_cons (pv 2) (pa_cons pe_int (pa_cons pe_int pa_nil)))))) (pw_or1 (pt_not (pt_val (GX.pe_allG (own := [("barge", 5)]) (g := (gName 5)) hr (by rfl) T.n_all T.t_check_book rfl (GX.genOk_by (own := [("barge", 5)]) (N := ["book", "stretches", "barges", "stretch", "last", "barge"]) (sc := defScope s_check_book) (by decide +kernel)) sc_check_book.nd (pi_tup (pv 2)) (fun _ _ _ _ _ _ _ => (pg_name (i := 5) sc_check_book.nd rfl (Or.inl rfl))) (fun _ _ _ _ _ _ _ => pts_nil) (fun _ _ _ _ _ _ _ => (pe_call (ok_is_barge T) ((GX.room_gcx hr).mono (by decide)) (by rfl) T.g_is_barge T.F_is_barge.kp T.b_is_barge .nil pass0 (pa_cons (pv 5) (pa_cons (pv 4) pa_nil)))))))))) (pss_one ps_never) pss_nil)))))), ?_⟩
    have l1 := plen pr
    have l2 := plen pb
    have n1 := ok.rv.n1
    have n8 := ok.rv.n8
    have n7 := ok.n7
    refine ⟨.ref a, rfl, a, _, _, _, rfl, t0, by simp, by simp, _, rfl, iteF ?_⟩
    refine ⟨.ref a, rfl, a, _, rfl, t0, rfl, _, _, rfl, _, _, rfl, rfl, ?_⟩
    refine ⟨_, rfl, ra, _, _, _, rfl, t1, by omega, by omega, _, rfl, iteF ?_⟩
    refine tNot_ (tB_ (all_var (xs := rs) rfl t1 tb.check_book (fun _ H2 => Ext [] H H2) (fun H2 hT => Ext.tab tb.check_book hT) (fun _ _ _ e => e.sqT t1) (fun i x H2 hx e => ?_) (fun H2 e => ?_)))
    · obtain ⟨s1, hs1, is1⟩ := pget pr hx
      exact ⟨rfl, _, rfl, _, s1, rfl, e.stretch is1, ok.rv.ok s1 (List.mem_of_getElem? hs1), tb.ext e, fun H3 e3 => ⟨true, rfl, iteT (e.trans e3)⟩⟩
    refine ⟨_, rfl, iteF ?_⟩
    refine ⟨_, rfl, ra, _, rfl, .inr (e.sqT t1), ?_⟩
    refine ⟨_, rfl, ba, _, _, _, rfl, e.sqT t2, by omega, by omega, _, rfl, iteF ?_⟩
    refine tNot_ (tB_ (all_var (xs := bs) rfl (e.sqT t2) (tb.ext e).check_book (fun _ H3 => Ext [] H H3) (fun H3 hT => e.trans (Ext.tab (tb.ext e).check_book hT)) (fun _ _ _ e => e.sqT t2) (fun i x H3 hx e3 => ?_) (fun H3 e3 => ?_)))
    · obtain ⟨s1, hs1, is1⟩ := pget pb hx
      exact ⟨rfl, _, rfl, _, rfl, _, s1, rs.length, rfl, e3.barge is1, by rw [l1]; exact ok.ok s1 (List.mem_of_getElem? hs1), true, rfl, iteT e3⟩
    exact ⟨_, rfl, iteF (q H3 e3)⟩

def spArrival (A : Ad) (K : PySem.W.Frag) : Sp := fun vs H Q _ => ∃ (v : V) (rv : List Stretch) (p : Nat) (h : Int), vs = [v, .int (p : Int), .int h] ∧ IsRiver K H v rv ∧ RvOk rv ∧ Tabs A H ∧ ∀ H', Ext [] H H' → Q (.int (h + hsum rv p)) H'
theorem ok_arrival (T : Facts A K mg base) : FnOk P w K mg base CX0 2 A.a_arrival A.d_arrival ["stretches", "place", "hour"] (spArrival A K) := by
  refine GX.okT T.F_arrival T.h_arrival sc_arrival (fun vs H Q E h => ?_) (fun A1 outer s H vs Q E hr h => ?_)
  · obtain ⟨v, rv, p, h, rfl, _⟩ := h
    rfl
  · obtain ⟨v, rv, p, h, rfl, ⟨ra, rs, rfl, t1, pr⟩, ok, tb, q⟩ := h
    refine ⟨_, PSs.nox (pss_one (ps_ret (pe_op op_add (pv 2) (GX.pe_sumG (own := [("at", 3), ("stretch", 4)]) (g := (gTup K 2 (gCons (gName 3) (gCons (gName 4) gNil)))) hr (by rfl) T.n_sum T.t_arrival rfl (GX.genOk_by (own := [("at", 3), ("stretch", 4)]) (N := ["stretches", "place", "hour", "at", "stretch"]) (sc := defScope s_arrival) (by decide +kernel)) sc_arrival.nd (GE.pi_enumT (by rfl) T.n_enumerate (pa_cons (pv 0) pa_nil)) (fun _ _ _ _ _ _ _ => (pg_tup (by rfl) (pgs_cons (pg_name (i := 3) sc_arrival.nd rfl (Or.inl rfl)) (pgs_cons (pg_name (i := 4) sc_arrival.nd rfl (Or.inl rfl)) pgs_nil)))) (fun _ _ _ _ _ _ _ => (pts_one (pt_cmpR op_lt (pv 3) (pv 1) (nomark _)))) (fun _ _ _ _ _ _ _ => (pe_ix (ixK K rfl) (pv 4) pe_int (fun _ _ => rfl))))))), ?_⟩
    have l1 := plen pr
    have n8 := ok.n8
    refine ⟨.int h, rfl, sum_enumT (xs := rs) rfl t1 tb.arrival (fun i z H2 => Ext [] H H2 ∧ z = hsum rv (min i p)) (fun H2 hT => ⟨Ext.tab tb.arrival hT, by rw [Nat.zero_min]; rfl⟩) (fun _ _ _ _ e => e.1.sqT t1) (fun i x z H2 T hx e hn => ?_) (fun z H2 e => ?_)⟩
    · obtain ⟨s1, hs1, is1⟩ := pget pr hx
      obtain ⟨e, rfl⟩ := e
      have e2 : Ext [] H (upd H2 T (.tup [.int (i : Nat), x])) := e.trans (Ext.new hn)
      obtain ⟨sa, sd, rfl, u1, u2⟩ := e2.stretch is1
      have hb := hsum_bound ok.ok (min i p)
      have hi : i < rs.length := (List.getElem?_eq_some_iff.mp hx).1
      have o1 := (ok.ok s1 (List.mem_of_getElem? hs1)).h1
      have o9 := (ok.ok s1 (List.mem_of_getElem? hs1)).h9
      refine ⟨T, _, rfl, sqT_new, rfl, _, _, rfl, _, _, rfl, rfl, rfl, _, rfl, _, rfl, _, _, rfl, rfl, _, rfl, ?_⟩
      refine ite2 (fun c => ?_) (fun c => ?_)
      · have hip : i < p := Int.ofNat_lt.mp (of_decide_eq_true c)
        refine ⟨_, rfl, .inr (.inl ⟨sa, _, 0, _, rfl, rfl, u1, atI_nat (j := 0) rfl, s1.hours, rfl, inLong_small (by omega) (by omega), inLong_small (by omega) (by omega), e2, ?_⟩)⟩
        rw [show min i p = i by omega, show min (i + 1) p = i + 1 by omega, hsum_succ hs1]
      · have hip : ¬ i < p := fun z => c (decide_eq_true (Int.ofNat_lt.mpr z))
        refine ⟨e2, ?_⟩
        rw [show min i p = p by omega, show min (i + 1) p = p by omega]
    · obtain ⟨e, rfl⟩ := e
      refine ⟨_, _, rfl, rfl, ?_⟩
      rw [l1]
      have hm : hsum rv (min rv.length p) = hsum rv p := by
        by_cases hp : rv.length ≤ p
        · rw [Nat.min_eq_left hp, hsum_len hp]
        · rw [Nat.min_eq_right (by omega)]
      rw [hm]
      exact q H2 e

def spDepthThen (K : PySem.W.Frag) : Sp := fun vs H Q _ => ∃ (v : V) (rv : List Stretch) (k : Nat) (t : Int) (s : Stretch), vs = [v, .int (k : Int), .int t] ∧ IsRiver K H v rv ∧ rv[k]? = some s ∧ 0 < s.ds.length ∧ Q (.int (depthAt s t)) H
theorem ok_depth_then (T : Facts A K mg base) : FnOk P w K mg base CX0 1 A.a_depth_then A.d_depth_then ["stretches", "stretch", "time"] (spDepthThen K) := by
  refine T.F_depth_then.ok sc_depth_then (fun vs H Q E h => ?_) (fun cdv A1 outer s H vs Q E hr h => ?_)
  · obtain ⟨v, rv, k, t, s, rfl, _⟩ := h
    rfl
  · obtain ⟨v, rv, k, t, s1, rfl, ⟨ra, rs, rfl, t1, pr⟩, hk, hd, q⟩ := h
    refine ⟨_, PSs.nox (pss_cons (ps_set (i := 3) sc_depth_then.nd rfl (Or.inl rfl) (pe_ix ix_seq (pe_ix ix_seq (pv 0) (pv 1) (fun _ _ => rfl)) pe_int (fun _ _ => rfl)))
      (pss_one (ps_ret (pe_ix ix_seq (pv 3) (pe_op op_modN (pv 2) (pe_callB call_len_seq (by rfl) T.n_len PySem.boot_len (pa_cons (pv 3) pa_nil))) (fun _ _ => rfl))))), ?_⟩
    obtain ⟨x, hx, sa, sd, rfl, u1, u2⟩ := pgetR pr hk
    refine ⟨.ref ra, rfl, _, rfl, .inr (.inl ⟨ra, _, _, _, rfl, rfl, t1, atI_nat hx, .inr (.inl ⟨sa, _, 2, _, rfl, rfl, u1, atI_nat (j := 2) rfl, ?_⟩)⟩)⟩
    refine ⟨_, rfl, _, rfl, _, rfl, sd, _, rfl, .inr u2, _, _, rfl, rfl, ?_, .inr (.inl ⟨sd, _, _, _, rfl, rfl, u2, depth_item hd, q⟩)⟩
    rw [List.length_map]
    omega

def spTimeAt (A : Ad) (K : PySem.W.Frag) : Sp := fun vs H Q _ => ∃ (v : V) (k : Book) (p : Nat) (h : Int), vs = [v, .int (p : Int), .int h] ∧ IsBook K H v k ∧ k.Ok ∧ Tabs A H ∧ ∀ H', Ext [] H H' → Q (.int (h + hsum k.rv p)) H'
theorem ok_time_at (T : Facts A K mg base) : FnOk P w K mg base CX0 6 A.a_time_at A.d_time_at ["book", "place", "hour"] (spTimeAt A K) := by
  refine T.F_time_at.ok sc_time_at (fun vs H Q E h => ?_) (fun cdv A1 outer s H vs Q E hr h => ?_)
  · obtain ⟨v, k, p, h, rfl, _⟩ := h
    rfl
  · obtain ⟨v, k, p, h, rfl, ib, ok, tb, q⟩ := h
    refine ⟨_, PSs.nox (pss_cons (ps_expr (pe_call (ok_check_book T) (hr.mono (by decide)) (by rfl) T.g_check_book T.F_check_book.kp T.b_check_book .nil pass0 (pa_cons (pv 0) pa_nil)))
      (pss_one (ps_ret (pe_call (ok_arrival T) (hr.mono (by decide)) (by rfl) T.g_arrival T.F_arrival.kp T.b_arrival .nil pass0 (pa_cons (pe_ix ix_seq (pv 0) pe_int (fun _ _ => rfl)) (pa_cons (pv 1) (pa_cons (pv 2) pa_nil))))))), ?_⟩
    refine ⟨_, rfl, _, k, rfl, ib, ok, tb, fun H1 e1 => ?_⟩
    obtain ⟨a, r, b, rfl, t0, ir, _⟩ := e1.book ib
    refine ⟨_, rfl, .inr (.inl ⟨a, _, 0, _, rfl, rfl, t0, atI_nat (j := 0) rfl, ?_⟩)⟩
    exact ⟨_, rfl, _, rfl, _, _, p, h, rfl, ir, ok.rv, tb.ext e1, fun H2 e2 => q H2 (e1.trans e2)⟩

def spDepthAt (A : Ad) (K : PySem.W.Frag) : Sp := fun vs H Q _ => ∃ (v : V) (k : Book) (n : Nat) (t : Int) (s : Stretch), vs = [v, .int (n : Int), .int t] ∧ IsBook K H v k ∧ k.Ok ∧ k.rv[n]? = some s ∧ Tabs A H ∧ ∀ H', Ext [] H H' → Q (.int (depthAt s t)) H'
theorem ok_depth_at (T : Facts A K mg base) : FnOk P w K mg base CX0 6 A.a_depth_at A.d_depth_at ["book", "stretch", "time"] (spDepthAt A K) := by
  refine T.F_depth_at.ok sc_depth_at (fun vs H Q E h => ?_) (fun cdv A1 outer s H vs Q E hr h => ?_)
  · obtain ⟨v, k, n, t, s, rfl, _⟩ := h
    rfl
  · obtain ⟨v, k, n, t, s1, rfl, ib, ok, hn, tb, q⟩ := h
    refine ⟨_, PSs.nox (pss_cons (ps_expr (pe_call (ok_check_book T) (hr.mono (by decide)) (by rfl) T.g_check_book T.F_check_book.kp T.b_check_book .nil pass0 (pa_cons (pv 0) pa_nil)))
      (pss_cons (ps_set (i := 3) sc_depth_at.nd rfl (Or.inl rfl) (pe_ix ix_seq (pv 0) pe_int (fun _ _ => rfl)))
      (pss_cons (ps_if (pt_not (pt_chain op_le op_lt pe_int (pv 1) (pe_callB call_len_seq (by rfl) T.n_len PySem.boot_len (pa_cons (pv 3) pa_nil)))) (pss_one (ps_ret pe_int)) pss_nil)
      (pss_one (ps_ret (pe_call (ok_depth_then T) (hr.mono (by decide)) (by rfl) T.g_depth_then T.F_depth_then.kp T.b_depth_then .nil pass0 (pa_cons (pv 3) (pa_cons (pv 1) (pa_cons (pv 2) pa_nil))))))))), ?_⟩
    refine ⟨_, rfl, _, k, rfl, ib, ok, tb, fun H1 e1 => ?_⟩
    obtain ⟨a, r, b, rfl, t0, ⟨ra, rs, rfl, t1, pr⟩, _⟩ := e1.book ib
    have hlt : n < k.rv.length := (List.getElem?_eq_some_iff.mp hn).1
    have l1 := plen pr
    refine ⟨_, rfl, .inr (.inl ⟨a, _, 0, _, rfl, rfl, t0, atI_nat (j := 0) rfl, ?_⟩)⟩
    refine ⟨_, rfl, _, _, rfl, rfl, _, rfl, iteD (by omega) ⟨_, rfl, ra, _, rfl, .inr t1, _, _, rfl, rfl, _, rfl, ?_⟩⟩
    rw [decide_eq_true (show ((n : Int) < (rs.length : Int)) by omega)]
    refine iteF ?_
    exact ⟨_, rfl, _, rfl, _, rfl, _, k.rv, n, t, s1, rfl, ⟨ra, rs, rfl, t1, pr⟩, hn, (ok.rv.ok s1 (List.mem_of_getElem? hn)).d1, q H1 e1⟩

def spCellAt (K : PySem.W.Frag) : Sp := fun vs H Q _ => ∃ (a : Addr) (ns : List Int) (k : Nat), vs = [.ref a, .int (k : Int)] ∧ SqL K H a (ns.map V.int) ∧ ∀ v : Int, Q (.int v) H
theorem ok__law_cell_at (T : Facts A K mg base) : FnOk P w K mg base CX0 1 A.a__law_cell_at A.d__law_cell_at ["_law_script", "_law_k"] (spCellAt K) := by
  refine T.F__law_cell_at.ok sc__law_cell_at (fun vs H Q E h => ?_) (fun cdv A1 outer s H vs Q E hr h => ?_)
  · obtain ⟨a, ns, k, rfl, _⟩ := h
    rfl
  · obtain ⟨a, ns, k, rfl, t, q⟩ := h
    refine ⟨_, PSs.nox (pss_cons (ps_if (pt_cmpR op_lt (pv 1) (pe_callB call_len_seq (by rfl) T.n_len PySem.boot_len (pa_cons (pv 0) pa_nil)) (nomark _)) (pss_one (ps_ret (pe_ix ix_seq (pv 0) (pv 1) (fun _ _ => rfl)))) pss_nil)
      (pss_one (ps_ret pe_int))), ?_⟩
    refine ⟨_, rfl, _, rfl, a, _, rfl, .inl t, _, _, rfl, rfl, _, rfl, ite2 (fun c => ?_) (fun c => q 0)⟩
    have hk : k < ns.length := by
      have c' := of_decide_eq_true c
      rw [List.length_map] at c'
      exact Int.ofNat_lt.mp c'
    exact ⟨_, rfl, _, rfl, .inl ⟨a, _, _, _, rfl, rfl, t, atI_cell hk, q _⟩⟩

def spDice : Sp := fun vs H Q _ => ∃ c : Int, vs = [.int c] ∧ ∀ (D : Addr) (H' : Hp), H D = none → Ext [] H H' → DiceAt H' D → Q (.ref D) H'
theorem ok__law_dice (T : Facts A K mg base) : FnOk P w K mg base CX0 1 A.a__law_dice A.d__law_dice ["_law_cell"] (spDice) := by
  refine T.F__law_dice.ok sc__law_dice (fun vs H Q E h => ?_) (fun cdv A1 outer s H vs Q E hr h => ?_)
  · obtain ⟨c, rfl, _⟩ := h
    rfl
  · obtain ⟨c, rfl, q⟩ := h
    refine ⟨_, PSs.nox (pss_one (ps_ret (pe_lst (pa_cons (pe_op op_modN (pv 0) pe_int) (pa_cons (pe_op op_mul (pe_op op_fdivW (pv 0) pe_int) (pe_callTy call_int1 (by rfl) T.n_int (by decide +kernel) (pa_cons (pe_cmpR op_ge (pv 0) (pe_op op_pow pe_int pe_int) (nomark _)) pa_nil))) pa_nil))))), ?_⟩
    refine ⟨_, rfl, _, _, rfl, rfl, by show (2147483647 : Int) ≠ 0; decide, ?_⟩
    refine ⟨_, rfl, c, 2147483647, rfl, rfl, wide_div (b := 40) (by decide) (by decide) (by decide) (by decide), _, rfl, 10, 18, rfl, rfl, ⟨by decide, by decide, by decide⟩, _, _, rfl, rfl, .inr ⟨_, rfl, ?_⟩⟩
    have hz : (10 : Int) ^ (Int.toNat 18) = 1000000000000000000 := by decide
    by_cases hc : (10 : Int) ^ (Int.toNat 18) ≤ c
    · refine ⟨_, _, rfl, by rw [decide_eq_true hc], .inr ⟨by decide, by decide⟩, (by show 2 ≤ sizeLine; decide), fun D hD => q D _ hD (Ext.new hD) ⟨_, _, upd_same, Int.fmod_nonneg_of_pos _ (by decide), Int.fmod_lt_of_pos _ (by decide), ?_⟩⟩
      show 0 ≤ c / 2147483647 * 1
      rw [Int.mul_one]
      exact Int.ediv_nonneg (by omega) (by decide)
    · refine ⟨_, _, rfl, by rw [decide_eq_false hc], .inr ⟨by decide, by decide⟩, (by show 2 ≤ sizeLine; decide), fun D hD => q D _ hD (Ext.new hD) ⟨_, _, upd_same, Int.fmod_nonneg_of_pos _ (by decide), Int.fmod_lt_of_pos _ (by decide), ?_⟩⟩
      show 0 ≤ c / 2147483647 * 0
      rw [Int.mul_zero]
      exact Int.le_refl _

def spRoll : Sp := fun vs H Q _ => ∃ (D : Addr) (m : Int), vs = [.ref D, .int m] ∧ DiceAt H D ∧ 0 < m ∧ m < 1000000 ∧ ∀ (v : Int) (H' : Hp), 0 ≤ v → v < m → Ext [D] H H' → DiceAt H' D → Q (.int v) H'
theorem ok__law_roll (T : Facts A K mg base) : FnOk P w K mg base CX0 1 A.a__law_roll A.d__law_roll ["_law_dice_here", "_law_most"] (spRoll) := by
  refine T.F__law_roll.ok sc__law_roll (fun vs H Q E h => ?_) (fun cdv A1 outer s H vs Q E hr h => ?_)
  · obtain ⟨D, m, rfl, _⟩ := h
    rfl
  · obtain ⟨D, m, rfl, ⟨a, b, hD, a0, a1, b0⟩, m0, m1, q⟩ := h
    refine ⟨_, PSs.nox (pss_cons (ps_if (pt_cmpR op_gt (pe_ix ix_seq (pv 0) pe_int (fun _ _ => rfl)) pe_int (nomark _)) (pss_cons (ps_set (i := 2) sc__law_roll.nd rfl (Or.inl rfl) (pe_op op_modN (pe_ix ix_seq (pv 0) pe_int (fun _ _ => rfl)) (pv 1)))
      (pss_cons (ps_asg (pe_op op_fdivN (pe_ix ix_seq (pv 0) pe_int (fun _ _ => rfl)) (pv 1)) (pg_sub (pv 0) pe_int set_list))
      (pss_one (ps_ret (pv 2))))) pss_nil)
      (pss_cons (ps_asg (pe_op op_modN (pe_op op_add (pe_op op_mul (pe_ix ix_seq (pv 0) pe_int (fun _ _ => rfl)) pe_int) pe_int) pe_int) (pg_sub (pv 0) pe_int set_list))
      (pss_one (ps_ret (pe_op op_modN (pe_op op_fdivN (pe_ix ix_seq (pv 0) pe_int (fun _ _ => rfl)) pe_int) (pv 1)))))), ?_⟩
    have hL : ∀ {K}, SqL K H D [.int a, .int b] := .inl (.inl hD)
    refine ⟨_, rfl, .inl ⟨D, _, 1, _, rfl, rfl, hL, atI_nat (j := 1) rfl, _, _, rfl, rfl, _, rfl, ite2 (fun c => ?_) (fun c => ?_)⟩⟩
    · refine ⟨_, rfl, .inl ⟨D, _, 1, _, rfl, rfl, hL, atI_nat (j := 1) rfl, _, rfl, _, _, rfl, rfl, by omega, ?_⟩⟩
      refine ⟨_, rfl, .inl ⟨D, _, 1, _, rfl, rfl, hL, atI_nat (j := 1) rfl, _, rfl, _, _, rfl, rfl, ⟨by omega, by omega⟩, ?_⟩⟩
      refine ⟨_, rfl, D, _, 1, 1, rfl, rfl, hD, rfl, ?_⟩
      refine ⟨_, rfl, q _ _ ?_ ?_ (Ext.wr (by simp) hD) ⟨a, b.fdiv m, ?_, a0, a1, ?_⟩⟩
      · exact Int.fmod_nonneg_of_pos _ m0
      · exact Int.fmod_lt_of_pos _ m0
      · rw [upd_same]
        rfl
      · rw [Int.fdiv_eq_ediv_of_nonneg _ (by omega)]
        exact Int.ediv_nonneg b0 (by omega)
    · refine ⟨_, rfl, .inl ⟨D, _, 0, _, rfl, rfl, hL, atI_nat (j := 0) rfl, _, _, rfl, rfl, .inl ⟨by omega, by omega⟩, _, _, rfl, rfl, _, _, rfl, rfl, by show (2147483647 : Int) ≠ 0; decide, ?_⟩⟩
      refine ⟨_, rfl, D, _, 0, 0, rfl, rfl, hD, rfl, ?_⟩
      have hL2 : ∀ {K}, SqL K (upd H D (.lst [.int ((a * 48271 + 11).fmod 2147483647), .int b])) D [.int ((a * 48271 + 11).fmod 2147483647), .int b] := .inl (.inl upd_same)
      refine ⟨_, rfl, .inl ⟨D, _, 0, _, rfl, rfl, hL2, atI_nat (j := 0) rfl, _, _, rfl, rfl, ⟨by decide, by decide⟩, _, rfl, _, _, rfl, rfl, by omega, ?_⟩⟩
      refine q _ _ (Int.fmod_nonneg_of_pos _ m0) (Int.fmod_lt_of_pos _ m0) (Ext.wr (by simp) hD) ⟨_, b, upd_same, Int.fmod_nonneg_of_pos _ (by decide), Int.fmod_lt_of_pos _ (by decide), b0⟩

def spWhole : Sp := fun vs H Q _ => ∃ v : Int, vs = [.int v] ∧ Q (.bl true) H
theorem ok__law_whole (T : Facts A K mg base) : FnOk P w K mg base CX0 1 A.a__law_whole A.d__law_whole ["_law_found"] (spWhole) := by
  refine T.F__law_whole.ok sc__law_whole (fun vs H Q E h => ?_) (fun cdv A1 outer s H vs Q E hr h => ?_)
  · obtain ⟨v, rfl, _⟩ := h
    rfl
  · obtain ⟨v, rfl, q⟩ := h
    refine ⟨_, PSs.nox (pss_one (ps_ret (pe_and (pe_callB call_isi (by rfl) T.n_isinstance PyProof.Rows.boot_isinstance (pa_cons (pv 0) (pa_cons (pe_bltn (v := .ty "int") (by rfl) T.n_int (by decide +kernel) rfl) pa_nil))) (pe_one (pe_not (pe_callB call_isi (by rfl) T.n_isinstance PyProof.Rows.boot_isinstance (pa_cons (pv 0) (pa_cons (pe_bltn (v := .ty "bool") (by rfl) T.n_bool (by decide +kernel) rfl) pa_nil)))))))), ?_⟩
    exact ⟨_, rfl, tc1 (isi_ii ⟨_, rfl, iteT ⟨_, rfl, tc1 (isi_ib ⟨_, rfl, q⟩)⟩⟩)⟩

def spRiver (K : PySem.W.Frag) : Sp := fun vs H Q _ => ∃ (D : Addr) (n : Nat), vs = [.ref D, .int (n : Int)] ∧ DiceAt H D ∧ 1 ≤ n ∧ n ≤ 8 ∧ ∀ (v : V) (rv : List Stretch) (H' : Hp), rv.length = n → RvOk rv → Ext [D] H H' → DiceAt H' D → IsRiver K H' v rv → Q v H'
theorem ok__law_river (T : Facts A K mg base) : FnOk P w K mg base CX0 2 A.a__law_river A.d__law_river ["_law_dice_here", "_law_many"] (spRiver K) := by
  refine T.F__law_river.ok sc__law_river (fun vs H Q E h => ?_) (fun cdv A1 outer s H vs Q E hr h => ?_)
  · obtain ⟨D, n, rfl, _⟩ := h
    rfl
  · obtain ⟨D, n, rfl, dD, n1, n8, q⟩ := h
    refine ⟨_, PSs.nox (pss_cons (ps_set (i := 2) sc__law_river.nd rfl (Or.inl rfl) (pe_lst pa_nil))
      (pss_cons (ps_for PassesOwn.never rfl (pi_range1 (by rfl) T.n_range (pa_cons (pv 1) pa_nil)) (pg_name (i := 3) sc__law_river.nd rfl (Or.inl rfl)) (pss_cons (ps_set (i := 4) sc__law_river.nd rfl (Or.inl rfl) (pe_callTy call_int1 (by rfl) T.n_int (by decide +kernel) (pa_cons (pe_cmpR op_eq (pe_call (ok__law_roll T) (hr.mono (by decide)) (by rfl) T.g__law_roll T.F__law_roll.kp T.b__law_roll .nil pass0 (pa_cons (pv 0) (pa_cons pe_int pa_nil))) pe_int (nomark _)) pa_nil)))
      (pss_cons (ps_set (i := 5) sc__law_river.nd rfl (Or.inl rfl) (pe_lst pa_nil))
      (pss_cons (ps_for PassesOwn.never rfl (pi_range1 (by rfl) T.n_range (pa_cons (pe_ix ix_seq (pe_lst (pa_cons (pe_op op_add pe_int (pe_call (ok__law_roll T) (hr.mono (by decide)) (by rfl) T.g__law_roll T.F__law_roll.kp T.b__law_roll .nil pass0 (pa_cons (pv 0) (pa_cons pe_int pa_nil)))) (pa_cons pe_int pa_nil))) (pv 4) (fun _ _ => rfl)) pa_nil)) (pg_name (i := 6) sc__law_river.nd rfl (Or.inl rfl)) (pss_one (ps_expr (pe_bm PySem.F.plainAttrs_list PySem.F.slot_list_append PySem.F.type_list_append mt_append (pv 5) (pa_cons (pe_ix ix_seq (pe_lst (pa_cons (pe_op op_add pe_int (pe_call (ok__law_roll T) (hr.mono (by decide)) (by rfl) T.g__law_roll T.F__law_roll.kp T.b__law_roll .nil pass0 (pa_cons (pv 0) (pa_cons pe_int pa_nil)))) (pa_cons pe_int pa_nil))) (pe_callTy call_int1 (by rfl) T.n_int (by decide +kernel) (pa_cons (pe_cmpR op_eq (pe_call (ok__law_roll T) (hr.mono (by decide)) (by rfl) T.g__law_roll T.F__law_roll.kp T.b__law_roll .nil pass0 (pa_cons (pv 0) (pa_cons pe_int pa_nil))) pe_int (nomark _)) pa_nil)) (fun _ _ => rfl)) pa_nil)))))
      (pss_one (ps_expr (pe_bm PySem.F.plainAttrs_list PySem.F.slot_list_append PySem.F.type_list_append mt_append (pv 2) (pa_cons (pe_tup (pa_cons (pe_op op_add pe_int (pe_call (ok__law_roll T) (hr.mono (by decide)) (by rfl) T.g__law_roll T.F__law_roll.kp T.b__law_roll .nil pass0 (pa_cons (pv 0) (pa_cons (pe_ix ix_seq (pe_lst (pa_cons pe_int (pa_cons pe_int pa_nil))) (pv 4) (fun _ _ => rfl)) pa_nil)))) (pa_cons (pe_op op_add pe_int (pe_call (ok__law_roll T) (hr.mono (by decide)) (by rfl) T.g__law_roll T.F__law_roll.kp T.b__law_roll .nil pass0 (pa_cons (pv 0) (pa_cons (pe_ix ix_seq (pe_lst (pa_cons pe_int (pa_cons pe_int pa_nil))) (pv 4) (fun _ _ => rfl)) pa_nil)))) (pa_cons (pe_callTy call_tuple_of (by rfl) T.n_tuple (by decide +kernel) (pa_cons (pv 5) pa_nil)) pa_nil)))) pa_nil))))))))
      (pss_one (ps_ret (pe_callTy call_tuple_of (by rfl) T.n_tuple (by decide +kernel) (pa_cons (pv 2) pa_nil)))))), ?_⟩
    refine ⟨Nat.zero_le _, fun O hO => ?_⟩
    have nDO : D ≠ O := by
      obtain ⟨a, b, z, _⟩ := dD
      exact ne_of_none z hO
    have e0 : Ext [D] H (upd H O (.lst [])) := Ext.new hO
    refine ⟨_, rfl, (n : Int), rfl, by omega, by omega, for_range (n := n) (fun i σ H1 => ∃ y3 y4 y5 y6 vs rv, σ = [some (.ref D), some (.int (n : Int)), some (.ref O), y3, y4, y5, y6] ∧ Ext [D] H H1 ∧ DiceAt H1 D ∧ H1 O = some (.lst vs) ∧ Paired (IsStretch K H1) vs rv ∧ rv.length = i ∧ ∀ s ∈ rv, s.Ok)
      ⟨none, none, none, none, [], [], rfl, e0, (Ext.new (ex := []) hO).dice (by simp) dD, upd_same, .nil, rfl, fun _ h => absurd h (by simp)⟩ ?_ ?_⟩
    · rintro i σ H1 hi ⟨y3, y4, y5, y6, vs, rv, rfl, e1, d1, hO1, pv, hl, okr⟩
      have lv := plen pv
      -- slow
      refine ⟨_, rfl, D, 9, rfl, d1, by omega, by omega, fun v H2 v0 v1 e2 d2 => ⟨rfl, .inr ⟨_, rfl, ?_⟩⟩⟩
      have hsl := b01 (decide (V.int v = V.int 0))
      generalize (if decide (V.int v = V.int 0) = true then (1 : Int) else 0) = sl at hsl ⊢
      -- depths = []
      refine ⟨Nat.zero_le _, fun L hL => ?_⟩
      have nDL : D ≠ L := by
        obtain ⟨a, b, z, _⟩ := d2
        exact ne_of_none z hL
      have hO2 : H2 O = some (.lst vs) := e2.lst O _ (by simp [nDO.symm]) hO1
      have nOL : O ≠ L := ne_of_none hO2 hL
      have e3 : Ext [D] H1 (upd H2 L (.lst [])) := e2.trans (Ext.new hL)
      have d3 : DiceAt (upd H2 L (.lst [])) D := (Ext.new (ex := []) hL).dice (by simp) d2
      -- range([1 + roll(4), 24][slow])
      refine ⟨_, rfl, D, 4, rfl, d3, by omega, by omega, fun w4 H4 w0 w1 e4 d4 => ⟨_, _, rfl, rfl, by show 2 ≤ sizeLine; decide, fun p hp => ?_⟩⟩
      obtain ⟨z, hz, hz2⟩ := pick2 (x := 1 + w4) (y := 24) hsl
      refine ⟨_, rfl, .inl ⟨p, _, sl, .int z, rfl, rfl, .inl (.inl upd_same), hz, ?_⟩⟩
      obtain ⟨m, rfl⟩ : ∃ m : Nat, z = (m : Int) := ⟨z.toNat, by omega⟩
      have hm : 1 ≤ m ∧ m ≤ 24 := by omega
      have e5 : Ext [D] H1 (upd H4 p (.lst [.int (1 + w4), .int 24])) := e3.trans (e4.trans (Ext.new hp))
      have d5 : DiceAt (upd H4 p (.lst [.int (1 + w4), .int 24])) D := (Ext.new (ex := []) hp).dice (by simp) d4
      have hL4 : H4 L = some (.lst []) := e4.lst L _ (by simp [nDL.symm]) upd_same
      have hL5 : (upd H4 p (.lst [.int (1 + w4), .int 24])) L = some (.lst []) := (Ext.new (ex := []) hp).lst L _ (by simp) hL4
      refine ⟨(m : Int), rfl, by omega, by omega, for_range (n := m) (fun j σ H6 => ∃ y6 ds, σ = [some (.ref D), some (.int (n : Int)), some (.ref O), some (.int (0 + (i : Int))), some (.int sl), some (.ref L), y6] ∧ Ext [D] H1 H6 ∧ DiceAt H6 D ∧ H6 L = some (.lst (ds.map V.int)) ∧ ds.length = j ∧ ∀ d ∈ ds, 0 ≤ d ∧ d ≤ 99)
        ⟨y6, [], rfl, e5, d5, hL5, rfl, fun _ h => absurd h (by simp)⟩ ?_ ?_⟩
      · rintro j σ H6 hj ⟨y6, ds, rfl, e6, d6, hL6, hdl, okd⟩
        refine ⟨_, rfl, .inl ⟨rfl, _, .inl (.inl hL6)⟩, ?_⟩
        refine ⟨_, rfl, D, 8, rfl, d6, by omega, by omega, fun w8 H7 w80 w81 e7 d7 => ⟨_, _, rfl, rfl, by show 2 ≤ sizeLine; decide, fun p2 hp2 => ?_⟩⟩
        have d8 : DiceAt (upd H7 p2 (.lst [.int (5 + w8), .int 0])) D := (Ext.new (ex := []) hp2).dice (by simp) d7
        have hL7 : H7 L = some (.lst (ds.map V.int)) := e7.lst L _ (by simp [nDL.symm]) hL6
        have hL8 : (upd H7 p2 (.lst [.int (5 + w8), .int 0])) L = some (.lst (ds.map V.int)) := (Ext.new (ex := []) hp2).lst L _ (by simp) hL7
        refine ⟨_, rfl, D, 20, rfl, d8, by omega, by omega, fun w9 H9 w90 w91 e9 d9 => ⟨rfl, .inr ⟨_, rfl, ?_⟩⟩⟩
        have hsk := b01 (decide (V.int w9 = V.int 0))
        generalize (if decide (V.int w9 = V.int 0) = true then (1 : Int) else 0) = sk at hsk ⊢
        obtain ⟨z, hz, hz2⟩ := pick2 (x := 5 + w8) (y := 0) hsk
        have np : D ≠ p2 := by
          obtain ⟨a, b, zz, _⟩ := d7
          exact ne_of_none zz hp2
        have hp9 : H9 p2 = some (.lst [.int (5 + w8), .int 0]) := e9.lst p2 _ (by simp [np.symm]) upd_same
        have hL9 : H9 L = some (.lst (ds.map V.int)) := e9.lst L _ (by simp [nDL.symm]) hL8
        refine .inl ⟨p2, _, sk, .int z, rfl, rfl, .inl (.inl hp9), hz, L, _, _, rfl, rfl, hL9, small1000 (by rw [List.length_map]; omega), ?_⟩
        refine ⟨_, ds ++ [z], rfl, ?_, ?_, ?_, by rw [List.length_append]; simp; omega, fun d hd => ?_⟩
        · have e10 : Ext [D] H1 H9 := e6.trans (e7.trans ((Ext.new hp2).trans e9))
          exact e10.wrNew (e2.dom L hL)
        · obtain ⟨a, b, zz, r⟩ := d9
          exact ⟨a, b, by rw [upd_ne nDL]; exact zz, r⟩
        · rw [upd_same, List.map_append]
          rfl
        · rcases List.mem_append.mp hd with hd | hd
          · exact okd d hd
          · rw [List.mem_singleton.mp hd]
            omega
      · rintro σ H6 ⟨y6, ds, rfl, e6, d6, hL6, hdl, okd⟩
        have hO6 : H6 O = some (.lst vs) := e6.lst O _ (by simp [nDO.symm]) hO1
        refine ⟨_, rfl, .inl ⟨rfl, _, .inl (.inl hO6)⟩, ?_⟩
        -- 1 + roll([3, 9][slow])
        refine ⟨_, rfl, by show 2 ≤ sizeLine; decide, fun p3 hp3 => ?_⟩
        obtain ⟨z3, hz3, hz32⟩ := pick2 (x := 3) (y := 9) hsl
        have d7 : DiceAt (upd H6 p3 (.lst [.int 3, .int 9])) D := (Ext.new (ex := []) hp3).dice (by simp) d6
        refine ⟨_, rfl, .inl ⟨p3, _, sl, .int z3, rfl, rfl, .inl (.inl upd_same), hz3, D, z3, rfl, d7, by omega, by omega, fun h1 H8 h10 h11 e8 d8 => ⟨_, _, rfl, rfl, ?_⟩⟩⟩
        refine ⟨_, rfl, by show 2 ≤ sizeLine; decide, fun p4 hp4 => ?_⟩
        obtain ⟨z4, hz4, hz42⟩ := pick2 (x := 3) (y := 9) hsl
        have d9 : DiceAt (upd H8 p4 (.lst [.int 3, .int 9])) D := (Ext.new (ex := []) hp4).dice (by simp) d8
        refine ⟨_, rfl, .inl ⟨p4, _, sl, .int z4, rfl, rfl, .inl (.inl upd_same), hz4, D, z4, rfl, d9, by omega, by omega, fun r1 H10 r10 r11 e10 d10 => ⟨_, _, rfl, rfl, ?_⟩⟩⟩
        have f6 : Ext [D] H6 H10 := (Ext.new hp3).trans (e8.trans ((Ext.new hp4).trans e10))
        have hL10 : H10 L = some (.lst (ds.map V.int)) := f6.lst L _ (by simp [nDL.symm]) hL6
        have hO10 : H10 O = some (.lst vs) := f6.lst O _ (by simp [nDO.symm]) hO6
        refine ⟨_, rfl, L, _, rfl, .inl ⟨.inl (.inl hL10), fun t ht => ?_⟩⟩
        have d11 : DiceAt (upd H10 t (.tup (ds.map V.int))) D := (Ext.new (ex := []) ht).dice (by simp) d10
        refine ⟨by show 3 ≤ sizeLine; decide, fun u hu => ?_⟩
        have d12 := (Ext.new (ex := []) (o := .tup [.int (1 + h1), .int (1 + r1), .ref t]) hu).dice (by simp) d11
        have g6 : Ext [D] H6 (upd (upd H10 t (.tup (ds.map V.int))) u (.tup [.int (1 + h1), .int (1 + r1), .ref t])) := f6.trans ((Ext.new ht).trans (Ext.new hu))
        have hO12 : (upd (upd H10 t (.tup (ds.map V.int))) u (.tup [.int (1 + h1), .int (1 + r1), .ref t])) O = some (.lst vs) := g6.lst O _ (by simp [nDO.symm]) hO6
        have st : IsStretch K (upd (upd H10 t (.tup (ds.map V.int))) u (.tup [.int (1 + h1), .int (1 + r1), .ref t])) (.ref u) ⟨1 + h1, 1 + r1, ds⟩ :=
          ⟨u, t, rfl, sqT_new, (Ext.new (ex := []) hu).sqT sqT_new⟩
        refine ⟨O, _, _, rfl, rfl, hO12, small1000 (by omega), ?_⟩
        have w12 : Ext [O] (upd (upd H10 t (.tup (ds.map V.int))) u (.tup [.int (1 + h1), .int (1 + r1), .ref t])) (upd (upd (upd H10 t (.tup (ds.map V.int))) u (.tup [.int (1 + h1), .int (1 + r1), .ref t])) O (.lst (vs ++ [.ref u]))) := Ext.wr (by simp) hO12
        refine ⟨_, _, _, _, vs ++ [.ref u], rv ++ [⟨1 + h1, 1 + r1, ds⟩], rfl, (e1.trans (e6.trans g6)).wrNew hO, ?_, upd_same, ?_, by rw [List.length_append, hl]; rfl, fun s hs => ?_⟩
        · obtain ⟨a, b, zz, r⟩ := d12
          exact ⟨a, b, by rw [upd_ne nDO]; exact zz, r⟩
        · refine papp (Paired.mapP pv fun _ _ z => ?_) (w12.stretch st)
          exact w12.stretch ((e6.trans g6).stretch z)
        · rcases List.mem_append.mp hs with hs | hs
          · exact okr s hs
          · rw [List.mem_singleton.mp hs]
            exact ⟨by show 1 ≤ 1 + h1; omega, by show 1 + h1 ≤ 9; omega, by show 1 ≤ 1 + r1; omega, by show 1 + r1 ≤ 9; omega, by show 1 ≤ ds.length; omega, by show ds.length ≤ 24; omega, okd⟩
    · rintro σ H1 ⟨y3, y4, y5, y6, vs, rv, rfl, e1, d1, hO1, pv, hl, okr⟩
      refine ⟨_, rfl, O, _, rfl, .inl ⟨.inl (.inl hO1), fun t ht => ?_⟩⟩
      exact q (.ref t) rv _ hl ⟨by omega, by omega, okr⟩ (e1.trans (Ext.new ht)) ((Ext.new (ex := []) ht).dice (by simp) d1) ⟨t, vs, rfl, sqT_new, Paired.mapP pv fun _ _ z => (Ext.new (ex := []) ht).stretch z⟩

def spTime (K : PySem.W.Frag) : Sp := fun vs H Q _ => ∃ (v : V) (rv : List Stretch) (p : Nat) (h : Int), vs = [v, .int (p : Int), .int h] ∧ IsRiver K H v rv ∧ RvOk rv ∧ ∀ H', Ext [] H H' → Q (.int (h + hsum rv p)) H'
theorem ok__law_time (T : Facts A K mg base) : FnOk P w K mg base CX0 1 A.a__law_time A.d__law_time ["_law_river_here", "_law_place", "_law_hour"] (spTime K) := by
  refine T.F__law_time.ok sc__law_time (fun vs H Q E h => ?_) (fun cdv A1 outer s H vs Q E hr h => ?_)
  · obtain ⟨v, rv, p, h, rfl, _⟩ := h
    rfl
  · obtain ⟨v, rv, p, h, rfl, ⟨ra, rs, rfl, t1, pr⟩, ok, q⟩ := h
    refine ⟨_, PSs.nox (pss_one (ps_ret (pe_op op_add (pv 2) (pe_callB (cr_sum rfl) (by rfl) T.n_sum PyProof.Rows.boot_sum (pa_cons (pe_lc (own := [("_law_stretch", 3)]) (g := (gName 3)) rfl sc__law_time.nd (pi_tup (pe_slice GX.sl_tupA (pv 0) po_none (po_some (pv 1)))) (blkOk_by (own := [("_law_stretch", 3)]) (N := ["_law_river_here", "_law_place", "_law_hour", "_law_stretch"]) (sc := defScope s__law_time) (by decide +kernel)) (fun _ _ _ _ _ => (pg_name (i := 3) sc__law_time.nd rfl (Or.inl rfl))) (fun _ _ _ _ _ => pts_nil) (fun _ _ _ _ _ => (pe_ix (ixK K rfl) (pv 3) pe_int (fun _ _ => rfl)))) pa_nil))))), ?_⟩
    have l1 := plen pr
    have n8 := ok.n8
    refine ⟨.int h, rfl, .ref ra, rfl, .int (p : Int), rfl, (p : Int), rfl, ra, rs, rfl, t1, fun hw => ?_, fun hw S hS => ?_⟩
    · have tt : SqT K H ra (rs.take p) := by
        rw [whole_take hw]
        exact t1
      have ee : Ext [] H H := Ext.refl
      refine ⟨_, rfl, ⟨_, tt⟩, fun D hD => lc_tup (xs := rs.take p) (fun i H3 => Ext [] H H3 ∧ SqT K H3 ra (rs.take p) ∧ H3 D = some (.lst ((((rv.take p).map (fun s : Stretch => s.hours)).take i).map V.int))) ⟨ee.trans (Ext.new hD), (Ext.new (ex := []) hD).sqT tt, upd_same⟩ (fun _ _ _ z => z.2.1) (fun i x H3 hx z => ?_) (fun H3 z => ?_)⟩
      · obtain ⟨s1, hs1, is1⟩ := pget (ptake p pr) hx
        obtain ⟨z1, z2, z3⟩ := z
        obtain ⟨sa, sd, rfl, u1, u2⟩ := z1.stretch is1
        refine ⟨rfl, yesT ?_⟩
        refine ⟨_, rfl, .inr (.inl ⟨sa, _, 0, _, rfl, rfl, u1, atI_nat (j := 0) rfl, _, z3, small1000 (by simp only [List.length_map, List.length_take]; omega), z1.wrNew (ee.dom D hD), (Ext.wr (ex := [D]) (by simp) z3).sqT z2, ?_⟩)⟩
        have e : ((rv.take p).map (fun s : Stretch => s.hours))[i]? = some s1.hours := by rw [List.getElem?_map, hs1]; rfl
        rw [upd_same, List.take_add_one, e, List.map_append]
        rfl
      · obtain ⟨z1, z2, z3⟩ := z
        have e : ((rv.take p).map (fun s : Stretch => s.hours)).take (rs.take p).length = (rv.take p).map (fun s : Stretch => s.hours) := List.take_of_length_le (by simp only [List.length_map, List.length_take]; omega)
        rw [e] at z3
        exact ⟨D, (rv.take p).map (fun s : Stretch => s.hours), rfl, .inl (.inl z3), _, _, rfl, rfl, q H3 z1⟩
    · have tt : SqT K (upd H S (.tup (cutV rs none (some (p : Int))))) S (rs.take p) := by
        have z := sqT_new (K := K) (H := H) (p := S) (xs := cutV rs none (some (p : Int)))
        rw [cut_take] at z ⊢
        exact z
      have ee : Ext [] H (upd H S (.tup (cutV rs none (some (p : Int))))) := Ext.new hS
      refine ⟨_, rfl, ⟨_, tt⟩, fun D hD => lc_tup (xs := rs.take p) (fun i H3 => Ext [] H H3 ∧ SqT K H3 S (rs.take p) ∧ H3 D = some (.lst ((((rv.take p).map (fun s : Stretch => s.hours)).take i).map V.int))) ⟨ee.trans (Ext.new hD), (Ext.new (ex := []) hD).sqT tt, upd_same⟩ (fun _ _ _ z => z.2.1) (fun i x H3 hx z => ?_) (fun H3 z => ?_)⟩
      · obtain ⟨s1, hs1, is1⟩ := pget (ptake p pr) hx
        obtain ⟨z1, z2, z3⟩ := z
        obtain ⟨sa, sd, rfl, u1, u2⟩ := z1.stretch is1
        refine ⟨rfl, yesT ?_⟩
        refine ⟨_, rfl, .inr (.inl ⟨sa, _, 0, _, rfl, rfl, u1, atI_nat (j := 0) rfl, _, z3, small1000 (by simp only [List.length_map, List.length_take]; omega), z1.wrNew (ee.dom D hD), (Ext.wr (ex := [D]) (by simp) z3).sqT z2, ?_⟩)⟩
        have e : ((rv.take p).map (fun s : Stretch => s.hours))[i]? = some s1.hours := by rw [List.getElem?_map, hs1]; rfl
        rw [upd_same, List.take_add_one, e, List.map_append]
        rfl
      · obtain ⟨z1, z2, z3⟩ := z
        have e : ((rv.take p).map (fun s : Stretch => s.hours)).take (rs.take p).length = (rv.take p).map (fun s : Stretch => s.hours) := List.take_of_length_le (by simp only [List.length_map, List.length_take]; omega)
        rw [e] at z3
        exact ⟨D, (rv.take p).map (fun s : Stretch => s.hours), rfl, .inl (.inl z3), _, _, rfl, rfl, q H3 z1⟩

def spBarges (K : PySem.W.Frag) : Sp := fun vs H Q _ => ∃ (D : Addr) (v : V) (rv : List Stretch) (n : Nat), vs = [.ref D, v, .int (n : Int)] ∧ DiceAt H D ∧ IsRiver K H v rv ∧ RvOk rv ∧ n ≤ 7 ∧ ∀ (u : V) (bs : List Barge) (H' : Hp), bs.length = n → (∀ b ∈ bs, b.Ok rv.length) → Ext [D] H H' → DiceAt H' D → IsBarges K H' u bs → Q u H'
theorem ok__law_barges (T : Facts A K mg base) : FnOk P w K mg base CX0 2 A.a__law_barges A.d__law_barges ["_law_dice_here", "_law_river_here", "_law_many"] (spBarges K) := by
  refine T.F__law_barges.ok sc__law_barges (fun vs H Q E h => ?_) (fun cdv A1 outer s H vs Q E hr h => ?_)
  · obtain ⟨D, v, rv, n, rfl, _⟩ := h
    rfl
  · obtain ⟨D, v, rv, n, rfl, dD, ir, ok, n7, q⟩ := h
    refine ⟨_, PSs.nox (pss_cons (ps_set (i := 3) sc__law_barges.nd rfl (Or.inl rfl) (pe_lst pa_nil))
      (pss_cons (ps_set (i := 4) sc__law_barges.nd rfl (Or.inl rfl) (pe_ix ix_seq (pe_lst (pa_cons pe_int (pa_cons pe_int pa_nil))) (pe_callTy call_int1 (by rfl) T.n_int (by decide +kernel) (pa_cons (pe_cmpR op_gt (pv 2) pe_int (nomark _)) pa_nil)) (fun _ _ => rfl)))
      (pss_cons (ps_for PassesOwn.never rfl (pi_range1 (by rfl) T.n_range (pa_cons (pv 2) pa_nil)) (pg_name (i := 5) sc__law_barges.nd rfl (Or.inl rfl)) (pss_cons (ps_set (i := 6) sc__law_barges.nd rfl (Or.inl rfl) (pe_call (ok__law_roll T) (hr.mono (by decide)) (by rfl) T.g__law_roll T.F__law_roll.kp T.b__law_roll .nil pass0 (pa_cons (pv 0) (pa_cons (pe_callB call_len_seq (by rfl) T.n_len PySem.boot_len (pa_cons (pv 1) pa_nil)) pa_nil))))
      (pss_cons (ps_set (i := 7) sc__law_barges.nd rfl (Or.inl rfl) (pe_op op_add (pe_op op_add (pv 6) pe_int) (pe_call (ok__law_roll T) (hr.mono (by decide)) (by rfl) T.g__law_roll T.F__law_roll.kp T.b__law_roll .nil pass0 (pa_cons (pv 0) (pa_cons (pe_op op_sub (pe_callB call_len_seq (by rfl) T.n_len PySem.boot_len (pa_cons (pv 1) pa_nil)) (pv 6)) pa_nil)))))
      (pss_cons (ps_set (i := 8) sc__law_barges.nd rfl (Or.inl rfl) (pe_call (ok__law_roll T) (hr.mono (by decide)) (by rfl) T.g__law_roll T.F__law_roll.kp T.b__law_roll .nil pass0 (pa_cons (pv 0) (pa_cons pe_int pa_nil))))
      (pss_cons (ps_set (i := 9) sc__law_barges.nd rfl (Or.inl rfl) (pe_callB (call_max2 rfl) (by rfl) T.n_max (by decide +kernel) (pa_cons pe_int (pa_cons (pe_op op_sub (pe_call (ok__law_time T) (hr.mono (by decide)) (by rfl) T.g__law_time T.F__law_time.kp T.b__law_time .nil pass0 (pa_cons (pv 1) (pa_cons (pv 6) (pa_cons (pv 8) pa_nil)))) (pe_call (ok__law_roll T) (hr.mono (by decide)) (by rfl) T.g__law_roll T.F__law_roll.kp T.b__law_roll .nil pass0 (pa_cons (pv 0) (pa_cons (pv 4) pa_nil)))) pa_nil))))
      (pss_cons (ps_set (i := 10) sc__law_barges.nd rfl (Or.inl rfl) (pe_op op_add (pe_call (ok__law_time T) (hr.mono (by decide)) (by rfl) T.g__law_time T.F__law_time.kp T.b__law_time .nil pass0 (pa_cons (pv 1) (pa_cons (pv 7) (pa_cons (pv 8) pa_nil)))) (pe_call (ok__law_roll T) (hr.mono (by decide)) (by rfl) T.g__law_roll T.F__law_roll.kp T.b__law_roll .nil pass0 (pa_cons (pv 0) (pa_cons (pv 4) pa_nil)))))
      (pss_cons (ps_set (i := 11) sc__law_barges.nd rfl (Or.inl rfl) (pe_ix ix_seq (pe_lst (pa_cons (pe_op op_add pe_int (pe_call (ok__law_roll T) (hr.mono (by decide)) (by rfl) T.g__law_roll T.F__law_roll.kp T.b__law_roll .nil pass0 (pa_cons (pv 0) (pa_cons pe_int pa_nil)))) (pa_cons (pe_op op_add pe_int (pe_call (ok__law_roll T) (hr.mono (by decide)) (by rfl) T.g__law_roll T.F__law_roll.kp T.b__law_roll .nil pass0 (pa_cons (pv 0) (pa_cons pe_int pa_nil)))) pa_nil))) (pe_callTy call_int1 (by rfl) T.n_int (by decide +kernel) (pa_cons (pe_cmpR op_eq (pe_call (ok__law_roll T) (hr.mono (by decide)) (by rfl) T.g__law_roll T.F__law_roll.kp T.b__law_roll .nil pass0 (pa_cons (pv 0) (pa_cons pe_int pa_nil))) pe_int (nomark _)) pa_nil)) (fun _ _ => rfl)))
      (pss_cons (ps_set (i := 12) sc__law_barges.nd rfl (Or.inl rfl) (pe_call (ok__law_roll T) (hr.mono (by decide)) (by rfl) T.g__law_roll T.F__law_roll.kp T.b__law_roll .nil pass0 (pa_cons (pv 0) (pa_cons pe_int pa_nil))))
      (pss_cons (ps_if (pt_cmpR op_lt (pv 12) pe_int (nomark _)) (pss_one (ps_asg (pe_ix ix_seq (pe_lst (pa_cons (pe_tup (pa_cons pe_int (pa_cons (pv 9) (pa_cons (pv 10) pa_nil)))) (pa_cons (pe_tup (pa_cons (pv 11) (pa_cons pe_int (pa_cons pe_int pa_nil)))) (pa_cons (pe_tup (pa_cons (pv 11) (pa_cons (pv 9) (pa_cons pe_int pa_nil)))) pa_nil)))) (pv 12) (fun _ _ => rfl)) (pg_tup (by rfl) (pgs_cons (pg_name (i := 11) sc__law_barges.nd rfl (Or.inl rfl)) (pgs_cons (pg_name (i := 9) sc__law_barges.nd rfl (Or.inl rfl)) (pgs_cons (pg_name (i := 10) sc__law_barges.nd rfl (Or.inl rfl)) pgs_nil)))))) pss_nil)
      (pss_one (ps_expr (pe_bm PySem.F.plainAttrs_list PySem.F.slot_list_append PySem.F.type_list_append mt_append (pv 3) (pa_cons (pe_tup (pa_cons (pv 6) (pa_cons (pv 7) (pa_cons (pv 11) (pa_cons (pv 9) (pa_cons (pv 10) pa_nil)))))) pa_nil)))))))))))))
      (pss_one (ps_ret (pe_callTy call_tuple_of (by rfl) T.n_tuple (by decide +kernel) (pa_cons (pv 3) pa_nil))))))), ?_⟩
    obtain ⟨ra, rs, rfl, t1, pr⟩ := id ir
    have lr := plen pr
    have rn1 := ok.n1
    have rn8 := ok.n8
    refine ⟨Nat.zero_le _, fun O hO => ?_⟩
    have nDO : D ≠ O := by
      obtain ⟨a, b, z, _⟩ := dD
      exact ne_of_none z hO
    -- slack
    refine ⟨by show 2 ≤ sizeLine; decide, fun p0 hp0 => ⟨_, rfl, _, _, rfl, rfl, .inr ⟨_, rfl, ?_⟩⟩⟩
    have hsl := b01 (decide ((4 : Int) < (n : Int)))
    generalize (if decide ((4 : Int) < (n : Int)) = true then (1 : Int) else 0) = sl at hsl ⊢
    obtain ⟨sk, hz, hz2⟩ := pick2 (x := 6) (y := 3) hsl
    refine .inl ⟨p0, _, sl, .int sk, rfl, rfl, .inl (.inl upd_same), hz, ?_⟩
    have e0 : Ext [D] H (upd (upd H O (.lst [])) p0 (.lst [.int 6, .int 3])) := (Ext.new hO).trans (Ext.new hp0)
    have d0 : DiceAt (upd (upd H O (.lst [])) p0 (.lst [.int 6, .int 3])) D := (Ext.new (ex := []) hp0).dice (by simp) ((Ext.new (ex := []) hO).dice (by simp) dD)
    have hO0 : (upd (upd H O (.lst [])) p0 (.lst [.int 6, .int 3])) O = some (.lst []) := (Ext.new (ex := []) hp0).lst O _ (by simp) upd_same
    refine ⟨_, rfl, (n : Int), rfl, by omega, by omega, for_range (n := n) (fun i σ H1 => ∃ y5 y6 y7 y8 y9 y10 y11 y12 vs bs, σ = [some (.ref D), some (.ref ra), some (.int (n : Int)), some (.ref O), some (.int sk), y5, y6, y7, y8, y9, y10, y11, y12] ∧ Ext [D] H H1 ∧ DiceAt H1 D ∧ H1 O = some (.lst vs) ∧ Paired (IsBarge K H1) vs bs ∧ bs.length = i ∧ ∀ b ∈ bs, b.Ok rv.length)
      ⟨none, none, none, none, none, none, none, none, [], [], rfl, e0, d0, hO0, .nil, rfl, fun _ h => absurd h (by simp)⟩ ?_ ?_⟩
    · rintro i σ H1 hi ⟨y5, y6, y7, y8, y9, y10, y11, y12, vs, bs, rfl, e1, d1, hO1, pv, hl, okb⟩
      have lv := plen pv
      have r1 := e1.river ir
      have t1' := e1.sqT t1
      -- begin
      refine ⟨_, rfl, _, rfl, ra, rs, rfl, .inr t1', D, _, rfl, d1, by omega, by omega, fun b H2 b0 b1 e2 d2 => ?_⟩
      -- goal
      refine ⟨_, rfl, _, _, rfl, rfl, _, rfl, _, rfl, ra, rs, rfl, .inr (e2.sqT t1'), _, rfl, _, _, rfl, rfl, D, _, rfl, d2, by omega, by omega, fun g H3 g0 g1 e3 d3 => ⟨_, _, rfl, rfl, ?_⟩⟩
      -- hour
      refine ⟨_, rfl, D, 12, rfl, d3, by omega, by omega, fun h H4 h0 h1 e4 d4 => ?_⟩
      obtain ⟨bn, rfl⟩ : ∃ m : Nat, b = (m : Int) := ⟨b.toNat, by omega⟩
      obtain ⟨gn, hgn⟩ : ∃ m : Nat, (bn : Int) + 1 + g = (m : Int) := ⟨((bn : Int) + 1 + g).toNat, by omega⟩
      have f4 : Ext [D] H1 H4 := e2.trans (e3.trans e4)
      -- ready
      refine ⟨_, rfl, _, rfl, _, rfl, .ref ra, rv, bn, h, rfl, f4.river r1, ok, fun H5 e5 => ?_⟩
      have d5 := e5.dice (by simp) d4
      refine ⟨_, rfl, _, rfl, D, sk, rfl, d5, by omega, by omega, fun s1 H6 s10 s11 e6 d6 => ⟨_, _, rfl, rfl, _, _, rfl, ?_⟩⟩
      have f6 : Ext [D] H1 H6 := f4.trans (e5.any.trans e6)
      have bb := hsum_bound ok.ok bn
      have bg := hsum_bound ok.ok gn
      -- due
      refine ⟨_, rfl, _, rfl, _, rfl, .ref ra, rv, gn, h, by rw [← hgn]; rfl, f6.river r1, ok, fun H7 e7 => ?_⟩
      have d7 := e7.dice (by simp) d6
      refine ⟨_, rfl, _, rfl, D, sk, rfl, d7, by omega, by omega, fun s2 H8 s20 s21 e8 d8 => ⟨_, _, rfl, rfl, ?_⟩⟩
      have f8 : Ext [D] H1 H8 := f6.trans (e7.any.trans e8)
      -- draft
      refine ⟨_, rfl, D, 5, rfl, d8, by omega, by omega, fun w1 H9 w10 w11 e9 d9 => ⟨_, _, rfl, rfl, ?_⟩⟩
      refine ⟨_, rfl, D, 8, rfl, d9, by omega, by omega, fun w2 H10 w20 w21 e10 d10 => ⟨_, _, rfl, rfl, by show 2 ≤ sizeLine; decide, fun p1 hp1 => ?_⟩⟩
      have d11 : DiceAt (upd H10 p1 (.lst [.int (1 + w1), .int (5 + w2)])) D := (Ext.new (ex := []) hp1).dice (by simp) d10
      refine ⟨_, rfl, D, 4, rfl, d11, by omega, by omega, fun w3 H12 w30 w31 e12 d12 => ⟨rfl, .inr ⟨_, rfl, ?_⟩⟩⟩
      have hsx := b01 (decide (V.int w3 = V.int 0))
      generalize (if decide (V.int w3 = V.int 0) = true then (1 : Int) else 0) = sx at hsx ⊢
      obtain ⟨dr, hdr, hdr2⟩ := pick2 (x := 1 + w1) (y := 5 + w2) hsx
      have np1 : D ≠ p1 := by
        obtain ⟨a, b, zz, _⟩ := d10
        exact ne_of_none zz hp1
      have hp12 : H12 p1 = some (.lst [.int (1 + w1), .int (5 + w2)]) := e12.lst p1 _ (by simp [np1.symm]) upd_same
      refine .inl ⟨p1, _, sx, .int dr, rfl, rfl, .inl (.inl hp12), hdr, ?_⟩
      have f12 : Ext [D] H1 H12 := f8.trans (e9.trans (e10.trans ((Ext.new hp1).trans e12)))
      -- odd
      refine ⟨_, rfl, D, 60, rfl, d12, by omega, by omega, fun od H13 od0 od1 e13 d13 => ?_⟩
      have f13 : Ext [D] H1 H13 := f12.trans e13
      have d13' := d13
      have hrd : 0 ≤ (if h + hsum rv bn - s1 > 0 then h + hsum rv bn - s1 else 0) ∧ (if h + hsum rv bn - s1 > 0 then h + hsum rv bn - s1 else 0) ≤ 99 := by split <;> omega
      have hgl : (bn : Int) + 1 + g ≤ (rv.length : Int) := by omega
      have hgr : hsum rv gn ≤ 72 := by omega
      generalize (if h + hsum rv bn - s1 > 0 then h + hsum rv bn - s1 else 0) = rd at hrd ⊢
      refine ⟨_, rfl, _, _, rfl, rfl, _, rfl, ite2 (fun c => ?_) (fun c => ?_)⟩
      · have hod : od < 3 := of_decide_eq_true c
        refine ⟨_, rfl, _, rfl, by show 3 ≤ sizeLine; decide, fun q1 hq1 => ?_⟩
        refine ⟨_, rfl, by show 3 ≤ sizeLine; decide, fun q2 hq2 => ?_⟩
        refine ⟨_, rfl, _, rfl, by show 3 ≤ sizeLine; decide, fun q3 hq3 => ?_⟩
        refine ⟨by show 3 ≤ sizeLine; decide, fun q4 hq4 => ?_⟩
        have x1 := Ext.new (ex := [D]) (o := .tup [.int 99, .int rd, .int (h + hsum rv gn + s2)]) hq1
        have x2 := Ext.new (ex := [D]) (o := .tup [.int dr, .int 99, .int 199]) hq2
        have x3 := Ext.new (ex := [D]) (o := .tup [.int dr, .int rd, .int 0]) hq3
        have x4 := Ext.new (ex := [D]) (o := .lst [.ref q1, .ref q2, .ref q3]) hq4
        have fH := f13.trans (x1.trans (x2.trans (x3.trans x4)))
        have dH := (Ext.new (ex := []) (o := .lst [.ref q1, .ref q2, .ref q3]) hq4).dice (by simp) ((Ext.new (ex := []) (o := .tup [.int dr, .int rd, .int 0]) hq3).dice (by simp) ((Ext.new (ex := []) (o := .tup [.int dr, .int 99, .int 199]) hq2).dice (by simp) ((Ext.new (ex := []) (o := .tup [.int 99, .int rd, .int (h + hsum rv gn + s2)]) hq1).dice (by simp) d13)))
        have t1q := (x2.trans (x3.trans x4)).sqT (sqT_new (K := K) (H := H13) (p := q1) (xs := [.int 99, .int rd, .int (h + hsum rv gn + s2)]))
        have t2q := (x3.trans x4).sqT (sqT_new (K := K) (H := upd H13 q1 (.tup [.int 99, .int rd, .int (h + hsum rv gn + s2)])) (p := q2) (xs := [.int dr, .int 99, .int 199]))
        have t3q := x4.sqT (sqT_new (K := K) (H := upd (upd H13 q1 (.tup [.int 99, .int rd, .int (h + hsum rv gn + s2)])) q2 (.tup [.int dr, .int 99, .int 199])) (p := q3) (xs := [.int dr, .int rd, .int 0]))
        have ho : od = 0 ∨ od = 1 ∨ od = 2 := by omega
        rcases ho with rfl | rfl | rfl
        · have okB : (⟨bn, (bn : Int) + 1 + g, 99, rd, h + hsum rv gn + s2⟩ : Barge).Ok rv.length := ⟨by show 0 ≤ (bn : Int); omega, by show (bn : Int) < (bn : Int) + 1 + g; omega, hgl, by show (1 : Int) ≤ 99; omega, by show (99 : Int) ≤ 99; omega, hrd.1, hrd.2, by show 0 ≤ h + hsum rv gn + s2; omega, by show h + hsum rv gn + s2 ≤ 199; omega⟩
          refine ⟨_, rfl, .inl ⟨q4, _, 0, .ref q1, rfl, rfl, .inl (.inl upd_same), atI_nat (j := 0) rfl, q1, _, rfl, t1q, rfl, _, _, rfl, _, _, rfl, _, _, rfl, rfl, ?_⟩⟩
          have hO14 := fH.lst O _ (by simp [nDO.symm]) hO1
          refine ⟨_, rfl, .inl ⟨rfl, _, .inl (.inl hO14)⟩, ?_⟩
          refine ⟨_, rfl, _, rfl, _, rfl, _, rfl, _, rfl, by show 5 ≤ sizeLine; decide, fun u hu => ?_⟩
          have hO15 := fun o => (Ext.new (ex := []) (o := o) hu).lst O _ (by simp) hO14
          refine ⟨O, _, _, rfl, rfl, hO15 _, small1000 (by omega), ?_⟩
          have w15 := fun o ys => Ext.wr (ex := [O]) (ys := ys) (by simp) (hO15 o)
          refine ⟨_, _, _, _, _, _, _, _, vs ++ [.ref u], bs ++ [⟨bn, (bn : Int) + 1 + g, 99, rd, h + hsum rv gn + s2⟩], rfl, (e1.trans (fH.trans (Ext.new hu))).wrNew hO, ?_, upd_same, papp (Paired.mapP pv fun _ _ z => (w15 _ _).barge ((fH.trans (Ext.new hu)).barge z)) ⟨u, rfl, (w15 _ _).sqT sqT_new⟩, by rw [List.length_append, hl]; rfl, fun b' hb' => ?_⟩
          · exact (w15 _ _).dice (by simp [nDO]) ((Ext.new (ex := []) hu).dice (by simp) dH)
          · rcases List.mem_append.mp hb' with hb' | hb'
            · exact okb b' hb'
            · rw [List.mem_singleton.mp hb']
              exact okB
        · have okB : (⟨bn, (bn : Int) + 1 + g, dr, 99, 199⟩ : Barge).Ok rv.length := ⟨by show 0 ≤ (bn : Int); omega, by show (bn : Int) < (bn : Int) + 1 + g; omega, hgl, by show 1 ≤ dr; omega, by show dr ≤ 99; omega, by show (0 : Int) ≤ 99; omega, by show (99 : Int) ≤ 99; omega, by show (0 : Int) ≤ 199; omega, by show (199 : Int) ≤ 199; omega⟩
          refine ⟨_, rfl, .inl ⟨q4, _, 1, .ref q2, rfl, rfl, .inl (.inl upd_same), atI_nat (j := 1) rfl, q2, _, rfl, t2q, rfl, _, _, rfl, _, _, rfl, _, _, rfl, rfl, ?_⟩⟩
          have hO14 := fH.lst O _ (by simp [nDO.symm]) hO1
          refine ⟨_, rfl, .inl ⟨rfl, _, .inl (.inl hO14)⟩, ?_⟩
          refine ⟨_, rfl, _, rfl, _, rfl, _, rfl, _, rfl, by show 5 ≤ sizeLine; decide, fun u hu => ?_⟩
          have hO15 := fun o => (Ext.new (ex := []) (o := o) hu).lst O _ (by simp) hO14
          refine ⟨O, _, _, rfl, rfl, hO15 _, small1000 (by omega), ?_⟩
          have w15 := fun o ys => Ext.wr (ex := [O]) (ys := ys) (by simp) (hO15 o)
          refine ⟨_, _, _, _, _, _, _, _, vs ++ [.ref u], bs ++ [⟨bn, (bn : Int) + 1 + g, dr, 99, 199⟩], rfl, (e1.trans (fH.trans (Ext.new hu))).wrNew hO, ?_, upd_same, papp (Paired.mapP pv fun _ _ z => (w15 _ _).barge ((fH.trans (Ext.new hu)).barge z)) ⟨u, rfl, (w15 _ _).sqT sqT_new⟩, by rw [List.length_append, hl]; rfl, fun b' hb' => ?_⟩
          · exact (w15 _ _).dice (by simp [nDO]) ((Ext.new (ex := []) hu).dice (by simp) dH)
          · rcases List.mem_append.mp hb' with hb' | hb'
            · exact okb b' hb'
            · rw [List.mem_singleton.mp hb']
              exact okB
        · have okB : (⟨bn, (bn : Int) + 1 + g, dr, rd, 0⟩ : Barge).Ok rv.length := ⟨by show 0 ≤ (bn : Int); omega, by show (bn : Int) < (bn : Int) + 1 + g; omega, hgl, by show 1 ≤ dr; omega, by show dr ≤ 99; omega, hrd.1, hrd.2, by show (0 : Int) ≤ 0; omega, by show (0 : Int) ≤ 199; omega⟩
          refine ⟨_, rfl, .inl ⟨q4, _, 2, .ref q3, rfl, rfl, .inl (.inl upd_same), atI_nat (j := 2) rfl, q3, _, rfl, t3q, rfl, _, _, rfl, _, _, rfl, _, _, rfl, rfl, ?_⟩⟩
          have hO14 := fH.lst O _ (by simp [nDO.symm]) hO1
          refine ⟨_, rfl, .inl ⟨rfl, _, .inl (.inl hO14)⟩, ?_⟩
          refine ⟨_, rfl, _, rfl, _, rfl, _, rfl, _, rfl, by show 5 ≤ sizeLine; decide, fun u hu => ?_⟩
          have hO15 := fun o => (Ext.new (ex := []) (o := o) hu).lst O _ (by simp) hO14
          refine ⟨O, _, _, rfl, rfl, hO15 _, small1000 (by omega), ?_⟩
          have w15 := fun o ys => Ext.wr (ex := [O]) (ys := ys) (by simp) (hO15 o)
          refine ⟨_, _, _, _, _, _, _, _, vs ++ [.ref u], bs ++ [⟨bn, (bn : Int) + 1 + g, dr, rd, 0⟩], rfl, (e1.trans (fH.trans (Ext.new hu))).wrNew hO, ?_, upd_same, papp (Paired.mapP pv fun _ _ z => (w15 _ _).barge ((fH.trans (Ext.new hu)).barge z)) ⟨u, rfl, (w15 _ _).sqT sqT_new⟩, by rw [List.length_append, hl]; rfl, fun b' hb' => ?_⟩
          · exact (w15 _ _).dice (by simp [nDO]) ((Ext.new (ex := []) hu).dice (by simp) dH)
          · rcases List.mem_append.mp hb' with hb' | hb'
            · exact okb b' hb'
            · rw [List.mem_singleton.mp hb']
              exact okB
      · have fH := f13
        have dH := d13
        have okB : (⟨bn, (bn : Int) + 1 + g, dr, rd, h + hsum rv gn + s2⟩ : Barge).Ok rv.length := ⟨by show 0 ≤ (bn : Int); omega, by show (bn : Int) < (bn : Int) + 1 + g; omega, hgl, by show 1 ≤ dr; omega, by show dr ≤ 99; omega, hrd.1, hrd.2, by show 0 ≤ h + hsum rv gn + s2; omega, by show h + hsum rv gn + s2 ≤ 199; omega⟩
        have hO14 := fH.lst O _ (by simp [nDO.symm]) hO1
        refine ⟨_, rfl, .inl ⟨rfl, _, .inl (.inl hO14)⟩, ?_⟩
        refine ⟨_, rfl, _, rfl, _, rfl, _, rfl, _, rfl, by show 5 ≤ sizeLine; decide, fun u hu => ?_⟩
        have hO15 := fun o => (Ext.new (ex := []) (o := o) hu).lst O _ (by simp) hO14
        refine ⟨O, _, _, rfl, rfl, hO15 _, small1000 (by omega), ?_⟩
        have w15 := fun o ys => Ext.wr (ex := [O]) (ys := ys) (by simp) (hO15 o)
        refine ⟨_, _, _, _, _, _, _, _, vs ++ [.ref u], bs ++ [⟨bn, (bn : Int) + 1 + g, dr, rd, h + hsum rv gn + s2⟩], rfl, (e1.trans (fH.trans (Ext.new hu))).wrNew hO, ?_, upd_same, papp (Paired.mapP pv fun _ _ z => (w15 _ _).barge ((fH.trans (Ext.new hu)).barge z)) ⟨u, rfl, (w15 _ _).sqT sqT_new⟩, by rw [List.length_append, hl]; rfl, fun b' hb' => ?_⟩
        · exact (w15 _ _).dice (by simp [nDO]) ((Ext.new (ex := []) hu).dice (by simp) dH)
        · rcases List.mem_append.mp hb' with hb' | hb'
          · exact okb b' hb'
          · rw [List.mem_singleton.mp hb']
            exact okB
    · rintro σ H1 ⟨y5, y6, y7, y8, y9, y10, y11, y12, vs, bs, rfl, e1, d1, hO1, pv, hl, okb⟩
      refine ⟨_, rfl, O, _, rfl, .inl ⟨.inl (.inl hO1), fun t ht => ?_⟩⟩
      exact q (.ref t) bs _ hl okb (e1.trans (Ext.new ht)) ((Ext.new (ex := []) ht).dice (by simp) d1) ⟨t, vs, rfl, sqT_new, Paired.mapP pv fun _ _ z => (Ext.new (ex := []) ht).barge z⟩

def spBook (K : PySem.W.Frag) : Sp := fun vs H Q _ => ∃ (a : Addr) (ns : List Int) (m : Nat), vs = [.ref a, .int (m : Int)] ∧ SqL K H a (ns.map V.int) ∧ m ≤ 7 ∧ ∀ (v : V) (k : Book) (H' : Hp), k.Ok → k.bs.length ≤ m → Ext [] H H' → IsBook K H' v k → Q v H'
theorem ok__law_book (T : Facts A K mg base) : FnOk P w K mg base CX0 3 A.a__law_book A.d__law_book ["_law_script", "_law_most"] (spBook K) := by
  refine T.F__law_book.ok sc__law_book (fun vs H Q E h => ?_) (fun cdv A1 outer s H vs Q E hr h => ?_)
  · obtain ⟨a, ns, m, rfl, _⟩ := h
    rfl
  · obtain ⟨a, ns, m, rfl, hS, m7, q⟩ := h
    refine ⟨_, PSs.nox (pss_cons (ps_set (i := 2) sc__law_book.nd rfl (Or.inl rfl) (pe_call (ok__law_dice T) (hr.mono (by decide)) (by rfl) T.g__law_dice T.F__law_dice.kp T.b__law_dice .nil pass0 (pa_cons (pe_call (ok__law_cell_at T) (hr.mono (by decide)) (by rfl) T.g__law_cell_at T.F__law_cell_at.kp T.b__law_cell_at .nil pass0 (pa_cons (pv 0) (pa_cons pe_int pa_nil))) pa_nil)))
      (pss_cons (ps_set (i := 3) sc__law_book.nd rfl (Or.inl rfl) (pe_call (ok__law_cell_at T) (hr.mono (by decide)) (by rfl) T.g__law_cell_at T.F__law_cell_at.kp T.b__law_cell_at .nil pass0 (pa_cons (pv 0) (pa_cons pe_int pa_nil))))
      (pss_cons (ps_set (i := 4) sc__law_book.nd rfl (Or.inl rfl) (pe_call (ok__law_river T) (hr.mono (by decide)) (by rfl) T.g__law_river T.F__law_river.kp T.b__law_river .nil pass0 (pa_cons (pv 2) (pa_cons (pe_ix ix_seq (pe_lst (pa_cons (pe_op op_add pe_int (pe_op op_modN (pv 3) pe_int)) (pa_cons (pe_op op_add pe_int (pe_op op_modN (pv 3) pe_int)) pa_nil))) (pe_callTy call_int1 (by rfl) T.n_int (by decide +kernel) (pa_cons (pe_cmpR op_eq (pe_op op_modN (pe_op op_fdivN (pv 3) pe_int) pe_int) pe_int (nomark _)) pa_nil)) (fun _ _ => rfl)) pa_nil))))
      (pss_one (ps_ret (pe_tup (pa_cons (pv 4) (pa_cons (pe_call (ok__law_barges T) (hr.mono (by decide)) (by rfl) T.g__law_barges T.F__law_barges.kp T.b__law_barges .nil pass0 (pa_cons (pv 2) (pa_cons (pv 4) (pa_cons (pe_op op_modN (pe_call (ok__law_cell_at T) (hr.mono (by decide)) (by rfl) T.g__law_cell_at T.F__law_cell_at.kp T.b__law_cell_at .nil pass0 (pa_cons (pv 0) (pa_cons pe_int pa_nil))) (pe_op op_add (pv 1) pe_int)) pa_nil)))) pa_nil)))))))), ?_⟩
    have keep : ∀ {H1}, Ext [] H H1 → SqL K H1 a (ns.map V.int) := fun e => e.sqL (by simp) hS
    refine ⟨_, rfl, a, ns, 0, rfl, hS, fun c => ⟨c, rfl, fun D H1 hD e1 d1 => ?_⟩⟩
    refine ⟨_, rfl, a, ns, 1, rfl, keep e1, fun c1 => ?_⟩
    have nD : ∀ {H2}, Ext [D] H1 H2 → Ext [] H H2 := fun e => ⟨fun b xs z => e.tup b xs (e1.tup b xs z), fun b o u z => e.frz b o u (e1.frz b o u z), fun b ps z t => let ⟨ps', z', t'⟩ := e1.tbl b ps z t; e.tbl b ps' z' t', fun b xs n z => e.lst b xs (by simp; exact ne_of_none z hD) (e1.lst b xs (by simp) z), fun b z => e1.dom b (e.dom b z)⟩
    -- river
    have m40 : 0 ≤ c1.fmod 4 := Int.fmod_nonneg_of_pos _ (by decide)
    have m41 : c1.fmod 4 < 4 := Int.fmod_lt_of_pos _ (by decide)
    refine ⟨_, rfl, _, rfl, _, _, rfl, rfl, (by show (4 : Int) ≠ 0; decide), _, _, rfl, rfl, _, rfl, _, _, rfl, rfl, (by show (4 : Int) ≠ 0; decide), _, _, rfl, rfl, (by show 2 ≤ sizeLine; decide), fun p hp => ?_⟩
    refine ⟨_, rfl, _, _, rfl, rfl, ⟨by decide, by decide⟩, _, _, rfl, rfl, (by show (6 : Int) ≠ 0; decide), rfl, .inr ⟨_, rfl, ?_⟩⟩
    have hsl := b01 (decide (V.int ((c1.fdiv 4).fmod 6) = V.int 1))
    generalize (if decide (V.int ((c1.fdiv 4).fmod 6) = V.int 1) = true then (1 : Int) else 0) = sl at hsl ⊢
    obtain ⟨z, hz, hz2⟩ := pick2 (x := 1 + c1.fmod 4) (y := 5 + c1.fmod 4) hsl
    obtain ⟨n, rfl⟩ : ∃ n : Nat, z = (n : Int) := ⟨z.toNat, by omega⟩
    have e2 : Ext [D] H1 (upd H1 p (.lst [.int (1 + c1.fmod 4), .int (5 + c1.fmod 4)])) := Ext.new hp
    refine .inl ⟨p, _, sl, .int (n : Int), rfl, rfl, .inl (.inl upd_same), hz, D, n, rfl, (Ext.new (ex := []) hp).dice (by simp) d1, by omega, by omega, fun v rv H3 hn okr e3 d3 ir => ?_⟩
    -- the pair
    have f3 := e2.trans e3
    refine ⟨_, rfl, _, rfl, _, rfl, _, rfl, a, ns, 2, rfl, keep (nD f3), fun c2 => ⟨_, rfl, _, _, rfl, rfl, _, _, rfl, rfl, by omega, ?_⟩⟩
    have b0 : 0 ≤ c2.fmod ((m : Int) + 1) := Int.fmod_nonneg_of_pos _ (by omega)
    have b1 : c2.fmod ((m : Int) + 1) < (m : Int) + 1 := Int.fmod_lt_of_pos _ (by omega)
    obtain ⟨q1, hq1⟩ : ∃ n : Nat, c2.fmod ((m : Int) + 1) = (n : Int) := ⟨(c2.fmod ((m : Int) + 1)).toNat, by omega⟩
    refine ⟨D, v, rv, q1, by rw [← hq1]; rfl, d3, ir, okr, by omega, fun u bs H4 hb okb e4 d4 ib => ⟨by show 2 ≤ sizeLine; decide, fun t ht => ?_⟩⟩
    exact q (.ref t) ⟨rv, bs⟩ _ ⟨okr, by show bs.length ≤ 7; omega, okb⟩ (by show bs.length ≤ m; omega) (nD (f3.trans (e4.trans (Ext.new ht)))) ⟨t, v, u, rfl, sqT_new, (Ext.new (ex := []) ht).river (e4.river ir), (Ext.new (ex := []) ht).barges ib⟩

def spLaw (A : Ad) (K : PySem.W.Frag) : Sp := fun vs H Q _ => ∃ (a : Addr) (ns : List Int), vs = [.ref a] ∧ SqL K H a (ns.map V.int) ∧ ns.length ≤ 63 ∧ Tabs A H ∧ ∀ H', Q (.bl true) H'
theorem ok_law (T : Facts A K mg base) : FnOk P w K mg base CX0 7 A.a_law A.d_law ["_law_script"] (spLaw A K) := by
  refine T.F_law.ok sc_law (fun vs H Q E h => ?_) (fun cdv A1 outer s H vs Q E hr h => ?_)
  · obtain ⟨a, ns, rfl, _⟩ := h
    rfl
  · obtain ⟨a, ns, rfl, hS, hlen, tb, q⟩ := h
    refine ⟨_, PSs.nox (pss_cons (ps_set (i := 1) sc_law.nd rfl (Or.inl rfl) (pe_call (ok__law_book T) (hr.mono (by decide)) (by rfl) T.g__law_book T.F__law_book.kp T.b__law_book .nil pass0 (pa_cons (pv 0) (pa_cons pe_int pa_nil))))
      (pss_cons (ps_set (i := 2) sc_law.nd rfl (Or.inl rfl) (pe_ix ix_seq (pv 1) pe_int (fun _ _ => rfl)))
      (pss_cons (ps_for PassesOwn.never rfl (pi_range1 (by rfl) T.n_range (pa_cons (pe_op op_add (pe_callB call_len_seq (by rfl) T.n_len PySem.boot_len (pa_cons (pv 2) pa_nil)) pe_int) pa_nil)) (pg_name (i := 3) sc_law.nd rfl (Or.inl rfl)) (pss_cons (ps_set (i := 4) sc_law.nd rfl (Or.inl rfl) (pe_op op_modN (pe_call (ok__law_cell_at T) (hr.mono (by decide)) (by rfl) T.g__law_cell_at T.F__law_cell_at.kp T.b__law_cell_at .nil pass0 (pa_cons (pv 0) (pa_cons (pe_op op_add pe_int (pv 3)) pa_nil))) pe_int))
      (pss_cons (ps_set (i := 5) sc_law.nd rfl (Or.inl rfl) (pe_call (ok_time_at T) (hr.mono (by decide)) (by rfl) T.g_time_at T.F_time_at.kp T.b_time_at .nil pass0 (pa_cons (pv 1) (pa_cons (pv 3) (pa_cons (pv 4) pa_nil)))))
      (pss_one (ps_if (PW.pt (pw_or (pt_not (pt_val (pe_call (ok__law_whole T) (hr.mono (by decide)) (by rfl) T.g__law_whole T.F__law_whole.kp T.b__law_whole .nil pass0 (pa_cons (pv 5) pa_nil)))) (pw_or1 (pt_cmpR op_ne (pv 5) (pe_call (ok__law_time T) (hr.mono (by decide)) (by rfl) T.g__law_time T.F__law_time.kp T.b__law_time .nil pass0 (pa_cons (pv 2) (pa_cons (pv 3) (pa_cons (pv 4) pa_nil)))) (nomark _))))) (pss_one (ps_ret pe_bl)) pss_nil)))))
      (pss_cons (ps_for PassesOwn.never rfl (pi_range1 (by rfl) T.n_range (pa_cons (pe_callB call_len_seq (by rfl) T.n_len PySem.boot_len (pa_cons (pv 2) pa_nil)) pa_nil)) (pg_name (i := 6) sc_law.nd rfl (Or.inl rfl)) (pss_cons (ps_set (i := 7) sc_law.nd rfl (Or.inl rfl) (pe_op op_modN (pe_call (ok__law_cell_at T) (hr.mono (by decide)) (by rfl) T.g__law_cell_at T.F__law_cell_at.kp T.b__law_cell_at .nil pass0 (pa_cons (pv 0) (pa_cons (pe_op op_add pe_int (pv 6)) pa_nil))) pe_int))
      (pss_cons (ps_set (i := 5) sc_law.nd rfl (Or.inl rfl) (pe_call (ok_depth_at T) (hr.mono (by decide)) (by rfl) T.g_depth_at T.F_depth_at.kp T.b_depth_at .nil pass0 (pa_cons (pv 1) (pa_cons (pv 6) (pa_cons (pv 7) pa_nil)))))
      (pss_cons (ps_set (i := 8) sc_law.nd rfl (Or.inl rfl) (pe_ix ix_seq (pe_ix ix_seq (pv 2) (pv 6) (fun _ _ => rfl)) pe_int (fun _ _ => rfl)))
      (pss_one (ps_if (PW.pt (pw_or (pt_not (pt_val (pe_call (ok__law_whole T) (hr.mono (by decide)) (by rfl) T.g__law_whole T.F__law_whole.kp T.b__law_whole .nil pass0 (pa_cons (pv 5) pa_nil)))) (pw_or1 (pt_cmpR op_ne (pv 5) (pe_ix ix_seq (pv 8) (pe_op op_modN (pv 7) (pe_callB call_len_seq (by rfl) T.n_len PySem.boot_len (pa_cons (pv 8) pa_nil))) (fun _ _ => rfl)) (nomark _))))) (pss_one (ps_ret pe_bl)) pss_nil))))))
      (pss_one (ps_ret pe_bl)))))), ?_⟩
    refine ⟨_, rfl, a, ns, 3, rfl, hS, by omega, fun v k H1 ok hb e1 ib => ?_⟩
    obtain ⟨ka, r, b, rfl, t0, ir, ibs⟩ := id ib
    obtain ⟨ra, rs, rfl, t1, pr⟩ := id ir
    have lr := plen pr
    have n1 := ok.rv.n1
    have n8 := ok.rv.n8
    have hz : ∀ i : Nat, (0 : Int) + (i : Int) = (i : Int) := fun i => Int.zero_add _
    refine ⟨_, rfl, .inr (.inl ⟨ka, _, 0, _, rfl, rfl, t0, atI_nat (j := 0) rfl, ?_⟩)⟩
    refine ⟨_, rfl, ra, rs, rfl, .inr t1, _, _, rfl, rfl, (rs.length : Int) + 1, rfl, by omega, by omega, for_range (n := rs.length + 1) (fun i σ H2 => ∃ y3 y4 y5 y6 y7 y8, σ = [some (.ref a), some (.ref ka), some (.ref ra), y3, y4, y5, y6, y7, y8] ∧ Ext [] H1 H2)
      ⟨none, none, none, none, none, none, rfl, Ext.refl⟩ ?_ ?_⟩
    · rintro i σ H2 hi ⟨y3, y4, y5, y6, y7, y8, rfl, e2⟩
      rw [hz i]
      refine ⟨_, rfl, _, rfl, _, _, rfl, rfl, a, ns, 3 + i, by rw [show ((3 + i : Nat) : Int) = 3 + (i : Int) by omega]; rfl, (e1.trans e2).sqL (by simp) hS, fun c => ⟨_, _, rfl, rfl, by show (12 : Int) ≠ 0; decide, ?_⟩⟩
      refine ⟨_, rfl, _, rfl, _, rfl, _, k, i, _, rfl, e2.book ib, ok, tb.ext (e1.trans e2), fun H3 e3 => ?_⟩
      refine ⟨_, rfl, _, rfl, _, rfl, iteF ?_⟩
      refine ⟨_, rfl, _, rfl, _, rfl, _, rfl, _, k.rv, i, _, rfl, (e2.trans e3).river ir, ok.rv, fun H4 e4 => ⟨rfl, _, rfl, iteNS rfl ?_⟩⟩
      exact ⟨_, _, _, _, _, _, rfl, e2.trans (e3.trans e4)⟩
    · rintro σ H2 ⟨y3, y4, y5, y6, y7, y8, rfl, e2⟩
      refine ⟨_, rfl, ra, rs, rfl, .inr (e2.sqT t1), (rs.length : Int), rfl, by omega, by omega, for_range (n := rs.length) (fun i σ H3 => ∃ y3 y4 y5 y6 y7 y8, σ = [some (.ref a), some (.ref ka), some (.ref ra), y3, y4, y5, y6, y7, y8] ∧ Ext [] H1 H3)
        ⟨_, _, _, _, _, _, rfl, e2⟩ ?_ ?_⟩
      · rintro i σ H3 hi ⟨y3, y4, y5, y6, y7, y8, rfl, e3⟩
        rw [hz i]
        obtain ⟨s1, hs1⟩ : ∃ s1, k.rv[i]? = some s1 := ⟨k.rv[i], List.getElem?_eq_getElem (by omega)⟩
        have ds := (ok.rv.ok s1 (List.mem_of_getElem? hs1)).d1
        refine ⟨_, rfl, _, rfl, _, _, rfl, rfl, a, ns, 4 + i, by rw [show ((4 + i : Nat) : Int) = 4 + (i : Int) by omega]; rfl, (e1.trans e3).sqL (by simp) hS, fun c => ⟨_, _, rfl, rfl, by show (301 : Int) ≠ 0; decide, ?_⟩⟩
        refine ⟨_, rfl, _, rfl, _, rfl, _, k, i, _, s1, rfl, e3.book ib, ok, hs1, tb.ext (e1.trans e3), fun H4 e4 => ?_⟩
        obtain ⟨x, hx, sa, sd, rfl, u1, u2⟩ := pgetR pr hs1
        have f4 := e3.trans e4
        refine ⟨_, rfl, _, rfl, .inr (.inl ⟨ra, _, _, _, rfl, rfl, f4.sqT t1, atI_nat hx, .inr (.inl ⟨sa, _, 2, _, rfl, rfl, f4.sqT u1, atI_nat (j := 2) rfl, ?_⟩)⟩)⟩
        refine ⟨_, rfl, _, rfl, _, rfl, iteF ?_⟩
        refine ⟨_, rfl, _, rfl, _, rfl, _, rfl, sd, _, rfl, .inr (f4.sqT u2), _, _, rfl, rfl, by rw [List.length_map]; omega, .inr (.inl ⟨sd, _, _, _, rfl, rfl, f4.sqT u2, depth_item ds, rfl, _, rfl, iteNS rfl ?_⟩)⟩
        exact ⟨_, _, _, _, _, _, rfl, f4⟩
      · rintro σ H3 ⟨y3, y4, y5, y6, y7, y8, rfl, e3⟩
        exact q H3

end
/-! ### the head -/
def dd_is_number : He.DefD := ⟨("is_number", none), "is_number", "is_number", defArgs s_is_number, defBody s_is_number, defScope s_is_number, [], []⟩
def dd_is_row : He.DefD := ⟨("is_row", none), "is_row", "is_row", defArgs s_is_row, defBody s_is_row, defScope s_is_row, [], []⟩
def dd_is_stretch : He.DefD := ⟨("is_stretch", none), "is_stretch", "is_stretch", defArgs s_is_stretch, defBody s_is_stretch, defScope s_is_stretch, [], []⟩
def dd_is_ready : He.DefD := ⟨("is_ready", none), "is_ready", "is_ready", defArgs s_is_ready, defBody s_is_ready, defScope s_is_ready, [], []⟩
def dd_is_barge : He.DefD := ⟨("is_barge", none), "is_barge", "is_barge", defArgs s_is_barge, defBody s_is_barge, defScope s_is_barge, [], []⟩
def dd_check_book : He.DefD := ⟨("check_book", none), "check_book", "check_book", defArgs s_check_book, defBody s_check_book, defScope s_check_book, [], []⟩
def dd_arrival : He.DefD := ⟨("arrival", none), "arrival", "arrival", defArgs s_arrival, defBody s_arrival, defScope s_arrival, [], []⟩
def dd_depth_then : He.DefD := ⟨("depth_then", none), "depth_then", "depth_then", defArgs s_depth_then, defBody s_depth_then, defScope s_depth_then, [], []⟩
def dd_time_at : He.DefD := ⟨("time_at", none), "time_at", "time_at", defArgs s_time_at, defBody s_time_at, defScope s_time_at, [], []⟩
def dd_depth_at : He.DefD := ⟨("depth_at", none), "depth_at", "depth_at", defArgs s_depth_at, defBody s_depth_at, defScope s_depth_at, [], []⟩
def dd__law_cell_at : He.DefD := ⟨("_law_cell_at", none), "_law_cell_at", "_law_cell_at", defArgs s__law_cell_at, defBody s__law_cell_at, defScope s__law_cell_at, [], []⟩
def dd__law_dice : He.DefD := ⟨("_law_dice", none), "_law_dice", "_law_dice", defArgs s__law_dice, defBody s__law_dice, defScope s__law_dice, [], []⟩
def dd__law_roll : He.DefD := ⟨("_law_roll", none), "_law_roll", "_law_roll", defArgs s__law_roll, defBody s__law_roll, defScope s__law_roll, [], []⟩
def dd__law_whole : He.DefD := ⟨("_law_whole", none), "_law_whole", "_law_whole", defArgs s__law_whole, defBody s__law_whole, defScope s__law_whole, [], []⟩
def dd__law_river : He.DefD := ⟨("_law_river", none), "_law_river", "_law_river", defArgs s__law_river, defBody s__law_river, defScope s__law_river, [], []⟩
def dd__law_time : He.DefD := ⟨("_law_time", none), "_law_time", "_law_time", defArgs s__law_time, defBody s__law_time, defScope s__law_time, [], []⟩
def dd__law_barges : He.DefD := ⟨("_law_barges", none), "_law_barges", "_law_barges", defArgs s__law_barges, defBody s__law_barges, defScope s__law_barges, [], []⟩
def dd__law_book : He.DefD := ⟨("_law_book", none), "_law_book", "_law_book", defArgs s__law_book, defBody s__law_book, defScope s__law_book, [], []⟩
def dd_law : He.DefD := ⟨("law", none), "law", "law", defArgs s_law, defBody s_law, defScope s_law, [], []⟩
def hfn : List He.DefD := dd_is_number :: dd_is_row :: dd_is_stretch :: dd_is_ready :: dd_is_barge :: dd_check_book :: dd_arrival :: dd_depth_then :: dd_time_at :: dd_depth_at :: dd__law_cell_at :: dd__law_dice :: dd__law_roll :: dd__law_whole :: dd__law_river :: dd__law_time :: dd__law_barges :: dd__law_book :: dd_law :: []
def hfa : List He.Fa := (.glo "is_number" : He.Fa) :: (.glo "is_row" : He.Fa) :: (.glo "is_stretch" : He.Fa) :: (.glo "is_ready" : He.Fa) :: (.glo "is_barge" : He.Fa) :: (.glo "check_book" : He.Fa) :: (.glo "arrival" : He.Fa) :: (.glo "depth_then" : He.Fa) :: (.glo "time_at" : He.Fa) :: (.glo "depth_at" : He.Fa) :: (.glo "_law_cell_at" : He.Fa) :: (.glo "_law_dice" : He.Fa) :: (.glo "_law_roll" : He.Fa) :: (.glo "_law_whole" : He.Fa) :: (.glo "_law_river" : He.Fa) :: (.glo "_law_time" : He.Fa) :: (.glo "_law_barges" : He.Fa) :: (.glo "_law_book" : He.Fa) :: (.glo "law" : He.Fa) :: (.free "all" : He.Fa) :: (.free "bool" : He.Fa) :: (.free "enumerate" : He.Fa) :: (.free "int" : He.Fa) :: (.free "isinstance" : He.Fa) :: (.free "len" : He.Fa) :: (.free "max" : He.Fa) :: (.free "range" : He.Fa) :: (.free "sum" : He.Fa) :: (.free "tuple" : He.Fa) :: []
def htf : List He.Defn := (("is_stretch", none) : He.Defn) :: (("check_book", none) : He.Defn) :: (("arrival", none) : He.Defn) :: []
abbrev RR : PySem.W.OpenRow := PySem.W.OpenLaw.row PySem.Challenge.rw_towbarges_k01_times_and_depths
abbrev hk : PySem.W.Hook := He.hookX 4 hfa hfn [] htf (fun _ => true)
def hob (s : PySem.W.SharedT) : He.AlX := He.obsX 4 hfa hfn [] htf (fun _ => true) (HandSHeadRun.getT s)
theorem hob_eq (s : PySem.W.SharedT) : hob s = hk.obs s.abs := He.obsX_eq (HandSHeadRun.getT_eq s)
def hloose : List PySem.Str := ("is_number" : PySem.Str) :: ("is_row" : PySem.Str) :: ("is_stretch" : PySem.Str) :: ("is_ready" : PySem.Str) :: ("is_barge" : PySem.Str) :: ("check_book" : PySem.Str) :: ("arrival" : PySem.Str) :: ("depth_then" : PySem.Str) :: ("time_at" : PySem.Str) :: ("depth_at" : PySem.Str) :: ("_law_cell_at" : PySem.Str) :: ("_law_dice" : PySem.Str) :: ("_law_roll" : PySem.Str) :: ("_law_whole" : PySem.Str) :: ("_law_river" : PySem.Str) :: ("_law_time" : PySem.Str) :: ("_law_barges" : PySem.Str) :: ("_law_book" : PySem.Str) :: ("TowError" : PySem.Str) :: ("BadBook" : PySem.Str) :: []
set_option maxHeartbeats 0 in
theorem hrun (w : World) : HandSHeadRun.RunEq RR (PySem.W.view RR.prog [24]) hk hob 6000 hloose w := by
  intro os
  kernel_rfl
theorem code_of {K : PySem.W.Frag} {x q : Str} {pa : Arguments} {bd : List Stmt} {sc : Scope} {p : He.Defn} {fd : FuncData} (F : FunD K x q pa bd sc [] [] (He.fAd K p) fd) : fd.code = .ref (He.cT K p).1 := by
  obtain ⟨oc, od, dV, kV, doc, pm, an, cdv, ct, osl, rfl, lk, hcd, _, _⟩ := F.ex
  obtain ⟨c, rfl⟩ := He.codeIn_ref hcd
  show Value.ref c = .ref (He.codeOf K p)
  rw [He.codeOf_eq lk rfl]
theorem hfacts {w : World} {K : PySem.W.Frag} {h : Heap} {mg : Str → Option Value} (X : K.In h) (G : h.Ns mainGlobals mg) (c : He.SaysX hfa hfn [] htf (fun _ => true) w h K) :
    ∃ A : Ad, A.a_law = He.ga K "law" ∧ (A.k_is_stretch = He.cT K ("is_stretch", none) ∧ A.k_check_book = He.cT K ("check_book", none) ∧ A.k_arrival = He.cT K ("arrival", none)) ∧ (∀ (s : Shared) (v : Value), BindsTo s A.d_law ⟨[v], []⟩ [("_law_script", v)]) ∧ ∀ base : Heap, GxR.TabB base mg (He.cT K ("is_stretch", none)).1 (He.cT K ("is_stretch", none)).2 → GxR.TabB base mg (He.cT K ("check_book", none)).1 (He.cT K ("check_book", none)).2 → GxR.TabB base mg (He.cT K ("arrival", none)).1 (He.cT K ("arrival", none)).2 → Facts A K mg base := by
  have cd : He.SaysD hfa hfn K := congrArg (fun z : He.AlT => z.1) c.t
  obtain ⟨fd_is_number, F_is_number⟩ := cd.defs (d := dd_is_number) (by unfold hfn; simp)
  obtain ⟨fd_is_row, F_is_row⟩ := cd.defs (d := dd_is_row) (by unfold hfn; simp)
  obtain ⟨fd_is_stretch, F_is_stretch⟩ := cd.defs (d := dd_is_stretch) (by unfold hfn; simp)
  obtain ⟨fd_is_ready, F_is_ready⟩ := cd.defs (d := dd_is_ready) (by unfold hfn; simp)
  obtain ⟨fd_is_barge, F_is_barge⟩ := cd.defs (d := dd_is_barge) (by unfold hfn; simp)
  obtain ⟨fd_check_book, F_check_book⟩ := cd.defs (d := dd_check_book) (by unfold hfn; simp)
  obtain ⟨fd_arrival, F_arrival⟩ := cd.defs (d := dd_arrival) (by unfold hfn; simp)
  obtain ⟨fd_depth_then, F_depth_then⟩ := cd.defs (d := dd_depth_then) (by unfold hfn; simp)
  obtain ⟨fd_time_at, F_time_at⟩ := cd.defs (d := dd_time_at) (by unfold hfn; simp)
  obtain ⟨fd_depth_at, F_depth_at⟩ := cd.defs (d := dd_depth_at) (by unfold hfn; simp)
  obtain ⟨fd__law_cell_at, F__law_cell_at⟩ := cd.defs (d := dd__law_cell_at) (by unfold hfn; simp)
  obtain ⟨fd__law_dice, F__law_dice⟩ := cd.defs (d := dd__law_dice) (by unfold hfn; simp)
  obtain ⟨fd__law_roll, F__law_roll⟩ := cd.defs (d := dd__law_roll) (by unfold hfn; simp)
  obtain ⟨fd__law_whole, F__law_whole⟩ := cd.defs (d := dd__law_whole) (by unfold hfn; simp)
  obtain ⟨fd__law_river, F__law_river⟩ := cd.defs (d := dd__law_river) (by unfold hfn; simp)
  obtain ⟨fd__law_time, F__law_time⟩ := cd.defs (d := dd__law_time) (by unfold hfn; simp)
  obtain ⟨fd__law_barges, F__law_barges⟩ := cd.defs (d := dd__law_barges) (by unfold hfn; simp)
  obtain ⟨fd__law_book, F__law_book⟩ := cd.defs (d := dd__law_book) (by unfold hfn; simp)
  obtain ⟨fd_law, F_law⟩ := cd.defs (d := dd_law) (by unfold hfn; simp)
  refine ⟨⟨He.ga K "is_number", fd_is_number, He.ga K "is_row", fd_is_row, He.ga K "is_stretch", fd_is_stretch, He.cT K ("is_stretch", none), He.ga K "is_ready", fd_is_ready, He.ga K "is_barge", fd_is_barge, He.ga K "check_book", fd_check_book, He.cT K ("check_book", none), He.ga K "arrival", fd_arrival, He.cT K ("arrival", none), He.ga K "depth_then", fd_depth_then, He.ga K "time_at", fd_time_at, He.ga K "depth_at", fd_depth_at, He.ga K "_law_cell_at", fd__law_cell_at, He.ga K "_law_dice", fd__law_dice, He.ga K "_law_roll", fd__law_roll, He.ga K "_law_whole", fd__law_whole, He.ga K "_law_river", fd__law_river, He.ga K "_law_time", fd__law_time, He.ga K "_law_barges", fd__law_barges, He.ga K "_law_book", fd__law_book, He.ga K "law", fd_law⟩, rfl, ⟨rfl, rfl, rfl⟩, fun s v => FunD.bindsA (ps := ["_law_script"]) F_law (fun _ _ _ _ _ _ us hl => match us, hl with | [_], _ => rfl) s [v] rfl, fun base t_is_stretch t_check_book t_arrival => ?_⟩
  exact {
    F_is_number := F_is_number
    g_is_number := He.glo_ok X G (cd.facts (f := .glo "is_number") (by unfold hfa; simp))
    b_is_number := F_is_number.bindsN fun _ _ _ _ _ _ us hl => match us, hl with | [_, _, _], _ => rfl
    F_is_row := F_is_row
    g_is_row := He.glo_ok X G (cd.facts (f := .glo "is_row") (by unfold hfa; simp))
    b_is_row := F_is_row.bindsN fun _ _ _ _ _ _ us hl => match us, hl with | [_, _, _], _ => rfl
    F_is_stretch := F_is_stretch
    g_is_stretch := He.glo_ok X G (cd.facts (f := .glo "is_stretch") (by unfold hfa; simp))
    b_is_stretch := F_is_stretch.bindsN fun _ _ _ _ _ _ us hl => match us, hl with | [_], _ => rfl
    h_is_stretch := code_of (p := ("is_stretch", none)) F_is_stretch
    t_is_stretch := t_is_stretch
    F_is_ready := F_is_ready
    g_is_ready := He.glo_ok X G (cd.facts (f := .glo "is_ready") (by unfold hfa; simp))
    b_is_ready := F_is_ready.bindsN fun _ _ _ _ _ _ us hl => match us, hl with | [_], _ => rfl
    F_is_barge := F_is_barge
    g_is_barge := He.glo_ok X G (cd.facts (f := .glo "is_barge") (by unfold hfa; simp))
    b_is_barge := F_is_barge.bindsN fun _ _ _ _ _ _ us hl => match us, hl with | [_, _], _ => rfl
    F_check_book := F_check_book
    g_check_book := He.glo_ok X G (cd.facts (f := .glo "check_book") (by unfold hfa; simp))
    b_check_book := F_check_book.bindsN fun _ _ _ _ _ _ us hl => match us, hl with | [_], _ => rfl
    h_check_book := code_of (p := ("check_book", none)) F_check_book
    t_check_book := t_check_book
    F_arrival := F_arrival
    g_arrival := He.glo_ok X G (cd.facts (f := .glo "arrival") (by unfold hfa; simp))
    b_arrival := F_arrival.bindsN fun _ _ _ _ _ _ us hl => match us, hl with | [_, _, _], _ => rfl
    h_arrival := code_of (p := ("arrival", none)) F_arrival
    t_arrival := t_arrival
    F_depth_then := F_depth_then
    g_depth_then := He.glo_ok X G (cd.facts (f := .glo "depth_then") (by unfold hfa; simp))
    b_depth_then := F_depth_then.bindsN fun _ _ _ _ _ _ us hl => match us, hl with | [_, _, _], _ => rfl
    F_time_at := F_time_at
    g_time_at := He.glo_ok X G (cd.facts (f := .glo "time_at") (by unfold hfa; simp))
    b_time_at := F_time_at.bindsN fun _ _ _ _ _ _ us hl => match us, hl with | [_, _, _], _ => rfl
    F_depth_at := F_depth_at
    g_depth_at := He.glo_ok X G (cd.facts (f := .glo "depth_at") (by unfold hfa; simp))
    b_depth_at := F_depth_at.bindsN fun _ _ _ _ _ _ us hl => match us, hl with | [_, _, _], _ => rfl
    F__law_cell_at := F__law_cell_at
    g__law_cell_at := He.glo_ok X G (cd.facts (f := .glo "_law_cell_at") (by unfold hfa; simp))
    b__law_cell_at := F__law_cell_at.bindsN fun _ _ _ _ _ _ us hl => match us, hl with | [_, _], _ => rfl
    F__law_dice := F__law_dice
    g__law_dice := He.glo_ok X G (cd.facts (f := .glo "_law_dice") (by unfold hfa; simp))
    b__law_dice := F__law_dice.bindsN fun _ _ _ _ _ _ us hl => match us, hl with | [_], _ => rfl
    F__law_roll := F__law_roll
    g__law_roll := He.glo_ok X G (cd.facts (f := .glo "_law_roll") (by unfold hfa; simp))
    b__law_roll := F__law_roll.bindsN fun _ _ _ _ _ _ us hl => match us, hl with | [_, _], _ => rfl
    F__law_whole := F__law_whole
    g__law_whole := He.glo_ok X G (cd.facts (f := .glo "_law_whole") (by unfold hfa; simp))
    b__law_whole := F__law_whole.bindsN fun _ _ _ _ _ _ us hl => match us, hl with | [_], _ => rfl
    F__law_river := F__law_river
    g__law_river := He.glo_ok X G (cd.facts (f := .glo "_law_river") (by unfold hfa; simp))
    b__law_river := F__law_river.bindsN fun _ _ _ _ _ _ us hl => match us, hl with | [_, _], _ => rfl
    F__law_time := F__law_time
    g__law_time := He.glo_ok X G (cd.facts (f := .glo "_law_time") (by unfold hfa; simp))
    b__law_time := F__law_time.bindsN fun _ _ _ _ _ _ us hl => match us, hl with | [_, _, _], _ => rfl
    F__law_barges := F__law_barges
    g__law_barges := He.glo_ok X G (cd.facts (f := .glo "_law_barges") (by unfold hfa; simp))
    b__law_barges := F__law_barges.bindsN fun _ _ _ _ _ _ us hl => match us, hl with | [_, _, _], _ => rfl
    F__law_book := F__law_book
    g__law_book := He.glo_ok X G (cd.facts (f := .glo "_law_book") (by unfold hfa; simp))
    b__law_book := F__law_book.bindsN fun _ _ _ _ _ _ us hl => match us, hl with | [_, _], _ => rfl
    F_law := F_law
    n_all := He.free_ok X G (cd.facts (f := .free "all") (by unfold hfa; simp))
    n_bool := He.free_ok X G (cd.facts (f := .free "bool") (by unfold hfa; simp))
    n_enumerate := He.free_ok X G (cd.facts (f := .free "enumerate") (by unfold hfa; simp))
    n_int := He.free_ok X G (cd.facts (f := .free "int") (by unfold hfa; simp))
    n_isinstance := He.free_ok X G (cd.facts (f := .free "isinstance") (by unfold hfa; simp))
    n_len := He.free_ok X G (cd.facts (f := .free "len") (by unfold hfa; simp))
    n_max := He.free_ok X G (cd.facts (f := .free "max") (by unfold hfa; simp))
    n_range := He.free_ok X G (cd.facts (f := .free "range") (by unfold hfa; simp))
    n_sum := He.free_ok X G (cd.facts (f := .free "sum") (by unfold hfa; simp))
    n_tuple := He.free_ok X G (cd.facts (f := .free "tuple") (by unfold hfa; simp))
  }
end TB
open PySem PySem.W PySem.Calls PyProof.Rows
set_option maxRecDepth 100000 in
set_option maxHeartbeats 0 in
theorem PySem.Challenge.cw_towbarges_k01_times_and_depths_holds : PySem.Challenge.rw_towbarges_k01_times_and_depths.Holds := by
  w_on; o_law
  refine HandSHeadRun.head_any (r := OpenLaw.row PySem.Challenge.rw_towbarges_k01_times_and_depths) (q := view (OpenLaw.row PySem.Challenge.rw_towbarges_k01_times_and_depths).prog [24]) (H := TB.hk) (ob := TB.hob) (M := 6000) (loose := TB.hloose) (d := HandSHeadRun.topDef (OpenLaw.row PySem.Challenge.rw_towbarges_k01_times_and_depths).prog 24) (kwd := []) TB.hob_eq
    (by kernel_rfl) (fun s => by kernel_rfl) TB.hrun (by kernel_rfl) (by kernel_rfl) (by kernel_rfl) (by rfl) (by first | assumption | decide +kernel) (by decide +kernel) ⟨rfl, rfl, rfl, rfl, rfl, by decide +kernel⟩ ?hw ?hc
  case hw => w_witness2
  case hc =>
    refine LamX.walk_ofTsE (l := PySem.Challenge.rw_towbarges_k01_times_and_depths) (n := 63) (k := 7) (x := "_law_script") (CX := fun _ => L2.CX0) rfl (by decide) (by kernel_rfl) ⟨rfl, by decide, by decide⟩ ?F (fun _ _ _ _ _ z => z)
    intro w mg fa h Y G hmg0
    obtain ⟨K, KX, c⟩ := Y
    have hmg : mg ("law" : PySem.Str) = some (.ref fa) := by
      have e : (HandSHeadRun.topDef (OpenLaw.row PySem.Challenge.rw_towbarges_k01_times_and_depths).prog 24).name = ("law" : PySem.Str) := by kernel_rfl
      rw [← e]
      exact hmg0
    obtain ⟨A, ea, ek, hb, hF⟩ := TB.hfacts KX G c
    have cd : He.SaysD TB.hfa TB.hfn K := congrArg (fun z : He.AlT => z.1) c.t
    have el := hmg.symm.trans (He.glo_ok KX G (cd.facts (f := .glo "law") (by unfold TB.hfa; simp)))
    rw [← ea] at el
    cases el
    refine ⟨K, KX, A.d_law, TB.htf.map (He.cT K), TB.spLaw A K, fun p hp => ?_, fun p hp => ?_, fun p hp => ?_, hb, fun H a ns hl _ hT hS => ⟨a, ns, rfl, hS, hl, ?_, fun _ => rfl⟩, fun base _ _ hTB => ?_⟩
    · obtain ⟨p0, hp0, rfl⟩ := List.mem_map.mp hp
      exact c.empty p0 hp0
    · obtain ⟨p0, hp0, rfl⟩ := List.mem_map.mp hp
      exact c.out p0 hp0
    · obtain ⟨p0, hp0, rfl⟩ := List.mem_map.mp hp
      exact PySem.W.codeHd_of_K KX (c.hd p0 hp0)
    · unfold TB.Tabs
      obtain ⟨ek0, ek1, ek2⟩ := ek
      rw [ek0, ek1, ek2]
      exact ⟨⟨#[], hT _ (List.mem_map.mpr ⟨("is_stretch", none), by unfold TB.htf; simp, rfl⟩), trivial⟩, ⟨#[], hT _ (List.mem_map.mpr ⟨("check_book", none), by unfold TB.htf; simp, rfl⟩), trivial⟩, ⟨#[], hT _ (List.mem_map.mpr ⟨("arrival", none), by unfold TB.htf; simp, rfl⟩), trivial⟩⟩
    · have tb : ∀ p ∈ TB.htf, GxR.TabB base mg (He.cT K p).1 (He.cT K p).2 := fun p hp => let z := hTB _ (List.mem_map.mpr ⟨p, hp, rfl⟩); ⟨z.code, z.bm, z.gP⟩
      exact TB.ok_law (hF base (tb ("is_stretch", none) (by unfold TB.htf; simp)) (tb ("check_book", none) (by unfold TB.htf; simp)) (tb ("arrival", none) (by unfold TB.htf; simp)))
#print axioms PySem.Challenge.cw_towbarges_k01_times_and_depths_holds
