import PyProof.Rows.All
import Wide.All
import OpenK.AllK
import Wide.FinOn
import HandS.ForMost
import HandS.ForExc
import HandS.AnyAll
import HandS.GenList
import HandS.Defaults
import HandS.IsInst
import HandS.Wide
import HandS.EndTab
import HandS.More
import HandS.LawCells
import HandS.Strs
import HandS.SetBool
import HandS.TupMul
import HandS.TupAny
import KE.KIsAll
import KE.KExcIs
import HandS.Exc
import HandS.ExcOwn
import HandS.ExcIs
import HandS.SetFor
import HandS.WordsExc
import HandS.HeadHook1
import PyProof.TupleOfGen
import PyProof.CollectWalk
import HandS.Text
import KE.KStateDown
import KE.KNestM
import HandS.Head0
import HandS.Head1
import HandS.Head2
import HandS.HeadEnd
import HandS.HeadHook2
import HandS.HeadHook3
import HandS.HeadHook4
import HandS.HeadWalk
import PySem.Challenge.RW_towbarges_k17_read_back
set_option Elab.async false
set_option linter.all false
set_option maxRecDepth 100000
set_option maxHeartbeats 2000000
namespace GX
open PySem PySem.Spec PyProof.Rows L2 GxR GenW

theorem over_gen {A : Around} {elt tg iter : Expr} {ifs : List Expr} {scope : Scope} {pos : Pos} {it acc : Value} {env : Env} :
    A.over (.compLoop (.GeneratorExp elt [⟨tg, iter, ifs, 0⟩] scope pos) 0 it acc env) [] = A.deeper env := by
  first
    | rfl
    | (obtain ⟨hd, d, fr, gs, u⟩ := A; simp [Around.over, Around.deeper, marksOver, frameCount, unitsOf, envsOf, guardsOf, pushEnvs, pushGuards, Code.envs, Code.env?, Code.isFrame, Code.guards, Code.isGuard, Code.weight, Code.frames, Code.isCreation, Code.isCaller, Code.cUnits])

abbrev gcx (X : Cx) (s : Shared) (H : Hp) (cenv : Env) (fp : List Addr) (pn : List (Addr × Obj)) : Cx :=
  { X with A := X.A.in1.in1.deeper cenv, s_0 := s, H_0 := H, env := cenv, outer := X.stack, stack := cenv :: X.stack, ex := fp, fn := fun _ => false, calm := true, pn := pn, xe := fun _ _ => False }

theorem room_gcx {X : Cx} {s : Shared} {H : Hp} {cenv : Env} {fp : List Addr} {pn : List (Addr × Obj)} {k : Nat} (hr : Room (k + 1) X.A) : Room k (gcx X s H cenv fp pn).A :=
  ⟨hr.hd, by have := hr.dp; show X.A.depth + 1 + 3 * k + 5 < _; omega, by have := hr.un; show X.A.units + 1 + 1 + 3 + 16 * k + 200 < _; omega⟩

structure GenOk (N : List Str) (sc scope : Scope) (own : List (Str × Nat)) : Prop where
  kind : scope.kind = .function
  co : scope.isCoroutine = false
  uniq : ∀ y ∈ scope.names, scope.names.lookup y.1 = some y.2
  cell : ∀ y ∈ scope.names, y.2 ≠ .cell
  dot : scope.names.lookup (".0" : Str) = some NameKind.local
  ix : ∀ p ∈ own, N[p.2]? = some p.1
  free : ∀ y ∈ scope.names, y.2 = .free → sc.names.lookup y.1 = some .cell ∨ sc.names.lookup y.1 = some .free
  own : ∀ y ∈ scope.names, y.2 = .local → y.1 ∈ own.map (·.1) ∨ y.1 ∉ N

section
variable {X : Cx} {pins : List (Addr × Obj)} {σ : L2.St} {H : Hp} {s : Shared}
theorem gen_start {scope : Scope} {own : List (Str × Nat)} {fp : List Addr} {code : Value} {s5 : Shared} (I : Inv X pins σ H s) (hh : X.A.handled = none) (ok : GenOk X.N X.env.scope scope own) (hN : X.N.Nodup)
    (hfp : ∀ b ∈ fp, FpOk X pins H b ∧ b < s.heap.objs.size) (hos : s5.os = s.os) (hb5 : AllBare s5.gens) (kp : ∀ b o, s.heap.get? b = some o → s5.heap.get? b = some o)
    (hns : ∃ m, s5.heap.Ns s.heap.objs.size m) :
    Inv (gcx X s H (genEnv scope (cloFrom X.env.cells scope.names []) s.heap.objs.size code builtinsNs X.env) fp []) [] (wipe σ (own.map (·.2))) H s5 := by
  have hfree : ∀ y ∈ scope.names, y.2 = .free → ∃ c, X.env.cells.lookup y.1 = some c := fun y hy e => by
    rcases ok.free y hy e with k | k
    · exact I.ok.has _ (.inl k)
    · exact I.ok.has _ (.inr k)
  generalize hcenv : genEnv scope (cloFrom X.env.cells scope.names []) s.heap.objs.size code builtinsNs X.env = cenv
  have hL : cenv.locals = s.heap.objs.size := by rw [← hcenv]; rfl
  have hcl : cenv.cells = cloFrom X.env.cells scope.names [] := by rw [← hcenv]; rfl
  have hsc : cenv.scope = scope := by rw [← hcenv]; rfl
  have hfr : cenv.frame = some cenv.locals := by rw [← hcenv]; rfl
  have cm : ∀ {y c}, (y, c) ∈ cloFrom X.env.cells scope.names [] → X.env.cells.lookup y = some c ∧ c < s.heap.objs.size := fun {y c} hm => by
    rcases cloFrom_mem hm with hm | ⟨h1, rfl⟩
    · cases hm
    · obtain ⟨c, hc⟩ := hfree _ h1 rfl
      rw [hc]
      obtain ⟨w, z⟩ := I.cell _ _ hc
      exact ⟨rfl, z.lt⟩
  have mem : ∀ {y c}, cenv.cells.lookup y = some c → X.env.cells.lookup y = some c ∧ c < s.heap.objs.size := fun {y c} e => by
    rw [hcl] at e
    exact cm (PySem.mem_of_lookup e)
  have look : ∀ {y}, scope.names.lookup y = some .free → ∃ c, cenv.cells.lookup y = some c ∧ X.env.cells.lookup y = some c := fun {y} hl => by
    have hy : (y, NameKind.free) ∈ scope.names := PySem.mem_of_lookup hl
    obtain ⟨c', e'⟩ := L2.mem_lookup (cloFrom_has (cells := X.env.cells) (acc := []) hy)
    rw [← hcl] at e'
    exact ⟨c', e', (mem e').1⟩
  have okB : (gcx X s H cenv fp []).Ok := by
    refine ⟨I.ok.mod, by show cenv.scope.kind = _; rw [hsc]; exact ok.kind, by show cenv.globals = _; rw [← hcenv]; exact I.ok.glob, by show cenv.builtins = _; rw [← hcenv]; rfl, by show s.heap.objs.size ≤ cenv.locals; rw [hL]; exact Nat.le_refl _,
      fun y z c e1 e2 => I.ok.inj y z c (mem e1).1 (mem e2).1, fun y hy => ?_, fun y c z e => ?_, fun _ => hh, ?_, .inr ⟨rfl, hfr⟩, fun b hb => ⟨?_, fun y c e z => ?_⟩, I.bs, Nat.le_trans I.ok.bsz I.sz, fun b o e hb => ?_, fun b hb z => ?_, I.stack, I.stkFree⟩
    · show ∃ c, cenv.cells.lookup y = some c
      have hy : cenv.scope.names.lookup y = some .cell ∨ cenv.scope.names.lookup y = some .free := hy
      rw [hsc] at hy
      rcases hy with hy | hy
      · exact absurd rfl (ok.cell _ (PySem.mem_of_lookup hy))
      · obtain ⟨c, h1, _⟩ := look hy
        exact ⟨c, h1⟩
    · exact absurd (show false = true from z) (by decide)
    · exact Around.frames_deeper (A := X.A.in1.in1) I.ok.frames
    · show b ≠ cenv.locals
      rw [hL]; exact Nat.ne_of_lt (hfp b hb).2
    · exact (hfp b hb).1.2.2.2.2.1 y c (mem e).1 z
    · rcases (hfp b hb).1.2.2.2.1 with z | z
      · exact I.ok.noex b o e z
      · exact absurd (Nat.lt_of_lt_of_le (Heap.lt_size e) (Nat.le_trans I.ok.bsz z)) (Nat.lt_irrefl _)
    · rcases List.mem_cons.mp (I.stkSub b z) with z | z
      · exact (hfp b hb).1.2.1 z
      · exact (hfp b hb).1.2.2.1 z
  obtain ⟨mm, hmm⟩ := hns
  refine ⟨okB, hos, hb5, Un.kept kp, ⟨mm, ?_, fun i y av e1 e2 e3 => ?_⟩, fun y c e => ?_, ?_, fun y c e => ?_, fun p hp => ?_, I.hok.kept kp, by rw [wipe_length]; exact I.len⟩
  · show s5.heap.Ns cenv.locals mm
    rw [hL]; exact hmm
  · obtain ⟨e2, hne⟩ := wipe_some e2
    have e3 : cenv.scope.names.lookup y = some .local ∨ cenv.scope.names.lookup y = some .cell ∨ cenv.scope.names.lookup y = some .free := e3
    rw [hsc] at e3
    have e1 : X.N[i]? = some y := e1
    rcases e3 with e3 | e3 | e3
    · exfalso
      rcases ok.own _ (PySem.mem_of_lookup e3) rfl with e' | e'
      · obtain ⟨p, hp, hpy⟩ := List.mem_map.mp e'
        have e4 := ok.ix p hp
        have : p.1 = y := hpy
        rw [this] at e4
        exact hne (List.mem_map.mpr ⟨p, hp, nodup_ix hN e4 e1⟩)
      · exact e' (List.mem_of_getElem? e1)
    · exact absurd rfl (ok.cell _ (PySem.mem_of_lookup e3))
    · obtain ⟨m, hn, hl⟩ := I.loc
      have hvis : Vis X.env.scope y := (ok.free _ (PySem.mem_of_lookup e3) rfl).elim (fun k => .inr (.inl k)) (fun k => .inr (.inr k))
      obtain ⟨w, r, q⟩ := hl i y av e1 e2 hvis
      have hk : cenv.kindOf y = some .free := by
        show cenv.scope.names.lookup y = _
        rw [hsc]; exact e3
      refine ⟨w, r, .inr ⟨.inr hk, ?_⟩⟩
      obtain ⟨c, h1, h2⟩ := look e3
      rcases q with ⟨k, _⟩ | ⟨_, c', e', z⟩
      · have k : X.env.scope.names.lookup y = some .local := k
        rcases ok.free _ (PySem.mem_of_lookup e3) rfl with k' | k' <;> rw [show X.env.scope.names.lookup y = _ from k'] at k <;> cases k
      · rw [h2] at e'; cases e'
        exact ⟨c, h1, z.keeps kp⟩
  · obtain ⟨h1, _⟩ := mem (show cenv.cells.lookup y = some c from e)
    obtain ⟨w, z⟩ := I.cell y c h1
    exact ⟨w, z.keeps kp⟩
  · show H cenv.locals = none
    rw [hL]; exact I.hok.fresh (Nat.le_refl _)
  · obtain ⟨h1, _⟩ := mem (show cenv.cells.lookup y = some c from e)
    exact I.freeC y c h1
  · exact absurd (show p ∈ ([] : List (Addr × Obj)) ++ [] from hp) (by simp)

/-- other gens, other toks, a heap that keeps all -/
theorem inv_gens {g' : Array GenState} (I : Inv X pins σ H s) (hg : AllBare g') : Inv X pins σ H { s with gens := g' } :=
  ⟨I.ok, I.os, hg, I.base, I.loc, I.cell, I.free, I.freeC, I.pin, I.hok, I.len⟩
theorem inv_pn {s4 : Shared} {H4 : Hp} {cenv : Env} {fp : List Addr} {pn : List (Addr × Obj)} (I : Inv (gcx X s4 H4 cenv fp []) pins σ H s)
    (h : ∀ p ∈ pn ++ pins, s.heap.get? p.1 = some p.2 ∧ H p.1 = none ∧ p.1 ≠ cenv.locals ∧ p.1 ∉ frs X.stack ∧ ∀ v, p.2.data ≠ .cell v) : Inv (gcx X s4 H4 cenv fp pn) pins σ H s :=
  ⟨⟨I.ok.mod, I.ok.kind, I.ok.glob, I.ok.blt, I.ok.above, I.ok.inj, I.ok.has, I.ok.cab, I.ok.hd, I.ok.frames, I.ok.stk, I.ok.exf, I.ok.bs, I.ok.bsz, I.ok.noex, I.ok.exfs, I.ok.funs, I.ok.frf⟩, I.os, I.bare, I.base, I.loc, I.cell, I.free, I.freeC, h, I.hok, I.len⟩
end

/-! ### the turns -/
section
variable {Z : Type} (X : Cx) (s4 : Shared) (H4 : Hp) (cenv : Env) (fp : List Addr) (pn : List (Addr × Obj)) (tn : Nat → Heap → Prop) (σ0 : L2.St) (W : Nat → Nat → Z → Hp → Prop) (Ip : Z → List (Addr × Obj) → Prop)
/-- at rest, ahead of turn i -/
structure GRest (i m : Nat) (z : Z) (ip : List (Addr × Obj)) (H : Hp) (s : Shared) : Prop where
  w : W i m z H
  hip : Ip z ip
  inv : Inv (gcx X s4 H4 cenv fp pn) ip σ0 H s
  tn : tn i s.heap
  nf : ∀ b ∈ fp, H b = none
def GEndP (Sp : Z → Hp → Prop) (s₀ s1 : Shared) : Prop := ∃ z ip H, Ip z ip ∧ Sp z H ∧ Inv (gcx X s4 H4 cenv fp pn) ip σ0 H s1 ∧ ∀ p ∈ ip, s₀.heap.get? p.1 = some p.2
def GYield (Yw : Z → (Z → Hp → Prop) → V → Hp → Prop) : Protocol := fun n s₀ v s kap =>
  ∃ i m z y ip H Nx, m ≤ n ∧ RelV y v ∧ Ip z ip ∧ Inv (gcx X s4 H4 cenv fp pn) ip σ0 H s ∧ tn (i + 1) s.heap ∧ (∀ b ∈ fp, H b = none) ∧ (∀ z' H', Nx z' H' → ∃ m', m' < m ∧ W (i + 1) m' z' H') ∧ Yw z Nx y H ∧ (∀ p ∈ ip, s₀.heap.get? p.1 = some p.2) ∧
    ∀ s' ip' z' m' H', m' < m → GRest X s4 H4 cenv fp pn tn σ0 W Ip (i + 1) m' z' ip' H' s' → kap (.send .none) s'
end
/-- what a turn is to do -/
def Turns {Z : Type} (J : It) (g : TG) (tt : TT) (te : TE) (σ0 : L2.St) (vs : List Nat) (W : Nat → Nat → Z → Hp → Prop) (Sp : Z → Hp → Prop) (Yw : Z → (Z → Hp → Prop) → V → Hp → Prop) : Prop :=
  ∀ i m z H, W i m z H → (J.stop i H ∧ Sp z H) ∨ (J.go i H ∧ ∃ Nx : Z → Hp → Prop, (∀ z' H', Nx z' H' → ∃ m', m' < m ∧ W (i + 1) m' z' H') ∧ ∀ x H', J.yld i H x H' → g x σ0 H' fun σ2 H2 => wipe σ2 vs = σ0 ∧ tt σ2 H2 fun b H3 =>
    if b = true then te σ2 H3 (Yw z Nx) else Nx z H3)
section
variable {Z : Type} {X : Cx} {s4 : Shared} {H4 : Hp} {cenv : Env} {fp : List Addr} {pn : List (Addr × Obj)} {tn : Nat → Heap → Prop} {σ0 : L2.St} {W : Nat → Nat → Z → Hp → Prop} {Ip : Z → List (Addr × Obj) → Prop}
  {Sp : Z → Hp → Prop} {Yw : Z → (Z → Hp → Prop) → V → Hp → Prop} {J : It} {g : TG} {tt : TT} {te : TE} {vs : List Nat} {elt tg iter : Expr} {ifs : List Expr} {scope : Scope} {pos : Pos} {it : Addr}
theorem seg_turns (hco : cenv.scope.isCoroutine = false) (hpn : ∀ z ip, Ip z ip → ∀ b ∈ fp, ∀ p ∈ pn ++ ip, p.1 ≠ b) (T : Turn X.prog X.w X.K tg J fp it tn)
    (pg : PG (gcx X s4 H4 cenv fp pn) tg g) (pt : PTs (gcx X s4 H4 cenv fp pn) ifs tt) (pe : PE (gcx X s4 H4 cenv fp pn) elt te) (turn : Turns J g tt te σ0 vs W Sp Yw) :
    ∀ (m n i : Nat) (z : Z) (ip : List (Addr × Obj)) (H : Hp) (s s₀ : Shared), m < n → GRest X s4 H4 cenv fp pn tn σ0 W Ip i m z ip H s → (∀ p ∈ ip, s₀.heap.get? p.1 = some p.2) →
      Seg (model X.prog X.w) X.A.in1.in1 (fun n s₀ r s₁ => r = .ok .next ∧ GEndP X s4 H4 cenv fp pn σ0 Ip Sp s₀ s₁) (GYield X s4 H4 cenv fp pn tn σ0 W Ip Yw) n s₀
        (.compLoop (.GeneratorExp elt [⟨tg, iter, ifs, 0⟩] scope pos) 0 (.ref it) .none cenv)
        ((model X.prog X.w).den (.compLoop (.GeneratorExp elt [⟨tg, iter, ifs, 0⟩] scope pos) 0 (.ref it) .none cenv)) [] s := by
  have stat : ∀ {z : Z} {ip : List (Addr × Obj)} {σ' : L2.St} {H' : Hp} {s' : Shared}, Ip z ip → Inv (gcx X s4 H4 cenv fp pn) ip σ' H' s' → (∀ b ∈ fp, H' b = none) → ∀ b ∈ fp, FpOk (gcx X s4 H4 cenv fp pn) ip H' b := fun {z ip σ' H' s'} hz I' hn b hb =>
    ⟨hn b hb, (I'.ok.exf b hb).1, I'.ok.exfs b hb, .inl hb, fun x c e => (I'.ok.exf b hb).2 x c e, fun p hp => hpn z ip hz b hb p hp⟩
  intro m
  induction m using Nat.strongRecOn with
  | ind m ih =>
    rintro n i z ip H s s₀ hmn ⟨w, hip, I, st, nf⟩ h0
    show Seg _ _ _ _ _ _ _ ((compTurn (.GeneratorExp elt [⟨tg, iter, ifs, 0⟩] scope pos) 0 (.ref it) .none cenv).onRaise (leaving cenv)) [] s
    rw [compTurn_gen, Sem.onRaise_eq_wrap]
    refine seg_bind_wrap (wpAny_standAt ?_)
    rcases turn i m z H w with ⟨stop, qq⟩ | ⟨go, Nx, hNx, step⟩
    · have td := T.done (gcx X s4 H4 cenv fp pn) rfl rfl rfl rfl i ip s _ H (fun _ _ => False) I (stat hip I nf) st stop
      refine seg_bind_wrap ?_
      rw [over_gen]
      refine thnF td fun r s6 ⟨hr, I6⟩ => ?_
      subst hr
      exact seg_end (.ok .next) ⟨rfl, z, ip, H, hip, qq, I6, h0⟩
    · have ti := T.item (gcx X s4 H4 cenv fp pn) rfl rfl rfl rfl i ip s _ H (fun _ _ => False) I (stat hip I nf) st go
      refine seg_bind_wrap ?_
      rw [over_gen]
      refine thnF ti fun r s6 ⟨u, hr, h6⟩ => ?_
      subst hr
      refine seg_bind_wrap (m := letOwnedTupleGo tg (.ref it) u) ?_
      rw [over_gen]
      refine thnF h6 fun _ s7 ⟨x, H7, I7, r7, y7, st7, n7⟩ => ?_
      have I7' := I7.pinned (stat hip I7 n7) (T.obj _ _ st7)
      refine seg_bind_wrap (m := assign tg cenv u) ?_
      rw [over_gen]
      refine thnF (pg.run _ s7 _ H7 x u _ I7' r7 (step x H7 y7)) fun _ s8 ⟨σ8, H8, I8, hw8, q8⟩ => ?_
      refine seg_bind_wrap ?_
      rw [over_gen]
      refine thnF (pt.run _ s8 σ8 H8 _ I8 q8) fun b s9 ⟨H9, I9, q9⟩ => ?_
      have fin : ∀ {s' : Shared} {H' : Hp}, Inv (gcx X s4 H4 cenv fp pn) (ip ++ pinsAt fp s7.heap) σ8 H' s' → Inv (gcx X s4 H4 cenv fp pn) ip σ0 H' s' ∧ tn (i + 1) s'.heap ∧ ∀ b ∈ fp, H' b = none := fun {s' H'} I' => by
        have pin' : ∀ b ∈ fp, ∀ o, s7.heap.get? b = some o → s'.heap.get? b = some o ∧ H' b = none := fun b hb o e =>
          let z := I'.pin (b, o) (List.mem_append_right _ (List.mem_append_right _ (mem_pinsAt hb e)))
          ⟨z.1, z.2.1⟩
        have hl : σ0.length = σ8.length := by rw [← hw8, wipe_length]
        refine ⟨(I'.unpinned (pins := ip)).weak hl (fun j v e => ?_), T.keep _ _ _ st7 fun b hb o e => (pin' b hb o e).1, fun b hb => ?_⟩
        · rw [← hw8] at e
          exact (wipe_some e).1
        · obtain ⟨o, e, _⟩ := T.obj _ _ st7 b hb
          exact (pin' b hb o e).2
      cases b with
      | false =>
        simp only [Bool.false_eq_true, if_false] at q9 ⊢
        obtain ⟨m', hm, w'⟩ := hNx z H9 q9
        obtain ⟨f1, f2, f3⟩ := fin I9
        exact seg_again rfl (ih m' hm n (i + 1) z ip H9 s9 s₀ (by omega) ⟨w', hip, f1, f2, f3⟩ h0)
      | true =>
        simp only [if_true] at q9 ⊢
        have hy : ∀ v, yieldOut cenv v = yieldValue v := fun v => by simp only [yieldOut, hco, Bool.false_eq_true, if_false]
        simp only [hy]
        obtain ⟨k, rfl⟩ : ∃ k, n = k + 1 := ⟨n - 1, by omega⟩
        rw [Sem.bind_eq_wrap', Sem.bind_eq_wrap', Sem.wrap_wrap, Sem.wrap_wrap]
        refine seg_wrap ?_
        rw [over_gen]
        refine thnF (pe.run _ s9 σ8 H9 _ I9 q9) fun yv s10 ⟨y, H10, I10, r10, yw⟩ => ?_
        obtain ⟨f1, f2, f3⟩ := fin I10
        refine seg_at (seg_yield rfl rfl rfl ⟨i, m, z, y, ip, H10, Nx, by omega, r10, hip, f1, f2, f3, hNx, yw, h0, fun s' ip' z' m' H' hm hR => ?_⟩)
        exact seg_again rfl (ih m' hm k (i + 1) z' ip' H' s' s' (by omega) hR fun p hp => (hR.inv.pin p (List.mem_append_right _ hp)).1)
theorem seg_first (hco : cenv.scope.isCoroutine = false) (hpn : ∀ z ip, Ip z ip → ∀ b ∈ fp, ∀ p ∈ pn ++ ip, p.1 ≠ b) (T : Turn X.prog X.w X.K tg J fp it tn)
    (pg : PG (gcx X s4 H4 cenv fp pn) tg g) (pt : PTs (gcx X s4 H4 cenv fp pn) ifs tt) (pe : PE (gcx X s4 H4 cenv fp pn) elt te) (turn : Turns J g tt te σ0 vs W Sp Yw)
    {m n : Nat} {z : Z} {ip : List (Addr × Obj)} {H : Hp} {s s₀ : Shared} (hmn : m < n) (hR : GRest X s4 H4 cenv fp pn tn σ0 W Ip 0 m z ip H s) (h0 : ∀ p ∈ ip, s₀.heap.get? p.1 = some p.2) :
      Seg (model X.prog X.w) X.A.in1.in1 (fun n s₀ r s₁ => r = .ok .next ∧ GEndP X s4 H4 cenv fp pn σ0 Ip Sp s₀ s₁) (GYield X s4 H4 cenv fp pn tn σ0 W Ip Yw) n s₀
        (.compStart (.GeneratorExp elt [⟨tg, iter, ifs, 0⟩] scope pos) 0 (.ref it) .none cenv)
        ((model X.prog X.w).den (.compStart (.GeneratorExp elt [⟨tg, iter, ifs, 0⟩] scope pos) 0 (.ref it) .none cenv)) [] s := by
  have loop := seg_turns (iter := iter) (scope := scope) (pos := pos) hco hpn T pg pt pe turn m n 0 z ip H s s₀ hmn hR h0
  show Seg _ _ _ _ _ s₀ _ ((compStart (.GeneratorExp elt [⟨tg, iter, ifs, 0⟩] scope pos) 0 (.ref it) .none cenv).onRaise (leaving cenv)) [] s
  unfold compStart
  rw [Sem.onRaise_eq_wrap]
  show Seg _ _ _ _ _ s₀ _ ((ask >>= _).wrap _ _ _ _) [] s
  refine seg_bind_wrap (wpAny_askSetting ?_)
  split
  · exact seg_again rfl loop
  · first
      | exact seg_bind_wrap (wpAny_rule (seg_bind_wrap (wpAny_standAt (seg_bind_wrap (T.self _ 0 s _ _ hR.tn (seg_again rfl loop))))))
      | (refine seg_bind_wrap (wpAny_rule ?_); show Seg _ _ _ _ _ s₀ _ ((standAt iter.pos >>= _).wrap _ _ _ _) [] s; exact seg_bind_wrap (wpAny_standAt (seg_bind_wrap (T.self _ 0 s _ _ hR.tn (seg_again rfl loop)))))
end

/-! ### a generator expression made -/
section
variable {X : Cx} {pins : List (Addr × Obj)} {σ : L2.St} {H : Hp} {s : Shared}
theorem back {s4 s6 : Shared} {H2 H6 : Hp} {cenv : Env} {fp : List Addr} {pn ip : List (Addr × Obj)} {σ6 : L2.St} (I4 : Inv X pins σ H2 s4) (hf : ∀ b ∈ fp, FpOk X pins H2 b) (I6 : Inv (gcx X s4 H2 cenv fp pn) ip σ6 H6 s6) : Inv X pins σ H6 s6 :=
  I4.call' (ch := fp) I6.os I6.base I6.hok I6.bare fun b hb => ⟨(hf b hb).2.2.2.1, (hf b hb).2.1, (hf b hb).2.2.2.2.1, (hf b hb).2.2.2.2.2⟩

/-- it is made, at a, its number g: not begun -/
structure Made (X : Cx) (pins : List (Addr × Obj)) (σ : L2.St) (elt tg iter : Expr) (ifs : List Expr) (scope : Scope) (gpos : Pos) (own : List (Str × Nat)) (J : It) (H2 : Hp) (s4 s5 : Shared) (cenv : Env) (it : Addr) (fp : List Addr) (tn : Nat → Heap → Prop) (a : Addr) (g : Nat) (go : Obj) : Prop where
  i4 : Inv X pins σ H2 s4
  env : ∃ (C : Addr) (code : Value), cenv = genEnv scope (cloFrom X.env.cells scope.names []) C code builtinsNs X.env
  turn : Turn X.prog X.w X.K tg J fp it tn
  tn0 : tn 0 s5.heap
  fok : ∀ b ∈ fp, FpOk X pins H2 b
  fa : ∀ b ∈ fp, b < a
  inv : Inv (gcx X s4 H2 cenv fp [(a, go)]) [] (wipe σ (own.map (·.2))) H2 s5
  gen : ∀ h : Heap, h.get? a = some go → h.IsGen a g
  gs : s5.gens[g]? = some (.fresh (.compStart (.GeneratorExp elt [⟨tg, iter, ifs, 0⟩] scope gpos) 0 (.ref it) .none cenv))
  lt : a < s5.heap.objs.size
theorem gen_made {c P : Addr} {elt tg iter : Expr} {ifs : List Expr} {gpos : Pos} {scope : Scope} {own : List (Str × Nat)} {wi : TI} {k : Nat} {Q' : Value → Shared → Prop} {R : It → Hp → Prop}
    (hr : Room k X.A) (TB : TabB X.base X.mg c P) (hcode : X.env.code = .ref c) (ok : GenOk X.N X.env.scope scope own) (hN : X.N.Nodup) (hi : PI X tg iter wi)
    (hs : ∀ v, genFold iter X.env v = pure v) (I : Inv X pins σ H s) (h : wi σ H fun J H1 => TabG H1 P ∧ ∀ H2, Tabbed P H1 H2 → R J H2)
    (hQ : ∀ J H2 s4 s5 cenv it fp tn a g go, R J H2 → Made X pins σ elt tg iter ifs scope gpos own J H2 s4 s5 cenv it fp tn a g go → Q' (.ref a) s5) :
    wpAny (model X.prog X.w) X.A (eval (.GeneratorExp elt [⟨tg, iter, ifs, 0⟩] scope gpos) X.env) Q' X.xe s := by
  have hfree : ∀ y ∈ scope.names, y.2 = .free → ∃ c, X.env.cells.lookup y.1 = some c := fun y hy e => by
    rcases ok.free y hy e with k | k
    · exact I.ok.has _ (.inl k)
    · exact I.ok.has _ (.inr k)
  refine wpAny_GeneratorExp_make ok.co (closure_ok hfree) ok.cell ok.dot ok.kind (by have := hr.dp; omega) ?_ hs
  refine thn (hi.run pins s σ H _ I h) fun xv s1 hx => thn hx fun itv s2 h2 => ?_
  obtain ⟨it, fp, tn, J, H1, e, I2, T, st2, f2, ⟨ps, hP, ht⟩, q⟩ := h2
  subst e
  have hPs : s2.heap.get? P = some { cls := .none, data := .fields ps } := I2.hok P _ hP
  have hPlt : P < s2.heap.objs.size := Heap.lt_size hPs
  have cd : PySem.W.CodeHd s2.heap c P := TB.code.keeps fun b u e => I2.bk b u e
  have lim2 : s2.heap.NoLimit := I2.nolimit
  have cont : ∀ (code : Value) (h3 : Heap) (tk : Nat) (ps' : Array Value), Heap.ExtBut P s2.heap h3 → s2.heap.objs.size ≤ h3.objs.size → h3.get? P = some { cls := .none, data := .fields ps' } → (∃ more, ps' = ps ++ more) → TriplesOk ps'.toList →
      wpAny (model X.prog X.w) X.A (builtinsFor X.env.globals X.env.builtins) (fun bi s₄ =>
        ∀ h', h'.Ns s₄.heap.objs.size (fun y => if y = ".0" then some (.ref it) else none) → Heap.SameBut s₄.heap.objs.size (s₄.heap.push { cls := .type "frame", data := .dict #[] }) h' →
          Q' (.ref h'.objs.size) { s₄ with
            gens := s₄.gens.push (.fresh (.compStart (.GeneratorExp elt [⟨tg, iter, ifs, 0⟩] scope gpos) 0 (.ref it) .none (genEnv scope (cloFrom X.env.cells scope.names []) s₄.heap.objs.size code bi X.env))),
            toks := s₄.toks + 1 + 1 + 1,
            heap := h'.push { cls := .type "generator", data := .fields #[.int s₄.gens.size 0, .str "<genexpr>" (s₄.toks + 1), .str (X.env.qual ++ "<genexpr>") (s₄.toks + 1 + 1)] } }) X.xe { s2 with heap := h3, toks := tk } := by
    intro code h3 tk ps' hx hsz hP3 hmore ht3
    obtain ⟨bm, ob, e1, e2, e3, e4, e5, e6, e7, e8⟩ := TB.bm
    have keep3 : ∀ b u, b ≠ P → s2.heap.get? b = some u → h3.get? b = some u := fun b u hb e => hx b u hb e
    refine wpAny_builtinsFor (m := X.mg) (by rw [I2.ok.glob]; exact (I2.mod.glob.keeps I2.bk).extBut hx TB.gP) e1 e2 (keep3 _ _ e4 (I2.bk _ _ e5)) e6 e7 e8 ?_
    intro h' hn' hs'
    obtain ⟨more, em⟩ := hmore
    subst em
    have I4 : Inv X pins σ (upd H1 P (.tbl (ps ++ more))) { s2 with heap := h3, toks := tk } := inv_tab (more := more) (h' := h3) (g' := s2.gens) (d' := s2.drawn) (t' := tk) I2 hP (fun b u hb e => hx b u hb e) hP3 I2.bare
    generalize hH2 : upd H1 P (.tbl (ps ++ more)) = H2 at I4
    have hTab : Tabbed P H1 H2 := by
      rw [← hH2]
      exact ⟨⟨ps ++ more, upd_same, ht3⟩, fun b hb => upd_ne hb⟩
    generalize hs4 : ({ s2 with heap := h3, toks := tk } : Shared) = s4 at I4
    have hh3 : h3 = s4.heap := by rw [← hs4]
    have hg2 : s2.gens = s4.gens := by rw [← hs4]
    have htk : tk = s4.toks := by rw [← hs4]
    have hsz4 : h'.objs.size = s4.heap.objs.size + 1 := by
      have z := hs'.1
      rw [Heap.size_push] at z
      rw [← hh3]
      exact z
    have keep' : ∀ b o, s4.heap.get? b = some o → h'.get? b = some o := fun b o e => by
      rw [← hh3] at e
      exact hs'.extBut b o (Nat.ne_of_lt (Heap.lt_size e)) (Heap.get?_push_of_some _ e)
    have fne : ∀ b ∈ fp, b ≠ P := fun b hb z => by
      have z1 := (f2 b hb).1
      rw [z, hP] at z1
      cases z1
    have flt : ∀ b ∈ fp, b < s2.heap.objs.size := fun b hb => by
      obtain ⟨o, e, _⟩ := T.obj _ _ st2 b hb
      exact Heap.lt_size e
    have f4 : ∀ b ∈ fp, FpOk X pins H2 b := fun b hb => by
      refine ⟨?_, (f2 b hb).2⟩
      rw [hTab.2 b (fne b hb)]
      exact (f2 b hb).1
    have f4l : ∀ b ∈ fp, b < s4.heap.objs.size := fun b hb => by
      rw [← hh3]
      exact Nat.lt_of_lt_of_le (flt b hb) hsz
    have stay : ∀ b ∈ fp, ∀ o, s2.heap.get? b = some o → h'.get? b = some o := fun b hb o e => keep' b o (by rw [← hh3]; exact keep3 b o (fne b hb) e)
    refine hQ J H2 s4 _ (genEnv scope (cloFrom X.env.cells scope.names []) s4.heap.objs.size code builtinsNs X.env) it fp tn h'.objs.size s4.gens.size
      { cls := .type "generator", data := .fields #[.int s4.gens.size 0, .str "<genexpr>" (s4.toks + 1), .str (X.env.qual ++ "<genexpr>") (s4.toks + 1 + 1)] } (q H2 hTab) ?_
    have hn4 : h'.Ns s4.heap.objs.size (fun y => if y = ".0" then some (.ref it) else none) := by first | exact hn' | (rw [← hh3]; exact hn')
    have I5 : Inv (gcx X s4 H2 (genEnv scope (cloFrom X.env.cells scope.names []) s4.heap.objs.size code builtinsNs X.env) fp []) [] (wipe σ (own.map (·.2))) H2
        { s4 with heap := h'.push { cls := .type "generator", data := .fields #[.int s4.gens.size 0, .str "<genexpr>" (s4.toks + 1), .str (X.env.qual ++ "<genexpr>") (s4.toks + 1 + 1)] }, toks := s4.toks + 1 + 1 + 1, gens := s4.gens.push (.fresh (.compStart (.GeneratorExp elt [⟨tg, iter, ifs, 0⟩] scope gpos) 0 (.ref it) .none (genEnv scope (cloFrom X.env.cells scope.names []) s4.heap.objs.size code builtinsNs X.env))) } :=
      gen_start I4 hr.hd ok hN (fun b hb => ⟨f4 b hb, f4l b hb⟩) rfl (AllBare.push I4.bare rfl) (fun b o e => Heap.get?_push_of_some _ (keep' b o e)) ⟨_, hn4.push _⟩
    have hgo : ∀ h : Heap, h.get? h'.objs.size = some { cls := .type "generator", data := .fields #[.int s4.gens.size 0, .str "<genexpr>" (s4.toks + 1), .str (X.env.qual ++ "<genexpr>") (s4.toks + 1 + 1)] } → h.IsGen h'.objs.size s4.gens.size := fun h e => ⟨_, _, _, e, rfl, rfl, rfl⟩
    refine ⟨I4, ⟨_, _, rfl⟩, T, T.keep _ _ _ st2 fun b hb o e => Heap.get?_push_of_some _ (stay b hb o e), f4, fun b hb => by rw [hsz4]; exact Nat.lt_succ_of_lt (f4l b hb), ?_, hgo, ?_, ?_⟩
    · refine inv_pn I5 fun p hp => ?_
      rw [List.append_nil] at hp
      rw [List.mem_singleton.mp hp]
      refine ⟨?_, I4.hok.fresh (by rw [hsz4]; exact Nat.le_succ _), ?_, fun z => ?_, fun v z => by cases z⟩
      · show (h'.push _).get? h'.objs.size = _
        exact Heap.get?_push_size _ rfl
      · show h'.objs.size ≠ s4.heap.objs.size
        rw [hsz4]
        exact Nat.succ_ne_self _
      · have z2 : h'.objs.size ∈ X.env.locals :: X.fs := I4.stkSub _ z
        rcases List.mem_cons.mp z2 with z3 | z3
        · have z4 := I4.lt
          rw [← z3, hsz4] at z4
          exact absurd (Nat.lt_of_succ_lt z4) (Nat.lt_irrefl _)
        · exact I4.nofs (by rw [hsz4]; exact Nat.le_succ _) z3
    · exact Array.getElem?_push_size ..
    · show h'.objs.size < (h'.push _).objs.size
      rw [Heap.size_push]
      exact Nat.lt_succ_self _
  refine ⟨lim2, ?_⟩
  cases hf : codeAmong gpos ps.toList with
  | none =>
    refine wpAny_genexprCodeX hcode (cd.code hPs ht) (cd.tab hPs) hf fun c' h' tk hx hge hlt hco' _ htab' _ => ?_
    obtain ⟨o1, vs, f1, tf, fl, tg, inF, tx, tt, op, _, _, _, _, _, _, _, _, _, htr, _⟩ := hco'
    exact cont _ h' tk _ hx (Nat.le_trans hge (Nat.le_of_lt hlt)) htab'.2 ⟨_, rfl⟩ htr
  | some cv =>
    refine wpAny_genexprCode_hit hcode (cd.code hPs ht) hf ?_
    exact cont cv s2.heap s2.toks ps (Heap.ExtBut.refl _ _) (Nat.le_refl _) hPs ⟨#[], by simp⟩ ht
end

/-! ### the consumers -/
theorem next_at {s : Shared} {g : Nat} {x y : GenState} (h : s.gens[g]? = some x) : (s.setGen g y).gens[g]? = some y := setGen_at (Array.getElem?_eq_some_iff.mp h).1
section
variable {Z : Type} {X : Cx} {s4 : Shared} {H4 : Hp} {cenv : Env} {fp : List Addr} {pn : List (Addr × Obj)} {tn : Nat → Heap → Prop} {σ0 : L2.St} {W : Nat → Nat → Z → Hp → Prop} {Ip : Z → List (Addr × Obj) → Prop}
  {Sp : Z → Hp → Prop} {Yw : Z → (Z → Hp → Prop) → V → Hp → Prop} {a : Addr} {g : Nat}
/-- one next of it: E nothing -/
theorem next_of {A : Around} {s : Shared} {gs : GenState} {n : Nat} {Q : Option Value → Shared → Prop} {E : Value → Shared → Prop} (hh : X.A.handled = none) (hroom : X.A.depth < recursionLimit) (hl : s.heap.NoLimit) (hg : s.heap.IsGen a g) (hgs : s.gens[g]? = some gs)
    (hgo : gs.Goes (model X.prog X.w) X.A.in1.in1 (fun n s₀ r s₁ => r = .ok .next ∧ GEndP X s4 H4 cenv fp pn σ0 Ip Sp s₀ s₁) (GYield X s4 H4 cenv fp pn tn σ0 W Ip Yw) n (.send .none) (s.setGen g .running))
    (hend : ∀ z ip H s', (∀ p ∈ ip, s.heap.get? p.1 = some p.2) → Ip z ip → Sp z H → Inv (gcx X s4 H4 cenv fp pn) ip σ0 H s' → Q none s')
    (hyld : ∀ i m z y v ip H Nx s', (∀ p ∈ ip, s.heap.get? p.1 = some p.2) → (∃ gs', s'.gens[g]? = some gs') → RelV y v → Ip z ip → Inv (gcx X s4 H4 cenv fp pn) ip σ0 H s' → tn (i + 1) s'.heap → (∀ b ∈ fp, H b = none) → (∀ z' H', Nx z' H' → ∃ m', m' < m ∧ W (i + 1) m' z' H') → Yw z Nx y H →
      (∀ s2 ip' z' m' H', (∃ gs', s2.gens[g]? = some gs' ∧ s'.gens[g]? = some gs') → m' < m → GRest X s4 H4 cenv fp pn tn σ0 W Ip (i + 1) m' z' ip' H' s2 →
        ∃ gs' k, s2.gens[g]? = some gs' ∧ n = k + 1 ∧ gs'.Goes (model X.prog X.w) X.A.in1.in1 (fun n s₀ r s₁ => r = .ok .next ∧ GEndP X s4 H4 cenv fp pn σ0 Ip Sp s₀ s₁) (GYield X s4 H4 cenv fp pn tn σ0 W Ip Yw) k (.send .none) (s2.setGen g .running)) → Q (some v) s') :
    wpAny (model X.prog X.w) X.A.in1 (pyNext (.ref a)) Q E s := by
  have hlt := (Array.getElem?_eq_some_iff.mp hgs).1
  refine wpAny_gsz (n := g + 1) hlt ?_
  refine wpAny_pyNext_genexpQ (P := fun _ s₀ s₁ => GEndP X s4 H4 cenv fp pn σ0 Ip Sp s₀ s₁) hh hl hroom hg hgs hgo (fun v s₁ gs' hb hv => ?_) (fun s₁ hp h' hk => ?_)
  · intro hsz
    obtain ⟨i, m, z, y, ip, H, Nx, hmn, ry, hip, I, ht, nf, hNx, yw, h0, kap⟩ := hv
    have q : (s₁.setGen g gs').gens.size = s₁.gens.size := setGen_size _ _ _
    have hsz1 : g < s₁.gens.size := by
      have hsz' : g + 1 ≤ (s₁.setGen g gs').gens.size := hsz
      omega
    have I' : Inv (gcx X s4 H4 cenv fp pn) ip σ0 H (s₁.setGen g gs') := inv_gens I (allBare_setGen I.bare hb)
    refine hyld i m z y v ip H Nx _ h0 ⟨gs', setGen_at hsz1⟩ ry hip I' ht nf hNx yw fun s2 ip' z' m' H' hg2 hm hR => ?_
    obtain ⟨gs2, h1, h2⟩ := hg2
    rw [setGen_at hsz1] at h2
    cases h2
    have kk := kap (s2.setGen g .running) ip' z' m' H' hm ⟨hR.w, hR.hip, inv_gens hR.inv (allBare_setGen hR.inv.bare rfl), hR.tn, hR.nf⟩
    cases n with
    | zero => exact False.elim kk
    | succ k => exact ⟨gs', k, h1, rfl, kk⟩
  · intro _
    obtain ⟨z, ip, H, hip, sp, I, h0⟩ := hp
    refine hend z ip H _ h0 hip sp ?_
    have I1 : Inv (gcx X s4 H4 cenv fp pn) ip σ0 H (s₁.setGen g .finished) := inv_gens I (allBare_setGen I.bare rfl)
    exact I1.kept (t' := s₁.toks) hk

/-- the loop of all -/
theorem all_loop {Rr : Result → Shared → Prop} {Qf : Bool → Hp → Prop} (hh : X.A.handled = none) (hroom : X.A.depth < recursionLimit) (hgen : ∀ s ip H, Inv (gcx X s4 H4 cenv fp pn) ip σ0 H s → s.heap.IsGen a g)
    (hSp : ∀ z H, Sp z H → Qf true H) (hYw : ∀ z Nx y H, Yw z Nx y H → ∃ c, y = .bl c ∧ if c = true then Nx z H else Qf false H)
    (hR : ∀ b ip H s', Inv (gcx X s4 H4 cenv fp pn) ip σ0 H s' → Qf b H → Rr (.ok (.ret (.bool b))) s') :
    ∀ (n : Nat) (s : Shared), (∃ gs, s.gens[g]? = some gs ∧ gs.Goes (model X.prog X.w) X.A.in1.in1 (fun n s₀ r s₁ => r = .ok .next ∧ GEndP X s4 H4 cenv fp pn σ0 Ip Sp s₀ s₁) (GYield X s4 H4 cenv fp pn tn σ0 W Ip Yw) n (.send .none) (s.setGen g .running)) →
      s.heap.NoLimit → s.heap.IsGen a g → codeAny (model X.prog X.w) X.A (.builtin "all.loop" ⟨[.ref a], []⟩) Rr s := by
  intro n
  induction n using Nat.strongRecOn with
  | ind n ih =>
    intro s ⟨gs, hgs, hgo⟩ hl hg
    refine codeAny_builtin F.entry_all_loop ?_
    rw [Around.under_plainId F.plain_all_loop _]
    show wpAny _ X.A.in1 (pyNext (.ref a) >>= _) _ _ s
    refine wpAny_bind (next_of (A := X.A) hh hroom hl hg hgs hgo (fun z ip H s' h0 hip sp I => ?_) (fun i m z y v ip H Nx s' h0 ⟨gs1, hgs1⟩ ry hip I ht nf hNx yw res => ?_))
    · refine wpAny_bind (wpAny_rule (wpAny_pure ?_))
      exact hR true ip H s' I (hSp z H sp)
    · obtain ⟨c, rfl, hc⟩ := hYw z Nx y H yw
      obtain rfl : v = Value.bool c := ry
      refine wpAny_bind (wpAny_holding (wpAny_truthy_bool ?_))
      refine wpAny_bind (wpAny_letGo ?_)
      cases c with
      | true =>
        simp only [if_true] at hc ⊢
        obtain ⟨m', hm, w'⟩ := hNx _ _ hc
        refine wpAny_pure ⟨plainId_quiet F.plain_all_loop _, ?_⟩
        obtain ⟨gs2, k, h1, h2, h3⟩ := res s' ip z m' H ⟨gs1, hgs1, hgs1⟩ hm ⟨w', hip, I, ht, nf⟩
        exact ih k (by omega) s' ⟨gs2, h1, h3⟩ I.nolimit (hgen _ _ _ I)
      | false =>
        simp only [Bool.false_eq_true, if_false] at hc ⊢
        refine wpAny_bind (wpAny_rule (wpAny_pure ?_))
        exact hR false ip H s' I hc
theorem any_loop {Rr : Result → Shared → Prop} {Qf : Bool → Hp → Prop} (hh : X.A.handled = none) (hroom : X.A.depth < recursionLimit) (hgen : ∀ s ip H, Inv (gcx X s4 H4 cenv fp pn) ip σ0 H s → s.heap.IsGen a g)
    (hSp : ∀ z H, Sp z H → Qf false H) (hYw : ∀ z Nx y H, Yw z Nx y H → ∃ c, y = .bl c ∧ if c = true then Qf true H else Nx z H)
    (hR : ∀ b ip H s', Inv (gcx X s4 H4 cenv fp pn) ip σ0 H s' → Qf b H → Rr (.ok (.ret (.bool b))) s') :
    ∀ (n : Nat) (s : Shared), (∃ gs, s.gens[g]? = some gs ∧ gs.Goes (model X.prog X.w) X.A.in1.in1 (fun n s₀ r s₁ => r = .ok .next ∧ GEndP X s4 H4 cenv fp pn σ0 Ip Sp s₀ s₁) (GYield X s4 H4 cenv fp pn tn σ0 W Ip Yw) n (.send .none) (s.setGen g .running)) →
      s.heap.NoLimit → s.heap.IsGen a g → codeAny (model X.prog X.w) X.A (.builtin "any.loop" ⟨[.ref a], []⟩) Rr s := by
  intro n
  induction n using Nat.strongRecOn with
  | ind n ih =>
    intro s ⟨gs, hgs, hgo⟩ hl hg
    refine codeAny_builtin F.entry_any_loop ?_
    rw [Around.under_plainId F.plain_any_loop _]
    show wpAny _ X.A.in1 (pyNext (.ref a) >>= _) _ _ s
    refine wpAny_bind (next_of (A := X.A) hh hroom hl hg hgs hgo (fun z ip H s' h0 hip sp I => ?_) (fun i m z y v ip H Nx s' h0 ⟨gs1, hgs1⟩ ry hip I ht nf hNx yw res => ?_))
    · refine wpAny_bind (wpAny_rule (wpAny_pure ?_))
      exact hR false ip H s' I (hSp z H sp)
    · obtain ⟨c, rfl, hc⟩ := hYw z Nx y H yw
      obtain rfl : v = Value.bool c := ry
      refine wpAny_bind (wpAny_holding (wpAny_truthy_bool ?_))
      refine wpAny_bind (wpAny_letGo ?_)
      cases c with
      | false =>
        simp only [Bool.false_eq_true, if_false] at hc ⊢
        obtain ⟨m', hm, w'⟩ := hNx _ _ hc
        refine wpAny_pure ⟨plainId_quiet F.plain_any_loop _, ?_⟩
        obtain ⟨gs2, k, h1, h2, h3⟩ := res s' ip z m' H ⟨gs1, hgs1, hgs1⟩ hm ⟨w', hip, I, ht, nf⟩
        exact ih k (by omega) s' ⟨gs2, h1, h3⟩ I.nolimit (hgen _ _ _ I)
      | true =>
        simp only [if_true] at hc ⊢
        refine wpAny_bind (wpAny_rule (wpAny_pure ?_))
        exact hR true ip H s' I hc
end
section
variable {X : Cx} {s4 : Shared} {H4 : Hp} {cenv : Env} {fp : List Addr} {pn : List (Addr × Obj)} {tn : Nat → Heap → Prop} {σ0 : L2.St} {W : Nat → Nat → Int → Hp → Prop} {Ip : Int → List (Addr × Obj) → Prop}
  {Sp : Int → Hp → Prop} {Yw : Int → (Int → Hp → Prop) → V → Hp → Prop} {a : Addr} {g : Nat}
/-- sum's own list -/
abbrev accObj (z : Int) (t : Tok) (c : Nat) : Obj := { cls := .type "list", dict := none, data := .seq #[.int z t] c, slots := #[] }
def IpSum (S : Addr) (z : Int) (ip : List (Addr × Obj)) : Prop := ∃ t c, ip = [(S, accObj z t c)]
theorem inv_acc {S : Addr} {H : Hp} {s : Shared} {z z' : Int} {t t' : Tok} {c c' : Nat} {h' : Heap} {tk : Nat} (I : Inv (gcx X s4 H4 cenv fp pn) [(S, accObj z t c)] σ0 H s)
    (hSfp : S ∉ fp) (hSpn : ∀ p ∈ pn, p.1 ≠ S) (hS4 : s4.heap.objs.size ≤ S) (hk : ∀ b o, b ≠ S → s.heap.get? b = some o → h'.get? b = some o) (hS : h'.get? S = some (accObj z' t' c')) :
    Inv (gcx X s4 H4 cenv fp pn) [(S, accObj z' t' c')] σ0 H { s with heap := h', toks := tk } := by
  obtain ⟨p1, p2, p3, p4, p5⟩ := I.pin (S, accObj z t c) (List.mem_append_right _ (List.mem_singleton.mpr rfl))
  have I0 : Inv (gcx X s4 H4 cenv fp pn) [] σ0 H s := I.pins_of fun p hp => absurd hp (by simp)
  have I1 : Inv (gcx X s4 H4 cenv fp pn) [] σ0 H { s with heap := h', toks := tk } := by
    refine I0.turned (it := S) hk p2 p3 (.inr hS4) (fun x cc e zz => ?_) fun p hp => ?_
    · obtain ⟨v, o, ho, hd⟩ := I.cell x cc e
      rw [zz, p1] at ho
      cases ho
      cases hd
    · rw [List.append_nil] at hp
      exact hSpn p hp
  refine I1.pins_of fun p hp => ?_
  rw [List.mem_singleton.mp hp]
  exact ⟨hS, p2, p3, p4, fun v q => by cases q⟩
theorem sum_loop {Rr : Result → Shared → Prop} {Qf : Int → Hp → Prop} {S : Addr} (hh : X.A.handled = none) (hroom : X.A.depth < recursionLimit) (hgen : ∀ s ip H, Inv (gcx X s4 H4 cenv fp pn) ip σ0 H s → s.heap.IsGen a g)
    (hSfp : S ∉ fp) (hSpn : ∀ p ∈ pn, p.1 ≠ S) (hS4 : s4.heap.objs.size ≤ S) (hkeep : ∀ i (h h' : Heap), tn i h → (∀ b ∈ fp, ∀ o, h.get? b = some o → h'.get? b = some o) → tn i h')
    (hSp : ∀ z H, Sp z H → Qf z H) (hYw : ∀ z Nx y H, Yw z Nx y H → ∃ v, y = .int v ∧ InLong v ∧ InLong (z + v) ∧ Nx (z + v) H)
    (hR : ∀ z t ip H s', Inv (gcx X s4 H4 cenv fp pn) ip σ0 H s' → Qf z H → Rr (.ok (.ret (.int z t))) s') :
    ∀ (n : Nat) (s : Shared) (z0 : Int) (tA : Tok) (c0 : Nat), s.heap.get? S = some (accObj z0 tA c0) →
      (∃ gs, s.gens[g]? = some gs ∧ gs.Goes (model X.prog X.w) X.A.in1.in1 (fun n s₀ r s₁ => r = .ok .next ∧ GEndP X s4 H4 cenv fp pn σ0 (IpSum S) Sp s₀ s₁) (GYield X s4 H4 cenv fp pn tn σ0 W (IpSum S) Yw) n (.send .none) (s.setGen g .running)) →
      s.heap.NoLimit → s.heap.IsGen a g → codeAny (model X.prog X.w) X.A (.builtin "sum.loop" ⟨[.ref a, .ref S, rawInt 0, rawInt 0], []⟩) Rr s := by
  intro n
  induction n using Nat.strongRecOn with
  | ind n ih =>
    intro s z0 tA c0 hS ⟨gs, hgs, hgo⟩ hl hg
    refine codeAny_builtin F.entry_sum_loop ?_
    rw [Around.under_plainId F.plain_sum_loop _]
    show wpAny _ X.A.in1 (seqItems? (.ref S) >>= _) _ _ s
    refine wpAny_bind (wpAny_seqItems hS rfl ?_)
    show wpAny _ X.A.in1 (tryCatch (pyNext (.ref a)) _ >>= _) _ _ s
    refine wpAny_bind (wpAny_tryCatch (next_of (A := X.A) hh hroom hl hg hgs hgo (fun z ip H s' h0 hip sp I => ?_) (fun i m z y v ip H Nx s' h0 ⟨gs1, hgs1⟩ ry hip I ht nf hNx yw res => ?_)))
    · obtain ⟨t, c, rfl⟩ := hip
      have e := h0 (S, accObj z t c) (List.mem_singleton.mpr rfl)
      rw [hS] at e
      injection Option.some.inj e with _ _ e3 _
      injection e3 with e4 _
      have e5 : Value.int z0 tA = Value.int z t := by
        have := congrArg (fun q : Array Value => q[0]?) e4
        simpa using this
      injection e5 with e6 e7
      subst e6
      exact wpAny_pure (hR z0 tA _ H s' I (hSp z0 H sp))
    · obtain ⟨t, c, rfl⟩ := hip
      have e := h0 (S, accObj z t c) (List.mem_singleton.mpr rfl)
      rw [hS] at e
      injection Option.some.inj e with _ _ e3 _
      injection e3 with e4 _
      have e5 : Value.int z0 tA = Value.int z t := by
        have := congrArg (fun q : Array Value => q[0]?) e4
        simpa using this
      injection e5 with e6 e7
      subst e6
      obtain ⟨v0, rfl, ⟨f1, f2⟩, ⟨f3, f4⟩, hnx⟩ := hYw z0 Nx y H yw
      obtain ⟨m', hm, w'⟩ := hNx _ _ hnx
      obtain ⟨tv, rfl⟩ : ∃ tv, v = Value.int v0 tv := ry
      have hS' : s'.heap.get? S = some (accObj z0 t c) := (I.pin (S, accObj z0 t c) (List.mem_append_right _ (List.mem_singleton.mpr rfl))).1
      have hc : ((decide (-(2 ^ 63) ≤ v0) && decide (v0 < 2 ^ 63)) && (decide (-(2 ^ 63) ≤ z0 + v0) && decide (z0 + v0 < 2 ^ 63))) = true := by
        simp only [Bool.and_eq_true, decide_eq_true_eq]
        exact ⟨⟨f1, f2⟩, f3, f4⟩
      show wpAny _ X.A.in1 (if (_ : Bool) = true then (mkInt (z0 + v0) >>= _) else _) _ _ _
      split
      · refine wpAny_bind (wpAny_mkInt ?_)
        show wpAny _ X.A.in1 (updateSeq S (fun _ => #[.int (z0 + v0) s'.toks]) >>= _) _ _ _
        refine wpAny_bind ?_
        refine wpAny_updateSeq hS' rfl (wpAny_pure ⟨plainId_quiet F.plain_sum_loop _, ?_⟩)
        obtain ⟨c', hup⟩ : ∃ c', (s'.heap.update S (Obj.mapSeq (fun _ => #[.int (z0 + v0) s'.toks]))).get? S = some (accObj (z0 + v0) s'.toks c') := ⟨_, Heap.get?_update_self _ hS' rfl⟩
        have I2 : Inv (gcx X s4 H4 cenv fp pn) [(S, accObj (z0 + v0) s'.toks c')] σ0 H { s' with heap := s'.heap.update S (Obj.mapSeq (fun _ => #[.int (z0 + v0) s'.toks])), toks := s'.toks + 1 } :=
          inv_acc I hSfp hSpn hS4 (fun b o hb e => (Heap.get?_update_other _ _ (Ne.symm hb)).trans e) hup
        obtain ⟨gs2, k, h1, h2, h3⟩ := res { s' with heap := s'.heap.update S (Obj.mapSeq (fun _ => #[.int (z0 + v0) s'.toks])), toks := s'.toks + 1 } [(S, accObj (z0 + v0) s'.toks c')] (z0 + v0) m' H ⟨gs1, hgs1, hgs1⟩ hm
          ⟨w', ⟨_, _, rfl⟩, I2, hkeep _ _ _ ht fun b hb o e => (Heap.get?_update_other _ _ (fun z : S = b => hSfp (by rw [z]; exact hb))).trans e, nf⟩
        exact ih k (by omega) _ (z0 + v0) s'.toks c' hup ⟨gs2, h1, h3⟩ I2.nolimit (hgen _ _ _ I2)
      · rename_i hneg
        exact absurd hc hneg
end

/-! ### the rules -/
section
variable {X : Cx}
/-- all(elt for tg in iter if ..), by an invariant W of the turn, a measure and the heap -/
def tAllG (P : Addr) (wi : TI) (g : TG) (tt : TT) (te : TE) (vs : List Nat) : TE := fun σ H Q => wi σ H fun J H1 => TabG H1 P ∧ ∀ H2, Tabbed P H1 H2 → ∃ W : Nat → Nat → Hp → Prop, (∃ m, W 0 m H2) ∧ ∀ i m H, W i m H →
  (J.stop i H ∧ Q (.bl true) H) ∨ (J.go i H ∧ ∃ Nx : Hp → Prop, (∀ H', Nx H' → ∃ m', m' < m ∧ W (i + 1) m' H') ∧ ∀ x H', J.yld i H x H' → g x (wipe σ vs) H' fun σ2 H2 => wipe σ2 vs = wipe σ vs ∧ tt σ2 H2 fun b H3 =>
    if b = true then te σ2 H3 fun y H4 => ∃ c, y = .bl c ∧ if c = true then Nx H4 else Q (.bl false) H4 else Nx H3)
def tAnyG (P : Addr) (wi : TI) (g : TG) (tt : TT) (te : TE) (vs : List Nat) : TE := fun σ H Q => wi σ H fun J H1 => TabG H1 P ∧ ∀ H2, Tabbed P H1 H2 → ∃ W : Nat → Nat → Hp → Prop, (∃ m, W 0 m H2) ∧ ∀ i m H, W i m H →
  (J.stop i H ∧ Q (.bl false) H) ∨ (J.go i H ∧ ∃ Nx : Hp → Prop, (∀ H', Nx H' → ∃ m', m' < m ∧ W (i + 1) m' H') ∧ ∀ x H', J.yld i H x H' → g x (wipe σ vs) H' fun σ2 H2 => wipe σ2 vs = wipe σ vs ∧ tt σ2 H2 fun b H3 =>
    if b = true then te σ2 H3 fun y H4 => ∃ c, y = .bl c ∧ if c = true then Q (.bl true) H4 else Nx H4 else Nx H3)
/-- sum(elt for ..): W bears the sum so far -/
def tSumG (P : Addr) (wi : TI) (g : TG) (tt : TT) (te : TE) (vs : List Nat) : TE := fun σ H Q => wi σ H fun J H1 => TabG H1 P ∧ ∀ H2, Tabbed P H1 H2 → ∃ W : Nat → Nat → Int → Hp → Prop, (∃ m, W 0 m 0 H2) ∧ ∀ i m z H, W i m z H →
  (J.stop i H ∧ Q (.int z) H) ∨ (J.go i H ∧ ∃ Nx : Int → Hp → Prop, (∀ z' H', Nx z' H' → ∃ m', m' < m ∧ W (i + 1) m' z' H') ∧ ∀ x H', J.yld i H x H' → g x (wipe σ vs) H' fun σ2 H2 => wipe σ2 vs = wipe σ vs ∧ tt σ2 H2 fun b H3 =>
    if b = true then te σ2 H3 fun y H4 => ∃ v, y = .int v ∧ InLong v ∧ InLong (z + v) ∧ Nx (z + v) H4 else Nx z H3)
variable {c P : Addr} {elt tg iter : Expr} {ifs : List Expr} {p pos gpos : Pos} {scope : Scope} {own : List (Str × Nat)} {wi : TI} {g : TG} {tt : TT} {te : TE} {k : Nat}
theorem pe_allG (hr : Room k X.A) (hgl : Gl X "all") (hm : X.mg "all" = none) (TB : TabB X.base X.mg c P) (hcode : X.env.code = .ref c) (ok : GenOk X.N X.env.scope scope own) (hN : X.N.Nodup) (hi : PI X tg iter wi)
    (hg : ∀ (s : Shared) (H : Hp) (C : Addr) (cl : List (Str × Addr)) (cd : Value) (fp : List Addr) (pn : List (Addr × Obj)), PG (gcx X s H (genEnv scope cl C cd builtinsNs X.env) fp pn) tg g)
    (ht : ∀ (s : Shared) (H : Hp) (C : Addr) (cl : List (Str × Addr)) (cd : Value) (fp : List Addr) (pn : List (Addr × Obj)), PTs (gcx X s H (genEnv scope cl C cd builtinsNs X.env) fp pn) ifs tt)
    (he : ∀ (s : Shared) (H : Hp) (C : Addr) (cl : List (Str × Addr)) (cd : Value) (fp : List Addr) (pn : List (Addr × Obj)), PE (gcx X s H (genEnv scope cl C cd builtinsNs X.env) fp pn) elt te)
    (hs : ∀ v, genFold iter X.env v = pure v := by intro _; rfl)
    (hst : starEach [.GeneratorExp elt [⟨tg, iter, ifs, 0⟩] scope gpos] X.env = (false, eval (.GeneratorExp elt [⟨tg, iter, ifs, 0⟩] scope gpos) X.env) :: starEach [] X.env := by rfl) :
    PE X (.Call (.Name "all" p) [.GeneratorExp elt [⟨tg, iter, ifs, 0⟩] scope gpos] [] pos) (tAllG P wi g tt te (own.map (·.2))) := by
  refine ⟨fun pins s σ H Q I h => ?_⟩
  refine wpAny_Call_Name_kw (ld_blt I hgl hm boot_all ?_)
  refine PyProof.Rows.callWith_builtin1 ?_ hst (by rfl)
  rw [hst]
  show wpAny _ _ (spliced ((false, eval (.GeneratorExp elt [⟨tg, iter, ifs, 0⟩] scope gpos) X.env) :: backTo pos (starEach [] X.env))) _ _ s
  refine Calls.spliced_cons (gen_made hr TB hcode ok hN hi hs I h fun J H2 s4 s5 cenv it fp tn a gn go hR M => ?_)
  obtain ⟨W, ⟨m0, w0⟩, turn⟩ := hR
  obtain ⟨C, cd, rfl⟩ := M.env
  refine Calls.spliced_nil ?_
  refine call_function_tree F.kind_all F.plain_all F.entry_all (F.args_all1 _) ?_
  unfold Builtin.«all»
  refine wpAny_bind (m := oneArg "all" _) (wpAny_pure ?_)
  have hgen : ∀ s ip H, Inv (gcx X s4 H2 (genEnv scope (cloFrom X.env.cells scope.names []) C cd builtinsNs X.env) fp [(a, go)]) ip (wipe σ (own.map (·.2))) H s → s.heap.IsGen a gn := fun s ip H I' =>
    M.gen _ (I'.pin (a, go) (List.mem_append_left _ (List.mem_singleton.mpr rfl))).1
  have hg5 := hgen _ _ _ M.inv
  refine wpAny_bind (wpAny_pyIter_gen hg5 ?_)
  have sg := seg_first (W := fun i m _ H => W i m H) (Ip := fun _ ip => ip = []) (Sp := fun _ H => Q (.bl true) H) (Yw := fun z Nx y H => ∃ c, y = .bl c ∧ if c = true then Nx z H else Q (.bl false) H) (vs := own.map (·.2)) (σ0 := wipe σ (own.map (·.2)))
    (iter := iter) (scope := scope) (pos := gpos) (s := s5.setGen gn .running) (s₀ := s5.setGen gn .running) (m := m0) (n := m0 + 1) (z := 0) (ip := []) (H := H2) ok.co (fun z ip hip b hb q hq e => ?_) M.turn (hg s4 H2 C (cloFrom X.env.cells scope.names []) cd fp [(a, go)]) (ht s4 H2 C (cloFrom X.env.cells scope.names []) cd fp [(a, go)]) (he s4 H2 C (cloFrom X.env.cells scope.names []) cd fp [(a, go)])
    (fun i m z H w => ?_) (Nat.lt_succ_self _) ⟨w0, rfl, inv_gens M.inv (allBare_setGen M.inv.bare rfl), M.tn0, fun b hb => (M.fok b hb).1⟩ (fun p hp => absurd hp (by simp))
  · exact wpAny_pure ⟨plainId_quiet F.plain_all_loop _, all_loop (Qf := fun b H => Q (.bl b) H) hr.hd (by have := hr.dp; omega) hgen (fun _ _ h => h) (fun z Nx y H h => h) (fun b ip H s' I' q => ⟨.bl b, H, back M.i4 M.fok I', rfl, q⟩) (m0 + 1) s5 ⟨_, M.gs, rfl, sg⟩ M.inv.nolimit hg5⟩
  · subst hip
    rw [List.append_nil] at hq
    rw [List.mem_singleton.mp hq] at e
    have := M.fa b hb
    rw [← e] at this
    exact Nat.lt_irrefl _ this
  · rcases turn i m H w with h1 | ⟨go1, Nx, h2, h3⟩
    · exact .inl h1
    · exact .inr ⟨go1, fun _ H => Nx H, fun _ H' => h2 H', h3⟩
theorem pe_anyG (hr : Room k X.A) (hgl : Gl X "any") (hm : X.mg "any" = none) (TB : TabB X.base X.mg c P) (hcode : X.env.code = .ref c) (ok : GenOk X.N X.env.scope scope own) (hN : X.N.Nodup) (hi : PI X tg iter wi)
    (hg : ∀ (s : Shared) (H : Hp) (C : Addr) (cl : List (Str × Addr)) (cd : Value) (fp : List Addr) (pn : List (Addr × Obj)), PG (gcx X s H (genEnv scope cl C cd builtinsNs X.env) fp pn) tg g)
    (ht : ∀ (s : Shared) (H : Hp) (C : Addr) (cl : List (Str × Addr)) (cd : Value) (fp : List Addr) (pn : List (Addr × Obj)), PTs (gcx X s H (genEnv scope cl C cd builtinsNs X.env) fp pn) ifs tt)
    (he : ∀ (s : Shared) (H : Hp) (C : Addr) (cl : List (Str × Addr)) (cd : Value) (fp : List Addr) (pn : List (Addr × Obj)), PE (gcx X s H (genEnv scope cl C cd builtinsNs X.env) fp pn) elt te)
    (hs : ∀ v, genFold iter X.env v = pure v := by intro _; rfl)
    (hst : starEach [.GeneratorExp elt [⟨tg, iter, ifs, 0⟩] scope gpos] X.env = (false, eval (.GeneratorExp elt [⟨tg, iter, ifs, 0⟩] scope gpos) X.env) :: starEach [] X.env := by rfl) :
    PE X (.Call (.Name "any" p) [.GeneratorExp elt [⟨tg, iter, ifs, 0⟩] scope gpos] [] pos) (tAnyG P wi g tt te (own.map (·.2))) := by
  refine ⟨fun pins s σ H Q I h => ?_⟩
  refine wpAny_Call_Name_kw (ld_blt I hgl hm boot_any ?_)
  refine PyProof.Rows.callWith_builtin1 ?_ hst (by rfl)
  rw [hst]
  show wpAny _ _ (spliced ((false, eval (.GeneratorExp elt [⟨tg, iter, ifs, 0⟩] scope gpos) X.env) :: backTo pos (starEach [] X.env))) _ _ s
  refine Calls.spliced_cons (gen_made hr TB hcode ok hN hi hs I h fun J H2 s4 s5 cenv it fp tn a gn go hR M => ?_)
  obtain ⟨W, ⟨m0, w0⟩, turn⟩ := hR
  obtain ⟨C, cd, rfl⟩ := M.env
  refine Calls.spliced_nil ?_
  refine call_function_tree F.kind_any F.plain_any F.entry_any (F.args_any1 _) ?_
  unfold Builtin.«any»
  refine wpAny_bind (m := oneArg "any" _) (wpAny_pure ?_)
  have hgen : ∀ s ip H, Inv (gcx X s4 H2 (genEnv scope (cloFrom X.env.cells scope.names []) C cd builtinsNs X.env) fp [(a, go)]) ip (wipe σ (own.map (·.2))) H s → s.heap.IsGen a gn := fun s ip H I' =>
    M.gen _ (I'.pin (a, go) (List.mem_append_left _ (List.mem_singleton.mpr rfl))).1
  have hg5 := hgen _ _ _ M.inv
  refine wpAny_bind (wpAny_pyIter_gen hg5 ?_)
  have sg := seg_first (W := fun i m _ H => W i m H) (Ip := fun _ ip => ip = []) (Sp := fun _ H => Q (.bl false) H) (Yw := fun z Nx y H => ∃ c, y = .bl c ∧ if c = true then Q (.bl true) H else Nx z H) (vs := own.map (·.2)) (σ0 := wipe σ (own.map (·.2)))
    (iter := iter) (scope := scope) (pos := gpos) (s := s5.setGen gn .running) (s₀ := s5.setGen gn .running) (m := m0) (n := m0 + 1) (z := 0) (ip := []) (H := H2) ok.co (fun z ip hip b hb q hq e => ?_) M.turn (hg s4 H2 C (cloFrom X.env.cells scope.names []) cd fp [(a, go)]) (ht s4 H2 C (cloFrom X.env.cells scope.names []) cd fp [(a, go)]) (he s4 H2 C (cloFrom X.env.cells scope.names []) cd fp [(a, go)])
    (fun i m z H w => ?_) (Nat.lt_succ_self _) ⟨w0, rfl, inv_gens M.inv (allBare_setGen M.inv.bare rfl), M.tn0, fun b hb => (M.fok b hb).1⟩ (fun p hp => absurd hp (by simp))
  · exact wpAny_pure ⟨plainId_quiet F.plain_any_loop _, any_loop (Qf := fun b H => Q (.bl b) H) hr.hd (by have := hr.dp; omega) hgen (fun _ _ h => h) (fun z Nx y H h => h) (fun b ip H s' I' q => ⟨.bl b, H, back M.i4 M.fok I', rfl, q⟩) (m0 + 1) s5 ⟨_, M.gs, rfl, sg⟩ M.inv.nolimit hg5⟩
  · subst hip
    rw [List.append_nil] at hq
    rw [List.mem_singleton.mp hq] at e
    have := M.fa b hb
    rw [← e] at this
    exact Nat.lt_irrefl _ this
  · rcases turn i m H w with h1 | ⟨go1, Nx, h2, h3⟩
    · exact .inl h1
    · exact .inr ⟨go1, fun _ H => Nx H, fun _ H' => h2 H', h3⟩
theorem pe_sumG (hr : Room k X.A) (hgl : Gl X "sum") (hm : X.mg "sum" = none) (TB : TabB X.base X.mg c P) (hcode : X.env.code = .ref c) (ok : GenOk X.N X.env.scope scope own) (hN : X.N.Nodup) (hi : PI X tg iter wi)
    (hg : ∀ (s : Shared) (H : Hp) (C : Addr) (cl : List (Str × Addr)) (cd : Value) (fp : List Addr) (pn : List (Addr × Obj)), PG (gcx X s H (genEnv scope cl C cd builtinsNs X.env) fp pn) tg g)
    (ht : ∀ (s : Shared) (H : Hp) (C : Addr) (cl : List (Str × Addr)) (cd : Value) (fp : List Addr) (pn : List (Addr × Obj)), PTs (gcx X s H (genEnv scope cl C cd builtinsNs X.env) fp pn) ifs tt)
    (he : ∀ (s : Shared) (H : Hp) (C : Addr) (cl : List (Str × Addr)) (cd : Value) (fp : List Addr) (pn : List (Addr × Obj)), PE (gcx X s H (genEnv scope cl C cd builtinsNs X.env) fp pn) elt te)
    (hs : ∀ v, genFold iter X.env v = pure v := by intro _; rfl)
    (hst : starEach [.GeneratorExp elt [⟨tg, iter, ifs, 0⟩] scope gpos] X.env = (false, eval (.GeneratorExp elt [⟨tg, iter, ifs, 0⟩] scope gpos) X.env) :: starEach [] X.env := by rfl) :
    PE X (.Call (.Name "sum" p) [.GeneratorExp elt [⟨tg, iter, ifs, 0⟩] scope gpos] [] pos) (tSumG P wi g tt te (own.map (·.2))) := by
  refine ⟨fun pins s σ H Q I h => ?_⟩
  refine wpAny_Call_Name_kw (ld_blt I hgl hm boot_sum ?_)
  refine PyProof.Rows.callWith_builtin1 ?_ hst (by rfl)
  rw [hst]
  show wpAny _ _ (spliced ((false, eval (.GeneratorExp elt [⟨tg, iter, ifs, 0⟩] scope gpos) X.env) :: backTo pos (starEach [] X.env))) _ _ s
  refine Calls.spliced_cons (gen_made hr TB hcode ok hN hi hs I h fun J H2 s4 s5 cenv it fp tn a gn go hR M => ?_)
  obtain ⟨W, ⟨m0, w0⟩, turn⟩ := hR
  obtain ⟨C, cd, rfl⟩ := M.env
  refine Calls.spliced_nil ?_
  refine call_function_tree F.kind_sum F.plain_sum F.entry_sum (F.args_sum1 _) ?_
  unfold Builtin.«sum»
  simp only [List.length_cons, List.length_nil]
  rw [if_neg (by decide)]
  refine wpAny_bind (wpAny_of_eq (show Builtin.Builtins.bindParams "sum" ["start"] 0 { } = pure [none] from rfl) ?_)
  have hgen : ∀ s ip H, Inv (gcx X s4 H2 (genEnv scope (cloFrom X.env.cells scope.names []) C cd builtinsNs X.env) fp [(a, go)]) ip (wipe σ (own.map (·.2))) H s → s.heap.IsGen a gn := fun s ip H I' =>
    M.gen _ (I'.pin (a, go) (List.mem_append_left _ (List.mem_singleton.mpr rfl))).1
  have hg5 := hgen _ _ _ M.inv
  refine wpAny_bind (wpAny_pyIter_gen hg5 ?_)
  refine wpAny_bind (wpAny_mkInt ?_)
  refine wpAny_bind (wpAny_pure ?_)
  simp only [List.forIn_cons, List.forIn_nil]
  refine wpAny_bind (wpAny_bind (wpAny_bind (wpAny_isInstance (T := "int") (b := false) (typeIs_int _ _ _) PySem.sub_int_str ?_)))
  simp only [Bool.false_eq_true, if_false]
  refine wpAny_pure (wpAny_bind (wpAny_bind (wpAny_isInstance (T := "int") (b := false) (typeIs_int _ _ _) PySem.sub_int_bytes ?_)))
  simp only [Bool.false_eq_true, if_false]
  refine wpAny_pure (wpAny_bind (wpAny_bind (wpAny_isInstance (T := "int") (b := false) (typeIs_int _ _ _) PySem.sub_int_bytearray ?_)))
  simp only [Bool.false_eq_true, if_false]
  refine wpAny_pure (wpAny_pure ?_)
  refine wpAny_bind (wpAny_newObj_type ?_)
  have Sz : s4.heap.objs.size ≤ s5.heap.objs.size := M.inv.sz
  have hSfp : s5.heap.objs.size ∉ fp := fun hm => by
    have h1 := M.fa _ hm
    have h2 := M.lt
    exact absurd (Nat.lt_trans h1 h2) (Nat.lt_irrefl _)
  have I6 : Inv (gcx X s4 H2 (genEnv scope (cloFrom X.env.cells scope.names []) C cd builtinsNs X.env) fp [(a, go)]) [(s5.heap.objs.size, accObj 0 s5.toks 0)] (wipe σ (own.map (·.2))) H2 { s5 with heap := s5.heap.push (accObj 0 s5.toks 0), toks := s5.toks + 1 } := by
    have I0 : Inv (gcx X s4 H2 (genEnv scope (cloFrom X.env.cells scope.names []) C cd builtinsNs X.env) fp [(a, go)]) [] (wipe σ (own.map (·.2))) H2 { s5 with heap := s5.heap.push (accObj 0 s5.toks 0), toks := s5.toks + 1 } := M.inv.kept fun b o e => Heap.get?_push_of_some _ e
    refine I0.pins_of fun p hp => ?_
    rw [List.mem_singleton.mp hp]
    have fk := M.inv.fpOk (Nat.le_refl _) (M.inv.hok.fresh (Nat.le_refl _))
    exact ⟨Heap.get?_push_size _ rfl, fk.1, fk.2.1, fk.2.2.1, fun v q => by cases q⟩
  generalize hs6 : ({ s5 with heap := s5.heap.push (accObj 0 s5.toks 0), toks := s5.toks + 1 } : Shared) = s6 at I6
  have hS6 : s6.heap.get? s5.heap.objs.size = some (accObj 0 s5.toks 0) := (I6.pin (s5.heap.objs.size, accObj 0 s5.toks 0) (List.mem_append_right _ (List.mem_singleton.mpr rfl))).1
  have gs6 : s6.gens = s5.gens := by rw [← hs6]
  have st6 : tn 0 s6.heap := M.turn.keep _ _ _ M.tn0 fun b _ o e => by rw [← hs6]; exact Heap.get?_push_of_some _ e
  have sg := seg_first (W := W) (Ip := IpSum s5.heap.objs.size) (Sp := fun z H => Q (.int z) H) (Yw := fun z Nx y H => ∃ v, y = .int v ∧ InLong v ∧ InLong (z + v) ∧ Nx (z + v) H) (vs := own.map (·.2)) (σ0 := wipe σ (own.map (·.2)))
    (iter := iter) (scope := scope) (pos := gpos) (s := s6.setGen gn .running) (s₀ := s6.setGen gn .running) (m := m0) (n := m0 + 1) (z := 0) (ip := [(s5.heap.objs.size, accObj 0 s5.toks 0)]) (H := H2) ok.co (fun z ip hip b hb q hq e => ?_) M.turn (hg s4 H2 C (cloFrom X.env.cells scope.names []) cd fp [(a, go)]) (ht s4 H2 C (cloFrom X.env.cells scope.names []) cd fp [(a, go)]) (he s4 H2 C (cloFrom X.env.cells scope.names []) cd fp [(a, go)])
    (show Turns J g tt te (wipe σ (own.map (·.2))) (own.map (·.2)) W (fun z H => Q (.int z) H) (fun z Nx y H => ∃ v, y = .int v ∧ InLong v ∧ InLong (z + v) ∧ Nx (z + v) H) from turn) (Nat.lt_succ_self _) ⟨w0, ⟨_, _, rfl⟩, inv_gens I6 (allBare_setGen I6.bare rfl), st6, fun b hb => (M.fok b hb).1⟩ (fun p hp => by rw [List.mem_singleton.mp hp]; exact hS6)
  · refine wpAny_pure ⟨plainId_quiet F.plain_sum_loop _, ?_⟩
    exact sum_loop (W := W) (S := s5.heap.objs.size) (a := a) (Qf := fun z H => Q (.int z) H) hr.hd (by have := hr.dp; omega) hgen hSfp (fun p hp e => by
        rw [List.mem_singleton.mp hp] at e
        have h2 := M.lt
        rw [show a = s5.heap.objs.size from e] at h2
        exact Nat.lt_irrefl _ h2) Sz M.turn.keep (fun _ _ h => h) (fun z Nx y H h => h) (fun z t ip H s' I' q => ⟨.int z, H, back M.i4 M.fok I', ⟨t, rfl⟩, q⟩) (m0 + 1) s6 0 s5.toks 0 hS6 ⟨.fresh _, by rw [gs6]; exact M.gs, rfl, sg⟩ I6.nolimit (hgen _ _ _ I6)
  · obtain ⟨t, c, rfl⟩ := hip
    rcases List.mem_append.mp hq with hq | hq
    · rw [List.mem_singleton.mp hq] at e
      have := M.fa b hb
      rw [← e] at this
      exact Nat.lt_irrefl _ this
    · rw [List.mem_singleton.mp hq] at e
      exact hSfp (by rw [show s5.heap.objs.size = b from e]; exact hb)
end
end GX

namespace GE
open PySem PySem.Spec PyProof.Rows L2
open AutoSeq1 (wpAny_loadPart')
theorem enum_newT (l : Addr) (items : Array Value) (n : Nat) (dct : Option Addr) (sl : Array (Option Value)) :
    Meets (Builtin.«enumerate.__new__» ⟨[.type "enumerate", .ref l], []⟩) (fun _ R s => s.heap.get? l = some { cls := .type "tuple", dict := dct, data := .seq items n, slots := sl } ∧
      R (.ok (.ret (.ref (s.heap.push { cls := .type "tuple_iterator", data := .fields #[.ref l, .int 0 0] }).objs.size)))
        { s with heap := (s.heap.push { cls := .type "tuple_iterator", data := .fields #[.ref l, .int 0 0] }).push { cls := .type "enumerate", data := .fields #[.none, .bool false, .ref s.heap.objs.size, rawInt 0, .none, .none] } }) :=
  .of_wp fun prog w A R s h => by
    obtain ⟨hp, g, d, tk, os⟩ := s; obtain ⟨hl, h⟩ := h
    have hsub := sub_enumerate
    have hL : Heap.IsTuple (Shared.heap ⟨hp, g, d, tk, os⟩) l items := ⟨_, hl, rfl, n, rfl⟩
    wp_walk using wpAny_loadPart' hl
    refine wpAny_stack_any fun st => wpAny_pure ?_
    split
    · rename_i c _ _ _ _ _
      cases (c == Value.type "enumerate")
      · wp_walk using wpAny_loadPart' hl, wpAny_pyIter_tuple hL
        exact ⟨_, rfl, h⟩
      · wp_walk using wpAny_loadPart' hl, wpAny_pyIter_tuple hL
        exact ⟨_, rfl, h⟩
    · wp_walk using wpAny_loadPart' hl, wpAny_pyIter_tuple hL
      exact ⟨_, rfl, h⟩

section
variable {prog : Program} {w : World} {A : Around} {E : Value → Shared → Prop} {s : Shared}
theorem enum_callT {l : Addr} {items : Array Value} {Q : Value → Shared → Prop} (hL : s.heap.IsTuple l items)
    (h : ∀ h', IsEnum h' (s.heap.objs.size + 1) s.heap.objs.size 0 .none → h'.IsTupleIter s.heap.objs.size l 0 → h'.objs.size = s.heap.objs.size + 2 →
      (∀ b o, s.heap.get? b = some o → h'.get? b = some o) → Q (.ref (s.heap.objs.size + 1)) { s with heap := h' }) :
    wpAny (model prog w) A (call (.type "enumerate") [.ref l]) Q E s := by
  obtain ⟨⟨c, dct, dt, sl⟩, hl, hc, n, hd⟩ := hL
  replace hc : c = .type "tuple" := hc
  replace hd : dt = .seq items n := hd
  subst hc hd
  refine callType_new F.called_enumerate (by decide) (F.typeCall_enumerate_1 _) (F.newCall_enumerate_1 _) (fun obj => F.args_object_init_2 obj _) F.entry_enumerate_new
    (enum_newT l items n dct sl) ⟨hl, ?_⟩
  have hz : (s.heap.push { cls := .type "tuple_iterator", data := .fields #[.ref l, .int 0 0] }).objs.size = s.heap.objs.size + 1 := Heap.size_push ..
  show _ ∧ _
  rw [hz]
  have he : IsEnum ((s.heap.push { cls := .type "tuple_iterator", data := .fields #[.ref l, .int 0 0] }).push
      { cls := .type "enumerate", data := .fields #[.none, .bool false, .ref s.heap.objs.size, rawInt 0, .none, .none] }) (s.heap.objs.size + 1) s.heap.objs.size 0 .none := by
    have := Heap.get?_push_size (s.heap.push { cls := .type "tuple_iterator", data := .fields #[.ref l, .int 0 0] })
      (o := { cls := .type "enumerate", data := .fields #[.none, .bool false, .ref s.heap.objs.size, rawInt 0, .none, .none] }) rfl
    rw [hz] at this; exact this
  refine ⟨⟨_, he, rfl⟩, h _ he ⟨_, Heap.get?_push_of_some _ (Heap.get?_push_size _ rfl), rfl, rfl⟩ (by rw [Heap.size_push, hz]) fun b o x => Heap.get?_push_of_some _ (Heap.get?_push_of_some _ x)⟩

theorem nextOf_tup {it l : Addr} {i : Nat} {items} {x : Value} {Q : Value → Shared → Prop} (hit : s.heap.IsTupleIter it l i)
    (hl : s.heap.IsTuple l items) (hx : items[i]? = some x)
    (hQ : ∀ h', h'.IsTupleIter it l (i + 1) → Heap.SameBut it s.heap h' → Q x { s with heap := h' }) :
    wpAny (model prog w) A (Builtin.SmallTypes.nextOf (.ref it)) Q E s := by
  obtain ⟨o, ho, hc, hd⟩ := id hit
  obtain ⟨ol, hol, _, nl, hdl⟩ := hl
  unfold Builtin.SmallTypes.nextOf
  refine wpAny_bind (wpAny_callSpecial?_slot (name := Str.ofString "__next__") hit.typeIs F.slot_tuple_iterator_next
    (wpAny_call_entry F.slot_tuple_iterator_next hit.typeIs F.entry_tuple_iterator_next ?_ (F.args_tuple_iterator_next_1 _)))
  show wpAny _ _ (field (.ref it) 0 >>= _) _ _ s
  refine wpAny_bind (wpAny_field ho hd (x := .ref l) rfl ?_)
  show wpAny _ _ (if (Value.ref l == Value.none) = true then _ else _) _ _ s
  rw [if_neg (show ¬ ((Value.ref l == Value.none) = true) from Bool.false_ne_true)]
  show wpAny _ _ (field (.ref it) 1 >>= _) _ _ s
  refine wpAny_bind (wpAny_field ho hd (x := .int i 0) rfl ?_)
  show wpAny _ _ (seqItems? (.ref l) >>= _) _ _ s
  refine wpAny_bind (wpAny_seqItems hol hdl ?_)
  simp only [Int.toNat_natCast, hx]
  refine wpAny_bind (wpAny_setField ho hd (by simp) (wpAny_pure ⟨x, rfl, wpAny_pure (hQ _ ?_ (Heap.SameBut.update ..))⟩))
  exact ⟨_, Heap.get?_update_self _ ho (Obj.isFreed_of_fields (Obj.data_mapFields hd _)), (Obj.cls_mapFields ..).trans hc, by
    rw [Obj.data_mapFields hd]; simp [rawInt]⟩

theorem nextOf_tupEnd {it l : Addr} {i : Nat} {items} {Q : Value → Shared → Prop} (hh : A.handled = none)
    (hit : s.heap.IsTupleIter it l i) (hl : s.heap.IsTuple l items) (hx : items[i]? = none)
    (hE : ∀ h' e, Heap.ExtBut it s.heap h' → (∃ o, h'.get? e = some o ∧ o.cls = .type "StopIteration") → E (.ref e) { s with heap := h' }) :
    wpAny (model prog w) A (Builtin.SmallTypes.nextOf (.ref it)) Q E s := by
  obtain ⟨o, ho, hc, hd⟩ := id hit
  obtain ⟨ol, hol, _, nl, hdl⟩ := hl
  unfold Builtin.SmallTypes.nextOf
  refine wpAny_bind (wpAny_callSpecial?_slot (name := Str.ofString "__next__") hit.typeIs F.slot_tuple_iterator_next
    (wpAny_call_entry F.slot_tuple_iterator_next hit.typeIs F.entry_tuple_iterator_next ?_ (F.args_tuple_iterator_next_1 _)))
  show wpAny _ _ (field (.ref it) 0 >>= _) _ _ s
  refine wpAny_bind (wpAny_field ho hd (x := .ref l) rfl ?_)
  show wpAny _ _ (if (Value.ref l == Value.none) = true then _ else _) _ _ s
  rw [if_neg (show ¬ ((Value.ref l == Value.none) = true) from Bool.false_ne_true)]
  show wpAny _ _ (field (.ref it) 1 >>= _) _ _ s
  refine wpAny_bind (wpAny_field ho hd (x := .int i 0) rfl ?_)
  show wpAny _ _ (seqItems? (.ref l) >>= _) _ _ s
  refine wpAny_bind (wpAny_seqItems hol hdl ?_)
  simp only [Int.toNat_natCast, hx]
  refine wpAny_bind (wpAny_rule (wpAny_bind (wpAny_setField ho hd (by simp) ?_)))
  show wpAny _ _ (newExc (.type "StopIteration") [] >>= _) _ _ _
  refine wpAny_bind ?_
  simp only [newExc, newTuple]
  refine wpAny_bind (wpAny_newObj_type ?_ (by size_fits))
  refine wpAny_bind (m := firstArgMember _ _) (wpAny_of_eq (a := Value.none) (by first | rfl | (simp only [firstArgMember]; rfl)) ?_)
  refine wpAny_newObj_type ?_ (by size_fits)
  simp only [raiseNew]
  refine wpAny_bind (wpAny_handled ?_)
  first | rw [show A.in1.handled = none from hh] | rw [hh]
  refine wpAny_bind (wpAny_pure (wpAny_throw ?_))
  exact hE _ _ (((Heap.SameBut.update ..).extBut.push _).push _) ⟨_, Heap.get?_push_size _ rfl, rfl⟩

theorem enum_nextT {e it l : Addr} {i : Nat} {items : Array Value} {x old : Value} {Q : Value → Shared → Prop}
    (he : IsEnum s.heap e it i old) (hit : s.heap.IsTupleIter it l i) (hl : s.heap.IsTuple l items) (hx : items[i]? = some x) (hne : e ≠ it)
    (hQ : ∀ h', IsEnumOut h' e it ((i : Int) + 1) x s.heap.objs.size → h'.IsTupleIter it l (i + 1) →
      h'.get? s.heap.objs.size = some { cls := .type "tuple", data := .seq #[.int i s.toks, x] } → h'.objs.size = s.heap.objs.size + 1 →
      (∀ b o, b ≠ e → b ≠ it → s.heap.get? b = some o → h'.get? b = some o) → Q (.ref s.heap.objs.size) { s with heap := h', toks := s.toks + 1 }) :
    wpAny (model prog w) A (Builtin.«enumerate.__next__» ⟨[.ref e], []⟩) (fun fin s' => ∃ v, fin = .done (.ret v) ∧ Q v s') E s := by
  obtain ⟨hp, g, d, tk, os⟩ := s
  show wpAny _ _ (field (.ref e) 2 >>= _) _ _ _
  refine wpAny_bind (wpAny_field he rfl (x := .ref it) rfl ?_)
  refine wpAny_bind (nextOf_tup hit hl hx fun h₁ hit₁ hs₁ => ?_)
  replace hs₁ : Heap.SameBut it hp h₁ := hs₁
  have he₁ : IsEnum h₁ e it i old := (hs₁.2 e hne).trans he
  show wpAny _ _ (field (.ref e) 3 >>= _) _ _ ⟨h₁, g, d, tk, os⟩
  refine wpAny_bind (wpAny_field he₁ rfl (x := rawInt i) rfl ?_)
  show wpAny _ _ (field (.ref e) 4 >>= _) _ _ ⟨h₁, g, d, tk, os⟩
  refine wpAny_bind (wpAny_field he₁ rfl (x := .none) rfl ?_)
  show wpAny _ _ (mkInt i >>= _) _ _ ⟨h₁, g, d, tk, os⟩
  refine wpAny_bind (wpAny_mkInt ?_)
  show wpAny _ _ (setField (.ref e) 3 (rawInt ((i : Int) + 1)) >>= _) _ _ ⟨h₁, g, d, tk + 1, os⟩
  refine wpAny_bind (wpAny_setField_rec he₁ (by simp) fun h₂ he₂ hs₂ => ?_)
  replace hs₂ : Heap.SameBut e h₁ h₂ := hs₂
  replace he₂ : IsEnum h₂ e it ((i : Int) + 1) old := he₂
  show wpAny _ _ (setField (.ref e) 4 .none >>= _) _ _ ⟨h₂, g, d, tk + 1, os⟩
  refine wpAny_bind (wpAny_setField_rec he₂ (by simp) fun h₃ he₃ hs₃ => ?_)
  replace hs₃ : Heap.SameBut e h₂ h₃ := hs₃
  replace he₃ : IsEnum h₃ e it ((i : Int) + 1) old := he₃
  show wpAny _ _ (newTuple [.int i tk, x] >>= _) _ _ ⟨h₃, g, d, tk + 1, os⟩
  refine wpAny_bind (wpAny_newTuple ?_)
  have he₄ : IsEnum (h₃.push { cls := .type "tuple", data := .seq #[.int i tk, x] }) e it ((i : Int) + 1) old := Heap.get?_push_of_some _ he₃
  generalize hh₄ : h₃.push { cls := .type "tuple", data := .seq #[.int i tk, x] } = h₄ at he₄
  have hsz : h₃.objs.size = hp.objs.size := by rw [hs₃.1, hs₂.1, hs₁.1]
  have hel : e < hp.objs.size := Heap.lt_size he
  have ht₄ : h₄.get? hp.objs.size = some { cls := .type "tuple", data := .seq #[.int i tk, x] } := by rw [← hh₄, ← hsz]; exact Heap.get?_push_size _ rfl
  have hz₄ : h₄.objs.size = hp.objs.size + 1 := by rw [← hh₄, Heap.size_push, hsz]
  have hk₄ : ∀ b o, b ≠ e → b ≠ it → hp.get? b = some o → h₄.get? b = some o := fun b o hbe hbi hb => by
    rw [← hh₄]; exact Heap.get?_push_of_some _ (hs₃.extBut b o hbe (hs₂.extBut b o hbe (hs₁.extBut b o hbi hb)))
  have hit₄ : h₄.IsTupleIter it l (i + 1) := by
    rw [← hh₄]; obtain ⟨o, ho, r⟩ := (hit₁.extBut hs₂.extBut (Ne.symm hne)).extBut hs₃.extBut (Ne.symm hne); exact ⟨o, Heap.get?_push_of_some _ ho, r⟩
  show wpAny _ _ (Builtin.SmallTypes.ownedTupleIsFree (.ref e) >>= _) _ _ ⟨h₄, g, d, tk + 1, os⟩
  rw [hsz]
  clear hh₄ he₃ hs₃ he₂ hs₂ he₁ hs₁ hit₁ hsz h₃ h₂ h₁
  refine wpAny_bind ?_
  · unfold Builtin.SmallTypes.ownedTupleIsFree
    refine wpAny_bind (wpAny_field he₄ rfl (x := .none) rfl (wpAny_pure ?_))
    simp only [if_true]
    refine wpAny_bind (wpAny_rule ?_)
    refine wpAny_bind (wpAny_field he₄ rfl (x := old) rfl ?_)
    refine wpAny_bind (wpAny_setField_rec he₄ (by simp) fun h₅ he₅ hs₅ => ?_)
    replace hs₅ : Heap.SameBut e h₄ h₅ := hs₅
    replace he₅ : IsEnum h₅ e it ((i : Int) + 1) x := he₅
    show wpAny _ _ (Builtin.SmallTypes.ownedTupleHandOut (.ref e) (.ref hp.objs.size) >>= _) _ _ ⟨h₅, g, d, tk + 1, os⟩
    refine wpAny_bind ?_
    · unfold Builtin.SmallTypes.ownedTupleHandOut
      refine wpAny_bind (wpAny_setField_rec he₅ (by simp) fun h₆ he₆ hs₆ => ?_)
      replace hs₆ : Heap.SameBut e h₅ h₆ := hs₆
      replace he₆ : IsEnumOut h₆ e it ((i : Int) + 1) x hp.objs.size := he₆
      refine wpAny_setField_rec he₆ (by simp) fun h₇ he₇ hs₇ => ?_
      replace hs₇ : Heap.SameBut e h₆ h₇ := hs₇
      replace he₇ : IsEnumOut h₇ e it ((i : Int) + 1) x hp.objs.size := he₇
      refine wpAny_bind (wpAny_letGo (wpAny_pure ⟨_, rfl, hQ h₇ he₇ ?_ ?_ ?_ ?_⟩))
      · exact ((hit₄.extBut hs₅.extBut (Ne.symm hne)).extBut hs₆.extBut (Ne.symm hne)).extBut hs₇.extBut (Ne.symm hne)
      · exact hs₇.extBut _ _ (Nat.ne_of_gt hel) (hs₆.extBut _ _ (Nat.ne_of_gt hel) (hs₅.extBut _ _ (Nat.ne_of_gt hel) ht₄))
      · rw [hs₇.1, hs₆.1, hs₅.1, hz₄]
      · exact fun b o hbe hbi hb => hs₇.extBut b o hbe (hs₆.extBut b o hbe (hs₅.extBut b o hbe (hk₄ b o hbe hbi hb)))

theorem enum_itemT {e it l : Addr} {i : Nat} {items : Array Value} {x old : Value} {Q : Option Value → Shared → Prop}
    (he : IsEnum s.heap e it i old) (hit : s.heap.IsTupleIter it l i) (hl : s.heap.IsTuple l items) (hx : items[i]? = some x) (hne : e ≠ it)
    (hQ : ∀ h', IsEnumOut h' e it ((i : Int) + 1) x s.heap.objs.size → h'.IsTupleIter it l (i + 1) →
      h'.get? s.heap.objs.size = some { cls := .type "tuple", data := .seq #[.int i s.toks, x] } → h'.objs.size = s.heap.objs.size + 1 →
      (∀ b o, b ≠ e → b ≠ it → s.heap.get? b = some o → h'.get? b = some o) → Q (some (.ref s.heap.objs.size)) { s with heap := h', toks := s.toks + 1 }) :
    wpAny (model prog w) A (pyNext (.ref e)) Q E s := by
  have hT : s.TypeIs (.ref e) "enumerate" := ⟨_, he, rfl⟩
  unfold pyNext
  exact wpAny_bind (wpAny_attempt (wpAny_callSpecial?_slot (name := Str.ofString "__next__") hT F.slot_enumerate_next
    (wpAny_call_entry F.slot_enumerate_next hT F.entry_enumerate_next
      (enum_nextT he hit hl hx hne fun h' a b c d k => wpAny_pure (hQ h' a b c d k)) (F.args_enumerate_next_1 _))))

theorem enum_endT {e it l : Addr} {i : Nat} {items : Array Value} {old : Value} {Q : Option Value → Shared → Prop} (hh : A.handled = none)
    (he : IsEnum s.heap e it i old) (hit : s.heap.IsTupleIter it l i) (hl : s.heap.IsTuple l items) (hx : items[i]? = none)
    (hQ : ∀ h', Heap.ExtBut it s.heap h' → Q none { s with heap := h' }) : wpAny (model prog w) A (pyNext (.ref e)) Q E s := by
  have hT : s.TypeIs (.ref e) "enumerate" := ⟨_, he, rfl⟩
  unfold pyNext
  refine wpAny_bind (wpAny_attempt (wpAny_callSpecial?_slot (name := Str.ofString "__next__") hT F.slot_enumerate_next
    (wpAny_call_entry F.slot_enumerate_next hT F.entry_enumerate_next ?_ (F.args_enumerate_next_1 _))))
  show wpAny _ _ (field (.ref e) 2 >>= _) _ _ _
  refine wpAny_bind (wpAny_field he rfl (x := .ref it) rfl ?_)
  refine wpAny_bind (nextOf_tupEnd hh hit hl hx fun h' x he' hx' => ?_)
  obtain ⟨o, ho, hc⟩ := hx'
  refine wpAny_bind (wpAny_isInstance (T := "StopIteration") (b := true) ⟨o, ho, hc⟩ isSubtype_stop ?_)
  exact wpAny_pure (hQ _ he')
end
def IteT (K : PySem.W.Frag) (a : Addr) : It :=
  ⟨fun i H => ∃ (xs : List V) (x : V), SqT K H a xs ∧ xs[i]? = some x, fun i H v H' => ∃ T x, v = .ref T ∧ H T = none ∧ H' = upd H T (.tup [.int (i : Nat), x]) ∧ ∀ xs, SqT K H a xs → xs[i]? = some x, fun i H => ∃ xs : List V, SqT K H a xs ∧ xs.length ≤ i⟩
theorem turn_enumT {P : Program} {w : World} {K : PySem.W.Frag} {elts : List Expr} {kk : Nat} {tpos : Pos} (a e it : Addr) :
    Turn P w K (.Tuple elts kk tpos) (IteT K a) [e, it] e (fun i h => (∃ old, IsEnum h e it ((i : Nat) : Int) old) ∧ h.IsTupleIter it a i ∧ e ≠ it) where
  mem := by simp
  obj := fun i h st b hb => by
    obtain ⟨⟨old, he⟩, ⟨o, ho, hc, hd⟩, _⟩ := st
    have e' : b = e ∨ b = it := by simpa using hb
    rcases e' with z | z
    · rw [z]; exact ⟨_, he, fun v q => nomatch q⟩
    · rw [z]; exact ⟨o, ho, fun v q => by rw [hd] at q; cases q⟩
  keep := fun i h h' st k => let ⟨⟨old, he⟩, hi, hne⟩ := st; ⟨⟨old, k e (by simp) _ he⟩, hi.at fun o q => k it (by simp) o q, hne⟩
  item := by
    intro X hP hw hK hc i pins s σ H E I hf st hg
    subst hP hw hK
    obtain ⟨⟨old, he⟩, hit, hne⟩ := st
    obtain ⟨xs, x, hq, hx⟩ := hg
    obtain ⟨its, rv, p, hz⟩ := I.tuple hq
    obtain ⟨u, hu, ru⟩ := rv.get hx
    have hel : e < s.heap.objs.size := Heap.lt_size he
    have hil : it < s.heap.objs.size := by obtain ⟨_, q, _⟩ := hit; exact Heap.lt_size q
    refine enum_itemT he hit (show Heap.IsTuple _ _ _ from p) (x := u) (by simpa using hu) hne fun h' ho hit' hT hsz hk => ?_
    refine ⟨_, rfl, wpAny_letOwnedTupleGo_enum (s := { s with heap := h', toks := s.toks + 1 }) ho fun h'' he' sb => ?_⟩
    have hT2 : h''.get? s.heap.objs.size = some { cls := .type "tuple", data := .seq #[.int i s.toks, u] } := (sb.2 _ (Nat.ne_of_gt hel)).trans hT
    have new : ObjOk X.prog X.w (upd H s.heap.objs.size (.tup [.int (i : Nat), x])) h'' s.heap.objs.size (.tup [.int (i : Nat), x]) :=
      ⟨by show 2 ≤ sizeLine; decide, [.int i s.toks, u], .cons ⟨_, rfl⟩ (.cons ru .nil), ⟨_, hT2, rfl, _, rfl⟩⟩
    have I1 : Inv X pins σ (upd H s.heap.objs.size (.tup [.int (i : Nat), x])) { s with heap := h'', toks := s.toks + 1 } :=
      I.turnedNew (ch := [e, it]) (fun b ob hb q => (sb.2 b (fun z => hb (by simp [z]))).trans (hk b ob (fun z => hb (by simp [z])) (fun z => hb (by simp [z])) q)) hf (Nat.le_refl _) new
    refine ⟨.ref s.heap.objs.size, _, I1, rfl, ⟨_, x, rfl, I.hok.fresh (Nat.le_refl _), rfl, fun ys hy => by rw [I.tuple_inj hy hq]; exact hx⟩, ⟨⟨u, ?_⟩, hit'.at fun o q => (sb.2 it (Ne.symm hne)).trans q, hne⟩, fun b hb => ?_⟩
    · have e1 : ((i + 1 : Nat) : Int) = (i : Int) + 1 := by omega
      rw [e1]; exact he'
    · have hb' : b < s.heap.objs.size := by
        have e' : b = e ∨ b = it := by simpa using hb
        rcases e' with z | z
        · rw [z]; exact hel
        · rw [z]; exact hil
      rw [upd_ne (Nat.ne_of_lt hb')]
      exact (hf b hb).1
  done := by
    intro X hP hw hK hc i pins s σ H E I hf st hg
    subst hP hw hK
    obtain ⟨⟨old, he⟩, hit, hne⟩ := st
    obtain ⟨xs, hq, hx⟩ := hg
    obtain ⟨its, rv, p, hz⟩ := I.tuple hq
    obtain ⟨f0, f1, f2, f3, f4, f5⟩ := hf it (by simp)
    have hl := rv.length
    exact enum_endT (I.ok.hd hc) he hit (show Heap.IsTuple _ _ _ from p) (by simp; omega) fun h' eb => ⟨rfl, I.turned (t' := s.toks) (fun b o hb q => eb b o hb q) f0 f1 f3 f4 f5⟩
  self := fun A i s Q E st h => let ⟨⟨_, he⟩, _⟩ := st; wpAny_pyIter_enum he h
def iEnumT (K : PySem.W.Frag) (ta : TA) : TI := fun σ H R => ta σ H fun vs H1 => ∃ a xs, vs = [.ref a] ∧ SqT K H1 a xs ∧ R (IteT K a) H1
theorem pi_enumT {X : Cx} {e : Expr} {ta : TA} {p pos tpos : Pos} {elts : List Expr} {kk : Nat} (hg : Gl X "enumerate") (hm : X.mg "enumerate" = none) (ha : PA X [e] ta) (hs : starEach [e] X.env = [(false, eval e X.env)] := by rfl) :
    PI X (.Tuple elts kk tpos) (.Call (.Name "enumerate" p) [e] [] pos) (iEnumT X.K ta) := by
  refine ⟨fun pins s σ H R I h => ?_⟩
  refine Call_ (ld_blt I hg hm boot_enumerate (PyProof.Rows.callWith_type1 (thn (ha.run pos pins s σ H _ I h) fun us s1 ⟨vs, H1, I1, r1, q1⟩ => ?_) hs rfl))
  obtain ⟨a, xs, ex, hq, q⟩ := q1
  subst ex
  cases r1 with
  | cons r rr =>
    cases rr
    cases r
    obtain ⟨its, rv, p', hz⟩ := I1.tuple hq
    refine enum_callT (show Heap.IsTuple _ _ _ from p') fun h' he hit hsz hk => wpAny_pyIter_enum he ?_
    have I2 : Inv X pins σ H1 { s1 with heap := h' } := I1.kept (t' := s1.toks) hk
    refine ⟨s1.heap.objs.size + 1, [s1.heap.objs.size + 1, s1.heap.objs.size], _, _, H1, rfl, I2, turn_enumT a (s1.heap.objs.size + 1) s1.heap.objs.size, ⟨⟨.none, he⟩, hit, Nat.succ_ne_self _⟩, fun b hb => ?_, q⟩
    have e' : b = s1.heap.objs.size + 1 ∨ b = s1.heap.objs.size := by simpa using hb
    have hle : s1.heap.objs.size ≤ b := by
      rcases e' with z | z
      · rw [z]; exact Nat.le_add_right _ _
      · rw [z]; exact Nat.le_refl _
    exact I1.fpOk hle (I1.hok.fresh hle)
end GE

namespace GX
open PySem PySem.Spec PyProof.Rows L2 GxR GenW
/-! ### small rules -/
def genOkB (N : List Str) (sc scope : Scope) (own : List (Str × Nat)) : Bool :=
  decide (scope.kind = .function) && (decide (scope.isCoroutine = false) && (scope.names.all (fun y => decide (scope.names.lookup y.1 = some y.2)) && (scope.names.all (fun y => decide (y.2 ≠ .cell)) && (decide (scope.names.lookup (".0" : Str) = some NameKind.local) &&
    (own.all (fun p => decide (N[p.2]? = some p.1)) && (scope.names.all (fun y => decide (y.2 ≠ .free) || (decide (sc.names.lookup y.1 = some .cell) || decide (sc.names.lookup y.1 = some .free))) && scope.names.all (fun y => decide (y.2 ≠ .local) || (decide (y.1 ∈ own.map (·.1)) || decide (y.1 ∉ N)))))))))
theorem genOk_by {N : List Str} {sc scope : Scope} {own : List (Str × Nat)} (h : genOkB N sc scope own = true) : GenOk N sc scope own := by
  unfold genOkB at h
  simp only [Bool.and_eq_true, List.all_eq_true, decide_eq_true_eq, Bool.or_eq_true] at h
  obtain ⟨h1, h2, h3, h4, h5, h6, h7, h8⟩ := h
  exact ⟨h1, h2, h3, h4, h5, h6, fun y hy e => (h7 y hy).elim (fun z => absurd e z) id, fun y hy e => (h8 y hy).elim (fun z => absurd e z) id⟩
theorem okT {CX : CXT} {P : Program} {w : World} {K : PySem.W.Frag} {mg : Str → Option Value} {base : Heap} {x qual : Str} {params : Arguments} {body : List Stmt} {scope : Scope} {dvs : List V} {kws : List (Str × V)} {f c : Addr} {fd : FuncData} {N ps : List Str} {k : Nat} {sp : Sp}
    (F : FunD K x qual params body scope dvs kws f fd) (hc : fd.code = .ref c) (S : FnScope N ps scope) (len : ∀ vs H Q E, sp vs H Q E → vs.length = ps.length)
    (hbody : ∀ (A : Around) (outer : List Env) (s : Shared) (H : Hp) (vs : List V) (Q : VK) (E : XK), Room k (A.deeper (envOfC qual scope s.heap.objs.size f (.ref c))) → sp vs H Q E →
      ∃ t, PSs (cxOf CX P w K mg base N qual scope f (.ref c) A outer s H E) body t ∧ t { nx := fun _ H' => Q .non H', rt := Q } (start N vs) H) : FnOk P w K mg base CX (k + 1) f fd ps sp := by
  obtain ⟨oc, od, dV, kV, doc, pm, an, cdv, ct, osl, rfl, lk, hcd, _, _⟩ := F.ex
  have e : cdv = .ref c := hc
  subst e
  exact fn_of lk hcd S len fun A outer s H vs Q E hr hsp => hbody A outer s H vs Q E hr hsp
/-- t[lo:hi], the whole of it too -/
def rSlTA (K : PySem.W.Frag) : V → Option Int → Option Int → Hp → VK → Prop := fun x lo hi H Q => ∃ a xs, x = .ref a ∧ SqT K H a xs ∧
  ((HT.sIx xs.length 0 lo = 0 ∧ HT.sIx xs.length xs.length hi = xs.length) → Q (.ref a) H) ∧ (¬ (HT.sIx xs.length 0 lo = 0 ∧ HT.sIx xs.length xs.length hi = xs.length) → ∀ p, H p = none → Q (.ref p) (upd H p (.tup (cutV xs lo hi))))
section
variable {prog : Program} {w : World} {A : Around} {E : Value → Shared → Prop} {s : Shared}
open HT in
theorem tup_whole {t sl : Addr} {items : Array Value} {vl vu : Value} {lo hi : Option Int} {Q : Value → Shared → Prop} (ht : IsTup s.heap t items) (hs : s.heap.IsSliceOf sl vl vu .none) (pl : IsPart vl lo) (pu : IsPart vu hi)
    (hw : sIx items.size 0 lo = 0 ∧ sIx items.size items.size hi = items.size) (h : Q (.ref t) s) : wpAny (model prog w) A (getItem (.ref t) (.ref sl)) Q E s := by
  obtain ⟨os, hos, hcs, hds⟩ := id hs
  have hTs : s.TypeIs (.ref sl) "slice" := ⟨os, hos, hcs⟩
  unfold getItem
  try with_reducible refine wpAny_holding ?_
  first | refine wpAny_bind (wpAny_pure ?_) | skip
  refine wpAny_bind (wpAny_sequenceKey ht.typeIs (by decide) ?_)
  refine wpAny_bind (wpAny_callSpecial?_slot (name := Str.ofString "__getitem__") ht.typeIs PyProof.Rows.slot_tuple_getitem
    (wpAny_call_entry PyProof.Rows.slot_tuple_getitem ht.typeIs entry_tuple_getitem ?_ (args_tuple_getitem _ _)))
  show wpAny _ _ (Builtin.Tuple.tupleItemsOf (.ref t) >>= _) _ _ s
  refine wpAny_bind (tupleItemsOf_ ht ?_)
  refine wpAny_bind (wpAny_typeOf hTs ?_)
  rw [if_pos (by decide)]
  refine wpAny_bind (sliceApplied_gen hs pl pu ?_)
  have hyes : ((((sIx items.size 0 lo : Nat) : Int) == 0 && (1 : Int) == 1 && (sIx items.size items.size hi - sIx items.size 0 lo) == items.size) = true) := by
    rw [hw.1, hw.2]
    simp
  show wpAny _ _ (if (((sIx items.size 0 lo : Nat) : Int) == 0 && (1 : Int) == 1 && (sIx items.size items.size hi - sIx items.size 0 lo) == items.size) = true then _ else _) _ _ s
  rw [if_pos hyes]
  obtain ⟨ot, hot, hct, nt, hdt⟩ := id ht
  refine wpAny_bind ?_
  unfold Builtin.Tuple.tupleIsExact
  refine wpAny_bind (wpAny_typeOf ht.typeIs (wpAny_pure ?_))
  rw [if_pos (by decide)]
  exact wpAny_bind (wpAny_rule (wpAny_pure ⟨_, rfl, wpAny_pure h⟩))
end
theorem sl_tupA {X : Cx} : SlR X (rSlTA X.K) := by
  intro pins s σ H x v vl vu lo hi sl Q I rx hs pl pu h
  obtain ⟨a, xs, rfl, hx, q1, q2⟩ := h
  by_cases hw : HT.sIx xs.length 0 lo = 0 ∧ HT.sIx xs.length xs.length hi = xs.length
  · cases rx
    obtain ⟨its, r, ht, hz⟩ := I.tuple hx
    have hlen : its.toArray.size = xs.length := by rw [List.size_toArray]; exact r.length.symm
    refine ⟨"tuple", _, PyProof.Rows.slot_tuple_getitem.lookup, ht.typeIs, ?_⟩
    exact tup_whole ht hs pl pu (by rw [hlen]; exact hw) ⟨.ref a, H, I, rfl, q1 hw⟩
  · exact sl_tup pins s σ H (.ref a) v vl vu lo hi sl Q I rx hs pl pu ⟨a, xs, rfl, hx, hw, q2 hw⟩
end GX
/-! ### data over the heap -/
namespace GD
open GX
open PySem PySem.Spec PyProof.Rows L2 GxR
/-- what stood stands: tuples, the script, tables grown, lists but for those at ex -/
structure Ext (ex : List Addr) (H H' : Hp) : Prop where
  tup : ∀ b xs, H b = some (.tup xs) → H' b = some (.tup xs)
  frz : ∀ b o u, H b = some (.frz o u) → H' b = some (.frz o u)
  tbl : ∀ b ps, H b = some (.tbl ps) → TriplesOk ps.toList → ∃ ps', H' b = some (.tbl ps') ∧ TriplesOk ps'.toList
  lst : ∀ b xs, b ∉ ex → H b = some (.lst xs) → H' b = some (.lst xs)
  dom : ∀ b, H' b = none → H b = none
section
variable {ex ex' : List Addr} {H H1 H2 : Hp} {p D : Addr} {o : HO} {xs ys : List V}
theorem Ext.refl : Ext ex H H := ⟨fun _ _ e => e, fun _ _ _ e => e, fun _ ps e t => ⟨ps, e, t⟩, fun _ _ _ e => e, fun _ e => e⟩
theorem Ext.trans (a : Ext ex H H1) (b : Ext ex H1 H2) : Ext ex H H2 :=
  ⟨fun c xs e => b.tup c xs (a.tup c xs e), fun c o u e => b.frz c o u (a.frz c o u e), fun c ps e t => let ⟨ps', e', t'⟩ := a.tbl c ps e t; b.tbl c ps' e' t', fun c xs n e => b.lst c xs n (a.lst c xs n e), fun c e => a.dom c (b.dom c e)⟩
theorem Ext.mono (a : Ext ex H H1) (h : ∀ b ∈ ex, b ∈ ex') : Ext ex' H H1 := ⟨a.tup, a.frz, a.tbl, fun b xs n e => a.lst b xs (fun z => n (h b z)) e, a.dom⟩
theorem Ext.any (a : Ext [] H H1) : Ext ex H H1 := a.mono fun b hb => absurd hb (by simp)
theorem Ext.new (h : H p = none) : Ext ex H (upd H p o) where
  tup := fun b xs e => by rw [upd_ne (ne_of_none e h)]; exact e
  frz := fun b u v e => by rw [upd_ne (ne_of_none e h)]; exact e
  tbl := fun b ps e t => ⟨ps, by rw [upd_ne (ne_of_none e h)]; exact e, t⟩
  lst := fun b xs _ e => by rw [upd_ne (ne_of_none e h)]; exact e
  dom := fun b e => by
    by_cases hb : b = p
    · rw [hb, upd_same] at e; cases e
    · rw [upd_ne hb] at e; exact e
theorem Ext.wr (hD : D ∈ ex) (h : H D = some (.lst xs)) : Ext ex H (upd H D (.lst ys)) where
  tup := fun b xs e => by rw [upd_ne (ne_of e h (by intro z; cases z))]; exact e
  frz := fun b u v e => by rw [upd_ne (ne_of e h (by intro z; cases z))]; exact e
  tbl := fun b ps e t => ⟨ps, by rw [upd_ne (ne_of e h (by intro z; cases z))]; exact e, t⟩
  lst := fun b xs n e => by rw [upd_ne (fun z => n (by rw [z]; exact hD))]; exact e
  dom := fun b e => by
    by_cases hb : b = D
    · rw [hb, upd_same] at e; cases e
    · rw [upd_ne hb] at e; exact e
theorem Ext.tab {P : Addr} (hP : TabG H P) (h : Tabbed P H H1) : Ext ex H H1 := by
  obtain ⟨ps0, e0, t0⟩ := hP
  obtain ⟨⟨ps1, e1, t1⟩, h2⟩ := h
  have nP : ∀ b u, H b = some u → (∀ q, u ≠ .tbl q) → b ≠ P := fun b u e n z => by
    rw [z, e0] at e
    exact n ps0 (Option.some.inj e).symm
  refine ⟨fun b xs e => by rw [h2 b (nP b _ e (fun q z => by cases z))]; exact e, fun b u v e => by rw [h2 b (nP b _ e (fun q z => by cases z))]; exact e, fun b ps e t => ?_, fun b xs _ e => by rw [h2 b (nP b _ e (fun q z => by cases z))]; exact e, fun b e => ?_⟩
  · by_cases hb : b = P
    · rw [hb]; exact ⟨ps1, e1, t1⟩
    · exact ⟨ps, by rw [h2 b hb]; exact e, t⟩
  · by_cases hb : b = P
    · rw [hb, e1] at e; cases e
    · rw [h2 b hb] at e; exact e
theorem Ext.tabG {P : Addr} (a : Ext ex H H1) (h : TabG H P) : TabG H1 P := let ⟨ps, e, t⟩ := h; let ⟨ps', e', t'⟩ := a.tbl P ps e t; ⟨ps', e', t'⟩
theorem Ext.sqT {K : PySem.W.Frag} {a : Addr} {xs : List V} (e : Ext ex H H1) (h : SqT K H a xs) : SqT K H1 a xs := by
  rcases h with (h | ⟨o, h⟩) | h
  · exact .inl (.inl (e.tup a xs h))
  · exact .inl (.inr ⟨o, e.frz a o _ h⟩)
  · exact .inr h
theorem sqT_new {K : PySem.W.Frag} : SqT K (upd H p (.tup xs)) p xs := .inl (.inl upd_same)
/-- a list that is read only: frozen or of the written part, or untouched -/
theorem Ext.sqL {K : PySem.W.Frag} {a : Addr} {xs : List V} (e : Ext ex H H1) (n : a ∉ ex) (h : SqL K H a xs) : SqL K H1 a xs := by
  rcases h with (h | ⟨o, h⟩) | h
  · exact .inl (.inl (e.lst a xs n h))
  · exact .inl (.inr ⟨o, e.frz a o _ h⟩)
  · exact .inr h
end
structure Stretch where
  hours : Int
  room : Int
  ds : List Int
structure Barge where
  b : Int
  g : Int
  d : Int
  r : Int
  u : Int
def IsStretch (K : PySem.W.Frag) (H : Hp) (v : V) (s : Stretch) : Prop := ∃ a d, v = .ref a ∧ SqT K H a [.int s.hours, .int s.room, .ref d] ∧ SqT K H d (s.ds.map V.int)
def IsBarge (K : PySem.W.Frag) (H : Hp) (v : V) (b : Barge) : Prop := ∃ a, v = .ref a ∧ SqT K H a [.int b.b, .int b.g, .int b.d, .int b.r, .int b.u]
/-- a tuple of things -/
def IsRows {α : Type} (F : V → α → Prop) (K : PySem.W.Frag) (H : Hp) (v : V) (xs : List α) : Prop := ∃ a vs, v = .ref a ∧ SqT K H a vs ∧ Paired F vs xs
abbrev IsRiver (K : PySem.W.Frag) (H : Hp) (v : V) (rv : List Stretch) : Prop := IsRows (IsStretch K H) K H v rv
abbrev IsBarges (K : PySem.W.Frag) (H : Hp) (v : V) (bs : List Barge) : Prop := IsRows (IsBarge K H) K H v bs
structure Book where
  rv : List Stretch
  bs : List Barge
def IsBook (K : PySem.W.Frag) (H : Hp) (v : V) (k : Book) : Prop := ∃ a r b, v = .ref a ∧ SqT K H a [r, b] ∧ IsRiver K H r k.rv ∧ IsBarges K H b k.bs
structure Stretch.Ok (s : Stretch) : Prop where
  h1 : 1 ≤ s.hours
  h9 : s.hours ≤ 9
  r1 : 1 ≤ s.room
  r9 : s.room ≤ 9
  d1 : 1 ≤ s.ds.length
  d24 : s.ds.length ≤ 24
  ds : ∀ d ∈ s.ds, 0 ≤ d ∧ d ≤ 99
structure Barge.Ok (n : Nat) (b : Barge) : Prop where
  b0 : 0 ≤ b.b
  bg : b.b < b.g
  gn : b.g ≤ (n : Int)
  d1 : 1 ≤ b.d
  d99 : b.d ≤ 99
  r0 : 0 ≤ b.r
  r99 : b.r ≤ 99
  u0 : 0 ≤ b.u
  u199 : b.u ≤ 199
structure RvOk (rv : List Stretch) : Prop where
  n1 : 1 ≤ rv.length
  n8 : rv.length ≤ 8
  ok : ∀ s ∈ rv, s.Ok
structure Book.Ok (k : Book) : Prop where
  rv : RvOk k.rv
  n7 : k.bs.length ≤ 7
  ok : ∀ b ∈ k.bs, b.Ok k.rv.length
section
variable {ex : List Addr} {H H1 : Hp} {K : PySem.W.Frag} {v : V}
theorem Ext.stretch {s : Stretch} (e : Ext ex H H1) (h : IsStretch K H v s) : IsStretch K H1 v s := let ⟨a, d, z, h1, h2⟩ := h; ⟨a, d, z, e.sqT h1, e.sqT h2⟩
theorem Ext.barge {s : Barge} (e : Ext ex H H1) (h : IsBarge K H v s) : IsBarge K H1 v s := let ⟨a, z, h1⟩ := h; ⟨a, z, e.sqT h1⟩
theorem Ext.river {rv : List Stretch} (e : Ext ex H H1) (h : IsRiver K H v rv) : IsRiver K H1 v rv := let ⟨a, vs, z, h1, h2⟩ := h; ⟨a, vs, z, e.sqT h1, Paired.mapP h2 fun _ _ q => e.stretch q⟩
theorem Ext.barges {bs : List Barge} (e : Ext ex H H1) (h : IsBarges K H v bs) : IsBarges K H1 v bs := let ⟨a, vs, z, h1, h2⟩ := h; ⟨a, vs, z, e.sqT h1, Paired.mapP h2 fun _ _ q => e.barge q⟩
theorem Ext.book {k : Book} (e : Ext ex H H1) (h : IsBook K H v k) : IsBook K H1 v k := let ⟨a, r, b, z, h1, h2, h3⟩ := h; ⟨a, r, b, z, e.sqT h1, e.river h2, e.barges h3⟩
end
/-- the draws' list -/
def DiceAt (H : Hp) (D : Addr) : Prop := ∃ a b : Int, H D = some (.lst [.int a, .int b]) ∧ 0 ≤ a ∧ a < 2147483647 ∧ 0 ≤ b
theorem Ext.dice {H H1 : Hp} {D : Addr} {ex : List Addr} (e : Ext ex H H1) (n : D ∉ ex) (h : DiceAt H D) : DiceAt H1 D := let ⟨a, b, z, r⟩ := h; ⟨a, b, e.lst D _ n z, r⟩
theorem pget {α β : Type} {F : α → β → Prop} : ∀ {xs : List α} {ys : List β} {i : Nat} {x : α}, Paired F xs ys → xs[i]? = some x → ∃ y, ys[i]? = some y ∧ F x y
  | _, _, _, _, .nil, e => by simp at e
  | _, _, 0, _, .cons r _, e => by simp at e; subst e; exact ⟨_, rfl, r⟩
  | _, _, i + 1, x, .cons _ t, e => by
    obtain ⟨u, h1, h2⟩ := pget (i := i) (x := x) t (by simpa using e)
    exact ⟨u, by simpa using h1, h2⟩
theorem pgetR {α β : Type} {F : α → β → Prop} : ∀ {xs : List α} {ys : List β} {i : Nat} {y : β}, Paired F xs ys → ys[i]? = some y → ∃ x, xs[i]? = some x ∧ F x y
  | _, _, _, _, .nil, e => by simp at e
  | _, _, 0, _, .cons r _, e => by simp at e; subst e; exact ⟨_, rfl, r⟩
  | _, _, i + 1, x, .cons _ t, e => by
    obtain ⟨u, h1, h2⟩ := pgetR (i := i) (y := x) t (by simpa using e)
    exact ⟨u, by simpa using h1, h2⟩
theorem plen {α β : Type} {F : α → β → Prop} {xs : List α} {ys : List β} (h : Paired F xs ys) : xs.length = ys.length := Paired.length h
theorem papp {α β : Type} {F : α → β → Prop} : ∀ {xs : List α} {ys : List β} {x : α} {y : β}, Paired F xs ys → F x y → Paired F (xs ++ [x]) (ys ++ [y])
  | _, _, _, _, .nil, h => .cons h .nil
  | _, _, _, _, .cons r t, h => .cons r (papp t h)
theorem ptake {α β : Type} {F : α → β → Prop} : ∀ {xs : List α} {ys : List β} (n : Nat), Paired F xs ys → Paired F (xs.take n) (ys.take n)
  | _, _, 0, _ => .nil
  | _, _, _ + 1, .nil => .nil
  | _, _, n + 1, .cons r t => .cons r (ptake n t)
/-- hours of the first n stretches together -/
def hsum (rv : List Stretch) (n : Nat) : Int := ((rv.take n).map (·.hours)).sum
theorem hsum_zero (rv : List Stretch) : hsum rv 0 = 0 := rfl
theorem hsum_succ {rv : List Stretch} {i : Nat} {s : Stretch} (h : rv[i]? = some s) : hsum rv (i + 1) = hsum rv i + s.hours := by
  unfold hsum
  rw [List.take_add_one, h, List.map_append, List.sum_append]
  simp
theorem hsum_bound {rv : List Stretch} (ok : ∀ s ∈ rv, s.Ok) : ∀ n, 0 ≤ hsum rv n ∧ hsum rv n ≤ 9 * (n : Int)
  | 0 => by rw [hsum_zero]; omega
  | n + 1 => by
    obtain ⟨h1, h2⟩ := hsum_bound ok n
    cases e : rv[n]? with
    | none =>
      have : hsum rv (n + 1) = hsum rv n := by
        unfold hsum
        rw [List.take_add_one, e]
        simp
      rw [this]; omega
    | some s =>
      rw [hsum_succ e]
      have q := ok s (List.mem_of_getElem? e)
      have := q.h1
      have := q.h9
      omega
theorem hsum_len {rv : List Stretch} {n : Nat} (h : rv.length ≤ n) : hsum rv n = hsum rv rv.length := by
  unfold hsum
  rw [List.take_of_length_le h, List.take_of_length_le (Nat.le_refl _)]
theorem same_small {n : Nat} (h : n ≤ 1000) : n ≤ sizeLine := Nat.le_of_lt (small1000 h)
theorem tc1 {v : V} {σ : L2.St} {H : Hp} {R : List V → Hp → Prop} (h : R [v] H) : tCons (tC v) tNil σ H R := h
theorem isi_ib {K : PySem.W.Frag} {H : Hp} {Q : VK} {v : Int} (h : Q (.bl false) H) : rIsi K [.int v, .ty "bool"] H Q := ⟨.int v, .ty "bool", .type "int", .type "bool", false, rfl, .ty _, .base (.int _), kit_ty (by decide +kernel), h⟩
theorem isi_ii {K : PySem.W.Frag} {H : Hp} {Q : VK} {v : Int} (h : Q (.bl true) H) : rIsi K [.int v, .ty "int"] H Q := ⟨.int v, .ty "int", .type "int", .type "int", true, rfl, .ty _, .base (.int _), kit_ty (by decide +kernel), h⟩
theorem isi_tt {K : PySem.W.Frag} {H : Hp} {Q : VK} {a : Addr} {xs : List V} (t : SqT K H a xs) (h : Q (.bl true) H) : rIsi K [.ref a, .ty "tuple"] H Q := by
  rcases t with (t | ⟨o, t⟩) | ⟨o, its, n, e, c, _⟩
  · exact ⟨.ref a, .ty "tuple", .type "tuple", .type "tuple", true, rfl, .ty _, .base (.tup t), kit_ty (by decide +kernel), h⟩
  · exact ⟨.ref a, .ty "tuple", .type "tuple", .type "tuple", true, rfl, .ty _, .fTuple t, kit_ty (by decide +kernel), h⟩
  · exact ⟨.ref a, .ty "tuple", .type "tuple", .type "tuple", true, rfl, .ty _, .kTuple e c, kit_ty (by decide +kernel), h⟩
theorem iteD {c : Prop} [Decidable c] {A B : Prop} (hc : c) (h : A) : if decide c = true then A else B := by
  rw [decide_eq_true hc]
  exact iteT h
theorem iteDn {c : Prop} [Decidable c] {A B : Prop} (hc : ¬ c) (h : B) : if decide c = true then A else B := by
  rw [decide_eq_false hc]
  exact iteF h
/-- the turns of all, over a tuple that stands -/
theorem all_tup {K : PySem.W.Frag} {P a : Addr} {xs : List V} {g : TG} {te : TE} {vs : List Nat} {σ : L2.St} {H1 : Hp} {Q : VK} (hT : TabG H1 P) (Pv : Nat → Hp → Prop) (h0 : ∀ H2, Tabbed P H1 H2 → Pv 0 H2) (hl : ∀ i H, i ≤ xs.length → Pv i H → SqT K H a xs)
    (hs : ∀ i x H, xs[i]? = some x → Pv i H → g x (wipe σ vs) H fun σ2 H2 => wipe σ2 vs = wipe σ vs ∧ te σ2 H2 fun y H4 => ∃ c, y = .bl c ∧ if c = true then Pv (i + 1) H4 else Q (.bl false) H4) (hd : ∀ H, Pv xs.length H → Q (.bl true) H) :
    TabG H1 P ∧ ∀ H2, Tabbed P H1 H2 → ∃ W : Nat → Nat → Hp → Prop, (∃ m, W 0 m H2) ∧ ∀ i m H, W i m H →
      ((Itt K a).stop i H ∧ Q (.bl true) H) ∨ ((Itt K a).go i H ∧ ∃ Nx : Hp → Prop, (∀ H', Nx H' → ∃ m', m' < m ∧ W (i + 1) m' H') ∧ ∀ x H', (Itt K a).yld i H x H' → g x (wipe σ vs) H' fun σ2 H2 => wipe σ2 vs = wipe σ vs ∧ tYes σ2 H2 fun b H3 =>
        if b = true then te σ2 H3 fun y H4 => ∃ c, y = .bl c ∧ if c = true then Nx H4 else Q (.bl false) H4 else Nx H3) := by
  refine ⟨hT, fun H2 hb => ⟨fun i m H => m = xs.length - i ∧ i ≤ xs.length ∧ Pv i H, ⟨xs.length, by simp, Nat.zero_le _, h0 H2 hb⟩, ?_⟩⟩
  rintro i m H ⟨rfl, hi, p⟩
  have q := hl i H hi p
  by_cases hlt : i < xs.length
  · refine .inr ⟨⟨xs, xs[i], q, by simp [hlt]⟩, Pv (i + 1), fun H' p' => ⟨xs.length - (i + 1), by omega, rfl, hlt, p'⟩, fun x H' y => ?_⟩
    obtain ⟨e, y⟩ := y
    subst e
    exact hs i x H' (y xs q) p
  · have e : i = xs.length := by omega
    subst e
    exact .inl ⟨⟨xs, q, Nat.le_refl _⟩, hd H p⟩
theorem map_get {α β : Type} {f : α → β} {xs : List α} {i : Nat} {x : β} (h : (xs.map f)[i]? = some x) : ∃ y, xs[i]? = some y ∧ x = f y := by
  rw [List.getElem?_map] at h
  cases e : xs[i]? with
  | none => rw [e] at h; cases h
  | some y => rw [e] at h; exact ⟨y, rfl, (Option.some.inj h).symm⟩
theorem all_var {K : PySem.W.Frag} {P a : Addr} {xs : List V} {g : TG} {te : TE} {vs : List Nat} {σ : L2.St} {H1 : Hp} {Q : VK} {j : Nat} (hv : σ[j]? = some (some (.ref a))) (ht : SqT K H1 a xs) (hT : TabG H1 P) (Pv : Nat → Hp → Prop) (h0 : ∀ H2, Tabbed P H1 H2 → Pv 0 H2) (hl : ∀ i H, i ≤ xs.length → Pv i H → SqT K H a xs)
    (hs : ∀ i x H, xs[i]? = some x → Pv i H → g x (wipe σ vs) H fun σ2 H2 => wipe σ2 vs = wipe σ vs ∧ te σ2 H2 fun y H4 => ∃ c, y = .bl c ∧ if c = true then Pv (i + 1) H4 else Q (.bl false) H4) (hd : ∀ H, Pv xs.length H → Q (.bl true) H) :
    tAllG P (iTup K (tVar j)) g tYes te vs σ H1 Q := ⟨.ref a, hv, a, rfl, ⟨xs, ht⟩, all_tup hT Pv h0 hl hs hd⟩
theorem tB_ {t : TE} {σ : L2.St} {H : Hp} {Q : Bool → Hp → Prop} (h : t σ H fun x H1 => ∃ c, x = .bl c ∧ Q c H1) : tB t σ H Q := h
theorem tNot_ {t : TT} {σ : L2.St} {H : Hp} {Q : Bool → Hp → Prop} (h : t σ H fun c H1 => Q (!c) H1) : tNot t σ H Q := h
theorem sum_enumT {K : PySem.W.Frag} {P a : Addr} {xs : List V} {g : TG} {tt : TT} {te : TE} {vs : List Nat} {σ : L2.St} {H1 : Hp} {Q : VK} {j : Nat} (hv : σ[j]? = some (some (.ref a))) (ht : SqT K H1 a xs) (hT : TabG H1 P) (Pv : Nat → Int → Hp → Prop) (h0 : ∀ H2, Tabbed P H1 H2 → Pv 0 0 H2) (hl : ∀ i z H, i ≤ xs.length → Pv i z H → SqT K H a xs)
    (hs : ∀ i x z H T, xs[i]? = some x → Pv i z H → H T = none → g (.ref T) (wipe σ vs) (upd H T (.tup [.int (i : Nat), x])) fun σ2 H2 => wipe σ2 vs = wipe σ vs ∧ tt σ2 H2 fun b H3 => if b = true then te σ2 H3 fun y H4 => ∃ v, y = .int v ∧ InLong v ∧ InLong (z + v) ∧ Pv (i + 1) (z + v) H4 else Pv (i + 1) z H3)
    (hd : ∀ z H, Pv xs.length z H → Q (.int z) H) : tSumG P (GE.iEnumT K (tCons (tVar j) tNil)) g tt te vs σ H1 Q := by
  refine ⟨.ref a, hv, a, xs, rfl, ht, hT, fun H2 hb => ⟨fun i m z H => m = xs.length - i ∧ i ≤ xs.length ∧ Pv i z H, ⟨xs.length, by simp, Nat.zero_le _, h0 H2 hb⟩, ?_⟩⟩
  rintro i m z H ⟨rfl, hi, p⟩
  have q := hl i z H hi p
  by_cases hlt : i < xs.length
  · refine .inr ⟨⟨xs, xs[i], q, by simp [hlt]⟩, fun z' H' => Pv (i + 1) z' H', fun z' H' p' => ⟨xs.length - (i + 1), by omega, rfl, hlt, p'⟩, fun x H' y => ?_⟩
    obtain ⟨T, x', rfl, hn, rfl, hx⟩ := y
    exact hs i x' z H T (hx xs q) p hn
  · have e : i = xs.length := by omega
    subst e
    exact .inl ⟨⟨xs, q, Nat.le_refl _⟩, hd z H p⟩
/-- how deep a stretch is at a time -/
def depthAt (s : Stretch) (t : Int) : Int := s.ds.getD (t % (s.ds.length : Int)).toNat 0
theorem fmod_place {t : Int} {n : Nat} (h : 0 < n) : t.fmod (n : Int) = (((t % (n : Int)).toNat : Nat) : Int) ∧ (t % (n : Int)).toNat < n := by
  have h1 : 0 ≤ t % (n : Int) := Int.emod_nonneg t (by omega)
  have h2 : t % (n : Int) < (n : Int) := Int.emod_lt_of_pos t (by omega)
  rw [Int.fmod_eq_emod_of_nonneg t (by omega)]
  omega
theorem depth_item {s : Stretch} {t : Int} (h : 0 < s.ds.length) : atI (s.ds.map V.int) (t.fmod ((s.ds.map V.int).length : Int)) = some (.int (depthAt s t)) := by
  rw [List.length_map, (fmod_place (t := t) h).1]
  refine atI_nat ?_
  rw [List.getElem?_map, List.getElem?_eq_getElem (fmod_place (t := t) h).2]
  unfold depthAt
  rw [List.getD_eq_getElem?_getD, List.getElem?_eq_getElem (fmod_place (t := t) h).2]
  rfl
theorem inLong_small {v : Int} (h1 : -1000000 ≤ v) (h2 : v ≤ 1000000) : InLong v := by
  unfold InLong
  omega
theorem ixK {X : Cx} (K : PySem.W.Frag) (h : X.K = K) : IxR X (rIx K) := by
  subst h
  exact ix_seq
theorem lenK {X : Cx} (K : PySem.W.Frag) (h : X.K = K) : CallR X (.builtin "len") (fun xs H Q => ∃ p ys, xs = [.ref p] ∧ (SqL K H p ys ∨ SqT K H p ys) ∧ Q (.int ys.length) H) := by
  subst h
  exact call_len_seq
theorem isiK {X : Cx} (K : PySem.W.Frag) (h : X.K = K) : CallR X (.builtin "isinstance") (rIsi K) := by
  subst h
  exact call_isi
theorem slK {X : Cx} (K : PySem.W.Frag) (h : X.K = K) : SlR X (rSlTA K) := by
  subst h
  exact GX.sl_tupA
theorem Ext.wrNew {ex : List Addr} {H H1 : Hp} {D : Addr} {o : HO} (e : Ext ex H H1) (h : H D = none) : Ext ex H (upd H1 D o) where
  tup := fun b xs z => by rw [upd_ne (ne_of_none z h)]; exact e.tup b xs z
  frz := fun b u v z => by rw [upd_ne (ne_of_none z h)]; exact e.frz b u v z
  tbl := fun b ps z t => by rw [upd_ne (ne_of_none z h)]; exact e.tbl b ps z t
  lst := fun b xs n z => by rw [upd_ne (ne_of_none z h)]; exact e.lst b xs n z
  dom := fun b z => by
    by_cases hb : b = D
    · rw [hb, upd_same] at z; cases z
    · rw [upd_ne hb] at z; exact e.dom b z
theorem pick2 {x y sl : Int} (h : sl = 0 ∨ sl = 1) : ∃ z, atI [V.int x, V.int y] sl = some (.int z) ∧ (z = x ∨ z = y) := by
  rcases h with rfl | rfl
  · exact ⟨x, atI_nat (j := 0) rfl, .inl rfl⟩
  · exact ⟨y, atI_nat (j := 1) rfl, .inr rfl⟩
theorem b01 (b : Bool) : (if b = true then (1 : Int) else 0) = 0 ∨ (if b = true then (1 : Int) else 0) = 1 := by
  cases b
  · exact .inl rfl
  · exact .inr rfl
theorem cut_take (xs : List V) (p : Nat) : cutV xs none (some (p : Int)) = xs.take p := by
  unfold cutV
  rw [HT.sIx_none, HT.sIx_nat, List.drop_zero, Nat.sub_zero]
  by_cases h : p ≤ xs.length
  · rw [Nat.min_eq_left h]
  · rw [Nat.min_eq_right (by omega), List.take_of_length_le (Nat.le_refl _), List.take_of_length_le (by omega)]
theorem whole_take {xs : List V} {p : Nat} (h : HT.sIx xs.length 0 none = 0 ∧ HT.sIx xs.length xs.length (some (p : Int)) = xs.length) : xs.take p = xs := by
  obtain ⟨_, h2⟩ := h
  rw [HT.sIx_nat] at h2
  exact List.take_of_length_le (by omega)
theorem yesT {σ : L2.St} {H : Hp} {F G : Hp → Prop} (h : F H) : tYes σ H (fun b H3 => if b = true then F H3 else G H3) := by
  show if true = true then F H else G H
  rw [if_pos rfl]
  exact h
end GD

/-! set comprehensions of ints -/
namespace GS
open PySem PySem.Spec PyProof.Rows L2 PpSet
section
variable {X : Cx}
theorem addI_ok {pins : List (Addr × Obj)} {σ : L2.St} {H : Hp} {s : Shared} {E : Value → Shared → Prop} {D : Addr} {S : Int → Bool} {n : Nat} {y : Int} {tk : Tok} {Q : Value → Shared → Prop} (I : Inv X pins σ H s) (hD : H D = some (SetO X.w D S n)) (room : n + 1 < scanBound)
    (h : ∀ s', Inv X pins σ (upd H D (SetO X.w D (fun j => S j || decide (j = y)) (if S y = true then n else n + 1))) s' → Q .none s') : wpAny (model X.prog X.w) X.A (call (.builtin "set.add") [.ref D, .int y tk]) Q E s := by
  have R := setO_get I hD
  refine setR_add R room fun h' sb new => ?_
  obtain ⟨o, _, _, _, ho, _⟩ := id new
  exact h _ (I.write (e := D) (t' := s.toks + 1) (by rw [hD]; trivial) (.inl rfl) (fun b u hb hu => (sb.2 b hb).trans hu) ⟨o, ho⟩ (setO_new new))
def tSi (w : World) (wi : TI) (g : TG) (tt : TT) (te : TE) (vs : List Nat) : TE := fun σ H Q => wi σ H fun J H1 => ∀ D, H1 D = none → ∃ W : Nat → Nat → Hp → Prop, (∃ m, W 0 m (upd H1 D (SetO w D (fun _ => false) 0))) ∧ ∀ i m H, W i m H →
  (J.stop i H ∧ Q (.ref D) H) ∨ (J.go i H ∧ ∃ Nx : Hp → Prop, (∀ H', Nx H' → ∃ m', m' < m ∧ W (i + 1) m' H') ∧ ∀ x H', J.yld i H x H' → g x (wipe σ vs) H' fun σ2 H2 => wipe σ2 vs = wipe σ vs ∧ tt σ2 H2 fun b H3 =>
    if b = true then te σ2 H3 fun y H4 => ∃ (c : Int) (S : Int → Bool) (n : Nat), y = .int c ∧ H4 D = some (SetO w D S n) ∧ n + 1 < scanBound ∧ Nx (upd H4 D (SetO w D (fun j => S j || decide (j = c)) (if S c = true then n else n + 1))) else Nx H3)
theorem si_core {pins : List (Addr × Obj)} {s : Shared} {σ : L2.St} {H : Hp} {Q : VK} {elt tg iter : Expr} {ifs : List Expr} {scope : Scope} {own : List (PySem.Str × Nat)} {pos pos' : Pos} {wi : TI} {g : TG} {tt : TT} {te : TE} {use : Option (Value → Sem Unit)} {Qf : Value → Shared → Prop}
    (hc : X.calm = true) (hN : X.N.Nodup) (I : Inv X pins σ H s) (hi : PI X tg iter wi) (ok : BlkOk X.N X.env.scope scope own)
    (hg : ∀ (s : Shared) (H : Hp) (C : Addr) (cl : List (PySem.Str × Addr)) (fp : List Addr), PG (X.blk s H scope (compEnvC scope cl C X.env) fp) tg g) (ht : ∀ (s : Shared) (H : Hp) (C : Addr) (cl : List (PySem.Str × Addr)) (fp : List Addr), PTs (X.blk s H scope (compEnvC scope cl C X.env) fp) ifs tt)
    (he : ∀ (s : Shared) (H : Hp) (C : Addr) (cl : List (PySem.Str × Addr)) (fp : List Addr), PE (X.blk s H scope (compEnvC scope cl C X.env) fp) elt te) (hs : ∀ x, foldedSetIterable iter X.env x = pure x)
    (h : tSi X.w wi g tt te (own.map (·.2)) σ H Q)
    (hRR : ∀ D C s' m H', Inv X pins σ H' s' → Q (.ref D) H' → s'.heap.Ns C m → FpOk X pins H' C → compPost (model X.prog X.w) X.A X.xe use Qf (.ref D) C (.ok .next) s') :
    wpAny (model X.prog X.w) X.A (comprehension (.SetComp elt [⟨tg, iter, ifs, 0⟩] scope pos) scope X.env pos' (newSet (.type "set")) false (eval iter X.env) use) Qf X.xe s := by
  have hfree : ∀ y ∈ scope.names, y.2 = .free → ∃ c, X.env.cells.lookup y.1 = some c := fun y hy e => by
    rcases ok.free y hy e with k | k
    · exact I.ok.has _ (.inl k)
    · exact I.ok.has _ (.inr k)
  refine wpAny_comprehension_free (use := use) rfl hs (closure_ok hfree) ok.kind (fun y hy e => by rw [ok.uniq y hy, e])
    (thn (hi.run pins s σ H _ I h) fun xv s1 hx => thn hx fun itv s2 h2 => ?_)
  obtain ⟨it, fp, tn, J, H2, e, I2, T, st2, f2, q⟩ := h2
  subst e
  refine newSet_ok (newEnv_comp ?_)
  generalize hD : s2.heap.objs.size = D
  have hDn : H2 D = none := I2.hok.fresh (Nat.le_of_eq hD)
  obtain ⟨W, ⟨m0, w0⟩, turn⟩ := q D hDn
  -- the new list
  generalize hs3 : ({ s2 with heap := s2.heap.push { cls := .type "set", dict := none, data := .set #[] 0 (.fresh 0 0 (!X.w.params.followText "set-order")) } } : Shared) = s3
  have I3 : Inv X pins σ (upd H2 D (SetO X.w D (fun _ => false) 0)) s3 := by
    rw [← hs3]
    refine I2.laid (t' := s2.toks) (fun b o e => Heap.get?_push_of_some _ e) (Nat.le_of_eq hD) ?_
    rw [← hD]
    exact setO_new (setR_fresh X.w)
  have h3 : s3.heap = s2.heap.push { cls := .type "set", dict := none, data := .set #[] 0 (.fresh 0 0 (!X.w.params.followText "set-order")) } := by rw [← hs3]
  have sz : ∀ b ∈ fp, b < s2.heap.objs.size := fun b hb => by
    obtain ⟨o, e, _⟩ := T.obj _ _ st2 b hb
    exact Heap.lt_size e
  have f3 : ∀ b ∈ fp, FpOk X pins (upd H2 D (SetO X.w D (fun _ => false) 0)) b ∧ b < s3.heap.objs.size := fun b hb => by
    have hlt := sz b hb
    refine ⟨⟨?_, (f2 b hb).2⟩, by rw [h3, Heap.size_push]; exact Nat.lt_succ_of_lt hlt⟩
    rw [upd_ne (by rw [← hD]; exact Nat.ne_of_lt hlt)]
    exact (f2 b hb).1
  have st3 : tn 0 s3.heap := T.keep _ _ _ st2 fun b _ o e => by rw [h3]; exact Heap.get?_push_of_some _ e
  have I4 := block_start I3 ok hN f3
  have pg := hg s3 (upd H2 D (SetO X.w D (fun _ => false) 0)) s3.heap.objs.size (cellsFrom (s3.heap.objs.size + 1) scope.names (cloFrom X.env.cells scope.names [])) fp
  have pt := ht s3 (upd H2 D (SetO X.w D (fun _ => false) 0)) s3.heap.objs.size (cellsFrom (s3.heap.objs.size + 1) scope.names (cloFrom X.env.cells scope.names [])) fp
  have pe := he s3 (upd H2 D (SetO X.w D (fun _ => false) 0)) s3.heap.objs.size (cellsFrom (s3.heap.objs.size + 1) scope.names (cloFrom X.env.cells scope.names [])) fp
  show codeAny _ _ (.compStart (.SetComp elt [⟨tg, iter, ifs, 0⟩] scope pos) 0 (.ref it) (.ref D) (compEnvC scope (cellsFrom (s3.heap.objs.size + 1) scope.names (cloFrom X.env.cells scope.names [])) s3.heap.objs.size X.env)) (compPost (model X.prog X.w) X.A X.xe use Qf (.ref D) s3.heap.objs.size) { s3 with heap := pushCells (s3.heap.push { cls := .type "dict", data := .dict #[] }) scope.names }
  have nfp : ∀ b ∈ fp, (upd H2 D (SetO X.w D (fun _ => false) 0)) b = none := fun b hb => (f3 b hb).1.1
  generalize hce : compEnvC scope (cellsFrom (s3.heap.objs.size + 1) scope.names (cloFrom X.env.cells scope.names [])) s3.heap.objs.size X.env = ce at I4 pg pt pe ⊢
  have cL : ce.locals = s3.heap.objs.size := by subst hce; rfl
  generalize hH3 : upd H2 D (SetO X.w D (fun _ => false) 0) = H3 at I3 I4 pg pt pe w0 nfp f3
  generalize hs4 : ({ s3 with heap := pushCells (s3.heap.push { cls := .type "dict", data := .dict #[] }) scope.names } : Shared) = s4 at I4 ⊢
  have st4 : tn 0 s4.heap := T.keep _ _ _ st3 fun b _ o e => by rw [← hs4]; exact pushCells_keeps _ _ _ _ (Heap.get?_push_of_some _ e)
  have stat : ∀ {σ' : L2.St} {H' : Hp} {s' : Shared}, Inv (X.blk s3 H3 scope ce fp) [] σ' H' s' → (∀ b ∈ fp, H' b = none) → ∀ b ∈ fp, FpOk (X.blk s3 H3 scope ce fp) [] H' b := fun {σ' H' s'} I' hn b hb =>
    ⟨hn b hb, (I'.ok.exf b hb).1, I'.ok.exfs b hb, .inl hb, fun x c e => (I'.ok.exf b hb).2 x c e, fun p hp => absurd (show p ∈ ([] : List (Addr × Obj)) ++ [] from hp) (by simp)⟩
  have loop : codeAny (model X.prog X.w) X.A (.compLoop (.SetComp elt [⟨tg, iter, ifs, 0⟩] scope pos) 0 (.ref it) (.ref D) ce) (compPost (model X.prog X.w) X.A X.xe use Qf (.ref D) s3.heap.objs.size) s4 := by
    refine compLoopS_any (fun n s' => ∃ i H', Inv (X.blk s3 H3 scope ce fp) [] (wipe σ (own.map (·.2))) H' s' ∧ tn i s'.heap ∧ (∀ b ∈ fp, H' b = none) ∧ W i n H') ?_ m0 ⟨0, H3, I4, st4, nfp, w0⟩
    rintro n s5 ⟨i, H5, I5, st5, n5, w5⟩
    rcases turn i n H5 w5 with ⟨stop, qq⟩ | ⟨go, Nx, hNx, step⟩
    · have td := T.done (X.blk s3 H3 scope ce fp) rfl rfl rfl hc i [] s5 _ H5 (fun _ _ => False) I5 (stat I5 n5) st5 stop
      refine thnF td fun r s6 ⟨hr, I6⟩ => ?_
      subst hr
      -- back in the def's context
      have I7 : Inv X pins σ H5 s6 := I3.call' (ch := fp) I6.os I6.base I6.hok I6.bare fun b hb => ⟨(f3 b hb).1.2.2.2.1, (f3 b hb).1.2.1, (f3 b hb).1.2.2.2.2.1, (f3 b hb).1.2.2.2.2.2⟩
      have nC : H5 s3.heap.objs.size = none := by
        have z : H5 ce.locals = none := I6.free
        rw [cL] at z
        exact z
      obtain ⟨m, hn, _⟩ := I6.loc
      have hn : s6.heap.Ns ce.locals m := hn
      rw [cL] at hn
      exact hRR D s3.heap.objs.size s6 m H5 I7 qq hn (I3.fpOk (Nat.le_refl _) nC)
    · have ti := T.item (X.blk s3 H3 scope ce fp) rfl rfl rfl hc i [] s5 _ H5 (fun _ _ => False) I5 (stat I5 n5) st5 go
      refine thnF ti fun r s6 ⟨u, hr, h6⟩ => ?_
      subst hr
      refine thnF h6 fun _ s7 ⟨x, H7, I7, r7, y7, st7, n7⟩ => ?_
      have I7' := I7.pinned (stat I7 n7) (T.obj _ _ st7)
      refine thnF (pg.run _ s7 _ H7 x u _ I7' r7 (step x H7 y7)) fun _ s8 ⟨σ8, H8, I8, hw8, q8⟩ => ?_
      refine thnF (pt.run _ s8 σ8 H8 _ I8 q8) fun b s9 ⟨H9, I9, q9⟩ => ?_
      -- the turn's end
      have fin : ∀ {s' : Shared} {H' : Hp}, Inv (X.blk s3 H3 scope ce fp) ([] ++ pinsAt fp s7.heap) σ8 H' s' → Nx H' → ∃ m, m < n ∧ ∃ i H', Inv (X.blk s3 H3 scope ce fp) [] (wipe σ (own.map (·.2))) H' s' ∧ tn i s'.heap ∧ (∀ b ∈ fp, H' b = none) ∧ W i m H' := fun {s' H'} I' nx => by
        obtain ⟨m', hm, w'⟩ := hNx H' nx
        have pin' : ∀ b ∈ fp, ∀ o, s7.heap.get? b = some o → s'.heap.get? b = some o ∧ H' b = none := fun b hb o e =>
          let z := I'.pin (b, o) (List.mem_append_right _ (List.mem_append_right _ (mem_pinsAt hb e)))
          ⟨z.1, z.2.1⟩
        have hl : (wipe σ (own.map (·.2))).length = σ8.length := by rw [← hw8, wipe_length]
        refine ⟨m', hm, i + 1, H', (I'.unpinned (pins := [])).weak hl (fun j v e => ?_), T.keep _ _ _ st7 fun b hb o e => (pin' b hb o e).1, fun b hb => ?_, w'⟩
        · rw [← hw8] at e
          exact (wipe_some e).1
        · obtain ⟨o, e, _⟩ := T.obj _ _ st7 b hb
          exact (pin' b hb o e).2
      cases b with
      | false =>
        simp only [Bool.false_eq_true, if_false] at q9 ⊢
        exact fin I9 q9
      | true =>
        simp only [if_true] at q9 ⊢
        refine thnF (pe.run _ s9 σ8 H9 _ I9 q9) fun z s10 ⟨yv, H10, I10, r10, cb, S0, n0, ey, hD10, hz10, nx⟩ => ?_
        subst ey
        obtain ⟨tk, rfl⟩ : ∃ tk, z = Value.int cb tk := r10
        exact addI_ok (X := X.blk s3 H3 scope ce fp) I10 hD10 hz10 fun s11 I11 => fin I11 nx
  exact codeAny_compStart_set loop (T.self X.A 0 _ _ _ st4 loop)
theorem pe_si {elt tg iter : Expr} {ifs : List Expr} {scope : Scope} {own : List (PySem.Str × Nat)} {pos : Pos} {wi : TI} {g : TG} {tt : TT} {te : TE} (hc : X.calm = true) (hN : X.N.Nodup) (hi : PI X tg iter wi) (ok : BlkOk X.N X.env.scope scope own)
    (hg : ∀ (s : Shared) (H : Hp) (C : Addr) (cl : List (PySem.Str × Addr)) (fp : List Addr), PG (X.blk s H scope (compEnvC scope cl C X.env) fp) tg g) (ht : ∀ (s : Shared) (H : Hp) (C : Addr) (cl : List (PySem.Str × Addr)) (fp : List Addr), PTs (X.blk s H scope (compEnvC scope cl C X.env) fp) ifs tt)
    (he : ∀ (s : Shared) (H : Hp) (C : Addr) (cl : List (PySem.Str × Addr)) (fp : List Addr), PE (X.blk s H scope (compEnvC scope cl C X.env) fp) elt te) (hs : ∀ x, foldedSetIterable iter X.env x = pure x := by intro _; rfl) :
    PE X (.SetComp elt [⟨tg, iter, ifs, 0⟩] scope pos) (tSi X.w wi g tt te (own.map (·.2))) := by
  refine ⟨fun pins s σ H Q I h => ?_⟩
  rw [eval_SetComp]
  refine si_core hc hN I hi ok hg ht he hs h fun D C s' m H' I' q hn f => ⟨m, hn, fun h'' sb => ?_⟩
  obtain ⟨f0, f1, f2, f3, f4, f5⟩ := f
  exact ⟨.ref D, H', I'.turned (t' := s'.toks) (fun b o hb e => (sb.2 b hb).trans e) f0 f1 f3 f4 f5, rfl, q⟩
end
/-- over a tuple that the block leaves as it is -/
theorem si_tup {w : World} {K : PySem.W.Frag} {a : Addr} {xs : List V} {g : TG} {tt : TT} {te : TE} {vs : List Nat} {σ : L2.St} {H1 : Hp} {D : Addr} {Qd : Hp → Prop} (Pv : Nat → Hp → Prop) (h0 : Pv 0 (upd H1 D (SetO w D (fun _ => false) 0))) (hl : ∀ i H, i ≤ xs.length → Pv i H → SqT K H a xs)
    (hs : ∀ i x H, xs[i]? = some x → Pv i H → g x (wipe σ vs) H fun σ2 H2 => wipe σ2 vs = wipe σ vs ∧ tt σ2 H2 fun b H3 =>
      if b = true then te σ2 H3 fun y H4 => ∃ (c : Int) (S : Int → Bool) (n : Nat), y = .int c ∧ H4 D = some (SetO w D S n) ∧ n + 1 < scanBound ∧ Pv (i + 1) (upd H4 D (SetO w D (fun j => S j || decide (j = c)) (if S c = true then n else n + 1))) else Pv (i + 1) H3) (hd : ∀ H, Pv xs.length H → Qd H) :
    ∃ W : Nat → Nat → Hp → Prop, (∃ m, W 0 m (upd H1 D (SetO w D (fun _ => false) 0))) ∧ ∀ i m H, W i m H →
      ((Itt K a).stop i H ∧ Qd H) ∨ ((Itt K a).go i H ∧ ∃ Nx : Hp → Prop, (∀ H', Nx H' → ∃ m', m' < m ∧ W (i + 1) m' H') ∧ ∀ x H', (Itt K a).yld i H x H' → g x (wipe σ vs) H' fun σ2 H2 => wipe σ2 vs = wipe σ vs ∧ tt σ2 H2 fun b H3 =>
        if b = true then te σ2 H3 fun y H4 => ∃ (c : Int) (S : Int → Bool) (n : Nat), y = .int c ∧ H4 D = some (SetO w D S n) ∧ n + 1 < scanBound ∧ Nx (upd H4 D (SetO w D (fun j => S j || decide (j = c)) (if S c = true then n else n + 1))) else Nx H3) := by
  refine ⟨fun i m H => m = xs.length - i ∧ i ≤ xs.length ∧ Pv i H, ⟨xs.length, by simp, Nat.zero_le _, h0⟩, ?_⟩
  rintro i m H ⟨rfl, hi, p⟩
  have q := hl i H hi p
  by_cases hlt : i < xs.length
  · refine .inr ⟨⟨xs, xs[i], q, by simp [hlt]⟩, Pv (i + 1), fun H' p' => ⟨xs.length - (i + 1), by omega, rfl, hlt, p'⟩, fun x H' y => ?_⟩
    obtain ⟨e, y⟩ := y
    subst e
    exact hs i x _ (y xs q) p
  · have e : i = xs.length := by omega
    subst e
    exact .inl ⟨⟨xs, q, Nat.le_refl _⟩, hd H p⟩
end GS

namespace GT
open PySem PySem.Spec PyProof.Rows L2
open AutoSeq1 (wpAny_loadPart')
theorem mul_one_same (l : Addr) (items : Array Value) (n : Nat) (sl : Array (Option Value)) (dd : Option Addr) (u : Tok) :
    Meets (Builtin.«tuple.__mul__» ⟨[.ref l, .int 1 u], []⟩) (fun _ R s => s.heap.get? l = some { cls := .type "tuple", dict := dd, data := .seq items n, slots := sl } ∧ R (.ok (.ret (Value.ref l))) s) :=
  .of_wp fun prog w A R s h => by
    obtain ⟨hp, g, d, tk, os⟩ := s
    obtain ⟨hl, h⟩ := h
    have f1 := AutoSeq1.idx_int
    have c1 : (items.isEmpty || (1 : Int) == 1) = true := by simp
    wp_walk using wpAny_loadPart' hl
    exact ⟨_, rfl, h⟩
theorem mul_none_new (l : Addr) (items : Array Value) (n : Nat) (sl : Array (Option Value)) (dd : Option Addr) (u : Tok) (hi : items.isEmpty = false) :
    Meets (Builtin.«tuple.__mul__» ⟨[.ref l, .int 0 u], []⟩) (fun _ R s => s.heap.get? l = some { cls := .type "tuple", dict := dd, data := .seq items n, slots := sl } ∧
      R (.ok (.ret (Value.ref s.heap.objs.size))) { s with heap := s.heap.push { cls := Value.type "tuple", data := Data.seq #[] } }) :=
  .of_wp fun prog w A R s h => by
    obtain ⟨hp, g, d, tk, os⟩ := s
    obtain ⟨hl, h⟩ := h
    have f1 := AutoSeq1.idx_int
    have c1 : (items.isEmpty || (0 : Int) == 1) = false := by simp [hi]
    have c2 : (decide ((0 : Int) ≤ 0) || items.isEmpty) = true := by simp
    wp_walk using wpAny_loadPart' hl
    exact ⟨_, rfl, h⟩
def rRepTA (K : PySem.W.Frag) : R2 := fun x y H Q => ∃ l k xs, x = .ref l ∧ y = .int k ∧ SqT K H l xs ∧ xs ≠ [] ∧ 0 ≤ k ∧ k ≤ 1000 ∧ xs.length ≤ 1000 ∧ (k = 1 → Q (.ref l) H) ∧ (k ≠ 1 → ∀ p, H p = none → Q (.ref p) (upd H p (.tup (List.replicate k.toNat xs).flatten)))
/-- tuple * int, none and once too -/
theorem op_repTA {X : Cx} : OpR X (binaryOp .Mult) (rRepTA X.K) := by
  intro pins s σ H x y v u Q I rx ry h
  obtain ⟨l, k, xs, rfl, rfl, hT, hne, h0, h1, hz, q1, q2⟩ := h
  by_cases hk2 : 2 ≤ k
  · exact op_repT pins s σ H (.ref l) (.int k) v u Q I rx ry ⟨l, k, xs, rfl, rfl, hT, hne, hk2, h1, hz, q2 (by omega)⟩
  cases rx
  obtain ⟨t, rfl⟩ := ry
  obtain ⟨its, r, ⟨⟨cls, dd, data, sl⟩, ho, hc, n, hd⟩, hs⟩ := I.tuple hT
  simp only at hc hd
  subst hc hd
  have hle : its.length = xs.length := r.length.symm
  have hn : its ≠ [] := fun e => hne (by
    rw [e] at hle
    exact List.eq_nil_of_length_eq_zero hle.symm)
  have hi : its.toArray.isEmpty = false := by
    cases its with
    | nil => exact absurd rfl hn
    | cons a b => rfl
  have hk : k = 0 ∨ k = 1 := by omega
  rcases hk with rfl | rfl
  · refine wpAny_binaryOp_repeat_ref (T := "tuple") (U := "int") (by decide) ⟨_, ho, rfl⟩ (fun s' => typeIs_int s' 0 t) noFill_tuple_mul F.fills_int_mul F.slot_int_rmul repeat_tuple F.slot_int_index.lookup
      (call_meets F.slot_int_rmul (typeIs_int s 0 t) F.entry_int_rmul (F.args_int_rmul_2 _ _) (int_rmul_tuple 0 t l its.toArray n dd sl)
        ⟨ho, rfl, ⟨_, ho, rfl⟩, call_meets F.slot_tuple_mul ⟨_, ho, rfl⟩ F.entry_tuple_mul (F.args_tuple_mul_2 _ _) (mul_none_new l its.toArray n sl dd t hi) ⟨ho, ?_⟩⟩)
    refine ⟨.ref s.heap.objs.size, _, I.laid (t' := s.toks) (o := .tup (List.replicate (Int.toNat 0) xs).flatten) (fun b ob q => Heap.get?_push_of_some _ q) (Nat.le_refl _) ?_, rfl, q2 (by decide) _ (I.hok.fresh (Nat.le_refl _))⟩
    exact ⟨Nat.zero_le _, [], .nil, IsTup.new _ _⟩
  · refine wpAny_binaryOp_repeat_ref (T := "tuple") (U := "int") (by decide) ⟨_, ho, rfl⟩ (fun s' => typeIs_int s' 1 t) noFill_tuple_mul F.fills_int_mul F.slot_int_rmul repeat_tuple F.slot_int_index.lookup
      (call_meets F.slot_int_rmul (typeIs_int s 1 t) F.entry_int_rmul (F.args_int_rmul_2 _ _) (int_rmul_tuple 1 t l its.toArray n dd sl)
        ⟨ho, rfl, ⟨_, ho, rfl⟩, call_meets F.slot_tuple_mul ⟨_, ho, rfl⟩ F.entry_tuple_mul (F.args_tuple_mul_2 _ _) (mul_one_same l its.toArray n sl dd t) ⟨ho, ?_⟩⟩)
    exact ⟨.ref l, H, I, rfl, q1 rfl⟩
end GT

namespace GD
open PySem PySem.Spec PyProof.Rows L2 GxR GX GS GT
theorem iteN {c A B : Prop} [Decidable c] (hc : ¬ c) (h : A) : if (!decide c) = true then A else B := by
  rw [decide_eq_false hc]
  exact iteT h
theorem inK {X : Cx} (K : PySem.W.Frag) (h : X.K = K) : OpR X (compareOp .In) (rIn K false) := by
  subst h
  exact op_in_seq
/-- the turns of a list comprehension over enumerate of a tuple -/
theorem lc_enumT {K : PySem.W.Frag} {a : Addr} {xs : List V} {g : TG} {tt : TT} {te : TE} {vs : List Nat} {σ : L2.St} {H1 : Hp} {D : Addr} {Qd : Hp → Prop} (Pv : Nat → Hp → Prop) (h0 : Pv 0 (upd H1 D (.lst []))) (hl : ∀ i H, i ≤ xs.length → Pv i H → SqT K H a xs)
    (hs : ∀ i x H T, xs[i]? = some x → Pv i H → H T = none → g (.ref T) (wipe σ vs) (upd H T (.tup [.int (i : Nat), x])) fun σ2 H2 => wipe σ2 vs = wipe σ vs ∧ tt σ2 H2 fun b H3 =>
      if b = true then te σ2 H3 fun y H4 => ∃ acc, H4 D = some (.lst acc) ∧ acc.length < sizeLine ∧ Pv (i + 1) (upd H4 D (.lst (acc ++ [y]))) else Pv (i + 1) H3) (hd : ∀ H, Pv xs.length H → Qd H) :
    ∃ W : Nat → Nat → Hp → Prop, (∃ m, W 0 m (upd H1 D (.lst []))) ∧ ∀ i m H, W i m H →
      ((GE.IteT K a).stop i H ∧ Qd H) ∨ ((GE.IteT K a).go i H ∧ ∃ Nx : Hp → Prop, (∀ H', Nx H' → ∃ m', m' < m ∧ W (i + 1) m' H') ∧ ∀ x H', (GE.IteT K a).yld i H x H' → g x (wipe σ vs) H' fun σ2 H2 => wipe σ2 vs = wipe σ vs ∧ tt σ2 H2 fun b H3 =>
        if b = true then te σ2 H3 fun y H4 => ∃ acc, H4 D = some (.lst acc) ∧ acc.length < sizeLine ∧ Nx (upd H4 D (.lst (acc ++ [y]))) else Nx H3) := by
  refine ⟨fun i m H => m = xs.length - i ∧ i ≤ xs.length ∧ Pv i H, ⟨xs.length, by simp, Nat.zero_le _, h0⟩, ?_⟩
  rintro i m H ⟨rfl, hi, p⟩
  have q := hl i H hi p
  by_cases hlt : i < xs.length
  · refine .inr ⟨⟨xs, xs[i], q, by simp [hlt]⟩, Pv (i + 1), fun H' p' => ⟨xs.length - (i + 1), by omega, rfl, hlt, p'⟩, fun x H' y => ?_⟩
    obtain ⟨T, x', rfl, hn, rfl, hx⟩ := y
    exact hs i x' H T (hx xs q) p hn
  · have e : i = xs.length := by omega
    subst e
    exact .inl ⟨⟨xs, q, Nat.le_refl _⟩, hd H p⟩
/-! ### plans -/
def oV : Option Int → V
  | none => .non
  | some h => .int h
def IsPlan (K : PySem.W.Frag) (H : Hp) (v : V) (pl : List (Option Int)) : Prop := ∃ a, v = .ref a ∧ SqT K H a (pl.map oV)
structure PlOk (n : Nat) (pl : List (Option Int)) : Prop where
  len : pl.length = n
  ok : ∀ h, some h ∈ pl → 0 ≤ h ∧ h ≤ 11
theorem Ext.plan {ex : List Addr} {H H1 : Hp} {K : PySem.W.Frag} {v : V} {pl : List (Option Int)} (e : Ext ex H H1) (h : IsPlan K H v pl) : IsPlan K H1 v pl := let ⟨a, z, h1⟩ := h; ⟨a, z, e.sqT h1⟩
def hoursN (pl : List (Option Int)) (n : Nat) : List Int := ((List.range n).map fun i : Nat => (i : Int)).filter fun h => decide (some h ∈ pl)
theorem hoursN_succ (pl : List (Option Int)) (n : Nat) : hoursN pl (n + 1) = hoursN pl n ++ (if some (n : Int) ∈ pl then [(n : Int)] else []) := by
  unfold hoursN
  rw [List.range_succ, List.map_append, List.filter_append]
  congr 1
  by_cases h : some (n : Int) ∈ pl
  · simp [h]
  · simp [h]
theorem mem_hoursN {pl : List (Option Int)} {n : Nat} {k : Int} : k ∈ hoursN pl n ↔ (0 ≤ k ∧ k < (n : Int)) ∧ some k ∈ pl := by
  unfold hoursN
  rw [List.mem_filter, decide_eq_true_eq]
  constructor
  · rintro ⟨h1, h2⟩
    obtain ⟨i, hi, rfl⟩ := List.mem_map.mp h1
    have := List.mem_range.mp hi
    exact ⟨by omega, h2⟩
  · rintro ⟨⟨h0, h1⟩, h2⟩
    exact ⟨List.mem_map.mpr ⟨k.toNat, List.mem_range.mpr (by omega), by omega⟩, h2⟩
theorem hoursN_pw (pl : List (Option Int)) : ∀ n, (hoursN pl n).Pairwise (· < ·)
  | 0 => .nil
  | n + 1 => by
    rw [hoursN_succ, List.pairwise_append]
    refine ⟨hoursN_pw pl n, ?_, fun a ha b hb => ?_⟩
    · split
      · exact List.pairwise_singleton _ _
      · exact .nil
    · have h1 := (mem_hoursN.mp ha).1
      split at hb
      · rw [List.mem_singleton.mp hb]
        exact h1.2
      · cases hb
abbrev hoursL (pl : List (Option Int)) : List Int := hoursN pl 12
theorem hoursL_mem {n : Nat} {pl : List (Option Int)} (ok : PlOk n pl) {k : Int} : k ∈ hoursL pl ↔ some k ∈ pl := by
  rw [mem_hoursN]
  exact ⟨fun h => h.2, fun h => ⟨by have := ok.ok k h; omega, h⟩⟩
theorem strict_uniq : ∀ {xs ys : List Int}, xs.Pairwise (· < ·) → ys.Pairwise (· < ·) → (∀ k, k ∈ xs ↔ k ∈ ys) → xs = ys
  | [], [], _, _, _ => rfl
  | [], y :: ys, _, _, h => absurd ((h y).mpr List.mem_cons_self) (by simp)
  | x :: xs, [], _, _, h => absurd ((h x).mp List.mem_cons_self) (by simp)
  | x :: xs, y :: ys, h1, h2, h => by
    obtain ⟨a1, a2⟩ := List.pairwise_cons.mp h1
    obtain ⟨b1, b2⟩ := List.pairwise_cons.mp h2
    have e : x = y := by
      rcases List.mem_cons.mp ((h x).mp List.mem_cons_self) with z | z
      · exact z
      · rcases List.mem_cons.mp ((h y).mpr List.mem_cons_self) with q | q
        · exact q.symm
        · have c1 := b1 x z
          have c2 := a1 y q
          omega
    subst e
    congr 1
    refine strict_uniq a2 b2 fun k => ⟨fun hk => ?_, fun hk => ?_⟩
    · rcases List.mem_cons.mp ((h k).mp (List.mem_cons_of_mem _ hk)) with z | z
      · have := a1 k hk
        omega
      · exact z
    · rcases List.mem_cons.mp ((h k).mpr (List.mem_cons_of_mem _ hk)) with z | z
      · have := b1 k hk
        omega
      · exact z
theorem inV_plan (h : Int) (pl : List (Option Int)) : inV (.int h) (pl.map oV) = decide (some h ∈ pl) := by
  rw [Bool.eq_iff_iff, decide_eq_true_eq]
  unfold inV
  rw [List.any_eq_true]
  constructor
  · rintro ⟨y, hy, e⟩
    obtain ⟨o, ho, rfl⟩ := List.mem_map.mp hy
    cases o with
    | none => simp [oV, eqV] at e
    | some k =>
      have : k = h := by simpa [oV, eqV] using e
      rw [← this]
      exact ho
  · intro hm
    exact ⟨oV (some h), List.mem_map.mpr ⟨_, hm, rfl⟩, by simp [oV, eqV]⟩
theorem flat_plan (pl : List (Option Int)) : (pl.map oV).all flatV = true := by
  rw [List.all_eq_true]
  intro y hy
  obtain ⟨o, _, rfl⟩ := List.mem_map.mp hy
  cases o <;> rfl
/-- what a barge waits, nothing where it is open -/
def waitOf (k : Book) (i : Nat) (o : Option Int) : List Int := match o, k.bs[i]? with
  | some h, some b => [h + hsum k.rv b.b.toNat - b.r]
  | _, _ => []
def waitsN (k : Book) (pl : List (Option Int)) (n : Nat) : List Int := (List.range n).flatMap fun i => waitOf k i (pl.getD i none)
theorem waitsN_succ (k : Book) (pl : List (Option Int)) (n : Nat) : waitsN k pl (n + 1) = waitsN k pl n ++ waitOf k n (pl.getD n none) := by
  unfold waitsN
  rw [List.range_succ, List.flatMap_append]
  simp
theorem waitsN_len (k : Book) (pl : List (Option Int)) : ∀ n, (waitsN k pl n).length ≤ n
  | 0 => Nat.le_refl _
  | n + 1 => by
    rw [waitsN_succ, List.length_append]
    have h1 := waitsN_len k pl n
    have h2 : (waitOf k n (pl.getD n none)).length ≤ 1 := by
      unfold waitOf
      split
      · exact Nat.le_refl _
      · exact Nat.zero_le _
    omega
theorem getD_of {pl : List (Option Int)} {i : Nat} {o : Option Int} (h : pl[i]? = some o) : pl.getD i none = o := by
  rw [List.getD_eq_getElem?_getD, h]
  rfl
theorem waitOf_none (k : Book) (i : Nat) : waitOf k i none = [] := by
  unfold waitOf
  rfl
theorem waitOf_some {k : Book} {i : Nat} {h : Int} {b : Barge} (e : k.bs[i]? = some b) : waitOf k i (some h) = [h + hsum k.rv b.b.toNat - b.r] := by
  unfold waitOf
  rw [e]
theorem ifS_ {c : TT} {a b : TS} {D D' : Ends} {σ : L2.St} {H : Hp} (e : D.nx = tIfS c a b D') (h : c σ H fun x H1 => if x = true then a D' σ H1 else b D' σ H1) : tNext D σ H := by
  show D.nx σ H
  rw [e]
  exact h
end GD

namespace GC
open PySem PySem.Spec PyProof.Rows L2
section
variable {X : Cx} {a b c d : Expr} {ta tb tc td : TE} {pos : Pos}
def tCh3 (r r' r'' : R2) (ta tb tc td : TE) : TE := fun σ H Q => ta σ H fun x H1 => tb σ H1 fun y H2 => r x y H2 fun z H3 => ∃ k, z = .bl k ∧
  (if k = true then tc σ H3 fun w' H4 => r' y w' H4 fun z' H5 => ∃ k', z' = .bl k' ∧ (if k' = true then td σ H5 fun w2 H6 => r'' w' w2 H6 Q else Q (.bl false) H5) else Q (.bl false) H3)
theorem pe_ch3 {op op' op'' : CmpOp} {r r' r'' : R2} (ho : OpR X (compareOp op) r) (ho' : OpR X (compareOp op') r') (ho2 : OpR X (compareOp op'') r'') (ha : PE X a ta) (hb : PE X b tb) (hc : PE X c tc) (hd : PE X d td)
    (hm : lastMarks [op, op', op''] [b, c, d] = false := by with_unfolding_all rfl) : PE X (.Compare a [op, op', op''] [b, c, d] pos) (tCh3 r r' r'' ta tb tc td) := by
  refine ⟨fun pins s σ H Q I h => ?_⟩
  refine Compare_chain (thn (ha.run pins s σ H _ I h) fun v s1 ⟨x, H1, I1, r1, q1⟩ => chain_link (thn (hb.run pins s1 σ H1 _ I1 q1) fun u s2 ⟨y, H2, I2, r2, q2⟩ =>
    thn (ho pins s2 σ H2 x y v u _ I2 r1 r2 q2) fun d s3 ⟨z, H3, I3, r3, k, e, q3⟩ => ?_)) hm
  subst e
  cases r3
  refine wpAny_truthy_bool ?_
  cases k with
  | false => exact ite_ff ⟨.bl false, H3, I3, rfl, q3⟩
  | true =>
    refine ite_tt (chain_link (thn (hc.run pins s3 σ H3 _ I3 q3) fun w' s4 ⟨z', H4, I4, r4, q4⟩ => thn (ho' pins s4 σ H4 y z' u w' _ I4 r2 r4 q4) fun d' s5 ⟨z2, H5, I5, r5, k', e', q5⟩ => ?_))
    subst e'
    cases r5
    refine wpAny_truthy_bool ?_
    cases k' with
    | false => exact ite_ff ⟨.bl false, H5, I5, rfl, q5⟩
    | true => exact ite_tt (chain_last (thn (hd.run pins s5 σ H5 _ I5 q5) fun w3 s6 ⟨z3, H6, I6, r6, q6⟩ => ho2 pins s6 σ H6 z' z3 w' w3 Q I6 r4 r6 q6))
theorem pt_ch3 {op op' op'' : CmpOp} {r r' r'' : R2} (ho : OpR X (compareOp op) r) (ho' : OpR X (compareOp op') r') (ho2 : OpR X (compareOp op'') r'') (ha : PE X a ta) (hb : PE X b tb) (hc : PE X c tc) (hd : PE X d td)
    (hm : lastMarks [op, op', op''] [b, c, d] = false := by with_unfolding_all rfl) : PT X (.Compare a [op, op', op''] [b, c, d] pos) (tTest (tCh3 r r' r'' ta tb tc td)) := by
  refine ⟨fun pins s σ H Q I h => ?_⟩
  refine isTrue_chain (thn (ha.run pins s σ H _ I h) fun v s1 ⟨x, H1, I1, r1, q1⟩ => test_link (thn (hb.run pins s1 σ H1 _ I1 q1) fun u s2 ⟨y, H2, I2, r2, q2⟩ =>
    thn (ho pins s2 σ H2 x y v u _ I2 r1 r2 q2) fun d s3 ⟨z, H3, I3, r3, k, e, q3⟩ => ?_)) hm
  subst e
  cases r3
  refine wpAny_truthy_bool ?_
  cases k with
  | false =>
    obtain ⟨k', e', q'⟩ := q3
    cases e'
    exact ite_ff ⟨H3, I3, q'⟩
  | true =>
    refine ite_tt (test_link (thn (hc.run pins s3 σ H3 _ I3 q3) fun w' s4 ⟨z', H4, I4, r4, q4⟩ => thn (ho' pins s4 σ H4 y z' u w' _ I4 r2 r4 q4) fun d' s5 ⟨z2, H5, I5, r5, k', e', q5⟩ => ?_))
    subst e'
    cases r5
    refine wpAny_truthy_bool ?_
    cases k' with
    | false =>
      obtain ⟨k3, e3, q'⟩ := q5
      cases e3
      exact ite_ff ⟨H5, I5, q'⟩
    | true =>
      refine ite_tt (test_last (thn (hd.run pins s5 σ H5 _ I5 q5) fun w3 s6 ⟨z3, H6, I6, r6, q6⟩ => thn (ho2 pins s6 σ H6 z' z3 w' w3 _ I6 r4 r6 q6) fun d' s7 ⟨z4, H7, I7, r7, k2, e2, q7⟩ => ?_))
      subst e2
      cases r7
      exact wpAny_truthy_bool ⟨H7, I7, q7⟩
end
theorem for_enumT {K : PySem.W.Frag} {a : Addr} {xs : List V} {g : TG} {tb : TS} {D : Ends} {σ : L2.St} {H : Hp} (Pv : Nat → L2.St → Hp → Prop) (h0 : Pv 0 σ H) (hl : ∀ i σ H, i ≤ xs.length → Pv i σ H → SqT K H a xs)
    (hs : ∀ i x σ H T, xs[i]? = some x → Pv i σ H → H T = none → g (.ref T) σ (upd H T (.tup [.int (i : Nat), x])) fun σ2 H2 => tb { D with nx := Pv (i + 1), ct := Pv (i + 1), bk := D.nx } σ2 H2) (hd : ∀ σ H, Pv xs.length σ H → D.nx σ H) :
    ∃ W : Nat → Nat → L2.St → Hp → Prop, (∃ m, W 0 m σ H) ∧ ∀ i m σ H, W i m σ H →
      ((GE.IteT K a).stop i H ∧ D.nx σ H) ∨ ((GE.IteT K a).go i H ∧ ∃ N : L2.St → Hp → Prop, (∀ σ' H', N σ' H' → ∃ m', m' < m ∧ W (i + 1) m' σ' H') ∧ ∀ x H', (GE.IteT K a).yld i H x H' → g x σ H' fun σ2 H2 => tb { D with nx := N, ct := N, bk := D.nx } σ2 H2) := by
  refine ⟨fun i m σ H => m = xs.length - i ∧ i ≤ xs.length ∧ Pv i σ H, ⟨xs.length, by simp, Nat.zero_le _, h0⟩, ?_⟩
  rintro i m σ H ⟨rfl, hi, p⟩
  have q := hl i σ H hi p
  by_cases hlt : i < xs.length
  · refine .inr ⟨⟨xs, xs[i], q, by simp [hlt]⟩, Pv (i + 1), fun σ' H' p' => ⟨xs.length - (i + 1), by omega, rfl, hlt, p'⟩, fun x H' y => ?_⟩
    obtain ⟨T, x', rfl, hn, rfl, hx⟩ := y
    exact hs i x' σ H T (hx xs q) p hn
  · have e : i = xs.length := by omega
    subst e
    exact .inl ⟨⟨xs, q, Nat.le_refl _⟩, hd σ H p⟩
end GC

namespace GD
open PySem PySem.Spec PyProof.Rows L2 GxR GX GS GT GC
/-! ### rows of texts and numbers -/
inductive Fl where
  | s (x : Str) (h : PyData.strOk x = true)
  | i (n : Int)
def Fl.v : Fl → V
  | .s x _ => .str x
  | .i n => .int n
def Fl.d : Fl → PyData
  | .s x _ => .str x
  | .i n => .int n
abbrev Row := List Fl
def rowD (r : Row) : PyData := .tuple (r.map Fl.d)
def IsRow (K : PySem.W.Frag) (H : Hp) (v : V) (r : Row) : Prop := ∃ t, v = .ref t ∧ SqT K H t (r.map Fl.v)
def IsList (K : PySem.W.Frag) (H : Hp) (p : Addr) (rs : List Row) : Prop := ∃ vs, H p = some (.lst vs) ∧ Paired (IsRow K H) vs rs
section
variable {ex : List Addr} {H H1 : Hp} {K : PySem.W.Frag} {v : V} {p : Addr} {rs : List Row} {r : Row}
theorem Ext.row (e : Ext ex H H1) (h : IsRow K H v r) : IsRow K H1 v r := let ⟨t, z, h1⟩ := h; ⟨t, z, e.sqT h1⟩
theorem Ext.rows (e : Ext ex H H1) (n : p ∉ ex) (h : IsList K H p rs) : IsList K H1 p rs := let ⟨vs, h1, h2⟩ := h; ⟨vs, e.lst p vs n h1, Paired.mapP h2 fun _ _ z => e.row z⟩
theorem IsList.new : IsList K (upd H p (.lst [])) p [] := ⟨[], upd_same, .nil⟩
theorem isRow_new {t : Addr} {xs : List V} (e : xs = r.map Fl.v) : IsRow K (upd H t (.tup xs)) (.ref t) r := ⟨t, rfl, by rw [e]; exact sqT_new⟩
theorem rows_push {vs : List V} (h1 : H p = some (.lst vs)) (h2 : Paired (IsRow K H) vs rs) (h : IsRow K H v r) : IsList K (upd H p (.lst (vs ++ [v]))) p (rs ++ [r]) :=
  ⟨_, upd_same, papp (Paired.mapP h2 fun _ _ z => (Ext.wr (ex := [p]) (by simp) h1).row z) ((Ext.wr (ex := [p]) (by simp) h1).row h)⟩
theorem pappend {α β : Type} {F : α → β → Prop} : ∀ {xs : List α} {ys : List β} {us : List α} {ws : List β}, Paired F xs ys → Paired F us ws → Paired F (xs ++ us) (ys ++ ws)
  | _, _, _, _, .nil, h => h
  | _, _, _, _, .cons r t, h => .cons r (pappend t h)
theorem dpAll_row : ∀ r : Row, DpAll K H (r.map Fl.v) (r.map Fl.d)
  | [] => .nil
  | .s x _ :: r => .cons (.str x) (dpAll_row r)
  | .i n :: r => .cons (.int n) (dpAll_row r)
theorem IsRow.dp (h : IsRow K H v r) : Dp K H v (rowD r) := by
  obtain ⟨t, rfl, z⟩ := h
  exact .tup z (dpAll_row r)
theorem dpAll_rows : ∀ {vs : List V} {rs : List Row}, Paired (IsRow K H) vs rs → DpAll K H vs (rs.map rowD)
  | _, _, .nil => .nil
  | _, _, .cons a b => .cons a.dp (dpAll_rows b)
def rowsD (rs : List Row) : PyData := .list (rs.map rowD)
theorem IsList.dp (h : IsList K H p rs) : Dp K H (.ref p) (rowsD rs) := by
  obtain ⟨vs, h1, h2⟩ := h
  exact .lst (.inl (.inl h1)) (dpAll_rows h2)
theorem lay_row : ∀ r : Row, PyData.canLayAll0 (r.map Fl.d) = true ∧ PyData.depthAll (r.map Fl.d) = 0
  | [] => ⟨rfl, rfl⟩
  | .s x h :: r => by
    obtain ⟨h1, h2⟩ := lay_row r
    constructor
    · show (PyData.strOk x && PyData.canLayAll0 (r.map Fl.d)) = true
      rw [h, h1]
      rfl
    · show max 0 (PyData.depthAll (r.map Fl.d)) = 0
      rw [h2]
      rfl
  | .i n :: r => by
    obtain ⟨h1, h2⟩ := lay_row r
    constructor
    · show (true && PyData.canLayAll0 (r.map Fl.d)) = true
      rw [h1]
      rfl
    · show max 0 (PyData.depthAll (r.map Fl.d)) = 0
      rw [h2]
      rfl
theorem lay_rows : ∀ rs : List Row, PyData.canLayAll0 (rs.map rowD) = true ∧ PyData.depthAll (rs.map rowD) ≤ 1
  | [] => ⟨rfl, Nat.zero_le _⟩
  | r :: rs => by
    obtain ⟨h1, h2⟩ := lay_rows rs
    obtain ⟨k1, k2⟩ := lay_row r
    constructor
    · show (PyData.canLayAll0 (r.map Fl.d) && PyData.canLayAll0 (rs.map rowD)) = true
      rw [h1, k1]
      rfl
    · show max (PyData.depthAll (r.map Fl.d) + 1) (PyData.depthAll (rs.map rowD)) ≤ 1
      rw [k2]
      omega
theorem lay_rowsD (rs : List Row) : (rowsD rs).canLay0 = true := (lay_rows rs).1
theorem shaped_rows (rs : List Row) : SeqAt.shaped (rowsD rs) = true := by
  have h := lay_rows rs
  unfold SeqAt.shaped
  rw [lay_rowsD rs, Bool.true_and, decide_eq_true_eq]
  show PyData.depthAll (rs.map rowD) + 1 ≤ 64
  omega
end
/-! ### what is got turn by turn -/
def cat {α : Type} (f : Nat → List α) (n : Nat) : List α := (List.range n).flatMap f
theorem cat_zero {α : Type} (f : Nat → List α) : cat f 0 = [] := rfl
theorem cat_succ {α : Type} (f : Nat → List α) (n : Nat) : cat f (n + 1) = cat f n ++ f n := by
  unfold cat
  rw [List.range_succ, List.flatMap_append]
  simp
theorem cat_le {α : Type} {f : Nat → List α} {c : Nat} (h : ∀ i, (f i).length ≤ c) : ∀ n, (cat f n).length ≤ n * c
  | 0 => by rw [cat_zero]; exact Nat.zero_le _
  | n + 1 => by
    rw [cat_succ, List.length_append, Nat.succ_mul]
    have h1 := cat_le h n
    have h2 := h n
    omega
theorem cat_pick {α : Type} {p : Nat → Prop} [DecidablePred p] {f : Nat → List α} : ∀ n, (cat (fun i => if p i then [i] else []) n).flatMap f = cat (fun i => if p i then f i else []) n
  | 0 => rfl
  | n + 1 => by
    rw [cat_succ, cat_succ, List.flatMap_append, cat_pick n]
    congr 1
    by_cases h : p n
    · rw [if_pos h, if_pos h]; simp
    · rw [if_neg h, if_neg h]; rfl
theorem flat_take {α β : Type} {xs : List α} {f : α → List β} {i : Nat} {x : α} (h : xs[i]? = some x) : (xs.take (i + 1)).flatMap f = (xs.take i).flatMap f ++ f x := by
  rw [List.take_add_one, h, List.flatMap_append]
  simp
theorem flat_le {α β : Type} {f : α → List β} {c : Nat} (h : ∀ i, (f i).length ≤ c) : ∀ xs : List α, (xs.flatMap f).length ≤ xs.length * c
  | [] => Nat.zero_le _
  | x :: xs => by
    rw [List.flatMap_cons, List.length_append, List.length_cons, Nat.succ_mul]
    have h1 := flat_le h xs
    have h2 := h x
    omega
/-! ### what speaks against a plan -/
def f_early : Fl := .s "early" (by decide +kernel)
def f_late : Fl := .s "late" (by decide +kernel)
def f_shallow : Fl := .s "shallow" (by decide +kernel)
def f_full : Fl := .s "full" (by decide +kernel)
def f_crossed : Fl := .s "crossed" (by decide +kernel)
def comesAt (k : Book) (p : Int) (h : Int) : Int := h + hsum k.rv p.toNat
def strN (k : Book) (s : Nat) : Stretch := k.rv.getD s ⟨0, 0, []⟩
def shalR (k : Book) (i : Nat) (b : Barge) (h : Int) (j : Nat) : List Row :=
  if depthAt (strN k (b.b.toNat + j)) (comesAt k (b.b + j) h) < b.d then [[f_shallow, .i i, .i (b.b + j), .i (comesAt k (b.b + j) h), .i (depthAt (strN k (b.b.toNat + j)) (comesAt k (b.b + j) h))]] else []
def endsR (k : Book) (i : Nat) (b : Barge) (h : Int) : List Row :=
  (if comesAt k b.b h < b.r then [[f_early, .i i, .i (comesAt k b.b h)]] else []) ++ (if b.u < comesAt k b.g h then [[f_late, .i i, .i (comesAt k b.g h)]] else [])
def aloneR (k : Book) (i : Nat) (b : Barge) (h : Int) : List Row := endsR k i b h ++ cat (shalR k i b h) (b.g - b.b).toNat
theorem endsR_le (k : Book) (i : Nat) (b : Barge) (h : Int) : (endsR k i b h).length ≤ 2 := by
  unfold endsR
  rw [List.length_append]
  split <;> split <;> simp
theorem shalR_le (k : Book) (i : Nat) (b : Barge) (h : Int) (j : Nat) : (shalR k i b h j).length ≤ 1 := by
  unfold shalR
  split <;> simp
theorem aloneR_le {k : Book} {b : Barge} (ok : b.Ok k.rv.length) (n8 : k.rv.length ≤ 8) (i : Nat) (h : Int) : (aloneR k i b h).length ≤ 10 := by
  unfold aloneR
  rw [List.length_append]
  have h1 := endsR_le k i b h
  have h2 := cat_le (shalR_le k i b h) (b.g - b.b).toNat
  have := ok.b0
  have := ok.gn
  omega
def bargeR (k : Book) (pl : List (Option Int)) (i : Nat) : List Row := match pl.getD i none, k.bs[i]? with
  | some h, some b => aloneR k i b h
  | _, _ => []
theorem bargeR_none {k : Book} {pl : List (Option Int)} {i : Nat} (h : pl[i]? = some none) : bargeR k pl i = [] := by
  unfold bargeR
  rw [getD_of h]
theorem bargeR_some {k : Book} {pl : List (Option Int)} {i : Nat} {h : Int} {b : Barge} (e : pl[i]? = some (some h)) (eb : k.bs[i]? = some b) : bargeR k pl i = aloneR k i b h := by
  unfold bargeR
  rw [getD_of e, eb]
theorem bargeR_le {k : Book} (ok : k.Ok) (pl : List (Option Int)) (i : Nat) : (bargeR k pl i).length ≤ 10 := by
  unfold bargeR
  split
  · rename_i b h _ hb
    exact aloneR_le (ok.ok _ (List.mem_of_getElem? hb)) ok.rv.n8 _ _
  · exact Nat.zero_le _
def memN (pl : List (Option Int)) (h : Int) (n : Nat) : List Nat := cat (fun i => if pl.getD i none = some h then [i] else []) n
theorem memN_succ (pl : List (Option Int)) (h : Int) (n : Nat) : memN pl h (n + 1) = memN pl h n ++ (if pl.getD n none = some h then [n] else []) := cat_succ _ n
theorem memN_le (pl : List (Option Int)) (h : Int) (n : Nat) : (memN pl h n).length ≤ n := by
  have z := cat_le (f := fun i => if pl.getD i none = some h then [i] else []) (c := 1) (fun i => by split <;> simp) n
  rw [Nat.mul_one] at z
  exact z
theorem memN_lt {pl : List (Option Int)} {h : Int} : ∀ {n x : Nat}, x ∈ memN pl h n → x < n
  | 0, _, z => by cases z
  | n + 1, x, z => by
    rw [memN_succ] at z
    rcases List.mem_append.mp z with z | z
    · have := memN_lt z
      omega
    · split at z
      · rw [List.mem_singleton.mp z]; omega
      · cases z
def onS (k : Book) (s : Nat) (i : Nat) : Bool := match k.bs[i]? with
  | some b => decide (b.b ≤ (s : Int)) && decide ((s : Int) < b.g)
  | none => false
def onL (k : Book) (pl : List (Option Int)) (h : Int) (s : Nat) : List Nat := (memN pl h pl.length).filter (onS k s)
def fullR (k : Book) (pl : List (Option Int)) (h : Int) (s : Nat) : List Row :=
  if (strN k s).room < ((onL k pl h s).length : Int) then [[f_full, .i h, .i s, .i ((onL k pl h s).length : Int)]] else []
theorem fullR_le (k : Book) (pl : List (Option Int)) (h : Int) (s : Nat) : (fullR k pl h s).length ≤ 1 := by
  unfold fullR
  split <;> simp
def fullH (k : Book) (pl : List (Option Int)) (h : Int) : List Row := cat (fullR k pl h) k.rv.length
def fullA (k : Book) (pl : List (Option Int)) : List Row := (hoursL pl).flatMap (fullH k pl)
theorem fullH_le {k : Book} (ok : k.Ok) (pl : List (Option Int)) (h : Int) : (fullH k pl h).length ≤ 8 := by
  have h1 := cat_le (fullR_le k pl h) k.rv.length
  have := ok.rv.n8
  unfold fullH
  omega
theorem hoursL_le (pl : List (Option Int)) : (hoursL pl).length ≤ 12 := by
  unfold hoursL hoursN
  refine Nat.le_trans (List.length_filter_le _ _) ?_
  rw [List.length_map, List.length_range]
  exact Nat.le_refl _
theorem fullT_le {k : Book} (ok : k.Ok) (pl : List (Option Int)) (i : Nat) : (((hoursL pl).take i).flatMap (fullH k pl)).length ≤ 96 := by
  have h1 := flat_le (fullH_le ok pl) ((hoursL pl).take i)
  have h2 := hoursL_le pl
  have h3 : ((hoursL pl).take i).length ≤ (hoursL pl).length := by rw [List.length_take]; omega
  omega
def crossed (a b : Barge) : Prop := a.b < b.b ∧ b.b < a.g ∧ a.g < b.g
instance (a b : Barge) : Decidable (crossed a b) := by unfold crossed; infer_instance
def crossO (k : Book) (i j : Nat) : List Row := match k.bs[i]?, k.bs[j]? with
  | some a, some b => if crossed a b then [[f_crossed, .i i, .i j]] else []
  | _, _ => []
theorem crossO_of {k : Book} {i j : Nat} {a b : Barge} (h1 : k.bs[i]? = some a) (h2 : k.bs[j]? = some b) : crossO k i j = if crossed a b then [[f_crossed, .i i, .i j]] else [] := by
  unfold crossO
  rw [h1, h2]
theorem crossO_le (k : Book) (i j : Nat) : (crossO k i j).length ≤ 1 := by
  unfold crossO
  split
  · split <;> simp
  · exact Nat.zero_le _
def crossR (k : Book) (pl : List (Option Int)) (i : Nat) : List Row := match pl.getD i none with
  | some h => cat (fun j => if pl.getD j none = some h then crossO k i j else []) pl.length
  | none => []
theorem crossR_none {k : Book} {pl : List (Option Int)} {i : Nat} (h : pl[i]? = some none) : crossR k pl i = [] := by
  unfold crossR
  rw [getD_of h]
theorem crossR_some {k : Book} {pl : List (Option Int)} {i : Nat} {h : Int} (e : pl[i]? = some (some h)) : crossR k pl i = cat (fun j => if pl.getD j none = some h then crossO k i j else []) pl.length := by
  unfold crossR
  rw [getD_of e]
theorem crossJ_le (k : Book) (pl : List (Option Int)) (h : Int) (i n : Nat) : (cat (fun j => if pl.getD j none = some h then crossO k i j else []) n).length ≤ n := by
  have z := cat_le (f := fun j => if pl.getD j none = some h then crossO k i j else []) (c := 1) (fun j => by split; exact crossO_le k i j; exact Nat.zero_le _) n
  omega
theorem crossR_le (k : Book) (pl : List (Option Int)) (n7 : pl.length ≤ 7) (i : Nat) : (crossR k pl i).length ≤ 7 := by
  unfold crossR
  split
  · rename_i h _
    have := crossJ_le k pl h i pl.length
    omega
  · exact Nat.zero_le _
theorem crossM (k : Book) (pl : List (Option Int)) (h : Int) (i : Nat) (n : Nat) : (memN pl h n).flatMap (crossO k i) = cat (fun j => if pl.getD j none = some h then crossO k i j else []) n := cat_pick n
def bargesA (k : Book) (pl : List (Option Int)) : List Row := cat (bargeR k pl) pl.length
def crossA (k : Book) (pl : List (Option Int)) : List Row := cat (crossR k pl) pl.length
def allR (k : Book) (pl : List (Option Int)) : List Row := bargesA k pl ++ fullA k pl ++ crossA k pl
theorem bargesA_le {k : Book} (ok : k.Ok) (pl : List (Option Int)) (n7 : pl.length ≤ 7) : (bargesA k pl).length ≤ 70 := by
  have := cat_le (bargeR_le ok pl) pl.length
  unfold bargesA
  omega
theorem fullA_le {k : Book} (ok : k.Ok) (pl : List (Option Int)) : (fullA k pl).length ≤ 96 := by
  have h := fullT_le ok pl (hoursL pl).length
  rw [List.take_length] at h
  exact h
theorem crossA_le {k : Book} (pl : List (Option Int)) (n7 : pl.length ≤ 7) : (crossA k pl).length ≤ 49 := by
  have := cat_le (crossR_le k pl n7) pl.length
  unfold crossA
  omega
theorem allR_le {k : Book} (ok : k.Ok) (pl : List (Option Int)) (n7 : pl.length ≤ 7) : (allR k pl).length ≤ 215 := by
  have h1 := bargesA_le ok pl n7
  have h2 := fullA_le ok pl
  have h3 := crossA_le (k := k) pl n7
  unfold allR
  rw [List.length_append, List.length_append]
  omega
theorem strN_of {k : Book} {s : Nat} {x : Stretch} (h : k.rv[s]? = some x) : strN k s = x := by
  unfold strN
  rw [List.getD_eq_getElem?_getD, h]
  rfl
def wayR (k : Book) (b : Barge) (h : Int) (j : Nat) : Row := [.i (b.b + j), .i (comesAt k (b.b + j) h), .i (depthAt (strN k (b.b.toNat + j)) (comesAt k (b.b + j) h))]
def wayL (k : Book) (b : Barge) (h : Int) (n : Nat) : List Row := (List.range n).map (wayR k b h)
theorem wayL_succ (k : Book) (b : Barge) (h : Int) (n : Nat) : wayL k b h (n + 1) = wayL k b h n ++ [wayR k b h n] := by
  unfold wayL
  rw [List.range_succ, List.map_append]
  rfl
theorem wayL_len (k : Book) (b : Barge) (h : Int) (n : Nat) : (wayL k b h n).length = n := by
  unfold wayL
  rw [List.length_map, List.length_range]
theorem wayL_get {k : Book} {b : Barge} {h : Int} {n j : Nat} {r : Row} (e : (wayL k b h n)[j]? = some r) : r = wayR k b h j ∧ j < n := by
  have hj : j < n := by
    have := (List.getElem?_eq_some_iff.mp e).1
    rw [wayL_len] at this
    exact this
  unfold wayL at e
  rw [List.getElem?_map, List.getElem?_range hj] at e
  exact ⟨(Option.some.inj e).symm, hj⟩
theorem oV_int {o : Option Int} {h : Int} : oV o = V.int h ↔ o = some h := by
  cases o with
  | none => simp [oV]
  | some x => simp [oV]
theorem scal_oV (o : Option Int) (h : Int) : scal (oV o) (.int h) = true := by
  cases o <;> rfl
theorem comesAt_nat (k : Book) (p : Nat) (h : Int) : comesAt k (p : Int) h = h + hsum k.rv p := by
  unfold comesAt
  rw [Int.toNat_natCast]
abbrev natsV (xs : List Nat) : List V := xs.map fun i : Nat => V.int (i : Int)
theorem Ext.born {H H1 H2 : Hp} {D : Addr} (e : Ext [] H H1) (hD : H D = none) (f : Ext [D] H1 H2) : Ext [] H H2 where
  tup := fun b xs z => f.tup b xs (e.tup b xs z)
  frz := fun b o u z => f.frz b o u (e.frz b o u z)
  tbl := fun b ps z t => let ⟨ps', z', t'⟩ := e.tbl b ps z t; f.tbl b ps' z' t'
  lst := fun b xs n z => f.lst b xs (by simp; exact ne_of_none z hD) (e.lst b xs (by simp) z)
  dom := fun b z => e.dom b (f.dom b z)
theorem joinIf {c : Prop} [Decidable c] {A : Prop} {G : Hp → Prop} (H2 : Hp) (P : Hp → Prop) (h2 : ¬ c → P H2) (h1 : c → (∀ H3, P H3 → G H3) → A) (rest : ∀ H3, P H3 → G H3) : if c then A else G H2 := by
  by_cases h : c
  · rw [if_pos h]
    exact h1 h rest
  · rw [if_neg h]
    exact rest H2 (h2 h)
theorem rows_cat {H : Hp} {K : PySem.W.Frag} {p : Addr} {vs ws : List V} {rs r2 : List Row} (h1 : H p = some (.lst vs)) (h2 : Paired (IsRow K H) vs rs) (h3 : Paired (IsRow K H) ws r2) : IsList K (upd H p (.lst (vs ++ ws))) p (rs ++ r2) :=
  ⟨_, upd_same, Paired.mapP (pappend h2 h3) fun _ _ z => (Ext.wr (ex := [p]) (by simp) h1).row z⟩
theorem rows_new {H : Hp} {K : PySem.W.Frag} {p : Addr} {vs ws : List V} {rs r2 : List Row} (h1 : H p = none) (h2 : Paired (IsRow K H) vs rs) (h3 : Paired (IsRow K H) ws r2) : IsList K (upd H p (.lst (vs ++ ws))) p (rs ++ r2) :=
  ⟨_, upd_same, Paired.mapP (pappend h2 h3) fun _ _ z => (Ext.new (ex := []) h1).row z⟩
end GD

namespace GD
open PySem PySem.Spec PyProof.Rows L2 GxR GX GS GT GC
theorem slTA_any {K : PySem.W.Frag} {H : Hp} {a : Addr} {xs : List V} {lo hi : Option Int} {Q : VK} (h : SqT K H a xs) (q : ∀ c H', Ext [] H H' → SqT K H' c (cutV xs lo hi) → Q (.ref c) H') : rSlTA K (.ref a) lo hi H Q := by
  refine ⟨a, xs, rfl, h, fun w => q a H Ext.refl ?_, fun _ p hp => q p _ (Ext.new hp) sqT_new⟩
  unfold cutV
  rw [w.1, w.2, List.drop_zero, Nat.sub_zero, List.take_length]
  exact h
theorem catA_any {K : PySem.W.Frag} {H : Hp} {a b : Addr} {xs ys : List V} {Q : VK} (h1 : SqT K H a xs) (h2 : SqT K H b ys) (hl : xs.length + ys.length ≤ 1000) (q : ∀ c H', Ext [] H H' → SqT K H' c (xs ++ ys) → Q (.ref c) H') : rCatA K (.ref a) (.ref b) H Q := by
  refine ⟨a, b, xs, ys, rfl, rfl, h1, h2, Nat.le_of_lt (small1000 hl), fun e => q b H Ext.refl ?_, fun _ e => q a H Ext.refl ?_, fun _ _ p hp => q p _ (Ext.new hp) sqT_new⟩
  · rw [e]; exact h2
  · rw [e, List.append_nil]; exact h1
theorem cut_drop (xs : List V) (p : Nat) (h : p ≤ xs.length) : cutV xs (some (p : Int)) none = xs.drop p := by
  unfold cutV
  rw [HT.sIx_none, HT.sIx_nat, Nat.min_eq_left h]
  exact List.take_of_length_le (by rw [List.length_drop]; omega)
def putP (pl : List (Option Int)) (i : Nat) (h : Int) : List (Option Int) := pl.take i ++ [some h] ++ pl.drop (i + 1)
theorem putP_len {pl : List (Option Int)} {i : Nat} {h : Int} (hi : i < pl.length) : (putP pl i h).length = pl.length := by
  unfold putP
  rw [List.length_append, List.length_append, List.length_take, List.length_drop, List.length_singleton]
  omega
theorem putP_ok {n : Nat} {pl : List (Option Int)} {i : Nat} {h : Int} (ok : PlOk n pl) (hi : i < pl.length) (h0 : 0 ≤ h) (h11 : h ≤ 11) : PlOk n (putP pl i h) := ⟨by rw [putP_len hi, ok.len], fun x hx => by
  unfold putP at hx
  rcases List.mem_append.mp hx with hx | hx
  · rcases List.mem_append.mp hx with hx | hx
    · exact ok.ok x (List.mem_of_mem_take hx)
    · cases List.mem_singleton.mp hx
      exact ⟨h0, h11⟩
  · exact ok.ok x (List.mem_of_mem_drop hx)⟩
theorem isi_ll {K : PySem.W.Frag} {H : Hp} {Q : VK} {a : Addr} {xs : List V} (t : H a = some (.lst xs)) (h : Q (.bl true) H) : rIsi K [.ref a, .ty "list"] H Q :=
  ⟨.ref a, .ty "list", .type "list", .type "list", true, rfl, .ty _, .base (.lst t), kit_ty (by decide +kernel), h⟩
def crossF (k : Book) (pl : List (Option Int)) (i : Nat) (n : Nat) : List Row := match pl.getD i none with
  | some h => cat (fun j => if pl.getD j none = some h then crossO k i j else []) n
  | none => []
theorem crossF_all (k : Book) (pl : List (Option Int)) (i : Nat) : crossR k pl i = crossF k pl i pl.length := rfl
theorem crossF_zero (k : Book) (pl : List (Option Int)) (i : Nat) : crossF k pl i 0 = [] := by
  unfold crossF
  split <;> rfl
theorem crossF_none {k : Book} {pl : List (Option Int)} {i : Nat} (h : pl[i]? = some none) (n : Nat) : crossF k pl i n = [] := by
  unfold crossF
  rw [getD_of h]
theorem crossF_some {k : Book} {pl : List (Option Int)} {i j : Nat} {h : Int} {o : Option Int} (e : pl[i]? = some (some h)) (ej : pl[j]? = some o) : crossF k pl i (j + 1) = crossF k pl i j ++ (if o = some h then crossO k i j else []) := by
  unfold crossF
  rw [getD_of e]
  dsimp only
  rw [cat_succ, getD_of ej]
theorem crossF_le (k : Book) (pl : List (Option Int)) (i n : Nat) : (crossF k pl i n).length ≤ n := by
  unfold crossF
  split
  · exact crossJ_le k pl _ i n
  · exact Nat.zero_le _
theorem oV_eq {o u : Option Int} : oV o = oV u ↔ o = u := by
  cases o <;> cases u <;> simp [oV]
theorem scal_oo (o u : Option Int) : scal (oV o) (oV u) = true := by
  cases o <;> cases u <;> rfl
theorem map_int {xs : List Int} {i : Nat} {x : V} (h : (xs.map V.int)[i]? = some x) : ∃ n : Int, xs[i]? = some n ∧ x = V.int n := by
  rw [List.getElem?_map] at h
  cases e : xs[i]? with
  | none => rw [e] at h; cases h
  | some n => rw [e] at h; exact ⟨n, rfl, (Option.some.inj h).symm⟩
theorem map_nat {xs : List Nat} {i : Nat} {x : V} (h : (natsV xs)[i]? = some x) : ∃ n : Nat, xs[i]? = some n ∧ x = V.int (n : Int) := by
  unfold natsV at h
  rw [List.getElem?_map] at h
  cases e : xs[i]? with
  | none => rw [e] at h; cases h
  | some n => rw [e] at h; exact ⟨n, rfl, (Option.some.inj h).symm⟩
theorem natsV_len (xs : List Nat) : (natsV xs).length = xs.length := List.length_map ..
theorem natsV_app (xs : List Nat) (n : Nat) : natsV (xs ++ [n]) = natsV xs ++ [V.int (n : Int)] := by
  unfold natsV
  rw [List.map_append]
  rfl
theorem onS_of {k : Book} {n : Nat} {b : Barge} (h : k.bs[n]? = some b) (s : Nat) : onS k s n = (decide (b.b ≤ (s : Int)) && decide ((s : Int) < b.g)) := by
  unfold onS
  rw [h]
theorem filter_next {xs : List Nat} {i n : Nat} {f : Nat → Bool} (h : xs[i]? = some n) : (xs.take (i + 1)).filter f = (xs.take i).filter f ++ (if f n = true then [n] else []) := by
  rw [List.take_add_one, h, List.filter_append]
  by_cases e : f n = true
  · rw [if_pos e]
    simp [e]
  · rw [if_neg e]
    simp [e]
theorem rep_any {K : PySem.W.Frag} {H : Hp} {t : Addr} {x : V} {n : Nat} {Q : VK} (h : SqT K H t [x]) (n7 : n ≤ 1000) (q : ∀ c H', Ext [] H H' → SqT K H' c (List.replicate n x) → Q (.ref c) H') : rRepTA K (.ref t) (.int (n : Int)) H Q := by
  refine ⟨t, _, _, rfl, rfl, h, by simp, by omega, by omega, by show 1 ≤ 1000; decide, fun h1 => q t H Ext.refl ?_, fun h1 p hp => q p _ (Ext.new hp) ?_⟩
  · have one : n = 1 := by omega
    rw [one]
    exact h
  · have es : (List.replicate (n : Int).toNat [x]).flatten = List.replicate n x := by
      rw [Int.toNat_natCast]
      simp [List.flatten_replicate_singleton]
    rw [← es]
    exact sqT_new
theorem repNone_any {K : PySem.W.Frag} {H : Hp} {t : Addr} {n : Nat} {Q : VK} (h : SqT K H t [.non]) (n7 : n ≤ 1000) (q : ∀ c H', Ext [] H H' → SqT K H' c ((List.replicate n none).map oV) → Q (.ref c) H') : rRepTA K (.ref t) (.int (n : Int)) H Q :=
  rep_any h n7 fun c H' e s => q c H' e (by rw [List.map_replicate]; exact s)
theorem eqv_nil {rs : List Row} (h : PyData.eqv (rowsD rs) (.list []) = true) : rs = [] := by
  cases rs with
  | nil => rfl
  | cons r rs => exact absurd h (by show ¬ (PyData.eqv (.list (rowD r :: rs.map rowD)) (.list []) = true); simp [PyData.eqv, PyData.eqvAll])
theorem cat_all {α : Type} {f : Nat → List α} : ∀ {n : Nat}, (∀ i, i < n → f i = []) → cat f n = []
  | 0, _ => rfl
  | n + 1, h => by rw [cat_succ, cat_all fun i hi => h i (by omega), h n (by omega)]; rfl
theorem allR_open (k : Book) (n : Nat) : allR k (List.replicate n none) = [] := by
  have g : ∀ i, (List.replicate n (none : Option Int)).getD i none = none := fun i => by
    rw [List.getD_eq_getElem?_getD, List.getElem?_replicate]
    split <;> rfl
  have h0 : hoursL (List.replicate n none) = [] := by simp [hoursL, hoursN]
  have h1 : bargesA k (List.replicate n none) = [] := cat_all fun i _ => by
    unfold bargeR
    rw [g i]
  have h2 : fullA k (List.replicate n none) = [] := by
    unfold fullA
    rw [h0]
    rfl
  have h3 : crossA k (List.replicate n none) = [] := cat_all fun i _ => by
    unfold crossR
    rw [g i]
  unfold allR
  rw [h1, h2, h3]
  rfl
theorem Ext.bornAll {H H1 H2 : Hp} {ex : List Addr} (e : Ext [] H H1) (hn : ∀ b ∈ ex, H b = none) (f : Ext ex H1 H2) : Ext [] H H2 where
  tup := fun b xs z => f.tup b xs (e.tup b xs z)
  frz := fun b o u z => f.frz b o u (e.frz b o u z)
  tbl := fun b ps z t => let ⟨ps', z', t'⟩ := e.tbl b ps z t; f.tbl b ps' z' t'
  lst := fun b xs n z => f.lst b xs (fun q => by rw [hn b q] at z; cases z) (e.lst b xs n z)
  dom := fun b z => e.dom b (f.dom b z)
theorem map_take {α β : Type} {f : α → β} {xs : List α} {i : Nat} {x : α} (h : xs[i]? = some x) : (xs.take (i + 1)).map f = (xs.take i).map f ++ [f x] := by
  rw [List.take_add_one, h, List.map_append]
  rfl
/-- the barges that have an hour -/
def setN (pl : List (Option Int)) (n : Nat) : List Nat := cat (fun i => if pl.getD i none = none then [] else [i]) n
theorem setN_succ (pl : List (Option Int)) (n : Nat) : setN pl (n + 1) = setN pl n ++ (if pl.getD n none = none then [] else [n]) := by
  unfold setN
  rw [cat_succ]
theorem setN_le (pl : List (Option Int)) (n : Nat) : (setN pl n).length ≤ n := by
  unfold setN
  have z := cat_le (f := fun i => if pl.getD i none = none then [] else [i]) (c := 1) (fun i => by split <;> simp) n
  omega
end GD

namespace GD
open PySem PySem.Spec PyProof.Rows L2 GxR GX GS GT GC
mutual
theorem Ext.dp {K : PySem.W.Frag} {H H1 : Hp} (e : Ext [] H H1) : ∀ {v : V} {d : PyData}, Dp K H v d → Dp K H1 v d
  | _, _, .non => .non
  | _, _, .bl b => .bl b
  | _, _, .int i => .int i
  | _, _, .str x => .str x
  | _, _, .lst h1 h2 => .lst (e.sqL (by simp) h1) (e.dpAll h2)
  | _, _, .tup h1 h2 => .tup (e.sqT h1) (e.dpAll h2)
theorem Ext.dpAll {K : PySem.W.Frag} {H H1 : Hp} (e : Ext [] H H1) : ∀ {vs : List V} {ds : List PyData}, DpAll K H vs ds → DpAll K H1 vs ds
  | _, _, .nil => .nil
  | _, _, .cons a b => .cons (e.dp a) (e.dpAll b)
end
theorem eqDK {X : Cx} (K : PySem.W.Frag) (hu : X.A.units + 64 < cLine) (hk : X.K = K) : OpR X (compareOp .Eq) (rEqD K) := by
  subst hk
  exact op_eqD hu
theorem neDK {X : Cx} (K : PySem.W.Frag) (hu : X.A.units + 64 < cLine) (hk : X.K = K) : OpR X (compareOp .NotEq) (rNeD K) := by
  subst hk
  exact op_neD hu
def tTr (K : PySem.W.Frag) (ta : TE) : TT := fun σ H Q => ta σ H fun x H' => ∃ k, TruV K x H' k ∧ Q k H'
theorem pt_tru {X : Cx} {a : Expr} {ta : TE} (K : PySem.W.Frag) (ha : PE X a ta) (hk : X.K = K) (he : ∀ whole, isTrue a X.env whole = (do let v ← whole; standAt a.pos; holding [v] (truthy v))) : PT X a (tTr K ta) := by
  subst hk
  exact pt_truth ha he
/-! ### data of tuples and scalars -/
mutual
inductive Td (K : PySem.W.Frag) (H : Hp) : V → PyData → Prop
  | non : Td K H .non .none
  | bl (b : Bool) : Td K H (.bl b) (.bool b)
  | int (i : Int) : Td K H (.int i) (.int i)
  | str (x : Str) : Td K H (.str x) (.str x)
  | tup {a : Addr} {xs : List V} {ds : List PyData} : SqT K H a xs → TdAll K H xs ds → Td K H (.ref a) (.tuple ds)
inductive TdAll (K : PySem.W.Frag) (H : Hp) : List V → List PyData → Prop
  | nil : TdAll K H [] []
  | cons {v : V} {vs : List V} {d : PyData} {ds : List PyData} : Td K H v d → TdAll K H vs ds → TdAll K H (v :: vs) (d :: ds)
end
mutual
theorem Ext.td {K : PySem.W.Frag} {ex : List Addr} {H H1 : Hp} (e : Ext ex H H1) : ∀ {v : V} {d : PyData}, Td K H v d → Td K H1 v d
  | _, _, .non => .non
  | _, _, .bl b => .bl b
  | _, _, .int i => .int i
  | _, _, .str x => .str x
  | _, _, .tup h1 h2 => .tup (e.sqT h1) (e.tdAll h2)
theorem Ext.tdAll {K : PySem.W.Frag} {ex : List Addr} {H H1 : Hp} (e : Ext ex H H1) : ∀ {vs : List V} {ds : List PyData}, TdAll K H vs ds → TdAll K H1 vs ds
  | _, _, .nil => .nil
  | _, _, .cons a b => .cons (e.td a) (e.tdAll b)
end
mutual
theorem Td.dp {K : PySem.W.Frag} {H : Hp} : ∀ {v : V} {d : PyData}, Td K H v d → Dp K H v d
  | _, _, .non => .non
  | _, _, .bl b => .bl b
  | _, _, .int i => .int i
  | _, _, .str x => .str x
  | _, _, .tup h1 h2 => .tup h1 h2.dp
theorem TdAll.dp {K : PySem.W.Frag} {H : Hp} : ∀ {vs : List V} {ds : List PyData}, TdAll K H vs ds → DpAll K H vs ds
  | _, _, .nil => .nil
  | _, _, .cons a b => .cons a.dp b.dp
end
theorem TdAll.app {K : PySem.W.Frag} {H : Hp} : ∀ {vs ws : List V} {ds es : List PyData}, TdAll K H vs ds → TdAll K H ws es → TdAll K H (vs ++ ws) (ds ++ es)
  | _, _, _, _, .nil, h => h
  | _, _, _, _, .cons a b, h => .cons a (b.app h)
theorem TdAll.len {K : PySem.W.Frag} {H : Hp} : ∀ {vs : List V} {ds : List PyData}, TdAll K H vs ds → vs.length = ds.length
  | _, _, .nil => rfl
  | _, _, .cons a b => by rw [List.length_cons, List.length_cons, b.len]
theorem td_row {K : PySem.W.Frag} {H : Hp} : ∀ r : Row, TdAll K H (r.map Fl.v) (r.map Fl.d)
  | [] => .nil
  | .s x _ :: r => .cons (.str x) (td_row r)
  | .i n :: r => .cons (.int n) (td_row r)
theorem IsRow.td {K : PySem.W.Frag} {H : Hp} {v : V} {r : Row} (h : IsRow K H v r) : Td K H v (rowD r) := by
  obtain ⟨t, rfl, z⟩ := h
  exact .tup z (td_row r)
/-! ### least of a list -/
def minD (ns : List Int) : Int := (ns.min?).getD 0
theorem minD_eq {ns : List Int} {m : Int} (h1 : m ∈ ns) (h2 : ∀ y, y ∈ ns → m ≤ y) : m = minD ns := by
  have h : ns.min? = some m := List.min?_eq_some_iff.mpr ⟨h1, h2⟩
  unfold minD
  rw [h]
  rfl
def dls (k : Book) (b : Barge) (h : Int) (n : Nat) : List Int := (List.range n).map fun j => depthAt (strN k (b.b.toNat + j)) (comesAt k (b.b + j) h)
theorem dls_succ (k : Book) (b : Barge) (h : Int) (n : Nat) : dls k b h (n + 1) = dls k b h n ++ [depthAt (strN k (b.b.toNat + n)) (comesAt k (b.b + n) h)] := by
  unfold dls
  rw [List.range_succ, List.map_append]
  rfl
theorem dls_len (k : Book) (b : Barge) (h : Int) (n : Nat) : (dls k b h n).length = n := by
  unfold dls
  rw [List.length_map, List.length_range]
/-- what a barge has to spare -/
def spareR (k : Book) (b : Barge) (h : Int) : Row := [.i (h + hsum k.rv b.b.toNat - b.r), .i (b.u - (h + hsum k.rv b.g.toNat)), .i (minD (dls k b h (b.g - b.b).toNat) - b.d)]
def spareD (k : Book) (pl : List (Option Int)) (i : Nat) : PyData := match pl.getD i none, k.bs[i]? with
  | some h, some b => rowD (spareR k b h)
  | _, _ => .none
theorem spareD_none {k : Book} {pl : List (Option Int)} {i : Nat} (h : pl[i]? = some none) : spareD k pl i = .none := by
  unfold spareD
  rw [getD_of h]
theorem spareD_some {k : Book} {pl : List (Option Int)} {i : Nat} {h : Int} {b : Barge} (e : pl[i]? = some (some h)) (eb : k.bs[i]? = some b) : spareD k pl i = rowD (spareR k b h) := by
  unfold spareD
  rw [getD_of e, eb]
def spareN (k : Book) (pl : List (Option Int)) (n : Nat) : List PyData := (List.range n).map (spareD k pl)
theorem spareN_succ (k : Book) (pl : List (Option Int)) (n : Nat) : spareN k pl (n + 1) = spareN k pl n ++ [spareD k pl n] := by
  unfold spareN
  rw [List.range_succ, List.map_append]
  rfl
theorem spareN_len (k : Book) (pl : List (Option Int)) (n : Nat) : (spareN k pl n).length = n := by
  unfold spareN
  rw [List.length_map, List.length_range]
theorem lay_list {g : Nat → PyData} {n : Nat} (h : ∀ a, (g a).canLay0 = true ∧ (g a).depth ≤ n) : ∀ as : List Nat, PyData.canLayAll0 (as.map g) = true ∧ PyData.depthAll (as.map g) ≤ n
  | [] => ⟨rfl, Nat.zero_le _⟩
  | a :: as => by
    obtain ⟨h1, h2⟩ := lay_list h as
    obtain ⟨k1, k2⟩ := h a
    constructor
    · show (PyData.canLay0 (g a) && PyData.canLayAll0 (as.map g)) = true
      rw [h1, k1]
      rfl
    · show max (PyData.depth (g a)) (PyData.depthAll (as.map g)) ≤ n
      omega
theorem lay_rowD (r : Row) : (rowD r).canLay0 = true ∧ (rowD r).depth ≤ 1 := by
  obtain ⟨h1, h2⟩ := lay_row r
  exact ⟨h1, by show PyData.depthAll _ + 1 ≤ 1; omega⟩
theorem shaped_at {d : PyData} {n : Nat} (h : d.canLay0 = true ∧ d.depth ≤ n) (hn : n ≤ 64) : SeqAt.shaped d = true := by
  unfold SeqAt.shaped
  rw [h.1, Bool.true_and, decide_eq_true_eq]
  have := h.2
  omega
theorem lay_spare (k : Book) (pl : List (Option Int)) (n : Nat) : (PyData.list (spareN k pl n)).canLay0 = true ∧ (PyData.list (spareN k pl n)).depth ≤ 2 := by
  obtain ⟨h1, h2⟩ := lay_list (g := spareD k pl) (n := 1) (fun i => by
    unfold spareD
    split
    · exact lay_rowD _
    · exact ⟨rfl, Nat.zero_le _⟩) (List.range n)
  exact ⟨h1, by show PyData.depthAll _ + 1 ≤ 2; exact Nat.succ_le_succ h2⟩
/-! ### for each hour, what speaks against it -/
def alonesD (k : Book) (i : Nat) (b : Barge) (n : Nat) : List PyData := (List.range n).map fun h : Nat => rowsD (aloneR k i b (h : Int))
theorem alonesD_succ (k : Book) (i : Nat) (b : Barge) (n : Nat) : alonesD k i b (n + 1) = alonesD k i b n ++ [rowsD (aloneR k i b (n : Int))] := by
  unfold alonesD
  rw [List.range_succ, List.map_append]
  rfl
theorem lay_alones (k : Book) (i : Nat) (b : Barge) (n : Nat) : (PyData.list (alonesD k i b n)).canLay0 = true ∧ (PyData.list (alonesD k i b n)).depth ≤ 3 := by
  obtain ⟨h1, h2⟩ := lay_list (g := fun h : Nat => rowsD (aloneR k i b (h : Int))) (n := 2) (fun h => by
    obtain ⟨a, c⟩ := lay_rows (aloneR k i b (h : Int))
    exact ⟨a, by show PyData.depthAll _ + 1 ≤ 2; omega⟩) (List.range n)
  exact ⟨h1, by show PyData.depthAll _ + 1 ≤ 3; exact Nat.succ_le_succ h2⟩
/-- a list of one's own, for an hour -/
def IsAlone (B : Hp) (K : PySem.W.Frag) (H : Hp) (k : Book) (i : Nat) (b : Barge) (v : V) (h : Nat) : Prop := ∃ d, v = .ref d ∧ B d = none ∧ IsList K H d (aloneR k i b (h : Int))
theorem Ext.alone {ex : List Addr} {H H1 B : Hp} {K : PySem.W.Frag} {k : Book} {i : Nat} {b : Barge} {v : V} {h : Nat} (e : Ext ex H H1) (n : ∀ x ∈ ex, B x ≠ none) (z : IsAlone B K H k i b v h) : IsAlone B K H1 k i b v h :=
  let ⟨d, z1, z2, z3⟩ := z
  ⟨d, z1, z2, e.rows (fun q => n d q z2) z3⟩
theorem alones_dp {B : Hp} {K : PySem.W.Frag} {H : Hp} {k : Book} {i : Nat} {b : Barge} {hs : List Nat} : ∀ {vs : List V} {hs : List Nat}, Paired (IsAlone B K H k i b) vs hs → DpAll K H vs (hs.map fun h : Nat => rowsD (aloneR k i b (h : Int)))
  | _, _, .nil => .nil
  | _, _, .cons ⟨d, z1, _, z3⟩ t => .cons (by rw [z1]; exact z3.dp) (alones_dp (hs := hs) t)
theorem alones_dpN {B : Hp} {K : PySem.W.Frag} {H : Hp} {k : Book} {i : Nat} {b : Barge} {vs : List V} {n : Nat} (h : Paired (IsAlone B K H k i b) vs (List.range n)) : DpAll K H vs (alonesD k i b n) := alones_dp (hs := []) h
/-! ### plans with hours given to several -/
def joinP (pl : List (Option Int)) (g : List Nat) (h : Int) : List (Option Int) := g.foldl (fun p b => putP p b h) pl
theorem joinP_len {h : Int} : ∀ {g : List Nat} {pl : List (Option Int)}, (∀ b ∈ g, b < pl.length) → (joinP pl g h).length = pl.length
  | [], _, _ => rfl
  | b :: g, pl, hb => by
    show (joinP (putP pl b h) g h).length = _
    have e := putP_len (h := h) (hb b (by simp))
    rw [joinP_len fun x hx => by rw [e]; exact hb x (by simp [hx]), e]
theorem joinP_ok {n : Nat} {h : Int} (h0 : 0 ≤ h) (h11 : h ≤ 11) : ∀ {g : List Nat} {pl : List (Option Int)}, PlOk n pl → (∀ b ∈ g, b < pl.length) → PlOk n (joinP pl g h)
  | [], _, ok, _ => ok
  | b :: g, pl, ok, hb => by
    show PlOk n (joinP (putP pl b h) g h)
    exact joinP_ok (pl := putP pl b h) h0 h11 (putP_ok ok (hb b (by simp)) h0 h11) fun x hx => by rw [putP_len (hb b (by simp))]; exact hb x (by simp [hx])
theorem joinP_take {pl : List (Option Int)} {g : List Nat} {h : Int} {i b : Nat} (e : g[i]? = some b) : joinP pl (g.take (i + 1)) h = putP (joinP pl (g.take i) h) b h := by
  unfold joinP
  rw [List.take_add_one, e, List.foldl_append]
  rfl
def togN (k : Book) (i j : Nat) (n : Nat) : List Nat := cat (fun h : Nat => if allR k (joinP (List.replicate k.bs.length none) [i, j] (h : Int)) = [] then [h] else []) n
theorem togN_succ (k : Book) (i j : Nat) (n : Nat) : togN k i j (n + 1) = togN k i j n ++ (if allR k (joinP (List.replicate k.bs.length none) [i, j] (n : Int)) = [] then [n] else []) := by
  unfold togN
  rw [cat_succ]
theorem togN_le (k : Book) (i j : Nat) (n : Nat) : (togN k i j n).length ≤ n := by
  unfold togN
  have z := cat_le (f := fun h : Nat => if allR k (joinP (List.replicate k.bs.length none) [i, j] (h : Int)) = [] then [h] else []) (c := 1) (fun i => by split <;> simp) n
  omega
theorem open_ok (n : Nat) : PlOk n (List.replicate n none) := ⟨by simp, fun h hh => absurd hh (by simp)⟩
theorem lay_natsL (xs : List Nat) : (PyData.list (xs.map fun i : Nat => PyData.int (i : Int))).canLay0 = true ∧ (PyData.list (xs.map fun i : Nat => PyData.int (i : Int))).depth ≤ 1 := by
  obtain ⟨h1, h2⟩ := lay_list (g := fun i : Nat => PyData.int (i : Int)) (n := 0) (fun a => ⟨rfl, Nat.le_refl _⟩) xs
  exact ⟨h1, by show PyData.depthAll _ + 1 ≤ 1; exact Nat.succ_le_succ h2⟩
theorem dp_natsL {K : PySem.W.Frag} {H : Hp} : ∀ xs : List Nat, DpAll K H (natsV xs) (xs.map fun i : Nat => .int (i : Int))
  | [] => .nil
  | x :: xs => .cons (.int _) (dp_natsL xs)
theorem eqv_same {d : PyData} (h : d.canLay0 = true) : PyData.eqv d d = true := SeqAt.eqv_refl _ h
end GD

/-! ### rules around exceptions -/
namespace GXC
open PySem PySem.Spec PyProof.Rows L2
theorem eqU_count {k : V} {uk : Value} (rk : RelV k uk) : ∀ {ys : List V} {us : List Value}, Vals ys us → ys.all flatV = true → us.countP (eqU k) = ys.countP fun y => eqV y k
  | _, _, .nil, _ => rfl
  | y :: ys, u :: us, .cons r t, h => by
    rw [List.all_cons, Bool.and_eq_true] at h
    rw [List.countP_cons, List.countP_cons, eqU_count rk t h.2, eqU_of r h.1]
section
variable {X : Cx}
def rCntF (K : PySem.W.Frag) : V → List V → Hp → VK → Prop := fun x xs H Q => ∃ (p : Addr) (ys : List V) (y : V), x = .ref p ∧ xs = [y] ∧ SqL K H p ys ∧ flatV y = true ∧ ys.all flatV = true ∧ Q (.int ((ys.countP fun z => eqV z y : Nat) : Int)) H
theorem mt_countF : MtR X "list.count" (rCntF X.K) := by
  intro pins s σ H x xs v us Q I rx rxs h
  obtain ⟨p, ys, y, rfl, rfl, hs, fy, fys, q⟩ := h
  cases rx
  cases rxs with
  | cons ry rt =>
    rename_i uy ut
    cases rt
    obtain ⟨its, rv, ⟨⟨cls, dd, data, sl⟩, n, ho, hc, hdn, hd⟩, hlen⟩ := I.list hs
    simp only at hc hd
    subst hc hd
    refine call_meets PySem.F.slot_list_count ⟨_, ho, rfl⟩ PySem.F.entry_list_count (PySem.F.args_list_count_2 _ _)
      (SeqAt.list_countAt p its.toArray n dd sl uy (eqU y)) ⟨ho, fun u' hu' => mem_eqAt ry fy rv fys u' (by simpa using hu'), ?_⟩
    have ec : its.toArray.toList.countP (eqU y) = ys.countP fun z => eqV z y := by
      rw [List.toList_toArray]
      exact eqU_count ry rv fys
    refine ⟨.int ((ys.countP fun z => eqV z y : Nat) : Int), H, I.tok _, ⟨s.toks, ?_⟩, q⟩
    show Value.int ((its.toArray.toList.countP (eqU y) : Nat) : Int) s.toks = Value.int ((ys.countP fun z => eqV z y : Nat) : Int) s.toks
    rw [ec]
end
theorem countK {X : Cx} (K : PySem.W.Frag) (h : X.K = K) : MtR X "list.count" (rCntF K) := by
  subst h
  exact mt_countF
theorem indexK {X : Cx} (K : PySem.W.Frag) (h : X.K = K) : MtR X "list.index" (rIndex K) := by
  subst h
  exact mt_index
section
variable {X : Cx} {o e : Expr} {es : List Expr} {to : TE} {t : TA} {name : Str} {apos cpos : Pos} {T id : String} {r : V → List V → Hp → VK → Prop}
theorem pe_bmK (K : PySem.W.Frag) (hk : X.K = K) (pa : PlainAttrs T) (slot : Slot T name id) (hty : typeOf (.builtin id) = pure (.type "method_descriptor")) (hm : MtR X id r) (ho : PE X o to) (ha : PA X (e :: es) t)
    (hbase : attributeBase o name X.env (eval o X.env) = eval o X.env := by rfl)
    (hfew : ((backTo cpos (starEach (e :: es) X.env)).all (fun x => !x.1) && (backToKw cpos (keywordEach [] X.env)).all (fun x => x.1.isSome)
      && decide ((e :: es).length + ([] : List Keyword).length + (if ([] : List Keyword).isEmpty then 0 else 1) < 30)) = true := by rfl)
    (hline : (apos.endLine == cpos.line) = true := by rfl) (hs : starEach (e :: es) X.env = (false, eval e X.env) :: starEach es X.env := by rfl) (hplain : (backTo cpos (starEach es X.env)).any (·.1) = false := by rfl) :
    PE X (.Call (.Attribute o name apos) (e :: es) [] cpos) (tBM K T r to t) := by
  subst hk
  exact pe_bm pa slot hty hm ho ha hbase hfew hline hs hplain
end
/-- the exception's own dict: none, or tracked -/
def OwnD (H : Hp) (d : Option Addr) : Prop := d = none ∨ ∃ dd fs, d = some dd ∧ H dd = some (.xd fs)
/-- isinstance(e, c), e the exception that the suite holds, of a class that the reading tells -/
def rIsX (K : PySem.W.Frag) (a : Addr) (cls : Value) (d : Option Addr) : List V → Hp → VK → Prop := fun xs H Q => ∃ (D : Addr) (c : V) (cv : Value) (b : Bool), cls = .ref D ∧ OwnD H d ∧ ExcC K D ∧ xs = [.ref a, c] ∧ ClsV c cv ∧ PySem.W.kitOne K (.ref D) cv = some b ∧ Q (.bl b) H
def rIsXT (K : PySem.W.Frag) (a : Addr) (cls : Value) (d : Option Addr) : List V → Hp → VK → Prop := fun xs H Q => ∃ (D tp : Addr) (cs : List V) (us : List Value) (b : Bool), cls = .ref D ∧ OwnD H d ∧ ExcC K D ∧ xs = [.ref a, .ref tp] ∧ H tp = some (.tup cs) ∧ Paired ClsV cs us ∧ PySem.W.kitAny K (.ref D) us = some b ∧ Q (.bl b) H
section
variable {X : Cx} {a : Addr} {cls : Value} {d : Option Addr} {oe : Obj} {pn : List (Addr × Obj)}
theorem kitC {D x : Addr} {ox : Obj} {od : Option Obj} (C : ExcC X.K D) : PySem.W.KitX X.K (.ref x) (.ref D) (fun h => PySem.W.InstAt h x ox D od) := by
  refine PySem.W.kitx_exc ?_ C.hg C.hk C.hs C.ha C.hn C.ht C.hm
  obtain ⟨cd, hc, _⟩ := PySem.W.any_some C.hd
  rw [hc]
  rfl
theorem inst_of {D : Addr} {pins : List (Addr × Obj)} {s : Shared} {σ : L2.St} {H : Hp} (I : Inv (X.suite a ((a, oe) :: pn)) pins σ H s) (hz : Zc (.ref D) d oe) (hf : ∃ vs, oe.data = .fields vs) (od : OwnD H d) : ∃ oo, PySem.W.InstAt s.heap a oe D oo := by
  obtain ⟨hget, _⟩ := I.pin (a, oe) (List.mem_append.mpr (.inl List.mem_cons_self))
  obtain ⟨vs, hv⟩ := hf
  have ncl : PySem.W.notCls oe := by unfold PySem.W.notCls; rw [hv] <;> rfl
  rcases od with rfl | ⟨dd, fs, rfl, hd⟩
  · exact ⟨none, hget, hz.1, ncl, by rw [hz.2]; trivial⟩
  · have hx : ObjOk X.prog X.w H s.heap dd (.xd fs) := I.hok dd _ hd
    obtain ⟨mA, hns, _⟩ := hx
    obtain ⟨od, ho, _⟩ := lookIn_ns hns
    exact ⟨some od, hget, hz.1, ncl, by rw [hz.2]; exact ho⟩
theorem call_isX (hz : Zc cls d oe) (hf : ∃ vs, oe.data = .fields vs) : CallR (X.suite a ((a, oe) :: pn)) (.builtin "isinstance") (rIsX X.K a cls d) := by
  intro pins s σ H xs us Q I r h
  obtain ⟨D, c, cv, b, rfl, od, C, rfl, hcv, e, q⟩ := h
  cases r with
  | cons rx rr =>
    cases rr with
    | cons rt rr =>
      cases rr
      cases rx
      have ec := hcv.eq rt
      subst ec
      obtain ⟨oo, J⟩ := inst_of I hz hf od
      exact PySem.W.kia_one (kitC C) I.kIn J e (fun z => nomatch z) fun tk => ⟨.bl b, H, I.kept (t' := tk) fun _ _ z => z, rfl, q⟩
theorem call_isXT (hz : Zc cls d oe) (hf : ∃ vs, oe.data = .fields vs) : CallR (X.suite a ((a, oe) :: pn)) (.builtin "isinstance") (rIsXT X.K a cls d) := by
  intro pins s σ H xs us Q I r h
  obtain ⟨D, tp, cs, ws, b, rfl, od, C, rfl, hT, k, e, q⟩ := h
  obtain ⟨u1, u2, rfl, r1, r2⟩ := vals2 r
  cases (show u2 = Value.ref tp from r2)
  cases r1
  obtain ⟨oo, J⟩ := inst_of I hz hf od
  obtain ⟨_, its, rv, o, h1, h2, n, h3⟩ := (show ObjOk X.prog X.w H s.heap tp (.tup cs) from I.hok tp _ hT)
  have e3 := ClsV.all k rv
  subst e3
  obtain ⟨oc, od2, dt, sl⟩ := o
  simp only at h2 h3
  subst h2 h3
  exact PySem.W.kia_tup (kitC C) I.kIn J h1 e (fun z => nomatch z) fun tk => ⟨.bl b, H, I.kept (t' := tk) fun _ _ z => z, rfl, q⟩
end
/-! ### what the head tells of exception classes -/
open PySem.W in
def excCB (K : PySem.W.Frag) (D : Addr) : Bool :=
  He.eqO (findIn K (.ref D) "__getattribute__") (some (some (.builtin "BaseException.__getattribute__"))) && (He.eqO (findIn K (.ref D) "__getattr__") (some none) && (decide (subIn K (.ref D) (.type "BaseException") = some true) && (hasDictIn K D &&
    (He.eqO (findIn K (.ref D) "__class__") (some (some (.builtin "object.__class__"))) && (He.eqO (specialIn K (.builtin "object.__class__") "__get__") (some (some (.builtin "getset_descriptor.__get__"))) && (decide (takesIn K (.builtin "object.__class__") = some true) && decide (mroIn K D (.type "object") = some true)))))))
theorem excCB_ok {K : PySem.W.Frag} {D : Addr} (h : excCB K D = true) : ExcC K D := by
  obtain ⟨h1, h⟩ := He.ba h
  obtain ⟨h2, h⟩ := He.ba h
  obtain ⟨h3, h⟩ := He.ba h
  obtain ⟨h4, h⟩ := He.ba h
  obtain ⟨h5, h⟩ := He.ba h
  obtain ⟨h6, h⟩ := He.ba h
  obtain ⟨h7, h8⟩ := He.ba h
  exact ⟨He.eqO_ok h1, He.eqO_ok h2, of_decide_eq_true h3, h4, He.eqO_ok h5, He.eqO_ok h6, of_decide_eq_true h7, of_decide_eq_true h8⟩
def exAll (cs : List Str) (K : PySem.W.Frag) : Bool := cs.all fun c => excCB K (He.ga K c) && (decide (PySem.W.kitOne K (.ref (He.ga K c)) (.type "ValueError") = some true) && cs.all fun d => decide (PySem.W.kitOne K (.ref (He.ga K c)) (.ref (He.ga K d)) = some (decide (c = d))))
theorem exAll_c {cs : List Str} {K : PySem.W.Frag} (h : exAll cs K = true) {c : Str} (hc : c ∈ cs) : ExcC K (He.ga K c) ∧ PySem.W.kitOne K (.ref (He.ga K c)) (.type "ValueError") = some true := by
  have h1 := List.all_eq_true.mp h c hc
  obtain ⟨a, b⟩ := He.ba h1
  obtain ⟨b1, b2⟩ := He.ba b
  exact ⟨excCB_ok a, of_decide_eq_true b1⟩
theorem exAll_k {cs : List Str} {K : PySem.W.Frag} (h : exAll cs K = true) {c d : Str} (hc : c ∈ cs) (hd : d ∈ cs) : PySem.W.kitOne K (.ref (He.ga K c)) (.ref (He.ga K d)) = some (decide (c = d)) := by
  have h1 := List.all_eq_true.mp h c hc
  obtain ⟨a, b⟩ := He.ba h1
  obtain ⟨b1, b2⟩ := He.ba b
  exact of_decide_eq_true (List.all_eq_true.mp b2 d hd)
end GXC

/-! ### tuple(elt for tg in iter if ..) -/
namespace GX
open PySem PySem.Spec PyProof.Rows L2 GxR GenW
/-- two built-in calls deeper -/
abbrev up2 (X : Cx) : Cx := { X with A := X.A.in1.in1 }
theorem inv_up {X : Cx} {s4 : Shared} {H4 : Hp} {cenv : Env} {fp : List Addr} {pn pins : List (Addr × Obj)} {σ : L2.St} {H : Hp} {s : Shared} (I : Inv (gcx X s4 H4 cenv fp pn) pins σ H s) : Inv (gcx (up2 X) s4 H4 cenv fp pn) pins σ H s :=
  ⟨⟨I.ok.mod, I.ok.kind, I.ok.glob, I.ok.blt, I.ok.above, I.ok.inj, I.ok.has, I.ok.cab, I.ok.hd, I.ok.frames, I.ok.stk, I.ok.exf, I.ok.bs, I.ok.bsz, I.ok.noex, I.ok.exfs, I.ok.funs, I.ok.frf⟩, I.os, I.bare, I.base, I.loc, I.cell, I.free, I.freeC, I.pin, I.hok, I.len⟩
theorem inv_down {X : Cx} {s4 : Shared} {H4 : Hp} {cenv : Env} {fp : List Addr} {pn pins : List (Addr × Obj)} {σ : L2.St} {H : Hp} {s : Shared} (I : Inv (gcx (up2 X) s4 H4 cenv fp pn) pins σ H s) : Inv (gcx X s4 H4 cenv fp pn) pins σ H s :=
  ⟨⟨I.ok.mod, I.ok.kind, I.ok.glob, I.ok.blt, I.ok.above, I.ok.inj, I.ok.has, I.ok.cab, I.ok.hd, I.ok.frames, I.ok.stk, I.ok.exf, I.ok.bs, I.ok.bsz, I.ok.noex, I.ok.exfs, I.ok.funs, I.ok.frf⟩, I.os, I.bare, I.base, I.loc, I.cell, I.free, I.freeC, I.pin, I.hok, I.len⟩
def IpLst (S : Addr) (z : List V) (ip : List (Addr × Obj)) : Prop := ∃ acc c, ip = [(S, lstObj acc c)] ∧ Vals z acc.toList
section
variable {X : Cx} {s4 : Shared} {H4 : Hp} {cenv : Env} {fp : List Addr} {pn : List (Addr × Obj)} {tn : Nat → Heap → Prop} {σ0 : L2.St}
theorem inv_lst {S : Addr} {H : Hp} {s : Shared} {acc acc' : Array Value} {c c' : Nat} {h' : Heap} {tk : Nat} (I : Inv (gcx X s4 H4 cenv fp pn) [(S, lstObj acc c)] σ0 H s)
    (hSfp : S ∉ fp) (hSpn : ∀ p ∈ pn, p.1 ≠ S) (hS4 : s4.heap.objs.size ≤ S) (hk : ∀ b o, b ≠ S → s.heap.get? b = some o → h'.get? b = some o) (hS : h'.get? S = some (lstObj acc' c')) :
    Inv (gcx X s4 H4 cenv fp pn) [(S, lstObj acc' c')] σ0 H { s with heap := h', toks := tk } := by
  obtain ⟨p1, p2, p3, p4, p5⟩ := I.pin (S, lstObj acc c) (List.mem_append_right _ (List.mem_singleton.mpr rfl))
  have I0 : Inv (gcx X s4 H4 cenv fp pn) [] σ0 H s := I.pins_of fun p hp => absurd hp (by simp)
  have I1 : Inv (gcx X s4 H4 cenv fp pn) [] σ0 H { s with heap := h', toks := tk } := by
    refine I0.turned (it := S) hk p2 p3 (.inr hS4) (fun x cc e zz => ?_) fun p hp => ?_
    · obtain ⟨v, o, ho, hd⟩ := I.cell x cc e
      rw [zz, p1] at ho
      cases ho
      cases hd
    · rw [List.append_nil] at hp
      exact hSpn p hp
  refine I1.pins_of fun p hp => ?_
  rw [List.mem_singleton.mp hp]
  exact ⟨hS, p2, p3, p4, fun v q => by cases q⟩
theorem vals_push {z : List V} {acc : Array Value} {y : V} {v : Value} (h : Vals z acc.toList) (r : RelV y v) : Vals (z ++ [y]) (acc.push v).toList := by
  rw [Array.toList_push]
  exact h.append (.cons r .nil)
variable {W : Nat → Nat → List V → Hp → Prop} {Sp : List V → Hp → Prop} {Yw : List V → (List V → Hp → Prop) → V → Hp → Prop} {a : Addr} {g : Nat}
theorem tup_loop {Rr : Result → Shared → Prop} {S : Addr} {res : Value} (hh : X.A.handled = none) (hroom : X.A.depth < recursionLimit) (hgen : ∀ s ip H, Inv (gcx X s4 H4 cenv fp pn) ip σ0 H s → s.heap.IsGen a g)
    (hSfp : S ∉ fp) (hSpn : ∀ p ∈ pn, p.1 ≠ S) (hS4 : s4.heap.objs.size ≤ S) (hkeep : ∀ i (h h' : Heap), tn i h → (∀ b ∈ fp, ∀ o, h.get? b = some o → h'.get? b = some o) → tn i h')
    (hYw : ∀ z Nx y H, Yw z Nx y H → z.length < sizeLine ∧ Nx (z ++ [y]) H)
    (hR : ∀ z acc c H s', Vals z acc.toList → Inv (gcx X s4 H4 cenv fp pn) [(S, lstObj acc c)] σ0 H s' → Sp z H → Rr (.ok (.ret res)) s') :
    ∀ (n : Nat) (s : Shared), (∃ gs, s.gens[g]? = some gs ∧ gs.Goes (model X.prog X.w) X.A.in1.in1 (fun n s₀ r s₁ => r = .ok .next ∧ GEndP X s4 H4 cenv fp pn σ0 (IpLst S) Sp s₀ s₁) (GYield X s4 H4 cenv fp pn tn σ0 W (IpLst S) Yw) n (.send .none) (s.setGen g .running)) →
      s.heap.NoLimit → s.heap.IsGen a g → codeAny (model X.prog X.w) X.A (.builtin "list.extend.loop" ⟨[.ref S, .ref a, res], []⟩) Rr s := by
  intro n
  induction n using Nat.strongRecOn with
  | ind n ih =>
    intro s ⟨gs, hgs, hgo⟩ hl hg
    refine codeAny_builtin F.entry_extend_loop ?_
    rw [Around.under_plainId F.plain_extend_loop _]
    show wpAny _ X.A.in1 (pyNext (.ref a) >>= _) _ _ s
    refine wpAny_bind (next_of (A := X.A) hh hroom hl hg hgs hgo (fun z ip H s' h0 hip sp I => ?_) (fun i m z y v ip H Nx s' h0 ⟨gs1, hgs1⟩ ry hip I ht nf hNx yw res' => ?_))
    · obtain ⟨acc, c, rfl, hv⟩ := hip
      exact wpAny_pure (hR z acc c H s' hv I sp)
    · obtain ⟨acc, c, rfl, hv⟩ := hip
      obtain ⟨hlen, hnx⟩ := hYw z Nx y H yw
      obtain ⟨m', hm, w'⟩ := hNx _ _ hnx
      have hS' : s'.heap.get? S = some (lstObj acc c) := (I.pin (S, lstObj acc c) (List.mem_append_right _ (List.mem_singleton.mpr rfl))).1
      have hasz : acc.size < sizeLine := by
        have e : z.length = acc.toList.length := hv.length
        have e2 : acc.size = acc.toList.length := Array.length_toList.symm
        rw [e2, ← e]
        exact hlen
      show wpAny _ X.A.in1 (updateSeq S (·.push v) >>= _) _ _ _
      refine wpAny_bind ?_
      refine wpAny_updateSeq hS' rfl (wpAny_pure ⟨plainId_quiet F.plain_extend_loop _, ?_⟩) (Nat.le_of_lt hasz) (by show (acc.push v).size ≤ sizeLine + 1; rw [Array.size_push]; omega)
      obtain ⟨c', hup⟩ : ∃ c', (s'.heap.update S (Obj.mapSeq (·.push v))).get? S = some (lstObj (acc.push v) c') := ⟨_, Heap.get?_update_self _ hS' rfl⟩
      have I2 : Inv (gcx X s4 H4 cenv fp pn) [(S, lstObj (acc.push v) c')] σ0 H { s' with heap := s'.heap.update S (Obj.mapSeq (·.push v)), toks := s'.toks } :=
        inv_lst I hSfp hSpn hS4 (fun b o hb e => (Heap.get?_update_other _ _ (Ne.symm hb)).trans e) hup
      obtain ⟨gs2, k, h1, h2, h3⟩ := res' { s' with heap := s'.heap.update S (Obj.mapSeq (·.push v)) } [(S, lstObj (acc.push v) c')] (z ++ [y]) m' H ⟨gs1, hgs1, hgs1⟩ hm
        ⟨w', ⟨_, _, rfl, vals_push hv ry⟩, I2, hkeep _ _ _ ht fun b hb o e => (Heap.get?_update_other _ _ (fun z : S = b => hSfp (by rw [z]; exact hb))).trans e, nf⟩
      exact ih k (by omega) _ ⟨gs2, h1, h3⟩ I2.nolimit (hgen _ _ _ I2)
end
section
variable {prog : Program} {w : World} {A : Around} {E : Value → Shared → Prop} {s : Shared}
/-- what a generator hands out, in a new list -/
theorem collect_own {Q : List Value → Shared → Prop} {a : Addr} {g : Nat} (hg : s.heap.IsGen a g) (hlt : a < s.heap.objs.size)
    (hloop : ∀ h4 : Heap, (∀ b o, b ≠ s.heap.objs.size → s.heap.get? b = some o → h4.get? b = some o) → (∃ c, h4.get? s.heap.objs.size = some (lstObj #[] c)) →
      codeAny (model prog w) A (.builtin "list.extend.loop" ⟨[.ref s.heap.objs.size, .ref a, .ref s.heap.objs.size], []⟩) (fun r s' => ∃ acc c, r = .ok (.ret (.ref s.heap.objs.size)) ∧ s'.heap.get? s.heap.objs.size = some (lstObj acc c) ∧ Q acc.toList s') { s with heap := h4 }) :
    wpAny (model prog w) A (collect (.ref a)) Q E s := by
  have hSa : s.heap.objs.size ≠ a := Nat.ne_of_gt hlt
  unfold collect
  refine wpAny_bind (wpAny_runValue (codeAny_builtin F.entry_proto_collect ?_))
  rw [Around.under_plainId F.plain_proto_collect _]
  show wpAny _ A.in1 (newList [] >>= fun l => again (.builtin "list.__iadd__" ⟨[l, .ref a], []⟩)) _ _ s
  refine wpAny_bind (wpAny_newObj_type ?_)
  refine wpAny_pure ⟨plainId_quiet F.plain_list_iadd _, codeAny_builtin F.entry_list_iadd ?_⟩
  rw [Around.under_plainId F.plain_list_iadd _]
  show wpAny _ A.in1 (Builtin.List.listExtendWith (.ref s.heap.objs.size) (.ref a) (.ref s.heap.objs.size)) _ _ _
  unfold Builtin.List.listExtendWith
  have k1 : ∀ b o, s.heap.get? b = some o → (s.heap.push { cls := .type "list", data := .seq ([] : List Value).toArray }).get? b = some o := fun b o e => Heap.get?_push_of_some _ e
  have gty : ∀ {h : Heap}, (∀ b o, s.heap.get? b = some o → h.get? b = some o) → h.IsGen a g := fun {h} q => hg.keeps q
  refine wpAny_bind (wpAny_typeOf (Heap.IsGen.typeIs (s := { s with heap := _ }) (gty k1)) ?_)
  have h1 : Builtin.List.listSameRef (.ref s.heap.objs.size) (.ref a) = false := by simp [Builtin.List.listSameRef, hSa]
  have h2 : (Value.type "generator" == Value.type "list") = false := by decide
  have h3 : (Value.type "generator" == Value.type "tuple") = false := by decide
  simp only [h1, h2, h3, Bool.or_false, Bool.false_eq_true, if_false]
  refine wpAny_bind (wpAny_pyIter_gen (s := { s with heap := _ }) (gty k1) ?_)
  refine wpAny_bind (wpAny_holding ?_)
  unfold Builtin.List.listLengthHint
  refine wpAny_bind (wpAny_specialOf (Heap.IsGen.typeIs (s := { s with heap := _ }) (gty k1)) F.gen_no_len ?_)
  show wpAny _ A.in1 (specialOf (Value.ref a) (Str.ofString "__length_hint__") >>= _) _ _ _
  refine wpAny_bind (wpAny_specialOf (Heap.IsGen.typeIs (s := { s with heap := _ }) (gty k1)) F.gen_no_hint ?_)
  refine wpAny_pure ?_
  show wpAny _ A.in1 (rule "list.extend.makes-room" >>= fun _ => Builtin.List.listTouch (.ref s.heap.objs.size) >>= fun _ =>
    again (.builtin "list.extend.loop" ⟨[.ref s.heap.objs.size, .ref a, .ref s.heap.objs.size], []⟩)) _ _ _
  refine wpAny_bind (wpAny_rule ?_)
  have hS₁ : (s.heap.push { cls := .type "list", data := .seq ([] : List Value).toArray }).get? s.heap.objs.size = some { cls := .type "list", data := .seq ([] : List Value).toArray } := Heap.get?_push_size _ rfl
  refine wpAny_bind ?_
  show wpAny _ A.in1 (updateSeq s.heap.objs.size (·.push .none) >>= fun _ => updateSeq s.heap.objs.size (·.pop)) _ _ _
  refine wpAny_bind (wpAny_updateSeq hS₁ rfl ?_)
  have hS₂ := Heap.get?_update_self (Obj.mapSeq (·.push Value.none)) hS₁ rfl
  refine wpAny_updateSeq hS₂ rfl ?_
  have hS₃ := Heap.get?_update_self (Obj.mapSeq (·.pop)) hS₂ rfl
  have oth : ∀ b o, b ≠ s.heap.objs.size → s.heap.get? b = some o →
      (((s.heap.push { cls := .type "list", data := .seq ([] : List Value).toArray }).update s.heap.objs.size (Obj.mapSeq (·.push Value.none))).update s.heap.objs.size (Obj.mapSeq (·.pop))).get? b = some o :=
    fun b o hb e => (Heap.get?_update_other _ _ (Ne.symm hb)).trans ((Heap.get?_update_other _ _ (Ne.symm hb)).trans (k1 b o e))
  refine wpAny_pure ⟨plainId_quiet F.plain_extend_loop _, codeAny_mono (hloop _ oth ⟨_, hS₃⟩) fun r s' hr => ?_⟩
  obtain ⟨acc, c, rfl, hS', q⟩ := hr
  show wpAny _ A (load s.heap.objs.size >>= _) _ _ s'
  refine wpAny_bind (wpAny_load hS' ?_)
  exact wpAny_pure q
end
section
variable {X : Cx}
/-- tuple(elt for tg in iter if ..), by an invariant of the turn, a measure, what is collected and the heap -/
def tTupG (P : Addr) (wi : TI) (g : TG) (tt : TT) (te : TE) (vs : List Nat) : TE := fun σ H Q => wi σ H fun J H1 => TabG H1 P ∧ ∀ H2, Tabbed P H1 H2 → ∃ W : Nat → Nat → List V → Hp → Prop, (∃ m, W 0 m [] H2) ∧ ∀ i m z H, W i m z H →
  (J.stop i H ∧ z.length ≤ sizeLine ∧ ∀ p, H p = none → Q (.ref p) (upd H p (.tup z))) ∨ (J.go i H ∧ ∃ Nx : List V → Hp → Prop, (∀ z' H', Nx z' H' → ∃ m', m' < m ∧ W (i + 1) m' z' H') ∧ ∀ x H', J.yld i H x H' → g x (wipe σ vs) H' fun σ2 H2 => wipe σ2 vs = wipe σ vs ∧ tt σ2 H2 fun b H3 =>
    if b = true then te σ2 H3 fun y H4 => z.length < sizeLine ∧ Nx (z ++ [y]) H4 else Nx z H3)
variable {c P : Addr} {elt tg iter : Expr} {ifs : List Expr} {p pos gpos : Pos} {scope : Scope} {own : List (Str × Nat)} {wi : TI} {g : TG} {tt : TT} {te : TE} {k : Nat}
theorem pe_tupleG (hr : Room k X.A) (hgl : Gl X "tuple") (hm : X.mg "tuple" = none) (TB : TabB X.base X.mg c P) (hcode : X.env.code = .ref c) (ok : GenOk X.N X.env.scope scope own) (hN : X.N.Nodup) (hi : PI X tg iter wi)
    (hg : ∀ (s : Shared) (H : Hp) (C : Addr) (cl : List (Str × Addr)) (cd : Value) (fp : List Addr) (pn : List (Addr × Obj)), PG (gcx (up2 X) s H (genEnv scope cl C cd builtinsNs X.env) fp pn) tg g)
    (ht : ∀ (s : Shared) (H : Hp) (C : Addr) (cl : List (Str × Addr)) (cd : Value) (fp : List Addr) (pn : List (Addr × Obj)), PTs (gcx (up2 X) s H (genEnv scope cl C cd builtinsNs X.env) fp pn) ifs tt)
    (he : ∀ (s : Shared) (H : Hp) (C : Addr) (cl : List (Str × Addr)) (cd : Value) (fp : List Addr) (pn : List (Addr × Obj)), PE (gcx (up2 X) s H (genEnv scope cl C cd builtinsNs X.env) fp pn) elt te)
    (hs : ∀ v, genFold iter X.env v = pure v := by intro _; rfl)
    (hst : starEach [.GeneratorExp elt [⟨tg, iter, ifs, 0⟩] scope gpos] X.env = (false, eval (.GeneratorExp elt [⟨tg, iter, ifs, 0⟩] scope gpos) X.env) :: starEach [] X.env := by rfl) :
    PE X (.Call (.Name "tuple" p) [.GeneratorExp elt [⟨tg, iter, ifs, 0⟩] scope gpos] [] pos) (tTupG P wi g tt te (own.map (·.2))) := by
  refine ⟨fun pins s σ H Q I h => ?_⟩
  refine wpAny_Call_Name_kw (ld_blt I hgl hm (show bootBuiltins ("tuple" : Str) = some (.type "tuple") by decide +kernel) ?_)
  refine PyProof.Rows.callWith_type1 ?_ hst (by rfl)
  rw [hst]
  show wpAny _ _ (spliced ((false, eval (.GeneratorExp elt [⟨tg, iter, ifs, 0⟩] scope gpos) X.env) :: backTo pos (starEach [] X.env))) _ _ s
  refine Calls.spliced_cons (gen_made hr TB hcode ok hN hi hs I h fun J H2 s4 s5 cenv it fp tn a gn go hR M => ?_)
  obtain ⟨W, ⟨m0, w0⟩, turn⟩ := hR
  obtain ⟨C, cd, rfl⟩ := M.env
  refine Calls.spliced_nil ?_
  have hgen : ∀ s ip H, Inv (gcx X s4 H2 (genEnv scope (cloFrom X.env.cells scope.names []) C cd builtinsNs X.env) fp [(a, go)]) ip (wipe σ (own.map (·.2))) H s → s.heap.IsGen a gn := fun s ip H I' =>
    M.gen _ (I'.pin (a, go) (List.mem_append_left _ (List.mem_singleton.mpr rfl))).1
  have hg5 := hgen _ _ _ M.inv
  refine callType_codes (Q₁ := fun obj s₁ => s₁.TypeIs obj "tuple" ∧ EP X pins σ Q obj s₁) F.called_tuple (F.typeCall_tuple_1 _) F.entry_object_init (codeAny_of_tree ?_) fun obj s₁ h₁ => ?_
  · show wpAny _ X.A.in1.in1 (do checkBuiltinCall "tuple.__new__" ⟨[.type "tuple", .ref a], []⟩; again (.builtin "tuple.__new__" ⟨[.type "tuple", .ref a], []⟩)) _ _ s5
    refine wpAny_bind (wpAny_of_eq (F.newCall_tuple_1 _) (wpAny_pure ⟨plainId_quiet F.plain_tuple_new _, codeAny_builtin F.entry_tuple_new ?_⟩))
    rw [Around.under_plainId F.plain_tuple_new _]
    have hsub := sub_tuple_self
    have hinit := init_tuple_lookup
    have hmh := madeHere_tuple
    have hTI := Heap.IsGen.typeIs (s := s5) hg5
    have Sz : s4.heap.objs.size ≤ s5.heap.objs.size := M.inv.sz
    have hSfp : s5.heap.objs.size ∉ fp := fun hm => by
      have h1 := M.fa _ hm
      have h2 := M.lt
      exact absurd (Nat.lt_trans h1 h2) (Nat.lt_irrefl _)
    have key : ∀ {Q1 : List Value → Shared → Prop} {E1 : Value → Shared → Prop}, (∀ (z : List V) (acc : Array Value) (c : Nat) (H : Hp) (s' : Shared), Vals z acc.toList → z.length ≤ sizeLine → Inv X pins σ H s' → (∀ p, H p = none → Q (.ref p) (upd H p (.tup z))) → Q1 acc.toList s') →
        wpAny (model X.prog X.w) X.A.in1.in1 (collect (.ref a)) Q1 E1 s5 := fun {Q1 E1} hQ1 => by
      refine collect_own hg5 M.lt fun h4 k4 hS4 => ?_
      obtain ⟨c0, hS4⟩ := hS4
      have I6 : Inv (gcx (up2 X) s4 H2 (genEnv scope (cloFrom X.env.cells scope.names []) C cd builtinsNs X.env) fp [(a, go)]) [(s5.heap.objs.size, lstObj #[] c0)] (wipe σ (own.map (·.2))) H2 { s5 with heap := h4 } := by
        have I0 : Inv (gcx X s4 H2 (genEnv scope (cloFrom X.env.cells scope.names []) C cd builtinsNs X.env) fp [(a, go)]) [] (wipe σ (own.map (·.2))) H2 { s5 with heap := h4 } := M.inv.kept fun b o e => k4 b o (Nat.ne_of_lt (Heap.lt_size e)) e
        refine inv_up (I0.pins_of fun p hp => ?_)
        rw [List.mem_singleton.mp hp]
        have fk := M.inv.fpOk (Nat.le_refl _) (M.inv.hok.fresh (Nat.le_refl _))
        exact ⟨hS4, fk.1, fk.2.1, fk.2.2.1, fun v q => by cases q⟩
      generalize hs6 : ({ s5 with heap := h4 } : Shared) = s6 at I6
      have gs6 : s6.gens = s5.gens := by rw [← hs6]
      have hh6 : s6.heap = h4 := by rw [← hs6]
      have st6 : tn 0 s6.heap := M.turn.keep _ _ _ M.tn0 fun b hb o e => by
        rw [hh6]
        exact k4 b o (fun z => hSfp (by rw [← z]; exact hb)) e
      have sg := seg_first (X := up2 X) (W := W) (Ip := IpLst s5.heap.objs.size) (Sp := fun z H => z.length ≤ sizeLine ∧ ∀ p, H p = none → Q (.ref p) (upd H p (.tup z))) (Yw := fun z Nx y H => z.length < sizeLine ∧ Nx (z ++ [y]) H) (vs := own.map (·.2)) (σ0 := wipe σ (own.map (·.2)))
        (iter := iter) (scope := scope) (pos := gpos) (s := s6.setGen gn .running) (s₀ := s6.setGen gn .running) (m := m0) (n := m0 + 1) (z := []) (ip := [(s5.heap.objs.size, lstObj #[] c0)]) (H := H2) ok.co (fun z ip hip b hb q hq e => ?_) M.turn (hg s4 H2 C (cloFrom X.env.cells scope.names []) cd fp [(a, go)]) (ht s4 H2 C (cloFrom X.env.cells scope.names []) cd fp [(a, go)]) (he s4 H2 C (cloFrom X.env.cells scope.names []) cd fp [(a, go)])
        (show Turns J g tt te (wipe σ (own.map (·.2))) (own.map (·.2)) W (fun z H => z.length ≤ sizeLine ∧ ∀ p, H p = none → Q (.ref p) (upd H p (.tup z))) (fun z Nx y H => z.length < sizeLine ∧ Nx (z ++ [y]) H) from turn) (Nat.lt_succ_self _) ⟨w0, ⟨_, _, rfl, .nil⟩, inv_gens I6 (allBare_setGen I6.bare rfl), st6, fun b hb => (M.fok b hb).1⟩ (fun p hp => by rw [List.mem_singleton.mp hp]; exact (I6.pin (s5.heap.objs.size, lstObj #[] c0) (List.mem_append_right _ (List.mem_singleton.mpr rfl))).1)
      · exact tup_loop (X := up2 X) (W := W) (S := s5.heap.objs.size) (a := a) (g := gn) hr.hd (by have := hr.dp; show X.A.depth < _; omega) (fun s ip H I' => hgen s ip H (inv_down I')) hSfp (fun p hp e => by
            rw [List.mem_singleton.mp hp] at e
            have h2 := M.lt
            rw [show a = s5.heap.objs.size from e] at h2
            exact Nat.lt_irrefl _ h2) Sz M.turn.keep (fun z Nx y H h => h) (fun z acc c H s' hv I' q => ⟨acc, c, rfl, (I'.pin (s5.heap.objs.size, lstObj acc c) (List.mem_append_right _ (List.mem_singleton.mpr rfl))).1, hQ1 z acc c H s' hv q.1 (back M.i4 M.fok (inv_down I')) q.2⟩)
          (m0 + 1) s6 ⟨.fresh _, by rw [gs6]; exact M.gs, rfl, sg⟩ I6.nolimit (hgen _ _ _ (inv_down I6))
      · obtain ⟨acc, c, rfl, _⟩ := hip
        rcases List.mem_append.mp hq with hq | hq
        · rw [List.mem_singleton.mp hq] at e
          have := M.fa b hb
          rw [← e] at this
          exact Nat.lt_irrefl _ this
        · rw [List.mem_singleton.mp hq] at e
          exact hSfp (by rw [show s5.heap.objs.size = b from e]; exact hb)
    wp_walk using wpAny_typeOf hTI, key
    intro z acc c H' s' hv hz I' q
    show wpAny _ _ (Builtin.Tuple.tupleExact acc.toList.toArray >>= fun v => ret v) _ _ _
    unfold Builtin.Tuple.tupleExact
    have ez : z.length = acc.toList.length := hv.length
    have ez2 : acc.size = acc.toList.length := Array.length_toList.symm
    refine wpAny_bind (wpAny_newObj_type ?_ (by show acc.toList.toArray.size ≤ sizeLine; simp only [Array.toArray_toList]; rw [ez2, ← ez]; exact hz))
    refine wpAny_pure ?_
    refine ⟨⟨_, Heap.get?_push_size _ rfl, rfl⟩, .ref s'.heap.objs.size, upd H' s'.heap.objs.size (.tup z), ?_, rfl, q _ (I'.hok.fresh (Nat.le_refl _))⟩
    refine I'.laid (t' := s'.toks) (fun b u e => Heap.get?_push_of_some _ e) (Nat.le_refl _) ⟨hz, acc.toList, hv, _, Heap.get?_push_size _ rfl, rfl, _, rfl⟩
  · exact ⟨h₁.1, F.args_object_init_2 obj _, object_init_meets F.called_tuple.init.lookup F.called_tuple.made (by decide) _ _ X.A.in1 _ s₁ ⟨h₁.1, rfl, h₁.2⟩⟩
end
end GX

namespace GD
open PySem PySem.Spec PyProof.Rows L2 GxR GX GS GT GC
/-! ### good plans, by the pairs of hours and barges -/
theorem catNil {α : Type} {f : Nat → List α} : ∀ {n : Nat}, cat f n = [] ↔ ∀ i, i < n → f i = []
  | 0 => ⟨fun _ i h => absurd h (Nat.not_lt_zero i), fun _ => rfl⟩
  | n + 1 => by
    rw [cat_succ, List.append_eq_nil_iff, catNil]
    constructor
    · rintro ⟨h1, h2⟩ i hi
      by_cases c : i = n
      · subst c; exact h2
      · exact h1 i (by omega)
    · exact fun h => ⟨fun i hi => h i (by omega), h n (by omega)⟩
/-- nothing speaks against an hour for a barge alone -/
def Fits (k : Book) (b : Barge) (h : Int) : Prop := b.r ≤ comesAt k b.b h ∧ comesAt k b.g h ≤ b.u ∧ ∀ j, j < (b.g - b.b).toNat → b.d ≤ depthAt (strN k (b.b.toNat + j)) (comesAt k (b.b + j) h)
instance (k : Book) (b : Barge) (h : Int) : Decidable (Fits k b h) := by unfold Fits; infer_instance
theorem alone_fits (k : Book) (i : Nat) (b : Barge) (h : Int) : aloneR k i b h = [] ↔ Fits k b h := by
  unfold aloneR endsR Fits
  rw [List.append_eq_nil_iff, List.append_eq_nil_iff, catNil, and_assoc]
  refine and_congr ?_ (and_congr ?_ (forall_congr' fun j => imp_congr_right fun _ => ?_))
  · by_cases c : comesAt k b.b h < b.r
    · rw [if_pos c]; exact ⟨fun z => (by cases z), fun z => absurd c (by omega)⟩
    · rw [if_neg c]; exact ⟨fun _ => by omega, fun _ => rfl⟩
  · by_cases c : b.u < comesAt k b.g h
    · rw [if_pos c]; exact ⟨fun z => (by cases z), fun z => absurd c (by omega)⟩
    · rw [if_neg c]; exact ⟨fun _ => by omega, fun _ => rfl⟩
  · unfold shalR
    by_cases c : depthAt (strN k (b.b.toNat + j)) (comesAt k (b.b + j) h) < b.d
    · rw [if_pos c]; exact ⟨fun z => (by cases z), fun z => absurd c (by omega)⟩
    · rw [if_neg c]; exact ⟨fun _ => by omega, fun _ => rfl⟩
abbrev Pr := Option Int × Barge
def onB (s : Nat) (b : Barge) : Bool := decide (b.b ≤ (s : Int)) && decide ((s : Int) < b.g)
def pairs (k : Book) (pl : List (Option Int)) : List Pr := pl.zip k.bs
def cntP (ps : List Pr) (h : Int) (s : Nat) : Nat := ps.countP fun p => decide (p.1 = some h) && onB s p.2
structure GoodP (k : Book) (ps : List Pr) : Prop where
  fits : ∀ p ∈ ps, ∀ h, p.1 = some h → Fits k p.2 h
  room : ∀ h s, s < k.rv.length → (cntP ps h s : Int) ≤ (strN k s).room
  cross : ∀ p ∈ ps, ∀ q ∈ ps, ∀ h, p.1 = some h → q.1 = some h → ¬ crossed p.2 q.2
theorem pairs_get {k : Book} {pl : List (Option Int)} {i : Nat} {o : Option Int} {b : Barge} (h1 : pl[i]? = some o) (h2 : k.bs[i]? = some b) : (pairs k pl)[i]? = some (o, b) := by
  unfold pairs
  rw [List.getElem?_zip_eq_some]
  exact ⟨h1, h2⟩
theorem pairs_len {k : Book} {pl : List (Option Int)} (h : pl.length = k.bs.length) : (pairs k pl).length = pl.length := by
  unfold pairs
  rw [List.length_zip]
  omega
theorem onL_count {k : Book} {pl : List (Option Int)} (hl : pl.length = k.bs.length) (h : Int) (s : Nat) : ∀ n, n ≤ pl.length → ((memN pl h n).filter (onS k s)).length = ((pairs k pl).take n).countP fun p => decide (p.1 = some h) && onB s p.2
  | 0, _ => rfl
  | n + 1, hn => by
    have ih := onL_count hl h s n (by omega)
    obtain ⟨o, ho⟩ : ∃ o, pl[n]? = some o := ⟨pl[n]'(by omega), List.getElem?_eq_getElem (by omega)⟩
    obtain ⟨b, hb⟩ : ∃ b, k.bs[n]? = some b := ⟨k.bs[n]'(by omega), List.getElem?_eq_getElem (by omega)⟩
    rw [memN_succ, List.filter_append, List.length_append, ih, List.take_add_one, pairs_get ho hb, List.countP_append, getD_of ho]
    congr 1
    by_cases c : o = some h
    · rw [if_pos c]
      have e1 : onS k s n = onB s b := onS_of hb s
      have e2 : (decide (o = some h) && onB s b) = onB s b := by rw [decide_eq_true c]; rfl
      show (List.filter (onS k s) [n]).length = List.countP _ [(o, b)]
      by_cases c2 : onB s b = true
      · simp [e1, c2, c]
      · simp [e1, c2]
    · rw [if_neg c]
      show 0 = List.countP _ [(o, b)]
      simp [c]
theorem onL_cnt {k : Book} {pl : List (Option Int)} (hl : pl.length = k.bs.length) (h : Int) (s : Nat) : (onL k pl h s).length = cntP (pairs k pl) h s := by
  have e := onL_count hl h s pl.length (Nat.le_refl _)
  unfold onL cntP
  rw [e, List.take_of_length_le (by rw [pairs_len hl]; exact Nat.le_refl _)]
theorem crossO_nil {k : Book} {i j : Nat} {a b : Barge} (h1 : k.bs[i]? = some a) (h2 : k.bs[j]? = some b) : crossO k i j = [] ↔ ¬ crossed a b := by
  rw [crossO_of h1 h2]
  by_cases c : crossed a b
  · rw [if_pos c]; exact ⟨fun z => (by cases z), fun z => absurd c z⟩
  · rw [if_neg c]; exact ⟨fun _ => c, fun _ => rfl⟩
theorem good_iff {k : Book} {pl : List (Option Int)} (ok : k.Ok) (okp : PlOk k.bs.length pl) : allR k pl = [] ↔ GoodP k (pairs k pl) := by
  have hl : pl.length = k.bs.length := okp.len
  have getp : ∀ {p : Pr}, p ∈ pairs k pl → ∃ i : Nat, i < pl.length ∧ pl[i]? = some p.1 ∧ k.bs[i]? = some p.2 := fun {p} hp => by
    obtain ⟨i, hi, e⟩ := List.mem_iff_getElem.mp hp
    have e2 : (pairs k pl)[i]? = some p := by rw [List.getElem?_eq_getElem hi, e]
    unfold pairs at e2
    rw [List.getElem?_zip_eq_some] at e2
    exact ⟨i, (List.getElem?_eq_some_iff.mp e2.1).1, e2.1, e2.2⟩
  unfold allR
  rw [List.append_eq_nil_iff, List.append_eq_nil_iff]
  constructor
  · rintro ⟨⟨h1, h2⟩, h3⟩
    refine ⟨fun p hp h e => ?_, fun h s hs => ?_, fun p hp q hq h e1 e2 => ?_⟩
    · obtain ⟨i, hi, a1, a2⟩ := getp hp
      have := catNil.mp h1 i hi
      rw [e] at a1
      rw [bargeR_some a1 a2] at this
      exact (alone_fits k i p.2 h).mp this
    · by_cases hh : h ∈ hoursL pl
      · unfold fullA at h2
        have h4 := catNil.mp (List.flatMap_eq_nil_iff.mp h2 h hh) s hs
        unfold fullR at h4
        rw [onL_cnt hl] at h4
        by_cases c : (strN k s).room < (cntP (pairs k pl) h s : Int)
        · rw [if_pos c] at h4; cases h4
        · omega
      · have e0 : cntP (pairs k pl) h s = 0 := by
          unfold cntP
          rw [List.countP_eq_zero]
          intro p hp z
          rw [Bool.and_eq_true, decide_eq_true_eq] at z
          obtain ⟨i, hi, a1, _⟩ := getp hp
          rw [z.1] at a1
          exact hh ((hoursL_mem okp).mpr (List.mem_of_getElem? a1))
        rw [e0]
        have hst : k.rv[s]? = some k.rv[s] := List.getElem?_eq_getElem hs
        rw [strN_of hst]
        have := (ok.rv.ok _ (List.mem_of_getElem? hst)).r1
        omega
    · obtain ⟨i, hi, a1, a2⟩ := getp hp
      obtain ⟨j, hj, b1, b2⟩ := getp hq
      rw [e1] at a1
      rw [e2] at b1
      have h4 := catNil.mp h3 i hi
      rw [crossR_some a1] at h4
      have h5 := catNil.mp h4 j hj
      rw [getD_of b1, if_pos rfl] at h5
      exact (crossO_nil a2 b2).mp h5
  · rintro ⟨g1, g2, g3⟩
    have getb : ∀ {i : Nat}, i < pl.length → ∃ o b, pl[i]? = some o ∧ k.bs[i]? = some b ∧ (o, b) ∈ pairs k pl := fun {i} hi => by
      have a1 : pl[i]? = some pl[i] := List.getElem?_eq_getElem hi
      have a2 : k.bs[i]? = some (k.bs[i]'(by omega)) := List.getElem?_eq_getElem (by omega)
      exact ⟨_, _, a1, a2, List.mem_of_getElem? (pairs_get a1 a2)⟩
    refine ⟨⟨catNil.mpr fun i hi => ?_, ?_⟩, catNil.mpr fun i hi => ?_⟩
    · obtain ⟨o, b, a1, a2, hm⟩ := getb hi
      cases o with
      | none => exact bargeR_none a1
      | some h =>
        rw [bargeR_some a1 a2]
        exact (alone_fits k i b h).mpr (g1 _ hm h rfl)
    · unfold fullA
      rw [List.flatMap_eq_nil_iff]
      intro h _
      refine catNil.mpr fun s hs => ?_
      unfold fullR
      rw [onL_cnt hl, if_neg (by have := g2 h s hs; omega)]
    · obtain ⟨o, b, a1, a2, hm⟩ := getb hi
      cases o with
      | none => exact crossR_none a1
      | some h =>
        rw [crossR_some a1]
        refine catNil.mpr fun j hj => ?_
        obtain ⟨o2, b2, c1, c2, hm2⟩ := getb hj
        rw [getD_of c1]
        by_cases c : o2 = some h
        · rw [if_pos c]
          exact (crossO_nil a2 c2).mpr (g3 _ hm _ hm2 h rfl c)
        · rw [if_neg c]
theorem goodP_sub {k : Book} {ps qs : List Pr} (h : GoodP k ps) (s : qs.Sublist ps) : GoodP k qs where
  fits := fun p hp => h.fits p (s.subset hp)
  room := fun hh st hs => Int.le_trans (Int.ofNat_le.mpr (s.countP_le ..)) (h.room hh st hs)
  cross := fun p hp q hq => h.cross p (s.subset hp) q (s.subset hq)
/-! ### the plan without its open barges -/
def hereP (pl : List (Option Int)) : List (Option Int) := (setN pl pl.length).map fun i => pl.getD i none
def hereB (k : Book) (pl : List (Option Int)) : List Barge := (setN pl pl.length).map fun i => k.bs.getD i ⟨0, 0, 0, 0, 0⟩
theorem setN_filter (pl : List (Option Int)) : ∀ n, setN pl n = (List.range n).filter fun i => decide (pl.getD i none ≠ none)
  | 0 => rfl
  | n + 1 => by
    rw [setN_succ, List.range_succ, List.filter_append, setN_filter pl n]
    congr 1
    by_cases c : pl.getD n none = none
    · have hp : decide (pl.getD n none ≠ none) = false := decide_eq_false (fun z => z c)
      simp only [List.filter_cons, List.filter_nil]
      rw [if_pos c, hp]
      rfl
    · have hp : decide (pl.getD n none ≠ none) = true := decide_eq_true c
      simp only [List.filter_cons, List.filter_nil]
      rw [if_neg c, hp]
      rfl
theorem mem_setN2 {pl : List (Option Int)} {n i : Nat} (h : i ∈ setN pl n) : i < n ∧ pl.getD i none ≠ none := by
  rw [setN_filter, List.mem_filter, decide_eq_true_eq, List.mem_range] at h
  exact h
theorem here_pairs {k : Book} {pl : List (Option Int)} (hl : pl.length = k.bs.length) : (pairs ⟨k.rv, hereB k pl⟩ (hereP pl)).Sublist (pairs k pl) := by
  have e1 : pairs ⟨k.rv, hereB k pl⟩ (hereP pl) = (setN pl pl.length).map fun i => (pl.getD i none, k.bs.getD i ⟨0, 0, 0, 0, 0⟩) := by
    show (hereP pl).zip (hereB k pl) = _
    unfold hereP hereB
    rw [List.zip_map']
  have e2 : pairs k pl = (List.range pl.length).map fun i => (pl.getD i none, k.bs.getD i ⟨0, 0, 0, 0, 0⟩) := by
    refine List.ext_getElem? fun i => ?_
    by_cases c : i < pl.length
    · have a1 : pl[i]? = some pl[i] := List.getElem?_eq_getElem c
      have a2 : k.bs[i]? = some (k.bs[i]'(by omega)) := List.getElem?_eq_getElem (by omega)
      rw [pairs_get a1 a2, List.getElem?_map, List.getElem?_range c]
      show _ = some (pl.getD i none, k.bs.getD i ⟨0, 0, 0, 0, 0⟩)
      rw [getD_of a1, List.getD_eq_getElem?_getD, a2]
      rfl
    · rw [List.getElem?_eq_none (by rw [pairs_len hl]; omega), List.getElem?_eq_none (by rw [List.length_map, List.length_range]; omega)]
  rw [e1, e2, setN_filter]
  exact List.Sublist.map _ List.filter_sublist
theorem here_none (pl : List (Option Int)) : none ∉ hereP pl := fun h => by
  obtain ⟨i, hi, e⟩ := List.mem_map.mp h
  exact (mem_setN2 hi).2 e
theorem here_ok {k : Book} {pl : List (Option Int)} (ok : k.Ok) (okp : PlOk k.bs.length pl) : Book.Ok ⟨k.rv, hereB k pl⟩ ∧ PlOk (hereB k pl).length (hereP pl) := by
  have hl := okp.len
  have sl := setN_le pl pl.length
  refine ⟨⟨ok.rv, ?_, fun b hb => ?_⟩, ⟨by unfold hereP hereB; rw [List.length_map, List.length_map], fun h hh => ?_⟩⟩
  · show (hereB k pl).length ≤ 7
    have := ok.n7
    unfold hereB
    rw [List.length_map]
    omega
  · obtain ⟨i, hi, e⟩ := List.mem_map.mp hb
    have hlt := (mem_setN2 hi).1
    have a2 : k.bs[i]? = some (k.bs[i]'(by omega)) := List.getElem?_eq_getElem (by omega)
    rw [List.getD_eq_getElem?_getD, a2] at e
    rw [← e]
    exact ok.ok _ (List.getElem_mem _)
  · obtain ⟨i, hi, e⟩ := List.mem_map.mp hh
    have hlt := (mem_setN2 hi).1
    refine okp.ok h ?_
    rw [List.getD_eq_getElem?_getD, List.getElem?_eq_getElem hlt] at e
    have e2 : pl[i] = some h := e
    rw [← e2]
    exact List.getElem_mem hlt
theorem here_good {k : Book} {pl : List (Option Int)} (ok : k.Ok) (okp : PlOk k.bs.length pl) (good : allR k pl = []) : allR ⟨k.rv, hereB k pl⟩ (hereP pl) = [] := by
  obtain ⟨ok2, okp2⟩ := here_ok ok okp
  have g := goodP_sub ((good_iff ok okp).mp good) (here_pairs okp.len)
  exact (good_iff ok2 okp2).mpr ⟨g.fits, g.room, g.cross⟩
end GD

namespace GD
open PySem PySem.Spec PyProof.Rows L2 GxR GX GS GT GC
/-! ### tuples of generator expressions -/
theorem tupG_tup {K : PySem.W.Frag} {P a : Addr} {xs : List V} {g : TG} {tt : TT} {te : TE} {vs : List Nat} {σ : L2.St} {H1 : Hp} {Q : VK} {j : Nat} (hv : σ[j]? = some (some (.ref a))) (ht : SqT K H1 a xs) (hT : TabG H1 P) (Pv : Nat → List V → Hp → Prop) (h0 : ∀ H2, Tabbed P H1 H2 → Pv 0 [] H2) (hl : ∀ i z H, i ≤ xs.length → Pv i z H → SqT K H a xs)
    (hs : ∀ i x z H, xs[i]? = some x → Pv i z H → g x (wipe σ vs) H fun σ2 H2 => wipe σ2 vs = wipe σ vs ∧ tt σ2 H2 fun b H3 => if b = true then te σ2 H3 fun y H4 => z.length < sizeLine ∧ Pv (i + 1) (z ++ [y]) H4 else Pv (i + 1) z H3)
    (hd : ∀ z H, Pv xs.length z H → z.length ≤ sizeLine ∧ ∀ p, H p = none → Q (.ref p) (upd H p (.tup z))) : tTupG P (iTup K (tVar j)) g tt te vs σ H1 Q := by
  refine ⟨.ref a, hv, a, rfl, ⟨xs, ht⟩, hT, fun H2 hb => ⟨fun i m z H => m = xs.length - i ∧ i ≤ xs.length ∧ Pv i z H, ⟨xs.length, by simp, Nat.zero_le _, h0 H2 hb⟩, ?_⟩⟩
  rintro i m z H ⟨rfl, hi, p⟩
  have q := hl i z H hi p
  by_cases hlt : i < xs.length
  · refine .inr ⟨⟨xs, xs[i], q, by simp [hlt]⟩, fun z' H' => Pv (i + 1) z' H', fun z' H' p' => ⟨xs.length - (i + 1), by omega, rfl, hlt, p'⟩, fun x H' y => ?_⟩
    obtain ⟨e, y⟩ := y
    subst e
    exact hs i x z H' (y xs q) p
  · have e : i = xs.length := by omega
    subst e
    exact .inl ⟨⟨xs, q, Nat.le_refl _⟩, hd z H p⟩
theorem tupG_enumT {K : PySem.W.Frag} {P a : Addr} {xs : List V} {g : TG} {tt : TT} {te : TE} {vs : List Nat} {σ : L2.St} {H1 : Hp} {Q : VK} {j : Nat} (hv : σ[j]? = some (some (.ref a))) (ht : SqT K H1 a xs) (hT : TabG H1 P) (Pv : Nat → List V → Hp → Prop) (h0 : ∀ H2, Tabbed P H1 H2 → Pv 0 [] H2) (hl : ∀ i z H, i ≤ xs.length → Pv i z H → SqT K H a xs)
    (hs : ∀ i x z H T, xs[i]? = some x → Pv i z H → H T = none → g (.ref T) (wipe σ vs) (upd H T (.tup [.int (i : Nat), x])) fun σ2 H2 => wipe σ2 vs = wipe σ vs ∧ tt σ2 H2 fun b H3 => if b = true then te σ2 H3 fun y H4 => z.length < sizeLine ∧ Pv (i + 1) (z ++ [y]) H4 else Pv (i + 1) z H3)
    (hd : ∀ z H, Pv xs.length z H → z.length ≤ sizeLine ∧ ∀ p, H p = none → Q (.ref p) (upd H p (.tup z))) : tTupG P (GE.iEnumT K (tCons (tVar j) tNil)) g tt te vs σ H1 Q := by
  refine ⟨.ref a, hv, a, xs, rfl, ht, hT, fun H2 hb => ⟨fun i m z H => m = xs.length - i ∧ i ≤ xs.length ∧ Pv i z H, ⟨xs.length, by simp, Nat.zero_le _, h0 H2 hb⟩, ?_⟩⟩
  rintro i m z H ⟨rfl, hi, p⟩
  have q := hl i z H hi p
  by_cases hlt : i < xs.length
  · refine .inr ⟨⟨xs, xs[i], q, by simp [hlt]⟩, fun z' H' => Pv (i + 1) z' H', fun z' H' p' => ⟨xs.length - (i + 1), by omega, rfl, hlt, p'⟩, fun x H' y => ?_⟩
    obtain ⟨T, x', rfl, hn, rfl, hx⟩ := y
    exact hs i x' z H T (hx xs q) p hn
  · have e : i = xs.length := by omega
    subst e
    exact .inl ⟨⟨xs, q, Nat.le_refl _⟩, hd z H p⟩
/-! ### what is without an item -/
theorem erase_next {α : Type} {xs : List α} {i k : Nat} {x : α} (h : xs[i]? = some x) : (xs.take (i + 1)).eraseIdx k = if i = k then (xs.take i).eraseIdx k else (xs.take i).eraseIdx k ++ [x] := by
  have hi : i < xs.length := (List.getElem?_eq_some_iff.mp h).1
  have hl : (xs.take i).length = i := by rw [List.length_take]; omega
  have e : xs.take (i + 1) = xs.take i ++ [x] := by rw [List.take_add_one, h]; rfl
  rw [e]
  by_cases c : i = k
  · subst c
    have e1 : (xs.take i ++ [x]).eraseIdx i = xs.take i ++ [x].eraseIdx (i - (xs.take i).length) := List.eraseIdx_append_of_length_le (by omega) _
    have e2 : (xs.take i).eraseIdx i = xs.take i := List.eraseIdx_of_length_le (by omega)
    rw [if_pos rfl, e1, e2, hl, Nat.sub_self]
    exact List.append_nil _
  · rw [if_neg c]
    by_cases c2 : k < i
    · rw [List.eraseIdx_append_of_lt_length (by omega)]
    · rw [List.eraseIdx_append_of_length_le (by omega), hl, List.eraseIdx_of_length_le (l := xs.take i) (by omega), List.eraseIdx_of_length_le (l := [x]) (by simp; omega)]
theorem cut_erase {α : Type} (xs : List α) (k : Nat) : xs.take k ++ xs.drop (k + 1) = xs.eraseIdx k := (List.eraseIdx_eq_take_drop_succ xs k).symm
theorem inV_none (pl : List (Option Int)) : inV .non (pl.map oV) = decide (none ∈ pl) := by
  rw [Bool.eq_iff_iff, decide_eq_true_eq]
  unfold inV
  rw [List.any_eq_true]
  constructor
  · rintro ⟨y, hy, e⟩
    obtain ⟨o, ho, rfl⟩ := List.mem_map.mp hy
    cases o with
    | none => exact ho
    | some k => simp [oV, eqV] at e
  · intro hm
    exact ⟨oV none, List.mem_map.mpr ⟨_, hm, rfl⟩, by simp [oV, eqV]⟩
/-- a barge of it is ready at another time -/
def lateB (k : Book) (i : Nat) (r : Int) : Book := ⟨k.rv, k.bs.mapIdx fun j b => if j = i then { b with r := r } else b⟩
theorem paired_erase {α β : Type} {F : α → β → Prop} : ∀ {xs : List α} {ys : List β}, Paired F xs ys → ∀ i, Paired F (xs.eraseIdx i) (ys.eraseIdx i)
  | _, _, .nil, _ => .nil
  | _, _, .cons _ t, 0 => t
  | _, _, .cons r t, i + 1 => .cons r (paired_erase t i)
theorem map_erase {α β : Type} (f : α → β) : ∀ (xs : List α) (i : Nat), (xs.map f).eraseIdx i = (xs.eraseIdx i).map f
  | [], _ => rfl
  | _ :: _, 0 => rfl
  | x :: xs, i + 1 => by
    show f x :: (xs.map f).eraseIdx i = f x :: (xs.eraseIdx i).map f
    rw [map_erase f xs i]
/-! ### what of a plan stands -/
def standO (now : Int) : Option Int → Option Int
  | some h => if h < now then some h else none
  | none => none
def standP (pl : List (Option Int)) (now : Int) : List (Option Int) := pl.map (standO now)
/-! ### books and plans as data -/
def oD : Option Int → PyData
  | none => .none
  | some h => .int h
def stretchD (s : Stretch) : PyData := .tuple [.int s.hours, .int s.room, .tuple (s.ds.map PyData.int)]
def bargeD (b : Barge) : PyData := .tuple [.int b.b, .int b.g, .int b.d, .int b.r, .int b.u]
def bookD (k : Book) : PyData := .tuple [.tuple (k.rv.map stretchD), .tuple (k.bs.map bargeD)]
def planD (pl : List (Option Int)) : PyData := .tuple (pl.map oD)
def pairD (k : Book) (pl : List (Option Int)) : PyData := .tuple [bookD k, planD pl]
section
variable {K : PySem.W.Frag} {H : Hp} {v : V}
theorem td_ints : ∀ ns : List Int, TdAll K H (ns.map V.int) (ns.map PyData.int)
  | [] => .nil
  | n :: ns => .cons (.int n) (td_ints ns)
theorem td_plan : ∀ pl : List (Option Int), TdAll K H (pl.map oV) (pl.map oD)
  | [] => .nil
  | none :: pl => .cons .non (td_plan pl)
  | some h :: pl => .cons (.int h) (td_plan pl)
theorem td_paired {α : Type} {F : V → α → Prop} {f : α → PyData} (hf : ∀ v a, F v a → Td K H v (f a)) : ∀ {vs : List V} {as : List α}, Paired F vs as → TdAll K H vs (as.map f)
  | _, _, .nil => .nil
  | _, _, .cons a b => .cons (hf _ _ a) (td_paired hf b)
theorem IsStretch.td {s : Stretch} (h : IsStretch K H v s) : Td K H v (stretchD s) := by
  obtain ⟨a, d, rfl, h1, h2⟩ := h
  exact .tup h1 (.cons (.int _) (.cons (.int _) (.cons (.tup h2 (td_ints _)) .nil)))
theorem IsBarge.td {b : Barge} (h : IsBarge K H v b) : Td K H v (bargeD b) := by
  obtain ⟨a, rfl, h1⟩ := h
  exact .tup h1 (.cons (.int _) (.cons (.int _) (.cons (.int _) (.cons (.int _) (.cons (.int _) .nil)))))
theorem IsBook.td {k : Book} (h : IsBook K H v k) : Td K H v (bookD k) := by
  obtain ⟨a, r, b, rfl, h1, ⟨ra, rs, rfl, h2, h3⟩, ⟨ba, bs, rfl, h4, h5⟩⟩ := h
  exact .tup h1 (.cons (.tup h2 (td_paired (fun _ _ z => IsStretch.td z) h3)) (.cons (.tup h4 (td_paired (fun _ _ z => IsBarge.td z) h5)) .nil))
theorem IsPlan.td {pl : List (Option Int)} (h : IsPlan K H v pl) : Td K H v (planD pl) := by
  obtain ⟨a, rfl, h1⟩ := h
  exact .tup h1 (td_plan pl)
end
theorem lay_map {α : Type} {f : α → PyData} {n : Nat} (h : ∀ a, (f a).canLay0 = true ∧ (f a).depth ≤ n) : ∀ as : List α, PyData.canLayAll0 (as.map f) = true ∧ PyData.depthAll (as.map f) ≤ n
  | [] => ⟨rfl, Nat.zero_le _⟩
  | a :: as => by
    obtain ⟨h1, h2⟩ := lay_map h as
    obtain ⟨k1, k2⟩ := h a
    constructor
    · show (PyData.canLay0 (f a) && PyData.canLayAll0 (as.map f)) = true
      rw [h1, k1]
      rfl
    · show max (PyData.depth (f a)) (PyData.depthAll (as.map f)) ≤ n
      omega
theorem lay_tup {ds : List PyData} {n : Nat} (h : PyData.canLayAll0 ds = true ∧ PyData.depthAll ds ≤ n) : (PyData.tuple ds).canLay0 = true ∧ (PyData.tuple ds).depth ≤ n + 1 := ⟨h.1, Nat.succ_le_succ h.2⟩
theorem lay_two {d e : PyData} {n : Nat} (h1 : d.canLay0 = true ∧ d.depth ≤ n) (h2 : e.canLay0 = true ∧ e.depth ≤ n) : PyData.canLayAll0 [d, e] = true ∧ PyData.depthAll [d, e] ≤ n := by
  constructor
  · show (d.canLay0 && (e.canLay0 && true)) = true
    rw [h1.1, h2.1]
    rfl
  · show max d.depth (max e.depth 0) ≤ n
    have := h1.2
    have := h2.2
    omega
theorem lay_stretch (s : Stretch) : (stretchD s).canLay0 = true ∧ (stretchD s).depth ≤ 2 := by
  obtain ⟨h1, h2⟩ := lay_tup (lay_map (f := PyData.int) (n := 0) (fun a => ⟨rfl, Nat.le_refl _⟩) s.ds)
  constructor
  · show (true && (true && ((PyData.tuple (s.ds.map PyData.int)).canLay0 && true))) = true
    rw [h1]
    rfl
  · show max 0 (max 0 (max (PyData.tuple (s.ds.map PyData.int)).depth 0)) + 1 ≤ 2
    omega
theorem lay_barge (b : Barge) : (bargeD b).canLay0 = true ∧ (bargeD b).depth ≤ 2 := ⟨rfl, by show 1 ≤ 2; decide⟩
theorem lay_book (k : Book) : (bookD k).canLay0 = true ∧ (bookD k).depth ≤ 4 := lay_tup (lay_two (lay_tup (lay_map lay_stretch k.rv)) (lay_tup (lay_map lay_barge k.bs)))
theorem lay_plan (pl : List (Option Int)) : (planD pl).canLay0 = true ∧ (planD pl).depth ≤ 1 := lay_tup (lay_map (f := oD) (n := 0) (fun a => by cases a <;> exact ⟨rfl, Nat.le_refl _⟩) pl)
theorem lay_pair (k : Book) (pl : List (Option Int)) : (pairD k pl).canLay0 = true ∧ (pairD k pl).depth ≤ 5 := by
  have h := lay_plan pl
  exact lay_tup (lay_two (lay_book k) ⟨h.1, by omega⟩)
theorem pdrop {α β : Type} {F : α → β → Prop} : ∀ {xs : List α} {ys : List β} (n : Nat), Paired F xs ys → Paired F (xs.drop n) (ys.drop n)
  | _, _, 0, h => h
  | _, _, _ + 1, .nil => .nil
  | _, _, n + 1, .cons _ t => pdrop n t
theorem late_take {bs : List Barge} {i : Nat} {b : Barge} {f : Barge → Barge} (h : bs[i]? = some b) : (bs.mapIdx fun j b => if j = i then f b else b) = bs.take i ++ [f b] ++ bs.drop (i + 1) := by
  have hi : i < bs.length := (List.getElem?_eq_some_iff.mp h).1
  refine List.ext_getElem? fun j => ?_
  have lt : (bs.take i).length = i := by rw [List.length_take]; omega
  rw [List.getElem?_mapIdx]
  by_cases c : j < i
  · rw [List.append_assoc, List.getElem?_append_left (by omega), List.getElem?_take_of_lt c]
    cases e : bs[j]? with
    | none => rfl
    | some x =>
      show some (if j = i then f x else x) = some x
      rw [if_neg (by omega)]
  · by_cases c2 : j = i
    · subst c2
      rw [List.append_assoc, List.getElem?_append_right (by omega), lt, Nat.sub_self, h]
      show some (if j = j then f b else b) = some (f b)
      rw [if_pos rfl]
    · rw [List.append_assoc, List.getElem?_append_right (by omega), lt, List.getElem?_append_right (by simp; omega), List.getElem?_drop]
      rw [show i + 1 + (j - i - [f b].length) = j by simp; omega]
      cases e : bs[j]? with
      | none => rfl
      | some x =>
        show some (if j = i then f x else x) = some x
        rw [if_neg c2]
/-- what is told of a barge late (a ready) or lost (none) -/
def dueX (k : Book) (pl : List (Option Int)) (now : Int) (i : Nat) : V → PyData
  | .non => pairD ⟨k.rv, k.bs.eraseIdx i⟩ ((standP pl now).eraseIdx i)
  | .int r => if 0 ≤ r ∧ r ≤ 99 then pairD (lateB k i r) (standP pl now) else .str "book"
  | _ => .str "book"
def dueD (k : Book) (pl : List (Option Int)) (now : Int) (i : Nat) (x : V) : PyData := if (pl.getD i none).getD 0 < now then .str "gone" else dueX k pl now i x
def toldD (k : Book) (pl : List (Option Int)) (now : Int) (i : Nat) (x : V) : PyData := if allR k pl ≠ [] ∨ none ∈ pl then .str "plan" else dueD k pl now i x
theorem lay_str {z : Str} (h : PyData.strOk z = true) : (PyData.str z).canLay0 = true ∧ (PyData.str z).depth ≤ 5 := ⟨h, Nat.zero_le _⟩
theorem lay_due (k : Book) (pl : List (Option Int)) (now : Int) (i : Nat) (x : V) : (dueD k pl now i x).canLay0 = true ∧ (dueD k pl now i x).depth ≤ 5 := by
  unfold dueD
  split
  · exact lay_str (by decide +kernel)
  · unfold dueX
    split
    · exact lay_pair _ _
    · split
      · exact lay_pair _ _
      · exact lay_str (by decide +kernel)
    · exact lay_str (by decide +kernel)
theorem lay_told (k : Book) (pl : List (Option Int)) (now : Int) (i : Nat) (x : V) : (toldD k pl now i x).canLay0 = true ∧ (toldD k pl now i x).depth ≤ 5 := by
  unfold toldD
  split
  · exact lay_str (by decide +kernel)
  · exact lay_due k pl now i x
/-! ### numbers of any kind of scalar -/
inductive Sca : V → Prop
  | int (i : Int) : Sca (.int i)
  | bl (b : Bool) : Sca (.bl b)
  | str (s : Str) : Sca (.str s)
  | non : Sca .non
def numB (lo hi : Int) : V → Bool
  | .int i => decide (lo ≤ i) && decide (i ≤ hi)
  | _ => false
theorem isi_bb {K : PySem.W.Frag} {H : Hp} {Q : VK} {b : Bool} (h : Q (.bl true) H) : rIsi K [.bl b, .ty "bool"] H Q := ⟨.bl b, .ty "bool", .type "bool", .type "bool", true, rfl, .ty _, .base (.bl _), kit_ty (by decide +kernel), h⟩
theorem isi_bi {K : PySem.W.Frag} {H : Hp} {Q : VK} {b : Bool} (h : Q (.bl true) H) : rIsi K [.bl b, .ty "int"] H Q := ⟨.bl b, .ty "int", .type "bool", .type "int", true, rfl, .ty _, .base (.bl _), kit_ty (by decide +kernel), h⟩
theorem isi_sb {K : PySem.W.Frag} {H : Hp} {Q : VK} {z : Str} (h : Q (.bl false) H) : rIsi K [.str z, .ty "bool"] H Q := ⟨.str z, .ty "bool", .type "str", .type "bool", false, rfl, .ty _, .base (.str _), kit_ty (by decide +kernel), h⟩
theorem isi_si {K : PySem.W.Frag} {H : Hp} {Q : VK} {z : Str} (h : Q (.bl false) H) : rIsi K [.str z, .ty "int"] H Q := ⟨.str z, .ty "int", .type "str", .type "int", false, rfl, .ty _, .base (.str _), kit_ty (by decide +kernel), h⟩
theorem isi_nb {K : PySem.W.Frag} {H : Hp} {Q : VK} (h : Q (.bl false) H) : rIsi K [.non, .ty "bool"] H Q := ⟨.non, .ty "bool", .type "NoneType", .type "bool", false, rfl, .ty _, .base .non, kit_ty (by decide +kernel), h⟩
theorem isi_ni {K : PySem.W.Frag} {H : Hp} {Q : VK} (h : Q (.bl false) H) : rIsi K [.non, .ty "int"] H Q := ⟨.non, .ty "int", .type "NoneType", .type "int", false, rfl, .ty _, .base .non, kit_ty (by decide +kernel), h⟩
end GD

namespace GD
open PySem PySem.Spec PyProof.Rows L2 GxR GX GS GT GC TL
/-! ### books and plans as texts -/
theorem catAK {X : Cx} (K : PySem.W.Frag) (h : X.K = K) : OpR X (binaryOp .Add) (rCatA K) := by
  subst h
  exact op_catA
theorem isi_ss {K : PySem.W.Frag} {H : Hp} {Q : VK} {z : Str} (h : Q (.bl true) H) : rIsi K [.str z, .ty "str"] H Q :=
  ⟨.str z, .ty "str", .type "str", .type "str", true, rfl, .ty _, .base (.str _), kit_ty (by decide +kernel), h⟩
def cellS : Option Int → Str
  | none => "-"
  | some n => toString n
def rowS (z : Str) (xs : List (Option Int)) : Str := Txt.join " " (z :: xs.map cellS)
theorem joinL_len (S : List Nat) : ∀ ps : List (List Nat), (joinL S ps).length ≤ (ps.map (·.length)).sum + ps.length * S.length
  | [] => Nat.zero_le _
  | [p] => by simp [joinL]
  | p :: q :: r => by
    have h := joinL_len S (q :: r)
    show (p ++ (S ++ joinL S (q :: r))).length ≤ _
    rw [List.length_append, List.length_append, List.map_cons, List.sum_cons, List.length_cons, Nat.succ_mul]
    omega
theorem join_len (y : Str) (ps : List Str) : (Txt.join y ps).length ≤ (ps.map (·.length)).sum + ps.length * y.length := by
  have h := joinL_len (tl y) (ps.map tl)
  rw [join_eq, len_tl, tl_join]
  rw [List.length_map, List.map_map, ← len_tl] at h
  have e : ps.map ((fun x : List Nat => x.length) ∘ tl) = ps.map (·.length) := List.map_congr_left fun x _ => (len_tl x).symm
  rw [e] at h
  exact h
theorem sum_le {α : Type} {f : α → Nat} {c : Nat} : ∀ {xs : List α}, (∀ x ∈ xs, f x ≤ c) → (xs.map f).sum ≤ xs.length * c
  | [], _ => Nat.zero_le _
  | x :: xs, h => by
    rw [List.map_cons, List.sum_cons, List.length_cons, Nat.succ_mul]
    have h1 := h x (by simp)
    have h2 := sum_le (f := f) (c := c) (xs := xs) fun y hy => h y (by simp [hy])
    omega
def Small (o : Option Int) : Prop := ∀ n, o = some n → 0 ≤ n ∧ n ≤ 999
theorem cellS_len {o : Option Int} (h : Small o) : (cellS o).length ≤ 3 := by
  cases o with
  | none => exact (by decide +kernel : (cellS none).length ≤ 3)
  | some n =>
    obtain ⟨h0, h9⟩ := h n rfl
    obtain ⟨m, rfl⟩ : ∃ m : Nat, n = (m : Int) := ⟨n.toNat, by omega⟩
    show (Str.ofString (toString ((m : Nat) : Int))).length ≤ 3
    rw [len_tl, tl_num]
    exact numL_len (by decide) (show m < 10 ^ 3 by omega)
theorem cellS_log {n : Int} (h0 : 0 ≤ n) (h9 : n ≤ 999) : n.natAbs.log2 < 1920 := by
  have h : n.natAbs < 2 ^ 10 := by omega
  by_cases e : n.natAbs = 0
  · rw [e]
    decide
  · have := (Nat.log2_lt e).mpr h
    omega
theorem rowSum_le {z : Str} {xs : List (Option Int)} (hz : z.length ≤ 10) (hx : ∀ o ∈ xs, Small o) : ((z :: xs.map cellS).map (·.length)).sum ≤ 10 + xs.length * 3 := by
  rw [List.map_cons, List.sum_cons, List.map_map]
  have h := sum_le (f := (fun s : Str => s.length) ∘ cellS) (c := 3) (xs := xs) fun o ho => cellS_len (hx o ho)
  omega
theorem rowS_len {z : Str} {xs : List (Option Int)} (hz : z.length ≤ 10) (hn : xs.length ≤ 30) (hx : ∀ o ∈ xs, Small o) : (rowS z xs).length ≤ 150 := by
  unfold rowS
  have h1 := join_len " " (z :: xs.map cellS)
  have h2 := rowSum_le hz hx
  have h3 : (" " : Str).length = 1 := by decide +kernel
  rw [h3, List.length_cons, List.length_map] at h1
  omega
abbrev strsV (ys : List Str) : List V := ys.map V.str
def stretchC (s : Stretch) : List (Option Int) := some s.hours :: some s.room :: s.ds.map some
def bargeC (b : Barge) : List (Option Int) := [some b.b, some b.g, some b.d, some b.r, some b.u]
theorem stretchC_v (s : Stretch) : (stretchC s).map oV = [.int s.hours, .int s.room] ++ s.ds.map V.int := by
  unfold stretchC
  rw [List.map_cons, List.map_cons, List.map_map]
  rfl
theorem stretchC_small {s : Stretch} (ok : s.Ok) : (∀ o ∈ stretchC s, Small o) ∧ (stretchC s).length ≤ 30 := by
  constructor
  · intro o ho n e
    subst e
    unfold stretchC at ho
    rcases List.mem_cons.mp ho with z | ho
    · cases z
      have := ok.h1
      have := ok.h9
      omega
    · rcases List.mem_cons.mp ho with z | ho
      · cases z
        have := ok.r1
        have := ok.r9
        omega
      · obtain ⟨d, hd, z⟩ := List.mem_map.mp ho
        cases z
        have := ok.ds n hd
        omega
  · have := ok.d24
    unfold stretchC
    rw [List.length_cons, List.length_cons, List.length_map]
    omega
theorem bargeC_small {b : Barge} {n : Nat} (ok : b.Ok n) (hn : n ≤ 8) : (∀ o ∈ bargeC b, Small o) ∧ (bargeC b).length ≤ 30 := by
  constructor
  · intro o ho m e
    subst e
    have := ok.b0
    have := ok.bg
    have := ok.gn
    have := ok.d1
    have := ok.d99
    have := ok.r0
    have := ok.r99
    have := ok.u0
    have := ok.u199
    unfold bargeC at ho
    simp only [List.mem_cons, Option.some.injEq, List.not_mem_nil, or_false] at ho
    omega
  · unfold bargeC
    simp
theorem plan_small {n : Nat} {pl : List (Option Int)} (ok : PlOk n pl) : ∀ o ∈ pl, Small o := fun o ho m e => by
  subst e
  have := ok.ok m ho
  omega
def linesN (k : Book) (pl : List (Option Int)) : List Str := k.rv.map (fun s => rowS "stretch" (stretchC s)) ++ k.bs.map (fun b => rowS "barge" (bargeC b)) ++ [rowS "plan" pl]
def textN (k : Book) (pl : List (Option Int)) : Str := Txt.join "\n" (linesN k pl)
theorem lines_small {k : Book} {pl : List (Option Int)} (ok : k.Ok) (okp : PlOk k.bs.length pl) : (∀ x ∈ linesN k pl, x.length ≤ 150) ∧ (linesN k pl).length ≤ 16 := by
  have n7 := ok.n7
  have n8 := ok.rv.n8
  have lp := okp.len
  constructor
  · intro x hx
    unfold linesN at hx
    rcases List.mem_append.mp hx with hx | hx
    · rcases List.mem_append.mp hx with hx | hx
      · obtain ⟨s, hs, rfl⟩ := List.mem_map.mp hx
        have := stretchC_small (ok.rv.ok s hs)
        exact rowS_len (by decide +kernel) this.2 this.1
      · obtain ⟨b, hb, rfl⟩ := List.mem_map.mp hx
        have := bargeC_small (ok.ok b hb) n8
        exact rowS_len (by decide +kernel) this.2 this.1
    · rw [List.mem_singleton.mp hx]
      exact rowS_len (by decide +kernel) (by omega) (plan_small okp)
  · unfold linesN
    rw [List.length_append, List.length_append, List.length_map, List.length_map, List.length_singleton]
    omega
theorem lines_sum {k : Book} {pl : List (Option Int)} (ok : k.Ok) (okp : PlOk k.bs.length pl) : ((linesN k pl).map (·.length)).sum + (linesN k pl).length * ("\n" : Str).length ≤ 16777216 := by
  obtain ⟨h1, h2⟩ := lines_small ok okp
  have h3 := sum_le (f := fun x : Str => x.length) h1
  have h4 : ("\n" : Str).length = 1 := by decide +kernel
  rw [h4]
  omega
end GD

namespace GD
open PySem PySem.Spec PyProof.Rows L2 GxR GX GS GT GC TL
/-! ### texts, read -/
theorem slLK {X : Cx} (K : PySem.W.Frag) (h : X.K = K) : SlR X (rSlL K) := by
  subst h
  exact sl_list
theorem cut_list (xs : List V) (p : Nat) : cutV xs (some (p : Int)) none = xs.drop p := by
  unfold cutV
  rw [HT.sIx_none, HT.sIx_nat]
  by_cases h : p ≤ xs.length
  · rw [Nat.min_eq_left h]
    exact List.take_of_length_le (by rw [List.length_drop]; omega)
  · rw [Nat.min_eq_right (by omega), List.drop_of_length_le (Nat.le_refl _), List.drop_of_length_le (by omega)]
    simp
theorem numL_head : ∀ n : Nat, 0 < n → ∃ c r, numL n = c :: r ∧ c ≠ 48 := by
  intro n
  induction n using Nat.strongRecOn with
  | _ n ih =>
    intro hn
    by_cases h : n < 10
    · exact ⟨48 + n, [], numL_lt h, by omega⟩
    · obtain ⟨c, r, e, hc⟩ := ih (n / 10) (by omega) (by omega)
      rw [numL_step (by omega), e]
      exact ⟨c, r ++ [48 + n % 10], rfl, hc⟩
theorem cell_num (m : Nat) : tl (cellS (some (m : Int))) = numL m := tl_num m
theorem cell_sign {o : Option Int} (h : Small o) {c : Nat} (hc : c ∈ tl (cellS o)) : c = 45 ∨ (48 ≤ c ∧ c ≤ 57) := by
  cases o with
  | none =>
    have e : tl (cellS none) = [45] := by decide +kernel
    rw [e] at hc
    exact .inl (List.mem_singleton.mp hc)
  | some n =>
    obtain ⟨h0, h9⟩ := h n rfl
    obtain ⟨m, rfl⟩ : ∃ m : Nat, n = (m : Int) := ⟨n.toNat, by omega⟩
    rw [cell_num] at hc
    exact .inr (numL_digits m c hc)
theorem mem_joinL {s c : Nat} : ∀ {ps : List (List Nat)}, c ∈ joinL [s] ps → c = s ∨ ∃ p ∈ ps, c ∈ p
  | [], h => absurd h (by simp [joinL])
  | [p], h => .inr ⟨p, by simp, h⟩
  | p :: q :: r, h => by
    have h : c ∈ p ++ ([s] ++ joinL [s] (q :: r)) := h
    rcases List.mem_append.mp h with h | h
    · exact .inr ⟨p, by simp, h⟩
    · rcases List.mem_append.mp h with h | h
      · exact .inl (List.mem_singleton.mp h)
      · rcases mem_joinL h with z | ⟨u, hu, z⟩
        · exact .inl z
        · exact .inr ⟨u, by simp [List.mem_cons.mp hu], z⟩
/-- a name of a row: none of its signs is a blank or a line's end -/
def NameOk (nm : Str) : Prop := ∀ c ∈ tl nm, 97 ≤ c
theorem row_signs {nm : Str} {xs : List (Option Int)} (hn : NameOk nm) (hx : ∀ o ∈ xs, Small o) : ∀ p ∈ nm :: xs.map cellS, (32 : Nat) ∉ tl p ∧ (10 : Nat) ∉ tl p := by
  intro p hp
  rcases List.mem_cons.mp hp with rfl | hp
  · exact ⟨fun z => by have := hn _ z; omega, fun z => by have := hn _ z; omega⟩
  · obtain ⟨o, ho, rfl⟩ := List.mem_map.mp hp
    exact ⟨fun z => by rcases cell_sign (hx o ho) z with e | e <;> omega, fun z => by rcases cell_sign (hx o ho) z with e | e <;> omega⟩
theorem split_row {nm : Str} {xs : List (Option Int)} (hn : NameOk nm) (hx : ∀ o ∈ xs, Small o) : Txt.split (rowS nm xs) " " = nm :: xs.map cellS :=
  split_join (s := 32) (S := []) (by decide +kernel) (by decide +kernel) (by simp) fun p hp => (row_signs hn hx p hp).1
theorem row_line {nm : Str} {xs : List (Option Int)} (hn : NameOk nm) (hx : ∀ o ∈ xs, Small o) : (10 : Nat) ∉ tl (rowS nm xs) := by
  intro hc
  unfold rowS at hc
  have e : tl (" " : Str) = [32] := by decide +kernel
  rw [join_eq, tl_join, e] at hc
  rcases mem_joinL hc with z | ⟨p, hp, z⟩
  · cases z
  · obtain ⟨w, hw, rfl⟩ := List.mem_map.mp hp
    exact (row_signs hn hx w hw).2 z
theorem nm_stretch : NameOk "stretch" := by unfold NameOk; decide +kernel
theorem nm_barge : NameOk "barge" := by unfold NameOk; decide +kernel
theorem nm_plan : NameOk "plan" := by unfold NameOk; decide +kernel
/-- the rows of a text, by their names and numbers -/
abbrev RowC := Str × List (Option Int)
def rowsC (k : Book) (pl : List (Option Int)) : List RowC := k.rv.map (fun s => (("stretch" : Str), stretchC s)) ++ k.bs.map (fun b => (("barge" : Str), bargeC b)) ++ [(("plan" : Str), pl)]
theorem rowsC_lines (k : Book) (pl : List (Option Int)) : (rowsC k pl).map (fun r => rowS r.1 r.2) = linesN k pl := by
  unfold rowsC linesN
  rw [List.map_append, List.map_append, List.map_map, List.map_map]
  rfl
theorem rowsC_ok {k : Book} {pl : List (Option Int)} (ok : k.Ok) (okp : PlOk k.bs.length pl) : ∀ r ∈ rowsC k pl, NameOk r.1 ∧ (∀ o ∈ r.2, Small o) ∧ r.2.length ≤ 30 := by
  intro r hr
  have n8 := ok.rv.n8
  have n7 := ok.n7
  have lp := okp.len
  unfold rowsC at hr
  rcases List.mem_append.mp hr with hr | hr
  · rcases List.mem_append.mp hr with hr | hr
    · obtain ⟨s, hs, rfl⟩ := List.mem_map.mp hr
      have := stretchC_small (ok.rv.ok s hs)
      exact ⟨nm_stretch, this.1, this.2⟩
    · obtain ⟨b, hb, rfl⟩ := List.mem_map.mp hr
      have := bargeC_small (ok.ok b hb) n8
      exact ⟨nm_barge, this.1, this.2⟩
  · rw [List.mem_singleton.mp hr]
    exact ⟨nm_plan, plan_small okp, by show pl.length ≤ 30; omega⟩
theorem split_text {k : Book} {pl : List (Option Int)} (ok : k.Ok) (okp : PlOk k.bs.length pl) : Txt.split (textN k pl) "\n" = linesN k pl := by
  refine split_join (s := 10) (S := []) (by decide +kernel) (by decide +kernel) (by unfold linesN; simp) fun p hp => ?_
  rw [← rowsC_lines] at hp
  obtain ⟨r, hr, rfl⟩ := List.mem_map.mp hp
  have h := rowsC_ok ok okp r hr
  exact row_line h.1 h.2.1
theorem text_len {k : Book} {pl : List (Option Int)} (ok : k.Ok) (okp : PlOk k.bs.length pl) : (textN k pl).length + 2 ≤ sizeLine := by
  have h1 := join_len "\n" (linesN k pl)
  obtain ⟨h2, h3⟩ := lines_small ok okp
  have h4 := sum_le (f := fun x : Str => x.length) h2
  have h5 : ("\n" : Str).length = 1 := by decide +kernel
  rw [h5] at h1
  have h6 := sizeLine_eq
  unfold textN
  omega
def namesN (k : Book) : List Str := List.replicate k.rv.length ("stretch" : Str) ++ List.replicate k.bs.length ("barge" : Str) ++ (("plan" : Str) :: [])
theorem names_rows (k : Book) (pl : List (Option Int)) : (rowsC k pl).map (·.1) = namesN k := by
  unfold rowsC namesN
  rw [List.map_append, List.map_append, List.map_map, List.map_map]
  have e : ∀ {α : Type} (f : α → Str) (c : Str) (xs : List α), (∀ x, f x = c) → xs.map f = List.replicate xs.length c := fun f c xs h => by
    rw [List.eq_replicate_iff]
    exact ⟨List.length_map .., fun b hb => by obtain ⟨x, _, rfl⟩ := List.mem_map.mp hb; exact h x⟩
  have e1 := e ((fun x : RowC => x.1) ∘ fun s => (("stretch" : Str), stretchC s)) ("stretch" : Str) k.rv (fun _ => rfl)
  have e2 := e ((fun x : RowC => x.1) ∘ fun b => (("barge" : Str), bargeC b)) ("barge" : Str) k.bs (fun _ => rfl)
  rw [e1, e2]
  rfl
theorem count_rep (a b : Str) (n : Nat) : (strsV (List.replicate n a)).countP (fun z => eqV z (.str b)) = if a = b then n else 0 := by
  unfold strsV
  rw [List.map_replicate, List.countP_replicate]
  by_cases c : a = b
  · rw [if_pos c, if_pos (by simp [eqV, c])]
  · rw [if_neg c, if_neg (by simp [eqV, c])]
theorem count_stretch (k : Book) : (strsV (namesN k)).countP (fun z => eqV z (.str "stretch")) = k.rv.length := by
  unfold namesN
  have e : strsV (List.replicate k.rv.length ("stretch" : Str) ++ List.replicate k.bs.length ("barge" : Str) ++ (("plan" : Str) :: [])) = strsV (List.replicate k.rv.length "stretch") ++ strsV (List.replicate k.bs.length "barge") ++ strsV (List.replicate 1 "plan") := by
    unfold strsV
    rw [List.map_append, List.map_append]
    rfl
  rw [e, List.countP_append, List.countP_append, count_rep, count_rep, count_rep, if_pos rfl, if_neg (by decide +kernel), if_neg (by decide +kernel)]
  rfl
theorem count_barge (k : Book) : (strsV (namesN k)).countP (fun z => eqV z (.str "barge")) = k.bs.length := by
  unfold namesN
  have e : strsV (List.replicate k.rv.length ("stretch" : Str) ++ List.replicate k.bs.length ("barge" : Str) ++ (("plan" : Str) :: [])) = strsV (List.replicate k.rv.length "stretch") ++ strsV (List.replicate k.bs.length "barge") ++ strsV (List.replicate 1 "plan") := by
    unfold strsV
    rw [List.map_append, List.map_append]
    rfl
  rw [e, List.countP_append, List.countP_append, count_rep, count_rep, count_rep, if_neg (by decide +kernel), if_pos rfl, if_neg (by decide +kernel)]
  omega
theorem flat_strs2 (ys : List Str) : (strsV ys).all flatV = true := by
  unfold strsV
  rw [List.all_map, List.all_eq_true]
  intro x _
  rfl
def strsD (ys : List Str) : List PyData := ys.map PyData.str
theorem dp_strs {K : PySem.W.Frag} {H : Hp} : ∀ ys : List Str, DpAll K H (strsV ys) (strsD ys)
  | [] => .nil
  | y :: ys => .cons (.str y) (dp_strs ys)
theorem lay_names (k : Book) : (PyData.list (strsD (namesN k))).canLay0 = true ∧ (PyData.list (strsD (namesN k))).depth ≤ 1 := by
  have key : ∀ ys : List Str, (∀ y ∈ ys, PyData.strOk y = true) → PyData.canLayAll0 (strsD ys) = true ∧ PyData.depthAll (strsD ys) ≤ 0 := fun ys => by
    induction ys with
    | nil => exact fun _ => ⟨rfl, Nat.le_refl _⟩
    | cons y ys ih =>
      intro h
      obtain ⟨h1, h2⟩ := ih fun z hz => h z (by simp [hz])
      constructor
      · show (PyData.strOk y && PyData.canLayAll0 (strsD ys)) = true
        rw [h y (by simp), h1]
        rfl
      · show max 0 (PyData.depthAll (strsD ys)) ≤ 0
        omega
  obtain ⟨h1, h2⟩ := key (namesN k) fun y hy => by
    unfold namesN at hy
    rcases List.mem_append.mp hy with hy | hy
    · rcases List.mem_append.mp hy with hy | hy
      · rw [(List.mem_replicate.mp hy).2]; decide +kernel
      · rw [(List.mem_replicate.mp hy).2]; decide +kernel
    · rw [List.mem_singleton.mp hy]; decide +kernel
  exact ⟨h1, Nat.succ_le_succ h2⟩
/-- a list of one's own of the words of a row -/
def IsWords (K : PySem.W.Frag) (H : Hp) (v : V) (r : RowC) : Prop := ∃ d, v = .ref d ∧ SqL K H d (strsV (r.1 :: r.2.map cellS))
theorem Ext.words {H H1 : Hp} {K : PySem.W.Frag} {v : V} {r : RowC} (e : Ext [] H H1) (h : IsWords K H v r) : IsWords K H1 v r := let ⟨d, a, b⟩ := h; ⟨d, a, e.sqL (by simp) b⟩
theorem words_wr {H : Hp} {K : PySem.W.Frag} {D : Addr} {v : V} {r : RowC} {xs : List V} {o : HO} (hD : H D = some (.lst xs)) (hne : v ≠ .ref D) (h : IsWords K H v r) : IsWords K (upd H D o) v r := by
  obtain ⟨d, rfl, b⟩ := h
  have hd : d ≠ D := fun e => hne (by rw [e])
  refine ⟨d, rfl, ?_⟩
  rcases b with (b | ⟨u, b⟩) | b
  · exact .inl (.inl (by rw [upd_ne hd]; exact b))
  · exact .inl (.inr ⟨u, by rw [upd_ne hd]; exact b⟩)
  · exact .inr b
theorem paired_memP {α β : Type} {F G : α → β → Prop} : ∀ {xs : List α} {ys : List β}, Paired F xs ys → (∀ x y, x ∈ xs → F x y → G x y) → Paired G xs ys
  | _, _, .nil, _ => .nil
  | _, _, .cons r t, h => .cons (h _ _ (by simp) r) (paired_memP t fun x y hx => h x y (by simp [hx]))
theorem cut_upto (xs : List V) (p : Nat) (h : p ≤ xs.length) : cutV xs none (some (p : Int)) = xs.take p := by
  unfold cutV
  rw [HT.sIx_none, HT.sIx_nat, Nat.min_eq_left h, List.drop_zero, Nat.sub_zero]
theorem cut_mid (xs : List V) (p : Nat) (h : p + 1 ≤ xs.length) : cutV xs (some (p : Int)) (some (-1)) = (xs.drop p).take (xs.length - 1 - p) := by
  unfold cutV
  have e : HT.sIx xs.length xs.length (some (-1)) = xs.length - 1 := by
    unfold HT.sIx
    simp
    omega
  rw [HT.sIx_nat, Nat.min_eq_left (by omega), e]
end GD

set_option pp.maxSteps 1500
set_option pp.deepTerms false
namespace TB
open PySem PySem.Spec PyProof.Rows L2 GxR GX GE GD GS GT GC TL

def top (i : Nat) : Stmt := PySem.Challenge.pw_towbarges_k17_read_back.main.body.getD i (.Pass ⟨0, 0, 0, 0⟩)
abbrev s_is_number : Stmt := top 7
theorem sc_is_number : FnScope ["value", "least", "most"] ["value", "least", "most"] (defScope s_is_number) := ⟨rfl, rfl, rfl, by decide +kernel, rfl, by decide +kernel, by decide +kernel⟩
abbrev s_is_row : Stmt := top 8
theorem sc_is_row : FnScope ["value", "least", "most"] ["value", "least", "most"] (defScope s_is_row) := ⟨rfl, rfl, rfl, by decide +kernel, rfl, by decide +kernel, by decide +kernel⟩
abbrev s_is_stretch : Stmt := top 9
theorem sc_is_stretch : FnScope ["value", "hours", "room", "depths", "depth"] ["value"] (defScope s_is_stretch) := ⟨rfl, rfl, rfl, by decide +kernel, rfl, by decide +kernel, by decide +kernel⟩
abbrev s_is_ready : Stmt := top 10
theorem sc_is_ready : FnScope ["value"] ["value"] (defScope s_is_ready) := ⟨rfl, rfl, rfl, by decide +kernel, rfl, by decide +kernel, by decide +kernel⟩
abbrev s_is_barge : Stmt := top 11
theorem sc_is_barge : FnScope ["value", "last", "begin", "goal", "draft", "ready", "due"] ["value", "last"] (defScope s_is_barge) := ⟨rfl, rfl, rfl, by decide +kernel, rfl, by decide +kernel, by decide +kernel⟩
abbrev s_check_book : Stmt := top 12
theorem sc_check_book : FnScope ["book", "stretches", "barges", "stretch", "last", "barge"] ["book"] (defScope s_check_book) := ⟨rfl, rfl, rfl, by decide +kernel, rfl, by decide +kernel, by decide +kernel⟩
abbrev s_check_plan : Stmt := top 13
theorem sc_check_plan : FnScope ["book", "plan", "many", "hour"] ["book", "plan"] (defScope s_check_plan) := ⟨rfl, rfl, rfl, by decide +kernel, rfl, by decide +kernel, by decide +kernel⟩
abbrev s_number_of : Stmt := top 16
theorem sc_number_of : FnScope ["word", "plain", "sign"] ["word"] (defScope s_number_of) := ⟨rfl, rfl, rfl, by decide +kernel, rfl, by decide +kernel, by decide +kernel⟩
abbrev s_stretch_of : Stmt := top 17
theorem sc_stretch_of : FnScope ["words", "numbers", "word"] ["words"] (defScope s_stretch_of) := ⟨rfl, rfl, rfl, by decide +kernel, rfl, by decide +kernel, by decide +kernel⟩
abbrev s_barge_of : Stmt := top 18
theorem sc_barge_of : FnScope ["words", "word"] ["words"] (defScope s_barge_of) := ⟨rfl, rfl, rfl, by decide +kernel, rfl, by decide +kernel, by decide +kernel⟩
abbrev s_hour_of : Stmt := top 19
theorem sc_hour_of : FnScope ["word"] ["word"] (defScope s_hour_of) := ⟨rfl, rfl, rfl, by decide +kernel, rfl, by decide +kernel, by decide +kernel⟩
abbrev s_read : Stmt := top 20
theorem sc_read : FnScope ["text", "rows", "row", "names", "many", "stretches", "barges", "plan", "word", "book"] ["text"] (defScope s_read) := ⟨rfl, rfl, rfl, by decide +kernel, rfl, by decide +kernel, by decide +kernel⟩
abbrev s__law_cell_at : Stmt := top 22
theorem sc__law_cell_at : FnScope ["_law_script", "_law_k"] ["_law_script", "_law_k"] (defScope s__law_cell_at) := ⟨rfl, rfl, rfl, by decide +kernel, rfl, by decide +kernel, by decide +kernel⟩
abbrev s__law_dice : Stmt := top 23
theorem sc__law_dice : FnScope ["_law_cell"] ["_law_cell"] (defScope s__law_dice) := ⟨rfl, rfl, rfl, by decide +kernel, rfl, by decide +kernel, by decide +kernel⟩
abbrev s__law_roll : Stmt := top 24
theorem sc__law_roll : FnScope ["_law_dice_here", "_law_most", "_law_found"] ["_law_dice_here", "_law_most"] (defScope s__law_roll) := ⟨rfl, rfl, rfl, by decide +kernel, rfl, by decide +kernel, by decide +kernel⟩
abbrev s__law_whole : Stmt := top 25
theorem sc__law_whole : FnScope ["_law_found"] ["_law_found"] (defScope s__law_whole) := ⟨rfl, rfl, rfl, by decide +kernel, rfl, by decide +kernel, by decide +kernel⟩
abbrev s__law_river : Stmt := top 26
theorem sc__law_river : FnScope ["_law_dice_here", "_law_many", "_law_out", "_law_k", "_law_slow", "_law_depths", "_law_turn"] ["_law_dice_here", "_law_many"] (defScope s__law_river) := ⟨rfl, rfl, rfl, by decide +kernel, rfl, by decide +kernel, by decide +kernel⟩
abbrev s__law_time : Stmt := top 27
theorem sc__law_time : FnScope ["_law_river_here", "_law_place", "_law_hour", "_law_stretch"] ["_law_river_here", "_law_place", "_law_hour"] (defScope s__law_time) := ⟨rfl, rfl, rfl, by decide +kernel, rfl, by decide +kernel, by decide +kernel⟩
abbrev s__law_barges : Stmt := top 28
theorem sc__law_barges : FnScope ["_law_dice_here", "_law_river_here", "_law_many", "_law_out", "_law_slack", "_law_k", "_law_begin", "_law_goal", "_law_hour", "_law_ready", "_law_due", "_law_draft", "_law_odd"] ["_law_dice_here", "_law_river_here", "_law_many"] (defScope s__law_barges) := ⟨rfl, rfl, rfl, by decide +kernel, rfl, by decide +kernel, by decide +kernel⟩
abbrev s__law_book : Stmt := top 29
theorem sc__law_book : FnScope ["_law_script", "_law_most", "_law_dice_here", "_law_cell", "_law_river_here"] ["_law_script", "_law_most"] (defScope s__law_book) := ⟨rfl, rfl, rfl, by decide +kernel, rfl, by decide +kernel, by decide +kernel⟩
abbrev s__law_plan : Stmt := top 30
theorem sc__law_plan : FnScope ["_law_script", "_law_many", "_law_dice_here", "_law_out", "_law_k"] ["_law_script", "_law_many"] (defScope s__law_plan) := ⟨rfl, rfl, rfl, by decide +kernel, rfl, by decide +kernel, by decide +kernel⟩
abbrev s__law_text : Stmt := top 31
theorem sc__law_text : FnScope ["_law_book_here", "_law_plan_here", "_law_out", "_law_hours", "_law_room", "_law_depths", "_law_depth", "_law_barge", "_law_number", "_law_hour"] ["_law_book_here", "_law_plan_here"] (defScope s__law_text) := ⟨rfl, rfl, rfl, by decide +kernel, rfl, by decide +kernel, by decide +kernel⟩
abbrev s__law_alike : Stmt := top 32
theorem sc__law_alike : FnScope ["_law_found", "_law_due", "_law_k"] ["_law_found", "_law_due"] (defScope s__law_alike) := ⟨rfl, rfl, rfl, by decide +kernel, rfl, by decide +kernel, by decide +kernel⟩
abbrev s_law : Stmt := top 33
theorem sc_law : FnScope ["_law_script", "_law_book_here", "_law_plan_here", "_law_great", "_law_told"] ["_law_script"] (defScope s_law) := ⟨rfl, rfl, rfl, by decide +kernel, rfl, by decide +kernel, by decide +kernel⟩

abbrev FnP (K : PySem.W.Frag) (x : Str) (st : Stmt) (f : Addr) (fd : FuncData) : Prop := FunD K x x (defArgs st) (defBody st) (defScope st) [] [] f fd
/-- where the defs stand -/
structure Ad where
  a_is_number : Addr
  d_is_number : FuncData
  a_is_row : Addr
  d_is_row : FuncData
  a_is_stretch : Addr
  d_is_stretch : FuncData
  k_is_stretch : Addr × Addr
  a_is_ready : Addr
  d_is_ready : FuncData
  a_is_barge : Addr
  d_is_barge : FuncData
  a_check_book : Addr
  d_check_book : FuncData
  k_check_book : Addr × Addr
  a_check_plan : Addr
  d_check_plan : FuncData
  k_check_plan : Addr × Addr
  a_number_of : Addr
  d_number_of : FuncData
  k_number_of : Addr × Addr
  a_stretch_of : Addr
  d_stretch_of : FuncData
  a_barge_of : Addr
  d_barge_of : FuncData
  a_hour_of : Addr
  d_hour_of : FuncData
  a_read : Addr
  d_read : FuncData
  a__law_cell_at : Addr
  d__law_cell_at : FuncData
  a__law_dice : Addr
  d__law_dice : FuncData
  a__law_roll : Addr
  d__law_roll : FuncData
  a__law_whole : Addr
  d__law_whole : FuncData
  a__law_river : Addr
  d__law_river : FuncData
  a__law_time : Addr
  d__law_time : FuncData
  a__law_barges : Addr
  d__law_barges : FuncData
  a__law_book : Addr
  d__law_book : FuncData
  a__law_plan : Addr
  d__law_plan : FuncData
  a__law_text : Addr
  d__law_text : FuncData
  a__law_alike : Addr
  d__law_alike : FuncData
  a_law : Addr
  d_law : FuncData
  c_TowError : Addr
  c_BadBook : Addr
  c_BadPlan : Addr
  c_BadText : Addr
structure Facts (A : Ad) (K : PySem.W.Frag) (mg : Str → Option Value) (base : Heap) : Prop where
  F_is_number : FnP K "is_number" s_is_number A.a_is_number A.d_is_number
  g_is_number : mg "is_number" = some (.ref A.a_is_number)
  b_is_number : Binds K A.d_is_number ["value", "least", "most"] []
  F_is_row : FnP K "is_row" s_is_row A.a_is_row A.d_is_row
  g_is_row : mg "is_row" = some (.ref A.a_is_row)
  b_is_row : Binds K A.d_is_row ["value", "least", "most"] []
  F_is_stretch : FnP K "is_stretch" s_is_stretch A.a_is_stretch A.d_is_stretch
  g_is_stretch : mg "is_stretch" = some (.ref A.a_is_stretch)
  b_is_stretch : Binds K A.d_is_stretch ["value"] []
  h_is_stretch : A.d_is_stretch.code = .ref A.k_is_stretch.1
  t_is_stretch : GxR.TabB base mg A.k_is_stretch.1 A.k_is_stretch.2
  F_is_ready : FnP K "is_ready" s_is_ready A.a_is_ready A.d_is_ready
  g_is_ready : mg "is_ready" = some (.ref A.a_is_ready)
  b_is_ready : Binds K A.d_is_ready ["value"] []
  F_is_barge : FnP K "is_barge" s_is_barge A.a_is_barge A.d_is_barge
  g_is_barge : mg "is_barge" = some (.ref A.a_is_barge)
  b_is_barge : Binds K A.d_is_barge ["value", "last"] []
  F_check_book : FnP K "check_book" s_check_book A.a_check_book A.d_check_book
  g_check_book : mg "check_book" = some (.ref A.a_check_book)
  b_check_book : Binds K A.d_check_book ["book"] []
  h_check_book : A.d_check_book.code = .ref A.k_check_book.1
  t_check_book : GxR.TabB base mg A.k_check_book.1 A.k_check_book.2
  F_check_plan : FnP K "check_plan" s_check_plan A.a_check_plan A.d_check_plan
  g_check_plan : mg "check_plan" = some (.ref A.a_check_plan)
  b_check_plan : Binds K A.d_check_plan ["book", "plan"] []
  h_check_plan : A.d_check_plan.code = .ref A.k_check_plan.1
  t_check_plan : GxR.TabB base mg A.k_check_plan.1 A.k_check_plan.2
  F_number_of : FnP K "number_of" s_number_of A.a_number_of A.d_number_of
  g_number_of : mg "number_of" = some (.ref A.a_number_of)
  b_number_of : Binds K A.d_number_of ["word"] []
  h_number_of : A.d_number_of.code = .ref A.k_number_of.1
  t_number_of : GxR.TabB base mg A.k_number_of.1 A.k_number_of.2
  F_stretch_of : FnP K "stretch_of" s_stretch_of A.a_stretch_of A.d_stretch_of
  g_stretch_of : mg "stretch_of" = some (.ref A.a_stretch_of)
  b_stretch_of : Binds K A.d_stretch_of ["words"] []
  F_barge_of : FnP K "barge_of" s_barge_of A.a_barge_of A.d_barge_of
  g_barge_of : mg "barge_of" = some (.ref A.a_barge_of)
  b_barge_of : Binds K A.d_barge_of ["words"] []
  F_hour_of : FnP K "hour_of" s_hour_of A.a_hour_of A.d_hour_of
  g_hour_of : mg "hour_of" = some (.ref A.a_hour_of)
  b_hour_of : Binds K A.d_hour_of ["word"] []
  F_read : FnP K "read" s_read A.a_read A.d_read
  g_read : mg "read" = some (.ref A.a_read)
  b_read : Binds K A.d_read ["text"] []
  F__law_cell_at : FnP K "_law_cell_at" s__law_cell_at A.a__law_cell_at A.d__law_cell_at
  g__law_cell_at : mg "_law_cell_at" = some (.ref A.a__law_cell_at)
  b__law_cell_at : Binds K A.d__law_cell_at ["_law_script", "_law_k"] []
  F__law_dice : FnP K "_law_dice" s__law_dice A.a__law_dice A.d__law_dice
  g__law_dice : mg "_law_dice" = some (.ref A.a__law_dice)
  b__law_dice : Binds K A.d__law_dice ["_law_cell"] []
  F__law_roll : FnP K "_law_roll" s__law_roll A.a__law_roll A.d__law_roll
  g__law_roll : mg "_law_roll" = some (.ref A.a__law_roll)
  b__law_roll : Binds K A.d__law_roll ["_law_dice_here", "_law_most"] []
  F__law_whole : FnP K "_law_whole" s__law_whole A.a__law_whole A.d__law_whole
  g__law_whole : mg "_law_whole" = some (.ref A.a__law_whole)
  b__law_whole : Binds K A.d__law_whole ["_law_found"] []
  F__law_river : FnP K "_law_river" s__law_river A.a__law_river A.d__law_river
  g__law_river : mg "_law_river" = some (.ref A.a__law_river)
  b__law_river : Binds K A.d__law_river ["_law_dice_here", "_law_many"] []
  F__law_time : FnP K "_law_time" s__law_time A.a__law_time A.d__law_time
  g__law_time : mg "_law_time" = some (.ref A.a__law_time)
  b__law_time : Binds K A.d__law_time ["_law_river_here", "_law_place", "_law_hour"] []
  F__law_barges : FnP K "_law_barges" s__law_barges A.a__law_barges A.d__law_barges
  g__law_barges : mg "_law_barges" = some (.ref A.a__law_barges)
  b__law_barges : Binds K A.d__law_barges ["_law_dice_here", "_law_river_here", "_law_many"] []
  F__law_book : FnP K "_law_book" s__law_book A.a__law_book A.d__law_book
  g__law_book : mg "_law_book" = some (.ref A.a__law_book)
  b__law_book : Binds K A.d__law_book ["_law_script", "_law_most"] []
  F__law_plan : FnP K "_law_plan" s__law_plan A.a__law_plan A.d__law_plan
  g__law_plan : mg "_law_plan" = some (.ref A.a__law_plan)
  b__law_plan : Binds K A.d__law_plan ["_law_script", "_law_many"] []
  F__law_text : FnP K "_law_text" s__law_text A.a__law_text A.d__law_text
  g__law_text : mg "_law_text" = some (.ref A.a__law_text)
  b__law_text : Binds K A.d__law_text ["_law_book_here", "_law_plan_here"] []
  F__law_alike : FnP K "_law_alike" s__law_alike A.a__law_alike A.d__law_alike
  g__law_alike : mg "_law_alike" = some (.ref A.a__law_alike)
  b__law_alike : Binds K A.d__law_alike ["_law_found", "_law_due"] []
  F_law : FnP K "law" s_law A.a_law A.d_law
  c_HOURS : ∃ t, mg "HOURS" = some (.int 12 t)
  c_FIGURES : ∃ t, mg "FIGURES" = some (.str "0123456789" t)
  n_all : mg "all" = none
  n_bool : mg "bool" = none
  n_int : mg "int" = none
  n_isinstance : mg "isinstance" = none
  n_len : mg "len" = none
  n_max : mg "max" = none
  n_range : mg "range" = none
  n_str : mg "str" = none
  n_sum : mg "sum" = none
  n_tuple : mg "tuple" = none

def Tabs (A : Ad) (H : Hp) : Prop := TabG H A.k_is_stretch.2 ∧ TabG H A.k_check_book.2 ∧ TabG H A.k_check_plan.2 ∧ TabG H A.k_number_of.2
theorem Tabs.ext {A : Ad} {ex : List Addr} {H H1 : Hp} (h : Tabs A H) (e : Ext ex H H1) : Tabs A H1 := ⟨e.tabG h.1, e.tabG h.2.1, e.tabG h.2.2.1, e.tabG h.2.2.2⟩
theorem Tabs.is_stretch {A : Ad} {H : Hp} (h : Tabs A H) : TabG H A.k_is_stretch.2 := h.1
theorem Tabs.check_book {A : Ad} {H : Hp} (h : Tabs A H) : TabG H A.k_check_book.2 := h.2.1
theorem Tabs.check_plan {A : Ad} {H : Hp} (h : Tabs A H) : TabG H A.k_check_plan.2 := h.2.2.1
theorem Tabs.number_of {A : Ad} {H : Hp} (h : Tabs A H) : TabG H A.k_number_of.2 := h.2.2.2
section
variable {P : Program} {w : World} {A : Ad} {K : PySem.W.Frag} {mg : Str → Option Value} {base : Heap}
def spIsNumber : Sp := fun vs H Q _ => ∃ v lo hi : Int, vs = [.int v, .int lo, .int hi] ∧ lo ≤ v ∧ v ≤ hi ∧ Q (.bl true) H
theorem ok_is_number (T : Facts A K mg base) : FnOk P w K mg base CX0 1 A.a_is_number A.d_is_number ["value", "least", "most"] (spIsNumber) := by
  refine T.F_is_number.ok sc_is_number (fun vs H Q E h => ?_) (fun cdv A1 outer s H vs Q E hr h => ?_)
  · obtain ⟨v, lo, hi, rfl, _⟩ := h
    rfl
  · obtain ⟨v, lo, hi, rfl, h1, h2, q⟩ := h
    refine ⟨_, PSs.nox (pss_cons (ps_if (PW.pt (pw_or (pt_val (pe_callB call_isi (by rfl) T.n_isinstance PyProof.Rows.boot_isinstance (pa_cons (pv 0) (pa_cons (pe_bltn (v := .ty "bool") (by rfl) T.n_bool (by decide +kernel) rfl) pa_nil)))) (pw_or1 (pt_not (pt_val (pe_callB call_isi (by rfl) T.n_isinstance PyProof.Rows.boot_isinstance (pa_cons (pv 0) (pa_cons (pe_bltn (v := .ty "int") (by rfl) T.n_int (by decide +kernel) rfl) pa_nil)))))))) (pss_one (ps_ret pe_bl)) pss_nil)
      (pss_one (ps_ret (pe_chain op_le op_le (pv 1) (pv 0) (pv 2))))), ?_⟩
    refine ⟨.int v, rfl, tc1 (isi_ib ⟨_, rfl, iteF ⟨.int v, rfl, tc1 (isi_ii ⟨_, rfl, iteF ?_⟩)⟩⟩)⟩
    refine ⟨.int lo, rfl, .int v, rfl, _, _, rfl, rfl, _, rfl, iteD h1 ⟨.int hi, rfl, _, _, rfl, rfl, ?_⟩⟩
    show Q (.bl (decide (v ≤ hi))) H
    rw [decide_eq_true h2]
    exact q

def spIsRow (K : PySem.W.Frag) : Sp := fun vs H Q _ => ∃ (a : Addr) (xs : List V) (lo hi : Int), vs = [.ref a, .int lo, .int hi] ∧ SqT K H a xs ∧ lo ≤ (xs.length : Int) ∧ (xs.length : Int) ≤ hi ∧ Q (.bl true) H
theorem ok_is_row (T : Facts A K mg base) : FnOk P w K mg base CX0 1 A.a_is_row A.d_is_row ["value", "least", "most"] (spIsRow K) := by
  refine T.F_is_row.ok sc_is_row (fun vs H Q E h => ?_) (fun cdv A1 outer s H vs Q E hr h => ?_)
  · obtain ⟨a, xs, lo, hi, rfl, _⟩ := h
    rfl
  · obtain ⟨a, xs, lo, hi, rfl, t, h1, h2, q⟩ := h
    refine ⟨_, PSs.nox (pss_one (ps_ret (pe_and (pe_callB call_isi (by rfl) T.n_isinstance PyProof.Rows.boot_isinstance (pa_cons (pv 0) (pa_cons (pe_bltn (v := .ty "tuple") (by rfl) T.n_tuple (by decide +kernel) rfl) pa_nil))) (pe_one (pe_chain op_le op_le (pv 1) (pe_callB call_len_seq (by rfl) T.n_len PySem.boot_len (pa_cons (pv 0) pa_nil)) (pv 2)))))), ?_⟩
    refine ⟨.ref a, rfl, tc1 (isi_tt t ⟨_, rfl, iteT ?_⟩)⟩
    refine ⟨.int lo, rfl, .ref a, rfl, a, _, rfl, .inr t, _, _, rfl, rfl, _, rfl, iteD h1 ⟨.int hi, rfl, _, _, rfl, rfl, ?_⟩⟩
    show Q (.bl (decide ((xs.length : Int) ≤ hi))) H
    rw [decide_eq_true h2]
    exact q

def spIsStretch (A : Ad) (K : PySem.W.Frag) : Sp := fun vs H Q _ => ∃ (v : V) (s : Stretch), vs = [v] ∧ IsStretch K H v s ∧ s.Ok ∧ Tabs A H ∧ ∀ H', Ext [] H H' → Q (.bl true) H'
theorem ok_is_stretch (T : Facts A K mg base) : FnOk P w K mg base CX0 3 A.a_is_stretch A.d_is_stretch ["value"] (spIsStretch A K) := by
  refine GX.okT T.F_is_stretch T.h_is_stretch sc_is_stretch (fun vs H Q E h => ?_) (fun A1 outer s H vs Q E hr h => ?_)
  · obtain ⟨v, s, rfl, _⟩ := h
    rfl
  · obtain ⟨v, st, rfl, ⟨a, d, rfl, t1, t2⟩, ok, tb, q⟩ := h
    refine ⟨_, PSs.nox (pss_cons (ps_if (pt_not (pt_val (pe_call (ok_is_row T) (hr.mono (by decide)) (by rfl) T.g_is_row T.F_is_row.kp T.b_is_row .nil pass0 (pa_cons (pv 0) (pa_cons pe_int (pa_cons pe_int pa_nil)))))) (pss_one (ps_ret pe_bl)) pss_nil)
      (pss_cons (ps_asg (pv 0) (pg_tup (by rfl) (pgs_cons (pg_name (i := 1) sc_is_stretch.nd rfl (Or.inl rfl)) (pgs_cons (pg_name (i := 2) sc_is_stretch.nd rfl (Or.inl rfl)) (pgs_cons (pg_name (i := 3) sc_is_stretch.nd rfl (Or.inl rfl)) pgs_nil)))))
      (pss_cons (ps_if (PW.pt (pw_or (pt_not (pt_val (pe_call (ok_is_number T) (hr.mono (by decide)) (by rfl) T.g_is_number T.F_is_number.kp T.b_is_number .nil pass0 (pa_cons (pv 1) (pa_cons pe_int (pa_cons pe_int pa_nil)))))) (pw_or1 (pt_not (pt_val (pe_call (ok_is_number T) (hr.mono (by decide)) (by rfl) T.g_is_number T.F_is_number.kp T.b_is_number .nil pass0 (pa_cons (pv 2) (pa_cons pe_int (pa_cons pe_int pa_nil))))))))) (pss_one (ps_ret pe_bl)) pss_nil)
      (pss_one (ps_ret (pe_and (pe_call (ok_is_row T) (hr.mono (by decide)) (by rfl) T.g_is_row T.F_is_row.kp T.b_is_row .nil pass0 (pa_cons (pv 3) (pa_cons pe_int (pa_cons pe_int pa_nil)))) (pe_one (GX.pe_allG (own := [("depth", 4)]) (g := (gName 4)) hr (by rfl) T.n_all T.t_is_stretch rfl (GX.genOk_by (own := [("depth", 4)]) (N := ["value", "hours", "room", "depths", "depth"]) (sc := defScope s_is_stretch) (by decide +kernel)) sc_is_stretch.nd (pi_tup (pv 3)) (fun _ _ _ _ _ _ _ => (pg_name (i := 4) sc_is_stretch.nd rfl (Or.inl rfl))) (fun _ _ _ _ _ _ _ => pts_nil) (fun _ _ _ _ _ _ _ => (pe_call (ok_is_number T) ((GX.room_gcx hr).mono (by decide)) (by rfl) T.g_is_number T.F_is_number.kp T.b_is_number .nil pass0 (pa_cons (pv 4) (pa_cons pe_int (pa_cons pe_int pa_nil))))))))))))), ?_⟩
    refine ⟨.ref a, rfl, a, _, _, _, rfl, t1, by simp, by simp, _, rfl, iteF ?_⟩
    refine ⟨.ref a, rfl, a, _, rfl, t1, rfl, _, _, rfl, _, _, rfl, _, _, rfl, rfl, ?_⟩
    refine ⟨_, rfl, _, _, _, rfl, ok.h1, ok.h9, _, rfl, iteF ⟨_, rfl, _, _, _, rfl, ok.r1, ok.r9, _, rfl, iteF ?_⟩⟩
    refine ⟨_, rfl, d, _, _, _, rfl, t2, by rw [List.length_map]; exact Int.ofNat_le.mpr ok.d1, by rw [List.length_map]; exact Int.ofNat_le.mpr ok.d24, _, rfl, iteT ?_⟩
    refine ⟨.ref d, rfl, d, rfl, ⟨_, t2⟩, all_tup (xs := st.ds.map V.int) tb.is_stretch (fun _ H2 => Ext [] H H2) (fun H2 hT => Ext.tab tb.is_stretch hT) (fun _ _ _ e => e.sqT t2) (fun i x H2 hx e => ?_) (fun H2 e => q H2 e)⟩
    obtain ⟨y, hy, rfl⟩ := map_get hx
    have oy := ok.ds y (List.mem_of_getElem? hy)
    exact ⟨rfl, _, rfl, _, _, _, rfl, oy.1, oy.2, true, rfl, iteT e⟩

def spIsReady : Sp := fun vs H Q _ => ∃ v : Int, vs = [.int v] ∧ 0 ≤ v ∧ v ≤ 99 ∧ Q (.bl true) H
theorem ok_is_ready (T : Facts A K mg base) : FnOk P w K mg base CX0 2 A.a_is_ready A.d_is_ready ["value"] (spIsReady) := by
  refine T.F_is_ready.ok sc_is_ready (fun vs H Q E h => ?_) (fun cdv A1 outer s H vs Q E hr h => ?_)
  · obtain ⟨v, rfl, _⟩ := h
    rfl
  · obtain ⟨v, rfl, h1, h2, q⟩ := h
    refine ⟨_, PSs.nox (pss_one (ps_ret (pe_call (ok_is_number T) (hr.mono (by decide)) (by rfl) T.g_is_number T.F_is_number.kp T.b_is_number .nil pass0 (pa_cons (pv 0) (pa_cons pe_int (pa_cons pe_int pa_nil)))))), ?_⟩
    exact ⟨_, rfl, _, _, _, rfl, h1, h2, q⟩

def spIsBarge (K : PySem.W.Frag) : Sp := fun vs H Q _ => ∃ (v : V) (b : Barge) (n : Nat), vs = [v, .int (n : Int)] ∧ IsBarge K H v b ∧ b.Ok n ∧ Q (.bl true) H
theorem ok_is_barge (T : Facts A K mg base) : FnOk P w K mg base CX0 3 A.a_is_barge A.d_is_barge ["value", "last"] (spIsBarge K) := by
  refine T.F_is_barge.ok sc_is_barge (fun vs H Q E h => ?_) (fun cdv A1 outer s H vs Q E hr h => ?_)
  · obtain ⟨v, b, n, rfl, _⟩ := h
    rfl
  · obtain ⟨v, b, n, rfl, ⟨a, rfl, t1⟩, ok, q⟩ := h
    refine ⟨_, PSs.nox (pss_cons (ps_if (pt_not (pt_val (pe_call (ok_is_row T) (hr.mono (by decide)) (by rfl) T.g_is_row T.F_is_row.kp T.b_is_row .nil pass0 (pa_cons (pv 0) (pa_cons pe_int (pa_cons pe_int pa_nil)))))) (pss_one (ps_ret pe_bl)) pss_nil)
      (pss_cons (ps_asg (pv 0) (pg_tup (by rfl) (pgs_cons (pg_name (i := 2) sc_is_barge.nd rfl (Or.inl rfl)) (pgs_cons (pg_name (i := 3) sc_is_barge.nd rfl (Or.inl rfl)) (pgs_cons (pg_name (i := 4) sc_is_barge.nd rfl (Or.inl rfl)) (pgs_cons (pg_name (i := 5) sc_is_barge.nd rfl (Or.inl rfl)) (pgs_cons (pg_name (i := 6) sc_is_barge.nd rfl (Or.inl rfl)) pgs_nil)))))))
      (pss_cons (ps_if (PW.pt (pw_or (pt_not (pt_val (pe_call (ok_is_number T) (hr.mono (by decide)) (by rfl) T.g_is_number T.F_is_number.kp T.b_is_number .nil pass0 (pa_cons (pv 2) (pa_cons pe_int (pa_cons (pv 1) pa_nil)))))) (pw_or (pt_not (pt_val (pe_call (ok_is_number T) (hr.mono (by decide)) (by rfl) T.g_is_number T.F_is_number.kp T.b_is_number .nil pass0 (pa_cons (pv 3) (pa_cons pe_int (pa_cons (pv 1) pa_nil)))))) (pw_or1 (pt_cmpR op_ge (pv 2) (pv 3) (nomark _)))))) (pss_one (ps_ret pe_bl)) pss_nil)
      (pss_one (ps_ret (pe_and (pe_call (ok_is_number T) (hr.mono (by decide)) (by rfl) T.g_is_number T.F_is_number.kp T.b_is_number .nil pass0 (pa_cons (pv 4) (pa_cons pe_int (pa_cons pe_int pa_nil)))) (pe_and (pe_call (ok_is_ready T) (hr.mono (by decide)) (by rfl) T.g_is_ready T.F_is_ready.kp T.b_is_ready .nil pass0 (pa_cons (pv 5) pa_nil)) (pe_one (pe_call (ok_is_number T) (hr.mono (by decide)) (by rfl) T.g_is_number T.F_is_number.kp T.b_is_number .nil pass0 (pa_cons (pv 6) (pa_cons pe_int (pa_cons pe_int pa_nil)))))))))))), ?_⟩
    have := ok.b0
    have := ok.bg
    have := ok.gn
    refine ⟨.ref a, rfl, a, _, _, _, rfl, t1, by simp, by simp, _, rfl, iteF ?_⟩
    refine ⟨.ref a, rfl, a, _, rfl, t1, rfl, _, _, rfl, _, _, rfl, _, _, rfl, _, _, rfl, _, _, rfl, rfl, ?_⟩
    refine ⟨_, rfl, _, rfl, _, _, _, rfl, ok.b0, by omega, _, rfl, iteF ⟨_, rfl, _, rfl, _, _, _, rfl, by omega, ok.gn, _, rfl, iteF ⟨_, rfl, _, rfl, _, _, rfl, rfl, _, rfl, iteDn (by omega) ?_⟩⟩⟩
    refine ⟨_, rfl, _, _, _, rfl, ok.d1, ok.d99, _, rfl, iteT ⟨_, rfl, _, rfl, ok.r0, ok.r99, _, rfl, iteT ⟨_, rfl, _, _, _, rfl, ok.u0, ok.u199, q⟩⟩⟩

def spCheckBook (A : Ad) (K : PySem.W.Frag) : Sp := fun vs H Q _ => ∃ (v : V) (k : Book), vs = [v] ∧ IsBook K H v k ∧ k.Ok ∧ Tabs A H ∧ ∀ H', Ext [] H H' → Q .non H'
theorem ok_check_book (T : Facts A K mg base) : FnOk P w K mg base CX0 5 A.a_check_book A.d_check_book ["book"] (spCheckBook A K) := by
  refine GX.okT T.F_check_book T.h_check_book sc_check_book (fun vs H Q E h => ?_) (fun A1 outer s H vs Q E hr h => ?_)
  · obtain ⟨v, k, rfl, _⟩ := h
    rfl
  · obtain ⟨v, k, rfl, ⟨a, r, b, rfl, t0, ⟨ra, rs, rfl, t1, pr⟩, ⟨ba, bs, rfl, t2, pb⟩⟩, ok, tb, q⟩ := h
    refine ⟨_, PSs.nox (pss_cons (ps_if (pt_not (pt_val (pe_call (ok_is_row T) (hr.mono (by decide)) (by rfl) T.g_is_row T.F_is_row.kp T.b_is_row .nil pass0 (pa_cons (pv 0) (pa_cons pe_int (pa_cons pe_int pa_nil)))))) (pss_one ps_never) pss_nil)
      (pss_cons (ps_asg (pv 0) (pg_tup (by rfl) (pgs_cons (pg_name (i := 1) sc_check_book.nd rfl (Or.inl rfl)) (pgs_cons (pg_name (i := 2) sc_check_book.nd rfl (Or.inl rfl)) pgs_nil))))
      (pss_cons (ps_if (PW.pt (pw_or (pt_not (pt_val (pe_call (ok_is_row T) (hr.mono (by decide)) (by rfl) T.g_is_row T.F_is_row.kp T.b_is_row .nil pass0 (pa_cons (pv 1) (pa_cons pe_int (pa_cons pe_int pa_nil)))))) (pw_or1 (pt_not (pt_val (GX.pe_allG (own := [("stretch", 3)]) (g := (gName 3)) hr (by rfl) T.n_all T.t_check_book rfl (GX.genOk_by (own := [("stretch", 3)]) (N := ["book", "stretches", "barges", "stretch", "last", "barge"]) (sc := defScope s_check_book) (by decide +kernel)) sc_check_book.nd (pi_tup (pv 1)) (fun _ _ _ _ _ _ _ => (pg_name (i := 3) sc_check_book.nd rfl (Or.inl rfl))) (fun _ _ _ _ _ _ _ => pts_nil) (fun _ _ _ _ _ _ _ => (pe_call (ok_is_stretch T) ((GX.room_gcx hr).mono (by decide)) (by rfl) T.g_is_stretch T.F_is_stretch.kp T.b_is_stretch .nil pass0 (pa_cons (pv 3) pa_nil))))))))) (pss_one ps_never) pss_nil)
      (pss_cons (ps_set (i := 4) sc_check_book.nd rfl (Or.inr rfl) (pe_callB call_len_seq (by rfl) T.n_len PySem.boot_len (pa_cons (pv 1) pa_nil)))
      (pss_one (ps_if (PW.pt (pw_or (pt_not (pt_val (pe_call (ok_is_row T) (hr.mono (by decide)) (by rfl) T.g_is_row T.F_is_row.kp T.b_is_row .nil pass0 (pa_cons (pv 2) (pa_cons pe_int (pa_cons pe_int pa_nil)))))) (pw_or1 (pt_not (pt_val (GX.pe_allG (own := [("barge", 5)]) (g := (gName 5)) hr (by rfl) T.n_all T.t_check_book rfl (GX.genOk_by (own := [("barge", 5)]) (N := ["book", "stretches", "barges", "stretch", "last", "barge"]) (sc := defScope s_check_book) (by decide +kernel)) sc_check_book.nd (pi_tup (pv 2)) (fun _ _ _ _ _ _ _ => (pg_name (i := 5) sc_check_book.nd rfl (Or.inl rfl))) (fun _ _ _ _ _ _ _ => pts_nil) (fun _ _ _ _ _ _ _ => (pe_call (ok_is_barge T) ((GX.room_gcx hr).mono (by decide)) (by rfl) T.g_is_barge T.F_is_barge.kp T.b_is_barge .nil pass0 (pa_cons (pv 5) (pa_cons (pv 4) pa_nil)))))))))) (pss_one ps_never) pss_nil)))))), ?_⟩
    have l1 := plen pr
    have l2 := plen pb
    have n1 := ok.rv.n1
    have n8 := ok.rv.n8
    have n7 := ok.n7
    refine ⟨.ref a, rfl, a, _, _, _, rfl, t0, by simp, by simp, _, rfl, iteF ?_⟩
    refine ⟨.ref a, rfl, a, _, rfl, t0, rfl, _, _, rfl, _, _, rfl, rfl, ?_⟩
    refine ⟨_, rfl, ra, _, _, _, rfl, t1, by omega, by omega, _, rfl, iteF ?_⟩
    refine tNot_ (tB_ (all_var (xs := rs) rfl t1 tb.check_book (fun _ H2 => Ext [] H H2) (fun H2 hT => Ext.tab tb.check_book hT) (fun _ _ _ e => e.sqT t1) (fun i x H2 hx e => ?_) (fun H2 e => ?_)))
    · obtain ⟨s1, hs1, is1⟩ := pget pr hx
      exact ⟨rfl, _, rfl, _, s1, rfl, e.stretch is1, ok.rv.ok s1 (List.mem_of_getElem? hs1), tb.ext e, fun H3 e3 => ⟨true, rfl, iteT (e.trans e3)⟩⟩
    refine ⟨_, rfl, iteF ?_⟩
    refine ⟨_, rfl, ra, _, rfl, .inr (e.sqT t1), ?_⟩
    refine ⟨_, rfl, ba, _, _, _, rfl, e.sqT t2, by omega, by omega, _, rfl, iteF ?_⟩
    refine tNot_ (tB_ (all_var (xs := bs) rfl (e.sqT t2) (tb.ext e).check_book (fun _ H3 => Ext [] H H3) (fun H3 hT => e.trans (Ext.tab (tb.ext e).check_book hT)) (fun _ _ _ e => e.sqT t2) (fun i x H3 hx e3 => ?_) (fun H3 e3 => ?_)))
    · obtain ⟨s1, hs1, is1⟩ := pget pb hx
      exact ⟨rfl, _, rfl, _, rfl, _, s1, rs.length, rfl, e3.barge is1, by rw [l1]; exact ok.ok s1 (List.mem_of_getElem? hs1), true, rfl, iteT e3⟩
    exact ⟨_, rfl, iteF (q H3 e3)⟩

def spCheckPlan (A : Ad) (K : PySem.W.Frag) : Sp := fun vs H Q _ => ∃ (v u : V) (k : Book) (pl : List (Option Int)), vs = [v, u] ∧ IsBook K H v k ∧ k.Ok ∧ IsPlan K H u pl ∧ PlOk k.bs.length pl ∧ Tabs A H ∧ ∀ H', Ext [] H H' → Q .non H'
theorem ok_check_plan (T : Facts A K mg base) : FnOk P w K mg base CX0 6 A.a_check_plan A.d_check_plan ["book", "plan"] (spCheckPlan A K) := by
  refine GX.okT T.F_check_plan T.h_check_plan sc_check_plan (fun vs H Q E h => ?_) (fun A1 outer s H vs Q E hr h => ?_)
  · obtain ⟨v, u, k, pl, rfl, _⟩ := h
    rfl
  · obtain ⟨v, u, k, pl, rfl, ib, ok, ⟨pa, rfl, tp⟩, okp, tb, q⟩ := h
    obtain ⟨ct_HOURS, c_HOURS⟩ := T.c_HOURS
    refine ⟨_, PSs.nox (pss_cons (ps_expr (pe_call (ok_check_book T) (hr.mono (by decide)) (by rfl) T.g_check_book T.F_check_book.kp T.b_check_book .nil pass0 (pa_cons (pv 0) pa_nil)))
      (pss_cons (ps_set (i := 2) sc_check_plan.nd rfl (Or.inl rfl) (pe_callB call_len_seq (by rfl) T.n_len PySem.boot_len (pa_cons (pe_ix ix_seq (pv 0) pe_int (fun _ _ => rfl)) pa_nil)))
      (pss_cons (ps_if (pt_not (pt_val (pe_call (ok_is_row T) (hr.mono (by decide)) (by rfl) T.g_is_row T.F_is_row.kp T.b_is_row .nil pass0 (pa_cons (pv 1) (pa_cons (pv 2) (pa_cons (pv 2) pa_nil)))))) (pss_one ps_never) pss_nil)
      (pss_one (ps_if (pt_not (pt_val (GX.pe_allG (own := [("hour", 3)]) (g := (gName 3)) hr (by rfl) T.n_all T.t_check_plan rfl (GX.genOk_by (own := [("hour", 3)]) (N := ["book", "plan", "many", "hour"]) (sc := defScope s_check_plan) (by decide +kernel)) sc_check_plan.nd (pi_tup (pv 1)) (fun _ _ _ _ _ _ _ => (pg_name (i := 3) sc_check_plan.nd rfl (Or.inl rfl))) (fun _ _ _ _ _ _ _ => pts_nil) (fun _ _ _ _ _ _ _ => (pe_or (pe_cmpR op_isN (pv 3) pe_non (nomark _)) (pe_one (pe_call (ok_is_number T) ((GX.room_gcx hr).mono (by decide)) (by rfl) T.g_is_number T.F_is_number.kp T.b_is_number .nil pass0 (pa_cons (pv 3) (pa_cons pe_int (pa_cons (pe_op op_sub (pe_glob (v := .int 12) (by rfl) c_HOURS ⟨_, rfl⟩) pe_int) pa_nil)))))))))) (pss_one ps_never) pss_nil))))), ?_⟩
    refine ⟨_, rfl, _, k, rfl, ib, ok, tb, fun H1 e1 => ?_⟩
    obtain ⟨a, r, b, rfl, t0, _, ⟨ba, bs, rfl, t2, pb⟩⟩ := e1.book ib
    have l2 := plen pb
    have lp := okp.len
    refine ⟨_, rfl, .inr (.inl ⟨a, _, 1, _, rfl, rfl, t0, atI_nat (j := 1) rfl, ba, bs, rfl, .inr t2, ?_⟩)⟩
    refine ⟨_, rfl, _, rfl, _, rfl, pa, _, _, _, rfl, e1.sqT tp, by rw [List.length_map]; omega, by rw [List.length_map]; omega, _, rfl, iteF ?_⟩
    unfold tNext
    dsimp only
    unfold tIfS
    refine tNot_ ?_
    refine tB_ ?_
    refine (all_var (xs := pl.map oV) rfl (e1.sqT tp) (tb.ext e1).check_plan (fun _ H2 => Ext [] H H2) (fun H2 hT => e1.trans (Ext.tab (tb.ext e1).check_plan hT)) (fun _ _ _ e => e.sqT tp) (fun i x H2 hx e => ?_) (fun H2 e => ?_))
    · obtain ⟨o, ho, rfl⟩ := map_get hx
      cases o with
      | none => exact ⟨rfl, _, rfl, rfl, _, rfl, iteD rfl ⟨true, rfl, iteT e⟩⟩
      | some h =>
        obtain ⟨h0, h11⟩ := okp.ok h (List.mem_of_getElem? ho)
        exact ⟨rfl, _, rfl, rfl, _, rfl, iteDn (by simp [oV]) ⟨_, rfl, _, _, rfl, rfl, h, 0, 12 - 1, rfl, h0, by omega, true, rfl, iteT e⟩⟩
    · exact ⟨_, rfl, iteF (q H2 e)⟩

def spNumberOf (A : Ad) (K : PySem.W.Frag) : Sp := fun vs H Q _ => ∃ (n : Int), vs = [.str (cellS (some n))] ∧ 0 ≤ n ∧ n ≤ 999 ∧ Tabs A H ∧ ∀ H', Ext [] H H' → Q (.int n) H'
theorem ok_number_of (T : Facts A K mg base) : FnOk P w K mg base CX0 2 A.a_number_of A.d_number_of ["word"] (spNumberOf A K) := by
  refine GX.okT T.F_number_of T.h_number_of sc_number_of (fun vs H Q E h => ?_) (fun A1 outer s H vs Q E hr h => ?_)
  · obtain ⟨n, rfl, _⟩ := h
    rfl
  · obtain ⟨n, rfl, h0, h9, tb, q⟩ := h
    obtain ⟨ct_FIGURES, c_FIGURES⟩ := T.c_FIGURES
    refine ⟨_, PSs.nox (pss_cons (ps_set (i := 1) sc_number_of.nd rfl (Or.inl rfl) (pe_and (pe_chain op_le op_le pe_int (pe_callB call_len_str (by rfl) T.n_len PySem.boot_len (pa_cons (pv 0) pa_nil)) pe_int) (pe_one (GX.pe_allG (own := [("sign", 2)]) (g := (gName 2)) hr (by rfl) T.n_all T.t_number_of rfl (GX.genOk_by (own := [("sign", 2)]) (N := ["word", "plain", "sign"]) (sc := defScope s_number_of) (by decide +kernel)) sc_number_of.nd (pi_str (pv 0)) (fun _ _ _ _ _ _ _ => (pg_name (i := 2) sc_number_of.nd rfl (Or.inl rfl))) (fun _ _ _ _ _ _ _ => pts_nil) (fun _ _ _ _ _ _ _ => (pe_cmpR op_in_sign (pv 2) (pe_glob (v := .str "0123456789") (by rfl) c_FIGURES ⟨_, rfl⟩) (by rfl)))))))
      (pss_cons (ps_if (PW.pt (pw_or (pt_not (pt_truth (pv 1) (by intro _; rfl))) (pw_or1 (PW.pt (pw_and (pt_cmpR op_eq (pe_ix ix_seq (pv 0) pe_int (fun _ _ => rfl)) pe_str (nomark _)) (pw_and1 (pt_cmpR op_ne (pv 0) pe_str (nomark _)))))))) (pss_one ps_never) pss_nil)
      (pss_one (ps_ret (pe_callTy call_int_str (by rfl) T.n_int (by decide +kernel) (pa_cons (pv 0) pa_nil)))))), ?_⟩
    obtain ⟨m, rfl⟩ : ∃ m : Nat, n = (m : Int) := ⟨n.toNat, by omega⟩
    have etl := cell_num m
    have l3 : (cellS (some (m : Int))).length ≤ 3 := cellS_len (fun k e => by cases e; exact ⟨h0, h9⟩)
    have l1 : 1 ≤ (cellS (some (m : Int))).length := by
      rw [TL.len_tl, etl]
      exact List.length_pos_iff.mpr (numL_ne m)
    have ez := sizeLine_eq
    have ll : (cellS (some (m : Int))).length ≤ sizeLine := by omega
    have hmem : ∀ c ∈ tl (cellS (some (m : Int))), 48 ≤ c ∧ c ≤ 57 := fun c hc => by
      rw [etl] at hc
      exact numL_digits m c hc
    refine ⟨_, rfl, _, rfl, ll, _, _, rfl, rfl, _, rfl, iteD ?_ ?_⟩
    · show (1 : Int) ≤ ((cellS (some (m : Int))).length : Int)
      omega
    refine ⟨_, _, rfl, rfl, _, rfl, ?_⟩
    refine iteD (by show ((cellS (some (m : Int))).length : Int) ≤ 3; omega) ?_
    refine ⟨_, rfl, _, rfl, tb.number_of, fun H2 hT => ⟨fun i m' H3 => m' = (cellS (some (m : Int))).cps.size - i ∧ i ≤ (cellS (some (m : Int))).cps.size ∧ Ext [] H H3, ⟨_, rfl, Nat.zero_le _, Ext.tab tb.number_of hT⟩, ?_⟩⟩
    rintro i m' H3 ⟨rfl, hi, e3⟩
    by_cases hlt : i < (cellS (some (m : Int))).cps.size
    · refine .inr ⟨hlt, fun H4 => i + 1 ≤ (cellS (some (m : Int))).cps.size ∧ Ext [] H H4, fun H4 z => ⟨_, by omega, rfl, z.1, z.2⟩, fun x H4 y => ?_⟩
      obtain ⟨rfl, c, hc, rfl⟩ := y
      refine ⟨rfl, yesT ⟨_, rfl, c, _, rfl, rfl, true, ?_, iteT ⟨hlt, e3⟩⟩⟩
      have hcm : c ∈ tl (cellS (some (m : Int))) := by
        have : (cellS (some (m : Int))).cps.toList[i]? = some c := by rw [Array.getElem?_toList]; exact hc
        exact List.mem_of_getElem? this
      obtain ⟨c1, c2⟩ := hmem c hcm
      have hf : ("0123456789" : Str).cps.toList = [48, 49, 50, 51, 52, 53, 54, 55, 56, 57] := by decide +kernel
      have : c ∈ ("0123456789" : Str).cps.toList := by
        rw [hf]
        simp only [List.mem_cons, List.not_mem_nil, or_false]
        omega
      exact congrArg V.bl (decide_eq_true this)
    refine .inl ⟨Nat.not_lt.mp hlt, ?_⟩
    refine ⟨_, rfl, true, rfl, ?_⟩
    refine iteF ?_
    obtain ⟨c, hc, hr⟩ : ∃ c, (cellS (some (m : Int))).cps.toList[0]? = some c ∧ ((c = 48 ∧ m = 0) ∨ c ≠ 48) := by
      by_cases hm : m = 0
      · subst hm
        exact ⟨48, by show (tl (cellS (some ((0 : Nat) : Int))))[0]? = some 48; rw [etl, numL_lt (by decide)]; rfl, .inl ⟨rfl, rfl⟩⟩
      · obtain ⟨c, r, e, hcn⟩ := numL_head m (by omega)
        exact ⟨c, by show (tl (cellS (some (m : Int))))[0]? = some c; rw [etl, e]; rfl, .inr hcn⟩
    have last : ∃ a n, [V.str (cellS (some (m : Int)))] = [.str a] ∧ PySem.intText? a = some n ∧ a.length ≤ 640 ∧ Q (.int n) H3 :=
      ⟨_, (m : Int), rfl, int_num (by rw [← etl, ← TL.len_tl]; omega), by omega, q H3 e3⟩
    refine ⟨_, rfl, .inr (.inr ⟨_, 0, c, rfl, rfl, ll, atI_nat (j := 0) hc, rfl, _, rfl, ?_⟩)⟩
    rcases hr with ⟨rfl, rfl⟩ | hc
    · refine iteD (by decide +kernel) ?_
      refine ⟨_, rfl, rfl, _, rfl, iteNS (by decide +kernel) ?_⟩
      exact ⟨_, rfl, last⟩
    · refine iteDn ?_ ?_
      · intro z
        have z2 : (⟨#[c]⟩ : Str) = "0" := V.str.inj z
        have z3 := congrArg (fun s : Str => s.cps.toList) z2
        have z4 : [c] = [48] := z3.trans (by decide +kernel)
        exact hc (List.cons.inj z4).1
      · exact ⟨_, rfl, last⟩

def spStretchOf (A : Ad) (K : PySem.W.Frag) : Sp := fun vs H Q _ => ∃ (d : Addr) (s : Stretch), vs = [.ref d] ∧ SqL K H d (strsV ((stretchC s).map cellS)) ∧ s.Ok ∧ Tabs A H ∧ ∀ H' v, Ext [] H H' → IsStretch K H' v s → Q v H'
theorem ok_stretch_of (T : Facts A K mg base) : FnOk P w K mg base CX0 3 A.a_stretch_of A.d_stretch_of ["words"] (spStretchOf A K) := by
  refine T.F_stretch_of.ok sc_stretch_of (fun vs H Q E h => ?_) (fun cdv A1 outer s H vs Q E hr h => ?_)
  · obtain ⟨d, s, rfl, _⟩ := h
    rfl
  · obtain ⟨d, st, rfl, hd, ok, tb, q⟩ := h
    refine ⟨_, PSs.nox (pss_cons (ps_if (pt_cmpR op_lt (pe_callB call_len_seq (by rfl) T.n_len PySem.boot_len (pa_cons (pv 0) pa_nil)) pe_int (nomark _)) (pss_one ps_never) pss_nil)
      (pss_cons (ps_setLc (i := 1) (own := [("word", 2)]) (g := (gName 2)) rfl sc_stretch_of.nd rfl rfl (sw_true rfl rfl rfl (by decide +kernel)) (pi_list (pv 0)) (blkOk_by (own := [("word", 2)]) (N := ["words", "numbers", "word"]) (sc := defScope s_stretch_of) (by decide +kernel)) (fun _ _ _ _ _ => (pg_name (i := 2) sc_stretch_of.nd rfl (Or.inl rfl))) (fun _ _ _ _ _ => pts_nil) (fun _ _ _ _ _ => (pe_call (ok_number_of T) (hr.mono (by decide)) (by rfl) T.g_number_of T.F_number_of.kp T.b_number_of .nil pass0 (pa_cons (pv 2) pa_nil))))
      (pss_one (ps_ret (pe_tup (pa_cons (pe_ix ix_seq (pv 1) pe_int (fun _ _ => rfl)) (pa_cons (pe_ix ix_seq (pv 1) pe_int (fun _ _ => rfl)) (pa_cons (pe_callTy call_tuple_of (by rfl) T.n_tuple (by decide +kernel) (pa_cons (pe_slice sl_list (pv 1) (po_some pe_int) po_none) pa_nil)) pa_nil)))))))), ?_⟩
    have d24 := ok.d24
    have sm := stretchC_small ok
    have ls : (stretchC st).length = st.ds.length + 2 := by unfold stretchC; rw [List.length_cons, List.length_cons, List.length_map]
    refine ⟨_, rfl, d, _, rfl, .inl hd, _, _, rfl, rfl, _, rfl, iteDn (by unfold strsV; rw [List.length_map, List.length_map, ls]; have := ok.d1; omega) ?_⟩
    let ns : List Int := st.hours :: st.room :: st.ds
    have en : stretchC st = ns.map some := rfl
    refine ⟨_, rfl, d, rfl, ⟨_, hd⟩, fun D hD => lc_list (xs := strsV ((stretchC st).map cellS)) (fun i H3 => Ext [] H H3 ∧ i ≤ ns.length ∧ H3 D = some (.lst ((ns.take i).map V.int))) ⟨Ext.new hD, Nat.zero_le _, upd_same⟩ (fun _ _ _ z => z.1.sqL (by simp) hd) (fun i x H3 hx z => ?_) (fun H3 z => ?_)⟩
    · obtain ⟨e3, _, hL⟩ := z
      obtain ⟨w, hw, rfl⟩ := map_get hx
      obtain ⟨o, ho, rfl⟩ := map_get hw
      have ho2 := ho
      rw [en] at ho2
      obtain ⟨n, hn, rfl⟩ := map_get ho2
      have hi : i < ns.length := (List.getElem?_eq_some_iff.mp hn).1
      have hsm := sm.1 (some n) (List.mem_of_getElem? ho) n rfl
      have hln : ns.length = st.ds.length + 2 := rfl
      refine ⟨rfl, yesT ⟨_, rfl, n, rfl, hsm.1, hsm.2, tb.ext e3, fun H4 e4 => ?_⟩⟩
      refine ⟨_, e4.lst D _ (by simp) hL, small1000 (by rw [List.length_map, List.length_take]; omega), (e3.trans e4).wrNew hD, hi, ?_⟩
      rw [upd_same, map_take hn]
    obtain ⟨e3, _, hL⟩ := z
    have hlen : (strsV ((stretchC st).map cellS)).length = ns.length := by unfold strsV; rw [List.length_map, List.length_map, ls]; rfl
    rw [hlen, List.take_length] at hL
    have hL : H3 D = some (.lst (V.int st.hours :: V.int st.room :: st.ds.map V.int)) := hL
    refine ⟨_, rfl, .inl ⟨D, _, 0, _, rfl, rfl, .inl (.inl hL), atI_nat (j := 0) rfl, ?_⟩⟩
    refine ⟨_, rfl, .inl ⟨D, _, 1, _, rfl, rfl, .inl (.inl hL), atI_nat (j := 1) rfl, ?_⟩⟩
    refine ⟨_, rfl, ((2 : Nat) : Int), rfl, ?_⟩
    first | (unfold tNoPart; dsimp only) | dsimp only
    refine ⟨D, _, rfl, .inl (.inl hL), fun p hp => ?_⟩
    rw [cut_list]
    have e4 := Ext.new (ex := []) (o := .lst ((V.int st.hours :: V.int st.room :: st.ds.map V.int).drop 2)) hp
    refine ⟨p, _, rfl, .inl ⟨.inl (.inl upd_same), fun t ht => ?_⟩⟩
    have e5 := Ext.new (ex := []) (o := .tup (st.ds.map V.int)) ht
    refine ⟨by show 3 ≤ sizeLine; decide, fun r hr => ?_⟩
    have e6 := Ext.new (ex := []) (o := .tup [.int st.hours, .int st.room, .ref t]) hr
    exact q _ _ (e3.trans (e4.trans (e5.trans e6))) ⟨r, t, rfl, sqT_new, e6.sqT sqT_new⟩

def spBargeOf (A : Ad) (K : PySem.W.Frag) : Sp := fun vs H Q _ => ∃ (d : Addr) (b : Barge) (n : Nat), vs = [.ref d] ∧ SqL K H d (strsV ((bargeC b).map cellS)) ∧ b.Ok n ∧ n ≤ 8 ∧ Tabs A H ∧ ∀ H' v, Ext [] H H' → IsBarge K H' v b → Q v H'
theorem ok_barge_of (T : Facts A K mg base) : FnOk P w K mg base CX0 3 A.a_barge_of A.d_barge_of ["words"] (spBargeOf A K) := by
  refine T.F_barge_of.ok sc_barge_of (fun vs H Q E h => ?_) (fun cdv A1 outer s H vs Q E hr h => ?_)
  · obtain ⟨d, b, n, rfl, _⟩ := h
    rfl
  · obtain ⟨d, b, nn, rfl, hd, ok, n8, tb, q⟩ := h
    refine ⟨_, PSs.nox (pss_cons (ps_if (pt_cmpR op_ne (pe_callB call_len_seq (by rfl) T.n_len PySem.boot_len (pa_cons (pv 0) pa_nil)) pe_int (nomark _)) (pss_one ps_never) pss_nil)
      (pss_one (ps_ret (pe_callTy call_tuple_of (by rfl) T.n_tuple (by decide +kernel) (pa_cons (pe_lc (own := [("word", 1)]) (g := (gName 1)) rfl sc_barge_of.nd (pi_list (pv 0)) (blkOk_by (own := [("word", 1)]) (N := ["words", "word"]) (sc := defScope s_barge_of) (by decide +kernel)) (fun _ _ _ _ _ => (pg_name (i := 1) sc_barge_of.nd rfl (Or.inl rfl))) (fun _ _ _ _ _ => pts_nil) (fun _ _ _ _ _ => (pe_call (ok_number_of T) (hr.mono (by decide)) (by rfl) T.g_number_of T.F_number_of.kp T.b_number_of .nil pass0 (pa_cons (pv 1) pa_nil)))) pa_nil))))), ?_⟩
    have sm := bargeC_small ok n8
    let ns : List Int := [b.b, b.g, b.d, b.r, b.u]
    have en : bargeC b = ns.map some := rfl
    refine ⟨_, rfl, d, _, rfl, .inl hd, rfl, _, rfl, iteNS rfl ?_⟩
    refine ⟨_, rfl, d, rfl, ⟨_, hd⟩, fun D hD => lc_list (xs := strsV ((bargeC b).map cellS)) (fun i H3 => Ext [] H H3 ∧ i ≤ ns.length ∧ H3 D = some (.lst ((ns.take i).map V.int))) ⟨Ext.new hD, Nat.zero_le _, upd_same⟩ (fun _ _ _ z => z.1.sqL (by simp) hd) (fun i x H3 hx z => ?_) (fun H3 z => ?_)⟩
    · obtain ⟨e3, _, hL⟩ := z
      obtain ⟨w, hw, rfl⟩ := map_get hx
      obtain ⟨o, ho, rfl⟩ := map_get hw
      have ho2 := ho
      rw [en] at ho2
      obtain ⟨n, hn, rfl⟩ := map_get ho2
      have hi : i < ns.length := (List.getElem?_eq_some_iff.mp hn).1
      have hsm := sm.1 (some n) (List.mem_of_getElem? ho) n rfl
      have hln : ns.length = 5 := rfl
      refine ⟨rfl, yesT ⟨_, rfl, n, rfl, hsm.1, hsm.2, tb.ext e3, fun H4 e4 => ?_⟩⟩
      refine ⟨_, e4.lst D _ (by simp) hL, small1000 (by rw [List.length_map, List.length_take]; omega), (e3.trans e4).wrNew hD, hi, ?_⟩
      rw [upd_same, map_take hn]
    obtain ⟨e3, _, hL⟩ := z
    have hL : H3 D = some (.lst [V.int b.b, V.int b.g, V.int b.d, V.int b.r, V.int b.u]) := hL
    refine ⟨D, _, rfl, .inl ⟨.inl (.inl hL), fun t ht => ?_⟩⟩
    exact q _ _ (e3.trans (Ext.new ht)) ⟨t, rfl, sqT_new⟩

def spHourOf (A : Ad) (K : PySem.W.Frag) : Sp := fun vs H Q _ => ∃ (o : Option Int), vs = [.str (cellS o)] ∧ Small o ∧ Tabs A H ∧ ∀ H', Ext [] H H' → Q (oV o) H'
theorem ok_hour_of (T : Facts A K mg base) : FnOk P w K mg base CX0 3 A.a_hour_of A.d_hour_of ["word"] (spHourOf A K) := by
  refine T.F_hour_of.ok sc_hour_of (fun vs H Q E h => ?_) (fun cdv A1 outer s H vs Q E hr h => ?_)
  · obtain ⟨o, rfl, _⟩ := h
    rfl
  · obtain ⟨o, rfl, sm, tb, q⟩ := h
    refine ⟨_, PSs.nox (pss_one (ps_ret (pe_ifExp (pt_cmpR op_eq (pv 0) pe_str (nomark _)) pe_non (pe_call (ok_number_of T) (hr.mono (by decide)) (by rfl) T.g_number_of T.F_number_of.kp T.b_number_of .nil pass0 (pa_cons (pv 0) pa_nil))))), ?_⟩
    refine ⟨_, rfl, rfl, _, rfl, ?_⟩
    cases o with
    | none => exact iteD rfl (q H Ext.refl)
    | some n =>
      obtain ⟨h0, h9⟩ := sm n rfl
      obtain ⟨m, rfl⟩ : ∃ m : Nat, n = (m : Int) := ⟨n.toNat, by omega⟩
      refine iteDn (fun z => ?_) ⟨_, rfl, _, rfl, h0, h9, tb, q⟩
      have z2 : cellS (some (m : Int)) = "-" := V.str.inj z
      have z3 : tl (cellS (some (m : Int))) = tl (cellS none) := congrArg tl z2
      have e45 : tl (cellS none) = [45] := by decide +kernel
      rw [cell_num, e45] at z3
      have := numL_digits m 45 (by rw [z3]; simp)
      omega

def spRead (A : Ad) (K : PySem.W.Frag) : Sp := fun vs H Q _ => ∃ (k : Book) (pl : List (Option Int)), vs = [.str (textN k pl)] ∧ k.Ok ∧ PlOk k.bs.length pl ∧ Tabs A H ∧ ∀ H' p, Ext [] H H' → Td K H' (.ref p) (pairD k pl) → Q (.ref p) H'
theorem ok_read (T : Facts A K mg base) : FnOk P w K mg base CX0 7 A.a_read A.d_read ["text"] (spRead A K) := by
  refine T.F_read.ok sc_read (fun vs H Q E h => ?_) (fun cdv A1 outer s H vs Q E hr h => ?_)
  · obtain ⟨k, pl, rfl, _⟩ := h
    rfl
  · obtain ⟨k, pl, rfl, ok, okp, tb, q⟩ := h
    refine ⟨_, PSs.nox (pss_cons (ps_setLc (i := 1) (own := [("row", 2)]) (g := (gName 2)) rfl sc_read.nd rfl rfl (sw_true rfl rfl rfl (by decide +kernel)) (pi_list (pe_split (pv 0) pe_str)) (blkOk_by (own := [("row", 2)]) (N := ["text", "rows", "row", "names", "many", "stretches", "barges", "plan", "word", "book"]) (sc := defScope s_read) (by decide +kernel)) (fun _ _ _ _ _ => (pg_name (i := 2) sc_read.nd rfl (Or.inl rfl))) (fun _ _ _ _ _ => pts_nil) (fun _ _ _ _ _ => (pe_split (pv 2) pe_str)))
      (pss_cons (ps_setLc (i := 3) (own := [("row", 2)]) (g := (gName 2)) rfl sc_read.nd rfl rfl (sw_true rfl rfl rfl (by decide +kernel)) (pi_list (pv 1)) (blkOk_by (own := [("row", 2)]) (N := ["text", "rows", "row", "names", "many", "stretches", "barges", "plan", "word", "book"]) (sc := defScope s_read) (by decide +kernel)) (fun _ _ _ _ _ => (pg_name (i := 2) sc_read.nd rfl (Or.inl rfl))) (fun _ _ _ _ _ => pts_nil) (fun _ _ _ _ _ => (pe_ix (ixK K rfl) (pv 2) pe_int (fun _ _ => rfl))))
      (pss_cons (ps_set (i := 4) sc_read.nd rfl (Or.inl rfl) (GXC.pe_bmK K rfl PySem.F.plainAttrs_list PySem.F.slot_list_count PySem.F.type_list_count (GXC.countK K rfl) (pv 3) (pa_cons pe_str pa_nil)))
      (pss_cons (ps_if (pt_cmpR (op_neD hr.units) (pv 3) (pe_op op_cat (pe_op op_cat (pe_op op_rep (pe_lst (pa_cons pe_str pa_nil)) (pv 4)) (pe_op op_rep (pe_lst (pa_cons pe_str pa_nil)) (GXC.pe_bmK K rfl PySem.F.plainAttrs_list PySem.F.slot_list_count PySem.F.type_list_count (GXC.countK K rfl) (pv 3) (pa_cons pe_str pa_nil)))) (pe_lst (pa_cons pe_str pa_nil))) (nomark _)) (pss_one ps_never) pss_nil)
      (pss_cons (ps_set (i := 5) sc_read.nd rfl (Or.inl rfl) (pe_callTy call_tuple_of (by rfl) T.n_tuple (by decide +kernel) (pa_cons (pe_lc (own := [("row", 2)]) (g := (gName 2)) rfl sc_read.nd (pi_list (pe_slice sl_list (pv 1) po_none (po_some (pv 4)))) (blkOk_by (own := [("row", 2)]) (N := ["text", "rows", "row", "names", "many", "stretches", "barges", "plan", "word", "book"]) (sc := defScope s_read) (by decide +kernel)) (fun _ _ _ _ _ => (pg_name (i := 2) sc_read.nd rfl (Or.inl rfl))) (fun _ _ _ _ _ => pts_nil) (fun _ _ _ _ _ => (pe_call (ok_stretch_of T) (hr.mono (by decide)) (by rfl) T.g_stretch_of T.F_stretch_of.kp T.b_stretch_of .nil pass0 (pa_cons (pe_slice (slLK K rfl) (pv 2) (po_some pe_int) po_none) pa_nil)))) pa_nil)))
      (pss_cons (ps_set (i := 6) sc_read.nd rfl (Or.inl rfl) (pe_callTy call_tuple_of (by rfl) T.n_tuple (by decide +kernel) (pa_cons (pe_lc (own := [("row", 2)]) (g := (gName 2)) rfl sc_read.nd (pi_list (pe_slice sl_list (pv 1) (po_some (pv 4)) (po_some (pe_un un_neg pe_int)))) (blkOk_by (own := [("row", 2)]) (N := ["text", "rows", "row", "names", "many", "stretches", "barges", "plan", "word", "book"]) (sc := defScope s_read) (by decide +kernel)) (fun _ _ _ _ _ => (pg_name (i := 2) sc_read.nd rfl (Or.inl rfl))) (fun _ _ _ _ _ => pts_nil) (fun _ _ _ _ _ => (pe_call (ok_barge_of T) (hr.mono (by decide)) (by rfl) T.g_barge_of T.F_barge_of.kp T.b_barge_of .nil pass0 (pa_cons (pe_slice (slLK K rfl) (pv 2) (po_some pe_int) po_none) pa_nil)))) pa_nil)))
      (pss_cons (ps_set (i := 7) sc_read.nd rfl (Or.inl rfl) (pe_callTy call_tuple_of (by rfl) T.n_tuple (by decide +kernel) (pa_cons (pe_lc (own := [("word", 8)]) (g := (gName 8)) rfl sc_read.nd (pi_list (pe_slice sl_list (pe_ix ix_seq (pv 1) (pe_un un_neg pe_int) (fun _ _ => rfl)) (po_some pe_int) po_none)) (blkOk_by (own := [("word", 8)]) (N := ["text", "rows", "row", "names", "many", "stretches", "barges", "plan", "word", "book"]) (sc := defScope s_read) (by decide +kernel)) (fun _ _ _ _ _ => (pg_name (i := 8) sc_read.nd rfl (Or.inl rfl))) (fun _ _ _ _ _ => pts_nil) (fun _ _ _ _ _ => (pe_call (ok_hour_of T) (hr.mono (by decide)) (by rfl) T.g_hour_of T.F_hour_of.kp T.b_hour_of .nil pass0 (pa_cons (pv 8) pa_nil)))) pa_nil)))
      (pss_cons (ps_set (i := 9) sc_read.nd rfl (Or.inl rfl) (pe_tup (pa_cons (pv 5) (pa_cons (pv 6) pa_nil))))
      (pss_cons (ps_expr (pe_call (ok_check_plan T) (hr.mono (by decide)) (by rfl) T.g_check_plan T.F_check_plan.kp T.b_check_plan .nil pass0 (pa_cons (pv 9) (pa_cons (pv 7) pa_nil))))
      (pss_one (ps_ret (pe_tup (pa_cons (pv 9) (pa_cons (pv 7) pa_nil)))))))))))))), ?_⟩
    have n8 := ok.rv.n8
    have n7 := ok.n7
    have lp := okp.len
    have rok := rowsC_ok ok okp
    obtain ⟨ls1, ls2⟩ := lines_small ok okp
    have lrows : (rowsC k pl).length = (linesN k pl).length := by rw [← rowsC_lines, List.length_map]
    have ez := sizeLine_eq
    -- rows
    refine ⟨_, rfl, ⟨_, rfl⟩, _, _, rfl, rfl, by decide +kernel, text_len ok okp, fun S hS => ?_⟩
    rw [split_text ok okp]
    have eS := Ext.new (ex := []) (o := .lst (strsV (linesN k pl))) hS
    refine ⟨S, rfl, ⟨_, .inl (.inl upd_same)⟩, fun D hD => lc_list (xs := strsV (linesN k pl)) (fun i H3 => Ext [] (upd H S (.lst (strsV (linesN k pl)))) H3 ∧ i ≤ (linesN k pl).length ∧ Ext [D] (upd (upd H S (.lst (strsV (linesN k pl)))) D (.lst [])) H3 ∧ ∃ us, H3 D = some (.lst us) ∧ Paired (IsWords K H3) us ((rowsC k pl).take i) ∧ ∀ u ∈ us, u ≠ .ref D) ⟨Ext.new hD, Nat.zero_le _, Ext.refl, [], upd_same, .nil, by simp⟩ (fun _ _ _ z => .inl (.inl (z.1.lst S _ (by simp) upd_same))) (fun i x H3 hx z => ?_) (fun H3 z => ?_)⟩
    · obtain ⟨e3, _, eD, us, hL, pu, hne⟩ := z
      obtain ⟨w, hw, rfl⟩ := map_get hx
      have hi : i < (linesN k pl).length := (List.getElem?_eq_some_iff.mp hw).1
      have hw2 := hw
      rw [← rowsC_lines] at hw2
      obtain ⟨r, hr, rfl⟩ := map_get hw2
      have hrok := rok r (List.mem_of_getElem? hr)
      have lu := plen pu
      rw [List.length_take] at lu
      have hlen := ls1 _ (List.mem_of_getElem? hw)
      refine ⟨rfl, yesT ⟨_, rfl, ⟨_, rfl⟩, _, _, rfl, rfl, by decide +kernel, by omega, fun p hp => ?_⟩⟩
      rw [split_row hrok.1 hrok.2.1]
      have e4 := Ext.new (ex := []) (o := .lst (strsV (r.1 :: r.2.map cellS))) hp
      have hL4 := e4.lst D _ (by simp) hL
      have nDp : D ≠ p := ne_of_none hL hp
      have w : Ext [D] _ _ := Ext.wr (ys := us ++ [.ref p]) (ex := [D]) (by simp) hL4
      refine ⟨_, hL4, small1000 (by omega), (e3.trans e4).wrNew hD, by omega, eD.trans ((e4.mono (by simp)).trans w), _, upd_same, ?_, ?_⟩
      · rw [List.take_add_one, hr]
        refine papp (paired_memP pu fun v' r' hm z => words_wr hL4 (hne v' hm) (e4.words z)) ⟨p, rfl, .inl (.inl ?_)⟩
        rw [upd_ne nDp.symm]
        exact upd_same
      · intro u hu
        rcases List.mem_append.mp hu with hu | hu
        · exact hne u hu
        · rw [List.mem_singleton.mp hu]
          intro z
          exact nDp (V.ref.inj z).symm
    obtain ⟨e3, _, _, us, hD3, pu, _⟩ := z
    have hll : (strsV (linesN k pl)).length = (rowsC k pl).length := by unfold strsV; rw [List.length_map, lrows]
    rw [hll, List.take_length] at pu
    have lu := plen pu
    have f3 := eS.trans e3
    -- names
    refine ⟨_, rfl, D, rfl, ⟨_, .inl (.inl hD3)⟩, fun N hN => lc_list (xs := us) (fun i H4 => Ext [] H3 H4 ∧ i ≤ us.length ∧ H4 N = some (.lst (strsV (((rowsC k pl).take i).map (·.1))))) ⟨Ext.new hN, Nat.zero_le _, upd_same⟩ (fun _ _ _ z => .inl (.inl (z.1.lst D _ (by simp) hD3))) (fun i x H4 hx z => ?_) (fun H4 z => ?_)⟩
    · obtain ⟨e4, _, hL⟩ := z
      obtain ⟨r, hr, d, rfl, hd⟩ := pget pu hx
      have hi : i < us.length := (List.getElem?_eq_some_iff.mp hx).1
      refine ⟨rfl, yesT ⟨_, rfl, .inl ⟨d, _, 0, _, rfl, rfl, e4.sqL (by simp) hd, atI_nat (j := 0) rfl, ?_⟩⟩⟩
      refine ⟨_, hL, small1000 (by unfold strsV; rw [List.length_map, List.length_map, List.length_take]; omega), e4.wrNew hN, hi, ?_⟩
      rw [upd_same, map_take hr]
      unfold strsV
      rw [List.map_append]
      rfl
    obtain ⟨e4, _, hN4⟩ := z
    rw [lu, List.take_length, names_rows] at hN4
    have f4 := f3.trans e4
    have hnn : (strsV (namesN k)).length = k.rv.length + k.bs.length + 1 := by unfold strsV namesN; rw [List.length_map]; simp; omega
    refine ⟨_, rfl, .inl ⟨rfl, _, .inl (.inl hN4)⟩, N, _, _, rfl, rfl, .inl (.inl hN4), rfl, flat_strs2 _, ?_⟩
    rw [count_stretch]
    -- the names in their order
    refine ⟨_, rfl, by show 1 ≤ sizeLine; decide, fun s1 hs1 => ?_⟩
    have g1 := Ext.new (ex := []) (o := .lst [.str "stretch"]) hs1
    refine ⟨_, rfl, s1, _, _, rfl, rfl, upd_same, by omega, by omega, (by rw [Int.toNat_natCast]; show 1 * k.rv.length ≤ sizeLine; omega), fun s2 hs2 => ?_⟩
    have g2 := Ext.new (ex := []) (o := .lst (List.replicate (k.rv.length : Int).toNat [V.str "stretch"]).flatten) hs2
    refine ⟨by show 1 ≤ sizeLine; decide, fun s3 hs3 => ?_⟩
    have g3 := Ext.new (ex := []) (o := .lst [.str "barge"]) hs3
    have hN5 := g3.lst N _ (by simp) (g2.lst N _ (by simp) (g1.lst N _ (by simp) hN4))
    refine ⟨_, rfl, .inl ⟨rfl, _, .inl (.inl hN5)⟩, N, _, _, rfl, rfl, .inl (.inl hN5), rfl, flat_strs2 _, ?_⟩
    rw [count_barge]
    refine ⟨s3, _, _, rfl, rfl, upd_same, by omega, by omega, (by rw [Int.toNat_natCast]; show 1 * k.bs.length ≤ sizeLine; omega), fun s4 hs4 => ?_⟩
    have g4 := Ext.new (ex := []) (o := .lst (List.replicate (k.bs.length : Int).toNat [V.str "barge"]).flatten) hs4
    have ef1 : (List.replicate (k.rv.length : Int).toNat [V.str "stretch"]).flatten = strsV (List.replicate k.rv.length ("stretch" : Str)) := by
      rw [Int.toNat_natCast]
      unfold strsV
      rw [List.map_replicate]
      exact List.flatten_replicate_singleton
    have ef2 : (List.replicate (k.bs.length : Int).toNat [V.str "barge"]).flatten = strsV (List.replicate k.bs.length ("barge" : Str)) := by
      rw [Int.toNat_natCast]
      unfold strsV
      rw [List.map_replicate]
      exact List.flatten_replicate_singleton
    have l1 : (strsV (List.replicate k.rv.length ("stretch" : Str))).length = k.rv.length := by unfold strsV; rw [List.length_map, List.length_replicate]
    have l2 : (strsV (List.replicate k.bs.length ("barge" : Str))).length = k.bs.length := by unfold strsV; rw [List.length_map, List.length_replicate]
    refine ⟨s2, s4, _, _, rfl, rfl, g4.lst s2 _ (by simp) (g3.lst s2 _ (by simp) upd_same), upd_same, (by rw [ef1, ef2, l1, l2]; omega), fun s5 hs5 => ?_⟩
    have g5 := Ext.new (ex := []) (o := .lst ((List.replicate (k.rv.length : Int).toNat [V.str "stretch"]).flatten ++ (List.replicate (k.bs.length : Int).toNat [V.str "barge"]).flatten)) hs5
    refine ⟨by show 1 ≤ sizeLine; decide, fun s6 hs6 => ?_⟩
    have g6 := Ext.new (ex := []) (o := .lst [.str "plan"]) hs6
    refine ⟨s5, s6, _, _, rfl, rfl, g6.lst s5 _ (by simp) upd_same, upd_same, (by rw [ef1, ef2, List.length_append, l1, l2]; simp; omega), fun s7 hs7 => ?_⟩
    have g7 := Ext.new (ex := []) (o := .lst ((List.replicate (k.rv.length : Int).toNat [V.str "stretch"]).flatten ++ (List.replicate (k.bs.length : Int).toNat [V.str "barge"]).flatten ++ [.str "plan"])) hs7
    have g17 := g1.trans (g2.trans (g3.trans (g4.trans (g5.trans (g6.trans g7)))))
    have hN7 := g17.lst N _ (by simp) hN4
    have shN := shaped_at (lay_names k) (by decide)
    have eall : (List.replicate (k.rv.length : Int).toNat [V.str "stretch"]).flatten ++ (List.replicate (k.bs.length : Int).toNat [V.str "barge"]).flatten ++ [V.str "plan"] = strsV (namesN k) := by
      rw [ef1, ef2]
      unfold namesN strsV
      rw [List.map_append, List.map_append]
      rfl
    refine ⟨.list (strsD (namesN k)), .list (strsD (namesN k)), .lst (.inl (.inl hN7)) (dp_strs _), .lst (.inl (.inl upd_same)) (by rw [eall]; exact dp_strs _), shN, shN, ?_⟩
    rw [eqv_same (lay_names k).1]
    refine ⟨_, rfl, iteF ?_⟩
    have f7 := f4.trans g17
    have e37 := e4.trans g17
    have hD7 := e37.lst D _ (by simp) hD3
    have pu7 := Paired.mapP pu fun _ _ z => e37.words z
    generalize upd (upd (upd (upd (upd (upd (upd H4 s1 _) s2 _) s3 _) s4 _) s5 _) s6 _) s7 _ = H7 at f7 e37 hD7 pu7 ⊢
    have lus : us.length = k.rv.length + k.bs.length + 1 := by
      rw [lu]
      unfold rowsC
      simp
      omega
    -- stretches
    refine ⟨.ref D, rfl, .int (k.rv.length : Int), rfl, (k.rv.length : Int), rfl, D, us, rfl, .inl (.inl hD7), fun p8 hp8 => ?_⟩
    rw [cut_upto _ _ (by omega)]
    have e8 := Ext.new (ex := []) (o := .lst (us.take k.rv.length)) hp8
    generalize hH8 : upd H7 p8 (.lst (us.take k.rv.length)) = H8 at e8 ⊢
    have hp8' : H8 p8 = some (.lst (us.take k.rv.length)) := by rw [← hH8]; exact upd_same
    refine ⟨p8, rfl, ⟨_, .inl (.inl hp8')⟩, fun S2 hS2 => lc_list (xs := us.take k.rv.length) (fun i H9 => Ext [] H8 H9 ∧ i ≤ k.rv.length ∧ ∃ vs, H9 S2 = some (.lst vs) ∧ Paired (IsStretch K H9) vs (k.rv.take i)) ⟨Ext.new hS2, Nat.zero_le _, [], upd_same, .nil⟩ (fun _ _ _ z => .inl (.inl (z.1.lst p8 _ (by simp) hp8'))) (fun i x H9 hx z => ?_) (fun H9 z => ?_)⟩
    · obtain ⟨e9, _, vs, hL, pv⟩ := z
      have hi : i < (us.take k.rv.length).length := (List.getElem?_eq_some_iff.mp hx).1
      rw [List.length_take] at hi
      have hi2 : i < k.rv.length := by omega
      rw [List.getElem?_take_of_lt hi2] at hx
      obtain ⟨r, hr, d, rfl, hd⟩ := pget pu7 hx
      obtain ⟨st, hst⟩ : ∃ st, k.rv[i]? = some st := ⟨_, List.getElem?_eq_getElem hi2⟩
      have er : (rowsC k pl)[i]? = some (("stretch" : Str), stretchC st) := by
        unfold rowsC
        rw [List.append_assoc, List.getElem?_append_left (by rw [List.length_map]; exact hi2), List.getElem?_map, hst]
        rfl
      obtain rfl : r = (("stretch" : Str), stretchC st) := Option.some.inj (hr.symm.trans er)
      have lv := plen pv
      rw [List.length_take] at lv
      refine ⟨rfl, yesT ⟨_, rfl, ((1 : Nat) : Int), rfl, ?_⟩⟩
      first | (unfold tNoPart; dsimp only) | dsimp only
      refine ⟨d, _, rfl, e9.sqL (by simp) (e8.sqL (by simp) hd), fun p hp => ?_⟩
      rw [cut_list]
      have e10 := Ext.new (ex := []) (o := .lst ((strsV (("stretch" : Str) :: (stretchC st).map cellS)).drop 1)) hp
      refine ⟨p, st, rfl, .inl (.inl upd_same), ok.rv.ok st (List.mem_of_getElem? hst), tb.ext (f7.trans (e8.trans (e9.trans e10))), fun H11 v e11 is => ?_⟩
      have f := e10.trans e11
      have hL' := f.lst S2 _ (by simp) hL
      have w : Ext [S2] _ _ := Ext.wr (ys := vs ++ [v]) (ex := [S2]) (by simp) hL'
      refine ⟨_, hL', small1000 (by omega), (e9.trans f).wrNew hS2, hi2, _, upd_same, ?_⟩
      rw [List.take_add_one, hst]
      exact papp (Paired.mapP pv fun _ _ z => w.stretch (f.stretch z)) (w.stretch is)
    obtain ⟨e9, _, vs, hS9, pv⟩ := z
    have ltk : (us.take k.rv.length).length = k.rv.length := by rw [List.length_take]; omega
    rw [ltk, List.take_length] at pv
    refine ⟨S2, _, rfl, .inl ⟨.inl (.inl hS9), fun t1 ht1 => ?_⟩⟩
    have ir : IsRiver K (upd H9 t1 (.tup vs)) (.ref t1) k.rv := ⟨t1, vs, rfl, sqT_new, Paired.mapP pv fun _ _ z => (Ext.new (ex := []) ht1).stretch z⟩
    have f9 := e8.trans (e9.trans (Ext.new (ex := []) (o := .tup vs) ht1))
    have hD9 := f9.lst D _ (by simp) hD7
    have pu9 := Paired.mapP pu7 fun _ _ z => f9.words z
    have f9 := f7.trans f9
    generalize upd H9 t1 (.tup vs) = H10 at ir f9 hD9 pu9 ⊢
    -- barges
    refine ⟨.ref D, rfl, .int (k.rv.length : Int), rfl, (k.rv.length : Int), rfl, 1, rfl, (-1 : Int), rfl, D, us, rfl, .inl (.inl hD9), fun p8 hp8 => ?_⟩
    rw [cut_mid _ _ (by omega), show us.length - 1 - k.rv.length = k.bs.length by omega]
    have e8 := Ext.new (ex := []) (o := .lst ((us.drop k.rv.length).take k.bs.length)) hp8
    generalize hH8 : upd H10 p8 (.lst ((us.drop k.rv.length).take k.bs.length)) = H8 at e8 ⊢
    have hp8' : H8 p8 = some (.lst ((us.drop k.rv.length).take k.bs.length)) := by rw [← hH8]; exact upd_same
    have lbt : ((us.drop k.rv.length).take k.bs.length).length = k.bs.length := by rw [List.length_take, List.length_drop]; omega
    refine ⟨p8, rfl, ⟨_, .inl (.inl hp8')⟩, fun S2 hS2 => lc_list (xs := (us.drop k.rv.length).take k.bs.length) (fun i H9 => Ext [] H8 H9 ∧ i ≤ k.bs.length ∧ ∃ vs, H9 S2 = some (.lst vs) ∧ Paired (IsBarge K H9) vs (k.bs.take i)) ⟨Ext.new hS2, Nat.zero_le _, [], upd_same, .nil⟩ (fun _ _ _ z => .inl (.inl (z.1.lst p8 _ (by simp) hp8'))) (fun i x H9 hx z => ?_) (fun H9 z => ?_)⟩
    · obtain ⟨e9, _, vs, hL, pv⟩ := z
      have hi : i < ((us.drop k.rv.length).take k.bs.length).length := (List.getElem?_eq_some_iff.mp hx).1
      rw [lbt] at hi
      rw [List.getElem?_take_of_lt hi, List.getElem?_drop] at hx
      obtain ⟨r, hr, d, rfl, hd⟩ := pget pu9 hx
      obtain ⟨st, hst⟩ : ∃ st, k.bs[i]? = some st := ⟨_, List.getElem?_eq_getElem hi⟩
      have er : (rowsC k pl)[k.rv.length + i]? = some (("barge" : Str), bargeC st) := by
        unfold rowsC
        rw [List.append_assoc, List.getElem?_append_right (by rw [List.length_map]; omega), List.length_map, Nat.add_sub_cancel_left, List.getElem?_append_left (by rw [List.length_map]; exact hi), List.getElem?_map, hst]
        rfl
      obtain rfl : r = (("barge" : Str), bargeC st) := Option.some.inj (hr.symm.trans er)
      have lv := plen pv
      rw [List.length_take] at lv
      refine ⟨rfl, yesT ⟨_, rfl, ((1 : Nat) : Int), rfl, ?_⟩⟩
      first | (unfold tNoPart; dsimp only) | dsimp only
      refine ⟨d, _, rfl, e9.sqL (by simp) (e8.sqL (by simp) hd), fun p hp => ?_⟩
      rw [cut_list]
      have e10 := Ext.new (ex := []) (o := .lst ((strsV (("barge" : Str) :: (bargeC st).map cellS)).drop 1)) hp
      refine ⟨p, st, k.rv.length, rfl, .inl (.inl upd_same), ok.ok st (List.mem_of_getElem? hst), n8, tb.ext (f9.trans (e8.trans (e9.trans e10))), fun H11 v e11 is => ?_⟩
      have f := e10.trans e11
      have hL' := f.lst S2 _ (by simp) hL
      have w : Ext [S2] _ _ := Ext.wr (ys := vs ++ [v]) (ex := [S2]) (by simp) hL'
      refine ⟨_, hL', small1000 (by omega), (e9.trans f).wrNew hS2, hi, _, upd_same, ?_⟩
      rw [List.take_add_one, hst]
      exact papp (Paired.mapP pv fun _ _ z => w.barge (f.barge z)) (w.barge is)
    obtain ⟨e9, _, vs2, hS9, pv2⟩ := z
    rw [lbt, List.take_length] at pv2
    refine ⟨S2, _, rfl, .inl ⟨.inl (.inl hS9), fun t2 ht2 => ?_⟩⟩
    have ib : IsBarges K (upd H9 t2 (.tup vs2)) (.ref t2) k.bs := ⟨t2, vs2, rfl, sqT_new, Paired.mapP pv2 fun _ _ z => (Ext.new (ex := []) ht2).barge z⟩
    have f10 := e8.trans (e9.trans (Ext.new (ex := []) (o := .tup vs2) ht2))
    have hD11 := f10.lst D _ (by simp) hD9
    have pu11 := Paired.mapP pu9 fun _ _ z => f10.words z
    have ir := f10.river ir
    have f10 := f9.trans f10
    generalize upd H9 t2 (.tup vs2) = H11 at ib ir f10 hD11 pu11 ⊢
    -- the plan
    have er : (rowsC k pl)[k.rv.length + k.bs.length]? = some (("plan" : Str), pl) := by
      unfold rowsC
      rw [List.getElem?_append_right (by simp)]
      simp
    obtain ⟨u, hu, d, rfl, hd⟩ := pgetR pu11 er
    have hus : us = us.take (k.rv.length + k.bs.length) ++ [.ref d] := by
      have e : us.take (k.rv.length + k.bs.length + 1) = us := List.take_of_length_le (by omega)
      rw [List.take_add_one, hu] at e
      exact e.symm
    have hat : atI us (-1) = some (.ref d) := by rw [hus]; exact atI_last _ _
    refine ⟨.ref D, rfl, 1, rfl, .inl ⟨D, _, -1, _, rfl, rfl, .inl (.inl hD11), hat, ((1 : Nat) : Int), rfl, ?_⟩⟩
    first | (unfold tNoPart; dsimp only) | dsimp only
    refine ⟨d, _, rfl, hd, fun p8 hp8 => ?_⟩
    rw [cut_list]
    have e8 := Ext.new (ex := []) (o := .lst (strsV (pl.map cellS))) hp8
    generalize hH8 : upd H11 p8 _ = H8
    have hH8 : upd H11 p8 (.lst (strsV (pl.map cellS))) = H8 := hH8
    rw [hH8] at e8
    have hp8' : H8 p8 = some (.lst (strsV (pl.map cellS))) := by rw [← hH8]; exact upd_same
    have lpt : (strsV (pl.map cellS)).length = pl.length := by unfold strsV; rw [List.length_map, List.length_map]
    refine ⟨p8, rfl, ⟨_, .inl (.inl hp8')⟩, fun S3 hS3 => lc_list (xs := strsV (pl.map cellS)) (fun i H9 => Ext [] H8 H9 ∧ i ≤ pl.length ∧ H9 S3 = some (.lst ((pl.take i).map oV))) ⟨Ext.new hS3, Nat.zero_le _, upd_same⟩ (fun _ _ _ z => .inl (.inl (z.1.lst p8 _ (by simp) hp8'))) (fun i x H9 hx z => ?_) (fun H9 z => ?_)⟩
    · obtain ⟨e9, _, hL⟩ := z
      obtain ⟨w, hw, rfl⟩ := map_get hx
      obtain ⟨o, ho, rfl⟩ := map_get hw
      have hi : i < pl.length := (List.getElem?_eq_some_iff.mp ho).1
      have hsm := plan_small okp o (List.mem_of_getElem? ho)
      refine ⟨rfl, yesT ⟨_, rfl, o, rfl, hsm, tb.ext (f10.trans (e8.trans e9)), fun H12 e12 => ?_⟩⟩
      refine ⟨_, e12.lst S3 _ (by simp) hL, small1000 (by rw [List.length_map, List.length_take]; omega), (e9.trans e12).wrNew hS3, hi, ?_⟩
      rw [upd_same, map_take ho]
    obtain ⟨e9, _, hS9⟩ := z
    rw [lpt, List.take_length] at hS9
    refine ⟨S3, _, rfl, .inl ⟨.inl (.inl hS9), fun t3 ht3 => ?_⟩⟩
    have ip : IsPlan K (upd H9 t3 (.tup (pl.map oV))) (.ref t3) pl := ⟨t3, rfl, sqT_new⟩
    have f11 := e8.trans (e9.trans (Ext.new (ex := []) (o := .tup (pl.map oV)) ht3))
    have ir := f11.river ir
    have ib := f11.barges ib
    have f11 := f10.trans f11
    -- the book
    refine ⟨.ref t1, rfl, .ref t2, rfl, by show 2 ≤ sizeLine; decide, fun t4 ht4 => ?_⟩
    have e12 := Ext.new (ex := []) (o := .tup [V.ref t1, V.ref t2]) ht4
    have ibk : IsBook K _ (.ref t4) k := ⟨t4, .ref t1, .ref t2, rfl, sqT_new, e12.river ir, e12.barges ib⟩
    have ip := e12.plan ip
    have f12 := f11.trans e12
    refine ⟨_, rfl, _, rfl, _, _, k, pl, rfl, ibk, ok, ip, okp, tb.ext f12, fun H13 e13 => ?_⟩
    refine ⟨.ref t4, rfl, .ref t3, rfl, by show 2 ≤ sizeLine; decide, fun t5 ht5 => ?_⟩
    have e14 := Ext.new (ex := []) (o := .tup [V.ref t4, V.ref t3]) ht5
    exact q _ t5 (f12.trans (e13.trans e14)) (.tup sqT_new (.cons (e14.book (e13.book ibk)).td (.cons (e14.plan (e13.plan ip)).td .nil)))

def spCellAt (K : PySem.W.Frag) : Sp := fun vs H Q _ => ∃ (a : Addr) (ns : List Int) (k : Nat), vs = [.ref a, .int (k : Int)] ∧ SqL K H a (ns.map V.int) ∧ ∀ v : Int, Q (.int v) H
theorem ok__law_cell_at (T : Facts A K mg base) : FnOk P w K mg base CX0 1 A.a__law_cell_at A.d__law_cell_at ["_law_script", "_law_k"] (spCellAt K) := by
  refine T.F__law_cell_at.ok sc__law_cell_at (fun vs H Q E h => ?_) (fun cdv A1 outer s H vs Q E hr h => ?_)
  · obtain ⟨a, ns, k, rfl, _⟩ := h
    rfl
  · obtain ⟨a, ns, k, rfl, t, q⟩ := h
    refine ⟨_, PSs.nox (pss_cons (ps_if (pt_cmpR op_lt (pv 1) (pe_callB call_len_seq (by rfl) T.n_len PySem.boot_len (pa_cons (pv 0) pa_nil)) (nomark _)) (pss_one (ps_ret (pe_ix ix_seq (pv 0) (pv 1) (fun _ _ => rfl)))) pss_nil)
      (pss_one (ps_ret pe_int))), ?_⟩
    refine ⟨_, rfl, _, rfl, a, _, rfl, .inl t, _, _, rfl, rfl, _, rfl, ite2 (fun c => ?_) (fun c => q 0)⟩
    have hk : k < ns.length := by
      have c' := of_decide_eq_true c
      rw [List.length_map] at c'
      exact Int.ofNat_lt.mp c'
    exact ⟨_, rfl, _, rfl, .inl ⟨a, _, _, _, rfl, rfl, t, atI_cell hk, q _⟩⟩

def spDice : Sp := fun vs H Q _ => ∃ c : Int, vs = [.int c] ∧ ∀ (D : Addr) (H' : Hp), H D = none → Ext [] H H' → DiceAt H' D → Q (.ref D) H'
theorem ok__law_dice (T : Facts A K mg base) : FnOk P w K mg base CX0 1 A.a__law_dice A.d__law_dice ["_law_cell"] (spDice) := by
  refine T.F__law_dice.ok sc__law_dice (fun vs H Q E h => ?_) (fun cdv A1 outer s H vs Q E hr h => ?_)
  · obtain ⟨c, rfl, _⟩ := h
    rfl
  · obtain ⟨c, rfl, q⟩ := h
    refine ⟨_, PSs.nox (pss_one (ps_ret (pe_lst (pa_cons (pe_op op_modN (pv 0) pe_int) (pa_cons (pe_op op_mul (pe_op op_fdivW (pv 0) pe_int) (pe_callTy call_int1 (by rfl) T.n_int (by decide +kernel) (pa_cons (pe_cmpR op_ge (pv 0) (pe_op op_pow pe_int pe_int) (nomark _)) pa_nil))) pa_nil))))), ?_⟩
    refine ⟨_, rfl, _, _, rfl, rfl, by show (2147483647 : Int) ≠ 0; decide, ?_⟩
    refine ⟨_, rfl, c, 2147483647, rfl, rfl, wide_div (b := 40) (by decide) (by decide) (by decide) (by decide), _, rfl, 10, 18, rfl, rfl, ⟨by decide, by decide, by decide⟩, _, _, rfl, rfl, .inr ⟨_, rfl, ?_⟩⟩
    have hz : (10 : Int) ^ (Int.toNat 18) = 1000000000000000000 := by decide
    by_cases hc : (10 : Int) ^ (Int.toNat 18) ≤ c
    · refine ⟨_, _, rfl, by rw [decide_eq_true hc], .inr ⟨by decide, by decide⟩, (by show 2 ≤ sizeLine; decide), fun D hD => q D _ hD (Ext.new hD) ⟨_, _, upd_same, Int.fmod_nonneg_of_pos _ (by decide), Int.fmod_lt_of_pos _ (by decide), ?_⟩⟩
      show 0 ≤ c / 2147483647 * 1
      rw [Int.mul_one]
      exact Int.ediv_nonneg (by omega) (by decide)
    · refine ⟨_, _, rfl, by rw [decide_eq_false hc], .inr ⟨by decide, by decide⟩, (by show 2 ≤ sizeLine; decide), fun D hD => q D _ hD (Ext.new hD) ⟨_, _, upd_same, Int.fmod_nonneg_of_pos _ (by decide), Int.fmod_lt_of_pos _ (by decide), ?_⟩⟩
      show 0 ≤ c / 2147483647 * 0
      rw [Int.mul_zero]
      exact Int.le_refl _

def spRoll : Sp := fun vs H Q _ => ∃ (D : Addr) (m : Int), vs = [.ref D, .int m] ∧ DiceAt H D ∧ 0 < m ∧ m < 1000000 ∧ ∀ (v : Int) (H' : Hp), 0 ≤ v → v < m → Ext [D] H H' → DiceAt H' D → Q (.int v) H'
theorem ok__law_roll (T : Facts A K mg base) : FnOk P w K mg base CX0 1 A.a__law_roll A.d__law_roll ["_law_dice_here", "_law_most"] (spRoll) := by
  refine T.F__law_roll.ok sc__law_roll (fun vs H Q E h => ?_) (fun cdv A1 outer s H vs Q E hr h => ?_)
  · obtain ⟨D, m, rfl, _⟩ := h
    rfl
  · obtain ⟨D, m, rfl, ⟨a, b, hD, a0, a1, b0⟩, m0, m1, q⟩ := h
    refine ⟨_, PSs.nox (pss_cons (ps_if (pt_cmpR op_gt (pe_ix ix_seq (pv 0) pe_int (fun _ _ => rfl)) pe_int (nomark _)) (pss_cons (ps_set (i := 2) sc__law_roll.nd rfl (Or.inl rfl) (pe_op op_modN (pe_ix ix_seq (pv 0) pe_int (fun _ _ => rfl)) (pv 1)))
      (pss_cons (ps_asg (pe_op op_fdivN (pe_ix ix_seq (pv 0) pe_int (fun _ _ => rfl)) (pv 1)) (pg_sub (pv 0) pe_int set_list))
      (pss_one (ps_ret (pv 2))))) pss_nil)
      (pss_cons (ps_asg (pe_op op_modN (pe_op op_add (pe_op op_mul (pe_ix ix_seq (pv 0) pe_int (fun _ _ => rfl)) pe_int) pe_int) pe_int) (pg_sub (pv 0) pe_int set_list))
      (pss_one (ps_ret (pe_op op_modN (pe_op op_fdivN (pe_ix ix_seq (pv 0) pe_int (fun _ _ => rfl)) pe_int) (pv 1)))))), ?_⟩
    have hL : ∀ {K}, SqL K H D [.int a, .int b] := .inl (.inl hD)
    refine ⟨_, rfl, .inl ⟨D, _, 1, _, rfl, rfl, hL, atI_nat (j := 1) rfl, _, _, rfl, rfl, _, rfl, ite2 (fun c => ?_) (fun c => ?_)⟩⟩
    · refine ⟨_, rfl, .inl ⟨D, _, 1, _, rfl, rfl, hL, atI_nat (j := 1) rfl, _, rfl, _, _, rfl, rfl, by omega, ?_⟩⟩
      refine ⟨_, rfl, .inl ⟨D, _, 1, _, rfl, rfl, hL, atI_nat (j := 1) rfl, _, rfl, _, _, rfl, rfl, ⟨by omega, by omega⟩, ?_⟩⟩
      refine ⟨_, rfl, D, _, 1, 1, rfl, rfl, hD, rfl, ?_⟩
      refine ⟨_, rfl, q _ _ ?_ ?_ (Ext.wr (by simp) hD) ⟨a, b.fdiv m, ?_, a0, a1, ?_⟩⟩
      · exact Int.fmod_nonneg_of_pos _ m0
      · exact Int.fmod_lt_of_pos _ m0
      · rw [upd_same]
        rfl
      · rw [Int.fdiv_eq_ediv_of_nonneg _ (by omega)]
        exact Int.ediv_nonneg b0 (by omega)
    · refine ⟨_, rfl, .inl ⟨D, _, 0, _, rfl, rfl, hL, atI_nat (j := 0) rfl, _, _, rfl, rfl, .inl ⟨by omega, by omega⟩, _, _, rfl, rfl, _, _, rfl, rfl, by show (2147483647 : Int) ≠ 0; decide, ?_⟩⟩
      refine ⟨_, rfl, D, _, 0, 0, rfl, rfl, hD, rfl, ?_⟩
      have hL2 : ∀ {K}, SqL K (upd H D (.lst [.int ((a * 48271 + 11).fmod 2147483647), .int b])) D [.int ((a * 48271 + 11).fmod 2147483647), .int b] := .inl (.inl upd_same)
      refine ⟨_, rfl, .inl ⟨D, _, 0, _, rfl, rfl, hL2, atI_nat (j := 0) rfl, _, _, rfl, rfl, ⟨by decide, by decide⟩, _, rfl, _, _, rfl, rfl, by omega, ?_⟩⟩
      refine q _ _ (Int.fmod_nonneg_of_pos _ m0) (Int.fmod_lt_of_pos _ m0) (Ext.wr (by simp) hD) ⟨_, b, upd_same, Int.fmod_nonneg_of_pos _ (by decide), Int.fmod_lt_of_pos _ (by decide), b0⟩

def spWhole : Sp := fun vs H Q _ => ∃ v : Int, vs = [.int v] ∧ Q (.bl true) H
theorem ok__law_whole (T : Facts A K mg base) : FnOk P w K mg base CX0 1 A.a__law_whole A.d__law_whole ["_law_found"] (spWhole) := by
  refine T.F__law_whole.ok sc__law_whole (fun vs H Q E h => ?_) (fun cdv A1 outer s H vs Q E hr h => ?_)
  · obtain ⟨v, rfl, _⟩ := h
    rfl
  · obtain ⟨v, rfl, q⟩ := h
    refine ⟨_, PSs.nox (pss_one (ps_ret (pe_and (pe_callB call_isi (by rfl) T.n_isinstance PyProof.Rows.boot_isinstance (pa_cons (pv 0) (pa_cons (pe_bltn (v := .ty "int") (by rfl) T.n_int (by decide +kernel) rfl) pa_nil))) (pe_one (pe_not (pe_callB call_isi (by rfl) T.n_isinstance PyProof.Rows.boot_isinstance (pa_cons (pv 0) (pa_cons (pe_bltn (v := .ty "bool") (by rfl) T.n_bool (by decide +kernel) rfl) pa_nil)))))))), ?_⟩
    exact ⟨_, rfl, tc1 (isi_ii ⟨_, rfl, iteT ⟨_, rfl, tc1 (isi_ib ⟨_, rfl, q⟩)⟩⟩)⟩

def spRiver (K : PySem.W.Frag) : Sp := fun vs H Q _ => ∃ (D : Addr) (n : Nat), vs = [.ref D, .int (n : Int)] ∧ DiceAt H D ∧ 1 ≤ n ∧ n ≤ 8 ∧ ∀ (v : V) (rv : List Stretch) (H' : Hp), rv.length = n → RvOk rv → Ext [D] H H' → DiceAt H' D → IsRiver K H' v rv → Q v H'
theorem ok__law_river (T : Facts A K mg base) : FnOk P w K mg base CX0 2 A.a__law_river A.d__law_river ["_law_dice_here", "_law_many"] (spRiver K) := by
  refine T.F__law_river.ok sc__law_river (fun vs H Q E h => ?_) (fun cdv A1 outer s H vs Q E hr h => ?_)
  · obtain ⟨D, n, rfl, _⟩ := h
    rfl
  · obtain ⟨D, n, rfl, dD, n1, n8, q⟩ := h
    refine ⟨_, PSs.nox (pss_cons (ps_set (i := 2) sc__law_river.nd rfl (Or.inl rfl) (pe_lst pa_nil))
      (pss_cons (ps_for PassesOwn.never rfl (pi_range1 (by rfl) T.n_range (pa_cons (pv 1) pa_nil)) (pg_name (i := 3) sc__law_river.nd rfl (Or.inl rfl)) (pss_cons (ps_set (i := 4) sc__law_river.nd rfl (Or.inl rfl) (pe_callTy call_int1 (by rfl) T.n_int (by decide +kernel) (pa_cons (pe_cmpR op_eq (pe_call (ok__law_roll T) (hr.mono (by decide)) (by rfl) T.g__law_roll T.F__law_roll.kp T.b__law_roll .nil pass0 (pa_cons (pv 0) (pa_cons pe_int pa_nil))) pe_int (nomark _)) pa_nil)))
      (pss_cons (ps_set (i := 5) sc__law_river.nd rfl (Or.inl rfl) (pe_lst pa_nil))
      (pss_cons (ps_for PassesOwn.never rfl (pi_range1 (by rfl) T.n_range (pa_cons (pe_ix ix_seq (pe_lst (pa_cons (pe_op op_add pe_int (pe_call (ok__law_roll T) (hr.mono (by decide)) (by rfl) T.g__law_roll T.F__law_roll.kp T.b__law_roll .nil pass0 (pa_cons (pv 0) (pa_cons pe_int pa_nil)))) (pa_cons pe_int pa_nil))) (pv 4) (fun _ _ => rfl)) pa_nil)) (pg_name (i := 6) sc__law_river.nd rfl (Or.inl rfl)) (pss_one (ps_expr (pe_bm PySem.F.plainAttrs_list PySem.F.slot_list_append PySem.F.type_list_append mt_append (pv 5) (pa_cons (pe_ix ix_seq (pe_lst (pa_cons (pe_op op_add pe_int (pe_call (ok__law_roll T) (hr.mono (by decide)) (by rfl) T.g__law_roll T.F__law_roll.kp T.b__law_roll .nil pass0 (pa_cons (pv 0) (pa_cons pe_int pa_nil)))) (pa_cons pe_int pa_nil))) (pe_callTy call_int1 (by rfl) T.n_int (by decide +kernel) (pa_cons (pe_cmpR op_eq (pe_call (ok__law_roll T) (hr.mono (by decide)) (by rfl) T.g__law_roll T.F__law_roll.kp T.b__law_roll .nil pass0 (pa_cons (pv 0) (pa_cons pe_int pa_nil))) pe_int (nomark _)) pa_nil)) (fun _ _ => rfl)) pa_nil)))))
      (pss_one (ps_expr (pe_bm PySem.F.plainAttrs_list PySem.F.slot_list_append PySem.F.type_list_append mt_append (pv 2) (pa_cons (pe_tup (pa_cons (pe_op op_add pe_int (pe_call (ok__law_roll T) (hr.mono (by decide)) (by rfl) T.g__law_roll T.F__law_roll.kp T.b__law_roll .nil pass0 (pa_cons (pv 0) (pa_cons (pe_ix ix_seq (pe_lst (pa_cons pe_int (pa_cons pe_int pa_nil))) (pv 4) (fun _ _ => rfl)) pa_nil)))) (pa_cons (pe_op op_add pe_int (pe_call (ok__law_roll T) (hr.mono (by decide)) (by rfl) T.g__law_roll T.F__law_roll.kp T.b__law_roll .nil pass0 (pa_cons (pv 0) (pa_cons (pe_ix ix_seq (pe_lst (pa_cons pe_int (pa_cons pe_int pa_nil))) (pv 4) (fun _ _ => rfl)) pa_nil)))) (pa_cons (pe_callTy call_tuple_of (by rfl) T.n_tuple (by decide +kernel) (pa_cons (pv 5) pa_nil)) pa_nil)))) pa_nil))))))))
      (pss_one (ps_ret (pe_callTy call_tuple_of (by rfl) T.n_tuple (by decide +kernel) (pa_cons (pv 2) pa_nil)))))), ?_⟩
    refine ⟨Nat.zero_le _, fun O hO => ?_⟩
    have nDO : D ≠ O := by
      obtain ⟨a, b, z, _⟩ := dD
      exact ne_of_none z hO
    have e0 : Ext [D] H (upd H O (.lst [])) := Ext.new hO
    refine ⟨_, rfl, (n : Int), rfl, by omega, by omega, for_range (n := n) (fun i σ H1 => ∃ y3 y4 y5 y6 vs rv, σ = [some (.ref D), some (.int (n : Int)), some (.ref O), y3, y4, y5, y6] ∧ Ext [D] H H1 ∧ DiceAt H1 D ∧ H1 O = some (.lst vs) ∧ Paired (IsStretch K H1) vs rv ∧ rv.length = i ∧ ∀ s ∈ rv, s.Ok)
      ⟨none, none, none, none, [], [], rfl, e0, (Ext.new (ex := []) hO).dice (by simp) dD, upd_same, .nil, rfl, fun _ h => absurd h (by simp)⟩ ?_ ?_⟩
    · rintro i σ H1 hi ⟨y3, y4, y5, y6, vs, rv, rfl, e1, d1, hO1, pv, hl, okr⟩
      have lv := plen pv
      -- slow
      refine ⟨_, rfl, D, 9, rfl, d1, by omega, by omega, fun v H2 v0 v1 e2 d2 => ⟨rfl, .inr ⟨_, rfl, ?_⟩⟩⟩
      have hsl := b01 (decide (V.int v = V.int 0))
      generalize (if decide (V.int v = V.int 0) = true then (1 : Int) else 0) = sl at hsl ⊢
      -- depths = []
      refine ⟨Nat.zero_le _, fun L hL => ?_⟩
      have nDL : D ≠ L := by
        obtain ⟨a, b, z, _⟩ := d2
        exact ne_of_none z hL
      have hO2 : H2 O = some (.lst vs) := e2.lst O _ (by simp [nDO.symm]) hO1
      have nOL : O ≠ L := ne_of_none hO2 hL
      have e3 : Ext [D] H1 (upd H2 L (.lst [])) := e2.trans (Ext.new hL)
      have d3 : DiceAt (upd H2 L (.lst [])) D := (Ext.new (ex := []) hL).dice (by simp) d2
      -- range([1 + roll(4), 24][slow])
      refine ⟨_, rfl, D, 4, rfl, d3, by omega, by omega, fun w4 H4 w0 w1 e4 d4 => ⟨_, _, rfl, rfl, by show 2 ≤ sizeLine; decide, fun p hp => ?_⟩⟩
      obtain ⟨z, hz, hz2⟩ := pick2 (x := 1 + w4) (y := 24) hsl
      refine ⟨_, rfl, .inl ⟨p, _, sl, .int z, rfl, rfl, .inl (.inl upd_same), hz, ?_⟩⟩
      obtain ⟨m, rfl⟩ : ∃ m : Nat, z = (m : Int) := ⟨z.toNat, by omega⟩
      have hm : 1 ≤ m ∧ m ≤ 24 := by omega
      have e5 : Ext [D] H1 (upd H4 p (.lst [.int (1 + w4), .int 24])) := e3.trans (e4.trans (Ext.new hp))
      have d5 : DiceAt (upd H4 p (.lst [.int (1 + w4), .int 24])) D := (Ext.new (ex := []) hp).dice (by simp) d4
      have hL4 : H4 L = some (.lst []) := e4.lst L _ (by simp [nDL.symm]) upd_same
      have hL5 : (upd H4 p (.lst [.int (1 + w4), .int 24])) L = some (.lst []) := (Ext.new (ex := []) hp).lst L _ (by simp) hL4
      refine ⟨(m : Int), rfl, by omega, by omega, for_range (n := m) (fun j σ H6 => ∃ y6 ds, σ = [some (.ref D), some (.int (n : Int)), some (.ref O), some (.int (0 + (i : Int))), some (.int sl), some (.ref L), y6] ∧ Ext [D] H1 H6 ∧ DiceAt H6 D ∧ H6 L = some (.lst (ds.map V.int)) ∧ ds.length = j ∧ ∀ d ∈ ds, 0 ≤ d ∧ d ≤ 99)
        ⟨y6, [], rfl, e5, d5, hL5, rfl, fun _ h => absurd h (by simp)⟩ ?_ ?_⟩
      · rintro j σ H6 hj ⟨y6, ds, rfl, e6, d6, hL6, hdl, okd⟩
        refine ⟨_, rfl, .inl ⟨rfl, _, .inl (.inl hL6)⟩, ?_⟩
        refine ⟨_, rfl, D, 8, rfl, d6, by omega, by omega, fun w8 H7 w80 w81 e7 d7 => ⟨_, _, rfl, rfl, by show 2 ≤ sizeLine; decide, fun p2 hp2 => ?_⟩⟩
        have d8 : DiceAt (upd H7 p2 (.lst [.int (5 + w8), .int 0])) D := (Ext.new (ex := []) hp2).dice (by simp) d7
        have hL7 : H7 L = some (.lst (ds.map V.int)) := e7.lst L _ (by simp [nDL.symm]) hL6
        have hL8 : (upd H7 p2 (.lst [.int (5 + w8), .int 0])) L = some (.lst (ds.map V.int)) := (Ext.new (ex := []) hp2).lst L _ (by simp) hL7
        refine ⟨_, rfl, D, 20, rfl, d8, by omega, by omega, fun w9 H9 w90 w91 e9 d9 => ⟨rfl, .inr ⟨_, rfl, ?_⟩⟩⟩
        have hsk := b01 (decide (V.int w9 = V.int 0))
        generalize (if decide (V.int w9 = V.int 0) = true then (1 : Int) else 0) = sk at hsk ⊢
        obtain ⟨z, hz, hz2⟩ := pick2 (x := 5 + w8) (y := 0) hsk
        have np : D ≠ p2 := by
          obtain ⟨a, b, zz, _⟩ := d7
          exact ne_of_none zz hp2
        have hp9 : H9 p2 = some (.lst [.int (5 + w8), .int 0]) := e9.lst p2 _ (by simp [np.symm]) upd_same
        have hL9 : H9 L = some (.lst (ds.map V.int)) := e9.lst L _ (by simp [nDL.symm]) hL8
        refine .inl ⟨p2, _, sk, .int z, rfl, rfl, .inl (.inl hp9), hz, L, _, _, rfl, rfl, hL9, small1000 (by rw [List.length_map]; omega), ?_⟩
        refine ⟨_, ds ++ [z], rfl, ?_, ?_, ?_, by rw [List.length_append]; simp; omega, fun d hd => ?_⟩
        · have e10 : Ext [D] H1 H9 := e6.trans (e7.trans ((Ext.new hp2).trans e9))
          exact e10.wrNew (e2.dom L hL)
        · obtain ⟨a, b, zz, r⟩ := d9
          exact ⟨a, b, by rw [upd_ne nDL]; exact zz, r⟩
        · rw [upd_same, List.map_append]
          rfl
        · rcases List.mem_append.mp hd with hd | hd
          · exact okd d hd
          · rw [List.mem_singleton.mp hd]
            omega
      · rintro σ H6 ⟨y6, ds, rfl, e6, d6, hL6, hdl, okd⟩
        have hO6 : H6 O = some (.lst vs) := e6.lst O _ (by simp [nDO.symm]) hO1
        refine ⟨_, rfl, .inl ⟨rfl, _, .inl (.inl hO6)⟩, ?_⟩
        -- 1 + roll([3, 9][slow])
        refine ⟨_, rfl, by show 2 ≤ sizeLine; decide, fun p3 hp3 => ?_⟩
        obtain ⟨z3, hz3, hz32⟩ := pick2 (x := 3) (y := 9) hsl
        have d7 : DiceAt (upd H6 p3 (.lst [.int 3, .int 9])) D := (Ext.new (ex := []) hp3).dice (by simp) d6
        refine ⟨_, rfl, .inl ⟨p3, _, sl, .int z3, rfl, rfl, .inl (.inl upd_same), hz3, D, z3, rfl, d7, by omega, by omega, fun h1 H8 h10 h11 e8 d8 => ⟨_, _, rfl, rfl, ?_⟩⟩⟩
        refine ⟨_, rfl, by show 2 ≤ sizeLine; decide, fun p4 hp4 => ?_⟩
        obtain ⟨z4, hz4, hz42⟩ := pick2 (x := 3) (y := 9) hsl
        have d9 : DiceAt (upd H8 p4 (.lst [.int 3, .int 9])) D := (Ext.new (ex := []) hp4).dice (by simp) d8
        refine ⟨_, rfl, .inl ⟨p4, _, sl, .int z4, rfl, rfl, .inl (.inl upd_same), hz4, D, z4, rfl, d9, by omega, by omega, fun r1 H10 r10 r11 e10 d10 => ⟨_, _, rfl, rfl, ?_⟩⟩⟩
        have f6 : Ext [D] H6 H10 := (Ext.new hp3).trans (e8.trans ((Ext.new hp4).trans e10))
        have hL10 : H10 L = some (.lst (ds.map V.int)) := f6.lst L _ (by simp [nDL.symm]) hL6
        have hO10 : H10 O = some (.lst vs) := f6.lst O _ (by simp [nDO.symm]) hO6
        refine ⟨_, rfl, L, _, rfl, .inl ⟨.inl (.inl hL10), fun t ht => ?_⟩⟩
        have d11 : DiceAt (upd H10 t (.tup (ds.map V.int))) D := (Ext.new (ex := []) ht).dice (by simp) d10
        refine ⟨by show 3 ≤ sizeLine; decide, fun u hu => ?_⟩
        have d12 := (Ext.new (ex := []) (o := .tup [.int (1 + h1), .int (1 + r1), .ref t]) hu).dice (by simp) d11
        have g6 : Ext [D] H6 (upd (upd H10 t (.tup (ds.map V.int))) u (.tup [.int (1 + h1), .int (1 + r1), .ref t])) := f6.trans ((Ext.new ht).trans (Ext.new hu))
        have hO12 : (upd (upd H10 t (.tup (ds.map V.int))) u (.tup [.int (1 + h1), .int (1 + r1), .ref t])) O = some (.lst vs) := g6.lst O _ (by simp [nDO.symm]) hO6
        have st : IsStretch K (upd (upd H10 t (.tup (ds.map V.int))) u (.tup [.int (1 + h1), .int (1 + r1), .ref t])) (.ref u) ⟨1 + h1, 1 + r1, ds⟩ :=
          ⟨u, t, rfl, sqT_new, (Ext.new (ex := []) hu).sqT sqT_new⟩
        refine ⟨O, _, _, rfl, rfl, hO12, small1000 (by omega), ?_⟩
        have w12 : Ext [O] (upd (upd H10 t (.tup (ds.map V.int))) u (.tup [.int (1 + h1), .int (1 + r1), .ref t])) (upd (upd (upd H10 t (.tup (ds.map V.int))) u (.tup [.int (1 + h1), .int (1 + r1), .ref t])) O (.lst (vs ++ [.ref u]))) := Ext.wr (by simp) hO12
        refine ⟨_, _, _, _, vs ++ [.ref u], rv ++ [⟨1 + h1, 1 + r1, ds⟩], rfl, (e1.trans (e6.trans g6)).wrNew hO, ?_, upd_same, ?_, by rw [List.length_append, hl]; rfl, fun s hs => ?_⟩
        · obtain ⟨a, b, zz, r⟩ := d12
          exact ⟨a, b, by rw [upd_ne nDO]; exact zz, r⟩
        · refine papp (Paired.mapP pv fun _ _ z => ?_) (w12.stretch st)
          exact w12.stretch ((e6.trans g6).stretch z)
        · rcases List.mem_append.mp hs with hs | hs
          · exact okr s hs
          · rw [List.mem_singleton.mp hs]
            exact ⟨by show 1 ≤ 1 + h1; omega, by show 1 + h1 ≤ 9; omega, by show 1 ≤ 1 + r1; omega, by show 1 + r1 ≤ 9; omega, by show 1 ≤ ds.length; omega, by show ds.length ≤ 24; omega, okd⟩
    · rintro σ H1 ⟨y3, y4, y5, y6, vs, rv, rfl, e1, d1, hO1, pv, hl, okr⟩
      refine ⟨_, rfl, O, _, rfl, .inl ⟨.inl (.inl hO1), fun t ht => ?_⟩⟩
      exact q (.ref t) rv _ hl ⟨by omega, by omega, okr⟩ (e1.trans (Ext.new ht)) ((Ext.new (ex := []) ht).dice (by simp) d1) ⟨t, vs, rfl, sqT_new, Paired.mapP pv fun _ _ z => (Ext.new (ex := []) ht).stretch z⟩

def spTime (K : PySem.W.Frag) : Sp := fun vs H Q _ => ∃ (v : V) (rv : List Stretch) (p : Nat) (h : Int), vs = [v, .int (p : Int), .int h] ∧ IsRiver K H v rv ∧ RvOk rv ∧ ∀ H', Ext [] H H' → Q (.int (h + hsum rv p)) H'
theorem ok__law_time (T : Facts A K mg base) : FnOk P w K mg base CX0 1 A.a__law_time A.d__law_time ["_law_river_here", "_law_place", "_law_hour"] (spTime K) := by
  refine T.F__law_time.ok sc__law_time (fun vs H Q E h => ?_) (fun cdv A1 outer s H vs Q E hr h => ?_)
  · obtain ⟨v, rv, p, h, rfl, _⟩ := h
    rfl
  · obtain ⟨v, rv, p, h, rfl, ⟨ra, rs, rfl, t1, pr⟩, ok, q⟩ := h
    refine ⟨_, PSs.nox (pss_one (ps_ret (pe_op op_add (pv 2) (pe_callB (cr_sum rfl) (by rfl) T.n_sum PyProof.Rows.boot_sum (pa_cons (pe_lc (own := [("_law_stretch", 3)]) (g := (gName 3)) rfl sc__law_time.nd (pi_tup (pe_slice GX.sl_tupA (pv 0) po_none (po_some (pv 1)))) (blkOk_by (own := [("_law_stretch", 3)]) (N := ["_law_river_here", "_law_place", "_law_hour", "_law_stretch"]) (sc := defScope s__law_time) (by decide +kernel)) (fun _ _ _ _ _ => (pg_name (i := 3) sc__law_time.nd rfl (Or.inl rfl))) (fun _ _ _ _ _ => pts_nil) (fun _ _ _ _ _ => (pe_ix (ixK K rfl) (pv 3) pe_int (fun _ _ => rfl)))) pa_nil))))), ?_⟩
    have l1 := plen pr
    have n8 := ok.n8
    refine ⟨.int h, rfl, .ref ra, rfl, .int (p : Int), rfl, (p : Int), rfl, ra, rs, rfl, t1, fun hw => ?_, fun hw S hS => ?_⟩
    · have tt : SqT K H ra (rs.take p) := by
        rw [whole_take hw]
        exact t1
      have ee : Ext [] H H := Ext.refl
      refine ⟨_, rfl, ⟨_, tt⟩, fun D hD => lc_tup (xs := rs.take p) (fun i H3 => Ext [] H H3 ∧ SqT K H3 ra (rs.take p) ∧ H3 D = some (.lst ((((rv.take p).map (fun s : Stretch => s.hours)).take i).map V.int))) ⟨ee.trans (Ext.new hD), (Ext.new (ex := []) hD).sqT tt, upd_same⟩ (fun _ _ _ z => z.2.1) (fun i x H3 hx z => ?_) (fun H3 z => ?_)⟩
      · obtain ⟨s1, hs1, is1⟩ := pget (ptake p pr) hx
        obtain ⟨z1, z2, z3⟩ := z
        obtain ⟨sa, sd, rfl, u1, u2⟩ := z1.stretch is1
        refine ⟨rfl, yesT ?_⟩
        refine ⟨_, rfl, .inr (.inl ⟨sa, _, 0, _, rfl, rfl, u1, atI_nat (j := 0) rfl, _, z3, small1000 (by simp only [List.length_map, List.length_take]; omega), z1.wrNew (ee.dom D hD), (Ext.wr (ex := [D]) (by simp) z3).sqT z2, ?_⟩)⟩
        have e : ((rv.take p).map (fun s : Stretch => s.hours))[i]? = some s1.hours := by rw [List.getElem?_map, hs1]; rfl
        rw [upd_same, List.take_add_one, e, List.map_append]
        rfl
      · obtain ⟨z1, z2, z3⟩ := z
        have e : ((rv.take p).map (fun s : Stretch => s.hours)).take (rs.take p).length = (rv.take p).map (fun s : Stretch => s.hours) := List.take_of_length_le (by simp only [List.length_map, List.length_take]; omega)
        rw [e] at z3
        exact ⟨D, (rv.take p).map (fun s : Stretch => s.hours), rfl, .inl (.inl z3), _, _, rfl, rfl, q H3 z1⟩
    · have tt : SqT K (upd H S (.tup (cutV rs none (some (p : Int))))) S (rs.take p) := by
        have z := sqT_new (K := K) (H := H) (p := S) (xs := cutV rs none (some (p : Int)))
        rw [cut_take] at z ⊢
        exact z
      have ee : Ext [] H (upd H S (.tup (cutV rs none (some (p : Int))))) := Ext.new hS
      refine ⟨_, rfl, ⟨_, tt⟩, fun D hD => lc_tup (xs := rs.take p) (fun i H3 => Ext [] H H3 ∧ SqT K H3 S (rs.take p) ∧ H3 D = some (.lst ((((rv.take p).map (fun s : Stretch => s.hours)).take i).map V.int))) ⟨ee.trans (Ext.new hD), (Ext.new (ex := []) hD).sqT tt, upd_same⟩ (fun _ _ _ z => z.2.1) (fun i x H3 hx z => ?_) (fun H3 z => ?_)⟩
      · obtain ⟨s1, hs1, is1⟩ := pget (ptake p pr) hx
        obtain ⟨z1, z2, z3⟩ := z
        obtain ⟨sa, sd, rfl, u1, u2⟩ := z1.stretch is1
        refine ⟨rfl, yesT ?_⟩
        refine ⟨_, rfl, .inr (.inl ⟨sa, _, 0, _, rfl, rfl, u1, atI_nat (j := 0) rfl, _, z3, small1000 (by simp only [List.length_map, List.length_take]; omega), z1.wrNew (ee.dom D hD), (Ext.wr (ex := [D]) (by simp) z3).sqT z2, ?_⟩)⟩
        have e : ((rv.take p).map (fun s : Stretch => s.hours))[i]? = some s1.hours := by rw [List.getElem?_map, hs1]; rfl
        rw [upd_same, List.take_add_one, e, List.map_append]
        rfl
      · obtain ⟨z1, z2, z3⟩ := z
        have e : ((rv.take p).map (fun s : Stretch => s.hours)).take (rs.take p).length = (rv.take p).map (fun s : Stretch => s.hours) := List.take_of_length_le (by simp only [List.length_map, List.length_take]; omega)
        rw [e] at z3
        exact ⟨D, (rv.take p).map (fun s : Stretch => s.hours), rfl, .inl (.inl z3), _, _, rfl, rfl, q H3 z1⟩

def spBarges (K : PySem.W.Frag) : Sp := fun vs H Q _ => ∃ (D : Addr) (v : V) (rv : List Stretch) (n : Nat), vs = [.ref D, v, .int (n : Int)] ∧ DiceAt H D ∧ IsRiver K H v rv ∧ RvOk rv ∧ n ≤ 7 ∧ ∀ (u : V) (bs : List Barge) (H' : Hp), bs.length = n → (∀ b ∈ bs, b.Ok rv.length) → Ext [D] H H' → DiceAt H' D → IsBarges K H' u bs → Q u H'
theorem ok__law_barges (T : Facts A K mg base) : FnOk P w K mg base CX0 2 A.a__law_barges A.d__law_barges ["_law_dice_here", "_law_river_here", "_law_many"] (spBarges K) := by
  refine T.F__law_barges.ok sc__law_barges (fun vs H Q E h => ?_) (fun cdv A1 outer s H vs Q E hr h => ?_)
  · obtain ⟨D, v, rv, n, rfl, _⟩ := h
    rfl
  · obtain ⟨D, v, rv, n, rfl, dD, ir, ok, n7, q⟩ := h
    refine ⟨_, PSs.nox (pss_cons (ps_set (i := 3) sc__law_barges.nd rfl (Or.inl rfl) (pe_lst pa_nil))
      (pss_cons (ps_set (i := 4) sc__law_barges.nd rfl (Or.inl rfl) (pe_ix ix_seq (pe_lst (pa_cons pe_int (pa_cons pe_int pa_nil))) (pe_callTy call_int1 (by rfl) T.n_int (by decide +kernel) (pa_cons (pe_cmpR op_gt (pv 2) pe_int (nomark _)) pa_nil)) (fun _ _ => rfl)))
      (pss_cons (ps_for PassesOwn.never rfl (pi_range1 (by rfl) T.n_range (pa_cons (pv 2) pa_nil)) (pg_name (i := 5) sc__law_barges.nd rfl (Or.inl rfl)) (pss_cons (ps_set (i := 6) sc__law_barges.nd rfl (Or.inl rfl) (pe_call (ok__law_roll T) (hr.mono (by decide)) (by rfl) T.g__law_roll T.F__law_roll.kp T.b__law_roll .nil pass0 (pa_cons (pv 0) (pa_cons (pe_callB call_len_seq (by rfl) T.n_len PySem.boot_len (pa_cons (pv 1) pa_nil)) pa_nil))))
      (pss_cons (ps_set (i := 7) sc__law_barges.nd rfl (Or.inl rfl) (pe_op op_add (pe_op op_add (pv 6) pe_int) (pe_call (ok__law_roll T) (hr.mono (by decide)) (by rfl) T.g__law_roll T.F__law_roll.kp T.b__law_roll .nil pass0 (pa_cons (pv 0) (pa_cons (pe_op op_sub (pe_callB call_len_seq (by rfl) T.n_len PySem.boot_len (pa_cons (pv 1) pa_nil)) (pv 6)) pa_nil)))))
      (pss_cons (ps_set (i := 8) sc__law_barges.nd rfl (Or.inl rfl) (pe_call (ok__law_roll T) (hr.mono (by decide)) (by rfl) T.g__law_roll T.F__law_roll.kp T.b__law_roll .nil pass0 (pa_cons (pv 0) (pa_cons pe_int pa_nil))))
      (pss_cons (ps_set (i := 9) sc__law_barges.nd rfl (Or.inl rfl) (pe_callB (call_max2 rfl) (by rfl) T.n_max (by decide +kernel) (pa_cons pe_int (pa_cons (pe_op op_sub (pe_call (ok__law_time T) (hr.mono (by decide)) (by rfl) T.g__law_time T.F__law_time.kp T.b__law_time .nil pass0 (pa_cons (pv 1) (pa_cons (pv 6) (pa_cons (pv 8) pa_nil)))) (pe_call (ok__law_roll T) (hr.mono (by decide)) (by rfl) T.g__law_roll T.F__law_roll.kp T.b__law_roll .nil pass0 (pa_cons (pv 0) (pa_cons (pv 4) pa_nil)))) pa_nil))))
      (pss_cons (ps_set (i := 10) sc__law_barges.nd rfl (Or.inl rfl) (pe_op op_add (pe_call (ok__law_time T) (hr.mono (by decide)) (by rfl) T.g__law_time T.F__law_time.kp T.b__law_time .nil pass0 (pa_cons (pv 1) (pa_cons (pv 7) (pa_cons (pv 8) pa_nil)))) (pe_call (ok__law_roll T) (hr.mono (by decide)) (by rfl) T.g__law_roll T.F__law_roll.kp T.b__law_roll .nil pass0 (pa_cons (pv 0) (pa_cons (pv 4) pa_nil)))))
      (pss_cons (ps_set (i := 11) sc__law_barges.nd rfl (Or.inl rfl) (pe_ix ix_seq (pe_lst (pa_cons (pe_op op_add pe_int (pe_call (ok__law_roll T) (hr.mono (by decide)) (by rfl) T.g__law_roll T.F__law_roll.kp T.b__law_roll .nil pass0 (pa_cons (pv 0) (pa_cons pe_int pa_nil)))) (pa_cons (pe_op op_add pe_int (pe_call (ok__law_roll T) (hr.mono (by decide)) (by rfl) T.g__law_roll T.F__law_roll.kp T.b__law_roll .nil pass0 (pa_cons (pv 0) (pa_cons pe_int pa_nil)))) pa_nil))) (pe_callTy call_int1 (by rfl) T.n_int (by decide +kernel) (pa_cons (pe_cmpR op_eq (pe_call (ok__law_roll T) (hr.mono (by decide)) (by rfl) T.g__law_roll T.F__law_roll.kp T.b__law_roll .nil pass0 (pa_cons (pv 0) (pa_cons pe_int pa_nil))) pe_int (nomark _)) pa_nil)) (fun _ _ => rfl)))
      (pss_cons (ps_set (i := 12) sc__law_barges.nd rfl (Or.inl rfl) (pe_call (ok__law_roll T) (hr.mono (by decide)) (by rfl) T.g__law_roll T.F__law_roll.kp T.b__law_roll .nil pass0 (pa_cons (pv 0) (pa_cons pe_int pa_nil))))
      (pss_cons (ps_if (pt_cmpR op_lt (pv 12) pe_int (nomark _)) (pss_one (ps_asg (pe_ix ix_seq (pe_lst (pa_cons (pe_tup (pa_cons pe_int (pa_cons (pv 9) (pa_cons (pv 10) pa_nil)))) (pa_cons (pe_tup (pa_cons (pv 11) (pa_cons pe_int (pa_cons pe_int pa_nil)))) (pa_cons (pe_tup (pa_cons (pv 11) (pa_cons (pv 9) (pa_cons pe_int pa_nil)))) pa_nil)))) (pv 12) (fun _ _ => rfl)) (pg_tup (by rfl) (pgs_cons (pg_name (i := 11) sc__law_barges.nd rfl (Or.inl rfl)) (pgs_cons (pg_name (i := 9) sc__law_barges.nd rfl (Or.inl rfl)) (pgs_cons (pg_name (i := 10) sc__law_barges.nd rfl (Or.inl rfl)) pgs_nil)))))) pss_nil)
      (pss_one (ps_expr (pe_bm PySem.F.plainAttrs_list PySem.F.slot_list_append PySem.F.type_list_append mt_append (pv 3) (pa_cons (pe_tup (pa_cons (pv 6) (pa_cons (pv 7) (pa_cons (pv 11) (pa_cons (pv 9) (pa_cons (pv 10) pa_nil)))))) pa_nil)))))))))))))
      (pss_one (ps_ret (pe_callTy call_tuple_of (by rfl) T.n_tuple (by decide +kernel) (pa_cons (pv 3) pa_nil))))))), ?_⟩
    obtain ⟨ra, rs, rfl, t1, pr⟩ := id ir
    have lr := plen pr
    have rn1 := ok.n1
    have rn8 := ok.n8
    refine ⟨Nat.zero_le _, fun O hO => ?_⟩
    have nDO : D ≠ O := by
      obtain ⟨a, b, z, _⟩ := dD
      exact ne_of_none z hO
    -- slack
    refine ⟨by show 2 ≤ sizeLine; decide, fun p0 hp0 => ⟨_, rfl, _, _, rfl, rfl, .inr ⟨_, rfl, ?_⟩⟩⟩
    have hsl := b01 (decide ((4 : Int) < (n : Int)))
    generalize (if decide ((4 : Int) < (n : Int)) = true then (1 : Int) else 0) = sl at hsl ⊢
    obtain ⟨sk, hz, hz2⟩ := pick2 (x := 6) (y := 3) hsl
    refine .inl ⟨p0, _, sl, .int sk, rfl, rfl, .inl (.inl upd_same), hz, ?_⟩
    have e0 : Ext [D] H (upd (upd H O (.lst [])) p0 (.lst [.int 6, .int 3])) := (Ext.new hO).trans (Ext.new hp0)
    have d0 : DiceAt (upd (upd H O (.lst [])) p0 (.lst [.int 6, .int 3])) D := (Ext.new (ex := []) hp0).dice (by simp) ((Ext.new (ex := []) hO).dice (by simp) dD)
    have hO0 : (upd (upd H O (.lst [])) p0 (.lst [.int 6, .int 3])) O = some (.lst []) := (Ext.new (ex := []) hp0).lst O _ (by simp) upd_same
    refine ⟨_, rfl, (n : Int), rfl, by omega, by omega, for_range (n := n) (fun i σ H1 => ∃ y5 y6 y7 y8 y9 y10 y11 y12 vs bs, σ = [some (.ref D), some (.ref ra), some (.int (n : Int)), some (.ref O), some (.int sk), y5, y6, y7, y8, y9, y10, y11, y12] ∧ Ext [D] H H1 ∧ DiceAt H1 D ∧ H1 O = some (.lst vs) ∧ Paired (IsBarge K H1) vs bs ∧ bs.length = i ∧ ∀ b ∈ bs, b.Ok rv.length)
      ⟨none, none, none, none, none, none, none, none, [], [], rfl, e0, d0, hO0, .nil, rfl, fun _ h => absurd h (by simp)⟩ ?_ ?_⟩
    · rintro i σ H1 hi ⟨y5, y6, y7, y8, y9, y10, y11, y12, vs, bs, rfl, e1, d1, hO1, pv, hl, okb⟩
      have lv := plen pv
      have r1 := e1.river ir
      have t1' := e1.sqT t1
      -- begin
      refine ⟨_, rfl, _, rfl, ra, rs, rfl, .inr t1', D, _, rfl, d1, by omega, by omega, fun b H2 b0 b1 e2 d2 => ?_⟩
      -- goal
      refine ⟨_, rfl, _, _, rfl, rfl, _, rfl, _, rfl, ra, rs, rfl, .inr (e2.sqT t1'), _, rfl, _, _, rfl, rfl, D, _, rfl, d2, by omega, by omega, fun g H3 g0 g1 e3 d3 => ⟨_, _, rfl, rfl, ?_⟩⟩
      -- hour
      refine ⟨_, rfl, D, 12, rfl, d3, by omega, by omega, fun h H4 h0 h1 e4 d4 => ?_⟩
      obtain ⟨bn, rfl⟩ : ∃ m : Nat, b = (m : Int) := ⟨b.toNat, by omega⟩
      obtain ⟨gn, hgn⟩ : ∃ m : Nat, (bn : Int) + 1 + g = (m : Int) := ⟨((bn : Int) + 1 + g).toNat, by omega⟩
      have f4 : Ext [D] H1 H4 := e2.trans (e3.trans e4)
      -- ready
      refine ⟨_, rfl, _, rfl, _, rfl, .ref ra, rv, bn, h, rfl, f4.river r1, ok, fun H5 e5 => ?_⟩
      have d5 := e5.dice (by simp) d4
      refine ⟨_, rfl, _, rfl, D, sk, rfl, d5, by omega, by omega, fun s1 H6 s10 s11 e6 d6 => ⟨_, _, rfl, rfl, _, _, rfl, ?_⟩⟩
      have f6 : Ext [D] H1 H6 := f4.trans (e5.any.trans e6)
      have bb := hsum_bound ok.ok bn
      have bg := hsum_bound ok.ok gn
      -- due
      refine ⟨_, rfl, _, rfl, _, rfl, .ref ra, rv, gn, h, by rw [← hgn]; rfl, f6.river r1, ok, fun H7 e7 => ?_⟩
      have d7 := e7.dice (by simp) d6
      refine ⟨_, rfl, _, rfl, D, sk, rfl, d7, by omega, by omega, fun s2 H8 s20 s21 e8 d8 => ⟨_, _, rfl, rfl, ?_⟩⟩
      have f8 : Ext [D] H1 H8 := f6.trans (e7.any.trans e8)
      -- draft
      refine ⟨_, rfl, D, 5, rfl, d8, by omega, by omega, fun w1 H9 w10 w11 e9 d9 => ⟨_, _, rfl, rfl, ?_⟩⟩
      refine ⟨_, rfl, D, 8, rfl, d9, by omega, by omega, fun w2 H10 w20 w21 e10 d10 => ⟨_, _, rfl, rfl, by show 2 ≤ sizeLine; decide, fun p1 hp1 => ?_⟩⟩
      have d11 : DiceAt (upd H10 p1 (.lst [.int (1 + w1), .int (5 + w2)])) D := (Ext.new (ex := []) hp1).dice (by simp) d10
      refine ⟨_, rfl, D, 4, rfl, d11, by omega, by omega, fun w3 H12 w30 w31 e12 d12 => ⟨rfl, .inr ⟨_, rfl, ?_⟩⟩⟩
      have hsx := b01 (decide (V.int w3 = V.int 0))
      generalize (if decide (V.int w3 = V.int 0) = true then (1 : Int) else 0) = sx at hsx ⊢
      obtain ⟨dr, hdr, hdr2⟩ := pick2 (x := 1 + w1) (y := 5 + w2) hsx
      have np1 : D ≠ p1 := by
        obtain ⟨a, b, zz, _⟩ := d10
        exact ne_of_none zz hp1
      have hp12 : H12 p1 = some (.lst [.int (1 + w1), .int (5 + w2)]) := e12.lst p1 _ (by simp [np1.symm]) upd_same
      refine .inl ⟨p1, _, sx, .int dr, rfl, rfl, .inl (.inl hp12), hdr, ?_⟩
      have f12 : Ext [D] H1 H12 := f8.trans (e9.trans (e10.trans ((Ext.new hp1).trans e12)))
      -- odd
      refine ⟨_, rfl, D, 60, rfl, d12, by omega, by omega, fun od H13 od0 od1 e13 d13 => ?_⟩
      have f13 : Ext [D] H1 H13 := f12.trans e13
      have d13' := d13
      have hrd : 0 ≤ (if h + hsum rv bn - s1 > 0 then h + hsum rv bn - s1 else 0) ∧ (if h + hsum rv bn - s1 > 0 then h + hsum rv bn - s1 else 0) ≤ 99 := by split <;> omega
      have hgl : (bn : Int) + 1 + g ≤ (rv.length : Int) := by omega
      have hgr : hsum rv gn ≤ 72 := by omega
      generalize (if h + hsum rv bn - s1 > 0 then h + hsum rv bn - s1 else 0) = rd at hrd ⊢
      refine ⟨_, rfl, _, _, rfl, rfl, _, rfl, ite2 (fun c => ?_) (fun c => ?_)⟩
      · have hod : od < 3 := of_decide_eq_true c
        refine ⟨_, rfl, _, rfl, by show 3 ≤ sizeLine; decide, fun q1 hq1 => ?_⟩
        refine ⟨_, rfl, by show 3 ≤ sizeLine; decide, fun q2 hq2 => ?_⟩
        refine ⟨_, rfl, _, rfl, by show 3 ≤ sizeLine; decide, fun q3 hq3 => ?_⟩
        refine ⟨by show 3 ≤ sizeLine; decide, fun q4 hq4 => ?_⟩
        have x1 := Ext.new (ex := [D]) (o := .tup [.int 99, .int rd, .int (h + hsum rv gn + s2)]) hq1
        have x2 := Ext.new (ex := [D]) (o := .tup [.int dr, .int 99, .int 199]) hq2
        have x3 := Ext.new (ex := [D]) (o := .tup [.int dr, .int rd, .int 0]) hq3
        have x4 := Ext.new (ex := [D]) (o := .lst [.ref q1, .ref q2, .ref q3]) hq4
        have fH := f13.trans (x1.trans (x2.trans (x3.trans x4)))
        have dH := (Ext.new (ex := []) (o := .lst [.ref q1, .ref q2, .ref q3]) hq4).dice (by simp) ((Ext.new (ex := []) (o := .tup [.int dr, .int rd, .int 0]) hq3).dice (by simp) ((Ext.new (ex := []) (o := .tup [.int dr, .int 99, .int 199]) hq2).dice (by simp) ((Ext.new (ex := []) (o := .tup [.int 99, .int rd, .int (h + hsum rv gn + s2)]) hq1).dice (by simp) d13)))
        have t1q := (x2.trans (x3.trans x4)).sqT (sqT_new (K := K) (H := H13) (p := q1) (xs := [.int 99, .int rd, .int (h + hsum rv gn + s2)]))
        have t2q := (x3.trans x4).sqT (sqT_new (K := K) (H := upd H13 q1 (.tup [.int 99, .int rd, .int (h + hsum rv gn + s2)])) (p := q2) (xs := [.int dr, .int 99, .int 199]))
        have t3q := x4.sqT (sqT_new (K := K) (H := upd (upd H13 q1 (.tup [.int 99, .int rd, .int (h + hsum rv gn + s2)])) q2 (.tup [.int dr, .int 99, .int 199])) (p := q3) (xs := [.int dr, .int rd, .int 0]))
        have ho : od = 0 ∨ od = 1 ∨ od = 2 := by omega
        rcases ho with rfl | rfl | rfl
        · have okB : (⟨bn, (bn : Int) + 1 + g, 99, rd, h + hsum rv gn + s2⟩ : Barge).Ok rv.length := ⟨by show 0 ≤ (bn : Int); omega, by show (bn : Int) < (bn : Int) + 1 + g; omega, hgl, by show (1 : Int) ≤ 99; omega, by show (99 : Int) ≤ 99; omega, hrd.1, hrd.2, by show 0 ≤ h + hsum rv gn + s2; omega, by show h + hsum rv gn + s2 ≤ 199; omega⟩
          refine ⟨_, rfl, .inl ⟨q4, _, 0, .ref q1, rfl, rfl, .inl (.inl upd_same), atI_nat (j := 0) rfl, q1, _, rfl, t1q, rfl, _, _, rfl, _, _, rfl, _, _, rfl, rfl, ?_⟩⟩
          have hO14 := fH.lst O _ (by simp [nDO.symm]) hO1
          refine ⟨_, rfl, .inl ⟨rfl, _, .inl (.inl hO14)⟩, ?_⟩
          refine ⟨_, rfl, _, rfl, _, rfl, _, rfl, _, rfl, by show 5 ≤ sizeLine; decide, fun u hu => ?_⟩
          have hO15 := fun o => (Ext.new (ex := []) (o := o) hu).lst O _ (by simp) hO14
          refine ⟨O, _, _, rfl, rfl, hO15 _, small1000 (by omega), ?_⟩
          have w15 := fun o ys => Ext.wr (ex := [O]) (ys := ys) (by simp) (hO15 o)
          refine ⟨_, _, _, _, _, _, _, _, vs ++ [.ref u], bs ++ [⟨bn, (bn : Int) + 1 + g, 99, rd, h + hsum rv gn + s2⟩], rfl, (e1.trans (fH.trans (Ext.new hu))).wrNew hO, ?_, upd_same, papp (Paired.mapP pv fun _ _ z => (w15 _ _).barge ((fH.trans (Ext.new hu)).barge z)) ⟨u, rfl, (w15 _ _).sqT sqT_new⟩, by rw [List.length_append, hl]; rfl, fun b' hb' => ?_⟩
          · exact (w15 _ _).dice (by simp [nDO]) ((Ext.new (ex := []) hu).dice (by simp) dH)
          · rcases List.mem_append.mp hb' with hb' | hb'
            · exact okb b' hb'
            · rw [List.mem_singleton.mp hb']
              exact okB
        · have okB : (⟨bn, (bn : Int) + 1 + g, dr, 99, 199⟩ : Barge).Ok rv.length := ⟨by show 0 ≤ (bn : Int); omega, by show (bn : Int) < (bn : Int) + 1 + g; omega, hgl, by show 1 ≤ dr; omega, by show dr ≤ 99; omega, by show (0 : Int) ≤ 99; omega, by show (99 : Int) ≤ 99; omega, by show (0 : Int) ≤ 199; omega, by show (199 : Int) ≤ 199; omega⟩
          refine ⟨_, rfl, .inl ⟨q4, _, 1, .ref q2, rfl, rfl, .inl (.inl upd_same), atI_nat (j := 1) rfl, q2, _, rfl, t2q, rfl, _, _, rfl, _, _, rfl, _, _, rfl, rfl, ?_⟩⟩
          have hO14 := fH.lst O _ (by simp [nDO.symm]) hO1
          refine ⟨_, rfl, .inl ⟨rfl, _, .inl (.inl hO14)⟩, ?_⟩
          refine ⟨_, rfl, _, rfl, _, rfl, _, rfl, _, rfl, by show 5 ≤ sizeLine; decide, fun u hu => ?_⟩
          have hO15 := fun o => (Ext.new (ex := []) (o := o) hu).lst O _ (by simp) hO14
          refine ⟨O, _, _, rfl, rfl, hO15 _, small1000 (by omega), ?_⟩
          have w15 := fun o ys => Ext.wr (ex := [O]) (ys := ys) (by simp) (hO15 o)
          refine ⟨_, _, _, _, _, _, _, _, vs ++ [.ref u], bs ++ [⟨bn, (bn : Int) + 1 + g, dr, 99, 199⟩], rfl, (e1.trans (fH.trans (Ext.new hu))).wrNew hO, ?_, upd_same, papp (Paired.mapP pv fun _ _ z => (w15 _ _).barge ((fH.trans (Ext.new hu)).barge z)) ⟨u, rfl, (w15 _ _).sqT sqT_new⟩, by rw [List.length_append, hl]; rfl, fun b' hb' => ?_⟩
          · exact (w15 _ _).dice (by simp [nDO]) ((Ext.new (ex := []) hu).dice (by simp) dH)
          · rcases List.mem_append.mp hb' with hb' | hb'
            · exact okb b' hb'
            · rw [List.mem_singleton.mp hb']
              exact okB
        · have okB : (⟨bn, (bn : Int) + 1 + g, dr, rd, 0⟩ : Barge).Ok rv.length := ⟨by show 0 ≤ (bn : Int); omega, by show (bn : Int) < (bn : Int) + 1 + g; omega, hgl, by show 1 ≤ dr; omega, by show dr ≤ 99; omega, hrd.1, hrd.2, by show (0 : Int) ≤ 0; omega, by show (0 : Int) ≤ 199; omega⟩
          refine ⟨_, rfl, .inl ⟨q4, _, 2, .ref q3, rfl, rfl, .inl (.inl upd_same), atI_nat (j := 2) rfl, q3, _, rfl, t3q, rfl, _, _, rfl, _, _, rfl, _, _, rfl, rfl, ?_⟩⟩
          have hO14 := fH.lst O _ (by simp [nDO.symm]) hO1
          refine ⟨_, rfl, .inl ⟨rfl, _, .inl (.inl hO14)⟩, ?_⟩
          refine ⟨_, rfl, _, rfl, _, rfl, _, rfl, _, rfl, by show 5 ≤ sizeLine; decide, fun u hu => ?_⟩
          have hO15 := fun o => (Ext.new (ex := []) (o := o) hu).lst O _ (by simp) hO14
          refine ⟨O, _, _, rfl, rfl, hO15 _, small1000 (by omega), ?_⟩
          have w15 := fun o ys => Ext.wr (ex := [O]) (ys := ys) (by simp) (hO15 o)
          refine ⟨_, _, _, _, _, _, _, _, vs ++ [.ref u], bs ++ [⟨bn, (bn : Int) + 1 + g, dr, rd, 0⟩], rfl, (e1.trans (fH.trans (Ext.new hu))).wrNew hO, ?_, upd_same, papp (Paired.mapP pv fun _ _ z => (w15 _ _).barge ((fH.trans (Ext.new hu)).barge z)) ⟨u, rfl, (w15 _ _).sqT sqT_new⟩, by rw [List.length_append, hl]; rfl, fun b' hb' => ?_⟩
          · exact (w15 _ _).dice (by simp [nDO]) ((Ext.new (ex := []) hu).dice (by simp) dH)
          · rcases List.mem_append.mp hb' with hb' | hb'
            · exact okb b' hb'
            · rw [List.mem_singleton.mp hb']
              exact okB
      · have fH := f13
        have dH := d13
        have okB : (⟨bn, (bn : Int) + 1 + g, dr, rd, h + hsum rv gn + s2⟩ : Barge).Ok rv.length := ⟨by show 0 ≤ (bn : Int); omega, by show (bn : Int) < (bn : Int) + 1 + g; omega, hgl, by show 1 ≤ dr; omega, by show dr ≤ 99; omega, hrd.1, hrd.2, by show 0 ≤ h + hsum rv gn + s2; omega, by show h + hsum rv gn + s2 ≤ 199; omega⟩
        have hO14 := fH.lst O _ (by simp [nDO.symm]) hO1
        refine ⟨_, rfl, .inl ⟨rfl, _, .inl (.inl hO14)⟩, ?_⟩
        refine ⟨_, rfl, _, rfl, _, rfl, _, rfl, _, rfl, by show 5 ≤ sizeLine; decide, fun u hu => ?_⟩
        have hO15 := fun o => (Ext.new (ex := []) (o := o) hu).lst O _ (by simp) hO14
        refine ⟨O, _, _, rfl, rfl, hO15 _, small1000 (by omega), ?_⟩
        have w15 := fun o ys => Ext.wr (ex := [O]) (ys := ys) (by simp) (hO15 o)
        refine ⟨_, _, _, _, _, _, _, _, vs ++ [.ref u], bs ++ [⟨bn, (bn : Int) + 1 + g, dr, rd, h + hsum rv gn + s2⟩], rfl, (e1.trans (fH.trans (Ext.new hu))).wrNew hO, ?_, upd_same, papp (Paired.mapP pv fun _ _ z => (w15 _ _).barge ((fH.trans (Ext.new hu)).barge z)) ⟨u, rfl, (w15 _ _).sqT sqT_new⟩, by rw [List.length_append, hl]; rfl, fun b' hb' => ?_⟩
        · exact (w15 _ _).dice (by simp [nDO]) ((Ext.new (ex := []) hu).dice (by simp) dH)
        · rcases List.mem_append.mp hb' with hb' | hb'
          · exact okb b' hb'
          · rw [List.mem_singleton.mp hb']
            exact okB
    · rintro σ H1 ⟨y5, y6, y7, y8, y9, y10, y11, y12, vs, bs, rfl, e1, d1, hO1, pv, hl, okb⟩
      refine ⟨_, rfl, O, _, rfl, .inl ⟨.inl (.inl hO1), fun t ht => ?_⟩⟩
      exact q (.ref t) bs _ hl okb (e1.trans (Ext.new ht)) ((Ext.new (ex := []) ht).dice (by simp) d1) ⟨t, vs, rfl, sqT_new, Paired.mapP pv fun _ _ z => (Ext.new (ex := []) ht).barge z⟩

def spBook (K : PySem.W.Frag) : Sp := fun vs H Q _ => ∃ (a : Addr) (ns : List Int) (m : Nat), vs = [.ref a, .int (m : Int)] ∧ SqL K H a (ns.map V.int) ∧ m ≤ 7 ∧ ∀ (v : V) (k : Book) (H' : Hp), k.Ok → k.bs.length ≤ m → Ext [] H H' → IsBook K H' v k → Q v H'
theorem ok__law_book (T : Facts A K mg base) : FnOk P w K mg base CX0 3 A.a__law_book A.d__law_book ["_law_script", "_law_most"] (spBook K) := by
  refine T.F__law_book.ok sc__law_book (fun vs H Q E h => ?_) (fun cdv A1 outer s H vs Q E hr h => ?_)
  · obtain ⟨a, ns, m, rfl, _⟩ := h
    rfl
  · obtain ⟨a, ns, m, rfl, hS, m7, q⟩ := h
    refine ⟨_, PSs.nox (pss_cons (ps_set (i := 2) sc__law_book.nd rfl (Or.inl rfl) (pe_call (ok__law_dice T) (hr.mono (by decide)) (by rfl) T.g__law_dice T.F__law_dice.kp T.b__law_dice .nil pass0 (pa_cons (pe_call (ok__law_cell_at T) (hr.mono (by decide)) (by rfl) T.g__law_cell_at T.F__law_cell_at.kp T.b__law_cell_at .nil pass0 (pa_cons (pv 0) (pa_cons pe_int pa_nil))) pa_nil)))
      (pss_cons (ps_set (i := 3) sc__law_book.nd rfl (Or.inl rfl) (pe_call (ok__law_cell_at T) (hr.mono (by decide)) (by rfl) T.g__law_cell_at T.F__law_cell_at.kp T.b__law_cell_at .nil pass0 (pa_cons (pv 0) (pa_cons pe_int pa_nil))))
      (pss_cons (ps_set (i := 4) sc__law_book.nd rfl (Or.inl rfl) (pe_call (ok__law_river T) (hr.mono (by decide)) (by rfl) T.g__law_river T.F__law_river.kp T.b__law_river .nil pass0 (pa_cons (pv 2) (pa_cons (pe_ix ix_seq (pe_lst (pa_cons (pe_op op_add pe_int (pe_op op_modN (pv 3) pe_int)) (pa_cons (pe_op op_add pe_int (pe_op op_modN (pv 3) pe_int)) pa_nil))) (pe_callTy call_int1 (by rfl) T.n_int (by decide +kernel) (pa_cons (pe_cmpR op_eq (pe_op op_modN (pe_op op_fdivN (pv 3) pe_int) pe_int) pe_int (nomark _)) pa_nil)) (fun _ _ => rfl)) pa_nil))))
      (pss_one (ps_ret (pe_tup (pa_cons (pv 4) (pa_cons (pe_call (ok__law_barges T) (hr.mono (by decide)) (by rfl) T.g__law_barges T.F__law_barges.kp T.b__law_barges .nil pass0 (pa_cons (pv 2) (pa_cons (pv 4) (pa_cons (pe_op op_modN (pe_call (ok__law_cell_at T) (hr.mono (by decide)) (by rfl) T.g__law_cell_at T.F__law_cell_at.kp T.b__law_cell_at .nil pass0 (pa_cons (pv 0) (pa_cons pe_int pa_nil))) (pe_op op_add (pv 1) pe_int)) pa_nil)))) pa_nil)))))))), ?_⟩
    have keep : ∀ {H1}, Ext [] H H1 → SqL K H1 a (ns.map V.int) := fun e => e.sqL (by simp) hS
    refine ⟨_, rfl, a, ns, 0, rfl, hS, fun c => ⟨c, rfl, fun D H1 hD e1 d1 => ?_⟩⟩
    refine ⟨_, rfl, a, ns, 1, rfl, keep e1, fun c1 => ?_⟩
    have nD : ∀ {H2}, Ext [D] H1 H2 → Ext [] H H2 := fun e => ⟨fun b xs z => e.tup b xs (e1.tup b xs z), fun b o u z => e.frz b o u (e1.frz b o u z), fun b ps z t => let ⟨ps', z', t'⟩ := e1.tbl b ps z t; e.tbl b ps' z' t', fun b xs n z => e.lst b xs (by simp; exact ne_of_none z hD) (e1.lst b xs (by simp) z), fun b z => e1.dom b (e.dom b z)⟩
    -- river
    have m40 : 0 ≤ c1.fmod 4 := Int.fmod_nonneg_of_pos _ (by decide)
    have m41 : c1.fmod 4 < 4 := Int.fmod_lt_of_pos _ (by decide)
    refine ⟨_, rfl, _, rfl, _, _, rfl, rfl, (by show (4 : Int) ≠ 0; decide), _, _, rfl, rfl, _, rfl, _, _, rfl, rfl, (by show (4 : Int) ≠ 0; decide), _, _, rfl, rfl, (by show 2 ≤ sizeLine; decide), fun p hp => ?_⟩
    refine ⟨_, rfl, _, _, rfl, rfl, ⟨by decide, by decide⟩, _, _, rfl, rfl, (by show (6 : Int) ≠ 0; decide), rfl, .inr ⟨_, rfl, ?_⟩⟩
    have hsl := b01 (decide (V.int ((c1.fdiv 4).fmod 6) = V.int 1))
    generalize (if decide (V.int ((c1.fdiv 4).fmod 6) = V.int 1) = true then (1 : Int) else 0) = sl at hsl ⊢
    obtain ⟨z, hz, hz2⟩ := pick2 (x := 1 + c1.fmod 4) (y := 5 + c1.fmod 4) hsl
    obtain ⟨n, rfl⟩ : ∃ n : Nat, z = (n : Int) := ⟨z.toNat, by omega⟩
    have e2 : Ext [D] H1 (upd H1 p (.lst [.int (1 + c1.fmod 4), .int (5 + c1.fmod 4)])) := Ext.new hp
    refine .inl ⟨p, _, sl, .int (n : Int), rfl, rfl, .inl (.inl upd_same), hz, D, n, rfl, (Ext.new (ex := []) hp).dice (by simp) d1, by omega, by omega, fun v rv H3 hn okr e3 d3 ir => ?_⟩
    -- the pair
    have f3 := e2.trans e3
    refine ⟨_, rfl, _, rfl, _, rfl, _, rfl, a, ns, 2, rfl, keep (nD f3), fun c2 => ⟨_, rfl, _, _, rfl, rfl, _, _, rfl, rfl, by omega, ?_⟩⟩
    have b0 : 0 ≤ c2.fmod ((m : Int) + 1) := Int.fmod_nonneg_of_pos _ (by omega)
    have b1 : c2.fmod ((m : Int) + 1) < (m : Int) + 1 := Int.fmod_lt_of_pos _ (by omega)
    obtain ⟨q1, hq1⟩ : ∃ n : Nat, c2.fmod ((m : Int) + 1) = (n : Int) := ⟨(c2.fmod ((m : Int) + 1)).toNat, by omega⟩
    refine ⟨D, v, rv, q1, by rw [← hq1]; rfl, d3, ir, okr, by omega, fun u bs H4 hb okb e4 d4 ib => ⟨by show 2 ≤ sizeLine; decide, fun t ht => ?_⟩⟩
    exact q (.ref t) ⟨rv, bs⟩ _ ⟨okr, by show bs.length ≤ 7; omega, okb⟩ (by show bs.length ≤ m; omega) (nD (f3.trans (e4.trans (Ext.new ht)))) ⟨t, v, u, rfl, sqT_new, (Ext.new (ex := []) ht).river (e4.river ir), (Ext.new (ex := []) ht).barges ib⟩

def spLPlan (K : PySem.W.Frag) : Sp := fun vs H Q _ => ∃ (a : Addr) (ns : List Int) (m : Nat), vs = [.ref a, .int (m : Int)] ∧ SqL K H a (ns.map V.int) ∧ m ≤ 7 ∧ ∀ (u : V) (pl : List (Option Int)) (H' : Hp), PlOk m pl → Ext [] H H' → IsPlan K H' u pl → Q u H'
theorem ok__law_plan (T : Facts A K mg base) : FnOk P w K mg base CX0 2 A.a__law_plan A.d__law_plan ["_law_script", "_law_many"] (spLPlan K) := by
  refine T.F__law_plan.ok sc__law_plan (fun vs H Q E h => ?_) (fun cdv A1 outer s H vs Q E hr h => ?_)
  · obtain ⟨a, ns, m, rfl, _⟩ := h
    rfl
  · obtain ⟨a, ns, m, rfl, hS, m7, q⟩ := h
    refine ⟨_, PSs.nox (pss_cons (ps_set (i := 2) sc__law_plan.nd rfl (Or.inl rfl) (pe_call (ok__law_dice T) (hr.mono (by decide)) (by rfl) T.g__law_dice T.F__law_dice.kp T.b__law_dice .nil pass0 (pa_cons (pe_call (ok__law_cell_at T) (hr.mono (by decide)) (by rfl) T.g__law_cell_at T.F__law_cell_at.kp T.b__law_cell_at .nil pass0 (pa_cons (pv 0) (pa_cons pe_int pa_nil))) pa_nil)))
      (pss_cons (ps_set (i := 3) sc__law_plan.nd rfl (Or.inl rfl) (pe_lst pa_nil))
      (pss_cons (ps_for PassesOwn.never rfl (pi_range1 (by rfl) T.n_range (pa_cons (pv 1) pa_nil)) (pg_name (i := 4) sc__law_plan.nd rfl (Or.inl rfl)) (pss_one (ps_expr (pe_bm PySem.F.plainAttrs_list PySem.F.slot_list_append PySem.F.type_list_append mt_append (pv 3) (pa_cons (pe_ix ix_seq (pe_lst (pa_cons pe_non (pa_cons (pe_call (ok__law_roll T) (hr.mono (by decide)) (by rfl) T.g__law_roll T.F__law_roll.kp T.b__law_roll .nil pass0 (pa_cons (pv 2) (pa_cons pe_int pa_nil))) (pa_cons (pe_op op_add (pe_call (ok__law_roll T) (hr.mono (by decide)) (by rfl) T.g__law_roll T.F__law_roll.kp T.b__law_roll .nil pass0 (pa_cons (pv 2) (pa_cons pe_int pa_nil))) pe_int) pa_nil)))) (pe_call (ok__law_roll T) (hr.mono (by decide)) (by rfl) T.g__law_roll T.F__law_roll.kp T.b__law_roll .nil pass0 (pa_cons (pv 2) (pa_cons pe_int pa_nil))) (fun _ _ => rfl)) pa_nil)))))
      (pss_one (ps_ret (pe_callTy call_tuple_of (by rfl) T.n_tuple (by decide +kernel) (pa_cons (pv 3) pa_nil))))))), ?_⟩
    refine ⟨_, rfl, a, ns, 3, rfl, hS, fun c => ⟨c, rfl, fun D H1 hD e1 d1 => ?_⟩⟩
    have born : ∀ {H2 H3}, Ext [] H H2 → Ext [D] H2 H3 → Ext [] H H3 := fun e f => e.born hD f
    refine ⟨Nat.zero_le _, fun L hL => ?_⟩
    have hL0 : H L = none := e1.dom L hL
    have nDL : D ≠ L := by
      obtain ⟨a, b, z, _⟩ := d1
      exact ne_of_none z hL
    refine ⟨_, rfl, (m : Int), rfl, by omega, by omega, for_range (n := m) (fun j σ H3 => ∃ y4 pl, σ = [some (.ref a), some (.int (m : Int)), some (.ref D), some (.ref L), y4] ∧ Ext [] H H3 ∧ DiceAt H3 D ∧ H3 L = some (.lst (pl.map oV)) ∧ j ≤ m ∧ PlOk j pl)
      ⟨none, [], rfl, e1.trans (Ext.new hL), (Ext.new (ex := []) hL).dice (by simp) d1, upd_same, Nat.zero_le _, ⟨rfl, fun _ h => absurd h (by simp)⟩⟩ ?_ ?_⟩
    · rintro j σ H3 hj ⟨y4, pl, rfl, e3, d3, hL3, _, okp⟩
      have lp := okp.len
      refine ⟨_, rfl, .inl ⟨rfl, _, .inl (.inl hL3)⟩, ?_⟩
      refine ⟨_, rfl, D, 12, rfl, d3, by omega, by omega, fun w4 H4 w40 w41 e4 d4 => ?_⟩
      refine ⟨_, rfl, D, 3, rfl, d4, by omega, by omega, fun w5 H5 w50 w51 e5 d5 => ⟨_, _, rfl, rfl, ?_⟩⟩
      refine ⟨by show 3 ≤ sizeLine; decide, fun p hp => ?_⟩
      have e6 := Ext.new (ex := []) (o := .lst [.non, .int w4, .int (w5 + 9)]) hp
      have d6 := e6.dice (by simp) d5
      refine ⟨_, rfl, D, 3, rfl, d6, by omega, by omega, fun w6 H6 w60 w61 e7 d7 => ?_⟩
      obtain ⟨o, ho, hoo⟩ : ∃ o : Option Int, atI [V.non, .int w4, .int (w5 + 9)] w6 = some (oV o) ∧ ∀ h, o = some h → 0 ≤ h ∧ h ≤ 11 := by
        obtain rfl | rfl | rfl : w6 = 0 ∨ w6 = 1 ∨ w6 = 2 := by omega
        · exact ⟨none, atI_nat (j := 0) rfl, fun h z => by cases z⟩
        · exact ⟨some w4, atI_nat (j := 1) rfl, fun h z => by cases z; omega⟩
        · exact ⟨some (w5 + 9), atI_nat (j := 2) rfl, fun h z => by cases z; omega⟩
      have nDp : D ≠ p := by
        obtain ⟨a, b, zz, _⟩ := d5
        exact ne_of_none zz hp
      have hp6 : H6 p = some (.lst [.non, .int w4, .int (w5 + 9)]) := e7.lst p _ (by simp [nDp.symm]) upd_same
      have hL5 : H5 L = some (.lst (pl.map oV)) := e5.lst L _ (by simp [nDL.symm]) (e4.lst L _ (by simp [nDL.symm]) hL3)
      have hL6 : H6 L = some (.lst (pl.map oV)) := e7.lst L _ (by simp [nDL.symm]) (e6.lst L _ (by simp) hL5)
      refine .inl ⟨p, _, w6, oV o, rfl, rfl, .inl (.inl hp6), ho, L, _, _, rfl, rfl, hL6, small1000 (by rw [List.length_map]; omega), ?_⟩
      refine ⟨_, pl ++ [o], rfl, ?_, ?_, ?_, by omega, ⟨by rw [List.length_append, lp]; rfl, fun h hh => ?_⟩⟩
      · exact (born (born (born e3 e4) e5 |>.trans e6) e7).wrNew hL0
      · obtain ⟨a, b, zz, r⟩ := d7
        exact ⟨a, b, by rw [upd_ne nDL]; exact zz, r⟩
      · rw [upd_same, List.map_append]
        rfl
      · rcases List.mem_append.mp hh with hh | hh
        · exact okp.ok h hh
        · exact hoo h (List.mem_singleton.mp hh).symm
    · rintro σ H3 ⟨y4, pl, rfl, e3, d3, hL3, _, okp⟩
      refine ⟨_, rfl, L, _, rfl, .inl ⟨.inl (.inl hL3), fun t ht => ?_⟩⟩
      exact q _ pl _ okp (e3.trans (Ext.new ht)) ⟨t, rfl, sqT_new⟩

def spLText (K : PySem.W.Frag) : Sp := fun vs H Q _ => ∃ (v u : V) (k : Book) (pl : List (Option Int)), vs = [v, u] ∧ IsBook K H v k ∧ k.Ok ∧ IsPlan K H u pl ∧ PlOk k.bs.length pl ∧ ∀ H', Ext [] H H' → Q (.str (textN k pl)) H'
theorem ok__law_text (T : Facts A K mg base) : FnOk P w K mg base CX0 1 A.a__law_text A.d__law_text ["_law_book_here", "_law_plan_here"] (spLText K) := by
  refine T.F__law_text.ok sc__law_text (fun vs H Q E h => ?_) (fun cdv A1 outer s H vs Q E hr h => ?_)
  · obtain ⟨v, u, k, pl, rfl, _⟩ := h
    rfl
  · obtain ⟨v, u, k, pl, rfl, ib, ok, ⟨pa, rfl, tp⟩, okp, q⟩ := h
    refine ⟨_, PSs.nox (pss_cons (ps_set (i := 2) sc__law_text.nd rfl (Or.inl rfl) (pe_lst pa_nil))
      (pss_cons (ps_for PassesOwn.never rfl (pi_tup (pe_ix ix_seq (pv 0) pe_int (fun _ _ => rfl))) (pg_tup (by rfl) (pgs_cons (pg_name (i := 3) sc__law_text.nd rfl (Or.inl rfl)) (pgs_cons (pg_name (i := 4) sc__law_text.nd rfl (Or.inl rfl)) (pgs_cons (pg_name (i := 5) sc__law_text.nd rfl (Or.inl rfl)) pgs_nil)))) (pss_one (ps_expr (pe_bm PySem.F.plainAttrs_list PySem.F.slot_list_append PySem.F.type_list_append mt_append (pv 2) (pa_cons (pe_join pe_str (pe_op op_cat (pe_lst (pa_cons pe_str (pa_cons (pe_callTy call_str_int (by rfl) T.n_str (by decide +kernel) (pa_cons (pv 3) pa_nil)) (pa_cons (pe_callTy call_str_int (by rfl) T.n_str (by decide +kernel) (pa_cons (pv 4) pa_nil)) pa_nil)))) (pe_lc (own := [("_law_depth", 6)]) (g := (gName 6)) rfl sc__law_text.nd (pi_tup (pv 5)) (blkOk_by (own := [("_law_depth", 6)]) (N := ["_law_book_here", "_law_plan_here", "_law_out", "_law_hours", "_law_room", "_law_depths", "_law_depth", "_law_barge", "_law_number", "_law_hour"]) (sc := defScope s__law_text) (by decide +kernel)) (fun _ _ _ _ _ => (pg_name (i := 6) sc__law_text.nd rfl (Or.inl rfl))) (fun _ _ _ _ _ => pts_nil) (fun _ _ _ _ _ => (pe_callTy call_str_int (by rfl) T.n_str (by decide +kernel) (pa_cons (pv 6) pa_nil)))))) pa_nil)))))
      (pss_cons (ps_for PassesOwn.never rfl (pi_tup (pe_ix ix_seq (pv 0) pe_int (fun _ _ => rfl))) (pg_name (i := 7) sc__law_text.nd rfl (Or.inl rfl)) (pss_one (ps_expr (pe_bm PySem.F.plainAttrs_list PySem.F.slot_list_append PySem.F.type_list_append mt_append (pv 2) (pa_cons (pe_join pe_str (pe_op op_cat (pe_lst (pa_cons pe_str pa_nil)) (pe_lc (own := [("_law_number", 8)]) (g := (gName 8)) rfl sc__law_text.nd (pi_tup (pv 7)) (blkOk_by (own := [("_law_number", 8)]) (N := ["_law_book_here", "_law_plan_here", "_law_out", "_law_hours", "_law_room", "_law_depths", "_law_depth", "_law_barge", "_law_number", "_law_hour"]) (sc := defScope s__law_text) (by decide +kernel)) (fun _ _ _ _ _ => (pg_name (i := 8) sc__law_text.nd rfl (Or.inl rfl))) (fun _ _ _ _ _ => pts_nil) (fun _ _ _ _ _ => (pe_callTy call_str_int (by rfl) T.n_str (by decide +kernel) (pa_cons (pv 8) pa_nil)))))) pa_nil)))))
      (pss_one (ps_ret (pe_join pe_str (pe_op op_cat (pv 2) (pe_lst (pa_cons (pe_join pe_str (pe_op op_cat (pe_lst (pa_cons pe_str pa_nil)) (pe_lc (own := [("_law_hour", 9)]) (g := (gName 9)) rfl sc__law_text.nd (pi_tup (pv 1)) (blkOk_by (own := [("_law_hour", 9)]) (N := ["_law_book_here", "_law_plan_here", "_law_out", "_law_hours", "_law_room", "_law_depths", "_law_depth", "_law_barge", "_law_number", "_law_hour"]) (sc := defScope s__law_text) (by decide +kernel)) (fun _ _ _ _ _ => (pg_name (i := 9) sc__law_text.nd rfl (Or.inl rfl))) (fun _ _ _ _ _ => pts_nil) (fun _ _ _ _ _ => (pe_ifExp (pt_cmpR op_isN (pv 9) pe_non (nomark _)) pe_str (pe_callTy call_str_int (by rfl) T.n_str (by decide +kernel) (pa_cons (pv 9) pa_nil))))))) pa_nil))))))))), ?_⟩
    have n7 := ok.n7
    have n8 := ok.rv.n8
    have lp := okp.len
    obtain ⟨a, r, b, rfl, t0, ⟨ra, rs, rfl, t1, pr⟩, ⟨ba, bs, rfl, t2, pb⟩⟩ := id ib
    have lr := plen pr
    have lb := plen pb
    refine ⟨Nat.zero_le _, fun L hL => ?_⟩
    have e0 : Ext [] H (upd H L (.lst [])) := Ext.new hL
    refine ⟨_, rfl, .inr (.inl ⟨a, _, 0, _, rfl, rfl, e0.sqT t0, atI_nat (j := 0) rfl, ?_⟩)⟩
    refine ⟨ra, rfl, ⟨_, e0.sqT t1⟩, for_tup (xs := rs) (fun i σ H3 => ∃ y3 y4 y5 y6 y7 y8 y9, σ = [some (.ref a), some (.ref pa), some (.ref L), y3, y4, y5, y6, y7, y8, y9] ∧ i ≤ rs.length ∧ Ext [] H H3 ∧ H3 L = some (.lst (strsV ((k.rv.take i).map fun s => rowS "stretch" (stretchC s)))))
      ⟨_, _, _, _, _, _, _, rfl, Nat.zero_le _, e0, upd_same⟩ (fun i σ H3 _ z => ?_) (fun i x σ H3 hx z => ?_) (fun σ H3 z => ?_)⟩
    · obtain ⟨_, _, _, _, _, _, _, _, _, e, _⟩ := z
      exact e.sqT t1
    · obtain ⟨s, hs, sa, sd, rfl, u1, u2⟩ := pget pr hx
      obtain ⟨y3, y4, y5, y6, y7, y8, y9, rfl, _, e3, hL3⟩ := z
      have hi : i < rs.length := (List.getElem?_eq_some_iff.mp hx).1
      have okS := ok.rv.ok s (List.mem_of_getElem? hs)
      have sm := stretchC_small okS
      have d24 := okS.d24
      have h1 := okS.h1
      have h9 := okS.h9
      have r1 := okS.r1
      have r9 := okS.r9
      refine ⟨sa, _, rfl, e3.sqT u1, rfl, _, _, rfl, _, _, rfl, _, _, rfl, rfl, ?_⟩
      refine ⟨_, rfl, .inl ⟨rfl, _, .inl (.inl hL3)⟩, ⟨_, rfl⟩, _, rfl, s.hours, rfl, cellS_log (by omega) (by omega), _, rfl, s.room, rfl, cellS_log (by omega) (by omega), by show 3 ≤ sizeLine; decide, fun N hN => ?_⟩
      have eN := Ext.new (ex := []) (o := .lst [.str "stretch", .str (toString s.hours), .str (toString s.room)]) hN
      have f3 := e3.trans eN
      refine ⟨.ref sd, rfl, sd, rfl, ⟨_, f3.sqT u2⟩, fun D hD => lc_tup (xs := s.ds.map V.int) (fun j H5 => Ext [] (upd H3 N (.lst [.str "stretch", .str (toString s.hours), .str (toString s.room)])) H5 ∧ j ≤ s.ds.length ∧ H5 D = some (.lst (strsV ((s.ds.take j).map fun d => cellS (some d))))) ⟨Ext.new hD, Nat.zero_le _, upd_same⟩ (fun _ _ _ z => (f3.trans z.1).sqT u2) (fun j x H5 hx z => ?_) (fun H5 z => ?_)⟩
      · obtain ⟨d, hd, rfl⟩ := map_int hx
        obtain ⟨e5, _, hL5⟩ := z
        have hj : j < s.ds.length := (List.getElem?_eq_some_iff.mp hd).1
        have hds := okS.ds d (List.mem_of_getElem? hd)
        refine ⟨rfl, yesT ⟨_, rfl, d, rfl, cellS_log (by omega) (by omega), _, hL5, small1000 (by rw [List.length_map, List.length_map, List.length_take]; omega), e5.wrNew hD, hj, ?_⟩⟩
        rw [upd_same, map_take hd]
        unfold strsV
        rw [List.map_append]
        rfl
      · obtain ⟨e5, _, hL5⟩ := z
        rw [List.length_map, List.take_length] at hL5
        have hN5 := e5.lst N _ (by simp) upd_same
        refine ⟨N, D, _, _, rfl, rfl, hN5, hL5, Nat.le_of_lt (small1000 (by rw [List.length_map, List.length_map]; simp; omega)), fun p hp => ?_⟩
        have e6 := e5.trans (Ext.new (ex := []) (o := .lst ([.str "stretch", .str (toString s.hours), .str (toString s.room)] ++ strsV (s.ds.map fun d => cellS (some d)))) hp)
        have ew : ("stretch" : Str) :: (stretchC s).map cellS = (("stretch" : Str) :: Str.ofString (toString s.hours) :: Str.ofString (toString s.room) :: []) ++ s.ds.map fun d => cellS (some d) := by
          unfold stretchC
          rw [List.map_cons, List.map_cons, List.map_map]
          rfl
        have hb := rowSum_le (z := "stretch") (by decide +kernel) sm.1
        have sm2 := sm.2
        refine ⟨_, p, "stretch" :: (stretchC s).map cellS, rfl, rfl, .inl (.inl (.inl ?_)), ?_, L, _, _, rfl, rfl, (eN.trans e6).lst L _ (by simp) hL3, small1000 (by rw [List.length_map, List.length_map, List.length_take]; omega), ?_⟩
        · rw [upd_same, ew]
          unfold strsV
          rw [List.map_append]
          rfl
        · have h3 : (" " : Str).length = 1 := by decide +kernel
          rw [h3, List.length_cons, List.length_map]
          omega
        refine ⟨_, _, _, _, _, _, _, rfl, hi, (e3.trans (eN.trans e6)).wrNew hL, ?_⟩
        rw [upd_same, map_take hs]
        unfold strsV
        rw [List.map_append]
        rfl
    obtain ⟨y3, y4, y5, y6, y7, y8, y9, rfl, _, e3, hL3⟩ := z
    rw [lr, List.take_length] at hL3
    refine ⟨_, rfl, .inr (.inl ⟨a, _, 1, _, rfl, rfl, e3.sqT t0, atI_nat (j := 1) rfl, ?_⟩)⟩
    refine ⟨ba, rfl, ⟨_, e3.sqT t2⟩, for_tup (xs := bs) (fun i σ H4 => ∃ y3 y4 y5 y6 y7 y8 y9, σ = [some (.ref a), some (.ref pa), some (.ref L), y3, y4, y5, y6, y7, y8, y9] ∧ i ≤ bs.length ∧ Ext [] H H4 ∧ H4 L = some (.lst (strsV ((k.rv.map fun s => rowS "stretch" (stretchC s)) ++ (k.bs.take i).map fun s => rowS "barge" (bargeC s)))))
      ⟨_, _, _, _, _, _, _, rfl, Nat.zero_le _, e3, by rw [List.take_zero, List.map_nil, List.append_nil]; exact hL3⟩ (fun i σ H4 _ z => ?_) (fun i x σ H4 hx z => ?_) (fun σ H4 z => ?_)⟩
    · obtain ⟨_, _, _, _, _, _, _, _, _, e, _⟩ := z
      exact e.sqT t2
    · obtain ⟨s, hs, sa, rfl, u1⟩ := pget pb hx
      obtain ⟨y3, y4, y5, y6, y7, y8, y9, rfl, _, e4, hL4⟩ := z
      have hi : i < bs.length := (List.getElem?_eq_some_iff.mp hx).1
      have sm := bargeC_small (ok.ok s (List.mem_of_getElem? hs)) n8
      have l5 : (bargeC s).length = 5 := rfl
      refine ⟨_, rfl, .inl ⟨rfl, _, .inl (.inl hL4)⟩, ⟨_, rfl⟩, by show 1 ≤ sizeLine; decide, fun N hN => ?_⟩
      have eN := Ext.new (ex := []) (o := .lst [.str "barge"]) hN
      have f4 := e4.trans eN
      refine ⟨.ref sa, rfl, sa, rfl, ⟨_, f4.sqT u1⟩, fun D hD => lc_tup (xs := (bargeC s).map oV) (fun j H5 => Ext [] (upd H4 N (.lst [.str "barge"])) H5 ∧ j ≤ (bargeC s).length ∧ H5 D = some (.lst (strsV (((bargeC s).take j).map cellS)))) ⟨Ext.new hD, Nat.zero_le _, upd_same⟩ (fun _ _ _ z => (f4.trans z.1).sqT u1) (fun j x H5 hx z => ?_) (fun H5 z => ?_)⟩
      · obtain ⟨o, hd, rfl⟩ := map_get hx
        obtain ⟨e5, _, hL5⟩ := z
        have hj : j < (bargeC s).length := (List.getElem?_eq_some_iff.mp hd).1
        obtain ⟨d, rfl⟩ : ∃ d, o = some d := by
          have hm := List.mem_of_getElem? hd
          unfold bargeC at hm
          simp only [List.mem_cons, List.not_mem_nil, or_false] at hm
          rcases hm with rfl | rfl | rfl | rfl | rfl <;> exact ⟨_, rfl⟩
        have hds := sm.1 (some d) (List.mem_of_getElem? hd) d rfl
        refine ⟨rfl, yesT ⟨_, rfl, d, rfl, cellS_log (by omega) (by omega), _, hL5, small1000 (by rw [List.length_map, List.length_map, List.length_take]; omega), e5.wrNew hD, hj, ?_⟩⟩
        rw [upd_same, map_take hd]
        unfold strsV
        rw [List.map_append]
        rfl
      · obtain ⟨e5, _, hL5⟩ := z
        rw [List.length_map, List.take_length] at hL5
        have hN5 := e5.lst N _ (by simp) upd_same
        refine ⟨N, D, _, _, rfl, rfl, hN5, hL5, Nat.le_of_lt (small1000 (by rw [List.length_map, List.length_map]; simp; omega)), fun p hp => ?_⟩
        have e6 := e5.trans (Ext.new (ex := []) (o := .lst ([.str "barge"] ++ strsV ((bargeC s).map cellS))) hp)
        have hb := rowSum_le (z := "barge") (by decide +kernel) sm.1
        have hl4 : (strsV ((k.rv.map fun s => rowS "stretch" (stretchC s)) ++ (k.bs.take i).map fun s => rowS "barge" (bargeC s))).length ≤ 15 := by
          simp only [List.length_map, List.length_append, List.length_take]
          omega
        refine ⟨_, p, "barge" :: (bargeC s).map cellS, rfl, rfl, .inl (.inl (.inl upd_same)), ?_, L, _, _, rfl, rfl, (eN.trans e6).lst L _ (by simp) hL4, small1000 (by omega), ?_⟩
        · have h3 : (" " : Str).length = 1 := by decide +kernel
          rw [h3, List.length_cons, List.length_map]
          omega
        refine ⟨_, _, _, _, _, _, _, rfl, hi, (e4.trans (eN.trans e6)).wrNew hL, ?_⟩
        rw [upd_same, map_take hs]
        unfold strsV
        rw [List.map_append, List.map_append, List.map_append, List.append_assoc]
        rfl
    obtain ⟨y3, y4, y5, y6, y7, y8, y9, rfl, _, e4, hL4⟩ := z
    rw [lb, List.take_length] at hL4
    refine ⟨⟨_, rfl⟩, _, rfl, ⟨_, rfl⟩, by show 1 ≤ sizeLine; decide, fun N hN => ?_⟩
    have eN := Ext.new (ex := []) (o := .lst [.str "plan"]) hN
    have f4 := e4.trans eN
    refine ⟨.ref pa, rfl, pa, rfl, ⟨_, f4.sqT tp⟩, fun D hD => lc_tup (xs := pl.map oV) (fun i H5 => Ext [] (upd H4 N (.lst [.str "plan"])) H5 ∧ i ≤ pl.length ∧ H5 D = some (.lst (strsV ((pl.take i).map cellS)))) ⟨Ext.new hD, Nat.zero_le _, upd_same⟩ (fun _ _ _ z => (f4.trans z.1).sqT tp) (fun i x H5 hx2 z => ?_) (fun H5 z => ?_)⟩
    · obtain ⟨o, ho, rfl⟩ := map_get hx2
      obtain ⟨e5, _, hL5⟩ := z
      have hi : i < pl.length := (List.getElem?_eq_some_iff.mp ho).1
      have sm := plan_small okp o (List.mem_of_getElem? ho)
      have ln : (strsV ((pl.take i).map cellS)).length ≤ 30 := by
        rw [List.length_map, List.length_map, List.length_take]
        omega
      have step : strsV ((pl.take (i + 1)).map cellS) = strsV ((pl.take i).map cellS) ++ [.str (cellS o)] := by
        rw [map_take ho]
        unfold strsV
        rw [List.map_append]
        rfl
      refine ⟨rfl, yesT ?_⟩
      cases o with
      | none =>
        refine ⟨_, rfl, rfl, _, rfl, iteD rfl ⟨_, hL5, small1000 (by omega), e5.wrNew hD, hi, ?_⟩⟩
        rw [upd_same, step]
        rfl
      | some n =>
        obtain ⟨h0, h9⟩ := sm n rfl
        refine ⟨_, rfl, rfl, _, rfl, iteDn (by simp [oV]) ⟨_, rfl, n, rfl, cellS_log h0 h9, _, hL5, small1000 (by omega), e5.wrNew hD, hi, ?_⟩⟩
        rw [upd_same, step]
        rfl
    obtain ⟨e5, _, hL5⟩ := z
    rw [List.length_map, List.take_length] at hL5
    have hN5 := e5.lst N _ (by simp) upd_same
    refine ⟨N, D, _, _, rfl, rfl, hN5, hL5, Nat.le_of_lt (small1000 (by rw [List.length_map, List.length_map]; simp; omega)), fun p hp => ?_⟩
    have e6 := Ext.new (ex := []) (o := .lst ([.str "plan"] ++ strsV (pl.map cellS))) hp
    have hb := rowSum_le (z := "plan") (xs := pl) (by decide +kernel) (plan_small okp)
    refine ⟨_, p, "plan" :: pl.map cellS, rfl, rfl, .inl (.inl (.inl upd_same)), ?_, by show 1 ≤ sizeLine; decide, fun p2 hp2 => ?_⟩
    · have h3 : (" " : Str).length = 1 := by decide +kernel
      rw [h3, List.length_cons, List.length_map]
      omega
    have e7 := Ext.new (ex := []) (o := .lst [.str (rowS "plan" pl)]) hp2
    have f7 := eN.trans (e5.trans (e6.trans e7))
    refine ⟨L, p2, _, _, rfl, rfl, f7.lst L _ (by simp) hL4, upd_same, Nat.le_of_lt (small1000 (by simp only [List.length_append, List.length_map]; simp; omega)), fun p3 hp3 => ?_⟩
    refine ⟨_, p3, linesN k pl, rfl, rfl, .inl (.inl (.inl ?_)), lines_sum ok okp, q _ (e4.trans (f7.trans (Ext.new hp3)))⟩
    rw [upd_same]
    unfold linesN strsV
    rw [List.map_append (l₂ := [rowS "plan" pl])]
    rfl

/-- data of nothing and whole numbers, in tuples -/
def NumD : Nat → PyData → Prop
  | 0, _ => False
  | _ + 1, .none => True
  | _ + 1, .int _ => True
  | n + 1, .tuple ds => ds.length ≤ 100 ∧ ∀ x ∈ ds, NumD n x
  | _ + 1, _ => False
theorem isi_ti {K : PySem.W.Frag} {H : Hp} {Q : VK} {a : Addr} {xs : List V} (t : SqT K H a xs) (h : Q (.bl false) H) : rIsi K [.ref a, .ty "int"] H Q := by
  rcases t with (t | ⟨o, t⟩) | ⟨o, its, n, e, c, _⟩
  · exact ⟨.ref a, .ty "int", .type "tuple", .type "int", false, rfl, .ty _, .base (.tup t), kit_ty (by decide +kernel), h⟩
  · exact ⟨.ref a, .ty "int", .type "tuple", .type "int", false, rfl, .ty _, .fTuple t, kit_ty (by decide +kernel), h⟩
  · exact ⟨.ref a, .ty "int", .type "tuple", .type "int", false, rfl, .ty _, .kTuple e c, kit_ty (by decide +kernel), h⟩
def spLAlike (K : PySem.W.Frag) (n : Nat) : Sp := fun vs H Q _ => ∃ (v u : V) (d : PyData), vs = [v, u] ∧ Td K H v d ∧ Td K H u d ∧ NumD n d ∧ ∀ H', Ext [] H H' → Q (.bl true) H'
theorem laZero {K : PySem.W.Frag} {vs : List V} {H : Hp} {Q : VK} {E : XK} (h : spLAlike K 0 vs H Q E) : False := let ⟨_, _, _, _, _, _, z, _⟩ := h; z
theorem tdLen {K : PySem.W.Frag} {H : Hp} : ∀ {vs : List V} {ds : List PyData}, TdAll K H vs ds → vs.length = ds.length
  | _, _, .nil => rfl
  | _, _, .cons _ t => congrArg (· + 1) (tdLen t)
theorem tdGet {K : PySem.W.Frag} {H : Hp} : ∀ {vs : List V} {ds : List PyData} {i : Nat}, TdAll K H vs ds → (hi : i < ds.length) → ∃ v, vs[i]? = some v ∧ Td K H v ds[i]
  | _, _, 0, .cons a _, _ => ⟨_, rfl, a⟩
  | _, _, i + 1, .cons _ t, hi => tdGet (i := i) t (Nat.lt_of_succ_lt_succ hi)
theorem ok__law_alike (T : Facts A K mg base) (n : Nat) : FnOk P w K mg base CX0 (2 + n) A.a__law_alike A.d__law_alike ["_law_found", "_law_due"] (spLAlike K n) := by
  induction n with
  | zero => exact ⟨fun vs H Q E h => (laZero h).elim, fun _ _ _ _ _ _ _ _ _ _ _ _ _ h => (laZero h).elim⟩
  | succ n ih =>
    refine FnOk.mono (j := (2 + n) + 1) ?_ (by omega)
    have hk0 := trivial
    refine T.F__law_alike.ok sc__law_alike (fun vs H Q E h => ?_) (fun cdv A1 outer s H vs Q E hr h => ?_)
    · obtain ⟨v, u, d, rfl, _⟩ := h
      rfl
    · obtain ⟨v, u, d, rfl, tv, tu, nd, q⟩ := h
      refine ⟨_, PSs.nox (pss_cons (ps_if (pt_cmpR op_isN (pv 1) pe_non (nomark _)) (pss_one (ps_ret (pe_cmpR op_isN (pv 0) pe_non (nomark _)))) pss_nil)
      (pss_cons (ps_if (pt_val (pe_callB call_isi (by rfl) T.n_isinstance PyProof.Rows.boot_isinstance (pa_cons (pv 1) (pa_cons (pe_bltn (v := .ty "int") (by rfl) T.n_int (by decide +kernel) rfl) pa_nil)))) (pss_one (ps_ret (pe_and (pe_call (ok__law_whole T) (hr.mono (by omega)) (by rfl) T.g__law_whole T.F__law_whole.kp T.b__law_whole .nil pass0 (pa_cons (pv 0) pa_nil)) (pe_one (pe_cmpR op_eq (pv 0) (pv 1) (nomark _)))))) pss_nil)
      (pss_cons (ps_if (PW.pt (pw_or (pt_not (pt_val (pe_callB call_isi (by rfl) T.n_isinstance PyProof.Rows.boot_isinstance (pa_cons (pv 0) (pa_cons (pe_bltn (v := .ty "tuple") (by rfl) T.n_tuple (by decide +kernel) rfl) pa_nil))))) (pw_or1 (pt_cmpR op_ne (pe_callB call_len_seq (by rfl) T.n_len PySem.boot_len (pa_cons (pv 0) pa_nil)) (pe_callB call_len_seq (by rfl) T.n_len PySem.boot_len (pa_cons (pv 1) pa_nil)) (nomark _))))) (pss_one (ps_ret pe_bl)) pss_nil)
      (pss_one (ps_ret (pe_cmpR (op_eqD hr.units) (pe_lc (own := [("_law_k", 2)]) (g := (gName 2)) rfl sc__law_alike.nd (pi_range1 (by rfl) T.n_range (pa_cons (pe_callB call_len_seq (by rfl) T.n_len PySem.boot_len (pa_cons (pv 1) pa_nil)) pa_nil)) (blkOk_by (own := [("_law_k", 2)]) (N := ["_law_found", "_law_due", "_law_k"]) (sc := defScope s__law_alike) (by decide +kernel)) (fun _ _ _ _ _ => (pg_name (i := 2) sc__law_alike.nd rfl (Or.inl rfl))) (fun _ _ _ _ _ => (pts_one (pt_not (pt_val (pe_call ih (hr.mono (by omega)) (by rfl) T.g__law_alike T.F__law_alike.kp T.b__law_alike .nil pass0 (pa_cons (pe_ix (ixK K rfl) (pv 0) (pv 2) (fun _ _ => rfl)) (pa_cons (pe_ix (ixK K rfl) (pv 1) (pv 2) (fun _ _ => rfl)) pa_nil))))))) (fun _ _ _ _ _ => (pv 2))) (pe_lst pa_nil) (nomark _))))))), ?_⟩
      cases tu with
      | non =>
        cases tv
        refine ⟨_, rfl, rfl, _, rfl, iteD rfl ?_⟩
        exact ⟨_, rfl, rfl, q _ Ext.refl⟩
      | int i =>
        cases tv
        refine ⟨_, rfl, rfl, _, rfl, iteDn (by simp) ?_⟩
        refine ⟨_, rfl, tc1 (isi_ii ⟨_, rfl, iteT ?_⟩)⟩
        refine ⟨_, rfl, i, rfl, ⟨_, rfl, _, rfl, _, rfl, rfl, ?_⟩⟩
        rw [decide_eq_true rfl]
        exact q _ Ext.refl
      | bl b => exact nd.elim
      | str z => exact nd.elim
      | @tup a xs ds h1 h2 =>
        cases tv with
        | @tup a2 xs2 _ k1 k2 =>
          have l1 := tdLen h2
          have l2 := tdLen k2
          obtain ⟨n100, nds⟩ := nd
          refine ⟨_, rfl, rfl, _, rfl, iteDn (by simp) ?_⟩
          refine ⟨_, rfl, tc1 (isi_ti h1 ⟨_, rfl, iteF ?_⟩)⟩
          refine ⟨_, rfl, tc1 (isi_tt k1 ⟨_, rfl, ?_⟩)⟩
          refine ⟨_, rfl, _, _, rfl, .inr k1, _, rfl, _, _, rfl, .inr h1, rfl, ?_⟩
          refine ⟨_, rfl, iteNS (by rw [l2, ← l1]) ?_⟩
          refine ⟨_, rfl, _, _, rfl, .inr h1, _, rfl, by omega, by omega, fun M hM => lc_range (lo := 0) (n := xs.length) (fun m H5 => Ext [] H H5 ∧ H5 M = some (.lst [])) ⟨Ext.new hM, upd_same⟩ (fun m H5 hm z => ?_) (fun H5 z => ?_)⟩
          · obtain ⟨e5, hM5⟩ := z
            have hm2 : m < ds.length := by omega
            rw [show (0 : Int) + (m : Int) = (m : Int) from Int.zero_add _]
            obtain ⟨v1, hv1, td1⟩ := tdGet k2 hm2
            obtain ⟨u1, hu1, td2⟩ := tdGet h2 hm2
            refine ⟨rfl, _, rfl, _, rfl, .inr (.inl ⟨a2, _, _, _, rfl, rfl, e5.sqT k1, atI_nat hv1, _, rfl, _, rfl, .inr (.inl ⟨a, _, _, _, rfl, rfl, e5.sqT h1, atI_nat hu1, v1, u1, _, rfl, e5.td td1, e5.td td2, nds _ (List.getElem_mem hm2), fun H6 e6 => ?_⟩)⟩)⟩
            refine ⟨_, rfl, iteF ⟨e5.trans e6, e6.lst M _ (by simp) hM5⟩⟩
          obtain ⟨e5, hM5⟩ := z
          refine ⟨Nat.zero_le _, fun E0 hE0 => ?_⟩
          have e6 := Ext.new (ex := []) (o := .lst []) hE0
          have sh := shaped_at (n := 1) (d := .list []) ⟨rfl, by decide⟩ (by decide)
          refine ⟨.list [], .list [], .lst (.inl (.inl (e6.lst M _ (by simp) hM5))) .nil, .lst (.inl (.inl upd_same)) .nil, sh, sh, ?_⟩
          exact q _ (e5.trans e6)

theorem numInts (n : Nat) : ∀ zs : List Int, ∀ x ∈ zs.map PyData.int, NumD (n + 1) x := fun zs x hx => by
  obtain ⟨z, _, rfl⟩ := List.mem_map.mp hx
  trivial
theorem numStretch {s : Stretch} (ok : s.Ok) : NumD 3 (stretchD s) := by
  refine ⟨by simp, fun x hx => ?_⟩
  have d24 := ok.d24
  simp only [List.mem_cons, List.not_mem_nil, or_false] at hx
  rcases hx with rfl | rfl | rfl
  · trivial
  · trivial
  · exact ⟨by rw [List.length_map]; omega, numInts 0 _⟩
theorem numBarge (b : Barge) : NumD 3 (bargeD b) := by
  refine ⟨by simp, fun x hx => ?_⟩
  simp only [List.mem_cons, List.not_mem_nil, or_false] at hx
  rcases hx with rfl | rfl | rfl | rfl | rfl <;> trivial
theorem numPair {k : Book} {pl : List (Option Int)} (ok : k.Ok) (okp : PlOk k.bs.length pl) : NumD 6 (pairD k pl) := by
  have n7 := ok.n7
  have n8 := ok.rv.n8
  have lp := okp.len
  refine ⟨by simp, fun x hx => ?_⟩
  simp only [List.mem_cons, List.not_mem_nil, or_false] at hx
  rcases hx with rfl | rfl
  · refine ⟨by simp, fun y hy => ?_⟩
    simp only [List.mem_cons, List.not_mem_nil, or_false] at hy
    rcases hy with rfl | rfl
    · refine ⟨by rw [List.length_map]; omega, fun z hz => ?_⟩
      obtain ⟨s, hs, rfl⟩ := List.mem_map.mp hz
      exact numStretch (ok.rv.ok s hs)
    · refine ⟨by rw [List.length_map]; omega, fun z hz => ?_⟩
      obtain ⟨s, hs, rfl⟩ := List.mem_map.mp hz
      exact numBarge s
  · refine ⟨by rw [List.length_map]; omega, fun z hz => ?_⟩
    obtain ⟨o, _, rfl⟩ := List.mem_map.mp hz
    cases o <;> trivial
def greatDs : List Int := (List.replicate 8 [(0 : Int), 99, 10]).flatten
def greatB : Book := ⟨[⟨9, 9, greatDs⟩, ⟨1, 1, [0]⟩], [⟨0, 2, 99, 99, 199⟩, ⟨1, 2, 1, 0, 0⟩]⟩
theorem greatB_ok : greatB.Ok where
  rv := ⟨by decide, by decide, fun s hs => by
    simp only [greatB, List.mem_cons, List.not_mem_nil, or_false] at hs
    rcases hs with rfl | rfl
    · exact ⟨by decide, by decide, by decide, by decide, by decide, by decide, by decide⟩
    · exact ⟨by decide, by decide, by decide, by decide, by decide, by decide, by decide⟩⟩
  n7 := by decide
  ok := fun b hb => by
    simp only [greatB, List.mem_cons, List.not_mem_nil, or_false] at hb
    rcases hb with rfl | rfl
    · exact ⟨by decide, by decide, by decide, by decide, by decide, by decide, by decide, by decide, by decide⟩
    · exact ⟨by decide, by decide, by decide, by decide, by decide, by decide, by decide, by decide, by decide⟩
/-- what is told of: a pair of a book and a plan -/
def IsTold (K : PySem.W.Frag) (H : Hp) (x : V) : Prop := ∃ (t : Addr) (b p : V) (k : Book) (pl : List (Option Int)), x = .ref t ∧ SqT K H t [b, p] ∧ IsBook K H b k ∧ k.Ok ∧ IsPlan K H p pl ∧ PlOk k.bs.length pl
theorem toldExt {ex : List Addr} {H H1 : Hp} {K : PySem.W.Frag} {x : V} (e : Ext ex H H1) (h : IsTold K H x) : IsTold K H1 x := let ⟨t, b, p, k, pl, h1, h2, h3, h4, h5, h6⟩ := h; ⟨t, b, p, k, pl, h1, e.sqT h2, e.book h3, h4, e.plan h5, h6⟩
def spLaw (A : Ad) (K : PySem.W.Frag) : Sp := fun vs H Q _ => ∃ (a : Addr) (ns : List Int), vs = [.ref a] ∧ SqL K H a (ns.map V.int) ∧ ns.length ≤ 63 ∧ Tabs A H ∧ ∀ H', Q (.bl true) H'
theorem ok_law (T : Facts A K mg base) : FnOk P w K mg base CX0 9 A.a_law A.d_law ["_law_script"] (spLaw A K) := by
  refine T.F_law.ok sc_law (fun vs H Q E h => ?_) (fun cdv A1 outer s H vs Q E hr h => ?_)
  · obtain ⟨a, ns, rfl, _⟩ := h
    rfl
  · obtain ⟨a, ns, rfl, hS, hlen, tb, q⟩ := h
    refine ⟨_, PSs.nox (pss_cons (ps_set (i := 1) sc_law.nd rfl (Or.inl rfl) (pe_call (ok__law_book T) (hr.mono (by decide)) (by rfl) T.g__law_book T.F__law_book.kp T.b__law_book .nil pass0 (pa_cons (pv 0) (pa_cons pe_int pa_nil))))
      (pss_cons (ps_set (i := 2) sc_law.nd rfl (Or.inl rfl) (pe_call (ok__law_plan T) (hr.mono (by decide)) (by rfl) T.g__law_plan T.F__law_plan.kp T.b__law_plan .nil pass0 (pa_cons (pv 0) (pa_cons (pe_callB call_len_seq (by rfl) T.n_len PySem.boot_len (pa_cons (pe_ix ix_seq (pv 1) pe_int (fun _ _ => rfl)) pa_nil)) pa_nil))))
      (pss_cons (ps_set (i := 3) sc_law.nd rfl (Or.inl rfl) (pe_tup (pa_cons (pe_tup (pa_cons (pe_tup (pa_cons pe_int (pa_cons pe_int (pa_cons (pe_op op_repT (pe_tup (pa_cons pe_int (pa_cons pe_int (pa_cons pe_int pa_nil)))) pe_int) pa_nil)))) (pa_cons (pe_tup (pa_cons pe_int (pa_cons pe_int (pa_cons (pe_tup (pa_cons pe_int pa_nil)) pa_nil)))) pa_nil))) (pa_cons (pe_tup (pa_cons (pe_tup (pa_cons pe_int (pa_cons pe_int (pa_cons pe_int (pa_cons pe_int (pa_cons pe_int pa_nil)))))) (pa_cons (pe_tup (pa_cons pe_int (pa_cons pe_int (pa_cons pe_int (pa_cons pe_int (pa_cons pe_int pa_nil)))))) pa_nil))) pa_nil))))
      (pss_cons (ps_for PassesOwn.never rfl (pi_list (pe_lst (pa_cons (pe_tup (pa_cons (pv 1) (pa_cons (pv 2) pa_nil))) (pa_cons (pe_tup (pa_cons (pv 3) (pa_cons (pe_tup (pa_cons pe_int (pa_cons pe_non pa_nil))) pa_nil))) (pa_cons (pe_tup (pa_cons (pv 1) (pa_cons (pv 2) pa_nil))) pa_nil))))) (pg_name (i := 4) sc_law.nd rfl (Or.inl rfl)) (pss_one (ps_if (pt_not (pt_val (pe_call (ok__law_alike T 6) (hr.mono (by decide)) (by rfl) T.g__law_alike T.F__law_alike.kp T.b__law_alike .nil pass0 (pa_cons (pe_call (ok_read T) (hr.mono (by decide)) (by rfl) T.g_read T.F_read.kp T.b_read .nil pass0 (pa_cons (pe_call (ok__law_text T) (hr.mono (by decide)) (by rfl) T.g__law_text T.F__law_text.kp T.b__law_text .nil pass0 (pa_cons (pe_ix ix_seq (pv 4) pe_int (fun _ _ => rfl)) (pa_cons (pe_ix ix_seq (pv 4) pe_int (fun _ _ => rfl)) pa_nil))) pa_nil)) (pa_cons (pv 4) pa_nil))))) (pss_one (ps_ret pe_bl)) pss_nil)))
      (pss_one (ps_ret pe_bl)))))), ?_⟩
    refine ⟨_, rfl, a, ns, 7, rfl, hS, by omega, fun v k H0 ok hb e0 ib => ?_⟩
    obtain ⟨ka, r, b, rfl, t0, ir, ⟨ba, bs, rfl, t2, pb⟩⟩ := id ib
    have lb := plen pb
    refine ⟨_, rfl, _, rfl, .inr (.inl ⟨ka, _, 1, _, rfl, rfl, t0, atI_nat (j := 1) rfl, ba, bs, rfl, .inr t2, ?_⟩)⟩
    refine ⟨a, ns, bs.length, rfl, e0.sqL (by simp) hS, by omega, fun u pl H1 okp e1 ip => ?_⟩
    rw [lb] at okp
    have tb1 := tb.ext (e0.trans e1)
    have ib1 := e1.book ib
    -- the great book
    refine ⟨by show 3 ≤ sizeLine; decide, fun g1 hg1 => ?_⟩
    refine ⟨g1, 8, _, rfl, rfl, sqT_new, by simp, by decide, by decide, by simp, fun g2 hg2 => ?_⟩
    refine ⟨by show 3 ≤ sizeLine; decide, fun g3 hg3 => ?_⟩
    refine ⟨by show 1 ≤ sizeLine; decide, fun g4 hg4 => ?_⟩
    refine ⟨by show 3 ≤ sizeLine; decide, fun g5 hg5 => ?_⟩
    refine ⟨by show 2 ≤ sizeLine; decide, fun g6 hg6 => ?_⟩
    refine ⟨by show 5 ≤ sizeLine; decide, fun g7 hg7 => ?_⟩
    refine ⟨by show 5 ≤ sizeLine; decide, fun g8 hg8 => ?_⟩
    refine ⟨by show 2 ≤ sizeLine; decide, fun g9 hg9 => ?_⟩
    refine ⟨by show 2 ≤ sizeLine; decide, fun gg hgg => ?_⟩
    have x1 := Ext.new (ex := []) (o := .tup [.int 0, .int 99, .int 10]) hg1
    have x2 := Ext.new (ex := []) (o := .tup (List.replicate (8 : Int).toNat [V.int 0, V.int 99, V.int 10]).flatten) hg2
    have x3 := Ext.new (ex := []) (o := .tup [.int 9, .int 9, .ref g2]) hg3
    have x4 := Ext.new (ex := []) (o := .tup [.int 0]) hg4
    have x5 := Ext.new (ex := []) (o := .tup [.int 1, .int 1, .ref g4]) hg5
    have x6 := Ext.new (ex := []) (o := .tup [.ref g3, .ref g5]) hg6
    have x7 := Ext.new (ex := []) (o := .tup [.int 0, .int 2, .int 99, .int 99, .int 199]) hg7
    have x8 := Ext.new (ex := []) (o := .tup [.int 1, .int 2, .int 1, .int 0, .int 0]) hg8
    have x9 := Ext.new (ex := []) (o := .tup [.ref g7, .ref g8]) hg9
    have xg := Ext.new (ex := []) (o := .tup [.ref g6, .ref g9]) hgg
    have y9 := x9.trans xg
    have y8 := x8.trans y9
    have y7 := x7.trans y8
    have y6 := x6.trans y7
    have y5 := x5.trans y6
    have y4 := x4.trans y5
    have y3 := x3.trans y4
    have ig : IsBook K _ (.ref gg) greatB := ⟨gg, .ref g6, .ref g9, rfl, sqT_new, ⟨g6, [.ref g3, .ref g5], rfl, y7.sqT sqT_new, .cons ⟨g3, g2, rfl, y4.sqT sqT_new, y3.sqT sqT_new⟩ (.cons ⟨g5, g4, rfl, y6.sqT sqT_new, y5.sqT sqT_new⟩ .nil)⟩, ⟨g9, [.ref g7, .ref g8], rfl, xg.sqT sqT_new, .cons ⟨g7, rfl, y8.sqT sqT_new⟩ (.cons ⟨g8, rfl, y9.sqT sqT_new⟩ .nil)⟩⟩
    have eg := x1.trans (x2.trans y3)
    generalize upd (upd (upd (upd (upd (upd (upd (upd (upd (upd H1 g1 _) g2 _) g3 _) g4 _) g5 _) g6 _) g7 _) g8 _) g9 _) gg _ = HG at ig eg ⊢
    -- what is told of
    refine ⟨_, rfl, _, rfl, by show 2 ≤ sizeLine; decide, fun t1 ht1 => ?_⟩
    have z1 := Ext.new (ex := []) (o := .tup [.ref ka, u]) ht1
    refine ⟨_, rfl, by show 2 ≤ sizeLine; decide, fun t2 ht2 => ?_⟩
    have z2 := Ext.new (ex := []) (o := .tup [.int 11, .non]) ht2
    refine ⟨by show 2 ≤ sizeLine; decide, fun t3 ht3 => ?_⟩
    have z3 := Ext.new (ex := []) (o := .tup [.ref gg, .ref t2]) ht3
    refine ⟨_, rfl, _, rfl, by show 2 ≤ sizeLine; decide, fun t4 ht4 => ?_⟩
    have z4 := Ext.new (ex := []) (o := .tup [.ref ka, u]) ht4
    refine ⟨by show 3 ≤ sizeLine; decide, fun L hL => ?_⟩
    have zL := Ext.new (ex := []) (o := .lst [.ref t1, .ref t3, .ref t4]) hL
    have okg : PlOk greatB.bs.length [some 11, none] := ⟨rfl, fun h hh => by
      simp only [List.mem_cons, List.not_mem_nil, or_false, Option.some.injEq, reduceCtorEq] at hh
      subst hh
      exact ⟨by decide, by decide⟩⟩
    have w1 : IsTold K _ (.ref t1) := ⟨t1, .ref ka, u, k, pl, rfl, sqT_new, (eg.trans z1).book ib1, ok, (eg.trans z1).plan ip, okp⟩
    have w3 : IsTold K _ (.ref t3) := ⟨t3, .ref gg, .ref t2, greatB, [some 11, none], rfl, sqT_new, (z1.trans (z2.trans z3)).book ig, greatB_ok, ⟨t2, rfl, z3.sqT sqT_new⟩, okg⟩
    have ez := eg.trans (z1.trans (z2.trans (z3.trans z4)))
    have w4 : IsTold K _ (.ref t4) := ⟨t4, .ref ka, u, k, pl, rfl, sqT_new, ez.book ib1, ok, ez.plan ip, okp⟩
    have hall : ∀ x ∈ [V.ref t1, .ref t3, .ref t4], IsTold K _ x := fun x hx => by
      simp only [List.mem_cons, List.not_mem_nil, or_false] at hx
      rcases hx with rfl | rfl | rfl
      · exact toldExt (z2.trans (z3.trans (z4.trans zL))) w1
      · exact toldExt (z4.trans zL) w3
      · exact toldExt zL w4
    have eH := ez.trans zL
    refine ⟨L, rfl, ⟨_, .inl (.inl upd_same)⟩, for_list (xs := [.ref t1, .ref t3, .ref t4]) (fun j σ H5 => ∃ (y4 : Option V), σ = [some (.ref a), some (.ref ka), some u, some (.ref gg), y4] ∧ Ext [] (upd _ L (.lst [.ref t1, .ref t3, .ref t4])) H5)
      ⟨_, rfl, Ext.refl⟩ (fun j σ H5 _ z => ?_) (fun j x σ H5 hx z => ?_) (fun σ H5 z => q _)⟩
    · obtain ⟨_, _, e⟩ := z
      exact .inl (.inl (e.lst L _ (by simp) upd_same))
    · obtain ⟨y4, rfl, e5⟩ := z
      obtain ⟨t, b', p', k', pl', rfl, h2, h3, ok', h5, okp'⟩ := toldExt e5 (hall x (List.mem_of_getElem? hx))
      refine ⟨_, rfl, .inr (.inl ⟨t, _, 0, _, rfl, rfl, h2, atI_nat (j := 0) rfl, _, rfl, .inr (.inl ⟨t, _, 1, _, rfl, rfl, h2, atI_nat (j := 1) rfl, ?_⟩)⟩)⟩
      refine ⟨b', p', k', pl', rfl, h3, ok', h5, okp', fun H6 e6 => ?_⟩
      refine ⟨k', pl', rfl, ok', okp', tb1.ext (eH.trans (e5.trans e6)), fun H7 p7 e7 td => ?_⟩
      have f7 := e6.trans e7
      refine ⟨_, rfl, .ref p7, .ref t, _, rfl, td, .tup (f7.sqT h2) (.cons (f7.book h3).td (.cons (f7.plan h5).td .nil)), numPair ok' okp', fun H8 e8 => ?_⟩
      exact ⟨_, rfl, iteF ⟨_, rfl, e5.trans (f7.trans e8)⟩⟩

end
/-! ### the head -/
def dd_is_number : He.DefD := ⟨("is_number", none), "is_number", "is_number", defArgs s_is_number, defBody s_is_number, defScope s_is_number, [], []⟩
def dd_is_row : He.DefD := ⟨("is_row", none), "is_row", "is_row", defArgs s_is_row, defBody s_is_row, defScope s_is_row, [], []⟩
def dd_is_stretch : He.DefD := ⟨("is_stretch", none), "is_stretch", "is_stretch", defArgs s_is_stretch, defBody s_is_stretch, defScope s_is_stretch, [], []⟩
def dd_is_ready : He.DefD := ⟨("is_ready", none), "is_ready", "is_ready", defArgs s_is_ready, defBody s_is_ready, defScope s_is_ready, [], []⟩
def dd_is_barge : He.DefD := ⟨("is_barge", none), "is_barge", "is_barge", defArgs s_is_barge, defBody s_is_barge, defScope s_is_barge, [], []⟩
def dd_check_book : He.DefD := ⟨("check_book", none), "check_book", "check_book", defArgs s_check_book, defBody s_check_book, defScope s_check_book, [], []⟩
def dd_check_plan : He.DefD := ⟨("check_plan", none), "check_plan", "check_plan", defArgs s_check_plan, defBody s_check_plan, defScope s_check_plan, [], []⟩
def dd_number_of : He.DefD := ⟨("number_of", none), "number_of", "number_of", defArgs s_number_of, defBody s_number_of, defScope s_number_of, [], []⟩
def dd_stretch_of : He.DefD := ⟨("stretch_of", none), "stretch_of", "stretch_of", defArgs s_stretch_of, defBody s_stretch_of, defScope s_stretch_of, [], []⟩
def dd_barge_of : He.DefD := ⟨("barge_of", none), "barge_of", "barge_of", defArgs s_barge_of, defBody s_barge_of, defScope s_barge_of, [], []⟩
def dd_hour_of : He.DefD := ⟨("hour_of", none), "hour_of", "hour_of", defArgs s_hour_of, defBody s_hour_of, defScope s_hour_of, [], []⟩
def dd_read : He.DefD := ⟨("read", none), "read", "read", defArgs s_read, defBody s_read, defScope s_read, [], []⟩
def dd__law_cell_at : He.DefD := ⟨("_law_cell_at", none), "_law_cell_at", "_law_cell_at", defArgs s__law_cell_at, defBody s__law_cell_at, defScope s__law_cell_at, [], []⟩
def dd__law_dice : He.DefD := ⟨("_law_dice", none), "_law_dice", "_law_dice", defArgs s__law_dice, defBody s__law_dice, defScope s__law_dice, [], []⟩
def dd__law_roll : He.DefD := ⟨("_law_roll", none), "_law_roll", "_law_roll", defArgs s__law_roll, defBody s__law_roll, defScope s__law_roll, [], []⟩
def dd__law_whole : He.DefD := ⟨("_law_whole", none), "_law_whole", "_law_whole", defArgs s__law_whole, defBody s__law_whole, defScope s__law_whole, [], []⟩
def dd__law_river : He.DefD := ⟨("_law_river", none), "_law_river", "_law_river", defArgs s__law_river, defBody s__law_river, defScope s__law_river, [], []⟩
def dd__law_time : He.DefD := ⟨("_law_time", none), "_law_time", "_law_time", defArgs s__law_time, defBody s__law_time, defScope s__law_time, [], []⟩
def dd__law_barges : He.DefD := ⟨("_law_barges", none), "_law_barges", "_law_barges", defArgs s__law_barges, defBody s__law_barges, defScope s__law_barges, [], []⟩
def dd__law_book : He.DefD := ⟨("_law_book", none), "_law_book", "_law_book", defArgs s__law_book, defBody s__law_book, defScope s__law_book, [], []⟩
def dd__law_plan : He.DefD := ⟨("_law_plan", none), "_law_plan", "_law_plan", defArgs s__law_plan, defBody s__law_plan, defScope s__law_plan, [], []⟩
def dd__law_text : He.DefD := ⟨("_law_text", none), "_law_text", "_law_text", defArgs s__law_text, defBody s__law_text, defScope s__law_text, [], []⟩
def dd__law_alike : He.DefD := ⟨("_law_alike", none), "_law_alike", "_law_alike", defArgs s__law_alike, defBody s__law_alike, defScope s__law_alike, [], []⟩
def dd_law : He.DefD := ⟨("law", none), "law", "law", defArgs s_law, defBody s_law, defScope s_law, [], []⟩
def hfn : List He.DefD := dd_is_number :: dd_is_row :: dd_is_stretch :: dd_is_ready :: dd_is_barge :: dd_check_book :: dd_check_plan :: dd_number_of :: dd_stretch_of :: dd_barge_of :: dd_hour_of :: dd_read :: dd__law_cell_at :: dd__law_dice :: dd__law_roll :: dd__law_whole :: dd__law_river :: dd__law_time :: dd__law_barges :: dd__law_book :: dd__law_plan :: dd__law_text :: dd__law_alike :: dd_law :: []
def hfa : List He.Fa := (.glo "is_number" : He.Fa) :: (.glo "is_row" : He.Fa) :: (.glo "is_stretch" : He.Fa) :: (.glo "is_ready" : He.Fa) :: (.glo "is_barge" : He.Fa) :: (.glo "check_book" : He.Fa) :: (.glo "check_plan" : He.Fa) :: (.glo "number_of" : He.Fa) :: (.glo "stretch_of" : He.Fa) :: (.glo "barge_of" : He.Fa) :: (.glo "hour_of" : He.Fa) :: (.glo "read" : He.Fa) :: (.glo "_law_cell_at" : He.Fa) :: (.glo "_law_dice" : He.Fa) :: (.glo "_law_roll" : He.Fa) :: (.glo "_law_whole" : He.Fa) :: (.glo "_law_river" : He.Fa) :: (.glo "_law_time" : He.Fa) :: (.glo "_law_barges" : He.Fa) :: (.glo "_law_book" : He.Fa) :: (.glo "_law_plan" : He.Fa) :: (.glo "_law_text" : He.Fa) :: (.glo "_law_alike" : He.Fa) :: (.glo "law" : He.Fa) :: (.free "all" : He.Fa) :: (.free "bool" : He.Fa) :: (.free "int" : He.Fa) :: (.free "isinstance" : He.Fa) :: (.free "len" : He.Fa) :: (.free "max" : He.Fa) :: (.free "range" : He.Fa) :: (.free "str" : He.Fa) :: (.free "sum" : He.Fa) :: (.free "tuple" : He.Fa) :: (.int "HOURS" 12 : He.Fa) :: (.str "FIGURES" "0123456789" : He.Fa) :: []
def htf : List He.Defn := (("is_stretch", none) : He.Defn) :: (("check_book", none) : He.Defn) :: (("check_plan", none) : He.Defn) :: (("number_of", none) : He.Defn) :: []
abbrev RR : PySem.W.OpenRow := PySem.W.OpenLaw.row PySem.Challenge.rw_towbarges_k17_read_back
def hex : PySem.W.Frag → Bool := (fun _ => true)
abbrev hk : PySem.W.Hook := He.hookX 4 hfa hfn [] htf hex
def hob (s : PySem.W.SharedT) : He.AlX := He.obsX 4 hfa hfn [] htf hex (HandSHeadRun.getT s)
theorem hob_eq (s : PySem.W.SharedT) : hob s = hk.obs s.abs := He.obsX_eq (HandSHeadRun.getT_eq s)
def hloose : List PySem.Str := ("is_number" : PySem.Str) :: ("is_row" : PySem.Str) :: ("is_stretch" : PySem.Str) :: ("is_ready" : PySem.Str) :: ("is_barge" : PySem.Str) :: ("check_book" : PySem.Str) :: ("check_plan" : PySem.Str) :: ("number_of" : PySem.Str) :: ("stretch_of" : PySem.Str) :: ("barge_of" : PySem.Str) :: ("hour_of" : PySem.Str) :: ("read" : PySem.Str) :: ("_law_cell_at" : PySem.Str) :: ("_law_dice" : PySem.Str) :: ("_law_roll" : PySem.Str) :: ("_law_whole" : PySem.Str) :: ("_law_river" : PySem.Str) :: ("_law_time" : PySem.Str) :: ("_law_barges" : PySem.Str) :: ("_law_book" : PySem.Str) :: ("_law_plan" : PySem.Str) :: ("_law_text" : PySem.Str) :: ("_law_alike" : PySem.Str) :: ("TowError" : PySem.Str) :: ("BadBook" : PySem.Str) :: ("BadPlan" : PySem.Str) :: ("BadText" : PySem.Str) :: ("HOURS" : PySem.Str) :: ("FIGURES" : PySem.Str) :: []
set_option maxHeartbeats 0 in
theorem hrun (w : World) : HandSHeadRun.RunEq RR (PySem.W.view RR.prog [33]) hk hob 6000 hloose w := by
  intro os
  kernel_rfl
theorem code_of {K : PySem.W.Frag} {x q : Str} {pa : Arguments} {bd : List Stmt} {sc : Scope} {p : He.Defn} {fd : FuncData} (F : FunD K x q pa bd sc [] [] (He.fAd K p) fd) : fd.code = .ref (He.cT K p).1 := by
  obtain ⟨oc, od, dV, kV, doc, pm, an, cdv, ct, osl, rfl, lk, hcd, _, _⟩ := F.ex
  obtain ⟨c, rfl⟩ := He.codeIn_ref hcd
  show Value.ref c = .ref (He.codeOf K p)
  rw [He.codeOf_eq lk rfl]
theorem hfacts {w : World} {K : PySem.W.Frag} {h : Heap} {mg : Str → Option Value} (X : K.In h) (G : h.Ns mainGlobals mg) (c : He.SaysX hfa hfn [] htf hex w h K) :
    ∃ A : Ad, A.a_law = He.ga K "law" ∧ (A.k_is_stretch = He.cT K ("is_stretch", none) ∧ A.k_check_book = He.cT K ("check_book", none) ∧ A.k_check_plan = He.cT K ("check_plan", none) ∧ A.k_number_of = He.cT K ("number_of", none)) ∧ (∀ (s : Shared) (v : Value), BindsTo s A.d_law ⟨[v], []⟩ [("_law_script", v)]) ∧ ∀ base : Heap, GxR.TabB base mg (He.cT K ("is_stretch", none)).1 (He.cT K ("is_stretch", none)).2 → GxR.TabB base mg (He.cT K ("check_book", none)).1 (He.cT K ("check_book", none)).2 → GxR.TabB base mg (He.cT K ("check_plan", none)).1 (He.cT K ("check_plan", none)).2 → GxR.TabB base mg (He.cT K ("number_of", none)).1 (He.cT K ("number_of", none)).2 → Facts A K mg base := by
  have cd : He.SaysD hfa hfn K := congrArg (fun z : He.AlT => z.1) c.t
  obtain ⟨fd_is_number, F_is_number⟩ := cd.defs (d := dd_is_number) (by unfold hfn; simp)
  obtain ⟨fd_is_row, F_is_row⟩ := cd.defs (d := dd_is_row) (by unfold hfn; simp)
  obtain ⟨fd_is_stretch, F_is_stretch⟩ := cd.defs (d := dd_is_stretch) (by unfold hfn; simp)
  obtain ⟨fd_is_ready, F_is_ready⟩ := cd.defs (d := dd_is_ready) (by unfold hfn; simp)
  obtain ⟨fd_is_barge, F_is_barge⟩ := cd.defs (d := dd_is_barge) (by unfold hfn; simp)
  obtain ⟨fd_check_book, F_check_book⟩ := cd.defs (d := dd_check_book) (by unfold hfn; simp)
  obtain ⟨fd_check_plan, F_check_plan⟩ := cd.defs (d := dd_check_plan) (by unfold hfn; simp)
  obtain ⟨fd_number_of, F_number_of⟩ := cd.defs (d := dd_number_of) (by unfold hfn; simp)
  obtain ⟨fd_stretch_of, F_stretch_of⟩ := cd.defs (d := dd_stretch_of) (by unfold hfn; simp)
  obtain ⟨fd_barge_of, F_barge_of⟩ := cd.defs (d := dd_barge_of) (by unfold hfn; simp)
  obtain ⟨fd_hour_of, F_hour_of⟩ := cd.defs (d := dd_hour_of) (by unfold hfn; simp)
  obtain ⟨fd_read, F_read⟩ := cd.defs (d := dd_read) (by unfold hfn; simp)
  obtain ⟨fd__law_cell_at, F__law_cell_at⟩ := cd.defs (d := dd__law_cell_at) (by unfold hfn; simp)
  obtain ⟨fd__law_dice, F__law_dice⟩ := cd.defs (d := dd__law_dice) (by unfold hfn; simp)
  obtain ⟨fd__law_roll, F__law_roll⟩ := cd.defs (d := dd__law_roll) (by unfold hfn; simp)
  obtain ⟨fd__law_whole, F__law_whole⟩ := cd.defs (d := dd__law_whole) (by unfold hfn; simp)
  obtain ⟨fd__law_river, F__law_river⟩ := cd.defs (d := dd__law_river) (by unfold hfn; simp)
  obtain ⟨fd__law_time, F__law_time⟩ := cd.defs (d := dd__law_time) (by unfold hfn; simp)
  obtain ⟨fd__law_barges, F__law_barges⟩ := cd.defs (d := dd__law_barges) (by unfold hfn; simp)
  obtain ⟨fd__law_book, F__law_book⟩ := cd.defs (d := dd__law_book) (by unfold hfn; simp)
  obtain ⟨fd__law_plan, F__law_plan⟩ := cd.defs (d := dd__law_plan) (by unfold hfn; simp)
  obtain ⟨fd__law_text, F__law_text⟩ := cd.defs (d := dd__law_text) (by unfold hfn; simp)
  obtain ⟨fd__law_alike, F__law_alike⟩ := cd.defs (d := dd__law_alike) (by unfold hfn; simp)
  obtain ⟨fd_law, F_law⟩ := cd.defs (d := dd_law) (by unfold hfn; simp)
  refine ⟨⟨He.ga K "is_number", fd_is_number, He.ga K "is_row", fd_is_row, He.ga K "is_stretch", fd_is_stretch, He.cT K ("is_stretch", none), He.ga K "is_ready", fd_is_ready, He.ga K "is_barge", fd_is_barge, He.ga K "check_book", fd_check_book, He.cT K ("check_book", none), He.ga K "check_plan", fd_check_plan, He.cT K ("check_plan", none), He.ga K "number_of", fd_number_of, He.cT K ("number_of", none), He.ga K "stretch_of", fd_stretch_of, He.ga K "barge_of", fd_barge_of, He.ga K "hour_of", fd_hour_of, He.ga K "read", fd_read, He.ga K "_law_cell_at", fd__law_cell_at, He.ga K "_law_dice", fd__law_dice, He.ga K "_law_roll", fd__law_roll, He.ga K "_law_whole", fd__law_whole, He.ga K "_law_river", fd__law_river, He.ga K "_law_time", fd__law_time, He.ga K "_law_barges", fd__law_barges, He.ga K "_law_book", fd__law_book, He.ga K "_law_plan", fd__law_plan, He.ga K "_law_text", fd__law_text, He.ga K "_law_alike", fd__law_alike, He.ga K "law", fd_law, He.ga K "TowError", He.ga K "BadBook", He.ga K "BadPlan", He.ga K "BadText"⟩, rfl, ⟨rfl, rfl, rfl, rfl⟩, fun s v => FunD.bindsA (ps := ["_law_script"]) F_law (fun _ _ _ _ _ _ us hl => match us, hl with | [_], _ => rfl) s [v] rfl, fun base t_is_stretch t_check_book t_check_plan t_number_of => ?_⟩
  exact {
    F_is_number := F_is_number
    g_is_number := He.glo_ok X G (cd.facts (f := .glo "is_number") (by unfold hfa; simp))
    b_is_number := F_is_number.bindsN fun _ _ _ _ _ _ us hl => match us, hl with | [_, _, _], _ => rfl
    F_is_row := F_is_row
    g_is_row := He.glo_ok X G (cd.facts (f := .glo "is_row") (by unfold hfa; simp))
    b_is_row := F_is_row.bindsN fun _ _ _ _ _ _ us hl => match us, hl with | [_, _, _], _ => rfl
    F_is_stretch := F_is_stretch
    g_is_stretch := He.glo_ok X G (cd.facts (f := .glo "is_stretch") (by unfold hfa; simp))
    b_is_stretch := F_is_stretch.bindsN fun _ _ _ _ _ _ us hl => match us, hl with | [_], _ => rfl
    h_is_stretch := code_of (p := ("is_stretch", none)) F_is_stretch
    t_is_stretch := t_is_stretch
    F_is_ready := F_is_ready
    g_is_ready := He.glo_ok X G (cd.facts (f := .glo "is_ready") (by unfold hfa; simp))
    b_is_ready := F_is_ready.bindsN fun _ _ _ _ _ _ us hl => match us, hl with | [_], _ => rfl
    F_is_barge := F_is_barge
    g_is_barge := He.glo_ok X G (cd.facts (f := .glo "is_barge") (by unfold hfa; simp))
    b_is_barge := F_is_barge.bindsN fun _ _ _ _ _ _ us hl => match us, hl with | [_, _], _ => rfl
    F_check_book := F_check_book
    g_check_book := He.glo_ok X G (cd.facts (f := .glo "check_book") (by unfold hfa; simp))
    b_check_book := F_check_book.bindsN fun _ _ _ _ _ _ us hl => match us, hl with | [_], _ => rfl
    h_check_book := code_of (p := ("check_book", none)) F_check_book
    t_check_book := t_check_book
    F_check_plan := F_check_plan
    g_check_plan := He.glo_ok X G (cd.facts (f := .glo "check_plan") (by unfold hfa; simp))
    b_check_plan := F_check_plan.bindsN fun _ _ _ _ _ _ us hl => match us, hl with | [_, _], _ => rfl
    h_check_plan := code_of (p := ("check_plan", none)) F_check_plan
    t_check_plan := t_check_plan
    F_number_of := F_number_of
    g_number_of := He.glo_ok X G (cd.facts (f := .glo "number_of") (by unfold hfa; simp))
    b_number_of := F_number_of.bindsN fun _ _ _ _ _ _ us hl => match us, hl with | [_], _ => rfl
    h_number_of := code_of (p := ("number_of", none)) F_number_of
    t_number_of := t_number_of
    F_stretch_of := F_stretch_of
    g_stretch_of := He.glo_ok X G (cd.facts (f := .glo "stretch_of") (by unfold hfa; simp))
    b_stretch_of := F_stretch_of.bindsN fun _ _ _ _ _ _ us hl => match us, hl with | [_], _ => rfl
    F_barge_of := F_barge_of
    g_barge_of := He.glo_ok X G (cd.facts (f := .glo "barge_of") (by unfold hfa; simp))
    b_barge_of := F_barge_of.bindsN fun _ _ _ _ _ _ us hl => match us, hl with | [_], _ => rfl
    F_hour_of := F_hour_of
    g_hour_of := He.glo_ok X G (cd.facts (f := .glo "hour_of") (by unfold hfa; simp))
    b_hour_of := F_hour_of.bindsN fun _ _ _ _ _ _ us hl => match us, hl with | [_], _ => rfl
    F_read := F_read
    g_read := He.glo_ok X G (cd.facts (f := .glo "read") (by unfold hfa; simp))
    b_read := F_read.bindsN fun _ _ _ _ _ _ us hl => match us, hl with | [_], _ => rfl
    F__law_cell_at := F__law_cell_at
    g__law_cell_at := He.glo_ok X G (cd.facts (f := .glo "_law_cell_at") (by unfold hfa; simp))
    b__law_cell_at := F__law_cell_at.bindsN fun _ _ _ _ _ _ us hl => match us, hl with | [_, _], _ => rfl
    F__law_dice := F__law_dice
    g__law_dice := He.glo_ok X G (cd.facts (f := .glo "_law_dice") (by unfold hfa; simp))
    b__law_dice := F__law_dice.bindsN fun _ _ _ _ _ _ us hl => match us, hl with | [_], _ => rfl
    F__law_roll := F__law_roll
    g__law_roll := He.glo_ok X G (cd.facts (f := .glo "_law_roll") (by unfold hfa; simp))
    b__law_roll := F__law_roll.bindsN fun _ _ _ _ _ _ us hl => match us, hl with | [_, _], _ => rfl
    F__law_whole := F__law_whole
    g__law_whole := He.glo_ok X G (cd.facts (f := .glo "_law_whole") (by unfold hfa; simp))
    b__law_whole := F__law_whole.bindsN fun _ _ _ _ _ _ us hl => match us, hl with | [_], _ => rfl
    F__law_river := F__law_river
    g__law_river := He.glo_ok X G (cd.facts (f := .glo "_law_river") (by unfold hfa; simp))
    b__law_river := F__law_river.bindsN fun _ _ _ _ _ _ us hl => match us, hl with | [_, _], _ => rfl
    F__law_time := F__law_time
    g__law_time := He.glo_ok X G (cd.facts (f := .glo "_law_time") (by unfold hfa; simp))
    b__law_time := F__law_time.bindsN fun _ _ _ _ _ _ us hl => match us, hl with | [_, _, _], _ => rfl
    F__law_barges := F__law_barges
    g__law_barges := He.glo_ok X G (cd.facts (f := .glo "_law_barges") (by unfold hfa; simp))
    b__law_barges := F__law_barges.bindsN fun _ _ _ _ _ _ us hl => match us, hl with | [_, _, _], _ => rfl
    F__law_book := F__law_book
    g__law_book := He.glo_ok X G (cd.facts (f := .glo "_law_book") (by unfold hfa; simp))
    b__law_book := F__law_book.bindsN fun _ _ _ _ _ _ us hl => match us, hl with | [_, _], _ => rfl
    F__law_plan := F__law_plan
    g__law_plan := He.glo_ok X G (cd.facts (f := .glo "_law_plan") (by unfold hfa; simp))
    b__law_plan := F__law_plan.bindsN fun _ _ _ _ _ _ us hl => match us, hl with | [_, _], _ => rfl
    F__law_text := F__law_text
    g__law_text := He.glo_ok X G (cd.facts (f := .glo "_law_text") (by unfold hfa; simp))
    b__law_text := F__law_text.bindsN fun _ _ _ _ _ _ us hl => match us, hl with | [_, _], _ => rfl
    F__law_alike := F__law_alike
    g__law_alike := He.glo_ok X G (cd.facts (f := .glo "_law_alike") (by unfold hfa; simp))
    b__law_alike := F__law_alike.bindsN fun _ _ _ _ _ _ us hl => match us, hl with | [_, _], _ => rfl
    F_law := F_law
    c_HOURS := He.int_ok X G (cd.facts (f := .int "HOURS" 12) (by unfold hfa; simp))
    c_FIGURES := He.str_ok X G (cd.facts (f := .str "FIGURES" "0123456789") (by unfold hfa; simp))
    n_all := He.free_ok X G (cd.facts (f := .free "all") (by unfold hfa; simp))
    n_bool := He.free_ok X G (cd.facts (f := .free "bool") (by unfold hfa; simp))
    n_int := He.free_ok X G (cd.facts (f := .free "int") (by unfold hfa; simp))
    n_isinstance := He.free_ok X G (cd.facts (f := .free "isinstance") (by unfold hfa; simp))
    n_len := He.free_ok X G (cd.facts (f := .free "len") (by unfold hfa; simp))
    n_max := He.free_ok X G (cd.facts (f := .free "max") (by unfold hfa; simp))
    n_range := He.free_ok X G (cd.facts (f := .free "range") (by unfold hfa; simp))
    n_str := He.free_ok X G (cd.facts (f := .free "str") (by unfold hfa; simp))
    n_sum := He.free_ok X G (cd.facts (f := .free "sum") (by unfold hfa; simp))
    n_tuple := He.free_ok X G (cd.facts (f := .free "tuple") (by unfold hfa; simp))
  }
end TB
open PySem PySem.W PySem.Calls PyProof.Rows
set_option maxRecDepth 100000 in
set_option maxHeartbeats 0 in
theorem PySem.Challenge.cw_towbarges_k17_read_back_holds : PySem.Challenge.rw_towbarges_k17_read_back.Holds := by
  w_on; o_law
  refine HandSHeadRun.head_any (r := OpenLaw.row PySem.Challenge.rw_towbarges_k17_read_back) (q := view (OpenLaw.row PySem.Challenge.rw_towbarges_k17_read_back).prog [33]) (H := TB.hk) (ob := TB.hob) (M := 6000) (loose := TB.hloose) (d := HandSHeadRun.topDef (OpenLaw.row PySem.Challenge.rw_towbarges_k17_read_back).prog 33) (kwd := []) TB.hob_eq
    (by kernel_rfl) (fun s => by kernel_rfl) TB.hrun (by kernel_rfl) (by kernel_rfl) (by kernel_rfl) (by rfl) (by first | assumption | decide +kernel) (by decide +kernel) ⟨rfl, rfl, rfl, rfl, rfl, by decide +kernel⟩ ?hw ?hc
  case hw => w_witness2
  case hc =>
    refine LamX.walk_ofTsE (l := PySem.Challenge.rw_towbarges_k17_read_back) (n := 63) (k := 9) (x := "_law_script") (CX := fun _ => L2.CX0) rfl (by decide) (by kernel_rfl) ⟨rfl, by decide, by decide⟩ ?F (fun _ _ _ _ _ z => z)
    intro w mg fa h Y G hmg0
    obtain ⟨K, KX, c⟩ := Y
    have hmg : mg ("law" : PySem.Str) = some (.ref fa) := by
      have e : (HandSHeadRun.topDef (OpenLaw.row PySem.Challenge.rw_towbarges_k17_read_back).prog 33).name = ("law" : PySem.Str) := by kernel_rfl
      rw [← e]
      exact hmg0
    obtain ⟨A, ea, ek, hb, hF⟩ := TB.hfacts KX G c
    have cd : He.SaysD TB.hfa TB.hfn K := congrArg (fun z : He.AlT => z.1) c.t
    have el := hmg.symm.trans (He.glo_ok KX G (cd.facts (f := .glo "law") (by unfold TB.hfa; simp)))
    rw [← ea] at el
    cases el
    refine ⟨K, KX, A.d_law, TB.htf.map (He.cT K), TB.spLaw A K, fun p hp => ?_, fun p hp => ?_, fun p hp => ?_, hb, fun H a ns hl _ hT hS => ⟨a, ns, rfl, hS, hl, ?_, fun _ => rfl⟩, fun base _ _ hTB => ?_⟩
    · obtain ⟨p0, hp0, rfl⟩ := List.mem_map.mp hp
      exact c.empty p0 hp0
    · obtain ⟨p0, hp0, rfl⟩ := List.mem_map.mp hp
      exact c.out p0 hp0
    · obtain ⟨p0, hp0, rfl⟩ := List.mem_map.mp hp
      exact PySem.W.codeHd_of_K KX (c.hd p0 hp0)
    · unfold TB.Tabs
      obtain ⟨ek0, ek1, ek2, ek3⟩ := ek
      rw [ek0, ek1, ek2, ek3]
      exact ⟨⟨#[], hT _ (List.mem_map.mpr ⟨("is_stretch", none), by unfold TB.htf; simp, rfl⟩), trivial⟩, ⟨#[], hT _ (List.mem_map.mpr ⟨("check_book", none), by unfold TB.htf; simp, rfl⟩), trivial⟩, ⟨#[], hT _ (List.mem_map.mpr ⟨("check_plan", none), by unfold TB.htf; simp, rfl⟩), trivial⟩, ⟨#[], hT _ (List.mem_map.mpr ⟨("number_of", none), by unfold TB.htf; simp, rfl⟩), trivial⟩⟩
    · have tb : ∀ p ∈ TB.htf, GxR.TabB base mg (He.cT K p).1 (He.cT K p).2 := fun p hp => let z := hTB _ (List.mem_map.mpr ⟨p, hp, rfl⟩); ⟨z.code, z.bm, z.gP⟩
      exact TB.ok_law (hF base (tb ("is_stretch", none) (by unfold TB.htf; simp)) (tb ("check_book", none) (by unfold TB.htf; simp)) (tb ("check_plan", none) (by unfold TB.htf; simp)) (tb ("number_of", none) (by unfold TB.htf; simp)))
#print axioms PySem.Challenge.cw_towbarges_k17_read_back_holds
