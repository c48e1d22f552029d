import PyProof.Rows.All
import Wide.All
import OpenK.AllK
import Wide.FinOn
import HandS.ForMost
import HandS.ForExc
import HandS.AnyAll
import HandS.GenList
import HandS.Defaults
import HandS.IsInst
import HandS.Wide
import HandS.EndTab
import HandS.More
import HandS.LawCells
import HandS.Strs
import HandS.SetBool
import HandS.TupMul
import HandS.TupAny
import KE.KIsAll
import KE.KExcIs
import HandS.Exc
import HandS.ExcOwn
import HandS.ExcIs
import HandS.SetFor
import HandS.WordsExc
import HandS.HeadHook1
import PyProof.TupleOfGen
import PyProof.CollectWalk
import PyProof.Draws
import KE.GoesZip
import KE.GoesMore
import HandS.Iter
import HandS.Zip
import HandS.Conv
import HandS.Dict
import HandS.Flow
import HandS.TupLe
import HandS.Nested
import HandS.HeadHook4
import HandS.Walk
import HandS.DictTup
import HandS.SortKw
import KE.KDictDisplayH
import KE.DataMinKey
import HandS.ExcInit
import HandS.ExcField
import HandS.NamedTupSort
import HandS.Deep
import HandS.TryOnly
import HandS.HeadNt
import KE.KStateDown
import KE.KNestM
import HandS.Head0
import HandS.Head1
import HandS.Head2
import HandS.HeadEnd
import HandS.HeadHook2
import HandS.HeadHook3
import HandS.HeadWalk
import PySem.Challenge.RW_towbarges_k14_whole_mended
set_option Elab.async false
set_option linter.all false
set_option maxRecDepth 100000
set_option maxHeartbeats 2000000
namespace GX
open PySem PySem.Spec PyProof.Rows L2 GxR GenW

theorem over_gen {A : Around} {elt tg iter : Expr} {ifs : List Expr} {scope : Scope} {pos : Pos} {it acc : Value} {env : Env} :
    A.over (.compLoop (.GeneratorExp elt [⟨tg, iter, ifs, 0⟩] scope pos) 0 it acc env) [] = A.deeper env := by
  first
    | rfl
    | (obtain ⟨hd, d, fr, gs, u⟩ := A; simp [Around.over, Around.deeper, marksOver, frameCount, unitsOf, envsOf, guardsOf, pushEnvs, pushGuards, Code.envs, Code.env?, Code.isFrame, Code.guards, Code.isGuard, Code.weight, Code.frames, Code.isCreation, Code.isCaller, Code.cUnits])

abbrev gcx (X : Cx) (s : Shared) (H : Hp) (cenv : Env) (fp : List Addr) (pn : List (Addr × Obj)) : Cx :=
  { X with A := X.A.in1.in1.deeper cenv, s_0 := s, H_0 := H, env := cenv, outer := X.stack, stack := cenv :: X.stack, ex := fp, fn := fun _ => false, calm := true, pn := pn, xe := fun _ _ => False }

theorem room_gcx {X : Cx} {s : Shared} {H : Hp} {cenv : Env} {fp : List Addr} {pn : List (Addr × Obj)} {k : Nat} (hr : Room (k + 1) X.A) : Room k (gcx X s H cenv fp pn).A :=
  ⟨hr.hd, by have := hr.dp; show X.A.depth + 1 + 3 * k + 5 < _; omega, by have := hr.un; show X.A.units + 1 + 1 + 3 + 16 * k + 200 < _; omega⟩

structure GenOk (N : List Str) (sc scope : Scope) (own : List (Str × Nat)) : Prop where
  kind : scope.kind = .function
  co : scope.isCoroutine = false
  uniq : ∀ y ∈ scope.names, scope.names.lookup y.1 = some y.2
  cell : ∀ y ∈ scope.names, y.2 ≠ .cell
  dot : scope.names.lookup (".0" : Str) = some NameKind.local
  ix : ∀ p ∈ own, N[p.2]? = some p.1
  free : ∀ y ∈ scope.names, y.2 = .free → sc.names.lookup y.1 = some .cell ∨ sc.names.lookup y.1 = some .free
  own : ∀ y ∈ scope.names, y.2 = .local → y.1 ∈ own.map (·.1) ∨ y.1 ∉ N

section
variable {X : Cx} {pins : List (Addr × Obj)} {σ : L2.St} {H : Hp} {s : Shared}
theorem gen_start {scope : Scope} {own : List (Str × Nat)} {fp : List Addr} {code : Value} {s5 : Shared} (I : Inv X pins σ H s) (hh : X.A.handled = none) (ok : GenOk X.N X.env.scope scope own) (hN : X.N.Nodup)
    (hfp : ∀ b ∈ fp, FpOk X pins H b ∧ b < s.heap.objs.size) (hos : s5.os = s.os) (hb5 : AllBare s5.gens) (kp : ∀ b o, s.heap.get? b = some o → s5.heap.get? b = some o)
    (hns : ∃ m, s5.heap.Ns s.heap.objs.size m) :
    Inv (gcx X s H (genEnv scope (cloFrom X.env.cells scope.names []) s.heap.objs.size code builtinsNs X.env) fp []) [] (wipe σ (own.map (·.2))) H s5 := by
  have hfree : ∀ y ∈ scope.names, y.2 = .free → ∃ c, X.env.cells.lookup y.1 = some c := fun y hy e => by
    rcases ok.free y hy e with k | k
    · exact I.ok.has _ (.inl k)
    · exact I.ok.has _ (.inr k)
  generalize hcenv : genEnv scope (cloFrom X.env.cells scope.names []) s.heap.objs.size code builtinsNs X.env = cenv
  have hL : cenv.locals = s.heap.objs.size := by rw [← hcenv]; rfl
  have hcl : cenv.cells = cloFrom X.env.cells scope.names [] := by rw [← hcenv]; rfl
  have hsc : cenv.scope = scope := by rw [← hcenv]; rfl
  have hfr : cenv.frame = some cenv.locals := by rw [← hcenv]; rfl
  have cm : ∀ {y c}, (y, c) ∈ cloFrom X.env.cells scope.names [] → X.env.cells.lookup y = some c ∧ c < s.heap.objs.size := fun {y c} hm => by
    rcases cloFrom_mem hm with hm | ⟨h1, rfl⟩
    · cases hm
    · obtain ⟨c, hc⟩ := hfree _ h1 rfl
      rw [hc]
      obtain ⟨w, z⟩ := I.cell _ _ hc
      exact ⟨rfl, z.lt⟩
  have mem : ∀ {y c}, cenv.cells.lookup y = some c → X.env.cells.lookup y = some c ∧ c < s.heap.objs.size := fun {y c} e => by
    rw [hcl] at e
    exact cm (PySem.mem_of_lookup e)
  have look : ∀ {y}, scope.names.lookup y = some .free → ∃ c, cenv.cells.lookup y = some c ∧ X.env.cells.lookup y = some c := fun {y} hl => by
    have hy : (y, NameKind.free) ∈ scope.names := PySem.mem_of_lookup hl
    obtain ⟨c', e'⟩ := L2.mem_lookup (cloFrom_has (cells := X.env.cells) (acc := []) hy)
    rw [← hcl] at e'
    exact ⟨c', e', (mem e').1⟩
  have okB : (gcx X s H cenv fp []).Ok := by
    refine ⟨I.ok.mod, by show cenv.scope.kind = _; rw [hsc]; exact ok.kind, by show cenv.globals = _; rw [← hcenv]; exact I.ok.glob, by show cenv.builtins = _; rw [← hcenv]; rfl, by show s.heap.objs.size ≤ cenv.locals; rw [hL]; exact Nat.le_refl _,
      fun y z c e1 e2 => I.ok.inj y z c (mem e1).1 (mem e2).1, fun y hy => ?_, fun y c z e => ?_, fun _ => hh, ?_, .inr ⟨rfl, hfr⟩, fun b hb => ⟨?_, fun y c e z => ?_⟩, I.bs, Nat.le_trans I.ok.bsz I.sz, fun b o e hb => ?_, fun b hb z => ?_, I.stack, I.stkFree⟩
    · show ∃ c, cenv.cells.lookup y = some c
      have hy : cenv.scope.names.lookup y = some .cell ∨ cenv.scope.names.lookup y = some .free := hy
      rw [hsc] at hy
      rcases hy with hy | hy
      · exact absurd rfl (ok.cell _ (PySem.mem_of_lookup hy))
      · obtain ⟨c, h1, _⟩ := look hy
        exact ⟨c, h1⟩
    · exact absurd (show false = true from z) (by decide)
    · exact Around.frames_deeper (A := X.A.in1.in1) I.ok.frames
    · show b ≠ cenv.locals
      rw [hL]; exact Nat.ne_of_lt (hfp b hb).2
    · exact (hfp b hb).1.2.2.2.2.1 y c (mem e).1 z
    · rcases (hfp b hb).1.2.2.2.1 with z | z
      · exact I.ok.noex b o e z
      · exact absurd (Nat.lt_of_lt_of_le (Heap.lt_size e) (Nat.le_trans I.ok.bsz z)) (Nat.lt_irrefl _)
    · rcases List.mem_cons.mp (I.stkSub b z) with z | z
      · exact (hfp b hb).1.2.1 z
      · exact (hfp b hb).1.2.2.1 z
  obtain ⟨mm, hmm⟩ := hns
  refine ⟨okB, hos, hb5, Un.kept kp, ⟨mm, ?_, fun i y av e1 e2 e3 => ?_⟩, fun y c e => ?_, ?_, fun y c e => ?_, fun p hp => ?_, I.hok.kept kp, by rw [wipe_length]; exact I.len⟩
  · show s5.heap.Ns cenv.locals mm
    rw [hL]; exact hmm
  · obtain ⟨e2, hne⟩ := wipe_some e2
    have e3 : cenv.scope.names.lookup y = some .local ∨ cenv.scope.names.lookup y = some .cell ∨ cenv.scope.names.lookup y = some .free := e3
    rw [hsc] at e3
    have e1 : X.N[i]? = some y := e1
    rcases e3 with e3 | e3 | e3
    · exfalso
      rcases ok.own _ (PySem.mem_of_lookup e3) rfl with e' | e'
      · obtain ⟨p, hp, hpy⟩ := List.mem_map.mp e'
        have e4 := ok.ix p hp
        have : p.1 = y := hpy
        rw [this] at e4
        exact hne (List.mem_map.mpr ⟨p, hp, nodup_ix hN e4 e1⟩)
      · exact e' (List.mem_of_getElem? e1)
    · exact absurd rfl (ok.cell _ (PySem.mem_of_lookup e3))
    · obtain ⟨m, hn, hl⟩ := I.loc
      have hvis : Vis X.env.scope y := (ok.free _ (PySem.mem_of_lookup e3) rfl).elim (fun k => .inr (.inl k)) (fun k => .inr (.inr k))
      obtain ⟨w, r, q⟩ := hl i y av e1 e2 hvis
      have hk : cenv.kindOf y = some .free := by
        show cenv.scope.names.lookup y = _
        rw [hsc]; exact e3
      refine ⟨w, r, .inr ⟨.inr hk, ?_⟩⟩
      obtain ⟨c, h1, h2⟩ := look e3
      rcases q with ⟨k, _⟩ | ⟨_, c', e', z⟩
      · have k : X.env.scope.names.lookup y = some .local := k
        rcases ok.free _ (PySem.mem_of_lookup e3) rfl with k' | k' <;> rw [show X.env.scope.names.lookup y = _ from k'] at k <;> cases k
      · rw [h2] at e'; cases e'
        exact ⟨c, h1, z.keeps kp⟩
  · obtain ⟨h1, _⟩ := mem (show cenv.cells.lookup y = some c from e)
    obtain ⟨w, z⟩ := I.cell y c h1
    exact ⟨w, z.keeps kp⟩
  · show H cenv.locals = none
    rw [hL]; exact I.hok.fresh (Nat.le_refl _)
  · obtain ⟨h1, _⟩ := mem (show cenv.cells.lookup y = some c from e)
    exact I.freeC y c h1
  · exact absurd (show p ∈ ([] : List (Addr × Obj)) ++ [] from hp) (by simp)

/-- other gens, other toks, a heap that keeps all -/
theorem inv_gens {g' : Array GenState} (I : Inv X pins σ H s) (hg : AllBare g') : Inv X pins σ H { s with gens := g' } :=
  ⟨I.ok, I.os, hg, I.base, I.loc, I.cell, I.free, I.freeC, I.pin, I.hok, I.len⟩
theorem inv_pn {s4 : Shared} {H4 : Hp} {cenv : Env} {fp : List Addr} {pn : List (Addr × Obj)} (I : Inv (gcx X s4 H4 cenv fp []) pins σ H s)
    (h : ∀ p ∈ pn ++ pins, s.heap.get? p.1 = some p.2 ∧ H p.1 = none ∧ p.1 ≠ cenv.locals ∧ p.1 ∉ frs X.stack ∧ ∀ v, p.2.data ≠ .cell v) : Inv (gcx X s4 H4 cenv fp pn) pins σ H s :=
  ⟨⟨I.ok.mod, I.ok.kind, I.ok.glob, I.ok.blt, I.ok.above, I.ok.inj, I.ok.has, I.ok.cab, I.ok.hd, I.ok.frames, I.ok.stk, I.ok.exf, I.ok.bs, I.ok.bsz, I.ok.noex, I.ok.exfs, I.ok.funs, I.ok.frf⟩, I.os, I.bare, I.base, I.loc, I.cell, I.free, I.freeC, h, I.hok, I.len⟩
end

/-! ### the turns -/
section
variable {Z : Type} (X : Cx) (s4 : Shared) (H4 : Hp) (cenv : Env) (fp : List Addr) (pn : List (Addr × Obj)) (tn : Nat → Heap → Prop) (σ0 : L2.St) (W : Nat → Nat → Z → Hp → Prop) (Ip : Z → List (Addr × Obj) → Prop)
/-- at rest, ahead of turn i -/
structure GRest (i m : Nat) (z : Z) (ip : List (Addr × Obj)) (H : Hp) (s : Shared) : Prop where
  w : W i m z H
  hip : Ip z ip
  inv : Inv (gcx X s4 H4 cenv fp pn) ip σ0 H s
  tn : tn i s.heap
  nf : ∀ b ∈ fp, H b = none
def GEndP (Sp : Z → Hp → Prop) (s₀ s1 : Shared) : Prop := ∃ z ip H, Ip z ip ∧ Sp z H ∧ Inv (gcx X s4 H4 cenv fp pn) ip σ0 H s1 ∧ ∀ p ∈ ip, s₀.heap.get? p.1 = some p.2
def GYield (Yw : Z → (Z → Hp → Prop) → V → Hp → Prop) : Protocol := fun n s₀ v s kap =>
  ∃ i m z y ip H Nx, m ≤ n ∧ RelV y v ∧ Ip z ip ∧ Inv (gcx X s4 H4 cenv fp pn) ip σ0 H s ∧ tn (i + 1) s.heap ∧ (∀ b ∈ fp, H b = none) ∧ (∀ z' H', Nx z' H' → ∃ m', m' < m ∧ W (i + 1) m' z' H') ∧ Yw z Nx y H ∧ (∀ p ∈ ip, s₀.heap.get? p.1 = some p.2) ∧
    ∀ s' ip' z' m' H', m' < m → GRest X s4 H4 cenv fp pn tn σ0 W Ip (i + 1) m' z' ip' H' s' → kap (.send .none) s'
end
/-- what a turn is to do -/
def Turns {Z : Type} (J : It) (g : TG) (tt : TT) (te : TE) (σ0 : L2.St) (vs : List Nat) (W : Nat → Nat → Z → Hp → Prop) (Sp : Z → Hp → Prop) (Yw : Z → (Z → Hp → Prop) → V → Hp → Prop) : Prop :=
  ∀ i m z H, W i m z H → (J.stop i H ∧ Sp z H) ∨ (J.go i H ∧ ∃ Nx : Z → Hp → Prop, (∀ z' H', Nx z' H' → ∃ m', m' < m ∧ W (i + 1) m' z' H') ∧ ∀ x H', J.yld i H x H' → g x σ0 H' fun σ2 H2 => wipe σ2 vs = σ0 ∧ tt σ2 H2 fun b H3 =>
    if b = true then te σ2 H3 (Yw z Nx) else Nx z H3)
section
variable {Z : Type} {X : Cx} {s4 : Shared} {H4 : Hp} {cenv : Env} {fp : List Addr} {pn : List (Addr × Obj)} {tn : Nat → Heap → Prop} {σ0 : L2.St} {W : Nat → Nat → Z → Hp → Prop} {Ip : Z → List (Addr × Obj) → Prop}
  {Sp : Z → Hp → Prop} {Yw : Z → (Z → Hp → Prop) → V → Hp → Prop} {J : It} {g : TG} {tt : TT} {te : TE} {vs : List Nat} {elt tg iter : Expr} {ifs : List Expr} {scope : Scope} {pos : Pos} {it : Addr}
theorem seg_turns (hco : cenv.scope.isCoroutine = false) (hpn : ∀ z ip, Ip z ip → ∀ b ∈ fp, ∀ p ∈ pn ++ ip, p.1 ≠ b) (T : Turn X.prog X.w X.K tg J fp it tn)
    (pg : PG (gcx X s4 H4 cenv fp pn) tg g) (pt : PTs (gcx X s4 H4 cenv fp pn) ifs tt) (pe : PE (gcx X s4 H4 cenv fp pn) elt te) (turn : Turns J g tt te σ0 vs W Sp Yw) :
    ∀ (m n i : Nat) (z : Z) (ip : List (Addr × Obj)) (H : Hp) (s s₀ : Shared), m < n → GRest X s4 H4 cenv fp pn tn σ0 W Ip i m z ip H s → (∀ p ∈ ip, s₀.heap.get? p.1 = some p.2) →
      Seg (model X.prog X.w) X.A.in1.in1 (fun n s₀ r s₁ => r = .ok .next ∧ GEndP X s4 H4 cenv fp pn σ0 Ip Sp s₀ s₁) (GYield X s4 H4 cenv fp pn tn σ0 W Ip Yw) n s₀
        (.compLoop (.GeneratorExp elt [⟨tg, iter, ifs, 0⟩] scope pos) 0 (.ref it) .none cenv)
        ((model X.prog X.w).den (.compLoop (.GeneratorExp elt [⟨tg, iter, ifs, 0⟩] scope pos) 0 (.ref it) .none cenv)) [] s := by
  have stat : ∀ {z : Z} {ip : List (Addr × Obj)} {σ' : L2.St} {H' : Hp} {s' : Shared}, Ip z ip → Inv (gcx X s4 H4 cenv fp pn) ip σ' H' s' → (∀ b ∈ fp, H' b = none) → ∀ b ∈ fp, FpOk (gcx X s4 H4 cenv fp pn) ip H' b := fun {z ip σ' H' s'} hz I' hn b hb =>
    ⟨hn b hb, (I'.ok.exf b hb).1, I'.ok.exfs b hb, .inl hb, fun x c e => (I'.ok.exf b hb).2 x c e, fun p hp => hpn z ip hz b hb p hp⟩
  intro m
  induction m using Nat.strongRecOn with
  | ind m ih =>
    rintro n i z ip H s s₀ hmn ⟨w, hip, I, st, nf⟩ h0
    show Seg _ _ _ _ _ _ _ ((compTurn (.GeneratorExp elt [⟨tg, iter, ifs, 0⟩] scope pos) 0 (.ref it) .none cenv).onRaise (leaving cenv)) [] s
    rw [compTurn_gen, Sem.onRaise_eq_wrap]
    refine seg_bind_wrap (wpAny_standAt ?_)
    rcases turn i m z H w with ⟨stop, qq⟩ | ⟨go, Nx, hNx, step⟩
    · have td := T.done (gcx X s4 H4 cenv fp pn) rfl rfl rfl rfl i ip s _ H (fun _ _ => False) I (stat hip I nf) st stop
      refine seg_bind_wrap ?_
      rw [over_gen]
      refine thnF td fun r s6 ⟨hr, I6⟩ => ?_
      subst hr
      exact seg_end (.ok .next) ⟨rfl, z, ip, H, hip, qq, I6, h0⟩
    · have ti := T.item (gcx X s4 H4 cenv fp pn) rfl rfl rfl rfl i ip s _ H (fun _ _ => False) I (stat hip I nf) st go
      refine seg_bind_wrap ?_
      rw [over_gen]
      refine thnF ti fun r s6 ⟨u, hr, h6⟩ => ?_
      subst hr
      refine seg_bind_wrap (m := letOwnedTupleGo tg (.ref it) u) ?_
      rw [over_gen]
      refine thnF h6 fun _ s7 ⟨x, H7, I7, r7, y7, st7, n7⟩ => ?_
      have I7' := I7.pinned (stat hip I7 n7) (T.obj _ _ st7)
      refine seg_bind_wrap (m := assign tg cenv u) ?_
      rw [over_gen]
      refine thnF (pg.run _ s7 _ H7 x u _ I7' r7 (step x H7 y7)) fun _ s8 ⟨σ8, H8, I8, hw8, q8⟩ => ?_
      refine seg_bind_wrap ?_
      rw [over_gen]
      refine thnF (pt.run _ s8 σ8 H8 _ I8 q8) fun b s9 ⟨H9, I9, q9⟩ => ?_
      have fin : ∀ {s' : Shared} {H' : Hp}, Inv (gcx X s4 H4 cenv fp pn) (ip ++ pinsAt fp s7.heap) σ8 H' s' → Inv (gcx X s4 H4 cenv fp pn) ip σ0 H' s' ∧ tn (i + 1) s'.heap ∧ ∀ b ∈ fp, H' b = none := fun {s' H'} I' => by
        have pin' : ∀ b ∈ fp, ∀ o, s7.heap.get? b = some o → s'.heap.get? b = some o ∧ H' b = none := fun b hb o e =>
          let z := I'.pin (b, o) (List.mem_append_right _ (List.mem_append_right _ (mem_pinsAt hb e)))
          ⟨z.1, z.2.1⟩
        have hl : σ0.length = σ8.length := by rw [← hw8, wipe_length]
        refine ⟨(I'.unpinned (pins := ip)).weak hl (fun j v e => ?_), T.keep _ _ _ st7 fun b hb o e => (pin' b hb o e).1, fun b hb => ?_⟩
        · rw [← hw8] at e
          exact (wipe_some e).1
        · obtain ⟨o, e, _⟩ := T.obj _ _ st7 b hb
          exact (pin' b hb o e).2
      cases b with
      | false =>
        simp only [Bool.false_eq_true, if_false] at q9 ⊢
        obtain ⟨m', hm, w'⟩ := hNx z H9 q9
        obtain ⟨f1, f2, f3⟩ := fin I9
        exact seg_again rfl (ih m' hm n (i + 1) z ip H9 s9 s₀ (by omega) ⟨w', hip, f1, f2, f3⟩ h0)
      | true =>
        simp only [if_true] at q9 ⊢
        have hy : ∀ v, yieldOut cenv v = yieldValue v := fun v => by simp only [yieldOut, hco, Bool.false_eq_true, if_false]
        simp only [hy]
        obtain ⟨k, rfl⟩ : ∃ k, n = k + 1 := ⟨n - 1, by omega⟩
        rw [Sem.bind_eq_wrap', Sem.bind_eq_wrap', Sem.wrap_wrap, Sem.wrap_wrap]
        refine seg_wrap ?_
        rw [over_gen]
        refine thnF (pe.run _ s9 σ8 H9 _ I9 q9) fun yv s10 ⟨y, H10, I10, r10, yw⟩ => ?_
        obtain ⟨f1, f2, f3⟩ := fin I10
        refine seg_at (seg_yield rfl rfl rfl ⟨i, m, z, y, ip, H10, Nx, by omega, r10, hip, f1, f2, f3, hNx, yw, h0, fun s' ip' z' m' H' hm hR => ?_⟩)
        exact seg_again rfl (ih m' hm k (i + 1) z' ip' H' s' s' (by omega) hR fun p hp => (hR.inv.pin p (List.mem_append_right _ hp)).1)
theorem seg_first (hco : cenv.scope.isCoroutine = false) (hpn : ∀ z ip, Ip z ip → ∀ b ∈ fp, ∀ p ∈ pn ++ ip, p.1 ≠ b) (T : Turn X.prog X.w X.K tg J fp it tn)
    (pg : PG (gcx X s4 H4 cenv fp pn) tg g) (pt : PTs (gcx X s4 H4 cenv fp pn) ifs tt) (pe : PE (gcx X s4 H4 cenv fp pn) elt te) (turn : Turns J g tt te σ0 vs W Sp Yw)
    {m n : Nat} {z : Z} {ip : List (Addr × Obj)} {H : Hp} {s s₀ : Shared} (hmn : m < n) (hR : GRest X s4 H4 cenv fp pn tn σ0 W Ip 0 m z ip H s) (h0 : ∀ p ∈ ip, s₀.heap.get? p.1 = some p.2) :
      Seg (model X.prog X.w) X.A.in1.in1 (fun n s₀ r s₁ => r = .ok .next ∧ GEndP X s4 H4 cenv fp pn σ0 Ip Sp s₀ s₁) (GYield X s4 H4 cenv fp pn tn σ0 W Ip Yw) n s₀
        (.compStart (.GeneratorExp elt [⟨tg, iter, ifs, 0⟩] scope pos) 0 (.ref it) .none cenv)
        ((model X.prog X.w).den (.compStart (.GeneratorExp elt [⟨tg, iter, ifs, 0⟩] scope pos) 0 (.ref it) .none cenv)) [] s := by
  have loop := seg_turns (iter := iter) (scope := scope) (pos := pos) hco hpn T pg pt pe turn m n 0 z ip H s s₀ hmn hR h0
  show Seg _ _ _ _ _ s₀ _ ((compStart (.GeneratorExp elt [⟨tg, iter, ifs, 0⟩] scope pos) 0 (.ref it) .none cenv).onRaise (leaving cenv)) [] s
  unfold compStart
  rw [Sem.onRaise_eq_wrap]
  show Seg _ _ _ _ _ s₀ _ ((ask >>= _).wrap _ _ _ _) [] s
  refine seg_bind_wrap (wpAny_askSetting ?_)
  split
  · exact seg_again rfl loop
  · first
      | exact seg_bind_wrap (wpAny_rule (seg_bind_wrap (wpAny_standAt (seg_bind_wrap (T.self _ 0 s _ _ hR.tn (seg_again rfl loop))))))
      | (refine seg_bind_wrap (wpAny_rule ?_); show Seg _ _ _ _ _ s₀ _ ((standAt iter.pos >>= _).wrap _ _ _ _) [] s; exact seg_bind_wrap (wpAny_standAt (seg_bind_wrap (T.self _ 0 s _ _ hR.tn (seg_again rfl loop)))))
end

/-! ### a generator expression made -/
section
variable {X : Cx} {pins : List (Addr × Obj)} {σ : L2.St} {H : Hp} {s : Shared}
theorem back {s4 s6 : Shared} {H2 H6 : Hp} {cenv : Env} {fp : List Addr} {pn ip : List (Addr × Obj)} {σ6 : L2.St} (I4 : Inv X pins σ H2 s4) (hf : ∀ b ∈ fp, FpOk X pins H2 b) (I6 : Inv (gcx X s4 H2 cenv fp pn) ip σ6 H6 s6) : Inv X pins σ H6 s6 :=
  I4.call' (ch := fp) I6.os I6.base I6.hok I6.bare fun b hb => ⟨(hf b hb).2.2.2.1, (hf b hb).2.1, (hf b hb).2.2.2.2.1, (hf b hb).2.2.2.2.2⟩

/-- it is made, at a, its number g: not begun -/
structure Made (X : Cx) (pins : List (Addr × Obj)) (σ : L2.St) (elt tg iter : Expr) (ifs : List Expr) (scope : Scope) (gpos : Pos) (own : List (Str × Nat)) (J : It) (H2 : Hp) (s4 s5 : Shared) (cenv : Env) (it : Addr) (fp : List Addr) (tn : Nat → Heap → Prop) (a : Addr) (g : Nat) (go : Obj) : Prop where
  i4 : Inv X pins σ H2 s4
  env : ∃ (C : Addr) (code : Value), cenv = genEnv scope (cloFrom X.env.cells scope.names []) C code builtinsNs X.env
  turn : Turn X.prog X.w X.K tg J fp it tn
  tn0 : tn 0 s5.heap
  fok : ∀ b ∈ fp, FpOk X pins H2 b
  fa : ∀ b ∈ fp, b < a
  inv : Inv (gcx X s4 H2 cenv fp [(a, go)]) [] (wipe σ (own.map (·.2))) H2 s5
  gen : ∀ h : Heap, h.get? a = some go → h.IsGen a g
  gs : s5.gens[g]? = some (.fresh (.compStart (.GeneratorExp elt [⟨tg, iter, ifs, 0⟩] scope gpos) 0 (.ref it) .none cenv))
  lt : a < s5.heap.objs.size
theorem gen_made {c P : Addr} {elt tg iter : Expr} {ifs : List Expr} {gpos : Pos} {scope : Scope} {own : List (Str × Nat)} {wi : TI} {k : Nat} {Q' : Value → Shared → Prop} {R : It → Hp → Prop}
    (hr : Room k X.A) (TB : TabB X.base X.mg c P) (hcode : X.env.code = .ref c) (ok : GenOk X.N X.env.scope scope own) (hN : X.N.Nodup) (hi : PI X tg iter wi)
    (hs : ∀ v, genFold iter X.env v = pure v) (I : Inv X pins σ H s) (h : wi σ H fun J H1 => TabG H1 P ∧ ∀ H2, Tabbed P H1 H2 → R J H2)
    (hQ : ∀ J H2 s4 s5 cenv it fp tn a g go, R J H2 → Made X pins σ elt tg iter ifs scope gpos own J H2 s4 s5 cenv it fp tn a g go → Q' (.ref a) s5) :
    wpAny (model X.prog X.w) X.A (eval (.GeneratorExp elt [⟨tg, iter, ifs, 0⟩] scope gpos) X.env) Q' X.xe s := by
  have hfree : ∀ y ∈ scope.names, y.2 = .free → ∃ c, X.env.cells.lookup y.1 = some c := fun y hy e => by
    rcases ok.free y hy e with k | k
    · exact I.ok.has _ (.inl k)
    · exact I.ok.has _ (.inr k)
  refine wpAny_GeneratorExp_make ok.co (closure_ok hfree) ok.cell ok.dot ok.kind (by have := hr.dp; omega) ?_ hs
  refine thn (hi.run pins s σ H _ I h) fun xv s1 hx => thn hx fun itv s2 h2 => ?_
  obtain ⟨it, fp, tn, J, H1, e, I2, T, st2, f2, ⟨ps, hP, ht⟩, q⟩ := h2
  subst e
  have hPs : s2.heap.get? P = some { cls := .none, data := .fields ps } := I2.hok P _ hP
  have hPlt : P < s2.heap.objs.size := Heap.lt_size hPs
  have cd : PySem.W.CodeHd s2.heap c P := TB.code.keeps fun b u e => I2.bk b u e
  have lim2 : s2.heap.NoLimit := I2.nolimit
  have cont : ∀ (code : Value) (h3 : Heap) (tk : Nat) (ps' : Array Value), Heap.ExtBut P s2.heap h3 → s2.heap.objs.size ≤ h3.objs.size → h3.get? P = some { cls := .none, data := .fields ps' } → (∃ more, ps' = ps ++ more) → TriplesOk ps'.toList →
      wpAny (model X.prog X.w) X.A (builtinsFor X.env.globals X.env.builtins) (fun bi s₄ =>
        ∀ h', h'.Ns s₄.heap.objs.size (fun y => if y = ".0" then some (.ref it) else none) → Heap.SameBut s₄.heap.objs.size (s₄.heap.push { cls := .type "frame", data := .dict #[] }) h' →
          Q' (.ref h'.objs.size) { s₄ with
            gens := s₄.gens.push (.fresh (.compStart (.GeneratorExp elt [⟨tg, iter, ifs, 0⟩] scope gpos) 0 (.ref it) .none (genEnv scope (cloFrom X.env.cells scope.names []) s₄.heap.objs.size code bi X.env))),
            toks := s₄.toks + 1 + 1 + 1,
            heap := h'.push { cls := .type "generator", data := .fields #[.int s₄.gens.size 0, .str "<genexpr>" (s₄.toks + 1), .str (X.env.qual ++ "<genexpr>") (s₄.toks + 1 + 1)] } }) X.xe { s2 with heap := h3, toks := tk } := by
    intro code h3 tk ps' hx hsz hP3 hmore ht3
    obtain ⟨bm, ob, e1, e2, e3, e4, e5, e6, e7, e8⟩ := TB.bm
    have keep3 : ∀ b u, b ≠ P → s2.heap.get? b = some u → h3.get? b = some u := fun b u hb e => hx b u hb e
    refine wpAny_builtinsFor (m := X.mg) (by rw [I2.ok.glob]; exact (I2.mod.glob.keeps I2.bk).extBut hx TB.gP) e1 e2 (keep3 _ _ e4 (I2.bk _ _ e5)) e6 e7 e8 ?_
    intro h' hn' hs'
    obtain ⟨more, em⟩ := hmore
    subst em
    have I4 : Inv X pins σ (upd H1 P (.tbl (ps ++ more))) { s2 with heap := h3, toks := tk } := inv_tab (more := more) (h' := h3) (g' := s2.gens) (d' := s2.drawn) (t' := tk) I2 hP (fun b u hb e => hx b u hb e) hP3 I2.bare
    generalize hH2 : upd H1 P (.tbl (ps ++ more)) = H2 at I4
    have hTab : Tabbed P H1 H2 := by
      rw [← hH2]
      exact ⟨⟨ps ++ more, upd_same, ht3⟩, fun b hb => upd_ne hb⟩
    generalize hs4 : ({ s2 with heap := h3, toks := tk } : Shared) = s4 at I4
    have hh3 : h3 = s4.heap := by rw [← hs4]
    have hg2 : s2.gens = s4.gens := by rw [← hs4]
    have htk : tk = s4.toks := by rw [← hs4]
    have hsz4 : h'.objs.size = s4.heap.objs.size + 1 := by
      have z := hs'.1
      rw [Heap.size_push] at z
      rw [← hh3]
      exact z
    have keep' : ∀ b o, s4.heap.get? b = some o → h'.get? b = some o := fun b o e => by
      rw [← hh3] at e
      exact hs'.extBut b o (Nat.ne_of_lt (Heap.lt_size e)) (Heap.get?_push_of_some _ e)
    have fne : ∀ b ∈ fp, b ≠ P := fun b hb z => by
      have z1 := (f2 b hb).1
      rw [z, hP] at z1
      cases z1
    have flt : ∀ b ∈ fp, b < s2.heap.objs.size := fun b hb => by
      obtain ⟨o, e, _⟩ := T.obj _ _ st2 b hb
      exact Heap.lt_size e
    have f4 : ∀ b ∈ fp, FpOk X pins H2 b := fun b hb => by
      refine ⟨?_, (f2 b hb).2⟩
      rw [hTab.2 b (fne b hb)]
      exact (f2 b hb).1
    have f4l : ∀ b ∈ fp, b < s4.heap.objs.size := fun b hb => by
      rw [← hh3]
      exact Nat.lt_of_lt_of_le (flt b hb) hsz
    have stay : ∀ b ∈ fp, ∀ o, s2.heap.get? b = some o → h'.get? b = some o := fun b hb o e => keep' b o (by rw [← hh3]; exact keep3 b o (fne b hb) e)
    refine hQ J H2 s4 _ (genEnv scope (cloFrom X.env.cells scope.names []) s4.heap.objs.size code builtinsNs X.env) it fp tn h'.objs.size s4.gens.size
      { cls := .type "generator", data := .fields #[.int s4.gens.size 0, .str "<genexpr>" (s4.toks + 1), .str (X.env.qual ++ "<genexpr>") (s4.toks + 1 + 1)] } (q H2 hTab) ?_
    have hn4 : h'.Ns s4.heap.objs.size (fun y => if y = ".0" then some (.ref it) else none) := by first | exact hn' | (rw [← hh3]; exact hn')
    have I5 : Inv (gcx X s4 H2 (genEnv scope (cloFrom X.env.cells scope.names []) s4.heap.objs.size code builtinsNs X.env) fp []) [] (wipe σ (own.map (·.2))) H2
        { s4 with heap := h'.push { cls := .type "generator", data := .fields #[.int s4.gens.size 0, .str "<genexpr>" (s4.toks + 1), .str (X.env.qual ++ "<genexpr>") (s4.toks + 1 + 1)] }, toks := s4.toks + 1 + 1 + 1, gens := s4.gens.push (.fresh (.compStart (.GeneratorExp elt [⟨tg, iter, ifs, 0⟩] scope gpos) 0 (.ref it) .none (genEnv scope (cloFrom X.env.cells scope.names []) s4.heap.objs.size code builtinsNs X.env))) } :=
      gen_start I4 hr.hd ok hN (fun b hb => ⟨f4 b hb, f4l b hb⟩) rfl (AllBare.push I4.bare rfl) (fun b o e => Heap.get?_push_of_some _ (keep' b o e)) ⟨_, hn4.push _⟩
    have hgo : ∀ h : Heap, h.get? h'.objs.size = some { cls := .type "generator", data := .fields #[.int s4.gens.size 0, .str "<genexpr>" (s4.toks + 1), .str (X.env.qual ++ "<genexpr>") (s4.toks + 1 + 1)] } → h.IsGen h'.objs.size s4.gens.size := fun h e => ⟨_, _, _, e, rfl, rfl, rfl⟩
    refine ⟨I4, ⟨_, _, rfl⟩, T, T.keep _ _ _ st2 fun b hb o e => Heap.get?_push_of_some _ (stay b hb o e), f4, fun b hb => by rw [hsz4]; exact Nat.lt_succ_of_lt (f4l b hb), ?_, hgo, ?_, ?_⟩
    · refine inv_pn I5 fun p hp => ?_
      rw [List.append_nil] at hp
      rw [List.mem_singleton.mp hp]
      refine ⟨?_, I4.hok.fresh (by rw [hsz4]; exact Nat.le_succ _), ?_, fun z => ?_, fun v z => by cases z⟩
      · show (h'.push _).get? h'.objs.size = _
        exact Heap.get?_push_size _ rfl
      · show h'.objs.size ≠ s4.heap.objs.size
        rw [hsz4]
        exact Nat.succ_ne_self _
      · have z2 : h'.objs.size ∈ X.env.locals :: X.fs := I4.stkSub _ z
        rcases List.mem_cons.mp z2 with z3 | z3
        · have z4 := I4.lt
          rw [← z3, hsz4] at z4
          exact absurd (Nat.lt_of_succ_lt z4) (Nat.lt_irrefl _)
        · exact I4.nofs (by rw [hsz4]; exact Nat.le_succ _) z3
    · exact Array.getElem?_push_size ..
    · show h'.objs.size < (h'.push _).objs.size
      rw [Heap.size_push]
      exact Nat.lt_succ_self _
  refine ⟨lim2, ?_⟩
  cases hf : codeAmong gpos ps.toList with
  | none =>
    refine wpAny_genexprCodeX hcode (cd.code hPs ht) (cd.tab hPs) hf fun c' h' tk hx hge hlt hco' _ htab' _ => ?_
    obtain ⟨o1, vs, f1, tf, fl, tg, inF, tx, tt, op, _, _, _, _, _, _, _, _, _, htr, _⟩ := hco'
    exact cont _ h' tk _ hx (Nat.le_trans hge (Nat.le_of_lt hlt)) htab'.2 ⟨_, rfl⟩ htr
  | some cv =>
    refine wpAny_genexprCode_hit hcode (cd.code hPs ht) hf ?_
    exact cont cv s2.heap s2.toks ps (Heap.ExtBut.refl _ _) (Nat.le_refl _) hPs ⟨#[], by simp⟩ ht
end

/-! ### the consumers -/
theorem next_at {s : Shared} {g : Nat} {x y : GenState} (h : s.gens[g]? = some x) : (s.setGen g y).gens[g]? = some y := setGen_at (Array.getElem?_eq_some_iff.mp h).1
section
variable {Z : Type} {X : Cx} {s4 : Shared} {H4 : Hp} {cenv : Env} {fp : List Addr} {pn : List (Addr × Obj)} {tn : Nat → Heap → Prop} {σ0 : L2.St} {W : Nat → Nat → Z → Hp → Prop} {Ip : Z → List (Addr × Obj) → Prop}
  {Sp : Z → Hp → Prop} {Yw : Z → (Z → Hp → Prop) → V → Hp → Prop} {a : Addr} {g : Nat}
/-- one next of it: E nothing -/
theorem next_of {A : Around} {s : Shared} {gs : GenState} {n : Nat} {Q : Option Value → Shared → Prop} {E : Value → Shared → Prop} (hh : X.A.handled = none) (hroom : X.A.depth < recursionLimit) (hl : s.heap.NoLimit) (hg : s.heap.IsGen a g) (hgs : s.gens[g]? = some gs)
    (hgo : gs.Goes (model X.prog X.w) X.A.in1.in1 (fun n s₀ r s₁ => r = .ok .next ∧ GEndP X s4 H4 cenv fp pn σ0 Ip Sp s₀ s₁) (GYield X s4 H4 cenv fp pn tn σ0 W Ip Yw) n (.send .none) (s.setGen g .running))
    (hend : ∀ z ip H s', (∀ p ∈ ip, s.heap.get? p.1 = some p.2) → Ip z ip → Sp z H → Inv (gcx X s4 H4 cenv fp pn) ip σ0 H s' → Q none s')
    (hyld : ∀ i m z y v ip H Nx s', (∀ p ∈ ip, s.heap.get? p.1 = some p.2) → (∃ gs', s'.gens[g]? = some gs') → RelV y v → Ip z ip → Inv (gcx X s4 H4 cenv fp pn) ip σ0 H s' → tn (i + 1) s'.heap → (∀ b ∈ fp, H b = none) → (∀ z' H', Nx z' H' → ∃ m', m' < m ∧ W (i + 1) m' z' H') → Yw z Nx y H →
      (∀ s2 ip' z' m' H', (∃ gs', s2.gens[g]? = some gs' ∧ s'.gens[g]? = some gs') → m' < m → GRest X s4 H4 cenv fp pn tn σ0 W Ip (i + 1) m' z' ip' H' s2 →
        ∃ gs' k, s2.gens[g]? = some gs' ∧ n = k + 1 ∧ gs'.Goes (model X.prog X.w) X.A.in1.in1 (fun n s₀ r s₁ => r = .ok .next ∧ GEndP X s4 H4 cenv fp pn σ0 Ip Sp s₀ s₁) (GYield X s4 H4 cenv fp pn tn σ0 W Ip Yw) k (.send .none) (s2.setGen g .running)) → Q (some v) s') :
    wpAny (model X.prog X.w) X.A.in1 (pyNext (.ref a)) Q E s := by
  have hlt := (Array.getElem?_eq_some_iff.mp hgs).1
  refine wpAny_gsz (n := g + 1) hlt ?_
  refine wpAny_pyNext_genexpQ (P := fun _ s₀ s₁ => GEndP X s4 H4 cenv fp pn σ0 Ip Sp s₀ s₁) hh hl hroom hg hgs hgo (fun v s₁ gs' hb hv => ?_) (fun s₁ hp h' hk => ?_)
  · intro hsz
    obtain ⟨i, m, z, y, ip, H, Nx, hmn, ry, hip, I, ht, nf, hNx, yw, h0, kap⟩ := hv
    have q : (s₁.setGen g gs').gens.size = s₁.gens.size := setGen_size _ _ _
    have hsz1 : g < s₁.gens.size := by
      have hsz' : g + 1 ≤ (s₁.setGen g gs').gens.size := hsz
      omega
    have I' : Inv (gcx X s4 H4 cenv fp pn) ip σ0 H (s₁.setGen g gs') := inv_gens I (allBare_setGen I.bare hb)
    refine hyld i m z y v ip H Nx _ h0 ⟨gs', setGen_at hsz1⟩ ry hip I' ht nf hNx yw fun s2 ip' z' m' H' hg2 hm hR => ?_
    obtain ⟨gs2, h1, h2⟩ := hg2
    rw [setGen_at hsz1] at h2
    cases h2
    have kk := kap (s2.setGen g .running) ip' z' m' H' hm ⟨hR.w, hR.hip, inv_gens hR.inv (allBare_setGen hR.inv.bare rfl), hR.tn, hR.nf⟩
    cases n with
    | zero => exact False.elim kk
    | succ k => exact ⟨gs', k, h1, rfl, kk⟩
  · intro _
    obtain ⟨z, ip, H, hip, sp, I, h0⟩ := hp
    refine hend z ip H _ h0 hip sp ?_
    have I1 : Inv (gcx X s4 H4 cenv fp pn) ip σ0 H (s₁.setGen g .finished) := inv_gens I (allBare_setGen I.bare rfl)
    exact I1.kept (t' := s₁.toks) hk

/-- the loop of all -/
theorem all_loop {Rr : Result → Shared → Prop} {Qf : Bool → Hp → Prop} (hh : X.A.handled = none) (hroom : X.A.depth < recursionLimit) (hgen : ∀ s ip H, Inv (gcx X s4 H4 cenv fp pn) ip σ0 H s → s.heap.IsGen a g)
    (hSp : ∀ z H, Sp z H → Qf true H) (hYw : ∀ z Nx y H, Yw z Nx y H → ∃ c, y = .bl c ∧ if c = true then Nx z H else Qf false H)
    (hR : ∀ b ip H s', Inv (gcx X s4 H4 cenv fp pn) ip σ0 H s' → Qf b H → Rr (.ok (.ret (.bool b))) s') :
    ∀ (n : Nat) (s : Shared), (∃ gs, s.gens[g]? = some gs ∧ gs.Goes (model X.prog X.w) X.A.in1.in1 (fun n s₀ r s₁ => r = .ok .next ∧ GEndP X s4 H4 cenv fp pn σ0 Ip Sp s₀ s₁) (GYield X s4 H4 cenv fp pn tn σ0 W Ip Yw) n (.send .none) (s.setGen g .running)) →
      s.heap.NoLimit → s.heap.IsGen a g → codeAny (model X.prog X.w) X.A (.builtin "all.loop" ⟨[.ref a], []⟩) Rr s := by
  intro n
  induction n using Nat.strongRecOn with
  | ind n ih =>
    intro s ⟨gs, hgs, hgo⟩ hl hg
    refine codeAny_builtin F.entry_all_loop ?_
    rw [Around.under_plainId F.plain_all_loop _]
    show wpAny _ X.A.in1 (pyNext (.ref a) >>= _) _ _ s
    refine wpAny_bind (next_of (A := X.A) hh hroom hl hg hgs hgo (fun z ip H s' h0 hip sp I => ?_) (fun i m z y v ip H Nx s' h0 ⟨gs1, hgs1⟩ ry hip I ht nf hNx yw res => ?_))
    · refine wpAny_bind (wpAny_rule (wpAny_pure ?_))
      exact hR true ip H s' I (hSp z H sp)
    · obtain ⟨c, rfl, hc⟩ := hYw z Nx y H yw
      obtain rfl : v = Value.bool c := ry
      refine wpAny_bind (wpAny_holding (wpAny_truthy_bool ?_))
      refine wpAny_bind (wpAny_letGo ?_)
      cases c with
      | true =>
        simp only [if_true] at hc ⊢
        obtain ⟨m', hm, w'⟩ := hNx _ _ hc
        refine wpAny_pure ⟨plainId_quiet F.plain_all_loop _, ?_⟩
        obtain ⟨gs2, k, h1, h2, h3⟩ := res s' ip z m' H ⟨gs1, hgs1, hgs1⟩ hm ⟨w', hip, I, ht, nf⟩
        exact ih k (by omega) s' ⟨gs2, h1, h3⟩ I.nolimit (hgen _ _ _ I)
      | false =>
        simp only [Bool.false_eq_true, if_false] at hc ⊢
        refine wpAny_bind (wpAny_rule (wpAny_pure ?_))
        exact hR false ip H s' I hc
theorem any_loop {Rr : Result → Shared → Prop} {Qf : Bool → Hp → Prop} (hh : X.A.handled = none) (hroom : X.A.depth < recursionLimit) (hgen : ∀ s ip H, Inv (gcx X s4 H4 cenv fp pn) ip σ0 H s → s.heap.IsGen a g)
    (hSp : ∀ z H, Sp z H → Qf false H) (hYw : ∀ z Nx y H, Yw z Nx y H → ∃ c, y = .bl c ∧ if c = true then Qf true H else Nx z H)
    (hR : ∀ b ip H s', Inv (gcx X s4 H4 cenv fp pn) ip σ0 H s' → Qf b H → Rr (.ok (.ret (.bool b))) s') :
    ∀ (n : Nat) (s : Shared), (∃ gs, s.gens[g]? = some gs ∧ gs.Goes (model X.prog X.w) X.A.in1.in1 (fun n s₀ r s₁ => r = .ok .next ∧ GEndP X s4 H4 cenv fp pn σ0 Ip Sp s₀ s₁) (GYield X s4 H4 cenv fp pn tn σ0 W Ip Yw) n (.send .none) (s.setGen g .running)) →
      s.heap.NoLimit → s.heap.IsGen a g → codeAny (model X.prog X.w) X.A (.builtin "any.loop" ⟨[.ref a], []⟩) Rr s := by
  intro n
  induction n using Nat.strongRecOn with
  | ind n ih =>
    intro s ⟨gs, hgs, hgo⟩ hl hg
    refine codeAny_builtin F.entry_any_loop ?_
    rw [Around.under_plainId F.plain_any_loop _]
    show wpAny _ X.A.in1 (pyNext (.ref a) >>= _) _ _ s
    refine wpAny_bind (next_of (A := X.A) hh hroom hl hg hgs hgo (fun z ip H s' h0 hip sp I => ?_) (fun i m z y v ip H Nx s' h0 ⟨gs1, hgs1⟩ ry hip I ht nf hNx yw res => ?_))
    · refine wpAny_bind (wpAny_rule (wpAny_pure ?_))
      exact hR false ip H s' I (hSp z H sp)
    · obtain ⟨c, rfl, hc⟩ := hYw z Nx y H yw
      obtain rfl : v = Value.bool c := ry
      refine wpAny_bind (wpAny_holding (wpAny_truthy_bool ?_))
      refine wpAny_bind (wpAny_letGo ?_)
      cases c with
      | false =>
        simp only [Bool.false_eq_true, if_false] at hc ⊢
        obtain ⟨m', hm, w'⟩ := hNx _ _ hc
        refine wpAny_pure ⟨plainId_quiet F.plain_any_loop _, ?_⟩
        obtain ⟨gs2, k, h1, h2, h3⟩ := res s' ip z m' H ⟨gs1, hgs1, hgs1⟩ hm ⟨w', hip, I, ht, nf⟩
        exact ih k (by omega) s' ⟨gs2, h1, h3⟩ I.nolimit (hgen _ _ _ I)
      | true =>
        simp only [if_true] at hc ⊢
        refine wpAny_bind (wpAny_rule (wpAny_pure ?_))
        exact hR true ip H s' I hc
end
section
variable {X : Cx} {s4 : Shared} {H4 : Hp} {cenv : Env} {fp : List Addr} {pn : List (Addr × Obj)} {tn : Nat → Heap → Prop} {σ0 : L2.St} {W : Nat → Nat → Int → Hp → Prop} {Ip : Int → List (Addr × Obj) → Prop}
  {Sp : Int → Hp → Prop} {Yw : Int → (Int → Hp → Prop) → V → Hp → Prop} {a : Addr} {g : Nat}
/-- sum's own list -/
abbrev accObj (z : Int) (t : Tok) (c : Nat) : Obj := { cls := .type "list", dict := none, data := .seq #[.int z t] c, slots := #[] }
def IpSum (S : Addr) (z : Int) (ip : List (Addr × Obj)) : Prop := ∃ t c, ip = [(S, accObj z t c)]
theorem inv_acc {S : Addr} {H : Hp} {s : Shared} {z z' : Int} {t t' : Tok} {c c' : Nat} {h' : Heap} {tk : Nat} (I : Inv (gcx X s4 H4 cenv fp pn) [(S, accObj z t c)] σ0 H s)
    (hSfp : S ∉ fp) (hSpn : ∀ p ∈ pn, p.1 ≠ S) (hS4 : s4.heap.objs.size ≤ S) (hk : ∀ b o, b ≠ S → s.heap.get? b = some o → h'.get? b = some o) (hS : h'.get? S = some (accObj z' t' c')) :
    Inv (gcx X s4 H4 cenv fp pn) [(S, accObj z' t' c')] σ0 H { s with heap := h', toks := tk } := by
  obtain ⟨p1, p2, p3, p4, p5⟩ := I.pin (S, accObj z t c) (List.mem_append_right _ (List.mem_singleton.mpr rfl))
  have I0 : Inv (gcx X s4 H4 cenv fp pn) [] σ0 H s := I.pins_of fun p hp => absurd hp (by simp)
  have I1 : Inv (gcx X s4 H4 cenv fp pn) [] σ0 H { s with heap := h', toks := tk } := by
    refine I0.turned (it := S) hk p2 p3 (.inr hS4) (fun x cc e zz => ?_) fun p hp => ?_
    · obtain ⟨v, o, ho, hd⟩ := I.cell x cc e
      rw [zz, p1] at ho
      cases ho
      cases hd
    · rw [List.append_nil] at hp
      exact hSpn p hp
  refine I1.pins_of fun p hp => ?_
  rw [List.mem_singleton.mp hp]
  exact ⟨hS, p2, p3, p4, fun v q => by cases q⟩
theorem sum_loop {Rr : Result → Shared → Prop} {Qf : Int → Hp → Prop} {S : Addr} (hh : X.A.handled = none) (hroom : X.A.depth < recursionLimit) (hgen : ∀ s ip H, Inv (gcx X s4 H4 cenv fp pn) ip σ0 H s → s.heap.IsGen a g)
    (hSfp : S ∉ fp) (hSpn : ∀ p ∈ pn, p.1 ≠ S) (hS4 : s4.heap.objs.size ≤ S) (hkeep : ∀ i (h h' : Heap), tn i h → (∀ b ∈ fp, ∀ o, h.get? b = some o → h'.get? b = some o) → tn i h')
    (hSp : ∀ z H, Sp z H → Qf z H) (hYw : ∀ z Nx y H, Yw z Nx y H → ∃ v, y = .int v ∧ InLong v ∧ InLong (z + v) ∧ Nx (z + v) H)
    (hR : ∀ z t ip H s', Inv (gcx X s4 H4 cenv fp pn) ip σ0 H s' → Qf z H → Rr (.ok (.ret (.int z t))) s') :
    ∀ (n : Nat) (s : Shared) (z0 : Int) (tA : Tok) (c0 : Nat), s.heap.get? S = some (accObj z0 tA c0) →
      (∃ gs, s.gens[g]? = some gs ∧ gs.Goes (model X.prog X.w) X.A.in1.in1 (fun n s₀ r s₁ => r = .ok .next ∧ GEndP X s4 H4 cenv fp pn σ0 (IpSum S) Sp s₀ s₁) (GYield X s4 H4 cenv fp pn tn σ0 W (IpSum S) Yw) n (.send .none) (s.setGen g .running)) →
      s.heap.NoLimit → s.heap.IsGen a g → codeAny (model X.prog X.w) X.A (.builtin "sum.loop" ⟨[.ref a, .ref S, rawInt 0, rawInt 0], []⟩) Rr s := by
  intro n
  induction n using Nat.strongRecOn with
  | ind n ih =>
    intro s z0 tA c0 hS ⟨gs, hgs, hgo⟩ hl hg
    refine codeAny_builtin F.entry_sum_loop ?_
    rw [Around.under_plainId F.plain_sum_loop _]
    show wpAny _ X.A.in1 (seqItems? (.ref S) >>= _) _ _ s
    refine wpAny_bind (wpAny_seqItems hS rfl ?_)
    show wpAny _ X.A.in1 (tryCatch (pyNext (.ref a)) _ >>= _) _ _ s
    refine wpAny_bind (wpAny_tryCatch (next_of (A := X.A) hh hroom hl hg hgs hgo (fun z ip H s' h0 hip sp I => ?_) (fun i m z y v ip H Nx s' h0 ⟨gs1, hgs1⟩ ry hip I ht nf hNx yw res => ?_)))
    · obtain ⟨t, c, rfl⟩ := hip
      have e := h0 (S, accObj z t c) (List.mem_singleton.mpr rfl)
      rw [hS] at e
      injection Option.some.inj e with _ _ e3 _
      injection e3 with e4 _
      have e5 : Value.int z0 tA = Value.int z t := by
        have := congrArg (fun q : Array Value => q[0]?) e4
        simpa using this
      injection e5 with e6 e7
      subst e6
      exact wpAny_pure (hR z0 tA _ H s' I (hSp z0 H sp))
    · obtain ⟨t, c, rfl⟩ := hip
      have e := h0 (S, accObj z t c) (List.mem_singleton.mpr rfl)
      rw [hS] at e
      injection Option.some.inj e with _ _ e3 _
      injection e3 with e4 _
      have e5 : Value.int z0 tA = Value.int z t := by
        have := congrArg (fun q : Array Value => q[0]?) e4
        simpa using this
      injection e5 with e6 e7
      subst e6
      obtain ⟨v0, rfl, ⟨f1, f2⟩, ⟨f3, f4⟩, hnx⟩ := hYw z0 Nx y H yw
      obtain ⟨m', hm, w'⟩ := hNx _ _ hnx
      obtain ⟨tv, rfl⟩ : ∃ tv, v = Value.int v0 tv := ry
      have hS' : s'.heap.get? S = some (accObj z0 t c) := (I.pin (S, accObj z0 t c) (List.mem_append_right _ (List.mem_singleton.mpr rfl))).1
      have hc : ((decide (-(2 ^ 63) ≤ v0) && decide (v0 < 2 ^ 63)) && (decide (-(2 ^ 63) ≤ z0 + v0) && decide (z0 + v0 < 2 ^ 63))) = true := by
        simp only [Bool.and_eq_true, decide_eq_true_eq]
        exact ⟨⟨f1, f2⟩, f3, f4⟩
      show wpAny _ X.A.in1 (if (_ : Bool) = true then (mkInt (z0 + v0) >>= _) else _) _ _ _
      split
      · refine wpAny_bind (wpAny_mkInt ?_)
        show wpAny _ X.A.in1 (updateSeq S (fun _ => #[.int (z0 + v0) s'.toks]) >>= _) _ _ _
        refine wpAny_bind ?_
        refine wpAny_updateSeq hS' rfl (wpAny_pure ⟨plainId_quiet F.plain_sum_loop _, ?_⟩)
        obtain ⟨c', hup⟩ : ∃ c', (s'.heap.update S (Obj.mapSeq (fun _ => #[.int (z0 + v0) s'.toks]))).get? S = some (accObj (z0 + v0) s'.toks c') := ⟨_, Heap.get?_update_self _ hS' rfl⟩
        have I2 : Inv (gcx X s4 H4 cenv fp pn) [(S, accObj (z0 + v0) s'.toks c')] σ0 H { s' with heap := s'.heap.update S (Obj.mapSeq (fun _ => #[.int (z0 + v0) s'.toks])), toks := s'.toks + 1 } :=
          inv_acc I hSfp hSpn hS4 (fun b o hb e => (Heap.get?_update_other _ _ (Ne.symm hb)).trans e) hup
        obtain ⟨gs2, k, h1, h2, h3⟩ := res { s' with heap := s'.heap.update S (Obj.mapSeq (fun _ => #[.int (z0 + v0) s'.toks])), toks := s'.toks + 1 } [(S, accObj (z0 + v0) s'.toks c')] (z0 + v0) m' H ⟨gs1, hgs1, hgs1⟩ hm
          ⟨w', ⟨_, _, rfl⟩, I2, hkeep _ _ _ ht fun b hb o e => (Heap.get?_update_other _ _ (fun z : S = b => hSfp (by rw [z]; exact hb))).trans e, nf⟩
        exact ih k (by omega) _ (z0 + v0) s'.toks c' hup ⟨gs2, h1, h3⟩ I2.nolimit (hgen _ _ _ I2)
      · rename_i hneg
        exact absurd hc hneg
end

/-! ### the rules -/
section
variable {X : Cx}
/-- all(elt for tg in iter if ..), by an invariant W of the turn, a measure and the heap -/
def tAllG (P : Addr) (wi : TI) (g : TG) (tt : TT) (te : TE) (vs : List Nat) : TE := fun σ H Q => wi σ H fun J H1 => TabG H1 P ∧ ∀ H2, Tabbed P H1 H2 → ∃ W : Nat → Nat → Hp → Prop, (∃ m, W 0 m H2) ∧ ∀ i m H, W i m H →
  (J.stop i H ∧ Q (.bl true) H) ∨ (J.go i H ∧ ∃ Nx : Hp → Prop, (∀ H', Nx H' → ∃ m', m' < m ∧ W (i + 1) m' H') ∧ ∀ x H', J.yld i H x H' → g x (wipe σ vs) H' fun σ2 H2 => wipe σ2 vs = wipe σ vs ∧ tt σ2 H2 fun b H3 =>
    if b = true then te σ2 H3 fun y H4 => ∃ c, y = .bl c ∧ if c = true then Nx H4 else Q (.bl false) H4 else Nx H3)
def tAnyG (P : Addr) (wi : TI) (g : TG) (tt : TT) (te : TE) (vs : List Nat) : TE := fun σ H Q => wi σ H fun J H1 => TabG H1 P ∧ ∀ H2, Tabbed P H1 H2 → ∃ W : Nat → Nat → Hp → Prop, (∃ m, W 0 m H2) ∧ ∀ i m H, W i m H →
  (J.stop i H ∧ Q (.bl false) H) ∨ (J.go i H ∧ ∃ Nx : Hp → Prop, (∀ H', Nx H' → ∃ m', m' < m ∧ W (i + 1) m' H') ∧ ∀ x H', J.yld i H x H' → g x (wipe σ vs) H' fun σ2 H2 => wipe σ2 vs = wipe σ vs ∧ tt σ2 H2 fun b H3 =>
    if b = true then te σ2 H3 fun y H4 => ∃ c, y = .bl c ∧ if c = true then Q (.bl true) H4 else Nx H4 else Nx H3)
/-- sum(elt for ..): W bears the sum so far -/
def tSumG (P : Addr) (wi : TI) (g : TG) (tt : TT) (te : TE) (vs : List Nat) : TE := fun σ H Q => wi σ H fun J H1 => TabG H1 P ∧ ∀ H2, Tabbed P H1 H2 → ∃ W : Nat → Nat → Int → Hp → Prop, (∃ m, W 0 m 0 H2) ∧ ∀ i m z H, W i m z H →
  (J.stop i H ∧ Q (.int z) H) ∨ (J.go i H ∧ ∃ Nx : Int → Hp → Prop, (∀ z' H', Nx z' H' → ∃ m', m' < m ∧ W (i + 1) m' z' H') ∧ ∀ x H', J.yld i H x H' → g x (wipe σ vs) H' fun σ2 H2 => wipe σ2 vs = wipe σ vs ∧ tt σ2 H2 fun b H3 =>
    if b = true then te σ2 H3 fun y H4 => ∃ v, y = .int v ∧ InLong v ∧ InLong (z + v) ∧ Nx (z + v) H4 else Nx z H3)
variable {c P : Addr} {elt tg iter : Expr} {ifs : List Expr} {p pos gpos : Pos} {scope : Scope} {own : List (Str × Nat)} {wi : TI} {g : TG} {tt : TT} {te : TE} {k : Nat}
theorem pe_allG (hr : Room k X.A) (hgl : Gl X "all") (hm : X.mg "all" = none) (TB : TabB X.base X.mg c P) (hcode : X.env.code = .ref c) (ok : GenOk X.N X.env.scope scope own) (hN : X.N.Nodup) (hi : PI X tg iter wi)
    (hg : ∀ (s : Shared) (H : Hp) (C : Addr) (cl : List (Str × Addr)) (cd : Value) (fp : List Addr) (pn : List (Addr × Obj)), PG (gcx X s H (genEnv scope cl C cd builtinsNs X.env) fp pn) tg g)
    (ht : ∀ (s : Shared) (H : Hp) (C : Addr) (cl : List (Str × Addr)) (cd : Value) (fp : List Addr) (pn : List (Addr × Obj)), PTs (gcx X s H (genEnv scope cl C cd builtinsNs X.env) fp pn) ifs tt)
    (he : ∀ (s : Shared) (H : Hp) (C : Addr) (cl : List (Str × Addr)) (cd : Value) (fp : List Addr) (pn : List (Addr × Obj)), PE (gcx X s H (genEnv scope cl C cd builtinsNs X.env) fp pn) elt te)
    (hs : ∀ v, genFold iter X.env v = pure v := by intro _; rfl)
    (hst : starEach [.GeneratorExp elt [⟨tg, iter, ifs, 0⟩] scope gpos] X.env = (false, eval (.GeneratorExp elt [⟨tg, iter, ifs, 0⟩] scope gpos) X.env) :: starEach [] X.env := by rfl) :
    PE X (.Call (.Name "all" p) [.GeneratorExp elt [⟨tg, iter, ifs, 0⟩] scope gpos] [] pos) (tAllG P wi g tt te (own.map (·.2))) := by
  refine ⟨fun pins s σ H Q I h => ?_⟩
  refine wpAny_Call_Name_kw (ld_blt I hgl hm boot_all ?_)
  refine PyProof.Rows.callWith_builtin1 ?_ hst (by rfl)
  rw [hst]
  show wpAny _ _ (spliced ((false, eval (.GeneratorExp elt [⟨tg, iter, ifs, 0⟩] scope gpos) X.env) :: backTo pos (starEach [] X.env))) _ _ s
  refine Calls.spliced_cons (gen_made hr TB hcode ok hN hi hs I h fun J H2 s4 s5 cenv it fp tn a gn go hR M => ?_)
  obtain ⟨W, ⟨m0, w0⟩, turn⟩ := hR
  obtain ⟨C, cd, rfl⟩ := M.env
  refine Calls.spliced_nil ?_
  refine call_function_tree F.kind_all F.plain_all F.entry_all (F.args_all1 _) ?_
  unfold Builtin.«all»
  refine wpAny_bind (m := oneArg "all" _) (wpAny_pure ?_)
  have hgen : ∀ s ip H, Inv (gcx X s4 H2 (genEnv scope (cloFrom X.env.cells scope.names []) C cd builtinsNs X.env) fp [(a, go)]) ip (wipe σ (own.map (·.2))) H s → s.heap.IsGen a gn := fun s ip H I' =>
    M.gen _ (I'.pin (a, go) (List.mem_append_left _ (List.mem_singleton.mpr rfl))).1
  have hg5 := hgen _ _ _ M.inv
  refine wpAny_bind (wpAny_pyIter_gen hg5 ?_)
  have sg := seg_first (W := fun i m _ H => W i m H) (Ip := fun _ ip => ip = []) (Sp := fun _ H => Q (.bl true) H) (Yw := fun z Nx y H => ∃ c, y = .bl c ∧ if c = true then Nx z H else Q (.bl false) H) (vs := own.map (·.2)) (σ0 := wipe σ (own.map (·.2)))
    (iter := iter) (scope := scope) (pos := gpos) (s := s5.setGen gn .running) (s₀ := s5.setGen gn .running) (m := m0) (n := m0 + 1) (z := 0) (ip := []) (H := H2) ok.co (fun z ip hip b hb q hq e => ?_) M.turn (hg s4 H2 C (cloFrom X.env.cells scope.names []) cd fp [(a, go)]) (ht s4 H2 C (cloFrom X.env.cells scope.names []) cd fp [(a, go)]) (he s4 H2 C (cloFrom X.env.cells scope.names []) cd fp [(a, go)])
    (fun i m z H w => ?_) (Nat.lt_succ_self _) ⟨w0, rfl, inv_gens M.inv (allBare_setGen M.inv.bare rfl), M.tn0, fun b hb => (M.fok b hb).1⟩ (fun p hp => absurd hp (by simp))
  · exact wpAny_pure ⟨plainId_quiet F.plain_all_loop _, all_loop (Qf := fun b H => Q (.bl b) H) hr.hd (by have := hr.dp; omega) hgen (fun _ _ h => h) (fun z Nx y H h => h) (fun b ip H s' I' q => ⟨.bl b, H, back M.i4 M.fok I', rfl, q⟩) (m0 + 1) s5 ⟨_, M.gs, rfl, sg⟩ M.inv.nolimit hg5⟩
  · subst hip
    rw [List.append_nil] at hq
    rw [List.mem_singleton.mp hq] at e
    have := M.fa b hb
    rw [← e] at this
    exact Nat.lt_irrefl _ this
  · rcases turn i m H w with h1 | ⟨go1, Nx, h2, h3⟩
    · exact .inl h1
    · exact .inr ⟨go1, fun _ H => Nx H, fun _ H' => h2 H', h3⟩
theorem pe_anyG (hr : Room k X.A) (hgl : Gl X "any") (hm : X.mg "any" = none) (TB : TabB X.base X.mg c P) (hcode : X.env.code = .ref c) (ok : GenOk X.N X.env.scope scope own) (hN : X.N.Nodup) (hi : PI X tg iter wi)
    (hg : ∀ (s : Shared) (H : Hp) (C : Addr) (cl : List (Str × Addr)) (cd : Value) (fp : List Addr) (pn : List (Addr × Obj)), PG (gcx X s H (genEnv scope cl C cd builtinsNs X.env) fp pn) tg g)
    (ht : ∀ (s : Shared) (H : Hp) (C : Addr) (cl : List (Str × Addr)) (cd : Value) (fp : List Addr) (pn : List (Addr × Obj)), PTs (gcx X s H (genEnv scope cl C cd builtinsNs X.env) fp pn) ifs tt)
    (he : ∀ (s : Shared) (H : Hp) (C : Addr) (cl : List (Str × Addr)) (cd : Value) (fp : List Addr) (pn : List (Addr × Obj)), PE (gcx X s H (genEnv scope cl C cd builtinsNs X.env) fp pn) elt te)
    (hs : ∀ v, genFold iter X.env v = pure v := by intro _; rfl)
    (hst : starEach [.GeneratorExp elt [⟨tg, iter, ifs, 0⟩] scope gpos] X.env = (false, eval (.GeneratorExp elt [⟨tg, iter, ifs, 0⟩] scope gpos) X.env) :: starEach [] X.env := by rfl) :
    PE X (.Call (.Name "any" p) [.GeneratorExp elt [⟨tg, iter, ifs, 0⟩] scope gpos] [] pos) (tAnyG P wi g tt te (own.map (·.2))) := by
  refine ⟨fun pins s σ H Q I h => ?_⟩
  refine wpAny_Call_Name_kw (ld_blt I hgl hm boot_any ?_)
  refine PyProof.Rows.callWith_builtin1 ?_ hst (by rfl)
  rw [hst]
  show wpAny _ _ (spliced ((false, eval (.GeneratorExp elt [⟨tg, iter, ifs, 0⟩] scope gpos) X.env) :: backTo pos (starEach [] X.env))) _ _ s
  refine Calls.spliced_cons (gen_made hr TB hcode ok hN hi hs I h fun J H2 s4 s5 cenv it fp tn a gn go hR M => ?_)
  obtain ⟨W, ⟨m0, w0⟩, turn⟩ := hR
  obtain ⟨C, cd, rfl⟩ := M.env
  refine Calls.spliced_nil ?_
  refine call_function_tree F.kind_any F.plain_any F.entry_any (F.args_any1 _) ?_
  unfold Builtin.«any»
  refine wpAny_bind (m := oneArg "any" _) (wpAny_pure ?_)
  have hgen : ∀ s ip H, Inv (gcx X s4 H2 (genEnv scope (cloFrom X.env.cells scope.names []) C cd builtinsNs X.env) fp [(a, go)]) ip (wipe σ (own.map (·.2))) H s → s.heap.IsGen a gn := fun s ip H I' =>
    M.gen _ (I'.pin (a, go) (List.mem_append_left _ (List.mem_singleton.mpr rfl))).1
  have hg5 := hgen _ _ _ M.inv
  refine wpAny_bind (wpAny_pyIter_gen hg5 ?_)
  have sg := seg_first (W := fun i m _ H => W i m H) (Ip := fun _ ip => ip = []) (Sp := fun _ H => Q (.bl false) H) (Yw := fun z Nx y H => ∃ c, y = .bl c ∧ if c = true then Q (.bl true) H else Nx z H) (vs := own.map (·.2)) (σ0 := wipe σ (own.map (·.2)))
    (iter := iter) (scope := scope) (pos := gpos) (s := s5.setGen gn .running) (s₀ := s5.setGen gn .running) (m := m0) (n := m0 + 1) (z := 0) (ip := []) (H := H2) ok.co (fun z ip hip b hb q hq e => ?_) M.turn (hg s4 H2 C (cloFrom X.env.cells scope.names []) cd fp [(a, go)]) (ht s4 H2 C (cloFrom X.env.cells scope.names []) cd fp [(a, go)]) (he s4 H2 C (cloFrom X.env.cells scope.names []) cd fp [(a, go)])
    (fun i m z H w => ?_) (Nat.lt_succ_self _) ⟨w0, rfl, inv_gens M.inv (allBare_setGen M.inv.bare rfl), M.tn0, fun b hb => (M.fok b hb).1⟩ (fun p hp => absurd hp (by simp))
  · exact wpAny_pure ⟨plainId_quiet F.plain_any_loop _, any_loop (Qf := fun b H => Q (.bl b) H) hr.hd (by have := hr.dp; omega) hgen (fun _ _ h => h) (fun z Nx y H h => h) (fun b ip H s' I' q => ⟨.bl b, H, back M.i4 M.fok I', rfl, q⟩) (m0 + 1) s5 ⟨_, M.gs, rfl, sg⟩ M.inv.nolimit hg5⟩
  · subst hip
    rw [List.append_nil] at hq
    rw [List.mem_singleton.mp hq] at e
    have := M.fa b hb
    rw [← e] at this
    exact Nat.lt_irrefl _ this
  · rcases turn i m H w with h1 | ⟨go1, Nx, h2, h3⟩
    · exact .inl h1
    · exact .inr ⟨go1, fun _ H => Nx H, fun _ H' => h2 H', h3⟩
theorem pe_sumG (hr : Room k X.A) (hgl : Gl X "sum") (hm : X.mg "sum" = none) (TB : TabB X.base X.mg c P) (hcode : X.env.code = .ref c) (ok : GenOk X.N X.env.scope scope own) (hN : X.N.Nodup) (hi : PI X tg iter wi)
    (hg : ∀ (s : Shared) (H : Hp) (C : Addr) (cl : List (Str × Addr)) (cd : Value) (fp : List Addr) (pn : List (Addr × Obj)), PG (gcx X s H (genEnv scope cl C cd builtinsNs X.env) fp pn) tg g)
    (ht : ∀ (s : Shared) (H : Hp) (C : Addr) (cl : List (Str × Addr)) (cd : Value) (fp : List Addr) (pn : List (Addr × Obj)), PTs (gcx X s H (genEnv scope cl C cd builtinsNs X.env) fp pn) ifs tt)
    (he : ∀ (s : Shared) (H : Hp) (C : Addr) (cl : List (Str × Addr)) (cd : Value) (fp : List Addr) (pn : List (Addr × Obj)), PE (gcx X s H (genEnv scope cl C cd builtinsNs X.env) fp pn) elt te)
    (hs : ∀ v, genFold iter X.env v = pure v := by intro _; rfl)
    (hst : starEach [.GeneratorExp elt [⟨tg, iter, ifs, 0⟩] scope gpos] X.env = (false, eval (.GeneratorExp elt [⟨tg, iter, ifs, 0⟩] scope gpos) X.env) :: starEach [] X.env := by rfl) :
    PE X (.Call (.Name "sum" p) [.GeneratorExp elt [⟨tg, iter, ifs, 0⟩] scope gpos] [] pos) (tSumG P wi g tt te (own.map (·.2))) := by
  refine ⟨fun pins s σ H Q I h => ?_⟩
  refine wpAny_Call_Name_kw (ld_blt I hgl hm boot_sum ?_)
  refine PyProof.Rows.callWith_builtin1 ?_ hst (by rfl)
  rw [hst]
  show wpAny _ _ (spliced ((false, eval (.GeneratorExp elt [⟨tg, iter, ifs, 0⟩] scope gpos) X.env) :: backTo pos (starEach [] X.env))) _ _ s
  refine Calls.spliced_cons (gen_made hr TB hcode ok hN hi hs I h fun J H2 s4 s5 cenv it fp tn a gn go hR M => ?_)
  obtain ⟨W, ⟨m0, w0⟩, turn⟩ := hR
  obtain ⟨C, cd, rfl⟩ := M.env
  refine Calls.spliced_nil ?_
  refine call_function_tree F.kind_sum F.plain_sum F.entry_sum (F.args_sum1 _) ?_
  unfold Builtin.«sum»
  simp only [List.length_cons, List.length_nil]
  rw [if_neg (by decide)]
  refine wpAny_bind (wpAny_of_eq (show Builtin.Builtins.bindParams "sum" ["start"] 0 { } = pure [none] from rfl) ?_)
  have hgen : ∀ s ip H, Inv (gcx X s4 H2 (genEnv scope (cloFrom X.env.cells scope.names []) C cd builtinsNs X.env) fp [(a, go)]) ip (wipe σ (own.map (·.2))) H s → s.heap.IsGen a gn := fun s ip H I' =>
    M.gen _ (I'.pin (a, go) (List.mem_append_left _ (List.mem_singleton.mpr rfl))).1
  have hg5 := hgen _ _ _ M.inv
  refine wpAny_bind (wpAny_pyIter_gen hg5 ?_)
  refine wpAny_bind (wpAny_mkInt ?_)
  refine wpAny_bind (wpAny_pure ?_)
  simp only [List.forIn_cons, List.forIn_nil]
  refine wpAny_bind (wpAny_bind (wpAny_bind (wpAny_isInstance (T := "int") (b := false) (typeIs_int _ _ _) PySem.sub_int_str ?_)))
  simp only [Bool.false_eq_true, if_false]
  refine wpAny_pure (wpAny_bind (wpAny_bind (wpAny_isInstance (T := "int") (b := false) (typeIs_int _ _ _) PySem.sub_int_bytes ?_)))
  simp only [Bool.false_eq_true, if_false]
  refine wpAny_pure (wpAny_bind (wpAny_bind (wpAny_isInstance (T := "int") (b := false) (typeIs_int _ _ _) PySem.sub_int_bytearray ?_)))
  simp only [Bool.false_eq_true, if_false]
  refine wpAny_pure (wpAny_pure ?_)
  refine wpAny_bind (wpAny_newObj_type ?_)
  have Sz : s4.heap.objs.size ≤ s5.heap.objs.size := M.inv.sz
  have hSfp : s5.heap.objs.size ∉ fp := fun hm => by
    have h1 := M.fa _ hm
    have h2 := M.lt
    exact absurd (Nat.lt_trans h1 h2) (Nat.lt_irrefl _)
  have I6 : Inv (gcx X s4 H2 (genEnv scope (cloFrom X.env.cells scope.names []) C cd builtinsNs X.env) fp [(a, go)]) [(s5.heap.objs.size, accObj 0 s5.toks 0)] (wipe σ (own.map (·.2))) H2 { s5 with heap := s5.heap.push (accObj 0 s5.toks 0), toks := s5.toks + 1 } := by
    have I0 : Inv (gcx X s4 H2 (genEnv scope (cloFrom X.env.cells scope.names []) C cd builtinsNs X.env) fp [(a, go)]) [] (wipe σ (own.map (·.2))) H2 { s5 with heap := s5.heap.push (accObj 0 s5.toks 0), toks := s5.toks + 1 } := M.inv.kept fun b o e => Heap.get?_push_of_some _ e
    refine I0.pins_of fun p hp => ?_
    rw [List.mem_singleton.mp hp]
    have fk := M.inv.fpOk (Nat.le_refl _) (M.inv.hok.fresh (Nat.le_refl _))
    exact ⟨Heap.get?_push_size _ rfl, fk.1, fk.2.1, fk.2.2.1, fun v q => by cases q⟩
  generalize hs6 : ({ s5 with heap := s5.heap.push (accObj 0 s5.toks 0), toks := s5.toks + 1 } : Shared) = s6 at I6
  have hS6 : s6.heap.get? s5.heap.objs.size = some (accObj 0 s5.toks 0) := (I6.pin (s5.heap.objs.size, accObj 0 s5.toks 0) (List.mem_append_right _ (List.mem_singleton.mpr rfl))).1
  have gs6 : s6.gens = s5.gens := by rw [← hs6]
  have st6 : tn 0 s6.heap := M.turn.keep _ _ _ M.tn0 fun b _ o e => by rw [← hs6]; exact Heap.get?_push_of_some _ e
  have sg := seg_first (W := W) (Ip := IpSum s5.heap.objs.size) (Sp := fun z H => Q (.int z) H) (Yw := fun z Nx y H => ∃ v, y = .int v ∧ InLong v ∧ InLong (z + v) ∧ Nx (z + v) H) (vs := own.map (·.2)) (σ0 := wipe σ (own.map (·.2)))
    (iter := iter) (scope := scope) (pos := gpos) (s := s6.setGen gn .running) (s₀ := s6.setGen gn .running) (m := m0) (n := m0 + 1) (z := 0) (ip := [(s5.heap.objs.size, accObj 0 s5.toks 0)]) (H := H2) ok.co (fun z ip hip b hb q hq e => ?_) M.turn (hg s4 H2 C (cloFrom X.env.cells scope.names []) cd fp [(a, go)]) (ht s4 H2 C (cloFrom X.env.cells scope.names []) cd fp [(a, go)]) (he s4 H2 C (cloFrom X.env.cells scope.names []) cd fp [(a, go)])
    (show Turns J g tt te (wipe σ (own.map (·.2))) (own.map (·.2)) W (fun z H => Q (.int z) H) (fun z Nx y H => ∃ v, y = .int v ∧ InLong v ∧ InLong (z + v) ∧ Nx (z + v) H) from turn) (Nat.lt_succ_self _) ⟨w0, ⟨_, _, rfl⟩, inv_gens I6 (allBare_setGen I6.bare rfl), st6, fun b hb => (M.fok b hb).1⟩ (fun p hp => by rw [List.mem_singleton.mp hp]; exact hS6)
  · refine wpAny_pure ⟨plainId_quiet F.plain_sum_loop _, ?_⟩
    exact sum_loop (W := W) (S := s5.heap.objs.size) (a := a) (Qf := fun z H => Q (.int z) H) hr.hd (by have := hr.dp; omega) hgen hSfp (fun p hp e => by
        rw [List.mem_singleton.mp hp] at e
        have h2 := M.lt
        rw [show a = s5.heap.objs.size from e] at h2
        exact Nat.lt_irrefl _ h2) Sz M.turn.keep (fun _ _ h => h) (fun z Nx y H h => h) (fun z t ip H s' I' q => ⟨.int z, H, back M.i4 M.fok I', ⟨t, rfl⟩, q⟩) (m0 + 1) s6 0 s5.toks 0 hS6 ⟨.fresh _, by rw [gs6]; exact M.gs, rfl, sg⟩ I6.nolimit (hgen _ _ _ I6)
  · obtain ⟨t, c, rfl⟩ := hip
    rcases List.mem_append.mp hq with hq | hq
    · rw [List.mem_singleton.mp hq] at e
      have := M.fa b hb
      rw [← e] at this
      exact Nat.lt_irrefl _ this
    · rw [List.mem_singleton.mp hq] at e
      exact hSfp (by rw [show s5.heap.objs.size = b from e]; exact hb)
end
end GX

namespace GE
open PySem PySem.Spec PyProof.Rows L2
open AutoSeq1 (wpAny_loadPart')
theorem enum_newT (l : Addr) (items : Array Value) (n : Nat) (dct : Option Addr) (sl : Array (Option Value)) :
    Meets (Builtin.«enumerate.__new__» ⟨[.type "enumerate", .ref l], []⟩) (fun _ R s => s.heap.get? l = some { cls := .type "tuple", dict := dct, data := .seq items n, slots := sl } ∧
      R (.ok (.ret (.ref (s.heap.push { cls := .type "tuple_iterator", data := .fields #[.ref l, .int 0 0] }).objs.size)))
        { s with heap := (s.heap.push { cls := .type "tuple_iterator", data := .fields #[.ref l, .int 0 0] }).push { cls := .type "enumerate", data := .fields #[.none, .bool false, .ref s.heap.objs.size, rawInt 0, .none, .none] } }) :=
  .of_wp fun prog w A R s h => by
    obtain ⟨hp, g, d, tk, os⟩ := s; obtain ⟨hl, h⟩ := h
    have hsub := sub_enumerate
    have hL : Heap.IsTuple (Shared.heap ⟨hp, g, d, tk, os⟩) l items := ⟨_, hl, rfl, n, rfl⟩
    wp_walk using wpAny_loadPart' hl
    refine wpAny_stack_any fun st => wpAny_pure ?_
    split
    · rename_i c _ _ _ _ _
      cases (c == Value.type "enumerate")
      · wp_walk using wpAny_loadPart' hl, wpAny_pyIter_tuple hL
        exact ⟨_, rfl, h⟩
      · wp_walk using wpAny_loadPart' hl, wpAny_pyIter_tuple hL
        exact ⟨_, rfl, h⟩
    · wp_walk using wpAny_loadPart' hl, wpAny_pyIter_tuple hL
      exact ⟨_, rfl, h⟩

section
variable {prog : Program} {w : World} {A : Around} {E : Value → Shared → Prop} {s : Shared}
theorem enum_callT {l : Addr} {items : Array Value} {Q : Value → Shared → Prop} (hL : s.heap.IsTuple l items)
    (h : ∀ h', IsEnum h' (s.heap.objs.size + 1) s.heap.objs.size 0 .none → h'.IsTupleIter s.heap.objs.size l 0 → h'.objs.size = s.heap.objs.size + 2 →
      (∀ b o, s.heap.get? b = some o → h'.get? b = some o) → Q (.ref (s.heap.objs.size + 1)) { s with heap := h' }) :
    wpAny (model prog w) A (call (.type "enumerate") [.ref l]) Q E s := by
  obtain ⟨⟨c, dct, dt, sl⟩, hl, hc, n, hd⟩ := hL
  replace hc : c = .type "tuple" := hc
  replace hd : dt = .seq items n := hd
  subst hc hd
  refine callType_new F.called_enumerate (by decide) (F.typeCall_enumerate_1 _) (F.newCall_enumerate_1 _) (fun obj => F.args_object_init_2 obj _) F.entry_enumerate_new
    (enum_newT l items n dct sl) ⟨hl, ?_⟩
  have hz : (s.heap.push { cls := .type "tuple_iterator", data := .fields #[.ref l, .int 0 0] }).objs.size = s.heap.objs.size + 1 := Heap.size_push ..
  show _ ∧ _
  rw [hz]
  have he : IsEnum ((s.heap.push { cls := .type "tuple_iterator", data := .fields #[.ref l, .int 0 0] }).push
      { cls := .type "enumerate", data := .fields #[.none, .bool false, .ref s.heap.objs.size, rawInt 0, .none, .none] }) (s.heap.objs.size + 1) s.heap.objs.size 0 .none := by
    have := Heap.get?_push_size (s.heap.push { cls := .type "tuple_iterator", data := .fields #[.ref l, .int 0 0] })
      (o := { cls := .type "enumerate", data := .fields #[.none, .bool false, .ref s.heap.objs.size, rawInt 0, .none, .none] }) rfl
    rw [hz] at this; exact this
  refine ⟨⟨_, he, rfl⟩, h _ he ⟨_, Heap.get?_push_of_some _ (Heap.get?_push_size _ rfl), rfl, rfl⟩ (by rw [Heap.size_push, hz]) fun b o x => Heap.get?_push_of_some _ (Heap.get?_push_of_some _ x)⟩

theorem nextOf_tup {it l : Addr} {i : Nat} {items} {x : Value} {Q : Value → Shared → Prop} (hit : s.heap.IsTupleIter it l i)
    (hl : s.heap.IsTuple l items) (hx : items[i]? = some x)
    (hQ : ∀ h', h'.IsTupleIter it l (i + 1) → Heap.SameBut it s.heap h' → Q x { s with heap := h' }) :
    wpAny (model prog w) A (Builtin.SmallTypes.nextOf (.ref it)) Q E s := by
  obtain ⟨o, ho, hc, hd⟩ := id hit
  obtain ⟨ol, hol, _, nl, hdl⟩ := hl
  unfold Builtin.SmallTypes.nextOf
  refine wpAny_bind (wpAny_callSpecial?_slot (name := Str.ofString "__next__") hit.typeIs F.slot_tuple_iterator_next
    (wpAny_call_entry F.slot_tuple_iterator_next hit.typeIs F.entry_tuple_iterator_next ?_ (F.args_tuple_iterator_next_1 _)))
  show wpAny _ _ (field (.ref it) 0 >>= _) _ _ s
  refine wpAny_bind (wpAny_field ho hd (x := .ref l) rfl ?_)
  show wpAny _ _ (if (Value.ref l == Value.none) = true then _ else _) _ _ s
  rw [if_neg (show ¬ ((Value.ref l == Value.none) = true) from Bool.false_ne_true)]
  show wpAny _ _ (field (.ref it) 1 >>= _) _ _ s
  refine wpAny_bind (wpAny_field ho hd (x := .int i 0) rfl ?_)
  show wpAny _ _ (seqItems? (.ref l) >>= _) _ _ s
  refine wpAny_bind (wpAny_seqItems hol hdl ?_)
  simp only [Int.toNat_natCast, hx]
  refine wpAny_bind (wpAny_setField ho hd (by simp) (wpAny_pure ⟨x, rfl, wpAny_pure (hQ _ ?_ (Heap.SameBut.update ..))⟩))
  exact ⟨_, Heap.get?_update_self _ ho (Obj.isFreed_of_fields (Obj.data_mapFields hd _)), (Obj.cls_mapFields ..).trans hc, by
    rw [Obj.data_mapFields hd]; simp [rawInt]⟩

theorem nextOf_tupEnd {it l : Addr} {i : Nat} {items} {Q : Value → Shared → Prop} (hh : A.handled = none)
    (hit : s.heap.IsTupleIter it l i) (hl : s.heap.IsTuple l items) (hx : items[i]? = none)
    (hE : ∀ h' e, Heap.ExtBut it s.heap h' → (∃ o, h'.get? e = some o ∧ o.cls = .type "StopIteration") → E (.ref e) { s with heap := h' }) :
    wpAny (model prog w) A (Builtin.SmallTypes.nextOf (.ref it)) Q E s := by
  obtain ⟨o, ho, hc, hd⟩ := id hit
  obtain ⟨ol, hol, _, nl, hdl⟩ := hl
  unfold Builtin.SmallTypes.nextOf
  refine wpAny_bind (wpAny_callSpecial?_slot (name := Str.ofString "__next__") hit.typeIs F.slot_tuple_iterator_next
    (wpAny_call_entry F.slot_tuple_iterator_next hit.typeIs F.entry_tuple_iterator_next ?_ (F.args_tuple_iterator_next_1 _)))
  show wpAny _ _ (field (.ref it) 0 >>= _) _ _ s
  refine wpAny_bind (wpAny_field ho hd (x := .ref l) rfl ?_)
  show wpAny _ _ (if (Value.ref l == Value.none) = true then _ else _) _ _ s
  rw [if_neg (show ¬ ((Value.ref l == Value.none) = true) from Bool.false_ne_true)]
  show wpAny _ _ (field (.ref it) 1 >>= _) _ _ s
  refine wpAny_bind (wpAny_field ho hd (x := .int i 0) rfl ?_)
  show wpAny _ _ (seqItems? (.ref l) >>= _) _ _ s
  refine wpAny_bind (wpAny_seqItems hol hdl ?_)
  simp only [Int.toNat_natCast, hx]
  refine wpAny_bind (wpAny_rule (wpAny_bind (wpAny_setField ho hd (by simp) ?_)))
  show wpAny _ _ (newExc (.type "StopIteration") [] >>= _) _ _ _
  refine wpAny_bind ?_
  simp only [newExc, newTuple]
  refine wpAny_bind (wpAny_newObj_type ?_ (by size_fits))
  refine wpAny_bind (m := firstArgMember _ _) (wpAny_of_eq (a := Value.none) (by first | rfl | (simp only [firstArgMember]; rfl)) ?_)
  refine wpAny_newObj_type ?_ (by size_fits)
  simp only [raiseNew]
  refine wpAny_bind (wpAny_handled ?_)
  first | rw [show A.in1.handled = none from hh] | rw [hh]
  refine wpAny_bind (wpAny_pure (wpAny_throw ?_))
  exact hE _ _ (((Heap.SameBut.update ..).extBut.push _).push _) ⟨_, Heap.get?_push_size _ rfl, rfl⟩

theorem enum_nextT {e it l : Addr} {i : Nat} {items : Array Value} {x old : Value} {Q : Value → Shared → Prop}
    (he : IsEnum s.heap e it i old) (hit : s.heap.IsTupleIter it l i) (hl : s.heap.IsTuple l items) (hx : items[i]? = some x) (hne : e ≠ it)
    (hQ : ∀ h', IsEnumOut h' e it ((i : Int) + 1) x s.heap.objs.size → h'.IsTupleIter it l (i + 1) →
      h'.get? s.heap.objs.size = some { cls := .type "tuple", data := .seq #[.int i s.toks, x] } → h'.objs.size = s.heap.objs.size + 1 →
      (∀ b o, b ≠ e → b ≠ it → s.heap.get? b = some o → h'.get? b = some o) → Q (.ref s.heap.objs.size) { s with heap := h', toks := s.toks + 1 }) :
    wpAny (model prog w) A (Builtin.«enumerate.__next__» ⟨[.ref e], []⟩) (fun fin s' => ∃ v, fin = .done (.ret v) ∧ Q v s') E s := by
  obtain ⟨hp, g, d, tk, os⟩ := s
  show wpAny _ _ (field (.ref e) 2 >>= _) _ _ _
  refine wpAny_bind (wpAny_field he rfl (x := .ref it) rfl ?_)
  refine wpAny_bind (nextOf_tup hit hl hx fun h₁ hit₁ hs₁ => ?_)
  replace hs₁ : Heap.SameBut it hp h₁ := hs₁
  have he₁ : IsEnum h₁ e it i old := (hs₁.2 e hne).trans he
  show wpAny _ _ (field (.ref e) 3 >>= _) _ _ ⟨h₁, g, d, tk, os⟩
  refine wpAny_bind (wpAny_field he₁ rfl (x := rawInt i) rfl ?_)
  show wpAny _ _ (field (.ref e) 4 >>= _) _ _ ⟨h₁, g, d, tk, os⟩
  refine wpAny_bind (wpAny_field he₁ rfl (x := .none) rfl ?_)
  show wpAny _ _ (mkInt i >>= _) _ _ ⟨h₁, g, d, tk, os⟩
  refine wpAny_bind (wpAny_mkInt ?_)
  show wpAny _ _ (setField (.ref e) 3 (rawInt ((i : Int) + 1)) >>= _) _ _ ⟨h₁, g, d, tk + 1, os⟩
  refine wpAny_bind (wpAny_setField_rec he₁ (by simp) fun h₂ he₂ hs₂ => ?_)
  replace hs₂ : Heap.SameBut e h₁ h₂ := hs₂
  replace he₂ : IsEnum h₂ e it ((i : Int) + 1) old := he₂
  show wpAny _ _ (setField (.ref e) 4 .none >>= _) _ _ ⟨h₂, g, d, tk + 1, os⟩
  refine wpAny_bind (wpAny_setField_rec he₂ (by simp) fun h₃ he₃ hs₃ => ?_)
  replace hs₃ : Heap.SameBut e h₂ h₃ := hs₃
  replace he₃ : IsEnum h₃ e it ((i : Int) + 1) old := he₃
  show wpAny _ _ (newTuple [.int i tk, x] >>= _) _ _ ⟨h₃, g, d, tk + 1, os⟩
  refine wpAny_bind (wpAny_newTuple ?_)
  have he₄ : IsEnum (h₃.push { cls := .type "tuple", data := .seq #[.int i tk, x] }) e it ((i : Int) + 1) old := Heap.get?_push_of_some _ he₃
  generalize hh₄ : h₃.push { cls := .type "tuple", data := .seq #[.int i tk, x] } = h₄ at he₄
  have hsz : h₃.objs.size = hp.objs.size := by rw [hs₃.1, hs₂.1, hs₁.1]
  have hel : e < hp.objs.size := Heap.lt_size he
  have ht₄ : h₄.get? hp.objs.size = some { cls := .type "tuple", data := .seq #[.int i tk, x] } := by rw [← hh₄, ← hsz]; exact Heap.get?_push_size _ rfl
  have hz₄ : h₄.objs.size = hp.objs.size + 1 := by rw [← hh₄, Heap.size_push, hsz]
  have hk₄ : ∀ b o, b ≠ e → b ≠ it → hp.get? b = some o → h₄.get? b = some o := fun b o hbe hbi hb => by
    rw [← hh₄]; exact Heap.get?_push_of_some _ (hs₃.extBut b o hbe (hs₂.extBut b o hbe (hs₁.extBut b o hbi hb)))
  have hit₄ : h₄.IsTupleIter it l (i + 1) := by
    rw [← hh₄]; obtain ⟨o, ho, r⟩ := (hit₁.extBut hs₂.extBut (Ne.symm hne)).extBut hs₃.extBut (Ne.symm hne); exact ⟨o, Heap.get?_push_of_some _ ho, r⟩
  show wpAny _ _ (Builtin.SmallTypes.ownedTupleIsFree (.ref e) >>= _) _ _ ⟨h₄, g, d, tk + 1, os⟩
  rw [hsz]
  clear hh₄ he₃ hs₃ he₂ hs₂ he₁ hs₁ hit₁ hsz h₃ h₂ h₁
  refine wpAny_bind ?_
  · unfold Builtin.SmallTypes.ownedTupleIsFree
    refine wpAny_bind (wpAny_field he₄ rfl (x := .none) rfl (wpAny_pure ?_))
    simp only [if_true]
    refine wpAny_bind (wpAny_rule ?_)
    refine wpAny_bind (wpAny_field he₄ rfl (x := old) rfl ?_)
    refine wpAny_bind (wpAny_setField_rec he₄ (by simp) fun h₅ he₅ hs₅ => ?_)
    replace hs₅ : Heap.SameBut e h₄ h₅ := hs₅
    replace he₅ : IsEnum h₅ e it ((i : Int) + 1) x := he₅
    show wpAny _ _ (Builtin.SmallTypes.ownedTupleHandOut (.ref e) (.ref hp.objs.size) >>= _) _ _ ⟨h₅, g, d, tk + 1, os⟩
    refine wpAny_bind ?_
    · unfold Builtin.SmallTypes.ownedTupleHandOut
      refine wpAny_bind (wpAny_setField_rec he₅ (by simp) fun h₆ he₆ hs₆ => ?_)
      replace hs₆ : Heap.SameBut e h₅ h₆ := hs₆
      replace he₆ : IsEnumOut h₆ e it ((i : Int) + 1) x hp.objs.size := he₆
      refine wpAny_setField_rec he₆ (by simp) fun h₇ he₇ hs₇ => ?_
      replace hs₇ : Heap.SameBut e h₆ h₇ := hs₇
      replace he₇ : IsEnumOut h₇ e it ((i : Int) + 1) x hp.objs.size := he₇
      refine wpAny_bind (wpAny_letGo (wpAny_pure ⟨_, rfl, hQ h₇ he₇ ?_ ?_ ?_ ?_⟩))
      · exact ((hit₄.extBut hs₅.extBut (Ne.symm hne)).extBut hs₆.extBut (Ne.symm hne)).extBut hs₇.extBut (Ne.symm hne)
      · exact hs₇.extBut _ _ (Nat.ne_of_gt hel) (hs₆.extBut _ _ (Nat.ne_of_gt hel) (hs₅.extBut _ _ (Nat.ne_of_gt hel) ht₄))
      · rw [hs₇.1, hs₆.1, hs₅.1, hz₄]
      · exact fun b o hbe hbi hb => hs₇.extBut b o hbe (hs₆.extBut b o hbe (hs₅.extBut b o hbe (hk₄ b o hbe hbi hb)))

theorem enum_itemT {e it l : Addr} {i : Nat} {items : Array Value} {x old : Value} {Q : Option Value → Shared → Prop}
    (he : IsEnum s.heap e it i old) (hit : s.heap.IsTupleIter it l i) (hl : s.heap.IsTuple l items) (hx : items[i]? = some x) (hne : e ≠ it)
    (hQ : ∀ h', IsEnumOut h' e it ((i : Int) + 1) x s.heap.objs.size → h'.IsTupleIter it l (i + 1) →
      h'.get? s.heap.objs.size = some { cls := .type "tuple", data := .seq #[.int i s.toks, x] } → h'.objs.size = s.heap.objs.size + 1 →
      (∀ b o, b ≠ e → b ≠ it → s.heap.get? b = some o → h'.get? b = some o) → Q (some (.ref s.heap.objs.size)) { s with heap := h', toks := s.toks + 1 }) :
    wpAny (model prog w) A (pyNext (.ref e)) Q E s := by
  have hT : s.TypeIs (.ref e) "enumerate" := ⟨_, he, rfl⟩
  unfold pyNext
  exact wpAny_bind (wpAny_attempt (wpAny_callSpecial?_slot (name := Str.ofString "__next__") hT F.slot_enumerate_next
    (wpAny_call_entry F.slot_enumerate_next hT F.entry_enumerate_next
      (enum_nextT he hit hl hx hne fun h' a b c d k => wpAny_pure (hQ h' a b c d k)) (F.args_enumerate_next_1 _))))

theorem enum_endT {e it l : Addr} {i : Nat} {items : Array Value} {old : Value} {Q : Option Value → Shared → Prop} (hh : A.handled = none)
    (he : IsEnum s.heap e it i old) (hit : s.heap.IsTupleIter it l i) (hl : s.heap.IsTuple l items) (hx : items[i]? = none)
    (hQ : ∀ h', Heap.ExtBut it s.heap h' → Q none { s with heap := h' }) : wpAny (model prog w) A (pyNext (.ref e)) Q E s := by
  have hT : s.TypeIs (.ref e) "enumerate" := ⟨_, he, rfl⟩
  unfold pyNext
  refine wpAny_bind (wpAny_attempt (wpAny_callSpecial?_slot (name := Str.ofString "__next__") hT F.slot_enumerate_next
    (wpAny_call_entry F.slot_enumerate_next hT F.entry_enumerate_next ?_ (F.args_enumerate_next_1 _))))
  show wpAny _ _ (field (.ref e) 2 >>= _) _ _ _
  refine wpAny_bind (wpAny_field he rfl (x := .ref it) rfl ?_)
  refine wpAny_bind (nextOf_tupEnd hh hit hl hx fun h' x he' hx' => ?_)
  obtain ⟨o, ho, hc⟩ := hx'
  refine wpAny_bind (wpAny_isInstance (T := "StopIteration") (b := true) ⟨o, ho, hc⟩ isSubtype_stop ?_)
  exact wpAny_pure (hQ _ he')
end
def IteT (K : PySem.W.Frag) (a : Addr) : It :=
  ⟨fun i H => ∃ (xs : List V) (x : V), SqT K H a xs ∧ xs[i]? = some x, fun i H v H' => ∃ T x, v = .ref T ∧ H T = none ∧ H' = upd H T (.tup [.int (i : Nat), x]) ∧ ∀ xs, SqT K H a xs → xs[i]? = some x, fun i H => ∃ xs : List V, SqT K H a xs ∧ xs.length ≤ i⟩
theorem turn_enumT {P : Program} {w : World} {K : PySem.W.Frag} {elts : List Expr} {kk : Nat} {tpos : Pos} (a e it : Addr) :
    Turn P w K (.Tuple elts kk tpos) (IteT K a) [e, it] e (fun i h => (∃ old, IsEnum h e it ((i : Nat) : Int) old) ∧ h.IsTupleIter it a i ∧ e ≠ it) where
  mem := by simp
  obj := fun i h st b hb => by
    obtain ⟨⟨old, he⟩, ⟨o, ho, hc, hd⟩, _⟩ := st
    have e' : b = e ∨ b = it := by simpa using hb
    rcases e' with z | z
    · rw [z]; exact ⟨_, he, fun v q => nomatch q⟩
    · rw [z]; exact ⟨o, ho, fun v q => by rw [hd] at q; cases q⟩
  keep := fun i h h' st k => let ⟨⟨old, he⟩, hi, hne⟩ := st; ⟨⟨old, k e (by simp) _ he⟩, hi.at fun o q => k it (by simp) o q, hne⟩
  item := by
    intro X hP hw hK hc i pins s σ H E I hf st hg
    subst hP hw hK
    obtain ⟨⟨old, he⟩, hit, hne⟩ := st
    obtain ⟨xs, x, hq, hx⟩ := hg
    obtain ⟨its, rv, p, hz⟩ := I.tuple hq
    obtain ⟨u, hu, ru⟩ := rv.get hx
    have hel : e < s.heap.objs.size := Heap.lt_size he
    have hil : it < s.heap.objs.size := by obtain ⟨_, q, _⟩ := hit; exact Heap.lt_size q
    refine enum_itemT he hit (show Heap.IsTuple _ _ _ from p) (x := u) (by simpa using hu) hne fun h' ho hit' hT hsz hk => ?_
    refine ⟨_, rfl, wpAny_letOwnedTupleGo_enum (s := { s with heap := h', toks := s.toks + 1 }) ho fun h'' he' sb => ?_⟩
    have hT2 : h''.get? s.heap.objs.size = some { cls := .type "tuple", data := .seq #[.int i s.toks, u] } := (sb.2 _ (Nat.ne_of_gt hel)).trans hT
    have new : ObjOk X.prog X.w (upd H s.heap.objs.size (.tup [.int (i : Nat), x])) h'' s.heap.objs.size (.tup [.int (i : Nat), x]) :=
      ⟨by show 2 ≤ sizeLine; decide, [.int i s.toks, u], .cons ⟨_, rfl⟩ (.cons ru .nil), ⟨_, hT2, rfl, _, rfl⟩⟩
    have I1 : Inv X pins σ (upd H s.heap.objs.size (.tup [.int (i : Nat), x])) { s with heap := h'', toks := s.toks + 1 } :=
      I.turnedNew (ch := [e, it]) (fun b ob hb q => (sb.2 b (fun z => hb (by simp [z]))).trans (hk b ob (fun z => hb (by simp [z])) (fun z => hb (by simp [z])) q)) hf (Nat.le_refl _) new
    refine ⟨.ref s.heap.objs.size, _, I1, rfl, ⟨_, x, rfl, I.hok.fresh (Nat.le_refl _), rfl, fun ys hy => by rw [I.tuple_inj hy hq]; exact hx⟩, ⟨⟨u, ?_⟩, hit'.at fun o q => (sb.2 it (Ne.symm hne)).trans q, hne⟩, fun b hb => ?_⟩
    · have e1 : ((i + 1 : Nat) : Int) = (i : Int) + 1 := by omega
      rw [e1]; exact he'
    · have hb' : b < s.heap.objs.size := by
        have e' : b = e ∨ b = it := by simpa using hb
        rcases e' with z | z
        · rw [z]; exact hel
        · rw [z]; exact hil
      rw [upd_ne (Nat.ne_of_lt hb')]
      exact (hf b hb).1
  done := by
    intro X hP hw hK hc i pins s σ H E I hf st hg
    subst hP hw hK
    obtain ⟨⟨old, he⟩, hit, hne⟩ := st
    obtain ⟨xs, hq, hx⟩ := hg
    obtain ⟨its, rv, p, hz⟩ := I.tuple hq
    obtain ⟨f0, f1, f2, f3, f4, f5⟩ := hf it (by simp)
    have hl := rv.length
    exact enum_endT (I.ok.hd hc) he hit (show Heap.IsTuple _ _ _ from p) (by simp; omega) fun h' eb => ⟨rfl, I.turned (t' := s.toks) (fun b o hb q => eb b o hb q) f0 f1 f3 f4 f5⟩
  self := fun A i s Q E st h => let ⟨⟨_, he⟩, _⟩ := st; wpAny_pyIter_enum he h
def iEnumT (K : PySem.W.Frag) (ta : TA) : TI := fun σ H R => ta σ H fun vs H1 => ∃ a xs, vs = [.ref a] ∧ SqT K H1 a xs ∧ R (IteT K a) H1
theorem pi_enumT {X : Cx} {e : Expr} {ta : TA} {p pos tpos : Pos} {elts : List Expr} {kk : Nat} (hg : Gl X "enumerate") (hm : X.mg "enumerate" = none) (ha : PA X [e] ta) (hs : starEach [e] X.env = [(false, eval e X.env)] := by rfl) :
    PI X (.Tuple elts kk tpos) (.Call (.Name "enumerate" p) [e] [] pos) (iEnumT X.K ta) := by
  refine ⟨fun pins s σ H R I h => ?_⟩
  refine Call_ (ld_blt I hg hm boot_enumerate (PyProof.Rows.callWith_type1 (thn (ha.run pos pins s σ H _ I h) fun us s1 ⟨vs, H1, I1, r1, q1⟩ => ?_) hs rfl))
  obtain ⟨a, xs, ex, hq, q⟩ := q1
  subst ex
  cases r1 with
  | cons r rr =>
    cases rr
    cases r
    obtain ⟨its, rv, p', hz⟩ := I1.tuple hq
    refine enum_callT (show Heap.IsTuple _ _ _ from p') fun h' he hit hsz hk => wpAny_pyIter_enum he ?_
    have I2 : Inv X pins σ H1 { s1 with heap := h' } := I1.kept (t' := s1.toks) hk
    refine ⟨s1.heap.objs.size + 1, [s1.heap.objs.size + 1, s1.heap.objs.size], _, _, H1, rfl, I2, turn_enumT a (s1.heap.objs.size + 1) s1.heap.objs.size, ⟨⟨.none, he⟩, hit, Nat.succ_ne_self _⟩, fun b hb => ?_, q⟩
    have e' : b = s1.heap.objs.size + 1 ∨ b = s1.heap.objs.size := by simpa using hb
    have hle : s1.heap.objs.size ≤ b := by
      rcases e' with z | z
      · rw [z]; exact Nat.le_add_right _ _
      · rw [z]; exact Nat.le_refl _
    exact I1.fpOk hle (I1.hok.fresh hle)
end GE

namespace GX
open PySem PySem.Spec PyProof.Rows L2 GxR GenW
/-! ### small rules -/
def genOkB (N : List Str) (sc scope : Scope) (own : List (Str × Nat)) : Bool :=
  decide (scope.kind = .function) && (decide (scope.isCoroutine = false) && (scope.names.all (fun y => decide (scope.names.lookup y.1 = some y.2)) && (scope.names.all (fun y => decide (y.2 ≠ .cell)) && (decide (scope.names.lookup (".0" : Str) = some NameKind.local) &&
    (own.all (fun p => decide (N[p.2]? = some p.1)) && (scope.names.all (fun y => decide (y.2 ≠ .free) || (decide (sc.names.lookup y.1 = some .cell) || decide (sc.names.lookup y.1 = some .free))) && scope.names.all (fun y => decide (y.2 ≠ .local) || (decide (y.1 ∈ own.map (·.1)) || decide (y.1 ∉ N)))))))))
theorem genOk_by {N : List Str} {sc scope : Scope} {own : List (Str × Nat)} (h : genOkB N sc scope own = true) : GenOk N sc scope own := by
  unfold genOkB at h
  simp only [Bool.and_eq_true, List.all_eq_true, decide_eq_true_eq, Bool.or_eq_true] at h
  obtain ⟨h1, h2, h3, h4, h5, h6, h7, h8⟩ := h
  exact ⟨h1, h2, h3, h4, h5, h6, fun y hy e => (h7 y hy).elim (fun z => absurd e z) id, fun y hy e => (h8 y hy).elim (fun z => absurd e z) id⟩
theorem okT {CX : CXT} {P : Program} {w : World} {K : PySem.W.Frag} {mg : Str → Option Value} {base : Heap} {x qual : Str} {params : Arguments} {body : List Stmt} {scope : Scope} {dvs : List V} {kws : List (Str × V)} {f c : Addr} {fd : FuncData} {N ps : List Str} {k : Nat} {sp : Sp}
    (F : FunD K x qual params body scope dvs kws f fd) (hc : fd.code = .ref c) (S : FnScope N ps scope) (len : ∀ vs H Q E, sp vs H Q E → vs.length = ps.length)
    (hbody : ∀ (A : Around) (outer : List Env) (s : Shared) (H : Hp) (vs : List V) (Q : VK) (E : XK), Room k (A.deeper (envOfC qual scope s.heap.objs.size f (.ref c))) → sp vs H Q E →
      ∃ t, PSs (cxOf CX P w K mg base N qual scope f (.ref c) A outer s H E) body t ∧ t { nx := fun _ H' => Q .non H', rt := Q } (start N vs) H) : FnOk P w K mg base CX (k + 1) f fd ps sp := by
  obtain ⟨oc, od, dV, kV, doc, pm, an, cdv, ct, osl, rfl, lk, hcd, _, _⟩ := F.ex
  have e : cdv = .ref c := hc
  subst e
  exact fn_of lk hcd S len fun A outer s H vs Q E hr hsp => hbody A outer s H vs Q E hr hsp
/-- t[lo:hi], the whole of it too -/
def rSlTA (K : PySem.W.Frag) : V → Option Int → Option Int → Hp → VK → Prop := fun x lo hi H Q => ∃ a xs, x = .ref a ∧ SqT K H a xs ∧
  ((HT.sIx xs.length 0 lo = 0 ∧ HT.sIx xs.length xs.length hi = xs.length) → Q (.ref a) H) ∧ (¬ (HT.sIx xs.length 0 lo = 0 ∧ HT.sIx xs.length xs.length hi = xs.length) → ∀ p, H p = none → Q (.ref p) (upd H p (.tup (cutV xs lo hi))))
section
variable {prog : Program} {w : World} {A : Around} {E : Value → Shared → Prop} {s : Shared}
open HT in
theorem tup_whole {t sl : Addr} {items : Array Value} {vl vu : Value} {lo hi : Option Int} {Q : Value → Shared → Prop} (ht : IsTup s.heap t items) (hs : s.heap.IsSliceOf sl vl vu .none) (pl : IsPart vl lo) (pu : IsPart vu hi)
    (hw : sIx items.size 0 lo = 0 ∧ sIx items.size items.size hi = items.size) (h : Q (.ref t) s) : wpAny (model prog w) A (getItem (.ref t) (.ref sl)) Q E s := by
  obtain ⟨os, hos, hcs, hds⟩ := id hs
  have hTs : s.TypeIs (.ref sl) "slice" := ⟨os, hos, hcs⟩
  unfold getItem
  try with_reducible refine wpAny_holding ?_
  first | refine wpAny_bind (wpAny_pure ?_) | skip
  refine wpAny_bind (wpAny_sequenceKey ht.typeIs (by decide) ?_)
  refine wpAny_bind (wpAny_callSpecial?_slot (name := Str.ofString "__getitem__") ht.typeIs PyProof.Rows.slot_tuple_getitem
    (wpAny_call_entry PyProof.Rows.slot_tuple_getitem ht.typeIs entry_tuple_getitem ?_ (args_tuple_getitem _ _)))
  show wpAny _ _ (Builtin.Tuple.tupleItemsOf (.ref t) >>= _) _ _ s
  refine wpAny_bind (tupleItemsOf_ ht ?_)
  refine wpAny_bind (wpAny_typeOf hTs ?_)
  rw [if_pos (by decide)]
  refine wpAny_bind (sliceApplied_gen hs pl pu ?_)
  have hyes : ((((sIx items.size 0 lo : Nat) : Int) == 0 && (1 : Int) == 1 && (sIx items.size items.size hi - sIx items.size 0 lo) == items.size) = true) := by
    rw [hw.1, hw.2]
    simp
  show wpAny _ _ (if (((sIx items.size 0 lo : Nat) : Int) == 0 && (1 : Int) == 1 && (sIx items.size items.size hi - sIx items.size 0 lo) == items.size) = true then _ else _) _ _ s
  rw [if_pos hyes]
  obtain ⟨ot, hot, hct, nt, hdt⟩ := id ht
  refine wpAny_bind ?_
  unfold Builtin.Tuple.tupleIsExact
  refine wpAny_bind (wpAny_typeOf ht.typeIs (wpAny_pure ?_))
  rw [if_pos (by decide)]
  exact wpAny_bind (wpAny_rule (wpAny_pure ⟨_, rfl, wpAny_pure h⟩))
end
theorem sl_tupA {X : Cx} : SlR X (rSlTA X.K) := by
  intro pins s σ H x v vl vu lo hi sl Q I rx hs pl pu h
  obtain ⟨a, xs, rfl, hx, q1, q2⟩ := h
  by_cases hw : HT.sIx xs.length 0 lo = 0 ∧ HT.sIx xs.length xs.length hi = xs.length
  · cases rx
    obtain ⟨its, r, ht, hz⟩ := I.tuple hx
    have hlen : its.toArray.size = xs.length := by rw [List.size_toArray]; exact r.length.symm
    refine ⟨"tuple", _, PyProof.Rows.slot_tuple_getitem.lookup, ht.typeIs, ?_⟩
    exact tup_whole ht hs pl pu (by rw [hlen]; exact hw) ⟨.ref a, H, I, rfl, q1 hw⟩
  · exact sl_tup pins s σ H (.ref a) v vl vu lo hi sl Q I rx hs pl pu ⟨a, xs, rfl, hx, hw, q2 hw⟩
end GX
/-! ### data over the heap -/
namespace GD
open GX
open PySem PySem.Spec PyProof.Rows L2 GxR
/-- what stood stands: tuples, the script, tables grown, lists but for those at ex -/
structure Ext (ex : List Addr) (H H' : Hp) : Prop where
  tup : ∀ b xs, H b = some (.tup xs) → H' b = some (.tup xs)
  frz : ∀ b o u, H b = some (.frz o u) → H' b = some (.frz o u)
  tbl : ∀ b ps, H b = some (.tbl ps) → TriplesOk ps.toList → ∃ ps', H' b = some (.tbl ps') ∧ TriplesOk ps'.toList
  lst : ∀ b xs, b ∉ ex → H b = some (.lst xs) → H' b = some (.lst xs)
  oth : ∀ b u, b ∉ ex → (∀ ps, u ≠ .tbl ps) → H b = some u → H' b = some u
  dom : ∀ b, H' b = none → H b = none
section
variable {ex ex' : List Addr} {H H1 H2 : Hp} {p D : Addr} {o : HO} {xs ys : List V}
theorem Ext.refl : Ext ex H H := ⟨fun _ _ e => e, fun _ _ _ e => e, fun _ ps e t => ⟨ps, e, t⟩, fun _ _ _ e => e, fun _ _ _ _ e => e, fun _ e => e⟩
theorem Ext.trans (a : Ext ex H H1) (b : Ext ex H1 H2) : Ext ex H H2 :=
  ⟨fun c xs e => b.tup c xs (a.tup c xs e), fun c o u e => b.frz c o u (a.frz c o u e), fun c ps e t => let ⟨ps', e', t'⟩ := a.tbl c ps e t; b.tbl c ps' e' t', fun c xs n e => b.lst c xs n (a.lst c xs n e), fun c u n t e => b.oth c u n t (a.oth c u n t e), fun c e => a.dom c (b.dom c e)⟩
theorem Ext.mono (a : Ext ex H H1) (h : ∀ b ∈ ex, b ∈ ex') : Ext ex' H H1 := ⟨a.tup, a.frz, a.tbl, fun b xs n e => a.lst b xs (fun z => n (h b z)) e, fun b u n t e => a.oth b u (fun z => n (h b z)) t e, a.dom⟩
theorem Ext.any (a : Ext [] H H1) : Ext ex H H1 := a.mono fun b hb => absurd hb (by simp)
theorem Ext.new (h : H p = none) : Ext ex H (upd H p o) where
  tup := fun b xs e => by rw [upd_ne (ne_of_none e h)]; exact e
  frz := fun b u v e => by rw [upd_ne (ne_of_none e h)]; exact e
  tbl := fun b ps e t => ⟨ps, by rw [upd_ne (ne_of_none e h)]; exact e, t⟩
  lst := fun b xs _ e => by rw [upd_ne (ne_of_none e h)]; exact e
  oth := fun b u _ _ e => by rw [upd_ne (ne_of_none e h)]; exact e
  dom := fun b e => by
    by_cases hb : b = p
    · rw [hb, upd_same] at e; cases e
    · rw [upd_ne hb] at e; exact e
theorem Ext.wr (hD : D ∈ ex) (h : H D = some (.lst xs)) : Ext ex H (upd H D (.lst ys)) where
  tup := fun b xs e => by rw [upd_ne (ne_of e h (by intro z; cases z))]; exact e
  frz := fun b u v e => by rw [upd_ne (ne_of e h (by intro z; cases z))]; exact e
  tbl := fun b ps e t => ⟨ps, by rw [upd_ne (ne_of e h (by intro z; cases z))]; exact e, t⟩
  lst := fun b xs n e => by rw [upd_ne (fun z => n (by rw [z]; exact hD))]; exact e
  oth := fun b u n _ e => by rw [upd_ne (fun z => n (by rw [z]; exact hD))]; exact e
  dom := fun b e => by
    by_cases hb : b = D
    · rw [hb, upd_same] at e; cases e
    · rw [upd_ne hb] at e; exact e
theorem Ext.tab {P : Addr} (hP : TabG H P) (h : Tabbed P H H1) : Ext ex H H1 := by
  obtain ⟨ps0, e0, t0⟩ := hP
  obtain ⟨⟨ps1, e1, t1⟩, h2⟩ := h
  have nP : ∀ b u, H b = some u → (∀ q, u ≠ .tbl q) → b ≠ P := fun b u e n z => by
    rw [z, e0] at e
    exact n ps0 (Option.some.inj e).symm
  refine ⟨fun b xs e => by rw [h2 b (nP b _ e (fun q z => by cases z))]; exact e, fun b u v e => by rw [h2 b (nP b _ e (fun q z => by cases z))]; exact e, fun b ps e t => ?_, fun b xs _ e => by rw [h2 b (nP b _ e (fun q z => by cases z))]; exact e, fun b u _ n e => by rw [h2 b (nP b _ e n)]; exact e, fun b e => ?_⟩
  · by_cases hb : b = P
    · rw [hb]; exact ⟨ps1, e1, t1⟩
    · exact ⟨ps, by rw [h2 b hb]; exact e, t⟩
  · by_cases hb : b = P
    · rw [hb, e1] at e; cases e
    · rw [h2 b hb] at e; exact e
theorem Ext.tabG {P : Addr} (a : Ext ex H H1) (h : TabG H P) : TabG H1 P := let ⟨ps, e, t⟩ := h; let ⟨ps', e', t'⟩ := a.tbl P ps e t; ⟨ps', e', t'⟩
theorem Ext.sqT {K : PySem.W.Frag} {a : Addr} {xs : List V} (e : Ext ex H H1) (h : SqT K H a xs) : SqT K H1 a xs := by
  rcases h with (h | ⟨o, h⟩) | h
  · exact .inl (.inl (e.tup a xs h))
  · exact .inl (.inr ⟨o, e.frz a o _ h⟩)
  · exact .inr h
theorem sqT_new {K : PySem.W.Frag} : SqT K (upd H p (.tup xs)) p xs := .inl (.inl upd_same)
/-- a list that is read only: frozen or of the written part, or untouched -/
theorem Ext.sqL {K : PySem.W.Frag} {a : Addr} {xs : List V} (e : Ext ex H H1) (n : a ∉ ex) (h : SqL K H a xs) : SqL K H1 a xs := by
  rcases h with (h | ⟨o, h⟩) | h
  · exact .inl (.inl (e.lst a xs n h))
  · exact .inl (.inr ⟨o, e.frz a o _ h⟩)
  · exact .inr h
end
structure Stretch where
  hours : Int
  room : Int
  ds : List Int
structure Barge where
  b : Int
  g : Int
  d : Int
  r : Int
  u : Int
def IsStretch (K : PySem.W.Frag) (H : Hp) (v : V) (s : Stretch) : Prop := ∃ a d, v = .ref a ∧ SqT K H a [.int s.hours, .int s.room, .ref d] ∧ SqT K H d (s.ds.map V.int)
def IsBarge (K : PySem.W.Frag) (H : Hp) (v : V) (b : Barge) : Prop := ∃ a, v = .ref a ∧ SqT K H a [.int b.b, .int b.g, .int b.d, .int b.r, .int b.u]
/-- a tuple of things -/
def IsRows {α : Type} (F : V → α → Prop) (K : PySem.W.Frag) (H : Hp) (v : V) (xs : List α) : Prop := ∃ a vs, v = .ref a ∧ SqT K H a vs ∧ Paired F vs xs
abbrev IsRiver (K : PySem.W.Frag) (H : Hp) (v : V) (rv : List Stretch) : Prop := IsRows (IsStretch K H) K H v rv
abbrev IsBarges (K : PySem.W.Frag) (H : Hp) (v : V) (bs : List Barge) : Prop := IsRows (IsBarge K H) K H v bs
structure Book where
  rv : List Stretch
  bs : List Barge
def IsBook (K : PySem.W.Frag) (H : Hp) (v : V) (k : Book) : Prop := ∃ a r b, v = .ref a ∧ SqT K H a [r, b] ∧ IsRiver K H r k.rv ∧ IsBarges K H b k.bs
structure Stretch.Ok (s : Stretch) : Prop where
  h1 : 1 ≤ s.hours
  h9 : s.hours ≤ 9
  r1 : 1 ≤ s.room
  r9 : s.room ≤ 9
  d1 : 1 ≤ s.ds.length
  d24 : s.ds.length ≤ 24
  ds : ∀ d ∈ s.ds, 0 ≤ d ∧ d ≤ 99
structure Barge.Ok (n : Nat) (b : Barge) : Prop where
  b0 : 0 ≤ b.b
  bg : b.b < b.g
  gn : b.g ≤ (n : Int)
  d1 : 1 ≤ b.d
  d99 : b.d ≤ 99
  r0 : 0 ≤ b.r
  r99 : b.r ≤ 99
  u0 : 0 ≤ b.u
  u199 : b.u ≤ 199
structure RvOk (rv : List Stretch) : Prop where
  n1 : 1 ≤ rv.length
  n8 : rv.length ≤ 8
  ok : ∀ s ∈ rv, s.Ok
structure Book.Ok (k : Book) : Prop where
  rv : RvOk k.rv
  n7 : k.bs.length ≤ 7
  ok : ∀ b ∈ k.bs, b.Ok k.rv.length
section
variable {ex : List Addr} {H H1 : Hp} {K : PySem.W.Frag} {v : V}
theorem Ext.stretch {s : Stretch} (e : Ext ex H H1) (h : IsStretch K H v s) : IsStretch K H1 v s := let ⟨a, d, z, h1, h2⟩ := h; ⟨a, d, z, e.sqT h1, e.sqT h2⟩
theorem Ext.barge {s : Barge} (e : Ext ex H H1) (h : IsBarge K H v s) : IsBarge K H1 v s := let ⟨a, z, h1⟩ := h; ⟨a, z, e.sqT h1⟩
theorem Ext.river {rv : List Stretch} (e : Ext ex H H1) (h : IsRiver K H v rv) : IsRiver K H1 v rv := let ⟨a, vs, z, h1, h2⟩ := h; ⟨a, vs, z, e.sqT h1, Paired.mapP h2 fun _ _ q => e.stretch q⟩
theorem Ext.barges {bs : List Barge} (e : Ext ex H H1) (h : IsBarges K H v bs) : IsBarges K H1 v bs := let ⟨a, vs, z, h1, h2⟩ := h; ⟨a, vs, z, e.sqT h1, Paired.mapP h2 fun _ _ q => e.barge q⟩
theorem Ext.book {k : Book} (e : Ext ex H H1) (h : IsBook K H v k) : IsBook K H1 v k := let ⟨a, r, b, z, h1, h2, h3⟩ := h; ⟨a, r, b, z, e.sqT h1, e.river h2, e.barges h3⟩
end
/-- the draws' list -/
def DiceAt (H : Hp) (D : Addr) : Prop := ∃ a b : Int, H D = some (.lst [.int a, .int b]) ∧ 0 ≤ a ∧ a < 2147483647 ∧ 0 ≤ b
theorem Ext.dice {H H1 : Hp} {D : Addr} {ex : List Addr} (e : Ext ex H H1) (n : D ∉ ex) (h : DiceAt H D) : DiceAt H1 D := let ⟨a, b, z, r⟩ := h; ⟨a, b, e.lst D _ n z, r⟩
theorem pget {α β : Type} {F : α → β → Prop} : ∀ {xs : List α} {ys : List β} {i : Nat} {x : α}, Paired F xs ys → xs[i]? = some x → ∃ y, ys[i]? = some y ∧ F x y
  | _, _, _, _, .nil, e => by simp at e
  | _, _, 0, _, .cons r _, e => by simp at e; subst e; exact ⟨_, rfl, r⟩
  | _, _, i + 1, x, .cons _ t, e => by
    obtain ⟨u, h1, h2⟩ := pget (i := i) (x := x) t (by simpa using e)
    exact ⟨u, by simpa using h1, h2⟩
theorem pgetR {α β : Type} {F : α → β → Prop} : ∀ {xs : List α} {ys : List β} {i : Nat} {y : β}, Paired F xs ys → ys[i]? = some y → ∃ x, xs[i]? = some x ∧ F x y
  | _, _, _, _, .nil, e => by simp at e
  | _, _, 0, _, .cons r _, e => by simp at e; subst e; exact ⟨_, rfl, r⟩
  | _, _, i + 1, x, .cons _ t, e => by
    obtain ⟨u, h1, h2⟩ := pgetR (i := i) (y := x) t (by simpa using e)
    exact ⟨u, by simpa using h1, h2⟩
theorem plen {α β : Type} {F : α → β → Prop} {xs : List α} {ys : List β} (h : Paired F xs ys) : xs.length = ys.length := Paired.length h
theorem papp {α β : Type} {F : α → β → Prop} : ∀ {xs : List α} {ys : List β} {x : α} {y : β}, Paired F xs ys → F x y → Paired F (xs ++ [x]) (ys ++ [y])
  | _, _, _, _, .nil, h => .cons h .nil
  | _, _, _, _, .cons r t, h => .cons r (papp t h)
theorem ptake {α β : Type} {F : α → β → Prop} : ∀ {xs : List α} {ys : List β} (n : Nat), Paired F xs ys → Paired F (xs.take n) (ys.take n)
  | _, _, 0, _ => .nil
  | _, _, _ + 1, .nil => .nil
  | _, _, n + 1, .cons r t => .cons r (ptake n t)
/-- hours of the first n stretches together -/
def hsum (rv : List Stretch) (n : Nat) : Int := ((rv.take n).map (·.hours)).sum
theorem hsum_zero (rv : List Stretch) : hsum rv 0 = 0 := rfl
theorem hsum_succ {rv : List Stretch} {i : Nat} {s : Stretch} (h : rv[i]? = some s) : hsum rv (i + 1) = hsum rv i + s.hours := by
  unfold hsum
  rw [List.take_add_one, h, List.map_append, List.sum_append]
  simp
theorem hsum_bound {rv : List Stretch} (ok : ∀ s ∈ rv, s.Ok) : ∀ n, 0 ≤ hsum rv n ∧ hsum rv n ≤ 9 * (n : Int)
  | 0 => by rw [hsum_zero]; omega
  | n + 1 => by
    obtain ⟨h1, h2⟩ := hsum_bound ok n
    cases e : rv[n]? with
    | none =>
      have : hsum rv (n + 1) = hsum rv n := by
        unfold hsum
        rw [List.take_add_one, e]
        simp
      rw [this]; omega
    | some s =>
      rw [hsum_succ e]
      have q := ok s (List.mem_of_getElem? e)
      have := q.h1
      have := q.h9
      omega
theorem hsum_len {rv : List Stretch} {n : Nat} (h : rv.length ≤ n) : hsum rv n = hsum rv rv.length := by
  unfold hsum
  rw [List.take_of_length_le h, List.take_of_length_le (Nat.le_refl _)]
theorem same_small {n : Nat} (h : n ≤ 1000) : n ≤ sizeLine := Nat.le_of_lt (small1000 h)
theorem tc1 {v : V} {σ : L2.St} {H : Hp} {R : List V → Hp → Prop} (h : R [v] H) : tCons (tC v) tNil σ H R := h
theorem isi_ib {K : PySem.W.Frag} {H : Hp} {Q : VK} {v : Int} (h : Q (.bl false) H) : rIsi K [.int v, .ty "bool"] H Q := ⟨.int v, .ty "bool", .type "int", .type "bool", false, rfl, .ty _, .base (.int _), kit_ty (by decide +kernel), h⟩
theorem isi_ii {K : PySem.W.Frag} {H : Hp} {Q : VK} {v : Int} (h : Q (.bl true) H) : rIsi K [.int v, .ty "int"] H Q := ⟨.int v, .ty "int", .type "int", .type "int", true, rfl, .ty _, .base (.int _), kit_ty (by decide +kernel), h⟩
theorem isi_tt {K : PySem.W.Frag} {H : Hp} {Q : VK} {a : Addr} {xs : List V} (t : SqT K H a xs) (h : Q (.bl true) H) : rIsi K [.ref a, .ty "tuple"] H Q := by
  rcases t with (t | ⟨o, t⟩) | ⟨o, its, n, e, c, _⟩
  · exact ⟨.ref a, .ty "tuple", .type "tuple", .type "tuple", true, rfl, .ty _, .base (.tup t), kit_ty (by decide +kernel), h⟩
  · exact ⟨.ref a, .ty "tuple", .type "tuple", .type "tuple", true, rfl, .ty _, .fTuple t, kit_ty (by decide +kernel), h⟩
  · exact ⟨.ref a, .ty "tuple", .type "tuple", .type "tuple", true, rfl, .ty _, .kTuple e c, kit_ty (by decide +kernel), h⟩
theorem iteD {c : Prop} [Decidable c] {A B : Prop} (hc : c) (h : A) : if decide c = true then A else B := by
  rw [decide_eq_true hc]
  exact iteT h
theorem iteDn {c : Prop} [Decidable c] {A B : Prop} (hc : ¬ c) (h : B) : if decide c = true then A else B := by
  rw [decide_eq_false hc]
  exact iteF h
/-- the turns of all, over a tuple that stands -/
theorem all_tup {K : PySem.W.Frag} {P a : Addr} {xs : List V} {g : TG} {te : TE} {vs : List Nat} {σ : L2.St} {H1 : Hp} {Q : VK} (hT : TabG H1 P) (Pv : Nat → Hp → Prop) (h0 : ∀ H2, Tabbed P H1 H2 → Pv 0 H2) (hl : ∀ i H, i ≤ xs.length → Pv i H → SqT K H a xs)
    (hs : ∀ i x H, xs[i]? = some x → Pv i H → g x (wipe σ vs) H fun σ2 H2 => wipe σ2 vs = wipe σ vs ∧ te σ2 H2 fun y H4 => ∃ c, y = .bl c ∧ if c = true then Pv (i + 1) H4 else Q (.bl false) H4) (hd : ∀ H, Pv xs.length H → Q (.bl true) H) :
    TabG H1 P ∧ ∀ H2, Tabbed P H1 H2 → ∃ W : Nat → Nat → Hp → Prop, (∃ m, W 0 m H2) ∧ ∀ i m H, W i m H →
      ((Itt K a).stop i H ∧ Q (.bl true) H) ∨ ((Itt K a).go i H ∧ ∃ Nx : Hp → Prop, (∀ H', Nx H' → ∃ m', m' < m ∧ W (i + 1) m' H') ∧ ∀ x H', (Itt K a).yld i H x H' → g x (wipe σ vs) H' fun σ2 H2 => wipe σ2 vs = wipe σ vs ∧ tYes σ2 H2 fun b H3 =>
        if b = true then te σ2 H3 fun y H4 => ∃ c, y = .bl c ∧ if c = true then Nx H4 else Q (.bl false) H4 else Nx H3) := by
  refine ⟨hT, fun H2 hb => ⟨fun i m H => m = xs.length - i ∧ i ≤ xs.length ∧ Pv i H, ⟨xs.length, by simp, Nat.zero_le _, h0 H2 hb⟩, ?_⟩⟩
  rintro i m H ⟨rfl, hi, p⟩
  have q := hl i H hi p
  by_cases hlt : i < xs.length
  · refine .inr ⟨⟨xs, xs[i], q, by simp [hlt]⟩, Pv (i + 1), fun H' p' => ⟨xs.length - (i + 1), by omega, rfl, hlt, p'⟩, fun x H' y => ?_⟩
    obtain ⟨e, y⟩ := y
    subst e
    exact hs i x H' (y xs q) p
  · have e : i = xs.length := by omega
    subst e
    exact .inl ⟨⟨xs, q, Nat.le_refl _⟩, hd H p⟩
theorem map_get {α β : Type} {f : α → β} {xs : List α} {i : Nat} {x : β} (h : (xs.map f)[i]? = some x) : ∃ y, xs[i]? = some y ∧ x = f y := by
  rw [List.getElem?_map] at h
  cases e : xs[i]? with
  | none => rw [e] at h; cases h
  | some y => rw [e] at h; exact ⟨y, rfl, (Option.some.inj h).symm⟩
theorem all_var {K : PySem.W.Frag} {P a : Addr} {xs : List V} {g : TG} {te : TE} {vs : List Nat} {σ : L2.St} {H1 : Hp} {Q : VK} {j : Nat} (hv : σ[j]? = some (some (.ref a))) (ht : SqT K H1 a xs) (hT : TabG H1 P) (Pv : Nat → Hp → Prop) (h0 : ∀ H2, Tabbed P H1 H2 → Pv 0 H2) (hl : ∀ i H, i ≤ xs.length → Pv i H → SqT K H a xs)
    (hs : ∀ i x H, xs[i]? = some x → Pv i H → g x (wipe σ vs) H fun σ2 H2 => wipe σ2 vs = wipe σ vs ∧ te σ2 H2 fun y H4 => ∃ c, y = .bl c ∧ if c = true then Pv (i + 1) H4 else Q (.bl false) H4) (hd : ∀ H, Pv xs.length H → Q (.bl true) H) :
    tAllG P (iTup K (tVar j)) g tYes te vs σ H1 Q := ⟨.ref a, hv, a, rfl, ⟨xs, ht⟩, all_tup hT Pv h0 hl hs hd⟩
theorem tB_ {t : TE} {σ : L2.St} {H : Hp} {Q : Bool → Hp → Prop} (h : t σ H fun x H1 => ∃ c, x = .bl c ∧ Q c H1) : tB t σ H Q := h
theorem tNot_ {t : TT} {σ : L2.St} {H : Hp} {Q : Bool → Hp → Prop} (h : t σ H fun c H1 => Q (!c) H1) : tNot t σ H Q := h
theorem sum_enumT {K : PySem.W.Frag} {P a : Addr} {xs : List V} {g : TG} {tt : TT} {te : TE} {vs : List Nat} {σ : L2.St} {H1 : Hp} {Q : VK} {j : Nat} (hv : σ[j]? = some (some (.ref a))) (ht : SqT K H1 a xs) (hT : TabG H1 P) (Pv : Nat → Int → Hp → Prop) (h0 : ∀ H2, Tabbed P H1 H2 → Pv 0 0 H2) (hl : ∀ i z H, i ≤ xs.length → Pv i z H → SqT K H a xs)
    (hs : ∀ i x z H T, xs[i]? = some x → Pv i z H → H T = none → g (.ref T) (wipe σ vs) (upd H T (.tup [.int (i : Nat), x])) fun σ2 H2 => wipe σ2 vs = wipe σ vs ∧ tt σ2 H2 fun b H3 => if b = true then te σ2 H3 fun y H4 => ∃ v, y = .int v ∧ InLong v ∧ InLong (z + v) ∧ Pv (i + 1) (z + v) H4 else Pv (i + 1) z H3)
    (hd : ∀ z H, Pv xs.length z H → Q (.int z) H) : tSumG P (GE.iEnumT K (tCons (tVar j) tNil)) g tt te vs σ H1 Q := by
  refine ⟨.ref a, hv, a, xs, rfl, ht, hT, fun H2 hb => ⟨fun i m z H => m = xs.length - i ∧ i ≤ xs.length ∧ Pv i z H, ⟨xs.length, by simp, Nat.zero_le _, h0 H2 hb⟩, ?_⟩⟩
  rintro i m z H ⟨rfl, hi, p⟩
  have q := hl i z H hi p
  by_cases hlt : i < xs.length
  · refine .inr ⟨⟨xs, xs[i], q, by simp [hlt]⟩, fun z' H' => Pv (i + 1) z' H', fun z' H' p' => ⟨xs.length - (i + 1), by omega, rfl, hlt, p'⟩, fun x H' y => ?_⟩
    obtain ⟨T, x', rfl, hn, rfl, hx⟩ := y
    exact hs i x' z H T (hx xs q) p hn
  · have e : i = xs.length := by omega
    subst e
    exact .inl ⟨⟨xs, q, Nat.le_refl _⟩, hd z H p⟩
/-- how deep a stretch is at a time -/
def depthAt (s : Stretch) (t : Int) : Int := s.ds.getD (t % (s.ds.length : Int)).toNat 0
theorem fmod_place {t : Int} {n : Nat} (h : 0 < n) : t.fmod (n : Int) = (((t % (n : Int)).toNat : Nat) : Int) ∧ (t % (n : Int)).toNat < n := by
  have h1 : 0 ≤ t % (n : Int) := Int.emod_nonneg t (by omega)
  have h2 : t % (n : Int) < (n : Int) := Int.emod_lt_of_pos t (by omega)
  rw [Int.fmod_eq_emod_of_nonneg t (by omega)]
  omega
theorem depth_item {s : Stretch} {t : Int} (h : 0 < s.ds.length) : atI (s.ds.map V.int) (t.fmod ((s.ds.map V.int).length : Int)) = some (.int (depthAt s t)) := by
  rw [List.length_map, (fmod_place (t := t) h).1]
  refine atI_nat ?_
  rw [List.getElem?_map, List.getElem?_eq_getElem (fmod_place (t := t) h).2]
  unfold depthAt
  rw [List.getD_eq_getElem?_getD, List.getElem?_eq_getElem (fmod_place (t := t) h).2]
  rfl
theorem inLong_small {v : Int} (h1 : -1000000 ≤ v) (h2 : v ≤ 1000000) : InLong v := by
  unfold InLong
  omega
theorem ixK {X : Cx} (K : PySem.W.Frag) (h : X.K = K) : IxR X (rIx K) := by
  subst h
  exact ix_seq
theorem lenK {X : Cx} (K : PySem.W.Frag) (h : X.K = K) : CallR X (.builtin "len") (fun xs H Q => ∃ p ys, xs = [.ref p] ∧ (SqL K H p ys ∨ SqT K H p ys) ∧ Q (.int ys.length) H) := by
  subst h
  exact call_len_seq
theorem isiK {X : Cx} (K : PySem.W.Frag) (h : X.K = K) : CallR X (.builtin "isinstance") (rIsi K) := by
  subst h
  exact call_isi
theorem slK {X : Cx} (K : PySem.W.Frag) (h : X.K = K) : SlR X (rSlTA K) := by
  subst h
  exact GX.sl_tupA
theorem Ext.wrNew {ex : List Addr} {H H1 : Hp} {D : Addr} {o : HO} (e : Ext ex H H1) (h : H D = none) : Ext ex H (upd H1 D o) where
  tup := fun b xs z => by rw [upd_ne (ne_of_none z h)]; exact e.tup b xs z
  frz := fun b u v z => by rw [upd_ne (ne_of_none z h)]; exact e.frz b u v z
  tbl := fun b ps z t => by rw [upd_ne (ne_of_none z h)]; exact e.tbl b ps z t
  lst := fun b xs n z => by rw [upd_ne (ne_of_none z h)]; exact e.lst b xs n z
  oth := fun b u n t z => by rw [upd_ne (ne_of_none z h)]; exact e.oth b u n t z
  dom := fun b z => by
    by_cases hb : b = D
    · rw [hb, upd_same] at z; cases z
    · rw [upd_ne hb] at z; exact e.dom b z
theorem pick2 {x y sl : Int} (h : sl = 0 ∨ sl = 1) : ∃ z, atI [V.int x, V.int y] sl = some (.int z) ∧ (z = x ∨ z = y) := by
  rcases h with rfl | rfl
  · exact ⟨x, atI_nat (j := 0) rfl, .inl rfl⟩
  · exact ⟨y, atI_nat (j := 1) rfl, .inr rfl⟩
theorem b01 (b : Bool) : (if b = true then (1 : Int) else 0) = 0 ∨ (if b = true then (1 : Int) else 0) = 1 := by
  cases b
  · exact .inl rfl
  · exact .inr rfl
theorem cut_take (xs : List V) (p : Nat) : cutV xs none (some (p : Int)) = xs.take p := by
  unfold cutV
  rw [HT.sIx_none, HT.sIx_nat, List.drop_zero, Nat.sub_zero]
  by_cases h : p ≤ xs.length
  · rw [Nat.min_eq_left h]
  · rw [Nat.min_eq_right (by omega), List.take_of_length_le (Nat.le_refl _), List.take_of_length_le (by omega)]
theorem whole_take {xs : List V} {p : Nat} (h : HT.sIx xs.length 0 none = 0 ∧ HT.sIx xs.length xs.length (some (p : Int)) = xs.length) : xs.take p = xs := by
  obtain ⟨_, h2⟩ := h
  rw [HT.sIx_nat] at h2
  exact List.take_of_length_le (by omega)
theorem yesT {σ : L2.St} {H : Hp} {F G : Hp → Prop} (h : F H) : tYes σ H (fun b H3 => if b = true then F H3 else G H3) := by
  show if true = true then F H else G H
  rw [if_pos rfl]
  exact h
end GD

/-! set comprehensions of ints -/
namespace GS
open PySem PySem.Spec PyProof.Rows L2 PpSet
section
variable {X : Cx}
theorem addI_ok {pins : List (Addr × Obj)} {σ : L2.St} {H : Hp} {s : Shared} {E : Value → Shared → Prop} {D : Addr} {S : Int → Bool} {n : Nat} {y : Int} {tk : Tok} {Q : Value → Shared → Prop} (I : Inv X pins σ H s) (hD : H D = some (SetO X.w D S n)) (room : n + 1 < scanBound)
    (h : ∀ s', Inv X pins σ (upd H D (SetO X.w D (fun j => S j || decide (j = y)) (if S y = true then n else n + 1))) s' → Q .none s') : wpAny (model X.prog X.w) X.A (call (.builtin "set.add") [.ref D, .int y tk]) Q E s := by
  have R := setO_get I hD
  refine setR_add R room fun h' sb new => ?_
  obtain ⟨o, _, _, _, ho, _⟩ := id new
  exact h _ (I.write (e := D) (t' := s.toks + 1) (by rw [hD]; trivial) (.inl rfl) (fun b u hb hu => (sb.2 b hb).trans hu) ⟨o, ho⟩ (setO_new new))
def tSi (w : World) (wi : TI) (g : TG) (tt : TT) (te : TE) (vs : List Nat) : TE := fun σ H Q => wi σ H fun J H1 => ∀ D, H1 D = none → ∃ W : Nat → Nat → Hp → Prop, (∃ m, W 0 m (upd H1 D (SetO w D (fun _ => false) 0))) ∧ ∀ i m H, W i m H →
  (J.stop i H ∧ Q (.ref D) H) ∨ (J.go i H ∧ ∃ Nx : Hp → Prop, (∀ H', Nx H' → ∃ m', m' < m ∧ W (i + 1) m' H') ∧ ∀ x H', J.yld i H x H' → g x (wipe σ vs) H' fun σ2 H2 => wipe σ2 vs = wipe σ vs ∧ tt σ2 H2 fun b H3 =>
    if b = true then te σ2 H3 fun y H4 => ∃ (c : Int) (S : Int → Bool) (n : Nat), y = .int c ∧ H4 D = some (SetO w D S n) ∧ n + 1 < scanBound ∧ Nx (upd H4 D (SetO w D (fun j => S j || decide (j = c)) (if S c = true then n else n + 1))) else Nx H3)
theorem si_core {pins : List (Addr × Obj)} {s : Shared} {σ : L2.St} {H : Hp} {Q : VK} {elt tg iter : Expr} {ifs : List Expr} {scope : Scope} {own : List (PySem.Str × Nat)} {pos pos' : Pos} {wi : TI} {g : TG} {tt : TT} {te : TE} {use : Option (Value → Sem Unit)} {Qf : Value → Shared → Prop}
    (hc : X.calm = true) (hN : X.N.Nodup) (I : Inv X pins σ H s) (hi : PI X tg iter wi) (ok : BlkOk X.N X.env.scope scope own)
    (hg : ∀ (s : Shared) (H : Hp) (C : Addr) (cl : List (PySem.Str × Addr)) (fp : List Addr), PG (X.blk s H scope (compEnvC scope cl C X.env) fp) tg g) (ht : ∀ (s : Shared) (H : Hp) (C : Addr) (cl : List (PySem.Str × Addr)) (fp : List Addr), PTs (X.blk s H scope (compEnvC scope cl C X.env) fp) ifs tt)
    (he : ∀ (s : Shared) (H : Hp) (C : Addr) (cl : List (PySem.Str × Addr)) (fp : List Addr), PE (X.blk s H scope (compEnvC scope cl C X.env) fp) elt te) (hs : ∀ x, foldedSetIterable iter X.env x = pure x)
    (h : tSi X.w wi g tt te (own.map (·.2)) σ H Q)
    (hRR : ∀ D C s' m H', Inv X pins σ H' s' → Q (.ref D) H' → s'.heap.Ns C m → FpOk X pins H' C → compPost (model X.prog X.w) X.A X.xe use Qf (.ref D) C (.ok .next) s') :
    wpAny (model X.prog X.w) X.A (comprehension (.SetComp elt [⟨tg, iter, ifs, 0⟩] scope pos) scope X.env pos' (newSet (.type "set")) false (eval iter X.env) use) Qf X.xe s := by
  have hfree : ∀ y ∈ scope.names, y.2 = .free → ∃ c, X.env.cells.lookup y.1 = some c := fun y hy e => by
    rcases ok.free y hy e with k | k
    · exact I.ok.has _ (.inl k)
    · exact I.ok.has _ (.inr k)
  refine wpAny_comprehension_free (use := use) rfl hs (closure_ok hfree) ok.kind (fun y hy e => by rw [ok.uniq y hy, e])
    (thn (hi.run pins s σ H _ I h) fun xv s1 hx => thn hx fun itv s2 h2 => ?_)
  obtain ⟨it, fp, tn, J, H2, e, I2, T, st2, f2, q⟩ := h2
  subst e
  refine newSet_ok (newEnv_comp ?_)
  generalize hD : s2.heap.objs.size = D
  have hDn : H2 D = none := I2.hok.fresh (Nat.le_of_eq hD)
  obtain ⟨W, ⟨m0, w0⟩, turn⟩ := q D hDn
  -- the new list
  generalize hs3 : ({ s2 with heap := s2.heap.push { cls := .type "set", dict := none, data := .set #[] 0 (.fresh 0 0 (!X.w.params.followText "set-order")) } } : Shared) = s3
  have I3 : Inv X pins σ (upd H2 D (SetO X.w D (fun _ => false) 0)) s3 := by
    rw [← hs3]
    refine I2.laid (t' := s2.toks) (fun b o e => Heap.get?_push_of_some _ e) (Nat.le_of_eq hD) ?_
    rw [← hD]
    exact setO_new (setR_fresh X.w)
  have h3 : s3.heap = s2.heap.push { cls := .type "set", dict := none, data := .set #[] 0 (.fresh 0 0 (!X.w.params.followText "set-order")) } := by rw [← hs3]
  have sz : ∀ b ∈ fp, b < s2.heap.objs.size := fun b hb => by
    obtain ⟨o, e, _⟩ := T.obj _ _ st2 b hb
    exact Heap.lt_size e
  have f3 : ∀ b ∈ fp, FpOk X pins (upd H2 D (SetO X.w D (fun _ => false) 0)) b ∧ b < s3.heap.objs.size := fun b hb => by
    have hlt := sz b hb
    refine ⟨⟨?_, (f2 b hb).2⟩, by rw [h3, Heap.size_push]; exact Nat.lt_succ_of_lt hlt⟩
    rw [upd_ne (by rw [← hD]; exact Nat.ne_of_lt hlt)]
    exact (f2 b hb).1
  have st3 : tn 0 s3.heap := T.keep _ _ _ st2 fun b _ o e => by rw [h3]; exact Heap.get?_push_of_some _ e
  have I4 := block_start I3 ok hN f3
  have pg := hg s3 (upd H2 D (SetO X.w D (fun _ => false) 0)) s3.heap.objs.size (cellsFrom (s3.heap.objs.size + 1) scope.names (cloFrom X.env.cells scope.names [])) fp
  have pt := ht s3 (upd H2 D (SetO X.w D (fun _ => false) 0)) s3.heap.objs.size (cellsFrom (s3.heap.objs.size + 1) scope.names (cloFrom X.env.cells scope.names [])) fp
  have pe := he s3 (upd H2 D (SetO X.w D (fun _ => false) 0)) s3.heap.objs.size (cellsFrom (s3.heap.objs.size + 1) scope.names (cloFrom X.env.cells scope.names [])) fp
  show codeAny _ _ (.compStart (.SetComp elt [⟨tg, iter, ifs, 0⟩] scope pos) 0 (.ref it) (.ref D) (compEnvC scope (cellsFrom (s3.heap.objs.size + 1) scope.names (cloFrom X.env.cells scope.names [])) s3.heap.objs.size X.env)) (compPost (model X.prog X.w) X.A X.xe use Qf (.ref D) s3.heap.objs.size) { s3 with heap := pushCells (s3.heap.push { cls := .type "dict", data := .dict #[] }) scope.names }
  have nfp : ∀ b ∈ fp, (upd H2 D (SetO X.w D (fun _ => false) 0)) b = none := fun b hb => (f3 b hb).1.1
  generalize hce : compEnvC scope (cellsFrom (s3.heap.objs.size + 1) scope.names (cloFrom X.env.cells scope.names [])) s3.heap.objs.size X.env = ce at I4 pg pt pe ⊢
  have cL : ce.locals = s3.heap.objs.size := by subst hce; rfl
  generalize hH3 : upd H2 D (SetO X.w D (fun _ => false) 0) = H3 at I3 I4 pg pt pe w0 nfp f3
  generalize hs4 : ({ s3 with heap := pushCells (s3.heap.push { cls := .type "dict", data := .dict #[] }) scope.names } : Shared) = s4 at I4 ⊢
  have st4 : tn 0 s4.heap := T.keep _ _ _ st3 fun b _ o e => by rw [← hs4]; exact pushCells_keeps _ _ _ _ (Heap.get?_push_of_some _ e)
  have stat : ∀ {σ' : L2.St} {H' : Hp} {s' : Shared}, Inv (X.blk s3 H3 scope ce fp) [] σ' H' s' → (∀ b ∈ fp, H' b = none) → ∀ b ∈ fp, FpOk (X.blk s3 H3 scope ce fp) [] H' b := fun {σ' H' s'} I' hn b hb =>
    ⟨hn b hb, (I'.ok.exf b hb).1, I'.ok.exfs b hb, .inl hb, fun x c e => (I'.ok.exf b hb).2 x c e, fun p hp => absurd (show p ∈ ([] : List (Addr × Obj)) ++ [] from hp) (by simp)⟩
  have loop : codeAny (model X.prog X.w) X.A (.compLoop (.SetComp elt [⟨tg, iter, ifs, 0⟩] scope pos) 0 (.ref it) (.ref D) ce) (compPost (model X.prog X.w) X.A X.xe use Qf (.ref D) s3.heap.objs.size) s4 := by
    refine compLoopS_any (fun n s' => ∃ i H', Inv (X.blk s3 H3 scope ce fp) [] (wipe σ (own.map (·.2))) H' s' ∧ tn i s'.heap ∧ (∀ b ∈ fp, H' b = none) ∧ W i n H') ?_ m0 ⟨0, H3, I4, st4, nfp, w0⟩
    rintro n s5 ⟨i, H5, I5, st5, n5, w5⟩
    rcases turn i n H5 w5 with ⟨stop, qq⟩ | ⟨go, Nx, hNx, step⟩
    · have td := T.done (X.blk s3 H3 scope ce fp) rfl rfl rfl hc i [] s5 _ H5 (fun _ _ => False) I5 (stat I5 n5) st5 stop
      refine thnF td fun r s6 ⟨hr, I6⟩ => ?_
      subst hr
      -- back in the def's context
      have I7 : Inv X pins σ H5 s6 := I3.call' (ch := fp) I6.os I6.base I6.hok I6.bare fun b hb => ⟨(f3 b hb).1.2.2.2.1, (f3 b hb).1.2.1, (f3 b hb).1.2.2.2.2.1, (f3 b hb).1.2.2.2.2.2⟩
      have nC : H5 s3.heap.objs.size = none := by
        have z : H5 ce.locals = none := I6.free
        rw [cL] at z
        exact z
      obtain ⟨m, hn, _⟩ := I6.loc
      have hn : s6.heap.Ns ce.locals m := hn
      rw [cL] at hn
      exact hRR D s3.heap.objs.size s6 m H5 I7 qq hn (I3.fpOk (Nat.le_refl _) nC)
    · have ti := T.item (X.blk s3 H3 scope ce fp) rfl rfl rfl hc i [] s5 _ H5 (fun _ _ => False) I5 (stat I5 n5) st5 go
      refine thnF ti fun r s6 ⟨u, hr, h6⟩ => ?_
      subst hr
      refine thnF h6 fun _ s7 ⟨x, H7, I7, r7, y7, st7, n7⟩ => ?_
      have I7' := I7.pinned (stat I7 n7) (T.obj _ _ st7)
      refine thnF (pg.run _ s7 _ H7 x u _ I7' r7 (step x H7 y7)) fun _ s8 ⟨σ8, H8, I8, hw8, q8⟩ => ?_
      refine thnF (pt.run _ s8 σ8 H8 _ I8 q8) fun b s9 ⟨H9, I9, q9⟩ => ?_
      -- the turn's end
      have fin : ∀ {s' : Shared} {H' : Hp}, Inv (X.blk s3 H3 scope ce fp) ([] ++ pinsAt fp s7.heap) σ8 H' s' → Nx H' → ∃ m, m < n ∧ ∃ i H', Inv (X.blk s3 H3 scope ce fp) [] (wipe σ (own.map (·.2))) H' s' ∧ tn i s'.heap ∧ (∀ b ∈ fp, H' b = none) ∧ W i m H' := fun {s' H'} I' nx => by
        obtain ⟨m', hm, w'⟩ := hNx H' nx
        have pin' : ∀ b ∈ fp, ∀ o, s7.heap.get? b = some o → s'.heap.get? b = some o ∧ H' b = none := fun b hb o e =>
          let z := I'.pin (b, o) (List.mem_append_right _ (List.mem_append_right _ (mem_pinsAt hb e)))
          ⟨z.1, z.2.1⟩
        have hl : (wipe σ (own.map (·.2))).length = σ8.length := by rw [← hw8, wipe_length]
        refine ⟨m', hm, i + 1, H', (I'.unpinned (pins := [])).weak hl (fun j v e => ?_), T.keep _ _ _ st7 fun b hb o e => (pin' b hb o e).1, fun b hb => ?_, w'⟩
        · rw [← hw8] at e
          exact (wipe_some e).1
        · obtain ⟨o, e, _⟩ := T.obj _ _ st7 b hb
          exact (pin' b hb o e).2
      cases b with
      | false =>
        simp only [Bool.false_eq_true, if_false] at q9 ⊢
        exact fin I9 q9
      | true =>
        simp only [if_true] at q9 ⊢
        refine thnF (pe.run _ s9 σ8 H9 _ I9 q9) fun z s10 ⟨yv, H10, I10, r10, cb, S0, n0, ey, hD10, hz10, nx⟩ => ?_
        subst ey
        obtain ⟨tk, rfl⟩ : ∃ tk, z = Value.int cb tk := r10
        exact addI_ok (X := X.blk s3 H3 scope ce fp) I10 hD10 hz10 fun s11 I11 => fin I11 nx
  exact codeAny_compStart_set loop (T.self X.A 0 _ _ _ st4 loop)
theorem pe_si {elt tg iter : Expr} {ifs : List Expr} {scope : Scope} {own : List (PySem.Str × Nat)} {pos : Pos} {wi : TI} {g : TG} {tt : TT} {te : TE} (hc : X.calm = true) (hN : X.N.Nodup) (hi : PI X tg iter wi) (ok : BlkOk X.N X.env.scope scope own)
    (hg : ∀ (s : Shared) (H : Hp) (C : Addr) (cl : List (PySem.Str × Addr)) (fp : List Addr), PG (X.blk s H scope (compEnvC scope cl C X.env) fp) tg g) (ht : ∀ (s : Shared) (H : Hp) (C : Addr) (cl : List (PySem.Str × Addr)) (fp : List Addr), PTs (X.blk s H scope (compEnvC scope cl C X.env) fp) ifs tt)
    (he : ∀ (s : Shared) (H : Hp) (C : Addr) (cl : List (PySem.Str × Addr)) (fp : List Addr), PE (X.blk s H scope (compEnvC scope cl C X.env) fp) elt te) (hs : ∀ x, foldedSetIterable iter X.env x = pure x := by intro _; rfl) :
    PE X (.SetComp elt [⟨tg, iter, ifs, 0⟩] scope pos) (tSi X.w wi g tt te (own.map (·.2))) := by
  refine ⟨fun pins s σ H Q I h => ?_⟩
  rw [eval_SetComp]
  refine si_core hc hN I hi ok hg ht he hs h fun D C s' m H' I' q hn f => ⟨m, hn, fun h'' sb => ?_⟩
  obtain ⟨f0, f1, f2, f3, f4, f5⟩ := f
  exact ⟨.ref D, H', I'.turned (t' := s'.toks) (fun b o hb e => (sb.2 b hb).trans e) f0 f1 f3 f4 f5, rfl, q⟩
end
/-- over a tuple that the block leaves as it is -/
theorem si_tup {w : World} {K : PySem.W.Frag} {a : Addr} {xs : List V} {g : TG} {tt : TT} {te : TE} {vs : List Nat} {σ : L2.St} {H1 : Hp} {D : Addr} {Qd : Hp → Prop} (Pv : Nat → Hp → Prop) (h0 : Pv 0 (upd H1 D (SetO w D (fun _ => false) 0))) (hl : ∀ i H, i ≤ xs.length → Pv i H → SqT K H a xs)
    (hs : ∀ i x H, xs[i]? = some x → Pv i H → g x (wipe σ vs) H fun σ2 H2 => wipe σ2 vs = wipe σ vs ∧ tt σ2 H2 fun b H3 =>
      if b = true then te σ2 H3 fun y H4 => ∃ (c : Int) (S : Int → Bool) (n : Nat), y = .int c ∧ H4 D = some (SetO w D S n) ∧ n + 1 < scanBound ∧ Pv (i + 1) (upd H4 D (SetO w D (fun j => S j || decide (j = c)) (if S c = true then n else n + 1))) else Pv (i + 1) H3) (hd : ∀ H, Pv xs.length H → Qd H) :
    ∃ W : Nat → Nat → Hp → Prop, (∃ m, W 0 m (upd H1 D (SetO w D (fun _ => false) 0))) ∧ ∀ i m H, W i m H →
      ((Itt K a).stop i H ∧ Qd H) ∨ ((Itt K a).go i H ∧ ∃ Nx : Hp → Prop, (∀ H', Nx H' → ∃ m', m' < m ∧ W (i + 1) m' H') ∧ ∀ x H', (Itt K a).yld i H x H' → g x (wipe σ vs) H' fun σ2 H2 => wipe σ2 vs = wipe σ vs ∧ tt σ2 H2 fun b H3 =>
        if b = true then te σ2 H3 fun y H4 => ∃ (c : Int) (S : Int → Bool) (n : Nat), y = .int c ∧ H4 D = some (SetO w D S n) ∧ n + 1 < scanBound ∧ Nx (upd H4 D (SetO w D (fun j => S j || decide (j = c)) (if S c = true then n else n + 1))) else Nx H3) := by
  refine ⟨fun i m H => m = xs.length - i ∧ i ≤ xs.length ∧ Pv i H, ⟨xs.length, by simp, Nat.zero_le _, h0⟩, ?_⟩
  rintro i m H ⟨rfl, hi, p⟩
  have q := hl i H hi p
  by_cases hlt : i < xs.length
  · refine .inr ⟨⟨xs, xs[i], q, by simp [hlt]⟩, Pv (i + 1), fun H' p' => ⟨xs.length - (i + 1), by omega, rfl, hlt, p'⟩, fun x H' y => ?_⟩
    obtain ⟨e, y⟩ := y
    subst e
    exact hs i x _ (y xs q) p
  · have e : i = xs.length := by omega
    subst e
    exact .inl ⟨⟨xs, q, Nat.le_refl _⟩, hd H p⟩
end GS

namespace GT
open PySem PySem.Spec PyProof.Rows L2
open AutoSeq1 (wpAny_loadPart')
theorem mul_one_same (l : Addr) (items : Array Value) (n : Nat) (sl : Array (Option Value)) (dd : Option Addr) (u : Tok) :
    Meets (Builtin.«tuple.__mul__» ⟨[.ref l, .int 1 u], []⟩) (fun _ R s => s.heap.get? l = some { cls := .type "tuple", dict := dd, data := .seq items n, slots := sl } ∧ R (.ok (.ret (Value.ref l))) s) :=
  .of_wp fun prog w A R s h => by
    obtain ⟨hp, g, d, tk, os⟩ := s
    obtain ⟨hl, h⟩ := h
    have f1 := AutoSeq1.idx_int
    have c1 : (items.isEmpty || (1 : Int) == 1) = true := by simp
    wp_walk using wpAny_loadPart' hl
    exact ⟨_, rfl, h⟩
theorem mul_none_new (l : Addr) (items : Array Value) (n : Nat) (sl : Array (Option Value)) (dd : Option Addr) (u : Tok) (hi : items.isEmpty = false) :
    Meets (Builtin.«tuple.__mul__» ⟨[.ref l, .int 0 u], []⟩) (fun _ R s => s.heap.get? l = some { cls := .type "tuple", dict := dd, data := .seq items n, slots := sl } ∧
      R (.ok (.ret (Value.ref s.heap.objs.size))) { s with heap := s.heap.push { cls := Value.type "tuple", data := Data.seq #[] } }) :=
  .of_wp fun prog w A R s h => by
    obtain ⟨hp, g, d, tk, os⟩ := s
    obtain ⟨hl, h⟩ := h
    have f1 := AutoSeq1.idx_int
    have c1 : (items.isEmpty || (0 : Int) == 1) = false := by simp [hi]
    have c2 : (decide ((0 : Int) ≤ 0) || items.isEmpty) = true := by simp
    wp_walk using wpAny_loadPart' hl
    exact ⟨_, rfl, h⟩
def rRepTA (K : PySem.W.Frag) : R2 := fun x y H Q => ∃ l k xs, x = .ref l ∧ y = .int k ∧ SqT K H l xs ∧ xs ≠ [] ∧ 0 ≤ k ∧ k ≤ 1000 ∧ xs.length ≤ 1000 ∧ (k = 1 → Q (.ref l) H) ∧ (k ≠ 1 → ∀ p, H p = none → Q (.ref p) (upd H p (.tup (List.replicate k.toNat xs).flatten)))
/-- tuple * int, none and once too -/
theorem op_repTA {X : Cx} : OpR X (binaryOp .Mult) (rRepTA X.K) := by
  intro pins s σ H x y v u Q I rx ry h
  obtain ⟨l, k, xs, rfl, rfl, hT, hne, h0, h1, hz, q1, q2⟩ := h
  by_cases hk2 : 2 ≤ k
  · exact op_repT pins s σ H (.ref l) (.int k) v u Q I rx ry ⟨l, k, xs, rfl, rfl, hT, hne, hk2, h1, hz, q2 (by omega)⟩
  cases rx
  obtain ⟨t, rfl⟩ := ry
  obtain ⟨its, r, ⟨⟨cls, dd, data, sl⟩, ho, hc, n, hd⟩, hs⟩ := I.tuple hT
  simp only at hc hd
  subst hc hd
  have hle : its.length = xs.length := r.length.symm
  have hn : its ≠ [] := fun e => hne (by
    rw [e] at hle
    exact List.eq_nil_of_length_eq_zero hle.symm)
  have hi : its.toArray.isEmpty = false := by
    cases its with
    | nil => exact absurd rfl hn
    | cons a b => rfl
  have hk : k = 0 ∨ k = 1 := by omega
  rcases hk with rfl | rfl
  · refine wpAny_binaryOp_repeat_ref (T := "tuple") (U := "int") (by decide) ⟨_, ho, rfl⟩ (fun s' => typeIs_int s' 0 t) noFill_tuple_mul F.fills_int_mul F.slot_int_rmul repeat_tuple F.slot_int_index.lookup
      (call_meets F.slot_int_rmul (typeIs_int s 0 t) F.entry_int_rmul (F.args_int_rmul_2 _ _) (int_rmul_tuple 0 t l its.toArray n dd sl)
        ⟨ho, rfl, ⟨_, ho, rfl⟩, call_meets F.slot_tuple_mul ⟨_, ho, rfl⟩ F.entry_tuple_mul (F.args_tuple_mul_2 _ _) (mul_none_new l its.toArray n sl dd t hi) ⟨ho, ?_⟩⟩)
    refine ⟨.ref s.heap.objs.size, _, I.laid (t' := s.toks) (o := .tup (List.replicate (Int.toNat 0) xs).flatten) (fun b ob q => Heap.get?_push_of_some _ q) (Nat.le_refl _) ?_, rfl, q2 (by decide) _ (I.hok.fresh (Nat.le_refl _))⟩
    exact ⟨Nat.zero_le _, [], .nil, IsTup.new _ _⟩
  · refine wpAny_binaryOp_repeat_ref (T := "tuple") (U := "int") (by decide) ⟨_, ho, rfl⟩ (fun s' => typeIs_int s' 1 t) noFill_tuple_mul F.fills_int_mul F.slot_int_rmul repeat_tuple F.slot_int_index.lookup
      (call_meets F.slot_int_rmul (typeIs_int s 1 t) F.entry_int_rmul (F.args_int_rmul_2 _ _) (int_rmul_tuple 1 t l its.toArray n dd sl)
        ⟨ho, rfl, ⟨_, ho, rfl⟩, call_meets F.slot_tuple_mul ⟨_, ho, rfl⟩ F.entry_tuple_mul (F.args_tuple_mul_2 _ _) (mul_one_same l its.toArray n sl dd t) ⟨ho, ?_⟩⟩)
    exact ⟨.ref l, H, I, rfl, q1 rfl⟩
end GT

namespace GD
open PySem PySem.Spec PyProof.Rows L2 GxR GX GS GT
theorem iteN {c A B : Prop} [Decidable c] (hc : ¬ c) (h : A) : if (!decide c) = true then A else B := by
  rw [decide_eq_false hc]
  exact iteT h
theorem inK {X : Cx} (K : PySem.W.Frag) (h : X.K = K) : OpR X (compareOp .In) (rIn K false) := by
  subst h
  exact op_in_seq
/-- the turns of a list comprehension over enumerate of a tuple -/
theorem lc_enumT {K : PySem.W.Frag} {a : Addr} {xs : List V} {g : TG} {tt : TT} {te : TE} {vs : List Nat} {σ : L2.St} {H1 : Hp} {D : Addr} {Qd : Hp → Prop} (Pv : Nat → Hp → Prop) (h0 : Pv 0 (upd H1 D (.lst []))) (hl : ∀ i H, i ≤ xs.length → Pv i H → SqT K H a xs)
    (hs : ∀ i x H T, xs[i]? = some x → Pv i H → H T = none → g (.ref T) (wipe σ vs) (upd H T (.tup [.int (i : Nat), x])) fun σ2 H2 => wipe σ2 vs = wipe σ vs ∧ tt σ2 H2 fun b H3 =>
      if b = true then te σ2 H3 fun y H4 => ∃ acc, H4 D = some (.lst acc) ∧ acc.length < sizeLine ∧ Pv (i + 1) (upd H4 D (.lst (acc ++ [y]))) else Pv (i + 1) H3) (hd : ∀ H, Pv xs.length H → Qd H) :
    ∃ W : Nat → Nat → Hp → Prop, (∃ m, W 0 m (upd H1 D (.lst []))) ∧ ∀ i m H, W i m H →
      ((GE.IteT K a).stop i H ∧ Qd H) ∨ ((GE.IteT K a).go i H ∧ ∃ Nx : Hp → Prop, (∀ H', Nx H' → ∃ m', m' < m ∧ W (i + 1) m' H') ∧ ∀ x H', (GE.IteT K a).yld i H x H' → g x (wipe σ vs) H' fun σ2 H2 => wipe σ2 vs = wipe σ vs ∧ tt σ2 H2 fun b H3 =>
        if b = true then te σ2 H3 fun y H4 => ∃ acc, H4 D = some (.lst acc) ∧ acc.length < sizeLine ∧ Nx (upd H4 D (.lst (acc ++ [y]))) else Nx H3) := by
  refine ⟨fun i m H => m = xs.length - i ∧ i ≤ xs.length ∧ Pv i H, ⟨xs.length, by simp, Nat.zero_le _, h0⟩, ?_⟩
  rintro i m H ⟨rfl, hi, p⟩
  have q := hl i H hi p
  by_cases hlt : i < xs.length
  · refine .inr ⟨⟨xs, xs[i], q, by simp [hlt]⟩, Pv (i + 1), fun H' p' => ⟨xs.length - (i + 1), by omega, rfl, hlt, p'⟩, fun x H' y => ?_⟩
    obtain ⟨T, x', rfl, hn, rfl, hx⟩ := y
    exact hs i x' H T (hx xs q) p hn
  · have e : i = xs.length := by omega
    subst e
    exact .inl ⟨⟨xs, q, Nat.le_refl _⟩, hd H p⟩
/-! ### plans -/
def oV : Option Int → V
  | none => .non
  | some h => .int h
def IsPlan (K : PySem.W.Frag) (H : Hp) (v : V) (pl : List (Option Int)) : Prop := ∃ a, v = .ref a ∧ SqT K H a (pl.map oV)
structure PlOk (n : Nat) (pl : List (Option Int)) : Prop where
  len : pl.length = n
  ok : ∀ h, some h ∈ pl → 0 ≤ h ∧ h ≤ 11
theorem Ext.plan {ex : List Addr} {H H1 : Hp} {K : PySem.W.Frag} {v : V} {pl : List (Option Int)} (e : Ext ex H H1) (h : IsPlan K H v pl) : IsPlan K H1 v pl := let ⟨a, z, h1⟩ := h; ⟨a, z, e.sqT h1⟩
def hoursN (pl : List (Option Int)) (n : Nat) : List Int := ((List.range n).map fun i : Nat => (i : Int)).filter fun h => decide (some h ∈ pl)
theorem hoursN_succ (pl : List (Option Int)) (n : Nat) : hoursN pl (n + 1) = hoursN pl n ++ (if some (n : Int) ∈ pl then [(n : Int)] else []) := by
  unfold hoursN
  rw [List.range_succ, List.map_append, List.filter_append]
  congr 1
  by_cases h : some (n : Int) ∈ pl
  · simp [h]
  · simp [h]
theorem mem_hoursN {pl : List (Option Int)} {n : Nat} {k : Int} : k ∈ hoursN pl n ↔ (0 ≤ k ∧ k < (n : Int)) ∧ some k ∈ pl := by
  unfold hoursN
  rw [List.mem_filter, decide_eq_true_eq]
  constructor
  · rintro ⟨h1, h2⟩
    obtain ⟨i, hi, rfl⟩ := List.mem_map.mp h1
    have := List.mem_range.mp hi
    exact ⟨by omega, h2⟩
  · rintro ⟨⟨h0, h1⟩, h2⟩
    exact ⟨List.mem_map.mpr ⟨k.toNat, List.mem_range.mpr (by omega), by omega⟩, h2⟩
theorem hoursN_pw (pl : List (Option Int)) : ∀ n, (hoursN pl n).Pairwise (· < ·)
  | 0 => .nil
  | n + 1 => by
    rw [hoursN_succ, List.pairwise_append]
    refine ⟨hoursN_pw pl n, ?_, fun a ha b hb => ?_⟩
    · split
      · exact List.pairwise_singleton _ _
      · exact .nil
    · have h1 := (mem_hoursN.mp ha).1
      split at hb
      · rw [List.mem_singleton.mp hb]
        exact h1.2
      · cases hb
abbrev hoursL (pl : List (Option Int)) : List Int := hoursN pl 12
theorem hoursL_mem {n : Nat} {pl : List (Option Int)} (ok : PlOk n pl) {k : Int} : k ∈ hoursL pl ↔ some k ∈ pl := by
  rw [mem_hoursN]
  exact ⟨fun h => h.2, fun h => ⟨by have := ok.ok k h; omega, h⟩⟩
theorem strict_uniq : ∀ {xs ys : List Int}, xs.Pairwise (· < ·) → ys.Pairwise (· < ·) → (∀ k, k ∈ xs ↔ k ∈ ys) → xs = ys
  | [], [], _, _, _ => rfl
  | [], y :: ys, _, _, h => absurd ((h y).mpr List.mem_cons_self) (by simp)
  | x :: xs, [], _, _, h => absurd ((h x).mp List.mem_cons_self) (by simp)
  | x :: xs, y :: ys, h1, h2, h => by
    obtain ⟨a1, a2⟩ := List.pairwise_cons.mp h1
    obtain ⟨b1, b2⟩ := List.pairwise_cons.mp h2
    have e : x = y := by
      rcases List.mem_cons.mp ((h x).mp List.mem_cons_self) with z | z
      · exact z
      · rcases List.mem_cons.mp ((h y).mpr List.mem_cons_self) with q | q
        · exact q.symm
        · have c1 := b1 x z
          have c2 := a1 y q
          omega
    subst e
    congr 1
    refine strict_uniq a2 b2 fun k => ⟨fun hk => ?_, fun hk => ?_⟩
    · rcases List.mem_cons.mp ((h k).mp (List.mem_cons_of_mem _ hk)) with z | z
      · have := a1 k hk
        omega
      · exact z
    · rcases List.mem_cons.mp ((h k).mpr (List.mem_cons_of_mem _ hk)) with z | z
      · have := b1 k hk
        omega
      · exact z
theorem inV_plan (h : Int) (pl : List (Option Int)) : inV (.int h) (pl.map oV) = decide (some h ∈ pl) := by
  rw [Bool.eq_iff_iff, decide_eq_true_eq]
  unfold inV
  rw [List.any_eq_true]
  constructor
  · rintro ⟨y, hy, e⟩
    obtain ⟨o, ho, rfl⟩ := List.mem_map.mp hy
    cases o with
    | none => simp [oV, eqV] at e
    | some k =>
      have : k = h := by simpa [oV, eqV] using e
      rw [← this]
      exact ho
  · intro hm
    exact ⟨oV (some h), List.mem_map.mpr ⟨_, hm, rfl⟩, by simp [oV, eqV]⟩
theorem flat_plan (pl : List (Option Int)) : (pl.map oV).all flatV = true := by
  rw [List.all_eq_true]
  intro y hy
  obtain ⟨o, _, rfl⟩ := List.mem_map.mp hy
  cases o <;> rfl
/-- what a barge waits, nothing where it is open -/
def waitOf (k : Book) (i : Nat) (o : Option Int) : List Int := match o, k.bs[i]? with
  | some h, some b => [h + hsum k.rv b.b.toNat - b.r]
  | _, _ => []
def waitsN (k : Book) (pl : List (Option Int)) (n : Nat) : List Int := (List.range n).flatMap fun i => waitOf k i (pl.getD i none)
theorem waitsN_succ (k : Book) (pl : List (Option Int)) (n : Nat) : waitsN k pl (n + 1) = waitsN k pl n ++ waitOf k n (pl.getD n none) := by
  unfold waitsN
  rw [List.range_succ, List.flatMap_append]
  simp
theorem waitsN_len (k : Book) (pl : List (Option Int)) : ∀ n, (waitsN k pl n).length ≤ n
  | 0 => Nat.le_refl _
  | n + 1 => by
    rw [waitsN_succ, List.length_append]
    have h1 := waitsN_len k pl n
    have h2 : (waitOf k n (pl.getD n none)).length ≤ 1 := by
      unfold waitOf
      split
      · exact Nat.le_refl _
      · exact Nat.zero_le _
    omega
theorem getD_of {pl : List (Option Int)} {i : Nat} {o : Option Int} (h : pl[i]? = some o) : pl.getD i none = o := by
  rw [List.getD_eq_getElem?_getD, h]
  rfl
theorem waitOf_none (k : Book) (i : Nat) : waitOf k i none = [] := by
  unfold waitOf
  rfl
theorem waitOf_some {k : Book} {i : Nat} {h : Int} {b : Barge} (e : k.bs[i]? = some b) : waitOf k i (some h) = [h + hsum k.rv b.b.toNat - b.r] := by
  unfold waitOf
  rw [e]
theorem ifS_ {c : TT} {a b : TS} {D D' : Ends} {σ : L2.St} {H : Hp} (e : D.nx = tIfS c a b D') (h : c σ H fun x H1 => if x = true then a D' σ H1 else b D' σ H1) : tNext D σ H := by
  show D.nx σ H
  rw [e]
  exact h
end GD

namespace GC
open PySem PySem.Spec PyProof.Rows L2
section
variable {X : Cx} {a b c d : Expr} {ta tb tc td : TE} {pos : Pos}
def tCh3 (r r' r'' : R2) (ta tb tc td : TE) : TE := fun σ H Q => ta σ H fun x H1 => tb σ H1 fun y H2 => r x y H2 fun z H3 => ∃ k, z = .bl k ∧
  (if k = true then tc σ H3 fun w' H4 => r' y w' H4 fun z' H5 => ∃ k', z' = .bl k' ∧ (if k' = true then td σ H5 fun w2 H6 => r'' w' w2 H6 Q else Q (.bl false) H5) else Q (.bl false) H3)
theorem pe_ch3 {op op' op'' : CmpOp} {r r' r'' : R2} (ho : OpR X (compareOp op) r) (ho' : OpR X (compareOp op') r') (ho2 : OpR X (compareOp op'') r'') (ha : PE X a ta) (hb : PE X b tb) (hc : PE X c tc) (hd : PE X d td)
    (hm : lastMarks [op, op', op''] [b, c, d] = false := by with_unfolding_all rfl) : PE X (.Compare a [op, op', op''] [b, c, d] pos) (tCh3 r r' r'' ta tb tc td) := by
  refine ⟨fun pins s σ H Q I h => ?_⟩
  refine Compare_chain (thn (ha.run pins s σ H _ I h) fun v s1 ⟨x, H1, I1, r1, q1⟩ => chain_link (thn (hb.run pins s1 σ H1 _ I1 q1) fun u s2 ⟨y, H2, I2, r2, q2⟩ =>
    thn (ho pins s2 σ H2 x y v u _ I2 r1 r2 q2) fun d s3 ⟨z, H3, I3, r3, k, e, q3⟩ => ?_)) hm
  subst e
  cases r3
  refine wpAny_truthy_bool ?_
  cases k with
  | false => exact ite_ff ⟨.bl false, H3, I3, rfl, q3⟩
  | true =>
    refine ite_tt (chain_link (thn (hc.run pins s3 σ H3 _ I3 q3) fun w' s4 ⟨z', H4, I4, r4, q4⟩ => thn (ho' pins s4 σ H4 y z' u w' _ I4 r2 r4 q4) fun d' s5 ⟨z2, H5, I5, r5, k', e', q5⟩ => ?_))
    subst e'
    cases r5
    refine wpAny_truthy_bool ?_
    cases k' with
    | false => exact ite_ff ⟨.bl false, H5, I5, rfl, q5⟩
    | true => exact ite_tt (chain_last (thn (hd.run pins s5 σ H5 _ I5 q5) fun w3 s6 ⟨z3, H6, I6, r6, q6⟩ => ho2 pins s6 σ H6 z' z3 w' w3 Q I6 r4 r6 q6))
theorem pt_ch3 {op op' op'' : CmpOp} {r r' r'' : R2} (ho : OpR X (compareOp op) r) (ho' : OpR X (compareOp op') r') (ho2 : OpR X (compareOp op'') r'') (ha : PE X a ta) (hb : PE X b tb) (hc : PE X c tc) (hd : PE X d td)
    (hm : lastMarks [op, op', op''] [b, c, d] = false := by with_unfolding_all rfl) : PT X (.Compare a [op, op', op''] [b, c, d] pos) (tTest (tCh3 r r' r'' ta tb tc td)) := by
  refine ⟨fun pins s σ H Q I h => ?_⟩
  refine isTrue_chain (thn (ha.run pins s σ H _ I h) fun v s1 ⟨x, H1, I1, r1, q1⟩ => test_link (thn (hb.run pins s1 σ H1 _ I1 q1) fun u s2 ⟨y, H2, I2, r2, q2⟩ =>
    thn (ho pins s2 σ H2 x y v u _ I2 r1 r2 q2) fun d s3 ⟨z, H3, I3, r3, k, e, q3⟩ => ?_)) hm
  subst e
  cases r3
  refine wpAny_truthy_bool ?_
  cases k with
  | false =>
    obtain ⟨k', e', q'⟩ := q3
    cases e'
    exact ite_ff ⟨H3, I3, q'⟩
  | true =>
    refine ite_tt (test_link (thn (hc.run pins s3 σ H3 _ I3 q3) fun w' s4 ⟨z', H4, I4, r4, q4⟩ => thn (ho' pins s4 σ H4 y z' u w' _ I4 r2 r4 q4) fun d' s5 ⟨z2, H5, I5, r5, k', e', q5⟩ => ?_))
    subst e'
    cases r5
    refine wpAny_truthy_bool ?_
    cases k' with
    | false =>
      obtain ⟨k3, e3, q'⟩ := q5
      cases e3
      exact ite_ff ⟨H5, I5, q'⟩
    | true =>
      refine ite_tt (test_last (thn (hd.run pins s5 σ H5 _ I5 q5) fun w3 s6 ⟨z3, H6, I6, r6, q6⟩ => thn (ho2 pins s6 σ H6 z' z3 w' w3 _ I6 r4 r6 q6) fun d' s7 ⟨z4, H7, I7, r7, k2, e2, q7⟩ => ?_))
      subst e2
      cases r7
      exact wpAny_truthy_bool ⟨H7, I7, q7⟩
end
theorem for_enumT {K : PySem.W.Frag} {a : Addr} {xs : List V} {g : TG} {tb : TS} {D : Ends} {σ : L2.St} {H : Hp} (Pv : Nat → L2.St → Hp → Prop) (h0 : Pv 0 σ H) (hl : ∀ i σ H, i ≤ xs.length → Pv i σ H → SqT K H a xs)
    (hs : ∀ i x σ H T, xs[i]? = some x → Pv i σ H → H T = none → g (.ref T) σ (upd H T (.tup [.int (i : Nat), x])) fun σ2 H2 => tb { D with nx := Pv (i + 1), ct := Pv (i + 1), bk := D.nx } σ2 H2) (hd : ∀ σ H, Pv xs.length σ H → D.nx σ H) :
    ∃ W : Nat → Nat → L2.St → Hp → Prop, (∃ m, W 0 m σ H) ∧ ∀ i m σ H, W i m σ H →
      ((GE.IteT K a).stop i H ∧ D.nx σ H) ∨ ((GE.IteT K a).go i H ∧ ∃ N : L2.St → Hp → Prop, (∀ σ' H', N σ' H' → ∃ m', m' < m ∧ W (i + 1) m' σ' H') ∧ ∀ x H', (GE.IteT K a).yld i H x H' → g x σ H' fun σ2 H2 => tb { D with nx := N, ct := N, bk := D.nx } σ2 H2) := by
  refine ⟨fun i m σ H => m = xs.length - i ∧ i ≤ xs.length ∧ Pv i σ H, ⟨xs.length, by simp, Nat.zero_le _, h0⟩, ?_⟩
  rintro i m σ H ⟨rfl, hi, p⟩
  have q := hl i σ H hi p
  by_cases hlt : i < xs.length
  · refine .inr ⟨⟨xs, xs[i], q, by simp [hlt]⟩, Pv (i + 1), fun σ' H' p' => ⟨xs.length - (i + 1), by omega, rfl, hlt, p'⟩, fun x H' y => ?_⟩
    obtain ⟨T, x', rfl, hn, rfl, hx⟩ := y
    exact hs i x' σ H T (hx xs q) p hn
  · have e : i = xs.length := by omega
    subst e
    exact .inl ⟨⟨xs, q, Nat.le_refl _⟩, hd σ H p⟩
end GC

namespace GD
open PySem PySem.Spec PyProof.Rows L2 GxR GX GS GT GC
/-! ### rows of texts and numbers -/
inductive Fl where
  | s (x : Str) (h : PyData.strOk x = true)
  | i (n : Int)
def Fl.v : Fl → V
  | .s x _ => .str x
  | .i n => .int n
def Fl.d : Fl → PyData
  | .s x _ => .str x
  | .i n => .int n
abbrev Row := List Fl
def rowD (r : Row) : PyData := .tuple (r.map Fl.d)
def IsRow (K : PySem.W.Frag) (H : Hp) (v : V) (r : Row) : Prop := ∃ t, v = .ref t ∧ SqT K H t (r.map Fl.v)
def IsList (K : PySem.W.Frag) (H : Hp) (p : Addr) (rs : List Row) : Prop := ∃ vs, H p = some (.lst vs) ∧ Paired (IsRow K H) vs rs
section
variable {ex : List Addr} {H H1 : Hp} {K : PySem.W.Frag} {v : V} {p : Addr} {rs : List Row} {r : Row}
theorem Ext.row (e : Ext ex H H1) (h : IsRow K H v r) : IsRow K H1 v r := let ⟨t, z, h1⟩ := h; ⟨t, z, e.sqT h1⟩
theorem Ext.rows (e : Ext ex H H1) (n : p ∉ ex) (h : IsList K H p rs) : IsList K H1 p rs := let ⟨vs, h1, h2⟩ := h; ⟨vs, e.lst p vs n h1, Paired.mapP h2 fun _ _ z => e.row z⟩
theorem IsList.new : IsList K (upd H p (.lst [])) p [] := ⟨[], upd_same, .nil⟩
theorem isRow_new {t : Addr} {xs : List V} (e : xs = r.map Fl.v) : IsRow K (upd H t (.tup xs)) (.ref t) r := ⟨t, rfl, by rw [e]; exact sqT_new⟩
theorem rows_push {vs : List V} (h1 : H p = some (.lst vs)) (h2 : Paired (IsRow K H) vs rs) (h : IsRow K H v r) : IsList K (upd H p (.lst (vs ++ [v]))) p (rs ++ [r]) :=
  ⟨_, upd_same, papp (Paired.mapP h2 fun _ _ z => (Ext.wr (ex := [p]) (by simp) h1).row z) ((Ext.wr (ex := [p]) (by simp) h1).row h)⟩
theorem pappend {α β : Type} {F : α → β → Prop} : ∀ {xs : List α} {ys : List β} {us : List α} {ws : List β}, Paired F xs ys → Paired F us ws → Paired F (xs ++ us) (ys ++ ws)
  | _, _, _, _, .nil, h => h
  | _, _, _, _, .cons r t, h => .cons r (pappend t h)
theorem dpAll_row : ∀ r : Row, DpAll K H (r.map Fl.v) (r.map Fl.d)
  | [] => .nil
  | .s x _ :: r => .cons (.str x) (dpAll_row r)
  | .i n :: r => .cons (.int n) (dpAll_row r)
theorem IsRow.dp (h : IsRow K H v r) : Dp K H v (rowD r) := by
  obtain ⟨t, rfl, z⟩ := h
  exact .tup z (dpAll_row r)
theorem dpAll_rows : ∀ {vs : List V} {rs : List Row}, Paired (IsRow K H) vs rs → DpAll K H vs (rs.map rowD)
  | _, _, .nil => .nil
  | _, _, .cons a b => .cons a.dp (dpAll_rows b)
def rowsD (rs : List Row) : PyData := .list (rs.map rowD)
theorem IsList.dp (h : IsList K H p rs) : Dp K H (.ref p) (rowsD rs) := by
  obtain ⟨vs, h1, h2⟩ := h
  exact .lst (.inl (.inl h1)) (dpAll_rows h2)
theorem lay_row : ∀ r : Row, PyData.canLayAll0 (r.map Fl.d) = true ∧ PyData.depthAll (r.map Fl.d) = 0
  | [] => ⟨rfl, rfl⟩
  | .s x h :: r => by
    obtain ⟨h1, h2⟩ := lay_row r
    constructor
    · show (PyData.strOk x && PyData.canLayAll0 (r.map Fl.d)) = true
      rw [h, h1]
      rfl
    · show max 0 (PyData.depthAll (r.map Fl.d)) = 0
      rw [h2]
      rfl
  | .i n :: r => by
    obtain ⟨h1, h2⟩ := lay_row r
    constructor
    · show (true && PyData.canLayAll0 (r.map Fl.d)) = true
      rw [h1]
      rfl
    · show max 0 (PyData.depthAll (r.map Fl.d)) = 0
      rw [h2]
      rfl
theorem lay_rows : ∀ rs : List Row, PyData.canLayAll0 (rs.map rowD) = true ∧ PyData.depthAll (rs.map rowD) ≤ 1
  | [] => ⟨rfl, Nat.zero_le _⟩
  | r :: rs => by
    obtain ⟨h1, h2⟩ := lay_rows rs
    obtain ⟨k1, k2⟩ := lay_row r
    constructor
    · show (PyData.canLayAll0 (r.map Fl.d) && PyData.canLayAll0 (rs.map rowD)) = true
      rw [h1, k1]
      rfl
    · show max (PyData.depthAll (r.map Fl.d) + 1) (PyData.depthAll (rs.map rowD)) ≤ 1
      rw [k2]
      omega
theorem lay_rowsD (rs : List Row) : (rowsD rs).canLay0 = true := (lay_rows rs).1
theorem shaped_rows (rs : List Row) : SeqAt.shaped (rowsD rs) = true := by
  have h := lay_rows rs
  unfold SeqAt.shaped
  rw [lay_rowsD rs, Bool.true_and, decide_eq_true_eq]
  show PyData.depthAll (rs.map rowD) + 1 ≤ 64
  omega
end
/-! ### what is got turn by turn -/
def cat {α : Type} (f : Nat → List α) (n : Nat) : List α := (List.range n).flatMap f
theorem cat_zero {α : Type} (f : Nat → List α) : cat f 0 = [] := rfl
theorem cat_succ {α : Type} (f : Nat → List α) (n : Nat) : cat f (n + 1) = cat f n ++ f n := by
  unfold cat
  rw [List.range_succ, List.flatMap_append]
  simp
theorem cat_le {α : Type} {f : Nat → List α} {c : Nat} (h : ∀ i, (f i).length ≤ c) : ∀ n, (cat f n).length ≤ n * c
  | 0 => by rw [cat_zero]; exact Nat.zero_le _
  | n + 1 => by
    rw [cat_succ, List.length_append, Nat.succ_mul]
    have h1 := cat_le h n
    have h2 := h n
    omega
theorem cat_pick {α : Type} {p : Nat → Prop} [DecidablePred p] {f : Nat → List α} : ∀ n, (cat (fun i => if p i then [i] else []) n).flatMap f = cat (fun i => if p i then f i else []) n
  | 0 => rfl
  | n + 1 => by
    rw [cat_succ, cat_succ, List.flatMap_append, cat_pick n]
    congr 1
    by_cases h : p n
    · rw [if_pos h, if_pos h]; simp
    · rw [if_neg h, if_neg h]; rfl
theorem flat_take {α β : Type} {xs : List α} {f : α → List β} {i : Nat} {x : α} (h : xs[i]? = some x) : (xs.take (i + 1)).flatMap f = (xs.take i).flatMap f ++ f x := by
  rw [List.take_add_one, h, List.flatMap_append]
  simp
theorem flat_le {α β : Type} {f : α → List β} {c : Nat} (h : ∀ i, (f i).length ≤ c) : ∀ xs : List α, (xs.flatMap f).length ≤ xs.length * c
  | [] => Nat.zero_le _
  | x :: xs => by
    rw [List.flatMap_cons, List.length_append, List.length_cons, Nat.succ_mul]
    have h1 := flat_le h xs
    have h2 := h x
    omega
/-! ### what speaks against a plan -/
def f_early : Fl := .s "early" (by decide +kernel)
def f_late : Fl := .s "late" (by decide +kernel)
def f_shallow : Fl := .s "shallow" (by decide +kernel)
def f_full : Fl := .s "full" (by decide +kernel)
def f_crossed : Fl := .s "crossed" (by decide +kernel)
def comesAt (k : Book) (p : Int) (h : Int) : Int := h + hsum k.rv p.toNat
def strN (k : Book) (s : Nat) : Stretch := k.rv.getD s ⟨0, 0, []⟩
def shalR (k : Book) (i : Nat) (b : Barge) (h : Int) (j : Nat) : List Row :=
  if depthAt (strN k (b.b.toNat + j)) (comesAt k (b.b + j) h) < b.d then [[f_shallow, .i i, .i (b.b + j), .i (comesAt k (b.b + j) h), .i (depthAt (strN k (b.b.toNat + j)) (comesAt k (b.b + j) h))]] else []
def endsR (k : Book) (i : Nat) (b : Barge) (h : Int) : List Row :=
  (if comesAt k b.b h < b.r then [[f_early, .i i, .i (comesAt k b.b h)]] else []) ++ (if b.u < comesAt k b.g h then [[f_late, .i i, .i (comesAt k b.g h)]] else [])
def aloneR (k : Book) (i : Nat) (b : Barge) (h : Int) : List Row := endsR k i b h ++ cat (shalR k i b h) (b.g - b.b).toNat
theorem endsR_le (k : Book) (i : Nat) (b : Barge) (h : Int) : (endsR k i b h).length ≤ 2 := by
  unfold endsR
  rw [List.length_append]
  split <;> split <;> simp
theorem shalR_le (k : Book) (i : Nat) (b : Barge) (h : Int) (j : Nat) : (shalR k i b h j).length ≤ 1 := by
  unfold shalR
  split <;> simp
theorem aloneR_le {k : Book} {b : Barge} (ok : b.Ok k.rv.length) (n8 : k.rv.length ≤ 8) (i : Nat) (h : Int) : (aloneR k i b h).length ≤ 10 := by
  unfold aloneR
  rw [List.length_append]
  have h1 := endsR_le k i b h
  have h2 := cat_le (shalR_le k i b h) (b.g - b.b).toNat
  have := ok.b0
  have := ok.gn
  omega
def bargeR (k : Book) (pl : List (Option Int)) (i : Nat) : List Row := match pl.getD i none, k.bs[i]? with
  | some h, some b => aloneR k i b h
  | _, _ => []
theorem bargeR_none {k : Book} {pl : List (Option Int)} {i : Nat} (h : pl[i]? = some none) : bargeR k pl i = [] := by
  unfold bargeR
  rw [getD_of h]
theorem bargeR_some {k : Book} {pl : List (Option Int)} {i : Nat} {h : Int} {b : Barge} (e : pl[i]? = some (some h)) (eb : k.bs[i]? = some b) : bargeR k pl i = aloneR k i b h := by
  unfold bargeR
  rw [getD_of e, eb]
theorem bargeR_le {k : Book} (ok : k.Ok) (pl : List (Option Int)) (i : Nat) : (bargeR k pl i).length ≤ 10 := by
  unfold bargeR
  split
  · rename_i b h _ hb
    exact aloneR_le (ok.ok _ (List.mem_of_getElem? hb)) ok.rv.n8 _ _
  · exact Nat.zero_le _
def memN (pl : List (Option Int)) (h : Int) (n : Nat) : List Nat := cat (fun i => if pl.getD i none = some h then [i] else []) n
theorem memN_succ (pl : List (Option Int)) (h : Int) (n : Nat) : memN pl h (n + 1) = memN pl h n ++ (if pl.getD n none = some h then [n] else []) := cat_succ _ n
theorem memN_le (pl : List (Option Int)) (h : Int) (n : Nat) : (memN pl h n).length ≤ n := by
  have z := cat_le (f := fun i => if pl.getD i none = some h then [i] else []) (c := 1) (fun i => by split <;> simp) n
  rw [Nat.mul_one] at z
  exact z
theorem memN_lt {pl : List (Option Int)} {h : Int} : ∀ {n x : Nat}, x ∈ memN pl h n → x < n
  | 0, _, z => by cases z
  | n + 1, x, z => by
    rw [memN_succ] at z
    rcases List.mem_append.mp z with z | z
    · have := memN_lt z
      omega
    · split at z
      · rw [List.mem_singleton.mp z]; omega
      · cases z
def onS (k : Book) (s : Nat) (i : Nat) : Bool := match k.bs[i]? with
  | some b => decide (b.b ≤ (s : Int)) && decide ((s : Int) < b.g)
  | none => false
def onL (k : Book) (pl : List (Option Int)) (h : Int) (s : Nat) : List Nat := (memN pl h pl.length).filter (onS k s)
def fullR (k : Book) (pl : List (Option Int)) (h : Int) (s : Nat) : List Row :=
  if (strN k s).room < ((onL k pl h s).length : Int) then [[f_full, .i h, .i s, .i ((onL k pl h s).length : Int)]] else []
theorem fullR_le (k : Book) (pl : List (Option Int)) (h : Int) (s : Nat) : (fullR k pl h s).length ≤ 1 := by
  unfold fullR
  split <;> simp
def fullH (k : Book) (pl : List (Option Int)) (h : Int) : List Row := cat (fullR k pl h) k.rv.length
def fullA (k : Book) (pl : List (Option Int)) : List Row := (hoursL pl).flatMap (fullH k pl)
theorem fullH_le {k : Book} (ok : k.Ok) (pl : List (Option Int)) (h : Int) : (fullH k pl h).length ≤ 8 := by
  have h1 := cat_le (fullR_le k pl h) k.rv.length
  have := ok.rv.n8
  unfold fullH
  omega
theorem hoursL_le (pl : List (Option Int)) : (hoursL pl).length ≤ 12 := by
  unfold hoursL hoursN
  refine Nat.le_trans (List.length_filter_le _ _) ?_
  rw [List.length_map, List.length_range]
  exact Nat.le_refl _
theorem fullT_le {k : Book} (ok : k.Ok) (pl : List (Option Int)) (i : Nat) : (((hoursL pl).take i).flatMap (fullH k pl)).length ≤ 96 := by
  have h1 := flat_le (fullH_le ok pl) ((hoursL pl).take i)
  have h2 := hoursL_le pl
  have h3 : ((hoursL pl).take i).length ≤ (hoursL pl).length := by rw [List.length_take]; omega
  omega
def crossed (a b : Barge) : Prop := a.b < b.b ∧ b.b < a.g ∧ a.g < b.g
instance (a b : Barge) : Decidable (crossed a b) := by unfold crossed; infer_instance
def crossO (k : Book) (i j : Nat) : List Row := match k.bs[i]?, k.bs[j]? with
  | some a, some b => if crossed a b then [[f_crossed, .i i, .i j]] else []
  | _, _ => []
theorem crossO_of {k : Book} {i j : Nat} {a b : Barge} (h1 : k.bs[i]? = some a) (h2 : k.bs[j]? = some b) : crossO k i j = if crossed a b then [[f_crossed, .i i, .i j]] else [] := by
  unfold crossO
  rw [h1, h2]
theorem crossO_le (k : Book) (i j : Nat) : (crossO k i j).length ≤ 1 := by
  unfold crossO
  split
  · split <;> simp
  · exact Nat.zero_le _
def crossR (k : Book) (pl : List (Option Int)) (i : Nat) : List Row := match pl.getD i none with
  | some h => cat (fun j => if pl.getD j none = some h then crossO k i j else []) pl.length
  | none => []
theorem crossR_none {k : Book} {pl : List (Option Int)} {i : Nat} (h : pl[i]? = some none) : crossR k pl i = [] := by
  unfold crossR
  rw [getD_of h]
theorem crossR_some {k : Book} {pl : List (Option Int)} {i : Nat} {h : Int} (e : pl[i]? = some (some h)) : crossR k pl i = cat (fun j => if pl.getD j none = some h then crossO k i j else []) pl.length := by
  unfold crossR
  rw [getD_of e]
theorem crossJ_le (k : Book) (pl : List (Option Int)) (h : Int) (i n : Nat) : (cat (fun j => if pl.getD j none = some h then crossO k i j else []) n).length ≤ n := by
  have z := cat_le (f := fun j => if pl.getD j none = some h then crossO k i j else []) (c := 1) (fun j => by split; exact crossO_le k i j; exact Nat.zero_le _) n
  omega
theorem crossR_le (k : Book) (pl : List (Option Int)) (n7 : pl.length ≤ 7) (i : Nat) : (crossR k pl i).length ≤ 7 := by
  unfold crossR
  split
  · rename_i h _
    have := crossJ_le k pl h i pl.length
    omega
  · exact Nat.zero_le _
theorem crossM (k : Book) (pl : List (Option Int)) (h : Int) (i : Nat) (n : Nat) : (memN pl h n).flatMap (crossO k i) = cat (fun j => if pl.getD j none = some h then crossO k i j else []) n := cat_pick n
def bargesA (k : Book) (pl : List (Option Int)) : List Row := cat (bargeR k pl) pl.length
def crossA (k : Book) (pl : List (Option Int)) : List Row := cat (crossR k pl) pl.length
def allR (k : Book) (pl : List (Option Int)) : List Row := bargesA k pl ++ fullA k pl ++ crossA k pl
theorem bargesA_le {k : Book} (ok : k.Ok) (pl : List (Option Int)) (n7 : pl.length ≤ 7) : (bargesA k pl).length ≤ 70 := by
  have := cat_le (bargeR_le ok pl) pl.length
  unfold bargesA
  omega
theorem fullA_le {k : Book} (ok : k.Ok) (pl : List (Option Int)) : (fullA k pl).length ≤ 96 := by
  have h := fullT_le ok pl (hoursL pl).length
  rw [List.take_length] at h
  exact h
theorem crossA_le {k : Book} (pl : List (Option Int)) (n7 : pl.length ≤ 7) : (crossA k pl).length ≤ 49 := by
  have := cat_le (crossR_le k pl n7) pl.length
  unfold crossA
  omega
theorem allR_le {k : Book} (ok : k.Ok) (pl : List (Option Int)) (n7 : pl.length ≤ 7) : (allR k pl).length ≤ 215 := by
  have h1 := bargesA_le ok pl n7
  have h2 := fullA_le ok pl
  have h3 := crossA_le (k := k) pl n7
  unfold allR
  rw [List.length_append, List.length_append]
  omega
theorem strN_of {k : Book} {s : Nat} {x : Stretch} (h : k.rv[s]? = some x) : strN k s = x := by
  unfold strN
  rw [List.getD_eq_getElem?_getD, h]
  rfl
def wayR (k : Book) (b : Barge) (h : Int) (j : Nat) : Row := [.i (b.b + j), .i (comesAt k (b.b + j) h), .i (depthAt (strN k (b.b.toNat + j)) (comesAt k (b.b + j) h))]
def wayL (k : Book) (b : Barge) (h : Int) (n : Nat) : List Row := (List.range n).map (wayR k b h)
theorem wayL_succ (k : Book) (b : Barge) (h : Int) (n : Nat) : wayL k b h (n + 1) = wayL k b h n ++ [wayR k b h n] := by
  unfold wayL
  rw [List.range_succ, List.map_append]
  rfl
theorem wayL_len (k : Book) (b : Barge) (h : Int) (n : Nat) : (wayL k b h n).length = n := by
  unfold wayL
  rw [List.length_map, List.length_range]
theorem wayL_get {k : Book} {b : Barge} {h : Int} {n j : Nat} {r : Row} (e : (wayL k b h n)[j]? = some r) : r = wayR k b h j ∧ j < n := by
  have hj : j < n := by
    have := (List.getElem?_eq_some_iff.mp e).1
    rw [wayL_len] at this
    exact this
  unfold wayL at e
  rw [List.getElem?_map, List.getElem?_range hj] at e
  exact ⟨(Option.some.inj e).symm, hj⟩
theorem oV_int {o : Option Int} {h : Int} : oV o = V.int h ↔ o = some h := by
  cases o with
  | none => simp [oV]
  | some x => simp [oV]
theorem scal_oV (o : Option Int) (h : Int) : scal (oV o) (.int h) = true := by
  cases o <;> rfl
theorem comesAt_nat (k : Book) (p : Nat) (h : Int) : comesAt k (p : Int) h = h + hsum k.rv p := by
  unfold comesAt
  rw [Int.toNat_natCast]
abbrev natsV (xs : List Nat) : List V := xs.map fun i : Nat => V.int (i : Int)
theorem Ext.born {H H1 H2 : Hp} {D : Addr} (e : Ext [] H H1) (hD : H D = none) (f : Ext [D] H1 H2) : Ext [] H H2 where
  tup := fun b xs z => f.tup b xs (e.tup b xs z)
  frz := fun b o u z => f.frz b o u (e.frz b o u z)
  tbl := fun b ps z t => let ⟨ps', z', t'⟩ := e.tbl b ps z t; f.tbl b ps' z' t'
  lst := fun b xs n z => f.lst b xs (by simp; exact ne_of_none z hD) (e.lst b xs (by simp) z)
  oth := fun b u n t z => f.oth b u (by simp; exact ne_of_none z hD) t (e.oth b u (by simp) t z)
  dom := fun b z => e.dom b (f.dom b z)
theorem joinIf {c : Prop} [Decidable c] {A : Prop} {G : Hp → Prop} (H2 : Hp) (P : Hp → Prop) (h2 : ¬ c → P H2) (h1 : c → (∀ H3, P H3 → G H3) → A) (rest : ∀ H3, P H3 → G H3) : if c then A else G H2 := by
  by_cases h : c
  · rw [if_pos h]
    exact h1 h rest
  · rw [if_neg h]
    exact rest H2 (h2 h)
theorem rows_cat {H : Hp} {K : PySem.W.Frag} {p : Addr} {vs ws : List V} {rs r2 : List Row} (h1 : H p = some (.lst vs)) (h2 : Paired (IsRow K H) vs rs) (h3 : Paired (IsRow K H) ws r2) : IsList K (upd H p (.lst (vs ++ ws))) p (rs ++ r2) :=
  ⟨_, upd_same, Paired.mapP (pappend h2 h3) fun _ _ z => (Ext.wr (ex := [p]) (by simp) h1).row z⟩
theorem rows_new {H : Hp} {K : PySem.W.Frag} {p : Addr} {vs ws : List V} {rs r2 : List Row} (h1 : H p = none) (h2 : Paired (IsRow K H) vs rs) (h3 : Paired (IsRow K H) ws r2) : IsList K (upd H p (.lst (vs ++ ws))) p (rs ++ r2) :=
  ⟨_, upd_same, Paired.mapP (pappend h2 h3) fun _ _ z => (Ext.new (ex := []) h1).row z⟩
end GD

namespace GD
open PySem PySem.Spec PyProof.Rows L2 GxR GX GS GT GC
theorem slTA_any {K : PySem.W.Frag} {H : Hp} {a : Addr} {xs : List V} {lo hi : Option Int} {Q : VK} (h : SqT K H a xs) (q : ∀ c H', Ext [] H H' → SqT K H' c (cutV xs lo hi) → Q (.ref c) H') : rSlTA K (.ref a) lo hi H Q := by
  refine ⟨a, xs, rfl, h, fun w => q a H Ext.refl ?_, fun _ p hp => q p _ (Ext.new hp) sqT_new⟩
  unfold cutV
  rw [w.1, w.2, List.drop_zero, Nat.sub_zero, List.take_length]
  exact h
theorem catA_any {K : PySem.W.Frag} {H : Hp} {a b : Addr} {xs ys : List V} {Q : VK} (h1 : SqT K H a xs) (h2 : SqT K H b ys) (hl : xs.length + ys.length ≤ 1000) (q : ∀ c H', Ext [] H H' → SqT K H' c (xs ++ ys) → Q (.ref c) H') : rCatA K (.ref a) (.ref b) H Q := by
  refine ⟨a, b, xs, ys, rfl, rfl, h1, h2, Nat.le_of_lt (small1000 hl), fun e => q b H Ext.refl ?_, fun _ e => q a H Ext.refl ?_, fun _ _ p hp => q p _ (Ext.new hp) sqT_new⟩
  · rw [e]; exact h2
  · rw [e, List.append_nil]; exact h1
theorem cut_drop (xs : List V) (p : Nat) (h : p ≤ xs.length) : cutV xs (some (p : Int)) none = xs.drop p := by
  unfold cutV
  rw [HT.sIx_none, HT.sIx_nat, Nat.min_eq_left h]
  exact List.take_of_length_le (by rw [List.length_drop]; omega)
def putP (pl : List (Option Int)) (i : Nat) (h : Int) : List (Option Int) := pl.take i ++ [some h] ++ pl.drop (i + 1)
theorem putP_len {pl : List (Option Int)} {i : Nat} {h : Int} (hi : i < pl.length) : (putP pl i h).length = pl.length := by
  unfold putP
  rw [List.length_append, List.length_append, List.length_take, List.length_drop, List.length_singleton]
  omega
theorem putP_ok {n : Nat} {pl : List (Option Int)} {i : Nat} {h : Int} (ok : PlOk n pl) (hi : i < pl.length) (h0 : 0 ≤ h) (h11 : h ≤ 11) : PlOk n (putP pl i h) := ⟨by rw [putP_len hi, ok.len], fun x hx => by
  unfold putP at hx
  rcases List.mem_append.mp hx with hx | hx
  · rcases List.mem_append.mp hx with hx | hx
    · exact ok.ok x (List.mem_of_mem_take hx)
    · cases List.mem_singleton.mp hx
      exact ⟨h0, h11⟩
  · exact ok.ok x (List.mem_of_mem_drop hx)⟩
theorem isi_ll {K : PySem.W.Frag} {H : Hp} {Q : VK} {a : Addr} {xs : List V} (t : H a = some (.lst xs)) (h : Q (.bl true) H) : rIsi K [.ref a, .ty "list"] H Q :=
  ⟨.ref a, .ty "list", .type "list", .type "list", true, rfl, .ty _, .base (.lst t), kit_ty (by decide +kernel), h⟩
def crossF (k : Book) (pl : List (Option Int)) (i : Nat) (n : Nat) : List Row := match pl.getD i none with
  | some h => cat (fun j => if pl.getD j none = some h then crossO k i j else []) n
  | none => []
theorem crossF_all (k : Book) (pl : List (Option Int)) (i : Nat) : crossR k pl i = crossF k pl i pl.length := rfl
theorem crossF_zero (k : Book) (pl : List (Option Int)) (i : Nat) : crossF k pl i 0 = [] := by
  unfold crossF
  split <;> rfl
theorem crossF_none {k : Book} {pl : List (Option Int)} {i : Nat} (h : pl[i]? = some none) (n : Nat) : crossF k pl i n = [] := by
  unfold crossF
  rw [getD_of h]
theorem crossF_some {k : Book} {pl : List (Option Int)} {i j : Nat} {h : Int} {o : Option Int} (e : pl[i]? = some (some h)) (ej : pl[j]? = some o) : crossF k pl i (j + 1) = crossF k pl i j ++ (if o = some h then crossO k i j else []) := by
  unfold crossF
  rw [getD_of e]
  dsimp only
  rw [cat_succ, getD_of ej]
theorem crossF_le (k : Book) (pl : List (Option Int)) (i n : Nat) : (crossF k pl i n).length ≤ n := by
  unfold crossF
  split
  · exact crossJ_le k pl _ i n
  · exact Nat.zero_le _
theorem oV_eq {o u : Option Int} : oV o = oV u ↔ o = u := by
  cases o <;> cases u <;> simp [oV]
theorem scal_oo (o u : Option Int) : scal (oV o) (oV u) = true := by
  cases o <;> cases u <;> rfl
theorem map_int {xs : List Int} {i : Nat} {x : V} (h : (xs.map V.int)[i]? = some x) : ∃ n : Int, xs[i]? = some n ∧ x = V.int n := by
  rw [List.getElem?_map] at h
  cases e : xs[i]? with
  | none => rw [e] at h; cases h
  | some n => rw [e] at h; exact ⟨n, rfl, (Option.some.inj h).symm⟩
theorem map_nat {xs : List Nat} {i : Nat} {x : V} (h : (natsV xs)[i]? = some x) : ∃ n : Nat, xs[i]? = some n ∧ x = V.int (n : Int) := by
  unfold natsV at h
  rw [List.getElem?_map] at h
  cases e : xs[i]? with
  | none => rw [e] at h; cases h
  | some n => rw [e] at h; exact ⟨n, rfl, (Option.some.inj h).symm⟩
theorem natsV_len (xs : List Nat) : (natsV xs).length = xs.length := List.length_map ..
theorem natsV_app (xs : List Nat) (n : Nat) : natsV (xs ++ [n]) = natsV xs ++ [V.int (n : Int)] := by
  unfold natsV
  rw [List.map_append]
  rfl
theorem onS_of {k : Book} {n : Nat} {b : Barge} (h : k.bs[n]? = some b) (s : Nat) : onS k s n = (decide (b.b ≤ (s : Int)) && decide ((s : Int) < b.g)) := by
  unfold onS
  rw [h]
theorem filter_next {xs : List Nat} {i n : Nat} {f : Nat → Bool} (h : xs[i]? = some n) : (xs.take (i + 1)).filter f = (xs.take i).filter f ++ (if f n = true then [n] else []) := by
  rw [List.take_add_one, h, List.filter_append]
  by_cases e : f n = true
  · rw [if_pos e]
    simp [e]
  · rw [if_neg e]
    simp [e]
theorem rep_any {K : PySem.W.Frag} {H : Hp} {t : Addr} {x : V} {n : Nat} {Q : VK} (h : SqT K H t [x]) (n7 : n ≤ 1000) (q : ∀ c H', Ext [] H H' → SqT K H' c (List.replicate n x) → Q (.ref c) H') : rRepTA K (.ref t) (.int (n : Int)) H Q := by
  refine ⟨t, _, _, rfl, rfl, h, by simp, by omega, by omega, by show 1 ≤ 1000; decide, fun h1 => q t H Ext.refl ?_, fun h1 p hp => q p _ (Ext.new hp) ?_⟩
  · have one : n = 1 := by omega
    rw [one]
    exact h
  · have es : (List.replicate (n : Int).toNat [x]).flatten = List.replicate n x := by
      rw [Int.toNat_natCast]
      simp [List.flatten_replicate_singleton]
    rw [← es]
    exact sqT_new
theorem repNone_any {K : PySem.W.Frag} {H : Hp} {t : Addr} {n : Nat} {Q : VK} (h : SqT K H t [.non]) (n7 : n ≤ 1000) (q : ∀ c H', Ext [] H H' → SqT K H' c ((List.replicate n none).map oV) → Q (.ref c) H') : rRepTA K (.ref t) (.int (n : Int)) H Q :=
  rep_any h n7 fun c H' e s => q c H' e (by rw [List.map_replicate]; exact s)
theorem eqv_nil {rs : List Row} (h : PyData.eqv (rowsD rs) (.list []) = true) : rs = [] := by
  cases rs with
  | nil => rfl
  | cons r rs => exact absurd h (by show ¬ (PyData.eqv (.list (rowD r :: rs.map rowD)) (.list []) = true); simp [PyData.eqv, PyData.eqvAll])
theorem cat_all {α : Type} {f : Nat → List α} : ∀ {n : Nat}, (∀ i, i < n → f i = []) → cat f n = []
  | 0, _ => rfl
  | n + 1, h => by rw [cat_succ, cat_all fun i hi => h i (by omega), h n (by omega)]; rfl
theorem allR_open (k : Book) (n : Nat) : allR k (List.replicate n none) = [] := by
  have g : ∀ i, (List.replicate n (none : Option Int)).getD i none = none := fun i => by
    rw [List.getD_eq_getElem?_getD, List.getElem?_replicate]
    split <;> rfl
  have h0 : hoursL (List.replicate n none) = [] := by simp [hoursL, hoursN]
  have h1 : bargesA k (List.replicate n none) = [] := cat_all fun i _ => by
    unfold bargeR
    rw [g i]
  have h2 : fullA k (List.replicate n none) = [] := by
    unfold fullA
    rw [h0]
    rfl
  have h3 : crossA k (List.replicate n none) = [] := cat_all fun i _ => by
    unfold crossR
    rw [g i]
  unfold allR
  rw [h1, h2, h3]
  rfl
theorem Ext.bornAll {H H1 H2 : Hp} {ex : List Addr} (e : Ext [] H H1) (hn : ∀ b ∈ ex, H b = none) (f : Ext ex H1 H2) : Ext [] H H2 where
  tup := fun b xs z => f.tup b xs (e.tup b xs z)
  frz := fun b o u z => f.frz b o u (e.frz b o u z)
  tbl := fun b ps z t => let ⟨ps', z', t'⟩ := e.tbl b ps z t; f.tbl b ps' z' t'
  lst := fun b xs n z => f.lst b xs (fun q => by rw [hn b q] at z; cases z) (e.lst b xs n z)
  oth := fun b u n t z => f.oth b u (fun q => by rw [hn b q] at z; cases z) t (e.oth b u n t z)
  dom := fun b z => e.dom b (f.dom b z)
theorem map_take {α β : Type} {f : α → β} {xs : List α} {i : Nat} {x : α} (h : xs[i]? = some x) : (xs.take (i + 1)).map f = (xs.take i).map f ++ [f x] := by
  rw [List.take_add_one, h, List.map_append]
  rfl
/-- the barges that have an hour -/
def setN (pl : List (Option Int)) (n : Nat) : List Nat := cat (fun i => if pl.getD i none = none then [] else [i]) n
theorem setN_succ (pl : List (Option Int)) (n : Nat) : setN pl (n + 1) = setN pl n ++ (if pl.getD n none = none then [] else [n]) := by
  unfold setN
  rw [cat_succ]
theorem setN_le (pl : List (Option Int)) (n : Nat) : (setN pl n).length ≤ n := by
  unfold setN
  have z := cat_le (f := fun i => if pl.getD i none = none then [] else [i]) (c := 1) (fun i => by split <;> simp) n
  omega
end GD

namespace GD
open PySem PySem.Spec PyProof.Rows L2 GxR GX GS GT GC
mutual
theorem Ext.dp {K : PySem.W.Frag} {H H1 : Hp} (e : Ext [] H H1) : ∀ {v : V} {d : PyData}, Dp K H v d → Dp K H1 v d
  | _, _, .non => .non
  | _, _, .bl b => .bl b
  | _, _, .int i => .int i
  | _, _, .str x => .str x
  | _, _, .lst h1 h2 => .lst (e.sqL (by simp) h1) (e.dpAll h2)
  | _, _, .tup h1 h2 => .tup (e.sqT h1) (e.dpAll h2)
theorem Ext.dpAll {K : PySem.W.Frag} {H H1 : Hp} (e : Ext [] H H1) : ∀ {vs : List V} {ds : List PyData}, DpAll K H vs ds → DpAll K H1 vs ds
  | _, _, .nil => .nil
  | _, _, .cons a b => .cons (e.dp a) (e.dpAll b)
end
theorem eqDK {X : Cx} (K : PySem.W.Frag) (hu : X.A.units + 64 < cLine) (hk : X.K = K) : OpR X (compareOp .Eq) (rEqD K) := by
  subst hk
  exact op_eqD hu
theorem neDK {X : Cx} (K : PySem.W.Frag) (hu : X.A.units + 64 < cLine) (hk : X.K = K) : OpR X (compareOp .NotEq) (rNeD K) := by
  subst hk
  exact op_neD hu
def tTr (K : PySem.W.Frag) (ta : TE) : TT := fun σ H Q => ta σ H fun x H' => ∃ k, TruV K x H' k ∧ Q k H'
theorem pt_tru {X : Cx} {a : Expr} {ta : TE} (K : PySem.W.Frag) (ha : PE X a ta) (hk : X.K = K) (he : ∀ whole, isTrue a X.env whole = (do let v ← whole; standAt a.pos; holding [v] (truthy v))) : PT X a (tTr K ta) := by
  subst hk
  exact pt_truth ha he
/-! ### data of tuples and scalars -/
mutual
inductive Td (K : PySem.W.Frag) (H : Hp) : V → PyData → Prop
  | non : Td K H .non .none
  | bl (b : Bool) : Td K H (.bl b) (.bool b)
  | int (i : Int) : Td K H (.int i) (.int i)
  | str (x : Str) : Td K H (.str x) (.str x)
  | tup {a : Addr} {xs : List V} {ds : List PyData} : SqT K H a xs → TdAll K H xs ds → Td K H (.ref a) (.tuple ds)
inductive TdAll (K : PySem.W.Frag) (H : Hp) : List V → List PyData → Prop
  | nil : TdAll K H [] []
  | cons {v : V} {vs : List V} {d : PyData} {ds : List PyData} : Td K H v d → TdAll K H vs ds → TdAll K H (v :: vs) (d :: ds)
end
mutual
theorem Ext.td {K : PySem.W.Frag} {ex : List Addr} {H H1 : Hp} (e : Ext ex H H1) : ∀ {v : V} {d : PyData}, Td K H v d → Td K H1 v d
  | _, _, .non => .non
  | _, _, .bl b => .bl b
  | _, _, .int i => .int i
  | _, _, .str x => .str x
  | _, _, .tup h1 h2 => .tup (e.sqT h1) (e.tdAll h2)
theorem Ext.tdAll {K : PySem.W.Frag} {ex : List Addr} {H H1 : Hp} (e : Ext ex H H1) : ∀ {vs : List V} {ds : List PyData}, TdAll K H vs ds → TdAll K H1 vs ds
  | _, _, .nil => .nil
  | _, _, .cons a b => .cons (e.td a) (e.tdAll b)
end
mutual
theorem Td.dp {K : PySem.W.Frag} {H : Hp} : ∀ {v : V} {d : PyData}, Td K H v d → Dp K H v d
  | _, _, .non => .non
  | _, _, .bl b => .bl b
  | _, _, .int i => .int i
  | _, _, .str x => .str x
  | _, _, .tup h1 h2 => .tup h1 h2.dp
theorem TdAll.dp {K : PySem.W.Frag} {H : Hp} : ∀ {vs : List V} {ds : List PyData}, TdAll K H vs ds → DpAll K H vs ds
  | _, _, .nil => .nil
  | _, _, .cons a b => .cons a.dp b.dp
end
theorem TdAll.app {K : PySem.W.Frag} {H : Hp} : ∀ {vs ws : List V} {ds es : List PyData}, TdAll K H vs ds → TdAll K H ws es → TdAll K H (vs ++ ws) (ds ++ es)
  | _, _, _, _, .nil, h => h
  | _, _, _, _, .cons a b, h => .cons a (b.app h)
theorem TdAll.len {K : PySem.W.Frag} {H : Hp} : ∀ {vs : List V} {ds : List PyData}, TdAll K H vs ds → vs.length = ds.length
  | _, _, .nil => rfl
  | _, _, .cons a b => by rw [List.length_cons, List.length_cons, b.len]
theorem td_row {K : PySem.W.Frag} {H : Hp} : ∀ r : Row, TdAll K H (r.map Fl.v) (r.map Fl.d)
  | [] => .nil
  | .s x _ :: r => .cons (.str x) (td_row r)
  | .i n :: r => .cons (.int n) (td_row r)
theorem IsRow.td {K : PySem.W.Frag} {H : Hp} {v : V} {r : Row} (h : IsRow K H v r) : Td K H v (rowD r) := by
  obtain ⟨t, rfl, z⟩ := h
  exact .tup z (td_row r)
/-! ### least of a list -/
def minD (ns : List Int) : Int := (ns.min?).getD 0
theorem minD_eq {ns : List Int} {m : Int} (h1 : m ∈ ns) (h2 : ∀ y, y ∈ ns → m ≤ y) : m = minD ns := by
  have h : ns.min? = some m := List.min?_eq_some_iff.mpr ⟨h1, h2⟩
  unfold minD
  rw [h]
  rfl
def dls (k : Book) (b : Barge) (h : Int) (n : Nat) : List Int := (List.range n).map fun j => depthAt (strN k (b.b.toNat + j)) (comesAt k (b.b + j) h)
theorem dls_succ (k : Book) (b : Barge) (h : Int) (n : Nat) : dls k b h (n + 1) = dls k b h n ++ [depthAt (strN k (b.b.toNat + n)) (comesAt k (b.b + n) h)] := by
  unfold dls
  rw [List.range_succ, List.map_append]
  rfl
theorem dls_len (k : Book) (b : Barge) (h : Int) (n : Nat) : (dls k b h n).length = n := by
  unfold dls
  rw [List.length_map, List.length_range]
/-- what a barge has to spare -/
def spareR (k : Book) (b : Barge) (h : Int) : Row := [.i (h + hsum k.rv b.b.toNat - b.r), .i (b.u - (h + hsum k.rv b.g.toNat)), .i (minD (dls k b h (b.g - b.b).toNat) - b.d)]
def spareD (k : Book) (pl : List (Option Int)) (i : Nat) : PyData := match pl.getD i none, k.bs[i]? with
  | some h, some b => rowD (spareR k b h)
  | _, _ => .none
theorem spareD_none {k : Book} {pl : List (Option Int)} {i : Nat} (h : pl[i]? = some none) : spareD k pl i = .none := by
  unfold spareD
  rw [getD_of h]
theorem spareD_some {k : Book} {pl : List (Option Int)} {i : Nat} {h : Int} {b : Barge} (e : pl[i]? = some (some h)) (eb : k.bs[i]? = some b) : spareD k pl i = rowD (spareR k b h) := by
  unfold spareD
  rw [getD_of e, eb]
def spareN (k : Book) (pl : List (Option Int)) (n : Nat) : List PyData := (List.range n).map (spareD k pl)
theorem spareN_succ (k : Book) (pl : List (Option Int)) (n : Nat) : spareN k pl (n + 1) = spareN k pl n ++ [spareD k pl n] := by
  unfold spareN
  rw [List.range_succ, List.map_append]
  rfl
theorem spareN_len (k : Book) (pl : List (Option Int)) (n : Nat) : (spareN k pl n).length = n := by
  unfold spareN
  rw [List.length_map, List.length_range]
theorem lay_list {g : Nat → PyData} {n : Nat} (h : ∀ a, (g a).canLay0 = true ∧ (g a).depth ≤ n) : ∀ as : List Nat, PyData.canLayAll0 (as.map g) = true ∧ PyData.depthAll (as.map g) ≤ n
  | [] => ⟨rfl, Nat.zero_le _⟩
  | a :: as => by
    obtain ⟨h1, h2⟩ := lay_list h as
    obtain ⟨k1, k2⟩ := h a
    constructor
    · show (PyData.canLay0 (g a) && PyData.canLayAll0 (as.map g)) = true
      rw [h1, k1]
      rfl
    · show max (PyData.depth (g a)) (PyData.depthAll (as.map g)) ≤ n
      omega
theorem lay_rowD (r : Row) : (rowD r).canLay0 = true ∧ (rowD r).depth ≤ 1 := by
  obtain ⟨h1, h2⟩ := lay_row r
  exact ⟨h1, by show PyData.depthAll _ + 1 ≤ 1; omega⟩
theorem shaped_at {d : PyData} {n : Nat} (h : d.canLay0 = true ∧ d.depth ≤ n) (hn : n ≤ 64) : SeqAt.shaped d = true := by
  unfold SeqAt.shaped
  rw [h.1, Bool.true_and, decide_eq_true_eq]
  have := h.2
  omega
theorem lay_spare (k : Book) (pl : List (Option Int)) (n : Nat) : (PyData.list (spareN k pl n)).canLay0 = true ∧ (PyData.list (spareN k pl n)).depth ≤ 2 := by
  obtain ⟨h1, h2⟩ := lay_list (g := spareD k pl) (n := 1) (fun i => by
    unfold spareD
    split
    · exact lay_rowD _
    · exact ⟨rfl, Nat.zero_le _⟩) (List.range n)
  exact ⟨h1, by show PyData.depthAll _ + 1 ≤ 2; exact Nat.succ_le_succ h2⟩
/-! ### for each hour, what speaks against it -/
def alonesD (k : Book) (i : Nat) (b : Barge) (n : Nat) : List PyData := (List.range n).map fun h : Nat => rowsD (aloneR k i b (h : Int))
theorem alonesD_succ (k : Book) (i : Nat) (b : Barge) (n : Nat) : alonesD k i b (n + 1) = alonesD k i b n ++ [rowsD (aloneR k i b (n : Int))] := by
  unfold alonesD
  rw [List.range_succ, List.map_append]
  rfl
theorem lay_alones (k : Book) (i : Nat) (b : Barge) (n : Nat) : (PyData.list (alonesD k i b n)).canLay0 = true ∧ (PyData.list (alonesD k i b n)).depth ≤ 3 := by
  obtain ⟨h1, h2⟩ := lay_list (g := fun h : Nat => rowsD (aloneR k i b (h : Int))) (n := 2) (fun h => by
    obtain ⟨a, c⟩ := lay_rows (aloneR k i b (h : Int))
    exact ⟨a, by show PyData.depthAll _ + 1 ≤ 2; omega⟩) (List.range n)
  exact ⟨h1, by show PyData.depthAll _ + 1 ≤ 3; exact Nat.succ_le_succ h2⟩
/-- a list of one's own, for an hour -/
def IsAlone (B : Hp) (K : PySem.W.Frag) (H : Hp) (k : Book) (i : Nat) (b : Barge) (v : V) (h : Nat) : Prop := ∃ d, v = .ref d ∧ B d = none ∧ IsList K H d (aloneR k i b (h : Int))
theorem Ext.alone {ex : List Addr} {H H1 B : Hp} {K : PySem.W.Frag} {k : Book} {i : Nat} {b : Barge} {v : V} {h : Nat} (e : Ext ex H H1) (n : ∀ x ∈ ex, B x ≠ none) (z : IsAlone B K H k i b v h) : IsAlone B K H1 k i b v h :=
  let ⟨d, z1, z2, z3⟩ := z
  ⟨d, z1, z2, e.rows (fun q => n d q z2) z3⟩
theorem alones_dp {B : Hp} {K : PySem.W.Frag} {H : Hp} {k : Book} {i : Nat} {b : Barge} {hs : List Nat} : ∀ {vs : List V} {hs : List Nat}, Paired (IsAlone B K H k i b) vs hs → DpAll K H vs (hs.map fun h : Nat => rowsD (aloneR k i b (h : Int)))
  | _, _, .nil => .nil
  | _, _, .cons ⟨d, z1, _, z3⟩ t => .cons (by rw [z1]; exact z3.dp) (alones_dp (hs := hs) t)
theorem alones_dpN {B : Hp} {K : PySem.W.Frag} {H : Hp} {k : Book} {i : Nat} {b : Barge} {vs : List V} {n : Nat} (h : Paired (IsAlone B K H k i b) vs (List.range n)) : DpAll K H vs (alonesD k i b n) := alones_dp (hs := []) h
/-! ### plans with hours given to several -/
def joinP (pl : List (Option Int)) (g : List Nat) (h : Int) : List (Option Int) := g.foldl (fun p b => putP p b h) pl
theorem joinP_len {h : Int} : ∀ {g : List Nat} {pl : List (Option Int)}, (∀ b ∈ g, b < pl.length) → (joinP pl g h).length = pl.length
  | [], _, _ => rfl
  | b :: g, pl, hb => by
    show (joinP (putP pl b h) g h).length = _
    have e := putP_len (h := h) (hb b (by simp))
    rw [joinP_len fun x hx => by rw [e]; exact hb x (by simp [hx]), e]
theorem joinP_ok {n : Nat} {h : Int} (h0 : 0 ≤ h) (h11 : h ≤ 11) : ∀ {g : List Nat} {pl : List (Option Int)}, PlOk n pl → (∀ b ∈ g, b < pl.length) → PlOk n (joinP pl g h)
  | [], _, ok, _ => ok
  | b :: g, pl, ok, hb => by
    show PlOk n (joinP (putP pl b h) g h)
    exact joinP_ok (pl := putP pl b h) h0 h11 (putP_ok ok (hb b (by simp)) h0 h11) fun x hx => by rw [putP_len (hb b (by simp))]; exact hb x (by simp [hx])
theorem joinP_take {pl : List (Option Int)} {g : List Nat} {h : Int} {i b : Nat} (e : g[i]? = some b) : joinP pl (g.take (i + 1)) h = putP (joinP pl (g.take i) h) b h := by
  unfold joinP
  rw [List.take_add_one, e, List.foldl_append]
  rfl
def togN (k : Book) (i j : Nat) (n : Nat) : List Nat := cat (fun h : Nat => if allR k (joinP (List.replicate k.bs.length none) [i, j] (h : Int)) = [] then [h] else []) n
theorem togN_succ (k : Book) (i j : Nat) (n : Nat) : togN k i j (n + 1) = togN k i j n ++ (if allR k (joinP (List.replicate k.bs.length none) [i, j] (n : Int)) = [] then [n] else []) := by
  unfold togN
  rw [cat_succ]
theorem togN_le (k : Book) (i j : Nat) (n : Nat) : (togN k i j n).length ≤ n := by
  unfold togN
  have z := cat_le (f := fun h : Nat => if allR k (joinP (List.replicate k.bs.length none) [i, j] (h : Int)) = [] then [h] else []) (c := 1) (fun i => by split <;> simp) n
  omega
theorem open_ok (n : Nat) : PlOk n (List.replicate n none) := ⟨by simp, fun h hh => absurd hh (by simp)⟩
theorem lay_natsL (xs : List Nat) : (PyData.list (xs.map fun i : Nat => PyData.int (i : Int))).canLay0 = true ∧ (PyData.list (xs.map fun i : Nat => PyData.int (i : Int))).depth ≤ 1 := by
  obtain ⟨h1, h2⟩ := lay_list (g := fun i : Nat => PyData.int (i : Int)) (n := 0) (fun a => ⟨rfl, Nat.le_refl _⟩) xs
  exact ⟨h1, by show PyData.depthAll _ + 1 ≤ 1; exact Nat.succ_le_succ h2⟩
theorem dp_natsL {K : PySem.W.Frag} {H : Hp} : ∀ xs : List Nat, DpAll K H (natsV xs) (xs.map fun i : Nat => .int (i : Int))
  | [] => .nil
  | x :: xs => .cons (.int _) (dp_natsL xs)
theorem eqv_same {d : PyData} (h : d.canLay0 = true) : PyData.eqv d d = true := SeqAt.eqv_refl _ h
end GD

/-! ### rules around exceptions -/
namespace GXC
open PySem PySem.Spec PyProof.Rows L2
theorem eqU_count {k : V} {uk : Value} (rk : RelV k uk) : ∀ {ys : List V} {us : List Value}, Vals ys us → ys.all flatV = true → us.countP (eqU k) = ys.countP fun y => eqV y k
  | _, _, .nil, _ => rfl
  | y :: ys, u :: us, .cons r t, h => by
    rw [List.all_cons, Bool.and_eq_true] at h
    rw [List.countP_cons, List.countP_cons, eqU_count rk t h.2, eqU_of r h.1]
section
variable {X : Cx}
def rCntF (K : PySem.W.Frag) : V → List V → Hp → VK → Prop := fun x xs H Q => ∃ (p : Addr) (ys : List V) (y : V), x = .ref p ∧ xs = [y] ∧ SqL K H p ys ∧ flatV y = true ∧ ys.all flatV = true ∧ Q (.int ((ys.countP fun z => eqV z y : Nat) : Int)) H
theorem mt_countF : MtR X "list.count" (rCntF X.K) := by
  intro pins s σ H x xs v us Q I rx rxs h
  obtain ⟨p, ys, y, rfl, rfl, hs, fy, fys, q⟩ := h
  cases rx
  cases rxs with
  | cons ry rt =>
    rename_i uy ut
    cases rt
    obtain ⟨its, rv, ⟨⟨cls, dd, data, sl⟩, n, ho, hc, hdn, hd⟩, hlen⟩ := I.list hs
    simp only at hc hd
    subst hc hd
    refine call_meets PySem.F.slot_list_count ⟨_, ho, rfl⟩ PySem.F.entry_list_count (PySem.F.args_list_count_2 _ _)
      (SeqAt.list_countAt p its.toArray n dd sl uy (eqU y)) ⟨ho, fun u' hu' => mem_eqAt ry fy rv fys u' (by simpa using hu'), ?_⟩
    have ec : its.toArray.toList.countP (eqU y) = ys.countP fun z => eqV z y := by
      rw [List.toList_toArray]
      exact eqU_count ry rv fys
    refine ⟨.int ((ys.countP fun z => eqV z y : Nat) : Int), H, I.tok _, ⟨s.toks, ?_⟩, q⟩
    show Value.int ((its.toArray.toList.countP (eqU y) : Nat) : Int) s.toks = Value.int ((ys.countP fun z => eqV z y : Nat) : Int) s.toks
    rw [ec]
end
theorem countK {X : Cx} (K : PySem.W.Frag) (h : X.K = K) : MtR X "list.count" (rCntF K) := by
  subst h
  exact mt_countF
theorem indexK {X : Cx} (K : PySem.W.Frag) (h : X.K = K) : MtR X "list.index" (rIndex K) := by
  subst h
  exact mt_index
section
variable {X : Cx} {o e : Expr} {es : List Expr} {to : TE} {t : TA} {name : Str} {apos cpos : Pos} {T id : String} {r : V → List V → Hp → VK → Prop}
theorem pe_bmK (K : PySem.W.Frag) (hk : X.K = K) (pa : PlainAttrs T) (slot : Slot T name id) (hty : typeOf (.builtin id) = pure (.type "method_descriptor")) (hm : MtR X id r) (ho : PE X o to) (ha : PA X (e :: es) t)
    (hbase : attributeBase o name X.env (eval o X.env) = eval o X.env := by rfl)
    (hfew : ((backTo cpos (starEach (e :: es) X.env)).all (fun x => !x.1) && (backToKw cpos (keywordEach [] X.env)).all (fun x => x.1.isSome)
      && decide ((e :: es).length + ([] : List Keyword).length + (if ([] : List Keyword).isEmpty then 0 else 1) < 30)) = true := by rfl)
    (hline : (apos.endLine == cpos.line) = true := by rfl) (hs : starEach (e :: es) X.env = (false, eval e X.env) :: starEach es X.env := by rfl) (hplain : (backTo cpos (starEach es X.env)).any (·.1) = false := by rfl) :
    PE X (.Call (.Attribute o name apos) (e :: es) [] cpos) (tBM K T r to t) := by
  subst hk
  exact pe_bm pa slot hty hm ho ha hbase hfew hline hs hplain
end
/-- the exception's own dict: none, or tracked -/
def OwnD (H : Hp) (d : Option Addr) : Prop := d = none ∨ ∃ dd fs, d = some dd ∧ H dd = some (.xd fs)
/-- isinstance(e, c), e the exception that the suite holds, of a class that the reading tells -/
def rIsX (K : PySem.W.Frag) (a : Addr) (cls : Value) (d : Option Addr) : List V → Hp → VK → Prop := fun xs H Q => ∃ (D : Addr) (c : V) (cv : Value) (b : Bool), cls = .ref D ∧ OwnD H d ∧ ExcC K D ∧ xs = [.ref a, c] ∧ ClsV c cv ∧ PySem.W.kitOne K (.ref D) cv = some b ∧ Q (.bl b) H
def rIsXT (K : PySem.W.Frag) (a : Addr) (cls : Value) (d : Option Addr) : List V → Hp → VK → Prop := fun xs H Q => ∃ (D tp : Addr) (cs : List V) (us : List Value) (b : Bool), cls = .ref D ∧ OwnD H d ∧ ExcC K D ∧ xs = [.ref a, .ref tp] ∧ H tp = some (.tup cs) ∧ Paired ClsV cs us ∧ PySem.W.kitAny K (.ref D) us = some b ∧ Q (.bl b) H
section
variable {X : Cx} {a : Addr} {cls : Value} {d : Option Addr} {oe : Obj} {pn : List (Addr × Obj)}
theorem kitC {D x : Addr} {ox : Obj} {od : Option Obj} (C : ExcC X.K D) : PySem.W.KitX X.K (.ref x) (.ref D) (fun h => PySem.W.InstAt h x ox D od) := by
  refine PySem.W.kitx_exc ?_ C.hg C.hk C.hs C.ha C.hn C.ht C.hm
  obtain ⟨cd, hc, _⟩ := PySem.W.any_some C.hd
  rw [hc]
  rfl
theorem inst_of {D : Addr} {pins : List (Addr × Obj)} {s : Shared} {σ : L2.St} {H : Hp} (I : Inv (X.suite a ((a, oe) :: pn)) pins σ H s) (hz : Zc (.ref D) d oe) (hf : ∃ vs, oe.data = .fields vs) (od : OwnD H d) : ∃ oo, PySem.W.InstAt s.heap a oe D oo := by
  obtain ⟨hget, _⟩ := I.pin (a, oe) (List.mem_append.mpr (.inl List.mem_cons_self))
  obtain ⟨vs, hv⟩ := hf
  have ncl : PySem.W.notCls oe := by unfold PySem.W.notCls; rw [hv] <;> rfl
  rcases od with rfl | ⟨dd, fs, rfl, hd⟩
  · exact ⟨none, hget, hz.1, ncl, by rw [hz.2]; trivial⟩
  · have hx : ObjOk X.prog X.w H s.heap dd (.xd fs) := I.hok dd _ hd
    obtain ⟨mA, hns, _⟩ := hx
    obtain ⟨od, ho, _⟩ := lookIn_ns hns
    exact ⟨some od, hget, hz.1, ncl, by rw [hz.2]; exact ho⟩
theorem call_isX (hz : Zc cls d oe) (hf : ∃ vs, oe.data = .fields vs) : CallR (X.suite a ((a, oe) :: pn)) (.builtin "isinstance") (rIsX X.K a cls d) := by
  intro pins s σ H xs us Q I r h
  obtain ⟨D, c, cv, b, rfl, od, C, rfl, hcv, e, q⟩ := h
  cases r with
  | cons rx rr =>
    cases rr with
    | cons rt rr =>
      cases rr
      cases rx
      have ec := hcv.eq rt
      subst ec
      obtain ⟨oo, J⟩ := inst_of I hz hf od
      exact PySem.W.kia_one (kitC C) I.kIn J e (fun z => nomatch z) fun tk => ⟨.bl b, H, I.kept (t' := tk) fun _ _ z => z, rfl, q⟩
theorem call_isXT (hz : Zc cls d oe) (hf : ∃ vs, oe.data = .fields vs) : CallR (X.suite a ((a, oe) :: pn)) (.builtin "isinstance") (rIsXT X.K a cls d) := by
  intro pins s σ H xs us Q I r h
  obtain ⟨D, tp, cs, ws, b, rfl, od, C, rfl, hT, k, e, q⟩ := h
  obtain ⟨u1, u2, rfl, r1, r2⟩ := vals2 r
  cases (show u2 = Value.ref tp from r2)
  cases r1
  obtain ⟨oo, J⟩ := inst_of I hz hf od
  obtain ⟨_, its, rv, o, h1, h2, n, h3⟩ := (show ObjOk X.prog X.w H s.heap tp (.tup cs) from I.hok tp _ hT)
  have e3 := ClsV.all k rv
  subst e3
  obtain ⟨oc, od2, dt, sl⟩ := o
  simp only at h2 h3
  subst h2 h3
  exact PySem.W.kia_tup (kitC C) I.kIn J h1 e (fun z => nomatch z) fun tk => ⟨.bl b, H, I.kept (t' := tk) fun _ _ z => z, rfl, q⟩
end
/-! ### what the head tells of exception classes -/
open PySem.W in
def excCB (K : PySem.W.Frag) (D : Addr) : Bool :=
  He.eqO (findIn K (.ref D) "__getattribute__") (some (some (.builtin "BaseException.__getattribute__"))) && (He.eqO (findIn K (.ref D) "__getattr__") (some none) && (decide (subIn K (.ref D) (.type "BaseException") = some true) && (hasDictIn K D &&
    (He.eqO (findIn K (.ref D) "__class__") (some (some (.builtin "object.__class__"))) && (He.eqO (specialIn K (.builtin "object.__class__") "__get__") (some (some (.builtin "getset_descriptor.__get__"))) && (decide (takesIn K (.builtin "object.__class__") = some true) && decide (mroIn K D (.type "object") = some true)))))))
theorem excCB_ok {K : PySem.W.Frag} {D : Addr} (h : excCB K D = true) : ExcC K D := by
  obtain ⟨h1, h⟩ := He.ba h
  obtain ⟨h2, h⟩ := He.ba h
  obtain ⟨h3, h⟩ := He.ba h
  obtain ⟨h4, h⟩ := He.ba h
  obtain ⟨h5, h⟩ := He.ba h
  obtain ⟨h6, h⟩ := He.ba h
  obtain ⟨h7, h8⟩ := He.ba h
  exact ⟨He.eqO_ok h1, He.eqO_ok h2, of_decide_eq_true h3, h4, He.eqO_ok h5, He.eqO_ok h6, of_decide_eq_true h7, of_decide_eq_true h8⟩
def exAll (cs : List Str) (K : PySem.W.Frag) : Bool := cs.all fun c => excCB K (He.ga K c) && (decide (PySem.W.kitOne K (.ref (He.ga K c)) (.type "ValueError") = some true) && cs.all fun d => decide (PySem.W.kitOne K (.ref (He.ga K c)) (.ref (He.ga K d)) = some (decide (c = d))))
theorem exAll_c {cs : List Str} {K : PySem.W.Frag} (h : exAll cs K = true) {c : Str} (hc : c ∈ cs) : ExcC K (He.ga K c) ∧ PySem.W.kitOne K (.ref (He.ga K c)) (.type "ValueError") = some true := by
  have h1 := List.all_eq_true.mp h c hc
  obtain ⟨a, b⟩ := He.ba h1
  obtain ⟨b1, b2⟩ := He.ba b
  exact ⟨excCB_ok a, of_decide_eq_true b1⟩
theorem exAll_k {cs : List Str} {K : PySem.W.Frag} (h : exAll cs K = true) {c d : Str} (hc : c ∈ cs) (hd : d ∈ cs) : PySem.W.kitOne K (.ref (He.ga K c)) (.ref (He.ga K d)) = some (decide (c = d)) := by
  have h1 := List.all_eq_true.mp h c hc
  obtain ⟨a, b⟩ := He.ba h1
  obtain ⟨b1, b2⟩ := He.ba b
  exact of_decide_eq_true (List.all_eq_true.mp b2 d hd)
end GXC

/-! ### tuple(elt for tg in iter if ..) -/
namespace GX
open PySem PySem.Spec PyProof.Rows L2 GxR GenW
/-- two built-in calls deeper -/
abbrev up2 (X : Cx) : Cx := { X with A := X.A.in1.in1 }
theorem inv_up {X : Cx} {s4 : Shared} {H4 : Hp} {cenv : Env} {fp : List Addr} {pn pins : List (Addr × Obj)} {σ : L2.St} {H : Hp} {s : Shared} (I : Inv (gcx X s4 H4 cenv fp pn) pins σ H s) : Inv (gcx (up2 X) s4 H4 cenv fp pn) pins σ H s :=
  ⟨⟨I.ok.mod, I.ok.kind, I.ok.glob, I.ok.blt, I.ok.above, I.ok.inj, I.ok.has, I.ok.cab, I.ok.hd, I.ok.frames, I.ok.stk, I.ok.exf, I.ok.bs, I.ok.bsz, I.ok.noex, I.ok.exfs, I.ok.funs, I.ok.frf⟩, I.os, I.bare, I.base, I.loc, I.cell, I.free, I.freeC, I.pin, I.hok, I.len⟩
theorem inv_down {X : Cx} {s4 : Shared} {H4 : Hp} {cenv : Env} {fp : List Addr} {pn pins : List (Addr × Obj)} {σ : L2.St} {H : Hp} {s : Shared} (I : Inv (gcx (up2 X) s4 H4 cenv fp pn) pins σ H s) : Inv (gcx X s4 H4 cenv fp pn) pins σ H s :=
  ⟨⟨I.ok.mod, I.ok.kind, I.ok.glob, I.ok.blt, I.ok.above, I.ok.inj, I.ok.has, I.ok.cab, I.ok.hd, I.ok.frames, I.ok.stk, I.ok.exf, I.ok.bs, I.ok.bsz, I.ok.noex, I.ok.exfs, I.ok.funs, I.ok.frf⟩, I.os, I.bare, I.base, I.loc, I.cell, I.free, I.freeC, I.pin, I.hok, I.len⟩
def IpLst (S : Addr) (z : List V) (ip : List (Addr × Obj)) : Prop := ∃ acc c, ip = [(S, lstObj acc c)] ∧ Vals z acc.toList
section
variable {X : Cx} {s4 : Shared} {H4 : Hp} {cenv : Env} {fp : List Addr} {pn : List (Addr × Obj)} {tn : Nat → Heap → Prop} {σ0 : L2.St}
theorem inv_lst {S : Addr} {H : Hp} {s : Shared} {acc acc' : Array Value} {c c' : Nat} {h' : Heap} {tk : Nat} (I : Inv (gcx X s4 H4 cenv fp pn) [(S, lstObj acc c)] σ0 H s)
    (hSfp : S ∉ fp) (hSpn : ∀ p ∈ pn, p.1 ≠ S) (hS4 : s4.heap.objs.size ≤ S) (hk : ∀ b o, b ≠ S → s.heap.get? b = some o → h'.get? b = some o) (hS : h'.get? S = some (lstObj acc' c')) :
    Inv (gcx X s4 H4 cenv fp pn) [(S, lstObj acc' c')] σ0 H { s with heap := h', toks := tk } := by
  obtain ⟨p1, p2, p3, p4, p5⟩ := I.pin (S, lstObj acc c) (List.mem_append_right _ (List.mem_singleton.mpr rfl))
  have I0 : Inv (gcx X s4 H4 cenv fp pn) [] σ0 H s := I.pins_of fun p hp => absurd hp (by simp)
  have I1 : Inv (gcx X s4 H4 cenv fp pn) [] σ0 H { s with heap := h', toks := tk } := by
    refine I0.turned (it := S) hk p2 p3 (.inr hS4) (fun x cc e zz => ?_) fun p hp => ?_
    · obtain ⟨v, o, ho, hd⟩ := I.cell x cc e
      rw [zz, p1] at ho
      cases ho
      cases hd
    · rw [List.append_nil] at hp
      exact hSpn p hp
  refine I1.pins_of fun p hp => ?_
  rw [List.mem_singleton.mp hp]
  exact ⟨hS, p2, p3, p4, fun v q => by cases q⟩
theorem vals_push {z : List V} {acc : Array Value} {y : V} {v : Value} (h : Vals z acc.toList) (r : RelV y v) : Vals (z ++ [y]) (acc.push v).toList := by
  rw [Array.toList_push]
  exact h.append (.cons r .nil)
variable {W : Nat → Nat → List V → Hp → Prop} {Sp : List V → Hp → Prop} {Yw : List V → (List V → Hp → Prop) → V → Hp → Prop} {a : Addr} {g : Nat}
theorem tup_loop {Rr : Result → Shared → Prop} {S : Addr} {res : Value} (hh : X.A.handled = none) (hroom : X.A.depth < recursionLimit) (hgen : ∀ s ip H, Inv (gcx X s4 H4 cenv fp pn) ip σ0 H s → s.heap.IsGen a g)
    (hSfp : S ∉ fp) (hSpn : ∀ p ∈ pn, p.1 ≠ S) (hS4 : s4.heap.objs.size ≤ S) (hkeep : ∀ i (h h' : Heap), tn i h → (∀ b ∈ fp, ∀ o, h.get? b = some o → h'.get? b = some o) → tn i h')
    (hYw : ∀ z Nx y H, Yw z Nx y H → z.length < sizeLine ∧ Nx (z ++ [y]) H)
    (hR : ∀ z acc c H s', Vals z acc.toList → Inv (gcx X s4 H4 cenv fp pn) [(S, lstObj acc c)] σ0 H s' → Sp z H → Rr (.ok (.ret res)) s') :
    ∀ (n : Nat) (s : Shared), (∃ gs, s.gens[g]? = some gs ∧ gs.Goes (model X.prog X.w) X.A.in1.in1 (fun n s₀ r s₁ => r = .ok .next ∧ GEndP X s4 H4 cenv fp pn σ0 (IpLst S) Sp s₀ s₁) (GYield X s4 H4 cenv fp pn tn σ0 W (IpLst S) Yw) n (.send .none) (s.setGen g .running)) →
      s.heap.NoLimit → s.heap.IsGen a g → codeAny (model X.prog X.w) X.A (.builtin "list.extend.loop" ⟨[.ref S, .ref a, res], []⟩) Rr s := by
  intro n
  induction n using Nat.strongRecOn with
  | ind n ih =>
    intro s ⟨gs, hgs, hgo⟩ hl hg
    refine codeAny_builtin F.entry_extend_loop ?_
    rw [Around.under_plainId F.plain_extend_loop _]
    show wpAny _ X.A.in1 (pyNext (.ref a) >>= _) _ _ s
    refine wpAny_bind (next_of (A := X.A) hh hroom hl hg hgs hgo (fun z ip H s' h0 hip sp I => ?_) (fun i m z y v ip H Nx s' h0 ⟨gs1, hgs1⟩ ry hip I ht nf hNx yw res' => ?_))
    · obtain ⟨acc, c, rfl, hv⟩ := hip
      exact wpAny_pure (hR z acc c H s' hv I sp)
    · obtain ⟨acc, c, rfl, hv⟩ := hip
      obtain ⟨hlen, hnx⟩ := hYw z Nx y H yw
      obtain ⟨m', hm, w'⟩ := hNx _ _ hnx
      have hS' : s'.heap.get? S = some (lstObj acc c) := (I.pin (S, lstObj acc c) (List.mem_append_right _ (List.mem_singleton.mpr rfl))).1
      have hasz : acc.size < sizeLine := by
        have e : z.length = acc.toList.length := hv.length
        have e2 : acc.size = acc.toList.length := Array.length_toList.symm
        rw [e2, ← e]
        exact hlen
      show wpAny _ X.A.in1 (updateSeq S (·.push v) >>= _) _ _ _
      refine wpAny_bind ?_
      refine wpAny_updateSeq hS' rfl (wpAny_pure ⟨plainId_quiet F.plain_extend_loop _, ?_⟩) (Nat.le_of_lt hasz) (by show (acc.push v).size ≤ sizeLine + 1; rw [Array.size_push]; omega)
      obtain ⟨c', hup⟩ : ∃ c', (s'.heap.update S (Obj.mapSeq (·.push v))).get? S = some (lstObj (acc.push v) c') := ⟨_, Heap.get?_update_self _ hS' rfl⟩
      have I2 : Inv (gcx X s4 H4 cenv fp pn) [(S, lstObj (acc.push v) c')] σ0 H { s' with heap := s'.heap.update S (Obj.mapSeq (·.push v)), toks := s'.toks } :=
        inv_lst I hSfp hSpn hS4 (fun b o hb e => (Heap.get?_update_other _ _ (Ne.symm hb)).trans e) hup
      obtain ⟨gs2, k, h1, h2, h3⟩ := res' { s' with heap := s'.heap.update S (Obj.mapSeq (·.push v)) } [(S, lstObj (acc.push v) c')] (z ++ [y]) m' H ⟨gs1, hgs1, hgs1⟩ hm
        ⟨w', ⟨_, _, rfl, vals_push hv ry⟩, I2, hkeep _ _ _ ht fun b hb o e => (Heap.get?_update_other _ _ (fun z : S = b => hSfp (by rw [z]; exact hb))).trans e, nf⟩
      exact ih k (by omega) _ ⟨gs2, h1, h3⟩ I2.nolimit (hgen _ _ _ I2)
end
section
variable {prog : Program} {w : World} {A : Around} {E : Value → Shared → Prop} {s : Shared}
/-- what a generator hands out, in a new list -/
theorem collect_own {Q : List Value → Shared → Prop} {a : Addr} {g : Nat} (hg : s.heap.IsGen a g) (hlt : a < s.heap.objs.size)
    (hloop : ∀ h4 : Heap, (∀ b o, b ≠ s.heap.objs.size → s.heap.get? b = some o → h4.get? b = some o) → (∃ c, h4.get? s.heap.objs.size = some (lstObj #[] c)) →
      codeAny (model prog w) A (.builtin "list.extend.loop" ⟨[.ref s.heap.objs.size, .ref a, .ref s.heap.objs.size], []⟩) (fun r s' => ∃ acc c, r = .ok (.ret (.ref s.heap.objs.size)) ∧ s'.heap.get? s.heap.objs.size = some (lstObj acc c) ∧ Q acc.toList s') { s with heap := h4 }) :
    wpAny (model prog w) A (collect (.ref a)) Q E s := by
  have hSa : s.heap.objs.size ≠ a := Nat.ne_of_gt hlt
  unfold collect
  refine wpAny_bind (wpAny_runValue (codeAny_builtin F.entry_proto_collect ?_))
  rw [Around.under_plainId F.plain_proto_collect _]
  show wpAny _ A.in1 (newList [] >>= fun l => again (.builtin "list.__iadd__" ⟨[l, .ref a], []⟩)) _ _ s
  refine wpAny_bind (wpAny_newObj_type ?_)
  refine wpAny_pure ⟨plainId_quiet F.plain_list_iadd _, codeAny_builtin F.entry_list_iadd ?_⟩
  rw [Around.under_plainId F.plain_list_iadd _]
  show wpAny _ A.in1 (Builtin.List.listExtendWith (.ref s.heap.objs.size) (.ref a) (.ref s.heap.objs.size)) _ _ _
  unfold Builtin.List.listExtendWith
  have k1 : ∀ b o, s.heap.get? b = some o → (s.heap.push { cls := .type "list", data := .seq ([] : List Value).toArray }).get? b = some o := fun b o e => Heap.get?_push_of_some _ e
  have gty : ∀ {h : Heap}, (∀ b o, s.heap.get? b = some o → h.get? b = some o) → h.IsGen a g := fun {h} q => hg.keeps q
  refine wpAny_bind (wpAny_typeOf (Heap.IsGen.typeIs (s := { s with heap := _ }) (gty k1)) ?_)
  have h1 : Builtin.List.listSameRef (.ref s.heap.objs.size) (.ref a) = false := by simp [Builtin.List.listSameRef, hSa]
  have h2 : (Value.type "generator" == Value.type "list") = false := by decide
  have h3 : (Value.type "generator" == Value.type "tuple") = false := by decide
  simp only [h1, h2, h3, Bool.or_false, Bool.false_eq_true, if_false]
  refine wpAny_bind (wpAny_pyIter_gen (s := { s with heap := _ }) (gty k1) ?_)
  refine wpAny_bind (wpAny_holding ?_)
  unfold Builtin.List.listLengthHint
  refine wpAny_bind (wpAny_specialOf (Heap.IsGen.typeIs (s := { s with heap := _ }) (gty k1)) F.gen_no_len ?_)
  show wpAny _ A.in1 (specialOf (Value.ref a) (Str.ofString "__length_hint__") >>= _) _ _ _
  refine wpAny_bind (wpAny_specialOf (Heap.IsGen.typeIs (s := { s with heap := _ }) (gty k1)) F.gen_no_hint ?_)
  refine wpAny_pure ?_
  show wpAny _ A.in1 (rule "list.extend.makes-room" >>= fun _ => Builtin.List.listTouch (.ref s.heap.objs.size) >>= fun _ =>
    again (.builtin "list.extend.loop" ⟨[.ref s.heap.objs.size, .ref a, .ref s.heap.objs.size], []⟩)) _ _ _
  refine wpAny_bind (wpAny_rule ?_)
  have hS₁ : (s.heap.push { cls := .type "list", data := .seq ([] : List Value).toArray }).get? s.heap.objs.size = some { cls := .type "list", data := .seq ([] : List Value).toArray } := Heap.get?_push_size _ rfl
  refine wpAny_bind ?_
  show wpAny _ A.in1 (updateSeq s.heap.objs.size (·.push .none) >>= fun _ => updateSeq s.heap.objs.size (·.pop)) _ _ _
  refine wpAny_bind (wpAny_updateSeq hS₁ rfl ?_)
  have hS₂ := Heap.get?_update_self (Obj.mapSeq (·.push Value.none)) hS₁ rfl
  refine wpAny_updateSeq hS₂ rfl ?_
  have hS₃ := Heap.get?_update_self (Obj.mapSeq (·.pop)) hS₂ rfl
  have oth : ∀ b o, b ≠ s.heap.objs.size → s.heap.get? b = some o →
      (((s.heap.push { cls := .type "list", data := .seq ([] : List Value).toArray }).update s.heap.objs.size (Obj.mapSeq (·.push Value.none))).update s.heap.objs.size (Obj.mapSeq (·.pop))).get? b = some o :=
    fun b o hb e => (Heap.get?_update_other _ _ (Ne.symm hb)).trans ((Heap.get?_update_other _ _ (Ne.symm hb)).trans (k1 b o e))
  refine wpAny_pure ⟨plainId_quiet F.plain_extend_loop _, codeAny_mono (hloop _ oth ⟨_, hS₃⟩) fun r s' hr => ?_⟩
  obtain ⟨acc, c, rfl, hS', q⟩ := hr
  show wpAny _ A (load s.heap.objs.size >>= _) _ _ s'
  refine wpAny_bind (wpAny_load hS' ?_)
  exact wpAny_pure q
end
section
variable {X : Cx}
/-- tuple(elt for tg in iter if ..), by an invariant of the turn, a measure, what is collected and the heap -/
def tTupG (P : Addr) (wi : TI) (g : TG) (tt : TT) (te : TE) (vs : List Nat) : TE := fun σ H Q => wi σ H fun J H1 => TabG H1 P ∧ ∀ H2, Tabbed P H1 H2 → ∃ W : Nat → Nat → List V → Hp → Prop, (∃ m, W 0 m [] H2) ∧ ∀ i m z H, W i m z H →
  (J.stop i H ∧ z.length ≤ sizeLine ∧ ∀ p, H p = none → Q (.ref p) (upd H p (.tup z))) ∨ (J.go i H ∧ ∃ Nx : List V → Hp → Prop, (∀ z' H', Nx z' H' → ∃ m', m' < m ∧ W (i + 1) m' z' H') ∧ ∀ x H', J.yld i H x H' → g x (wipe σ vs) H' fun σ2 H2 => wipe σ2 vs = wipe σ vs ∧ tt σ2 H2 fun b H3 =>
    if b = true then te σ2 H3 fun y H4 => z.length < sizeLine ∧ Nx (z ++ [y]) H4 else Nx z H3)
variable {c P : Addr} {elt tg iter : Expr} {ifs : List Expr} {p pos gpos : Pos} {scope : Scope} {own : List (Str × Nat)} {wi : TI} {g : TG} {tt : TT} {te : TE} {k : Nat}
theorem pe_tupleG (hr : Room k X.A) (hgl : Gl X "tuple") (hm : X.mg "tuple" = none) (TB : TabB X.base X.mg c P) (hcode : X.env.code = .ref c) (ok : GenOk X.N X.env.scope scope own) (hN : X.N.Nodup) (hi : PI X tg iter wi)
    (hg : ∀ (s : Shared) (H : Hp) (C : Addr) (cl : List (Str × Addr)) (cd : Value) (fp : List Addr) (pn : List (Addr × Obj)), PG (gcx (up2 X) s H (genEnv scope cl C cd builtinsNs X.env) fp pn) tg g)
    (ht : ∀ (s : Shared) (H : Hp) (C : Addr) (cl : List (Str × Addr)) (cd : Value) (fp : List Addr) (pn : List (Addr × Obj)), PTs (gcx (up2 X) s H (genEnv scope cl C cd builtinsNs X.env) fp pn) ifs tt)
    (he : ∀ (s : Shared) (H : Hp) (C : Addr) (cl : List (Str × Addr)) (cd : Value) (fp : List Addr) (pn : List (Addr × Obj)), PE (gcx (up2 X) s H (genEnv scope cl C cd builtinsNs X.env) fp pn) elt te)
    (hs : ∀ v, genFold iter X.env v = pure v := by intro _; rfl)
    (hst : starEach [.GeneratorExp elt [⟨tg, iter, ifs, 0⟩] scope gpos] X.env = (false, eval (.GeneratorExp elt [⟨tg, iter, ifs, 0⟩] scope gpos) X.env) :: starEach [] X.env := by rfl) :
    PE X (.Call (.Name "tuple" p) [.GeneratorExp elt [⟨tg, iter, ifs, 0⟩] scope gpos] [] pos) (tTupG P wi g tt te (own.map (·.2))) := by
  refine ⟨fun pins s σ H Q I h => ?_⟩
  refine wpAny_Call_Name_kw (ld_blt I hgl hm (show bootBuiltins ("tuple" : Str) = some (.type "tuple") by decide +kernel) ?_)
  refine PyProof.Rows.callWith_type1 ?_ hst (by rfl)
  rw [hst]
  show wpAny _ _ (spliced ((false, eval (.GeneratorExp elt [⟨tg, iter, ifs, 0⟩] scope gpos) X.env) :: backTo pos (starEach [] X.env))) _ _ s
  refine Calls.spliced_cons (gen_made hr TB hcode ok hN hi hs I h fun J H2 s4 s5 cenv it fp tn a gn go hR M => ?_)
  obtain ⟨W, ⟨m0, w0⟩, turn⟩ := hR
  obtain ⟨C, cd, rfl⟩ := M.env
  refine Calls.spliced_nil ?_
  have hgen : ∀ s ip H, Inv (gcx X s4 H2 (genEnv scope (cloFrom X.env.cells scope.names []) C cd builtinsNs X.env) fp [(a, go)]) ip (wipe σ (own.map (·.2))) H s → s.heap.IsGen a gn := fun s ip H I' =>
    M.gen _ (I'.pin (a, go) (List.mem_append_left _ (List.mem_singleton.mpr rfl))).1
  have hg5 := hgen _ _ _ M.inv
  refine callType_codes (Q₁ := fun obj s₁ => s₁.TypeIs obj "tuple" ∧ EP X pins σ Q obj s₁) F.called_tuple (F.typeCall_tuple_1 _) F.entry_object_init (codeAny_of_tree ?_) fun obj s₁ h₁ => ?_
  · show wpAny _ X.A.in1.in1 (do checkBuiltinCall "tuple.__new__" ⟨[.type "tuple", .ref a], []⟩; again (.builtin "tuple.__new__" ⟨[.type "tuple", .ref a], []⟩)) _ _ s5
    refine wpAny_bind (wpAny_of_eq (F.newCall_tuple_1 _) (wpAny_pure ⟨plainId_quiet F.plain_tuple_new _, codeAny_builtin F.entry_tuple_new ?_⟩))
    rw [Around.under_plainId F.plain_tuple_new _]
    have hsub := sub_tuple_self
    have hinit := init_tuple_lookup
    have hmh := madeHere_tuple
    have hTI := Heap.IsGen.typeIs (s := s5) hg5
    have Sz : s4.heap.objs.size ≤ s5.heap.objs.size := M.inv.sz
    have hSfp : s5.heap.objs.size ∉ fp := fun hm => by
      have h1 := M.fa _ hm
      have h2 := M.lt
      exact absurd (Nat.lt_trans h1 h2) (Nat.lt_irrefl _)
    have key : ∀ {Q1 : List Value → Shared → Prop} {E1 : Value → Shared → Prop}, (∀ (z : List V) (acc : Array Value) (c : Nat) (H : Hp) (s' : Shared), Vals z acc.toList → z.length ≤ sizeLine → Inv X pins σ H s' → (∀ p, H p = none → Q (.ref p) (upd H p (.tup z))) → Q1 acc.toList s') →
        wpAny (model X.prog X.w) X.A.in1.in1 (collect (.ref a)) Q1 E1 s5 := fun {Q1 E1} hQ1 => by
      refine collect_own hg5 M.lt fun h4 k4 hS4 => ?_
      obtain ⟨c0, hS4⟩ := hS4
      have I6 : Inv (gcx (up2 X) s4 H2 (genEnv scope (cloFrom X.env.cells scope.names []) C cd builtinsNs X.env) fp [(a, go)]) [(s5.heap.objs.size, lstObj #[] c0)] (wipe σ (own.map (·.2))) H2 { s5 with heap := h4 } := by
        have I0 : Inv (gcx X s4 H2 (genEnv scope (cloFrom X.env.cells scope.names []) C cd builtinsNs X.env) fp [(a, go)]) [] (wipe σ (own.map (·.2))) H2 { s5 with heap := h4 } := M.inv.kept fun b o e => k4 b o (Nat.ne_of_lt (Heap.lt_size e)) e
        refine inv_up (I0.pins_of fun p hp => ?_)
        rw [List.mem_singleton.mp hp]
        have fk := M.inv.fpOk (Nat.le_refl _) (M.inv.hok.fresh (Nat.le_refl _))
        exact ⟨hS4, fk.1, fk.2.1, fk.2.2.1, fun v q => by cases q⟩
      generalize hs6 : ({ s5 with heap := h4 } : Shared) = s6 at I6
      have gs6 : s6.gens = s5.gens := by rw [← hs6]
      have hh6 : s6.heap = h4 := by rw [← hs6]
      have st6 : tn 0 s6.heap := M.turn.keep _ _ _ M.tn0 fun b hb o e => by
        rw [hh6]
        exact k4 b o (fun z => hSfp (by rw [← z]; exact hb)) e
      have sg := seg_first (X := up2 X) (W := W) (Ip := IpLst s5.heap.objs.size) (Sp := fun z H => z.length ≤ sizeLine ∧ ∀ p, H p = none → Q (.ref p) (upd H p (.tup z))) (Yw := fun z Nx y H => z.length < sizeLine ∧ Nx (z ++ [y]) H) (vs := own.map (·.2)) (σ0 := wipe σ (own.map (·.2)))
        (iter := iter) (scope := scope) (pos := gpos) (s := s6.setGen gn .running) (s₀ := s6.setGen gn .running) (m := m0) (n := m0 + 1) (z := []) (ip := [(s5.heap.objs.size, lstObj #[] c0)]) (H := H2) ok.co (fun z ip hip b hb q hq e => ?_) M.turn (hg s4 H2 C (cloFrom X.env.cells scope.names []) cd fp [(a, go)]) (ht s4 H2 C (cloFrom X.env.cells scope.names []) cd fp [(a, go)]) (he s4 H2 C (cloFrom X.env.cells scope.names []) cd fp [(a, go)])
        (show Turns J g tt te (wipe σ (own.map (·.2))) (own.map (·.2)) W (fun z H => z.length ≤ sizeLine ∧ ∀ p, H p = none → Q (.ref p) (upd H p (.tup z))) (fun z Nx y H => z.length < sizeLine ∧ Nx (z ++ [y]) H) from turn) (Nat.lt_succ_self _) ⟨w0, ⟨_, _, rfl, .nil⟩, inv_gens I6 (allBare_setGen I6.bare rfl), st6, fun b hb => (M.fok b hb).1⟩ (fun p hp => by rw [List.mem_singleton.mp hp]; exact (I6.pin (s5.heap.objs.size, lstObj #[] c0) (List.mem_append_right _ (List.mem_singleton.mpr rfl))).1)
      · exact tup_loop (X := up2 X) (W := W) (S := s5.heap.objs.size) (a := a) (g := gn) hr.hd (by have := hr.dp; show X.A.depth < _; omega) (fun s ip H I' => hgen s ip H (inv_down I')) hSfp (fun p hp e => by
            rw [List.mem_singleton.mp hp] at e
            have h2 := M.lt
            rw [show a = s5.heap.objs.size from e] at h2
            exact Nat.lt_irrefl _ h2) Sz M.turn.keep (fun z Nx y H h => h) (fun z acc c H s' hv I' q => ⟨acc, c, rfl, (I'.pin (s5.heap.objs.size, lstObj acc c) (List.mem_append_right _ (List.mem_singleton.mpr rfl))).1, hQ1 z acc c H s' hv q.1 (back M.i4 M.fok (inv_down I')) q.2⟩)
          (m0 + 1) s6 ⟨.fresh _, by rw [gs6]; exact M.gs, rfl, sg⟩ I6.nolimit (hgen _ _ _ (inv_down I6))
      · obtain ⟨acc, c, rfl, _⟩ := hip
        rcases List.mem_append.mp hq with hq | hq
        · rw [List.mem_singleton.mp hq] at e
          have := M.fa b hb
          rw [← e] at this
          exact Nat.lt_irrefl _ this
        · rw [List.mem_singleton.mp hq] at e
          exact hSfp (by rw [show s5.heap.objs.size = b from e]; exact hb)
    wp_walk using wpAny_typeOf hTI, key
    intro z acc c H' s' hv hz I' q
    show wpAny _ _ (Builtin.Tuple.tupleExact acc.toList.toArray >>= fun v => ret v) _ _ _
    unfold Builtin.Tuple.tupleExact
    have ez : z.length = acc.toList.length := hv.length
    have ez2 : acc.size = acc.toList.length := Array.length_toList.symm
    refine wpAny_bind (wpAny_newObj_type ?_ (by show acc.toList.toArray.size ≤ sizeLine; simp only [Array.toArray_toList]; rw [ez2, ← ez]; exact hz))
    refine wpAny_pure ?_
    refine ⟨⟨_, Heap.get?_push_size _ rfl, rfl⟩, .ref s'.heap.objs.size, upd H' s'.heap.objs.size (.tup z), ?_, rfl, q _ (I'.hok.fresh (Nat.le_refl _))⟩
    refine I'.laid (t' := s'.toks) (fun b u e => Heap.get?_push_of_some _ e) (Nat.le_refl _) ⟨hz, acc.toList, hv, _, Heap.get?_push_size _ rfl, rfl, _, rfl⟩
  · exact ⟨h₁.1, F.args_object_init_2 obj _, object_init_meets F.called_tuple.init.lookup F.called_tuple.made (by decide) _ _ X.A.in1 _ s₁ ⟨h₁.1, rfl, h₁.2⟩⟩
end
end GX

namespace GD
open PySem PySem.Spec PyProof.Rows L2 GxR GX GS GT GC
/-! ### good plans, by the pairs of hours and barges -/
theorem catNil {α : Type} {f : Nat → List α} : ∀ {n : Nat}, cat f n = [] ↔ ∀ i, i < n → f i = []
  | 0 => ⟨fun _ i h => absurd h (Nat.not_lt_zero i), fun _ => rfl⟩
  | n + 1 => by
    rw [cat_succ, List.append_eq_nil_iff, catNil]
    constructor
    · rintro ⟨h1, h2⟩ i hi
      by_cases c : i = n
      · subst c; exact h2
      · exact h1 i (by omega)
    · exact fun h => ⟨fun i hi => h i (by omega), h n (by omega)⟩
/-- nothing speaks against an hour for a barge alone -/
def Fits (k : Book) (b : Barge) (h : Int) : Prop := b.r ≤ comesAt k b.b h ∧ comesAt k b.g h ≤ b.u ∧ ∀ j, j < (b.g - b.b).toNat → b.d ≤ depthAt (strN k (b.b.toNat + j)) (comesAt k (b.b + j) h)
instance (k : Book) (b : Barge) (h : Int) : Decidable (Fits k b h) := by unfold Fits; infer_instance
theorem alone_fits (k : Book) (i : Nat) (b : Barge) (h : Int) : aloneR k i b h = [] ↔ Fits k b h := by
  unfold aloneR endsR Fits
  rw [List.append_eq_nil_iff, List.append_eq_nil_iff, catNil, and_assoc]
  refine and_congr ?_ (and_congr ?_ (forall_congr' fun j => imp_congr_right fun _ => ?_))
  · by_cases c : comesAt k b.b h < b.r
    · rw [if_pos c]; exact ⟨fun z => (by cases z), fun z => absurd c (by omega)⟩
    · rw [if_neg c]; exact ⟨fun _ => by omega, fun _ => rfl⟩
  · by_cases c : b.u < comesAt k b.g h
    · rw [if_pos c]; exact ⟨fun z => (by cases z), fun z => absurd c (by omega)⟩
    · rw [if_neg c]; exact ⟨fun _ => by omega, fun _ => rfl⟩
  · unfold shalR
    by_cases c : depthAt (strN k (b.b.toNat + j)) (comesAt k (b.b + j) h) < b.d
    · rw [if_pos c]; exact ⟨fun z => (by cases z), fun z => absurd c (by omega)⟩
    · rw [if_neg c]; exact ⟨fun _ => by omega, fun _ => rfl⟩
abbrev Pr := Option Int × Barge
def onB (s : Nat) (b : Barge) : Bool := decide (b.b ≤ (s : Int)) && decide ((s : Int) < b.g)
def pairs (k : Book) (pl : List (Option Int)) : List Pr := pl.zip k.bs
def cntP (ps : List Pr) (h : Int) (s : Nat) : Nat := ps.countP fun p => decide (p.1 = some h) && onB s p.2
structure GoodP (k : Book) (ps : List Pr) : Prop where
  fits : ∀ p ∈ ps, ∀ h, p.1 = some h → Fits k p.2 h
  room : ∀ h s, s < k.rv.length → (cntP ps h s : Int) ≤ (strN k s).room
  cross : ∀ p ∈ ps, ∀ q ∈ ps, ∀ h, p.1 = some h → q.1 = some h → ¬ crossed p.2 q.2
theorem pairs_get {k : Book} {pl : List (Option Int)} {i : Nat} {o : Option Int} {b : Barge} (h1 : pl[i]? = some o) (h2 : k.bs[i]? = some b) : (pairs k pl)[i]? = some (o, b) := by
  unfold pairs
  rw [List.getElem?_zip_eq_some]
  exact ⟨h1, h2⟩
theorem pairs_len {k : Book} {pl : List (Option Int)} (h : pl.length = k.bs.length) : (pairs k pl).length = pl.length := by
  unfold pairs
  rw [List.length_zip]
  omega
theorem onL_count {k : Book} {pl : List (Option Int)} (hl : pl.length = k.bs.length) (h : Int) (s : Nat) : ∀ n, n ≤ pl.length → ((memN pl h n).filter (onS k s)).length = ((pairs k pl).take n).countP fun p => decide (p.1 = some h) && onB s p.2
  | 0, _ => rfl
  | n + 1, hn => by
    have ih := onL_count hl h s n (by omega)
    obtain ⟨o, ho⟩ : ∃ o, pl[n]? = some o := ⟨pl[n]'(by omega), List.getElem?_eq_getElem (by omega)⟩
    obtain ⟨b, hb⟩ : ∃ b, k.bs[n]? = some b := ⟨k.bs[n]'(by omega), List.getElem?_eq_getElem (by omega)⟩
    rw [memN_succ, List.filter_append, List.length_append, ih, List.take_add_one, pairs_get ho hb, List.countP_append, getD_of ho]
    congr 1
    by_cases c : o = some h
    · rw [if_pos c]
      have e1 : onS k s n = onB s b := onS_of hb s
      have e2 : (decide (o = some h) && onB s b) = onB s b := by rw [decide_eq_true c]; rfl
      show (List.filter (onS k s) [n]).length = List.countP _ [(o, b)]
      by_cases c2 : onB s b = true
      · simp [e1, c2, c]
      · simp [e1, c2]
    · rw [if_neg c]
      show 0 = List.countP _ [(o, b)]
      simp [c]
theorem onL_cnt {k : Book} {pl : List (Option Int)} (hl : pl.length = k.bs.length) (h : Int) (s : Nat) : (onL k pl h s).length = cntP (pairs k pl) h s := by
  have e := onL_count hl h s pl.length (Nat.le_refl _)
  unfold onL cntP
  rw [e, List.take_of_length_le (by rw [pairs_len hl]; exact Nat.le_refl _)]
theorem crossO_nil {k : Book} {i j : Nat} {a b : Barge} (h1 : k.bs[i]? = some a) (h2 : k.bs[j]? = some b) : crossO k i j = [] ↔ ¬ crossed a b := by
  rw [crossO_of h1 h2]
  by_cases c : crossed a b
  · rw [if_pos c]; exact ⟨fun z => (by cases z), fun z => absurd c z⟩
  · rw [if_neg c]; exact ⟨fun _ => c, fun _ => rfl⟩
theorem good_iff {k : Book} {pl : List (Option Int)} (ok : k.Ok) (okp : PlOk k.bs.length pl) : allR k pl = [] ↔ GoodP k (pairs k pl) := by
  have hl : pl.length = k.bs.length := okp.len
  have getp : ∀ {p : Pr}, p ∈ pairs k pl → ∃ i : Nat, i < pl.length ∧ pl[i]? = some p.1 ∧ k.bs[i]? = some p.2 := fun {p} hp => by
    obtain ⟨i, hi, e⟩ := List.mem_iff_getElem.mp hp
    have e2 : (pairs k pl)[i]? = some p := by rw [List.getElem?_eq_getElem hi, e]
    unfold pairs at e2
    rw [List.getElem?_zip_eq_some] at e2
    exact ⟨i, (List.getElem?_eq_some_iff.mp e2.1).1, e2.1, e2.2⟩
  unfold allR
  rw [List.append_eq_nil_iff, List.append_eq_nil_iff]
  constructor
  · rintro ⟨⟨h1, h2⟩, h3⟩
    refine ⟨fun p hp h e => ?_, fun h s hs => ?_, fun p hp q hq h e1 e2 => ?_⟩
    · obtain ⟨i, hi, a1, a2⟩ := getp hp
      have := catNil.mp h1 i hi
      rw [e] at a1
      rw [bargeR_some a1 a2] at this
      exact (alone_fits k i p.2 h).mp this
    · by_cases hh : h ∈ hoursL pl
      · unfold fullA at h2
        have h4 := catNil.mp (List.flatMap_eq_nil_iff.mp h2 h hh) s hs
        unfold fullR at h4
        rw [onL_cnt hl] at h4
        by_cases c : (strN k s).room < (cntP (pairs k pl) h s : Int)
        · rw [if_pos c] at h4; cases h4
        · omega
      · have e0 : cntP (pairs k pl) h s = 0 := by
          unfold cntP
          rw [List.countP_eq_zero]
          intro p hp z
          rw [Bool.and_eq_true, decide_eq_true_eq] at z
          obtain ⟨i, hi, a1, _⟩ := getp hp
          rw [z.1] at a1
          exact hh ((hoursL_mem okp).mpr (List.mem_of_getElem? a1))
        rw [e0]
        have hst : k.rv[s]? = some k.rv[s] := List.getElem?_eq_getElem hs
        rw [strN_of hst]
        have := (ok.rv.ok _ (List.mem_of_getElem? hst)).r1
        omega
    · obtain ⟨i, hi, a1, a2⟩ := getp hp
      obtain ⟨j, hj, b1, b2⟩ := getp hq
      rw [e1] at a1
      rw [e2] at b1
      have h4 := catNil.mp h3 i hi
      rw [crossR_some a1] at h4
      have h5 := catNil.mp h4 j hj
      rw [getD_of b1, if_pos rfl] at h5
      exact (crossO_nil a2 b2).mp h5
  · rintro ⟨g1, g2, g3⟩
    have getb : ∀ {i : Nat}, i < pl.length → ∃ o b, pl[i]? = some o ∧ k.bs[i]? = some b ∧ (o, b) ∈ pairs k pl := fun {i} hi => by
      have a1 : pl[i]? = some pl[i] := List.getElem?_eq_getElem hi
      have a2 : k.bs[i]? = some (k.bs[i]'(by omega)) := List.getElem?_eq_getElem (by omega)
      exact ⟨_, _, a1, a2, List.mem_of_getElem? (pairs_get a1 a2)⟩
    refine ⟨⟨catNil.mpr fun i hi => ?_, ?_⟩, catNil.mpr fun i hi => ?_⟩
    · obtain ⟨o, b, a1, a2, hm⟩ := getb hi
      cases o with
      | none => exact bargeR_none a1
      | some h =>
        rw [bargeR_some a1 a2]
        exact (alone_fits k i b h).mpr (g1 _ hm h rfl)
    · unfold fullA
      rw [List.flatMap_eq_nil_iff]
      intro h _
      refine catNil.mpr fun s hs => ?_
      unfold fullR
      rw [onL_cnt hl, if_neg (by have := g2 h s hs; omega)]
    · obtain ⟨o, b, a1, a2, hm⟩ := getb hi
      cases o with
      | none => exact crossR_none a1
      | some h =>
        rw [crossR_some a1]
        refine catNil.mpr fun j hj => ?_
        obtain ⟨o2, b2, c1, c2, hm2⟩ := getb hj
        rw [getD_of c1]
        by_cases c : o2 = some h
        · rw [if_pos c]
          exact (crossO_nil a2 c2).mpr (g3 _ hm _ hm2 h rfl c)
        · rw [if_neg c]
theorem goodP_sub {k : Book} {ps qs : List Pr} (h : GoodP k ps) (s : qs.Sublist ps) : GoodP k qs where
  fits := fun p hp => h.fits p (s.subset hp)
  room := fun hh st hs => Int.le_trans (Int.ofNat_le.mpr (s.countP_le ..)) (h.room hh st hs)
  cross := fun p hp q hq => h.cross p (s.subset hp) q (s.subset hq)
/-! ### the plan without its open barges -/
def hereP (pl : List (Option Int)) : List (Option Int) := (setN pl pl.length).map fun i => pl.getD i none
def hereB (k : Book) (pl : List (Option Int)) : List Barge := (setN pl pl.length).map fun i => k.bs.getD i ⟨0, 0, 0, 0, 0⟩
theorem setN_filter (pl : List (Option Int)) : ∀ n, setN pl n = (List.range n).filter fun i => decide (pl.getD i none ≠ none)
  | 0 => rfl
  | n + 1 => by
    rw [setN_succ, List.range_succ, List.filter_append, setN_filter pl n]
    congr 1
    by_cases c : pl.getD n none = none
    · have hp : decide (pl.getD n none ≠ none) = false := decide_eq_false (fun z => z c)
      simp only [List.filter_cons, List.filter_nil]
      rw [if_pos c, hp]
      rfl
    · have hp : decide (pl.getD n none ≠ none) = true := decide_eq_true c
      simp only [List.filter_cons, List.filter_nil]
      rw [if_neg c, hp]
      rfl
theorem mem_setN2 {pl : List (Option Int)} {n i : Nat} (h : i ∈ setN pl n) : i < n ∧ pl.getD i none ≠ none := by
  rw [setN_filter, List.mem_filter, decide_eq_true_eq, List.mem_range] at h
  exact h
theorem here_pairs {k : Book} {pl : List (Option Int)} (hl : pl.length = k.bs.length) : (pairs ⟨k.rv, hereB k pl⟩ (hereP pl)).Sublist (pairs k pl) := by
  have e1 : pairs ⟨k.rv, hereB k pl⟩ (hereP pl) = (setN pl pl.length).map fun i => (pl.getD i none, k.bs.getD i ⟨0, 0, 0, 0, 0⟩) := by
    show (hereP pl).zip (hereB k pl) = _
    unfold hereP hereB
    rw [List.zip_map']
  have e2 : pairs k pl = (List.range pl.length).map fun i => (pl.getD i none, k.bs.getD i ⟨0, 0, 0, 0, 0⟩) := by
    refine List.ext_getElem? fun i => ?_
    by_cases c : i < pl.length
    · have a1 : pl[i]? = some pl[i] := List.getElem?_eq_getElem c
      have a2 : k.bs[i]? = some (k.bs[i]'(by omega)) := List.getElem?_eq_getElem (by omega)
      rw [pairs_get a1 a2, List.getElem?_map, List.getElem?_range c]
      show _ = some (pl.getD i none, k.bs.getD i ⟨0, 0, 0, 0, 0⟩)
      rw [getD_of a1, List.getD_eq_getElem?_getD, a2]
      rfl
    · rw [List.getElem?_eq_none (by rw [pairs_len hl]; omega), List.getElem?_eq_none (by rw [List.length_map, List.length_range]; omega)]
  rw [e1, e2, setN_filter]
  exact List.Sublist.map _ List.filter_sublist
theorem here_none (pl : List (Option Int)) : none ∉ hereP pl := fun h => by
  obtain ⟨i, hi, e⟩ := List.mem_map.mp h
  exact (mem_setN2 hi).2 e
theorem here_ok {k : Book} {pl : List (Option Int)} (ok : k.Ok) (okp : PlOk k.bs.length pl) : Book.Ok ⟨k.rv, hereB k pl⟩ ∧ PlOk (hereB k pl).length (hereP pl) := by
  have hl := okp.len
  have sl := setN_le pl pl.length
  refine ⟨⟨ok.rv, ?_, fun b hb => ?_⟩, ⟨by unfold hereP hereB; rw [List.length_map, List.length_map], fun h hh => ?_⟩⟩
  · show (hereB k pl).length ≤ 7
    have := ok.n7
    unfold hereB
    rw [List.length_map]
    omega
  · obtain ⟨i, hi, e⟩ := List.mem_map.mp hb
    have hlt := (mem_setN2 hi).1
    have a2 : k.bs[i]? = some (k.bs[i]'(by omega)) := List.getElem?_eq_getElem (by omega)
    rw [List.getD_eq_getElem?_getD, a2] at e
    rw [← e]
    exact ok.ok _ (List.getElem_mem _)
  · obtain ⟨i, hi, e⟩ := List.mem_map.mp hh
    have hlt := (mem_setN2 hi).1
    refine okp.ok h ?_
    rw [List.getD_eq_getElem?_getD, List.getElem?_eq_getElem hlt] at e
    have e2 : pl[i] = some h := e
    rw [← e2]
    exact List.getElem_mem hlt
theorem here_good {k : Book} {pl : List (Option Int)} (ok : k.Ok) (okp : PlOk k.bs.length pl) (good : allR k pl = []) : allR ⟨k.rv, hereB k pl⟩ (hereP pl) = [] := by
  obtain ⟨ok2, okp2⟩ := here_ok ok okp
  have g := goodP_sub ((good_iff ok okp).mp good) (here_pairs okp.len)
  exact (good_iff ok2 okp2).mpr ⟨g.fits, g.room, g.cross⟩
end GD

namespace GD
open PySem PySem.Spec PyProof.Rows L2 GxR GX GS GT GC
/-! ### tuples of generator expressions -/
theorem tupG_tup {K : PySem.W.Frag} {P a : Addr} {xs : List V} {g : TG} {tt : TT} {te : TE} {vs : List Nat} {σ : L2.St} {H1 : Hp} {Q : VK} {j : Nat} (hv : σ[j]? = some (some (.ref a))) (ht : SqT K H1 a xs) (hT : TabG H1 P) (Pv : Nat → List V → Hp → Prop) (h0 : ∀ H2, Tabbed P H1 H2 → Pv 0 [] H2) (hl : ∀ i z H, i ≤ xs.length → Pv i z H → SqT K H a xs)
    (hs : ∀ i x z H, xs[i]? = some x → Pv i z H → g x (wipe σ vs) H fun σ2 H2 => wipe σ2 vs = wipe σ vs ∧ tt σ2 H2 fun b H3 => if b = true then te σ2 H3 fun y H4 => z.length < sizeLine ∧ Pv (i + 1) (z ++ [y]) H4 else Pv (i + 1) z H3)
    (hd : ∀ z H, Pv xs.length z H → z.length ≤ sizeLine ∧ ∀ p, H p = none → Q (.ref p) (upd H p (.tup z))) : tTupG P (iTup K (tVar j)) g tt te vs σ H1 Q := by
  refine ⟨.ref a, hv, a, rfl, ⟨xs, ht⟩, hT, fun H2 hb => ⟨fun i m z H => m = xs.length - i ∧ i ≤ xs.length ∧ Pv i z H, ⟨xs.length, by simp, Nat.zero_le _, h0 H2 hb⟩, ?_⟩⟩
  rintro i m z H ⟨rfl, hi, p⟩
  have q := hl i z H hi p
  by_cases hlt : i < xs.length
  · refine .inr ⟨⟨xs, xs[i], q, by simp [hlt]⟩, fun z' H' => Pv (i + 1) z' H', fun z' H' p' => ⟨xs.length - (i + 1), by omega, rfl, hlt, p'⟩, fun x H' y => ?_⟩
    obtain ⟨e, y⟩ := y
    subst e
    exact hs i x z H' (y xs q) p
  · have e : i = xs.length := by omega
    subst e
    exact .inl ⟨⟨xs, q, Nat.le_refl _⟩, hd z H p⟩
theorem tupG_enumT {K : PySem.W.Frag} {P a : Addr} {xs : List V} {g : TG} {tt : TT} {te : TE} {vs : List Nat} {σ : L2.St} {H1 : Hp} {Q : VK} {j : Nat} (hv : σ[j]? = some (some (.ref a))) (ht : SqT K H1 a xs) (hT : TabG H1 P) (Pv : Nat → List V → Hp → Prop) (h0 : ∀ H2, Tabbed P H1 H2 → Pv 0 [] H2) (hl : ∀ i z H, i ≤ xs.length → Pv i z H → SqT K H a xs)
    (hs : ∀ i x z H T, xs[i]? = some x → Pv i z H → H T = none → g (.ref T) (wipe σ vs) (upd H T (.tup [.int (i : Nat), x])) fun σ2 H2 => wipe σ2 vs = wipe σ vs ∧ tt σ2 H2 fun b H3 => if b = true then te σ2 H3 fun y H4 => z.length < sizeLine ∧ Pv (i + 1) (z ++ [y]) H4 else Pv (i + 1) z H3)
    (hd : ∀ z H, Pv xs.length z H → z.length ≤ sizeLine ∧ ∀ p, H p = none → Q (.ref p) (upd H p (.tup z))) : tTupG P (GE.iEnumT K (tCons (tVar j) tNil)) g tt te vs σ H1 Q := by
  refine ⟨.ref a, hv, a, xs, rfl, ht, hT, fun H2 hb => ⟨fun i m z H => m = xs.length - i ∧ i ≤ xs.length ∧ Pv i z H, ⟨xs.length, by simp, Nat.zero_le _, h0 H2 hb⟩, ?_⟩⟩
  rintro i m z H ⟨rfl, hi, p⟩
  have q := hl i z H hi p
  by_cases hlt : i < xs.length
  · refine .inr ⟨⟨xs, xs[i], q, by simp [hlt]⟩, fun z' H' => Pv (i + 1) z' H', fun z' H' p' => ⟨xs.length - (i + 1), by omega, rfl, hlt, p'⟩, fun x H' y => ?_⟩
    obtain ⟨T, x', rfl, hn, rfl, hx⟩ := y
    exact hs i x' z H T (hx xs q) p hn
  · have e : i = xs.length := by omega
    subst e
    exact .inl ⟨⟨xs, q, Nat.le_refl _⟩, hd z H p⟩
/-! ### what is without an item -/
theorem erase_next {α : Type} {xs : List α} {i k : Nat} {x : α} (h : xs[i]? = some x) : (xs.take (i + 1)).eraseIdx k = if i = k then (xs.take i).eraseIdx k else (xs.take i).eraseIdx k ++ [x] := by
  have hi : i < xs.length := (List.getElem?_eq_some_iff.mp h).1
  have hl : (xs.take i).length = i := by rw [List.length_take]; omega
  have e : xs.take (i + 1) = xs.take i ++ [x] := by rw [List.take_add_one, h]; rfl
  rw [e]
  by_cases c : i = k
  · subst c
    have e1 : (xs.take i ++ [x]).eraseIdx i = xs.take i ++ [x].eraseIdx (i - (xs.take i).length) := List.eraseIdx_append_of_length_le (by omega) _
    have e2 : (xs.take i).eraseIdx i = xs.take i := List.eraseIdx_of_length_le (by omega)
    rw [if_pos rfl, e1, e2, hl, Nat.sub_self]
    exact List.append_nil _
  · rw [if_neg c]
    by_cases c2 : k < i
    · rw [List.eraseIdx_append_of_lt_length (by omega)]
    · rw [List.eraseIdx_append_of_length_le (by omega), hl, List.eraseIdx_of_length_le (l := xs.take i) (by omega), List.eraseIdx_of_length_le (l := [x]) (by simp; omega)]
theorem cut_erase {α : Type} (xs : List α) (k : Nat) : xs.take k ++ xs.drop (k + 1) = xs.eraseIdx k := (List.eraseIdx_eq_take_drop_succ xs k).symm
theorem inV_none (pl : List (Option Int)) : inV .non (pl.map oV) = decide (none ∈ pl) := by
  rw [Bool.eq_iff_iff, decide_eq_true_eq]
  unfold inV
  rw [List.any_eq_true]
  constructor
  · rintro ⟨y, hy, e⟩
    obtain ⟨o, ho, rfl⟩ := List.mem_map.mp hy
    cases o with
    | none => exact ho
    | some k => simp [oV, eqV] at e
  · intro hm
    exact ⟨oV none, List.mem_map.mpr ⟨_, hm, rfl⟩, by simp [oV, eqV]⟩
/-- a barge of it is ready at another time -/
def lateB (k : Book) (i : Nat) (r : Int) : Book := ⟨k.rv, k.bs.mapIdx fun j b => if j = i then { b with r := r } else b⟩
theorem paired_erase {α β : Type} {F : α → β → Prop} : ∀ {xs : List α} {ys : List β}, Paired F xs ys → ∀ i, Paired F (xs.eraseIdx i) (ys.eraseIdx i)
  | _, _, .nil, _ => .nil
  | _, _, .cons _ t, 0 => t
  | _, _, .cons r t, i + 1 => .cons r (paired_erase t i)
theorem map_erase {α β : Type} (f : α → β) : ∀ (xs : List α) (i : Nat), (xs.map f).eraseIdx i = (xs.eraseIdx i).map f
  | [], _ => rfl
  | _ :: _, 0 => rfl
  | x :: xs, i + 1 => by
    show f x :: (xs.map f).eraseIdx i = f x :: (xs.eraseIdx i).map f
    rw [map_erase f xs i]
/-! ### what of a plan stands -/
def standO (now : Int) : Option Int → Option Int
  | some h => if h < now then some h else none
  | none => none
def standP (pl : List (Option Int)) (now : Int) : List (Option Int) := pl.map (standO now)
/-! ### books and plans as data -/
def oD : Option Int → PyData
  | none => .none
  | some h => .int h
def stretchD (s : Stretch) : PyData := .tuple [.int s.hours, .int s.room, .tuple (s.ds.map PyData.int)]
def bargeD (b : Barge) : PyData := .tuple [.int b.b, .int b.g, .int b.d, .int b.r, .int b.u]
def bookD (k : Book) : PyData := .tuple [.tuple (k.rv.map stretchD), .tuple (k.bs.map bargeD)]
def planD (pl : List (Option Int)) : PyData := .tuple (pl.map oD)
def pairD (k : Book) (pl : List (Option Int)) : PyData := .tuple [bookD k, planD pl]
section
variable {K : PySem.W.Frag} {H : Hp} {v : V}
theorem td_ints : ∀ ns : List Int, TdAll K H (ns.map V.int) (ns.map PyData.int)
  | [] => .nil
  | n :: ns => .cons (.int n) (td_ints ns)
theorem td_plan : ∀ pl : List (Option Int), TdAll K H (pl.map oV) (pl.map oD)
  | [] => .nil
  | none :: pl => .cons .non (td_plan pl)
  | some h :: pl => .cons (.int h) (td_plan pl)
theorem td_paired {α : Type} {F : V → α → Prop} {f : α → PyData} (hf : ∀ v a, F v a → Td K H v (f a)) : ∀ {vs : List V} {as : List α}, Paired F vs as → TdAll K H vs (as.map f)
  | _, _, .nil => .nil
  | _, _, .cons a b => .cons (hf _ _ a) (td_paired hf b)
theorem IsStretch.td {s : Stretch} (h : IsStretch K H v s) : Td K H v (stretchD s) := by
  obtain ⟨a, d, rfl, h1, h2⟩ := h
  exact .tup h1 (.cons (.int _) (.cons (.int _) (.cons (.tup h2 (td_ints _)) .nil)))
theorem IsBarge.td {b : Barge} (h : IsBarge K H v b) : Td K H v (bargeD b) := by
  obtain ⟨a, rfl, h1⟩ := h
  exact .tup h1 (.cons (.int _) (.cons (.int _) (.cons (.int _) (.cons (.int _) (.cons (.int _) .nil)))))
theorem IsBook.td {k : Book} (h : IsBook K H v k) : Td K H v (bookD k) := by
  obtain ⟨a, r, b, rfl, h1, ⟨ra, rs, rfl, h2, h3⟩, ⟨ba, bs, rfl, h4, h5⟩⟩ := h
  exact .tup h1 (.cons (.tup h2 (td_paired (fun _ _ z => IsStretch.td z) h3)) (.cons (.tup h4 (td_paired (fun _ _ z => IsBarge.td z) h5)) .nil))
theorem IsPlan.td {pl : List (Option Int)} (h : IsPlan K H v pl) : Td K H v (planD pl) := by
  obtain ⟨a, rfl, h1⟩ := h
  exact .tup h1 (td_plan pl)
end
theorem lay_map {α : Type} {f : α → PyData} {n : Nat} (h : ∀ a, (f a).canLay0 = true ∧ (f a).depth ≤ n) : ∀ as : List α, PyData.canLayAll0 (as.map f) = true ∧ PyData.depthAll (as.map f) ≤ n
  | [] => ⟨rfl, Nat.zero_le _⟩
  | a :: as => by
    obtain ⟨h1, h2⟩ := lay_map h as
    obtain ⟨k1, k2⟩ := h a
    constructor
    · show (PyData.canLay0 (f a) && PyData.canLayAll0 (as.map f)) = true
      rw [h1, k1]
      rfl
    · show max (PyData.depth (f a)) (PyData.depthAll (as.map f)) ≤ n
      omega
theorem lay_tup {ds : List PyData} {n : Nat} (h : PyData.canLayAll0 ds = true ∧ PyData.depthAll ds ≤ n) : (PyData.tuple ds).canLay0 = true ∧ (PyData.tuple ds).depth ≤ n + 1 := ⟨h.1, Nat.succ_le_succ h.2⟩
theorem lay_two {d e : PyData} {n : Nat} (h1 : d.canLay0 = true ∧ d.depth ≤ n) (h2 : e.canLay0 = true ∧ e.depth ≤ n) : PyData.canLayAll0 [d, e] = true ∧ PyData.depthAll [d, e] ≤ n := by
  constructor
  · show (d.canLay0 && (e.canLay0 && true)) = true
    rw [h1.1, h2.1]
    rfl
  · show max d.depth (max e.depth 0) ≤ n
    have := h1.2
    have := h2.2
    omega
theorem lay_stretch (s : Stretch) : (stretchD s).canLay0 = true ∧ (stretchD s).depth ≤ 2 := by
  obtain ⟨h1, h2⟩ := lay_tup (lay_map (f := PyData.int) (n := 0) (fun a => ⟨rfl, Nat.le_refl _⟩) s.ds)
  constructor
  · show (true && (true && ((PyData.tuple (s.ds.map PyData.int)).canLay0 && true))) = true
    rw [h1]
    rfl
  · show max 0 (max 0 (max (PyData.tuple (s.ds.map PyData.int)).depth 0)) + 1 ≤ 2
    omega
theorem lay_barge (b : Barge) : (bargeD b).canLay0 = true ∧ (bargeD b).depth ≤ 2 := ⟨rfl, by show 1 ≤ 2; decide⟩
theorem lay_book (k : Book) : (bookD k).canLay0 = true ∧ (bookD k).depth ≤ 4 := lay_tup (lay_two (lay_tup (lay_map lay_stretch k.rv)) (lay_tup (lay_map lay_barge k.bs)))
theorem lay_plan (pl : List (Option Int)) : (planD pl).canLay0 = true ∧ (planD pl).depth ≤ 1 := lay_tup (lay_map (f := oD) (n := 0) (fun a => by cases a <;> exact ⟨rfl, Nat.le_refl _⟩) pl)
theorem lay_pair (k : Book) (pl : List (Option Int)) : (pairD k pl).canLay0 = true ∧ (pairD k pl).depth ≤ 5 := by
  have h := lay_plan pl
  exact lay_tup (lay_two (lay_book k) ⟨h.1, by omega⟩)
theorem pdrop {α β : Type} {F : α → β → Prop} : ∀ {xs : List α} {ys : List β} (n : Nat), Paired F xs ys → Paired F (xs.drop n) (ys.drop n)
  | _, _, 0, h => h
  | _, _, _ + 1, .nil => .nil
  | _, _, n + 1, .cons _ t => pdrop n t
theorem late_take {bs : List Barge} {i : Nat} {b : Barge} {f : Barge → Barge} (h : bs[i]? = some b) : (bs.mapIdx fun j b => if j = i then f b else b) = bs.take i ++ [f b] ++ bs.drop (i + 1) := by
  have hi : i < bs.length := (List.getElem?_eq_some_iff.mp h).1
  refine List.ext_getElem? fun j => ?_
  have lt : (bs.take i).length = i := by rw [List.length_take]; omega
  rw [List.getElem?_mapIdx]
  by_cases c : j < i
  · rw [List.append_assoc, List.getElem?_append_left (by omega), List.getElem?_take_of_lt c]
    cases e : bs[j]? with
    | none => rfl
    | some x =>
      show some (if j = i then f x else x) = some x
      rw [if_neg (by omega)]
  · by_cases c2 : j = i
    · subst c2
      rw [List.append_assoc, List.getElem?_append_right (by omega), lt, Nat.sub_self, h]
      show some (if j = j then f b else b) = some (f b)
      rw [if_pos rfl]
    · rw [List.append_assoc, List.getElem?_append_right (by omega), lt, List.getElem?_append_right (by simp; omega), List.getElem?_drop]
      rw [show i + 1 + (j - i - [f b].length) = j by simp; omega]
      cases e : bs[j]? with
      | none => rfl
      | some x =>
        show some (if j = i then f x else x) = some x
        rw [if_neg c2]
/-- what is told of a barge late (a ready) or lost (none) -/
def dueX (k : Book) (pl : List (Option Int)) (now : Int) (i : Nat) : V → PyData
  | .non => pairD ⟨k.rv, k.bs.eraseIdx i⟩ ((standP pl now).eraseIdx i)
  | .int r => if 0 ≤ r ∧ r ≤ 99 then pairD (lateB k i r) (standP pl now) else .str "book"
  | _ => .str "book"
def dueD (k : Book) (pl : List (Option Int)) (now : Int) (i : Nat) (x : V) : PyData := if (pl.getD i none).getD 0 < now then .str "gone" else dueX k pl now i x
def toldD (k : Book) (pl : List (Option Int)) (now : Int) (i : Nat) (x : V) : PyData := if allR k pl ≠ [] ∨ none ∈ pl then .str "plan" else dueD k pl now i x
theorem lay_str {z : Str} (h : PyData.strOk z = true) : (PyData.str z).canLay0 = true ∧ (PyData.str z).depth ≤ 5 := ⟨h, Nat.zero_le _⟩
theorem lay_due (k : Book) (pl : List (Option Int)) (now : Int) (i : Nat) (x : V) : (dueD k pl now i x).canLay0 = true ∧ (dueD k pl now i x).depth ≤ 5 := by
  unfold dueD
  split
  · exact lay_str (by decide +kernel)
  · unfold dueX
    split
    · exact lay_pair _ _
    · split
      · exact lay_pair _ _
      · exact lay_str (by decide +kernel)
    · exact lay_str (by decide +kernel)
theorem lay_told (k : Book) (pl : List (Option Int)) (now : Int) (i : Nat) (x : V) : (toldD k pl now i x).canLay0 = true ∧ (toldD k pl now i x).depth ≤ 5 := by
  unfold toldD
  split
  · exact lay_str (by decide +kernel)
  · exact lay_due k pl now i x
/-! ### numbers of any kind of scalar -/
inductive Sca : V → Prop
  | int (i : Int) : Sca (.int i)
  | bl (b : Bool) : Sca (.bl b)
  | str (s : Str) : Sca (.str s)
  | non : Sca .non
def numB (lo hi : Int) : V → Bool
  | .int i => decide (lo ≤ i) && decide (i ≤ hi)
  | _ => false
theorem isi_bb {K : PySem.W.Frag} {H : Hp} {Q : VK} {b : Bool} (h : Q (.bl true) H) : rIsi K [.bl b, .ty "bool"] H Q := ⟨.bl b, .ty "bool", .type "bool", .type "bool", true, rfl, .ty _, .base (.bl _), kit_ty (by decide +kernel), h⟩
theorem isi_bi {K : PySem.W.Frag} {H : Hp} {Q : VK} {b : Bool} (h : Q (.bl true) H) : rIsi K [.bl b, .ty "int"] H Q := ⟨.bl b, .ty "int", .type "bool", .type "int", true, rfl, .ty _, .base (.bl _), kit_ty (by decide +kernel), h⟩
theorem isi_sb {K : PySem.W.Frag} {H : Hp} {Q : VK} {z : Str} (h : Q (.bl false) H) : rIsi K [.str z, .ty "bool"] H Q := ⟨.str z, .ty "bool", .type "str", .type "bool", false, rfl, .ty _, .base (.str _), kit_ty (by decide +kernel), h⟩
theorem isi_si {K : PySem.W.Frag} {H : Hp} {Q : VK} {z : Str} (h : Q (.bl false) H) : rIsi K [.str z, .ty "int"] H Q := ⟨.str z, .ty "int", .type "str", .type "int", false, rfl, .ty _, .base (.str _), kit_ty (by decide +kernel), h⟩
theorem isi_nb {K : PySem.W.Frag} {H : Hp} {Q : VK} (h : Q (.bl false) H) : rIsi K [.non, .ty "bool"] H Q := ⟨.non, .ty "bool", .type "NoneType", .type "bool", false, rfl, .ty _, .base .non, kit_ty (by decide +kernel), h⟩
theorem isi_ni {K : PySem.W.Frag} {H : Hp} {Q : VK} (h : Q (.bl false) H) : rIsi K [.non, .ty "int"] H Q := ⟨.non, .ty "int", .type "NoneType", .type "int", false, rfl, .ty _, .base .non, kit_ty (by decide +kernel), h⟩
end GD

/-! zip of a list and a tuple -/
namespace GXZ
open PySem PySem.Spec PyProof.Rows L2
def ItzM (K : PySem.W.Frag) (a b : Addr) : It :=
  ⟨fun i H => ∃ (xs ys : List V) (x y : V), SqL K H a xs ∧ SqT K H b ys ∧ xs[i]? = some x ∧ ys[i]? = some y,
    fun i H v H' => ∃ T x y, v = .ref T ∧ H T = none ∧ H' = upd H T (.tup [x, y]) ∧ (∀ xs, SqL K H a xs → xs[i]? = some x) ∧ ∀ ys, SqT K H b ys → ys[i]? = some y,
    fun i H => ∃ xs ys : List V, SqL K H a xs ∧ SqT K H b ys ∧ i ≤ xs.length ∧ i ≤ ys.length ∧ (i = xs.length ∨ i = ys.length)⟩
theorem turnM {P : Program} {w : World} {K : PySem.W.Frag} {elts : List Expr} {kk : Nat} {tpos : Pos} {a b z TI TO i1 i2 : Addr} (S : ZipSep2 z TI TO i1 i2 [i1, a] [i2, b]) (n12 : i1 ≠ i2) (na : a ≠ i1) (nb : b ≠ i2) :
    Turn P w K (.Tuple elts kk tpos) (ItzM K a b) [z, TI, TO, i1, i2] z (fun i h => IsZip h z TI TO .none ∧ IsTupOf2 h TI (.ref i1) (.ref i2) ∧ (∃ x y, IsTupOf2 h TO x y) ∧ h.IsListIter i1 a i ∧ h.IsTupleIter i2 b i) where
  mem := by simp
  obj := fun i h st c hc => by
    obtain ⟨hz, hTI, ⟨x, y, hTO⟩, ⟨o1, e1, _, d1⟩, ⟨o2, e2, _, d2⟩⟩ := st
    simp only [List.mem_cons, List.not_mem_nil, or_false] at hc
    rcases hc with rfl | rfl | rfl | rfl | rfl
    · exact ⟨_, hz, fun v q => nomatch q⟩
    · exact ⟨_, hTI, fun v q => nomatch q⟩
    · exact ⟨_, hTO, fun v q => nomatch q⟩
    · exact ⟨o1, e1, fun v q => by rw [d1] at q; cases q⟩
    · exact ⟨o2, e2, fun v q => by rw [d2] at q; cases q⟩
  keep := fun i h h' st k => by
    obtain ⟨hz, hTI, ⟨x, y, hTO⟩, h1, h2⟩ := st
    exact ⟨k z (by simp) _ hz, k TI (by simp) _ hTI, ⟨x, y, k TO (by simp) _ hTO⟩, h1.at fun o q => k i1 (by simp) o q, h2.at fun o q => k i2 (by simp) o q⟩
  item := by
    intro X hP hw hK hc i pins s σ H E I hf st hg
    subst hP hw hK
    obtain ⟨hz, hTI, ⟨x0, y0, hTO⟩, h1, h2⟩ := st
    obtain ⟨xs, ys, x, y, hqx, hqy, hx, hy⟩ := hg
    obtain ⟨its, rv, p, _⟩ := I.list hqx
    obtain ⟨its2, rv2, p2, _⟩ := I.tuple hqy
    obtain ⟨u, hu, ru⟩ := rv.get hx
    obtain ⟨u2, hu2, ru2⟩ := rv2.get hy
    have hzl : z < s.heap.objs.size := Heap.lt_size hz
    have l1 : i < its.toArray.size := by simp; exact (List.getElem?_eq_some_iff.mp hu).1
    have l2 : i < its2.toArray.size := by simp; exact (List.getElem?_eq_some_iff.mp hu2).1
    have hh1 : X.A.in1.handled = none := I.ok.hd hc
    have D1 : Draws X.prog X.w X.A.in1 i1 [i1, a] its.toArray.size (fun i v => its.toArray[i]? = some v) (fun i h => h.IsListIter i1 a i ∧ h.IsList a its.toArray) := Draws.list hh1 i1 a na its.toArray
    have D2 : Draws X.prog X.w X.A.in1 i2 [i2, b] its2.toArray.size (fun i v => its2.toArray[i]? = some v) (fun i h => h.IsTupleIter i2 b i ∧ h.IsTuple b its2.toArray) := Draws.tuple hh1 i2 b nb its2.toArray
    refine wpAny_pyNext_zipD2_item S D1 D2 hz hTI hTO ⟨h1, p.isList⟩ ⟨h2, p2⟩ l1 l2 fun x1 x2 h' tk q1 q2 z' TO' d1 d2 hT hsz hk => ?_
    obtain rfl : x1 = u := by
      have q1 : its.toArray[i]? = some x1 := q1
      rw [List.getElem?_toArray, hu] at q1
      exact (Option.some.inj q1).symm
    obtain rfl : x2 = u2 := by
      have q2 : its2.toArray[i]? = some x2 := q2
      rw [List.getElem?_toArray, hu2] at q2
      exact (Option.some.inj q2).symm
    refine ⟨_, rfl, wpAny_letOwnedTupleGo_zip (s := { s with heap := h', toks := tk }) z' fun h'' z'' sb => ?_⟩
    have hT2 : h''.get? s.heap.objs.size = some { cls := .type "tuple", data := .seq #[x1, x2] } := (sb.2 _ (Nat.ne_of_gt hzl)).trans hT
    have new : ObjOk X.prog X.w (upd H s.heap.objs.size (.tup [x, y])) h'' s.heap.objs.size (.tup [x, y]) :=
      ⟨by show 2 ≤ sizeLine; decide, [x1, x2], .cons ru (.cons ru2 .nil), ⟨_, hT2, rfl, _, rfl⟩⟩
    have I1 : Inv X pins σ (upd H s.heap.objs.size (.tup [x, y])) { s with heap := h'', toks := tk } :=
      I.turnedNew (t' := tk) (ch := [z, TI, TO, i1, i2]) (fun c o hb q => by
        simp only [List.mem_cons, List.not_mem_nil, or_false, not_or] at hb
        exact (sb.2 c hb.1).trans (hk c o hb.1 hb.2.2.1 hb.2.2.2.1 hb.2.2.2.2 q)) hf (Nat.le_refl _) new
    refine ⟨.ref s.heap.objs.size, _, I1, rfl, ⟨_, x, y, rfl, I.hok.fresh (Nat.le_refl _), rfl, fun l hl => by rw [I.list_inj hl hqx]; exact hx, fun l hl => by rw [I.tuple_inj hl hqy]; exact hy⟩, ⟨z'', ?_, ⟨x1, x2, ?_⟩, ?_, ?_⟩, fun c hcm => ?_⟩
    · exact (sb.2 _ S.TIz).trans (hk _ _ S.TIz S.TITO S.TIi1 S.TIi2 hTI)
    · exact (sb.2 _ S.TOz).trans TO'
    · exact d1.1.at fun o q => (sb.2 _ S.zi1.symm).trans q
    · exact d2.1.at fun o q => (sb.2 _ S.zi2.symm).trans q
    · have hlt : c < s.heap.objs.size := by
        simp only [List.mem_cons, List.not_mem_nil, or_false] at hcm
        rcases hcm with rfl | rfl | rfl | rfl | rfl
        · exact hzl
        · exact Heap.lt_size hTI
        · exact Heap.lt_size hTO
        · obtain ⟨_, e1, _⟩ := h1; exact Heap.lt_size e1
        · obtain ⟨_, e2, _⟩ := h2; exact Heap.lt_size e2
      rw [upd_ne (Nat.ne_of_lt hlt)]
      exact (hf c hcm).1
  done := by
    intro X hP hw hK hc i pins s σ H E I hf st hg
    subst hP hw hK
    obtain ⟨hz, hTI, ⟨x0, y0, hTO⟩, h1, h2⟩ := st
    obtain ⟨xs, ys, hqx, hqy, b1, b2, hend⟩ := hg
    obtain ⟨its, rv, p, _⟩ := I.list hqx
    obtain ⟨its2, rv2, p2, _⟩ := I.tuple hqy
    have l1 : its.toArray.size = xs.length := by rw [List.size_toArray]; exact rv.length.symm
    have l2 : its2.toArray.size = ys.length := by rw [List.size_toArray]; exact rv2.length.symm
    have hh1 : X.A.in1.handled = none := I.ok.hd hc
    have D1 : Draws X.prog X.w X.A.in1 i1 [i1, a] its.toArray.size (fun i v => its.toArray[i]? = some v) (fun i h => h.IsListIter i1 a i ∧ h.IsList a its.toArray) := Draws.list hh1 i1 a na its.toArray
    have D2 : Draws X.prog X.w X.A.in1 i2 [i2, b] its2.toArray.size (fun i v => its2.toArray[i]? = some v) (fun i h => h.IsTupleIter i2 b i ∧ h.IsTuple b its2.toArray) := Draws.tuple hh1 i2 b nb its2.toArray
    exact wpAny_pyNext_zipD2_end S D1 D2 hz hTI hTO ⟨h1, p.isList⟩ ⟨h2, p2⟩ (by omega) (by omega) (by omega) fun h' tk hk => ⟨rfl, I.turnedL (t' := tk) (ch := [z, TI, TO, i1, i2]) (fun c o hb q => by
      simp only [List.mem_cons, List.not_mem_nil, or_false, not_or] at hb
      exact hk c o hb.1 hb.2.2.1 hb.2.2.2.1 hb.2.2.2.2 q) hf⟩
  self := fun A i s Q E st h => wpAny_pyIter_zip st.1 h
theorem sepM (I a b : Nat) (ha : a < I) (hb : b < I) : ZipSep2 (I + 4) (I + 2) (I + 3) I (I + 1) [I, a] [I + 1, b] where
  TIz := (show I + 2 ≠ I + 4 by omega)
  TOz := (show I + 3 ≠ I + 4 by omega)
  TITO := (show I + 2 ≠ I + 3 by omega)
  TIi1 := (show I + 2 ≠ I by omega)
  mem1 := by simp
  zf1 := by simp only [List.mem_cons, List.not_mem_nil, or_false]; exact (show ¬ (I + 4 = I ∨ I + 4 = a) by omega)
  Tf1 := by simp only [List.mem_cons, List.not_mem_nil, or_false]; exact (show ¬ (I + 3 = I ∨ I + 3 = a) by omega)
  TIi2 := (show I + 2 ≠ I + 1 by omega)
  mem2 := by simp
  zf2 := by simp only [List.mem_cons, List.not_mem_nil, or_false]; exact (show ¬ (I + 4 = I + 1 ∨ I + 4 = b) by omega)
  Tf2 := by simp only [List.mem_cons, List.not_mem_nil, or_false]; exact (show ¬ (I + 3 = I + 1 ∨ I + 3 = b) by omega)
  sep1_2 := by simp only [List.mem_cons, List.not_mem_nil, or_false]; exact (show ¬ (I = I + 1 ∨ I = b) by omega)
  sep2_1 := by simp only [List.mem_cons, List.not_mem_nil, or_false]; exact (show ¬ (I + 1 = I ∨ I + 1 = a) by omega)
def iZipM (K : PySem.W.Frag) (ta : TA) : TI := fun σ H R => ta σ H fun vs H1 => ∃ a b xs ys, vs = [.ref a, .ref b] ∧ SqL K H1 a xs ∧ SqT K H1 b ys ∧ R (ItzM K a b) H1
theorem pi_zipM {X : Cx} {e e2 : Expr} {ta : TA} {p pos tpos : Pos} {elts : List Expr} {kk : Nat} (hg : Gl X "zip") (hm : X.mg "zip" = none) (ha : PA X [e, e2] ta)
    (hs : starEach [e, e2] X.env = (false, eval e X.env) :: starEach [e2] X.env := by rfl) (hpl : (backTo pos (starEach [e2] X.env)).any (·.1) = false := by rfl) :
    PI X (.Tuple elts kk tpos) (.Call (.Name "zip" p) [e, e2] [] pos) (iZipM X.K ta) := by
  refine ⟨fun pins s σ H R I h => ?_⟩
  refine Call_ (ld_blt I hg hm PyProof.Rows.boot_zip (PyProof.Rows.callWith_type1 (thn (ha.run pos pins s σ H _ I h) fun us s1 ⟨vs, H1, I1, r1, q1⟩ => ?_) hs hpl))
  obtain ⟨a, b, xs, ys, rfl, hqx, hqy, q⟩ := q1
  obtain ⟨u, r, rfl⟩ : ∃ u r, us = u :: r := by cases r1; exact ⟨_, _, rfl⟩
  obtain ⟨u2, rfl⟩ : ∃ u2, r = [u2] := by
    cases r1 with
    | cons _ rr =>
      cases rr with
      | cons _ rr => cases rr; exact ⟨_, rfl⟩
  have r1a : RelV (.ref a) u := by cases r1; assumption
  have r1b : RelV (.ref b) u2 := by
    cases r1 with
    | cons _ rr => cases rr; assumption
  obtain rfl : u = Value.ref a := r1a
  obtain rfl : u2 = Value.ref b := r1b
  obtain ⟨its, rv, p1, _⟩ := I1.list hqx
  obtain ⟨its2, rv2, p2, _⟩ := I1.tuple hqy
  have la : a < s1.heap.objs.size := p1.lt
  have lb : b < s1.heap.objs.size := by
    obtain ⟨o2, ho2, _⟩ := id p2
    exact Heap.lt_size ho2
  refine zip_begins2 (begins_list a its.toArray) (begins_tuple b its2.toArray) p1.isList p2 fun h' hz hTI hTO g1 g2 hsz hk => wpAny_pyIter_zip hz ?_
  have I2 : Inv X pins σ H1 { s1 with heap := h' } := I1.kept (t' := s1.toks) hk
  have fr : ∀ n, FpOk X pins H1 (s1.heap.objs.size + n) := fun n => I1.fpOk (Nat.le_add_right _ _) (I1.hok.fresh (Nat.le_add_right _ _))
  refine ⟨s1.heap.objs.size + 4, [s1.heap.objs.size + 4, s1.heap.objs.size + 2, s1.heap.objs.size + 3, s1.heap.objs.size, s1.heap.objs.size + 1], _, _, H1, rfl, I2,
    turnM (sepM s1.heap.objs.size a b la lb) (Nat.ne_of_lt (Nat.lt_succ_self _)) (Nat.ne_of_lt la) (Nat.ne_of_lt (Nat.lt_succ_of_lt lb)),
    ⟨hz, hTI, ⟨_, _, hTO⟩, ⟨_, g1, rfl, rfl⟩, ⟨_, g2, rfl, rfl⟩⟩, fun c hc => ?_, q⟩
  simp only [List.mem_cons, List.not_mem_nil, or_false] at hc
  rcases hc with rfl | rfl | rfl | rfl | rfl
  · exact fr 4
  · exact fr 2
  · exact fr 3
  · exact fr 0
  · exact fr 1
/-- a loop over zip of a list and a tuple of one length -/
theorem for_zipM {K : PySem.W.Frag} {a b : Addr} {xs ys : List V} {g : TG} {tb : TS} {D : Ends} {σ : L2.St} {H : Hp} (hl : xs.length = ys.length) (Pv : Nat → L2.St → Hp → Prop) (h0 : Pv 0 σ H) (hq : ∀ i σ H, Pv i σ H → SqL K H a xs ∧ SqT K H b ys)
    (hs : ∀ (i : Nat) (x y : V) (T : Addr) (σ : L2.St) (H : Hp), xs[i]? = some x → ys[i]? = some y → Pv i σ H → H T = none → g (.ref T) σ (upd H T (.tup [x, y])) fun σ2 H2 => tb { D with nx := Pv (i + 1), ct := Pv (i + 1), bk := D.nx } σ2 H2) (hd : ∀ σ H, Pv xs.length σ H → D.nx σ H) :
    ∃ W : Nat → Nat → L2.St → Hp → Prop, (∃ m, W 0 m σ H) ∧ ∀ i m σ H, W i m σ H →
      ((ItzM K a b).stop i H ∧ D.nx σ H) ∨ ((ItzM K a b).go i H ∧ ∃ N : L2.St → Hp → Prop, (∀ σ' H', N σ' H' → ∃ m', m' < m ∧ W (i + 1) m' σ' H') ∧ ∀ v H', (ItzM K a b).yld i H v H' → g v σ H' fun σ2 H2 => tb { D with nx := N, ct := N, bk := D.nx } σ2 H2) := by
  refine ⟨fun i m σ H => m = xs.length - i ∧ i ≤ xs.length ∧ Pv i σ H, ⟨xs.length, rfl, Nat.zero_le _, h0⟩, ?_⟩
  rintro i m σ H ⟨rfl, hi, p⟩
  obtain ⟨q1, q2⟩ := hq i σ H p
  by_cases hlt : i < xs.length
  · refine .inr ⟨⟨xs, ys, xs[i], ys[i]'(by omega), q1, q2, by simp [hlt], List.getElem?_eq_getElem (by omega)⟩, Pv (i + 1), fun σ' H' p' => ⟨xs.length - (i + 1), by omega, rfl, hlt, p'⟩, fun v H' y => ?_⟩
    obtain ⟨T, x, y, rfl, hn, rfl, hx, hy⟩ := y
    exact hs i x y T σ H (hx xs q1) (hy ys q2) p hn
  · have e : i = xs.length := by omega
    subst e
    exact .inl ⟨⟨xs, ys, q1, q2, Nat.le_refl _, by omega, .inl rfl⟩, hd σ H p⟩
end GXZ

namespace GD
open PySem PySem.Spec PyProof.Rows L2 GxR GX GS GT GC
/-! ### what rests on a book's barges alone, kept -/
/-- the whole numbers from a on, below b -/
def rgI (a b : Int) : List Int := (List.range (b - a).toNat).map fun i : Nat => a + (i : Int)
theorem rgV_I (a b : Int) : rgV a b = (rgI a b).map V.int := by
  unfold rgV rgI
  rw [List.map_map]
  rfl
theorem rgI_mem {a b x : Int} : x ∈ rgI a b ↔ a ≤ x ∧ x < b := by
  unfold rgI
  rw [List.mem_map]
  constructor
  · rintro ⟨i, hi, rfl⟩
    have := List.mem_range.mp hi
    omega
  · rintro ⟨h1, h2⟩
    exact ⟨(x - a).toNat, List.mem_range.mpr (by omega), by omega⟩
theorem rgI_len (a b : Int) : (rgI a b).length = (b - a).toNat := by
  unfold rgI
  rw [List.length_map, List.length_range]
/-- the hours of tows that have not left -/
def hoursF (now : Int) : List Int := rgI (max now 0) 12
theorem hoursF_mem {now h : Int} : h ∈ hoursF now ↔ now ≤ h ∧ 0 ≤ h ∧ h < 12 := by
  unfold hoursF
  rw [rgI_mem]
  omega
theorem hoursF_len (now : Int) : (hoursF now).length ≤ 12 := by
  unfold hoursF
  rw [rgI_len]
  omega
/-- how long a barge waits for the tow of an hour -/
def waitB (k : Book) (i : Nat) (h : Int) : Int := match k.bs[i]? with
  | some b => h + hsum k.rv b.b.toNat - b.r
  | none => 0
theorem waitB_of {k : Book} {i : Nat} {b : Barge} (e : k.bs[i]? = some b) (h : Int) : waitB k i h = h + hsum k.rv b.b.toNat - b.r := by
  unfold waitB
  rw [e]
theorem waitOf_B {k : Book} {i : Nat} {b : Barge} (e : k.bs[i]? = some b) (h : Int) : waitOf k i (some h) = [waitB k i h] := by
  unfold waitOf
  rw [waitB_of e, e]
def waitRow (k : Book) (i : Nat) : List Int := (rgI 0 12).map (waitB k i)
theorem waitRow_get {k : Book} {i : Nat} {h : Int} (h0 : 0 ≤ h) (h1 : h < 12) : (waitRow k i)[h.toNat]? = some (waitB k i h) := by
  unfold waitRow rgI
  rw [List.getElem?_map, List.getElem?_map, List.getElem?_range (by omega)]
  show some (waitB k i (0 + (h.toNat : Int))) = _
  rw [show (0 : Int) + (h.toNat : Int) = h by omega]
/-- the hours by which nothing speaks against a barge alone -/
def fitB (k : Book) (i : Nat) (h : Int) : Bool := match k.bs[i]? with
  | some b => (aloneR k i b h).isEmpty
  | none => false
theorem fitB_of {k : Book} {i : Nat} {b : Barge} (e : k.bs[i]? = some b) (h : Int) : fitB k i h = (aloneR k i b h).isEmpty := by
  unfold fitB
  rw [e]
def fitsL (k : Book) (now : Int) (i : Nat) : List Int := (hoursF now).filter (fitB k i)
theorem fitsL_len (k : Book) (now : Int) (i : Nat) : (fitsL k now i).length ≤ 12 := Nat.le_trans (List.length_filter_le _ _) (hoursF_len now)
/-- the plan in which some barges have the hour 0, the others none -/
def partyP (n : Nat) (ns : List Nat) : List (Option Int) := (List.range n).map fun i => if i ∈ ns then some 0 else none
theorem partyP_ok (n : Nat) (ns : List Nat) : PlOk n (partyP n ns) where
  len := by unfold partyP; rw [List.length_map, List.length_range]
  ok := fun h hh => by
    unfold partyP at hh
    obtain ⟨i, _, e⟩ := List.mem_map.mp hh
    split at e
    · cases e
      exact ⟨by decide, by decide⟩
    · cases e
theorem partyP_same {n : Nat} {ns ms : List Nat} (h : ∀ i, i ∈ ns ↔ i ∈ ms) : partyP n ns = partyP n ms := by
  unfold partyP
  refine List.map_congr_left fun i _ => ?_
  by_cases c : i ∈ ns
  · rw [if_pos c, if_pos ((h i).mp c)]
  · rw [if_neg c, if_neg fun z => c ((h i).mpr z)]
/-- whether barges have room in one tow and are not crossed there -/
def shareB (k : Book) (ns : List Nat) : Bool := (fullA k (partyP k.bs.length ns)).isEmpty && (crossA k (partyP k.bs.length ns)).isEmpty
theorem shareB_same {k : Book} {ns ms : List Nat} (h : ∀ i, i ∈ ns ↔ i ∈ ms) : shareB k ns = shareB k ms := by
  unfold shareB
  rw [partyP_same h]
/-! ### no more unlike lists of barges than there are -/
theorem sub_len {α : Type} [DecidableEq α] : ∀ {xs ys : List α}, xs.Nodup → (∀ x ∈ xs, x ∈ ys) → xs.length ≤ ys.length
  | [], _, _, _ => Nat.zero_le _
  | x :: xs, ys, h, s => by
    obtain ⟨h1, h2⟩ := List.nodup_cons.mp h
    have hx := s x (by simp)
    have ih := sub_len (ys := ys.erase x) h2 fun y hy => by
      have ne : y ≠ x := fun e => h1 (e ▸ hy)
      exact (List.mem_erase_of_ne ne).mpr (s y (by simp [hy]))
    rw [List.length_erase_of_mem hx] at ih
    have := List.length_pos_of_mem hx
    show xs.length + 1 ≤ ys.length
    omega
/-- the rising lists of numbers from m on, below m + n -/
def subsN (m : Nat) : Nat → List (List Nat)
  | 0 => [[]]
  | n + 1 => subsN (m + 1) n ++ (subsN (m + 1) n).map (m :: ·)
theorem subsN_len : ∀ (n m : Nat), (subsN m n).length = 2 ^ n
  | 0, _ => rfl
  | n + 1, m => by
    unfold subsN
    rw [List.length_append, List.length_map, subsN_len n (m + 1), Nat.pow_succ]
    omega
theorem subsN_mem : ∀ {n m : Nat} {ns : List Nat}, ns.Pairwise (· < ·) → (∀ x ∈ ns, m ≤ x ∧ x < m + n) → ns ∈ subsN m n
  | 0, m, ns, _, h => by
    cases ns with
    | nil => exact List.mem_singleton.mpr rfl
    | cons x ns => have := h x (by simp); omega
  | n + 1, m, ns, p, h => by
    unfold subsN
    rw [List.mem_append]
    cases ns with
    | nil => exact .inl (subsN_mem .nil fun x hx => absurd hx (by simp))
    | cons x ns =>
      obtain ⟨p1, p2⟩ := List.pairwise_cons.mp p
      have hx := h x (by simp)
      have rest : ∀ y ∈ ns, m + 1 ≤ y ∧ y < m + 1 + n := fun y hy => by
        have := p1 y hy
        have := h y (by simp [hy])
        omega
      by_cases c : x = m
      · subst c
        exact .inr (List.mem_map.mpr ⟨ns, subsN_mem p2 rest, rfl⟩)
      · refine .inl (subsN_mem p fun y hy => ?_)
        rcases List.mem_cons.mp hy with rfl | hy
        · omega
        · exact rest y hy
/-! ### the dict of what is shared -/
abbrev keyN (ns : List Nat) : List L2.Key := ns.map fun n : Nat => (Sum.inl (n : Int) : L2.Key)
theorem keyN_kV (ns : List Nat) : (keyN ns).map kV = natsV ns := by
  unfold keyN natsV
  rw [List.map_map]
  rfl
theorem keyN_inj {ns ms : List Nat} (h : keyN ns = keyN ms) : ns = ms := by
  induction ns generalizing ms with
  | nil =>
    cases ms with
    | nil => rfl
    | cons m ms => cases h
  | cons n ns ih =>
    cases ms with
    | nil => cases h
    | cons m ms =>
      have h1 : (Sum.inl (n : Int) : L2.Key) = Sum.inl (m : Int) := (List.cons.inj h).1
      have h2 := Sum.inl.inj h1
      rw [ih (List.cons.inj h).2, show n = m by omega]
/-- what is kept is so -/
structure KvsOk (k : Book) (kvs : List (List L2.Key × V)) : Prop where
  nd : (kvs.map (·.1)).Nodup
  ok : ∀ p ∈ kvs, ∃ ns : List Nat, p.1 = keyN ns ∧ ns.Pairwise (· < ·) ∧ (∀ n ∈ ns, n < k.bs.length) ∧ p.2 = .bl (shareB k ns)
theorem KvsOk.nil (k : Book) : KvsOk k [] := ⟨.nil, fun _ h => absurd h (by simp)⟩
theorem KvsOk.len {k : Book} {kvs : List (List L2.Key × V)} (h : KvsOk k kvs) (n7 : k.bs.length ≤ 7) : kvs.length ≤ 128 := by
  have h1 := sub_len (ys := (subsN 0 k.bs.length).map keyN) h.nd fun x hx => by
    obtain ⟨p, hp, rfl⟩ := List.mem_map.mp hx
    obtain ⟨ns, e, p1, p2, _⟩ := h.ok p hp
    exact List.mem_map.mpr ⟨ns, subsN_mem p1 fun x hx => ⟨Nat.zero_le _, by have := p2 x hx; omega⟩, e.symm⟩
  rw [List.length_map, List.length_map, subsN_len] at h1
  have h2 : 2 ^ k.bs.length ≤ 2 ^ 7 := Nat.pow_le_pow_right (by decide) n7
  exact Nat.le_trans h1 h2
theorem KvsOk.get {k : Book} {kvs : List (List L2.Key × V)} (h : KvsOk k kvs) {ns : List Nat} {x : V} (e : valV kvs (keyN ns) = some x) : x = .bl (shareB k ns) := by
  unfold valV at e
  cases f : kvs.find? (fun kv => decide (kv.1 = keyN ns)) with
  | none => rw [f] at e; cases e
  | some p =>
    rw [f] at e
    have hp := List.mem_of_find?_eq_some f
    have he := of_decide_eq_true (List.find?_some (p := fun kv : List L2.Key × V => decide (kv.1 = keyN ns)) f)
    obtain ⟨ms, e1, _, _, e2⟩ := h.ok p hp
    have e3 : ms = ns := keyN_inj (e1.symm.trans he)
    have e4 : p.2 = x := Option.some.inj e
    rw [← e4, e2, e3]
theorem KvsOk.put {k : Book} {kvs : List (List L2.Key × V)} (h : KvsOk k kvs) {ns : List Nat} (e : valV kvs (keyN ns) = none) (p1 : ns.Pairwise (· < ·)) (p2 : ∀ n ∈ ns, n < k.bs.length) :
    KvsOk k (putK kvs (keyN ns) (.bl (shareB k ns))) ∧ valV (putK kvs (keyN ns) (.bl (shareB k ns))) (keyN ns) = some (.bl (shareB k ns)) := by
  have hn : ∀ p ∈ kvs, p.1 ≠ keyN ns := fun p hp z => by
    unfold valV at e
    cases f : kvs.find? (fun kv => decide (kv.1 = keyN ns)) with
    | none => exact absurd (decide_eq_true z) (List.find?_eq_none.mp f p hp)
    | some q => rw [f] at e; cases e
  have ea : putK kvs (keyN ns) (V.bl (shareB k ns)) = kvs ++ [(keyN ns, V.bl (shareB k ns))] := by
    unfold putK
    rw [if_neg]
    intro z
    obtain ⟨p, hp, hz⟩ := List.any_eq_true.mp z
    exact hn p hp (of_decide_eq_true hz)
  rw [ea]
  refine ⟨⟨?_, fun p hp => ?_⟩, ?_⟩
  · rw [List.map_append]
    refine List.nodup_append.mpr ⟨h.nd, by simp, fun x hx y hy z => ?_⟩
    obtain ⟨p, hp, rfl⟩ := List.mem_map.mp hx
    exact hn p hp (z.trans (List.mem_singleton.mp hy))
  · rcases List.mem_append.mp hp with hp | hp
    · exact h.ok p hp
    · rw [List.mem_singleton.mp hp]
      exact ⟨ns, rfl, p1, p2, rfl⟩
  · unfold valV
    rw [List.find?_append, List.find?_eq_none.mpr fun p hp => by simpa using hn p hp]
    simp
/-! ### the object that keeps them -/
def IsNums (H : Hp) (u : V) (ns : List Int) : Prop := ∃ l, u = .ref l ∧ H l = some (.lst (ns.map V.int))
def IsCho (K : PySem.W.Frag) (C : Addr) (H : Hp) (a sd : Addr) (k : Book) (now : Int) : Prop :=
  ∃ (dx : Addr) (v : V) (wl al : Addr) (ws as : List V) (kvs : List (List L2.Key × V)),
    H a = some (.ins C dx [("book", v), ("waits", .ref wl), ("alone", .ref al), ("sharing", .ref sd)]) ∧ IsBook K H v k ∧
    H wl = some (.lst ws) ∧ Paired (IsNums H) ws ((List.range k.bs.length).map (waitRow k)) ∧
    H al = some (.lst as) ∧ Paired (IsNums H) as ((List.range k.bs.length).map (fitsL k now)) ∧
    H sd = some (.dT kvs) ∧ KvsOk k kvs
theorem Ext.nums {ex : List Addr} {H H1 : Hp} (e : Ext ex H H1) (n : ∀ b ∈ ex, ∀ xs, H b ≠ some (.lst xs)) {u : V} {ns : List Int} (h : IsNums H u ns) : IsNums H1 u ns := let ⟨l, z, hl⟩ := h; ⟨l, z, e.lst l _ (fun q => n l q _ hl) hl⟩
theorem Ext.ins {ex : List Addr} {H H1 : Hp} (e : Ext ex H H1) {a C dx : Addr} {fs : List (Str × V)} (n : a ∉ ex) (h : H a = some (.ins C dx fs)) : H1 a = some (.ins C dx fs) := e.oth a _ n (fun ps z => by cases z) h
theorem Ext.dT {ex : List Addr} {H H1 : Hp} (e : Ext ex H H1) {a : Addr} {kvs : List (List L2.Key × V)} (n : a ∉ ex) (h : H a = some (.dT kvs)) : H1 a = some (.dT kvs) := e.oth a _ n (fun ps z => by cases z) h
theorem Ext.cho {H H1 : Hp} {K : PySem.W.Frag} {C a sd : Addr} {k : Book} {now : Int} (e : Ext [] H H1) (h : IsCho K C H a sd k now) : IsCho K C H1 a sd k now :=
  let ⟨dx, v, wl, al, ws, as, kvs, h1, h2, h3, h4, h5, h6, h7, h8⟩ := h
  ⟨dx, v, wl, al, ws, as, kvs, e.ins (by simp) h1, e.book h2, e.lst _ _ (by simp) h3, Paired.mapP h4 fun _ _ z => e.nums (by simp) z, e.lst _ _ (by simp) h5, Paired.mapP h6 fun _ _ z => e.nums (by simp) z, e.dT (by simp) h7, h8⟩
/-- the dict is written -/
theorem Ext.wrD {ex : List Addr} {H : Hp} {D : Addr} {kvs kvs' : List (List L2.Key × V)} (hD : D ∈ ex) (h : H D = some (.dT kvs)) : Ext ex H (upd H D (.dT kvs')) where
  tup := fun b xs e => by rw [upd_ne (ne_of e h (by intro z; cases z))]; exact e
  frz := fun b o u e => by rw [upd_ne (ne_of e h (by intro z; cases z))]; exact e
  tbl := fun b ps e t => ⟨ps, by rw [upd_ne (ne_of e h (by intro z; cases z))]; exact e, t⟩
  lst := fun b xs n e => by rw [upd_ne (fun z => n (by rw [z]; exact hD))]; exact e
  oth := fun b u n _ e => by rw [upd_ne (fun z => n (by rw [z]; exact hD))]; exact e
  dom := fun b e => by
    by_cases hb : b = D
    · rw [hb, upd_same] at e; cases e
    · rw [upd_ne hb] at e; exact e
theorem IsCho.put {H : Hp} {K : PySem.W.Frag} {C a sd : Addr} {k : Book} {now : Int} (h : IsCho K C H a sd k now) {kvs : List (List L2.Key × V)} (hk : KvsOk k kvs) : Ext [sd] H (upd H sd (.dT kvs)) ∧ IsCho K C (upd H sd (.dT kvs)) a sd k now := by
  obtain ⟨dx, v, wl, al, ws, as, kvs0, h1, h2, h3, h4, h5, h6, h7, h8⟩ := h
  have e : Ext [sd] H (upd H sd (.dT kvs)) := Ext.wrD (by simp) h7
  have nl : ∀ b ∈ [sd], ∀ xs, H b ≠ some (.lst xs) := fun b hb xs z => by
    rw [List.mem_singleton.mp hb, h7] at z
    cases z
  have nm : ∀ {b : Addr} {o : HO}, H b = some o → (∀ kvs, o ≠ .dT kvs) → b ∉ [sd] := fun {b o} hb n z => by
    rw [List.mem_singleton.mp z, h7] at hb
    exact n _ (Option.some.inj hb).symm
  exact ⟨e, dx, v, wl, al, ws, as, kvs, e.ins (nm h1 (fun _ z => by cases z)) h1, e.book h2, e.lst _ _ (nm h3 (fun _ z => by cases z)) h3, Paired.mapP h4 fun _ _ z => e.nums nl z, e.lst _ _ (nm h5 (fun _ z => by cases z)) h5, Paired.mapP h6 fun _ _ z => e.nums nl z, upd_same, hk⟩
/-- the object's attributes are written -/
theorem Ext.wrI {ex : List Addr} {H : Hp} {D C dx : Addr} {fs fs' : List (Str × V)} (hD : D ∈ ex) (h : H D = some (.ins C dx fs)) : Ext ex H (upd H D (.ins C dx fs')) where
  tup := fun b xs e => by rw [upd_ne (ne_of e h (by intro z; cases z))]; exact e
  frz := fun b o u e => by rw [upd_ne (ne_of e h (by intro z; cases z))]; exact e
  tbl := fun b ps e t => ⟨ps, by rw [upd_ne (ne_of e h (by intro z; cases z))]; exact e, t⟩
  lst := fun b xs n e => by rw [upd_ne (fun z => n (by rw [z]; exact hD))]; exact e
  oth := fun b u n _ e => by rw [upd_ne (fun z => n (by rw [z]; exact hD))]; exact e
  dom := fun b e => by
    by_cases hb : b = D
    · rw [hb, upd_same] at e; cases e
    · rw [upd_ne hb] at e; exact e
theorem put_waits {v w : V} : putF "waits" w [("book", v)] = ([("book", v), ("waits", w)] : List (Str × V)) := by
  unfold putF
  rw [if_neg (by decide +kernel)]
  rfl
theorem put_alone {v w x : V} : putF "alone" x [("book", v), ("waits", w)] = ([("book", v), ("waits", w), ("alone", x)] : List (Str × V)) := by
  unfold putF
  rw [if_neg (by decide +kernel)]
  unfold putF
  rw [if_neg (by decide +kernel)]
  rfl
theorem put_sharing {v w x y : V} : putF "sharing" y [("book", v), ("waits", w), ("alone", x)] = ([("book", v), ("waits", w), ("alone", x), ("sharing", y)] : List (Str × V)) := by
  unfold putF
  rw [if_neg (by decide +kernel)]
  unfold putF
  rw [if_neg (by decide +kernel)]
  unfold putF
  rw [if_neg (by decide +kernel)]
  rfl
/-- lists of whole numbers, none of which is the list at W -/
def IsNumsO (W : Addr) (H : Hp) (u : V) (ns : List Int) : Prop := ∃ l, u = .ref l ∧ l ≠ W ∧ H l = some (.lst (ns.map V.int))
theorem Ext.numsO {W : Addr} {H H1 : Hp} (e : Ext [W] H H1) {u : V} {ns : List Int} (h : IsNumsO W H u ns) : IsNumsO W H1 u ns := let ⟨l, z, n, hl⟩ := h; ⟨l, z, n, e.lst l _ (by simpa using n) hl⟩
theorem IsNumsO.to {W : Addr} {H : Hp} {u : V} {ns : List Int} (h : IsNumsO W H u ns) : IsNums H u ns := let ⟨l, z, _, hl⟩ := h; ⟨l, z, hl⟩
theorem range_snoc {α : Type} (f : Nat → α) (i : Nat) : (List.range (i + 1)).map f = (List.range i).map f ++ [f i] := by
  rw [List.range_succ, List.map_append]
  rfl
theorem list_empty {K : PySem.W.Frag} {H : Hp} {p : Addr} {rs : List Row} (h : IsList K H p rs) : ∃ us, H p = some (.lst us) ∧ us.isEmpty = rs.isEmpty := by
  obtain ⟨us, h1, h2⟩ := h
  refine ⟨us, h1, ?_⟩
  have l := plen h2
  cases us with
  | nil => cases rs with
    | nil => rfl
    | cons => cases l
  | cons => cases rs with
    | nil => cases l
    | cons => rfl
theorem filter_take {α : Type} {f : α → Bool} {xs : List α} {i : Nat} {x : α} (h : xs[i]? = some x) : (xs.take (i + 1)).filter f = (xs.take i).filter f ++ (if f x = true then [x] else []) := by
  rw [List.take_add_one, h, List.filter_append]
  congr 1
  show [x].filter f = _
  by_cases c : f x = true
  · rw [if_pos c, List.filter_cons_of_pos c]
    rfl
  · rw [if_neg c, List.filter_cons_of_neg c]
    rfl
theorem Ext.bornIn {ex : List Addr} {H H1 H2 : Hp} {D : Addr} (e : Ext ex H H1) (hD : H D = none) (f : Ext [D] H1 H2) : Ext ex H H2 where
  tup := fun b xs z => f.tup b xs (e.tup b xs z)
  frz := fun b o u z => f.frz b o u (e.frz b o u z)
  tbl := fun b ps z t => let ⟨ps', z', t'⟩ := e.tbl b ps z t; f.tbl b ps' z' t'
  lst := fun b xs n z => f.lst b xs (by simp; exact ne_of_none z hD) (e.lst b xs n z)
  oth := fun b u n t z => f.oth b u (by simp; exact ne_of_none z hD) t (e.oth b u n t z)
  dom := fun b z => e.dom b (f.dom b z)
theorem lt1 {a b : Nat} (h : a + 64 < b) : a + 1 < b := by omega
theorem tupG_rng {P : Addr} {n : Nat} {g : TG} {tt : TT} {te : TE} {vs : List Nat} {σ : L2.St} {H1 : Hp} {Q : VK} (hT : TabG H1 P) (Pv : Nat → List V → Hp → Prop) (h0 : ∀ H2, Tabbed P H1 H2 → Pv 0 [] H2)
    (hs : ∀ i z H, i < n → Pv i z H → g (.int (0 + (i : Int))) (wipe σ vs) H fun σ2 H2 => wipe σ2 vs = wipe σ vs ∧ tt σ2 H2 fun b H3 => if b = true then te σ2 H3 fun y H4 => z.length < sizeLine ∧ Pv (i + 1) (z ++ [y]) H4 else Pv (i + 1) z H3)
    (hd : ∀ z H, Pv n z H → z.length ≤ sizeLine ∧ ∀ p, H p = none → Q (.ref p) (upd H p (.tup z))) : tTupG P (fun σ H R => R (Itr 0 n) H) g tt te vs σ H1 Q := by
  refine ⟨hT, fun H2 hb => ⟨fun i m z H => m = n - i ∧ i ≤ n ∧ Pv i z H, ⟨n, by simp, Nat.zero_le _, h0 H2 hb⟩, ?_⟩⟩
  rintro i m z H ⟨rfl, hi, p⟩
  by_cases hlt : i < n
  · refine .inr ⟨hlt, fun z' H' => Pv (i + 1) z' H', fun z' H' p' => ⟨n - (i + 1), by omega, rfl, hlt, p'⟩, fun x H' y => ?_⟩
    obtain ⟨e, y⟩ := y
    subst e y
    exact hs i z _ hlt p
  · have e : i = n := by omega
    subst e
    exact .inl ⟨Nat.le_refl _, hd z H p⟩
/-- a rising arrangement of unlike numbers -/
theorem sort_nats {ns : List Nat} {zs : List Int} (p : zs.Perm (ns.map fun n : Nat => (n : Int))) (w : zs.Pairwise (· ≤ ·)) (nd : ns.Nodup) : ∃ ms : List Nat, zs = ms.map (fun n : Nat => (n : Int)) ∧ ms.Pairwise (· < ·) ∧ ∀ i, i ∈ ms ↔ i ∈ ns := by
  have e : (zs.map Int.toNat).map (fun n : Nat => (n : Int)) = zs := by
    rw [List.map_map]
    have : ∀ z ∈ zs, ((fun n : Nat => (n : Int)) ∘ Int.toNat) z = id z := fun z hz => by
      obtain ⟨n, _, rfl⟩ := List.mem_map.mp (p.mem_iff.mp hz)
      rfl
    rw [List.map_congr_left this, List.map_id]
  have p2 : (zs.map Int.toNat).Perm ns := by
    have := p.map Int.toNat
    rw [List.map_map] at this
    have e2 : ns.map (Int.toNat ∘ fun n : Nat => (n : Int)) = ns := by
      have : ∀ n ∈ ns, (Int.toNat ∘ fun n : Nat => (n : Int)) n = id n := fun n _ => rfl
      rw [List.map_congr_left this, List.map_id]
    rw [e2] at this
    exact this
  refine ⟨zs.map Int.toNat, e.symm, ?_, fun i => p2.mem_iff⟩
  have nd2 : (zs.map Int.toNat).Nodup := p2.nodup_iff.mpr nd
  have w2 : (zs.map Int.toNat).Pairwise (· ≤ ·) := List.pairwise_map.mpr (w.imp fun h => by omega)
  have both := List.pairwise_and_iff.mpr ⟨w2, nd2⟩
  exact both.imp fun h => by omega
theorem natsV_int (ns : List Nat) : (ns.map fun n : Nat => (n : Int)).map V.int = natsV ns := by
  rw [List.map_map]
  rfl
theorem tupG_range {P : Addr} {n : Nat} {ta : TA} {g : TG} {tt : TT} {te : TE} {vs : List Nat} {σ : L2.St} {H1 : Hp} {Q : VK} (hta : ∀ K : List V → Hp → Prop, K [.int (n : Int)] H1 → ta σ H1 K) (hn : n ≤ 1000) (hT : TabG H1 P) (Pv : Nat → List V → Hp → Prop) (h0 : ∀ H2, Tabbed P H1 H2 → Pv 0 [] H2)
    (hs : ∀ i z H, i < n → Pv i z H → g (.int (0 + (i : Int))) (wipe σ vs) H fun σ2 H2 => wipe σ2 vs = wipe σ vs ∧ tt σ2 H2 fun b H3 => if b = true then te σ2 H3 fun y H4 => z.length < sizeLine ∧ Pv (i + 1) (z ++ [y]) H4 else Pv (i + 1) z H3)
    (hd : ∀ z H, Pv n z H → z.length ≤ sizeLine ∧ ∀ p, H p = none → Q (.ref p) (upd H p (.tup z))) : tTupG P (iRng1 ta) g tt te vs σ H1 Q :=
  hta _ ⟨(n : Int), rfl, by omega, by omega, tupG_rng (n := n) hT Pv h0 hs hd⟩
theorem inV_nats2 (i : Nat) (xs : List Nat) : inV (.int (i : Int)) (natsV xs) = decide (i ∈ xs) := by
  rw [Bool.eq_iff_iff, decide_eq_true_eq]
  unfold inV natsV
  rw [List.any_map, List.any_eq_true]
  constructor
  · rintro ⟨x, hx, e⟩
    have e2 : eqV (V.int (x : Int)) (V.int (i : Int)) = true := e
    have : (x : Int) = (i : Int) := by simpa [eqV] using e2
    have : x = i := by omega
    rw [← this]
    exact hx
  · intro h
    exact ⟨i, h, by show eqV (V.int (i : Int)) (V.int (i : Int)) = true; simp [eqV]⟩
theorem flat_nats2 (xs : List Nat) : (natsV xs).all flatV = true := by
  rw [List.all_eq_true]
  intro y hy
  obtain ⟨o, _, rfl⟩ := List.mem_map.mp hy
  rfl
theorem partyP_succ (i : Nat) (ms : List Nat) : (partyP (i + 1) ms).map oV = (partyP i ms).map oV ++ [oV (if i ∈ ms then some 0 else none)] := by
  unfold partyP
  rw [range_snoc, List.map_append]
  rfl
theorem pe_fldK {X : Cx} {e : Expr} {f : Str} {pos : Pos} {ta : TE} (K : PySem.W.Frag) (hk : X.K = K) (he : PE X e ta) (hb : attributeBase e f X.env (eval e X.env) = eval e X.env) : PE X (.Attribute e f pos) (tFld K ta f) := by
  subst hk
  exact pe_fld he hb
/-- the dict holds what is so -/
def SdOk (k : Book) (H : Hp) (sd : Addr) : Prop := ∃ kvs, H sd = some (.dT kvs) ∧ KvsOk k kvs
theorem IsCho.step {K : PySem.W.Frag} {C a sd : Addr} {H H1 : Hp} {k : Book} {now : Int} {ex : List Addr} (h : IsCho K C H a sd k now) (e : Ext ex H H1) (n : ∀ b ∈ ex, b = sd ∨ H b = none) (hd : SdOk k H1 sd) : IsCho K C H1 a sd k now := by
  obtain ⟨dx, v, wl, al, ws, as, kvs0, h1, h2, h3, h4, h5, h6, h7, h8⟩ := h
  obtain ⟨kvs, hk, ok⟩ := hd
  have nm : ∀ {b : Addr} {o : HO}, H b = some o → (∀ kvs, o ≠ .dT kvs) → b ∉ ex := fun {b o} hb q z => by
    rcases n b z with rfl | z
    · rw [h7] at hb
      exact q _ (Option.some.inj hb).symm
    · rw [z] at hb
      cases hb
  have nl : ∀ b ∈ ex, ∀ xs, H b ≠ some (.lst xs) := fun b hb xs z => nm z (fun _ q => by cases q) hb
  exact ⟨dx, v, wl, al, ws, as, kvs, e.ins (nm h1 (fun _ z => by cases z)) h1, e.book h2, e.lst _ _ (nm h3 (fun _ z => by cases z)) h3, Paired.mapP h4 fun _ _ z => e.nums nl z, e.lst _ _ (nm h5 (fun _ z => by cases z)) h5, Paired.mapP h6 fun _ _ z => e.nums nl z, hk, ok⟩
theorem IsCho.sd {K : PySem.W.Frag} {C a sd : Addr} {H : Hp} {k : Book} {now : Int} (h : IsCho K C H a sd k now) : SdOk k H sd := let ⟨_, _, _, _, _, _, kvs, _, _, _, _, _, _, h7, h8⟩ := h; ⟨kvs, h7, h8⟩
theorem Ext.forget {ex : List Addr} {H H1 : Hp} {T : Addr} (e : Ext (T :: ex) H H1) (hT : H T = none) : Ext ex H H1 where
  tup := e.tup
  frz := e.frz
  tbl := e.tbl
  lst := fun b xs n z => e.lst b xs (by simp; exact ⟨ne_of_none z hT, n⟩) z
  oth := fun b u n t z => e.oth b u (by simp; exact ⟨ne_of_none z hT, n⟩) t z
  dom := e.dom
/-- by an hour a barge makes a plan better than a worth, and goes with that tow -/
def betterB (k : Book) (pl : List (Option Int)) (i : Nat) (w1 w2 : Int) (h : Int) : Bool :=
  HT.lexLt [((hoursL pl).length : Int) + (if some h ∈ pl then 0 else 1), (waitsN k pl pl.length).sum + waitB k i h] [w1, w2] && shareB k (memN pl h pl.length ++ [i])
def betterL (k : Book) (now : Int) (pl : List (Option Int)) (i : Nat) (w1 w2 : Int) : List Int := (fitsL k now i).filter (betterB k pl i w1 w2)
theorem fits_at {k : Book} {now : Int} {i : Nat} {H : Hp} {as : List V} (hi : i < k.bs.length) (pa : Paired (IsNums H) as ((List.range k.bs.length).map (fitsL k now))) : ∃ l, as[i]? = some (.ref l) ∧ H l = some (.lst ((fitsL k now i).map V.int)) := by
  have h1 : ((List.range k.bs.length).map (fitsL k now))[i]? = some (fitsL k now i) := by rw [List.getElem?_map, List.getElem?_range hi]; rfl
  obtain ⟨x, hx, l, rfl, hl⟩ := pgetR pa h1
  exact ⟨l, hx, hl⟩
theorem fitsL_mem {k : Book} {now : Int} {i : Nat} {h : Int} (hh : h ∈ fitsL k now i) : 0 ≤ h ∧ h < 12 := by
  have := hoursF_mem.mp (List.mem_filter.mp hh).1
  omega
theorem memN_nodup {pl : List (Option Int)} {h : Int} : ∀ n, (memN pl h n).Nodup
  | 0 => .nil
  | n + 1 => by
    rw [memN_succ]
    refine List.nodup_append.mpr ⟨memN_nodup n, by split <;> simp, fun x hx y hy z => ?_⟩
    have := memN_lt hx
    split at hy
    · rw [List.mem_singleton.mp hy] at z
      omega
    · cases hy
theorem memN_of {pl : List (Option Int)} {h : Int} : ∀ {n x : Nat}, x ∈ memN pl h n → pl.getD x none = some h
  | 0, _, z => by cases z
  | n + 1, x, z => by
    rw [memN_succ] at z
    rcases List.mem_append.mp z with z | z
    · exact memN_of z
    · split at z
      · rename_i c
        rw [List.mem_singleton.mp z]
        exact c
      · cases z
theorem ifC {c : Prop} [Decidable c] {x y : V} {σ : L2.St} {H : Hp} {Q : VK} (h : Q (if c then x else y) H) : if decide c = true then tC x σ H Q else tC y σ H Q := by
  by_cases e : c
  · rw [if_pos e] at h
    exact iteD e h
  · rw [if_neg e] at h
    exact iteDn e h
theorem ifInt {c : Prop} [Decidable c] {x y : Int} : (if c then V.int x else V.int y) = .int (if c then x else y) := by
  split <;> rfl
/-! ### t >= u of pairs of whole numbers -/
def rGeT (K : PySem.W.Frag) : R2 := fun x y H Q => ∃ (a b : Addr) (n1 n2 m1 m2 : Int), x = .ref a ∧ y = .ref b ∧ SqT K H a [.int n1, .int n2] ∧ SqT K H b [.int m1, .int m2] ∧ Q (.bl (!HT.lexLt [n1, n2] [m1, m2])) H
theorem lexGe2 (n1 n2 m1 m2 : Int) : Ob.lexAt (fun j => decide ([n1, n2].getD j 0 = [m1, m2].getD j 0)) (fun j => decide ([m1, m2].getD j 0 ≤ [n1, n2].getD j 0)) true 0 2 = !HT.lexLt [n1, n2] [m1, m2] := by
  rw [Ob.lexAt_succ, Ob.lexAt_succ, Ob.lexAt_zero]
  simp only [HT.lexLt, List.getD_cons_zero, List.getD_cons_succ]
  by_cases h1 : n1 = m1
  · by_cases h2 : n2 = m2
    · simp [h1, h2]
    · by_cases h3 : n2 < m2
      · have : ¬ m2 ≤ n2 := by omega
        simp [h1, h2, h3, this]
      · have : m2 ≤ n2 := by omega
        simp [h1, h2, h3, this]
  · by_cases h3 : n1 < m1
    · have : ¬ m1 ≤ n1 := by omega
      simp [h1, h3, this]
    · have : m1 ≤ n1 := by omega
      simp [h1, h3, this]
theorem op_geT {X : Cx} (hu : X.A.units < cLine) : OpR X (compareOp .GtE) (rGeT X.K) := by
  intro pins s σ H x y v u Q I rx ry h
  obtain ⟨a, b, n1, n2, m1, m2, rfl, rfl, ha, hb, q⟩ := h
  cases rx
  cases ry
  obtain ⟨its, r1, p1, _⟩ := I.tuple ha
  obtain ⟨its2, r2, p2, _⟩ := I.tuple hb
  have i1 : IntsAre its [n1, n2] := Vals.ints (ns := [n1, n2]) r1
  have i2 : IntsAre its2 [m1, m2] := Vals.ints (ns := [m1, m2]) r2
  have e1 : its.toArray.size = 2 := by rw [List.size_toArray]; exact i1.length
  have e2 : its2.toArray.size = 2 := by rw [List.size_toArray]; exact i2.length
  have at1 : ∀ j (h1 : j < its.toArray.size), ∃ t, its.toArray[j] = .int ([n1, n2].getD j 0) t := fun j h1 => PyProof.Rows.IntsAre.int_at i1 _ _ (by simp at h1; simp [h1])
  have at2 : ∀ j (h1 : j < its2.toArray.size), ∃ t, its2.toArray[j] = .int ([m1, m2].getD j 0) t := fun j h1 => PyProof.Rows.IntsAre.int_at i2 _ _ (by simp at h1; simp [h1])
  have R := Ob.RcOp.tuples_ge (A := X.A) (s := s) (e := fun j => decide ([n1, n2].getD j 0 = [m1, m2].getD j 0)) (r := fun j => decide ([m1, m2].getD j 0 ≤ [n1, n2].getD j 0)) p1 p2 hu (fun j h1 h2 => by
    obtain ⟨t, et⟩ := at1 j h1
    obtain ⟨t', et'⟩ := at2 j h2
    rw [et, et']
    have z : ([n1, n2].getD j 0 == [m1, m2].getD j 0) = decide ([n1, n2].getD j 0 = [m1, m2].getD j 0) := by
      by_cases q : [n1, n2].getD j 0 = [m1, m2].getD j 0
      · rw [decide_eq_true q]; exact beq_iff_eq.mpr q
      · rw [decide_eq_false q]; exact beq_eq_false_iff_ne.mpr q
    rw [← z]
    exact SeqAt.EqAt.int_int _ _ _ _) (fun j h1 h2 _ => by
    obtain ⟨t, et⟩ := at1 j h1
    obtain ⟨t', et'⟩ := at2 j h2
    rw [et, et']
    exact Ob.RcOp.ge_int _ _ _ _)
  rw [e1, e2] at R
  have e : Ob.lexAt (fun j => decide ([n1, n2].getD j 0 = [m1, m2].getD j 0)) (fun j => decide ([m1, m2].getD j 0 ≤ [n1, n2].getD j 0)) (decide (2 ≥ 2)) 0 (min 2 2) = !HT.lexLt [n1, n2] [m1, m2] := lexGe2 n1 n2 m1 m2
  rw [e] at R
  exact R _ _ _ _ ⟨.bl (!HT.lexLt [n1, n2] [m1, m2]), H, I, rfl, q⟩
/-! ### tables of cases as data -/
/-- the number of a barge without an hour -/
def openB (pl : List (Option Int)) (b : Int) : Bool := decide (0 ≤ b) && decide (b ≤ (pl.length : Int) - 1) && decide (pl.getD b.toNat none = none)
def doneD : PyData := .tuple [.str "done"]
/-- tables, and tables with something in them another -/
def TabD : Nat → PyData → Prop
  | 0, _ => False
  | n + 1, d => (∃ s, d = .tuple [.str s]) ∨ d = .tuple [] ∨ (∃ s b, d = .tuple [.str s, .int b]) ∨ (∃ s b rs z, d = .tuple [.str s, .int b, .tuple rs, .int z]) ∨
      ∃ s b rs, d = .tuple [.str s, .int b, .tuple rs] ∧ rs.length ≤ 1000 ∧ ∀ r ∈ rs, (∃ j, r = .int j) ∨ ∃ h e, r = .tuple [.int h, e] ∧ TabD n e
/-- whether a table shows that no plan on from one is better than a worth -/
def showsR (k : Book) (now w1 w2 : Int) : Nat → List (Option Int) → PyData → Bool
  | 0, _, _ => false
  | n + 1, pl, d =>
    if PyData.eqv d doneD = true then !decide (none ∈ pl) && !HT.lexLt [((hoursL pl).length : Int), (waitsN k pl pl.length).sum] [w1, w2]
    else match d with
      | .tuple [.str s, .int b, .tuple rs] => decide (s = "cases") && openB pl b && decide (rs.length = (betterL k now pl b.toNat w1 w2).length) &&
          ((betterL k now pl b.toNat w1 w2).zip rs).all fun p => match p.2 with
            | .tuple [.int g, e] => decide (g = p.1) && showsR k now w1 w2 n (putP pl b.toNat p.1) e
            | _ => false
      | _ => false
end GD

namespace GD
open PySem PySem.Spec PyProof.Rows L2 GxR GX GS GT GC
/-! ### a good plan with one more hour -/
theorem putP_get {pl : List (Option Int)} {i : Nat} {h : Int} (hi : i < pl.length) (j : Nat) : (putP pl i h)[j]? = if j = i then some (some h) else pl[j]? := by
  unfold putP
  have lt : (pl.take i).length = i := by rw [List.length_take]; omega
  by_cases c : j < i
  · rw [if_neg (by omega), List.append_assoc, List.getElem?_append_left (by omega), List.getElem?_take_of_lt c]
  · by_cases c2 : j = i
    · subst c2
      rw [if_pos rfl, List.append_assoc, List.getElem?_append_right (by omega), lt, Nat.sub_self]
      rfl
    · rw [if_neg c2, List.append_assoc, List.getElem?_append_right (by omega), lt, List.getElem?_append_right (by simp; omega), List.getElem?_drop]
      rw [show i + 1 + (j - i - [some h].length) = j by simp; omega]
theorem pairs_mem {k : Book} {pl : List (Option Int)} {p : Pr} (hp : p ∈ pairs k pl) : ∃ i : Nat, i < pl.length ∧ pl[i]? = some p.1 ∧ k.bs[i]? = some p.2 := by
  obtain ⟨i, hi, e⟩ := List.mem_iff_getElem.mp hp
  have e2 : (pairs k pl)[i]? = some p := by rw [List.getElem?_eq_getElem hi, e]
  unfold pairs at e2
  rw [List.getElem?_zip_eq_some] at e2
  exact ⟨i, (List.getElem?_eq_some_iff.mp e2.1).1, e2.1, e2.2⟩
theorem full_iff {k : Book} {pl : List (Option Int)} (ok : k.Ok) (okp : PlOk k.bs.length pl) : fullA k pl = [] ↔ ∀ h s, s < k.rv.length → (cntP (pairs k pl) h s : Int) ≤ (strN k s).room := by
  have hl : pl.length = k.bs.length := okp.len
  unfold fullA
  constructor
  · intro h2 h s hs
    by_cases hh : h ∈ hoursL pl
    · have h4 := catNil.mp (List.flatMap_eq_nil_iff.mp h2 h hh) s hs
      unfold fullR at h4
      rw [onL_cnt hl] at h4
      by_cases c : (strN k s).room < (cntP (pairs k pl) h s : Int)
      · rw [if_pos c] at h4; cases h4
      · omega
    · have e0 : cntP (pairs k pl) h s = 0 := by
        unfold cntP
        rw [List.countP_eq_zero]
        intro p hp z
        rw [Bool.and_eq_true, decide_eq_true_eq] at z
        obtain ⟨i, hi, a1, _⟩ := pairs_mem hp
        rw [z.1] at a1
        exact hh ((hoursL_mem okp).mpr (List.mem_of_getElem? a1))
      rw [e0]
      have hst : k.rv[s]? = some k.rv[s] := List.getElem?_eq_getElem hs
      rw [strN_of hst]
      have := (ok.rv.ok _ (List.mem_of_getElem? hst)).r1
      omega
  · intro g2
    rw [List.flatMap_eq_nil_iff]
    intro h _
    refine catNil.mpr fun s hs => ?_
    unfold fullR
    rw [onL_cnt hl, if_neg (by have := g2 h s hs; omega)]
theorem cross_iff {k : Book} {pl : List (Option Int)} (okp : PlOk k.bs.length pl) : crossA k pl = [] ↔ ∀ p ∈ pairs k pl, ∀ q ∈ pairs k pl, ∀ h, p.1 = some h → q.1 = some h → ¬ crossed p.2 q.2 := by
  have hl : pl.length = k.bs.length := okp.len
  constructor
  · intro h3 p hp q hq h e1 e2
    obtain ⟨i, hi, a1, a2⟩ := pairs_mem hp
    obtain ⟨j, hj, b1, b2⟩ := pairs_mem hq
    rw [e1] at a1
    rw [e2] at b1
    have h4 := catNil.mp h3 i hi
    rw [crossR_some a1] at h4
    have h5 := catNil.mp h4 j hj
    rw [getD_of b1, if_pos rfl] at h5
    exact (crossO_nil a2 b2).mp h5
  · intro g3
    have getb : ∀ {i : Nat}, i < pl.length → ∃ o b, pl[i]? = some o ∧ k.bs[i]? = some b ∧ (o, b) ∈ pairs k pl := fun {i} hi => by
      have a1 : pl[i]? = some pl[i] := List.getElem?_eq_getElem hi
      have a2 : k.bs[i]? = some (k.bs[i]'(by omega)) := List.getElem?_eq_getElem (by omega)
      exact ⟨_, _, a1, a2, List.mem_of_getElem? (pairs_get a1 a2)⟩
    refine catNil.mpr fun i hi => ?_
    obtain ⟨o, b, a1, a2, hm⟩ := getb hi
    cases o with
    | none => exact crossR_none a1
    | some h =>
      rw [crossR_some a1]
      refine catNil.mpr fun j hj => ?_
      obtain ⟨o2, b2, c1, c2, hm2⟩ := getb hj
      rw [getD_of c1]
      by_cases c : o2 = some h
      · rw [if_pos c]
        exact (crossO_nil a2 c2).mpr (g3 _ hm _ hm2 h rfl c)
      · rw [if_neg c]
theorem cnt_congr {s : Nat} {h1 h2 : Int} : ∀ {f g : List (Option Int)} {bs : List Barge}, f.length = g.length → (∀ j : Nat, f[j]? = some (some h1) ↔ g[j]? = some (some h2)) → cntP (f.zip bs) h1 s = cntP (g.zip bs) h2 s
  | [], [], _, _, _ => rfl
  | [], _ :: _, _, hl, _ => by cases hl
  | _ :: _, [], _, hl, _ => by cases hl
  | a :: f, b :: g, [], _, _ => rfl
  | a :: f, b :: g, c :: bs, hl, hh => by
    have ih := cnt_congr (s := s) (h1 := h1) (h2 := h2) (f := f) (g := g) (bs := bs) (Nat.succ.inj hl) fun j => hh (j + 1)
    have h0 : a = some h1 ↔ b = some h2 := by
      have := hh 0
      simpa using this
    unfold cntP at ih ⊢
    rw [List.zip_cons_cons, List.zip_cons_cons, List.countP_cons, List.countP_cons, ih]
    congr 1
    by_cases c1 : a = some h1
    · rw [decide_eq_true c1, decide_eq_true (h0.mp c1)]
    · rw [decide_eq_false c1, decide_eq_false fun z => c1 (h0.mpr z)]
theorem cnt_zero {s : Nat} {h : Int} {f : List (Option Int)} {bs : List Barge} (hh : ∀ j : Nat, f[j]? ≠ some (some h)) : cntP (f.zip bs) h s = 0 := by
  unfold cntP
  rw [List.countP_eq_zero]
  intro p hp z
  rw [Bool.and_eq_true, decide_eq_true_eq] at z
  obtain ⟨j, hj, e⟩ := List.mem_iff_getElem.mp hp
  have e2 : (f.zip bs)[j]? = some p := by rw [List.getElem?_eq_getElem hj, e]
  rw [List.getElem?_zip_eq_some] at e2
  rw [z.1] at e2
  exact hh j e2.1
theorem partyP_get {n : Nat} {ns : List Nat} {j : Nat} (hj : j < n) : (partyP n ns)[j]? = some (if j ∈ ns then some 0 else none) := by
  unfold partyP
  rw [List.getElem?_map, List.getElem?_range hj]
  rfl
theorem memN_iff {pl : List (Option Int)} {h : Int} : ∀ {n x : Nat}, x ∈ memN pl h n ↔ x < n ∧ pl.getD x none = some h
  | 0, x => ⟨fun z => (by cases z), fun z => absurd z.1 (by omega)⟩
  | n + 1, x => by
    rw [memN_succ, List.mem_append, memN_iff (n := n)]
    constructor
    · rintro (z | z)
      · exact ⟨by omega, z.2⟩
      · split at z
        · rename_i c
          rw [List.mem_singleton.mp z]
          exact ⟨by omega, c⟩
        · cases z
    · rintro ⟨h1, h2⟩
      by_cases c : x = n
      · subst c
        rw [if_pos h2]
        exact .inr (by simp)
      · exact .inl ⟨by omega, h2⟩
theorem empty_iff {α : Type} {xs : List α} : xs.isEmpty = true ↔ xs = [] := List.isEmpty_iff
/-- nothing speaks against a good plan with one more hour just where nothing speaks against it alone and its tow has room for it -/
theorem put_good {k : Book} (ok : k.Ok) {pl : List (Option Int)} (okp : PlOk k.bs.length pl) (good : allR k pl = []) {i : Nat} (hop : pl[i]? = some none) {h : Int} (h0 : 0 ≤ h) (h12 : h < 12) :
    allR k (putP pl i h) = [] ↔ fitB k i h = true ∧ shareB k (memN pl h pl.length ++ [i]) = true := by
  have hl : pl.length = k.bs.length := okp.len
  have hi : i < pl.length := (List.getElem?_eq_some_iff.mp hop).1
  have okq := putP_ok okp hi h0 (by omega : h ≤ 11)
  obtain ⟨b, hb⟩ : ∃ b, k.bs[i]? = some b := ⟨k.bs[i]'(by omega), List.getElem?_eq_getElem (by omega)⟩
  have ns : ∀ j : Nat, j ∈ memN pl h pl.length ++ [i] ↔ j < pl.length ∧ (putP pl i h)[j]? = some (some h) := fun j => by
    rw [List.mem_append, memN_iff, List.mem_singleton, putP_get hi]
    constructor
    · rintro (⟨h1, h2⟩ | rfl)
      · refine ⟨h1, ?_⟩
        by_cases c : j = i
        · rw [if_pos c]
        · rw [if_neg c, List.getElem?_eq_getElem h1]
          rw [List.getD_eq_getElem?_getD, List.getElem?_eq_getElem h1] at h2
          exact congrArg some h2
      · exact ⟨hi, by rw [if_pos rfl]⟩
    · rintro ⟨h1, h2⟩
      by_cases c : j = i
      · exact .inr c
      · rw [if_neg c] at h2
        exact .inl ⟨h1, getD_of h2⟩
  generalize memN pl h pl.length ++ [i] = M at ns ⊢
  have okM := partyP_ok k.bs.length M
  have Mget : ∀ j : Nat, (partyP k.bs.length M)[j]? = some (some 0) ↔ (putP pl i h)[j]? = some (some h) := fun j => by
    by_cases hj : j < k.bs.length
    · rw [partyP_get hj]
      by_cases c : j ∈ M
      · rw [if_pos c]
        exact ⟨fun _ => ((ns j).mp c).2, fun _ => rfl⟩
      · rw [if_neg c]
        exact ⟨fun z => (by cases z), fun z => absurd ((ns j).mpr ⟨by omega, z⟩) c⟩
    · have e1 : (partyP k.bs.length M)[j]? = none := List.getElem?_eq_none (by rw [okM.len]; omega)
      have e2 : (putP pl i h)[j]? = none := List.getElem?_eq_none (by rw [putP_len hi]; omega)
      rw [e1, e2]
      exact ⟨fun z => (by cases z), fun z => (by cases z)⟩
  have other : ∀ h' : Int, h' ≠ h → ∀ j : Nat, (putP pl i h)[j]? = some (some h') ↔ pl[j]? = some (some h') := fun h' hn j => by
    rw [putP_get hi]
    by_cases c : j = i
    · rw [if_pos c, c, hop]
      exact ⟨fun z => absurd (Option.some.inj (Option.some.inj z)).symm hn, fun z => by cases z⟩
    · rw [if_neg c]
  have lq : (putP pl i h).length = (partyP k.bs.length M).length := by rw [putP_len hi, okM.len, hl]
  have g := (good_iff ok okp).mp good
  have share_iff : shareB k M = true ↔ (∀ s, s < k.rv.length → (cntP (pairs k (putP pl i h)) h s : Int) ≤ (strN k s).room) ∧ ∀ p ∈ pairs k (putP pl i h), ∀ q ∈ pairs k (putP pl i h), p.1 = some h → q.1 = some h → ¬ crossed p.2 q.2 := by
    unfold shareB
    rw [Bool.and_eq_true, empty_iff, empty_iff, full_iff ok okM, cross_iff okM]
    refine and_congr ⟨fun z s hs => ?_, fun z h' s hs => ?_⟩ ⟨fun z p hp q hq e1 e2 => ?_, fun z p hp q hq h' e1 e2 => ?_⟩
    · have := z 0 s hs
      unfold pairs at this ⊢
      rw [cnt_congr (h1 := 0) (h2 := h) lq.symm Mget] at this
      exact this
    · by_cases c : h' = 0
      · subst c
        have := z s hs
        unfold pairs at this ⊢
        rw [cnt_congr (h1 := 0) (h2 := h) lq.symm Mget]
        exact this
      · unfold pairs
        rw [cnt_zero fun j e => by
          by_cases hj : j < k.bs.length
          · rw [partyP_get hj] at e
            split at e
            · exact c (Option.some.inj (Option.some.inj e)).symm
            · cases e
          · rw [List.getElem?_eq_none (by rw [okM.len]; omega)] at e
            cases e]
        have hst : k.rv[s]? = some k.rv[s] := List.getElem?_eq_getElem hs
        rw [strN_of hst]
        have := (ok.rv.ok _ (List.mem_of_getElem? hst)).r1
        omega
    · obtain ⟨j1, _, a1, a2⟩ := pairs_mem hp
      obtain ⟨j2, _, b1, b2⟩ := pairs_mem hq
      rw [e1] at a1
      rw [e2] at b1
      exact z (some 0, p.2) (List.mem_of_getElem? (pairs_get ((Mget j1).mpr a1) a2)) (some 0, q.2) (List.mem_of_getElem? (pairs_get ((Mget j2).mpr b1) b2)) 0 rfl rfl
    · obtain ⟨j1, hj1, a1, a2⟩ := pairs_mem hp
      obtain ⟨j2, hj2, b1, b2⟩ := pairs_mem hq
      rw [e1] at a1
      rw [e2] at b1
      have c : h' = 0 := by
        rw [partyP_get (by rw [okM.len] at hj1; exact hj1)] at a1
        split at a1
        · exact (Option.some.inj (Option.some.inj a1)).symm
        · cases a1
      subst c
      exact z (some h, p.2) (List.mem_of_getElem? (pairs_get ((Mget j1).mp a1) a2)) (some h, q.2) (List.mem_of_getElem? (pairs_get ((Mget j2).mp b1) b2)) rfl rfl
  rw [good_iff ok okq, share_iff, fitB_of hb, empty_iff, alone_fits]
  constructor
  · intro z
    have hm : (some h, b) ∈ pairs k (putP pl i h) := List.mem_of_getElem? (pairs_get (by rw [putP_get hi, if_pos rfl]) hb)
    exact ⟨z.fits _ hm h rfl, fun s hs => z.room h s hs, fun p hp q hq e1 e2 => z.cross p hp q hq h e1 e2⟩
  · rintro ⟨z1, z2, z3⟩
    have back : ∀ {p : Pr} {h' : Int}, p ∈ pairs k (putP pl i h) → p.1 = some h' → h' ≠ h → p ∈ pairs k pl := fun {p h'} hp e hn => by
      obtain ⟨j, _, a1, a2⟩ := pairs_mem hp
      rw [e] at a1
      have := List.mem_of_getElem? (pairs_get ((other h' hn j).mp a1) a2)
      rw [← e] at this
      exact this
    refine ⟨fun p hp h' e => ?_, fun h' s hs => ?_, fun p hp q hq h' e1 e2 => ?_⟩
    · by_cases c : h' = h
      · subst c
        obtain ⟨j, hj, a1, a2⟩ := pairs_mem hp
        by_cases cj : j = i
        · subst cj
          rw [hb] at a2
          rw [← Option.some.inj a2]
          exact z1
        · rw [putP_get hi, if_neg cj] at a1
          exact g.fits _ (List.mem_of_getElem? (pairs_get a1 a2)) h' e
      · exact g.fits _ (back hp e c) h' e
    · by_cases c : h' = h
      · subst c
        exact z2 s hs
      · have := g.room h' s hs
        unfold pairs at this ⊢
        rw [cnt_congr (h1 := h') (h2 := h') (f := putP pl i h) (g := pl) (putP_len hi) (other h' c)]
        exact this
    · by_cases c : h' = h
      · subst c
        exact z3 p hp q hq e1 e2
      · exact g.cross _ (back hp e1 c) _ (back hq e2 c) h' e1 e2
theorem put_mem {pl : List (Option Int)} {i : Nat} {h : Int} (hop : pl[i]? = some none) (x : Int) : some x ∈ putP pl i h ↔ x = h ∨ some x ∈ pl := by
  have hi : i < pl.length := (List.getElem?_eq_some_iff.mp hop).1
  rw [List.mem_iff_getElem?, List.mem_iff_getElem?]
  constructor
  · rintro ⟨j, hj⟩
    rw [putP_get hi] at hj
    by_cases c : j = i
    · rw [if_pos c] at hj
      exact .inl (Option.some.inj (Option.some.inj hj)).symm
    · rw [if_neg c] at hj
      exact .inr ⟨j, hj⟩
  · rintro (rfl | ⟨j, hj⟩)
    · exact ⟨i, by rw [putP_get hi, if_pos rfl]⟩
    · refine ⟨j, ?_⟩
      rw [putP_get hi]
      by_cases c : j = i
      · rw [c, hop] at hj
        cases hj
      · rw [if_neg c]
        exact hj
theorem put_hoursN {pl : List (Option Int)} {i : Nat} {h : Int} (hop : pl[i]? = some none) (h0 : 0 ≤ h) : ∀ n : Nat, (hoursN (putP pl i h) n).length = (hoursN pl n).length + (if some h ∈ pl then 0 else if h < (n : Int) then 1 else 0)
  | 0 => by
    by_cases c : some h ∈ pl
    · rw [if_pos c]
      rfl
    · rw [if_neg c, if_neg (by omega)]
      rfl
  | n + 1 => by
    rw [hoursN_succ, hoursN_succ, List.length_append, List.length_append, put_hoursN hop h0 n]
    by_cases c : some h ∈ pl
    · rw [if_pos c, if_pos c]
      have e : some (n : Int) ∈ putP pl i h ↔ some (n : Int) ∈ pl := by
        rw [put_mem hop]
        exact ⟨fun z => z.elim (fun z => z ▸ c) id, .inr⟩
      by_cases d : some (n : Int) ∈ pl
      · rw [if_pos d, if_pos (e.mpr d)]; omega
      · rw [if_neg d, if_neg fun z => d (e.mp z)]; omega
    · rw [if_neg c, if_neg c]
      by_cases d : (n : Int) = h
      · subst d
        rw [if_pos ((put_mem hop _).mpr (.inl rfl)), if_neg c, if_neg (by omega), if_pos (by omega)]
        simp
      · have e : some (n : Int) ∈ putP pl i h ↔ some (n : Int) ∈ pl := by
          rw [put_mem hop]
          exact ⟨fun z => z.elim (fun z => absurd z d) id, .inr⟩
        have l : (if h < (n : Int) then 1 else 0 : Nat) = if h < ((n + 1 : Nat) : Int) then 1 else 0 := by
          by_cases x : h < (n : Int)
          · rw [if_pos x, if_pos (by omega)]
          · rw [if_neg x, if_neg (by omega)]
        rw [l]
        by_cases d2 : some (n : Int) ∈ pl
        · rw [if_pos d2, if_pos (e.mpr d2)]; omega
        · rw [if_neg d2, if_neg fun z => d2 (e.mp z)]; omega
theorem put_hours {pl : List (Option Int)} {i : Nat} {h : Int} (hop : pl[i]? = some none) (h0 : 0 ≤ h) (h12 : h < 12) : ((hoursL (putP pl i h)).length : Int) = ((hoursL pl).length : Int) + (if some h ∈ pl then 0 else 1) := by
  have e := put_hoursN hop h0 12
  have e1 : (hoursL (putP pl i h)).length = (hoursL pl).length + (if some h ∈ pl then 0 else if h < ((12 : Nat) : Int) then 1 else 0) := e
  rw [e1]
  by_cases c : some h ∈ pl
  · rw [if_pos c, if_pos c]; rfl
  · rw [if_neg c, if_neg c, if_pos (by omega)]; rfl
theorem put_waits2 {k : Book} {pl : List (Option Int)} {i : Nat} {h : Int} {b : Barge} (hop : pl[i]? = some none) (hb : k.bs[i]? = some b) : ∀ n : Nat, (waitsN k (putP pl i h) n).sum = (waitsN k pl n).sum + (if i < n then waitB k i h else 0)
  | 0 => by rw [if_neg (by omega)]; rfl
  | n + 1 => by
    have hi : i < pl.length := (List.getElem?_eq_some_iff.mp hop).1
    rw [waitsN_succ, waitsN_succ, List.sum_append, List.sum_append, put_waits2 hop hb n]
    by_cases c : n = i
    · subst c
      have e1 : (putP pl n h).getD n none = some h := getD_of (by rw [putP_get hi, if_pos rfl])
      rw [e1, getD_of hop, waitOf_none, waitOf_B hb, if_neg (by omega), if_pos (by omega)]
      simp
    · have e1 : (putP pl i h).getD n none = pl.getD n none := by
        rw [List.getD_eq_getElem?_getD, List.getD_eq_getElem?_getD, putP_get hi, if_neg c]
      rw [e1]
      by_cases d : i < n
      · rw [if_pos d, if_pos (by omega)]; omega
      · rw [if_neg d, if_neg (by omega)]; omega
/-- what a plan with one more hour is worth, and that it stays good: the hours of betterL -/
theorem betterL_iff {k : Book} (ok : k.Ok) {pl : List (Option Int)} (okp : PlOk k.bs.length pl) (good : allR k pl = []) {i : Nat} (hop : pl[i]? = some none) {now w1 w2 h : Int} (h0 : 0 ≤ h) (h12 : h < 12) :
    (fitB k i h = true ∧ betterB k pl i w1 w2 h = true) ↔ HT.lexLt [((hoursL (putP pl i h)).length : Int), (waitsN k (putP pl i h) (putP pl i h).length).sum] [w1, w2] = true ∧ allR k (putP pl i h) = [] := by
  have hi : i < pl.length := (List.getElem?_eq_some_iff.mp hop).1
  have hl : pl.length = k.bs.length := okp.len
  obtain ⟨b, hb⟩ : ∃ b, k.bs[i]? = some b := ⟨k.bs[i]'(by omega), List.getElem?_eq_getElem (by omega)⟩
  rw [put_good ok okp good hop h0 h12, put_hours hop h0 h12, putP_len hi, put_waits2 hop hb, if_pos hi]
  unfold betterB
  rw [Bool.and_eq_true]
  exact ⟨fun z => ⟨z.2.1, z.1, z.2.2⟩, fun z => ⟨z.2.1, z.1, z.2.2⟩⟩
end GD

namespace LM
open PySem PySem.Spec PyProof.Rows L2 NdefX LamX GD
/-! ### lambdas that are kept, and called elsewhere: the cells that they caught are tracked while the frame that has them does not run -/
/-- the object at f is the lambda F with the body e -/
def LamO (f : Addr) (F : NF) (e : Expr) : HO := .ext fun h => ∃ pm ctv : Value, h.get? f = some (PySem.W.kla_obj "<lambda>" F.qual F.params e F.scope F.cl pm F.c ctv)
/-- the object at c is o, a cell's -/
def CellO (c : Addr) (o : Obj) : HO := .ext fun h => h.get? c = some o
/-- a code object's table, by what it tells -/
def TabE (P : Addr) (ps : Array Value) : HO := .ext fun h => h.get? P = some { cls := .none, data := .fields ps }
/-- .. each code object that it tells bears the name q -/
def TabL (H : Hp) (P : Addr) (q : Str) : Prop := ∃ ps : Array Value, H P = some (TabE P ps) ∧ TriplesOk ps.toList ∧ ∀ (pos : Pos) (cv : Value), codeAmong pos ps.toList = some cv → ∃ c, cv = .ref c ∧ H c = some (CodeO c q) ∧ c ≠ P
theorem TabL.keep {H H1 : Hp} {P : Addr} {q : Str} {ex : List Addr} (t : TabL H P q) (e : Ext ex H H1) (hP : P ∉ ex) (hx : ∀ b ∈ ex, ∀ φ, H b ≠ some (.ext φ)) : TabL H1 P q := by
  obtain ⟨ps, h1, h2, h3⟩ := t
  refine ⟨ps, e.oth P _ hP (fun ps z => by cases z) h1, h2, fun pos cv hc => ?_⟩
  obtain ⟨c, z1, z2, z3⟩ := h3 pos cv hc
  exact ⟨c, z1, e.oth c _ (fun hb => hx c hb _ z2) (fun ps z => by cases z) z2, z3⟩
theorem TabL.nil {H : Hp} {P : Addr} {q : Str} (h : H P = some (TabE P #[])) : TabL H P q := ⟨#[], h, True.intro, fun pos cv hc => by
  have z : codeAmong pos [] = some cv := hc
  simp [codeAmong] at z⟩
theorem ext_of {ex : List Addr} {H H1 : Hp} (k : ∀ b o, b ∉ ex → H b = some o → H1 b = some o) (m : ∀ b ∈ ex, ∃ φ, H b = some (.ext φ)) (d : ∀ b, H1 b = none → H b = none) : Ext ex H H1 where
  tup := fun b xs e => k b _ (fun hb => by obtain ⟨φ, z⟩ := m b hb; rw [e] at z; cases z) e
  frz := fun b o u e => k b _ (fun hb => by obtain ⟨φ, z⟩ := m b hb; rw [e] at z; cases z) e
  tbl := fun b ps e t => ⟨ps, k b _ (fun hb => by obtain ⟨φ, z⟩ := m b hb; rw [e] at z; cases z) e, t⟩
  lst := fun b xs n e => k b _ n e
  oth := fun b u n _ e => k b _ n e
  dom := d
section
variable {X : Cx} {pins : List (Addr × Obj)} {σ : L2.St} {H : Hp} {s : Shared}
/-- the table is written, a new code object is known from now on -/
theorem inv_tabE {P c : Addr} {q : Str} {ps more : Array Value} {h' : Heap} {tk : Nat} (I : Inv X pins σ H s) (hP : H P = some (TabE P ps)) (k : ∀ b o, b ≠ P → s.heap.get? b = some o → h'.get? b = some o)
    (hm : h'.get? P = some { cls := .none, data := .fields (ps ++ more) }) (hc : s.heap.objs.size ≤ c) (hrec : ∃ (oc : Obj) (vs : Array Value) (t : Tok), h'.get? c = some oc ∧ oc.data = .fields vs ∧ vs[1]? = some (.str q t)) :
    Inv X pins σ (upd (upd H P (TabE P (ps ++ more))) c (CodeO c q)) { s with heap := h', toks := tk } := by
  have freshC : H c = none := I.hok.fresh hc
  have apart : P ≠ c := ne_of_none hP freshC
  have other : ∀ b, b ≠ P → b ≠ c → upd (upd H P (TabE P (ps ++ more))) c (CodeO c q) b = H b := fun b n1 n2 => (upd_ne n2).trans (upd_ne n1)
  have atTable : upd (upd H P (TabE P (ps ++ more))) c (CodeO c q) P = some (TabE P (ps ++ more)) := (upd_ne apart).trans upd_same
  have notTable : ∀ b, H b = none → b ≠ P := fun b n z => by rw [z, hP] at n; cases n
  have old : ∀ b o, s.heap.get? b = some o → b ≠ c := fun b o e z => Nat.lt_irrefl _ (Nat.lt_of_lt_of_le (Heap.lt_size (z ▸ e)) hc)
  have known : ∀ b u, H b = some u → b ≠ c := fun b u e => ne_of_none e freshC
  have plain : ∀ b u, H b = some u → (∀ φ, u ≠ .ext φ) → upd (upd H P (TabE P (ps ++ more))) c (CodeO c q) b = some u := fun b u e n => by
    rw [other b (fun z => by rw [z, hP] at e; exact n _ (Option.some.inj e).symm) (known b u e)]
    exact e
  refine I.un ⟨fun b o e n _ _ => k b o (notTable b n) e, fun b o e n _ _ => ⟨o.slots, k b o (notTable b n) e⟩, fun b o e n _ => ?_, fun b o e _ => ?_, fun b xs e => plain b _ e fun φ z => (by cases z), fun b o u e => plain b _ e fun φ z => (by cases z), fun b qs e => ⟨#[], ?_⟩⟩ fun b u e => ?_
  · rw [other b (notTable b n) (old b o e)]
    exact n
  · by_cases hb : b = P
    · exact ⟨_, hb ▸ hm⟩
    · exact ⟨o, k b o hb e⟩
  · rw [Array.append_empty]
    exact plain b _ e fun φ z => (by cases z)
  · by_cases h1 : b = c
    · subst h1
      rw [upd_same] at e
      cases e
      obtain ⟨oc, vs, t, z1, z2, z3⟩ := hrec
      exact ⟨⟨oc, vs, t, z1, z2, z3⟩, ⟨oc, z1⟩, fun g1 g2 ⟨oc, vs, t, y1, y2, y3⟩ st => ⟨oc, vs, t, st _ y1, y2, y3⟩⟩
    · by_cases h2 : b = P
      · subst h2
        rw [atTable] at e
        cases e
        exact ⟨hm, ⟨_, hm⟩, fun g1 g2 z st => st _ z⟩
      · rw [other b h2 h1] at e
        refine (I.hok b u e).stay (fun d v hd y => k d v (fun z => ?_) y) (fun d y => plain d _ y fun φ z => (by cases z)) fun d xs y => plain d _ y fun φ z => (by cases z)
        rcases hd with hd | hd
        · exact h2 (hd.symm.trans z)
        · rw [z, hP] at hd
          cases hd
theorem among_snoc {pos p' : Pos} {c cv : Value} : ∀ (l : List Value), TriplesOk l → codeAmong p' (l ++ [rawInt pos.line, rawInt pos.col, c]) = some cv → codeAmong p' l = some cv ∨ cv = c := fun l h hc => (among_app2 l h hc).elim .inl fun z => .inr z.1
/-- a code object's second field is a text, a table's an int -/
theorem not_table {ps : Array Value} {q : Str} {t : Tok} (h : TriplesOk ps.toList) (e : ps[1]? = some (.str q t)) : False := by
  have e2 : ps.toList[1]? = some (.str q t) := by rw [Array.getElem?_toList]; exact e
  revert h e2
  generalize ps.toList = l
  intro h e2
  unfold TriplesOk at h
  split at h
  · cases e2
  · cases e2
  · exact h
/-- a code object is no table -/
theorem code_table {P : Program} {w : World} {H : Hp} {h : Heap} {c : Addr} {q : Str} (hok : HOk P w H h) (hc : H c = some (CodeO c q)) : ∀ (P' : Addr) (q' : Str), TabL H P' q' → c ≠ P' := fun P' q' T e => by
  subst e
  obtain ⟨ps, h1, h2, _⟩ := T
  obtain ⟨⟨oc, vs, t, z1, z2, z3⟩, _, _⟩ := hok c _ hc
  have z4 : h.get? c = some { cls := .none, data := .fields ps } := (hok c _ h1).1
  rw [z1] at z4
  cases z4
  have z2 : Data.fields ps = Data.fields vs := z2
  cases z2
  exact not_table h2 z3
/-- a code object's entry is no table's -/
theorem code_tab {c : Addr} {q : Str} {ps : Array Value} (h2 : TriplesOk ps.toList) : CodeO c q ≠ TabE c ps := fun e => by
  unfold CodeO TabE at e
  injection e with e
  have hg : Heap.get? ⟨(Array.replicate c default).push { cls := .none, data := .fields ps }, {}⟩ c = some { cls := .none, data := .fields ps } := by
    have h0 : ((Array.replicate c default).push ({ cls := .none, data := .fields ps } : Obj))[c]? = some { cls := .none, data := .fields ps } := by
      have y := Array.getElem?_push_size (xs := Array.replicate c (default : Obj)) (x := ({ cls := .none, data := .fields ps } : Obj))
      rw [Array.size_replicate] at y
      exact y
    unfold Heap.get?
    dsimp only
    rw [h0]
  have z := (congrFun e ⟨(Array.replicate c default).push { cls := .none, data := .fields ps }, {}⟩).mpr hg
  obtain ⟨oc, vs, t, z1, z2, z3⟩ := z
  rw [hg] at z1
  cases z1
  have z2 : Data.fields ps = Data.fields vs := z2
  cases z2
  exact not_table h2 z3
/-- a table stays where another grows -/
theorem TabL.keepT {H H1 : Hp} {P : Addr} {q : Str} {ex : List Addr} (t : TabL H P q) (e : Ext ex H H1) (hP : P ∉ ex) (hx : ∀ b ∈ ex, (∃ q', TabL H b q') ∨ ∀ φ, H b ≠ some (.ext φ)) : TabL H1 P q := by
  obtain ⟨ps, h1, h2, h3⟩ := t
  refine ⟨ps, e.oth P _ hP (fun ps z => by cases z) h1, h2, fun pos cv hc => ?_⟩
  obtain ⟨c, z1, z2, z3⟩ := h3 pos cv hc
  refine ⟨c, z1, e.oth c _ (fun hb => ?_) (fun ps z => by cases z) z2, z3⟩
  rcases hx c hb with ⟨q', ps', y1, y2, _⟩ | y
  · rw [z2] at y1
    exact code_tab y2 (Option.some.inj y1)
  · exact y _ z2
/-- the lambda is made -/
theorem lam_made {P c : Addr} {params : Arguments} {body : Expr} {scope : Scope} {pos : Pos} {E : Value → Shared → Prop} {Q : Value → Shared → Prop} (I : Inv X pins σ H s) (TB : GxR.TabB X.base X.mg c P) (hcode : X.env.code = .ref c) (T : TabL H P (X.env.qual ++ "<lambda>"))
    (hdef : defaultsOf params X.env = ([], [])) (hfree : ∀ y ∈ scope.names, y.2 = .free → ∃ c, X.env.cells.lookup y.1 = some c)
    (h : ∀ (f c' : Addr) (H1 : Hp) (s' : Shared), Inv X pins σ H1 s' → Ext [P] H H1 → TabL H1 P (X.env.qual ++ "<lambda>") → H f = none → f ≠ P → (c' ≠ P ∧ ∀ (P' : Addr) (q' : Str), TabL H1 P' q' → c' ≠ P') → H1 f = some (LamO f ⟨"<lambda>", X.env.qual ++ "<lambda>", params, [], scope, cloFrom X.env.cells scope.names [], c'⟩ body) → H1 c' = some (CodeO c' (X.env.qual ++ "<lambda>")) → Q (.ref f) s') :
    wpAny (model X.prog X.w) X.A (eval (.Lambda params body scope pos) X.env) Q E s := by
  obtain ⟨ps, hP, ht, ha⟩ := T
  refine PySem.W.kla_eval hdef ?_
  have bP : s.heap.BuiltinsAt X.mg P := TB.bm.keeps I.bk
  obtain ⟨hP', _, _⟩ := I.hok P _ hP
  have made : ∀ {H0 : Hp} {s0 : Shared} {c' : Addr} {o : Obj} {tk : Nat} {pm ctv : Value}, Inv X pins σ H0 s0 → o = PySem.W.kla_obj "<lambda>" (X.env.qual ++ "<lambda>") params body scope (cloFrom X.env.cells scope.names []) pm c' ctv →
      Inv X pins σ (upd H0 s0.heap.objs.size (LamO s0.heap.objs.size ⟨"<lambda>", X.env.qual ++ "<lambda>", params, [], scope, cloFrom X.env.cells scope.names [], c'⟩ body)) { s0 with heap := s0.heap.push o, toks := tk } := fun {H0 s0 c' o tk pm ctv} I0 ho => by
    subst ho
    refine I0.laid (fun b u e => Heap.get?_push_of_some _ e) (Nat.le_refl _) ?_
    have z := Heap.get?_push_size s0.heap (o := PySem.W.kla_obj "<lambda>" (X.env.qual ++ "<lambda>") params body scope (cloFrom X.env.cells scope.names []) pm c' ctv) rfl
    exact ⟨⟨pm, ctv, z⟩, ⟨_, z⟩, fun g1 g2 ⟨p, t, y⟩ st => ⟨p, t, st _ y⟩⟩
  have ltP : P < s.heap.objs.size := Heap.lt_size hP'
  cases hc : codeAmong pos ps.toList with
  | none =>
    refine PySem.W.kla_makeFunction (mg := X.mg) (c := c) (P := P) (ps := ps) (closure_ok hfree) I.ok.glob (I.mod.glob.keeps I.bk) hcode (TB.code.keeps I.bk) hP' ht hc TB.gP bP fun c' ctv h' tk hx hge hlt hrec htb => ?_
    obtain ⟨c2, oc, vs, t, e2, hoc, hd, hv⟩ := hrec
    cases e2
    have nC : H c' = none := I.hok.fresh hge
    have I1 := inv_tabE (q := X.env.qual ++ "<lambda>") (tk := tk) (more := #[rawInt pos.line, rawInt pos.col, .ref c']) (h' := h') I hP (fun b o hb e => hx b o hb e) htb hge ⟨oc, vs, t, hoc, hd, hv⟩
    have I2 := made (c' := c') (tk := tk) (pm := (X.mg "__name__").getD .none) (ctv := ctv) I1 rfl
    have nF := I1.hok.fresh (Nat.le_refl h'.objs.size)
    have neC : c' ≠ h'.objs.size := Nat.ne_of_lt hlt
    have sz : s.heap.objs.size ≤ h'.objs.size := Nat.le_trans hge (Nat.le_of_lt hlt)
    have neP : P ≠ c' := ne_of_none hP nC
    have neF : P ≠ h'.objs.size := Nat.ne_of_lt (Nat.lt_of_lt_of_le ltP sz)
    have oldF : H h'.objs.size = none := I.hok.fresh sz
    have eL : (ps ++ #[rawInt pos.line, rawInt pos.col, .ref c']).toList = ps.toList ++ [rawInt pos.line, rawInt pos.col, .ref c'] := by simp
    have kept : ∀ b o, b ∉ [P] → H b = some o → upd (upd (upd H P (TabE P (ps ++ #[rawInt pos.line, rawInt pos.col, .ref c']))) c' (CodeO c' (X.env.qual ++ "<lambda>"))) h'.objs.size (LamO h'.objs.size ⟨"<lambda>", X.env.qual ++ "<lambda>", params, [], scope, cloFrom X.env.cells scope.names [], c'⟩ body) b = some o := fun b o n e => by
      rw [upd_ne (ne_of_none e oldF), upd_ne (ne_of_none e nC), upd_ne (by simpa using n)]
      exact e
    have atC : upd (upd (upd H P (TabE P (ps ++ #[rawInt pos.line, rawInt pos.col, .ref c']))) c' (CodeO c' (X.env.qual ++ "<lambda>"))) h'.objs.size (LamO h'.objs.size ⟨"<lambda>", X.env.qual ++ "<lambda>", params, [], scope, cloFrom X.env.cells scope.names [], c'⟩ body) c' = some (CodeO c' (X.env.qual ++ "<lambda>")) := (upd_ne neC).trans upd_same
    refine h h'.objs.size c' _ _ I2 (ext_of kept (fun b hb => by rw [List.mem_singleton.mp hb]; exact ⟨_, hP⟩) fun b e => ?_) ⟨_, (upd_ne neF).trans ((upd_ne neP).trans upd_same), by rw [eL]; exact PySem.TriplesOk_snoc _ _ _ _ ht, fun p' cv hcv => ?_⟩ oldF neF.symm ⟨neP.symm, code_table I2.hok atC⟩ upd_same atC
    · have step : ∀ {G : Hp} {a b : Addr} {o : HO}, upd G a o b = none → G b = none := fun {G a b o} z => by
        unfold upd at z
        split at z
        · cases z
        · exact z
      exact step (step (step e))
    · rw [eL] at hcv
      rcases among_snoc _ ht hcv with z | z
      · obtain ⟨c0, e1, e2, e3⟩ := ha p' cv z
        exact ⟨c0, e1, kept c0 _ (by simpa using e3) e2, e3⟩
      · exact ⟨c', z, atC, neP.symm⟩
  | some cv =>
    obtain ⟨c', e, hco, hne⟩ := ha pos cv hc
    subst e
    refine PySem.W.kla_makeFunctionHit (mg := X.mg) (c := c) (P := P) (ps := ps) (closure_ok hfree) I.ok.glob (I.mod.glob.keeps I.bk) hcode (TB.code.keeps I.bk) hP' ht hc bP fun ctv h' tk hx hsz => ?_
    have I1 : Inv X pins σ H { s with heap := h', toks := tk } := I.kept hx
    have I2 := made (c' := c') (tk := tk) (pm := (X.mg "__name__").getD .none) (ctv := ctv) I1 rfl
    have nF : H h'.objs.size = none := I1.hok.fresh (Nat.le_refl _)
    have kept : ∀ b o, H b = some o → upd H h'.objs.size (LamO h'.objs.size ⟨"<lambda>", X.env.qual ++ "<lambda>", params, [], scope, cloFrom X.env.cells scope.names [], c'⟩ body) b = some o := fun b o e => (upd_ne (ne_of_none e nF)).trans e
    refine h h'.objs.size c' _ _ I2 (ext_of (fun b o _ e => kept b o e) (fun b hb => by rw [List.mem_singleton.mp hb]; exact ⟨_, hP⟩) fun b e => ?_) ⟨ps, kept P _ hP, ht, fun p' cv hcv => ?_⟩ nF (Ne.symm (Nat.ne_of_lt (Nat.lt_of_lt_of_le ltP hsz))) ⟨hne, code_table I2.hok (kept c' _ hco)⟩ upd_same (kept c' _ hco)
    · unfold upd at e
      split at e
      · cases e
      · exact e
    · obtain ⟨c0, e1, e2, e3⟩ := ha p' cv hcv
      exact ⟨c0, e1, kept c0 _ e2, e3⟩
end
/-! ### its call -/
theorem lamO_at {P : Program} {w : World} {H : Hp} {h : Heap} {f : Addr} {F : NF} {e : Expr} (hok : HOk P w H h) (z : H f = some (LamO f F e)) : ∃ pm ctv : Value, h.get? f = some (PySem.W.kla_obj "<lambda>" F.qual F.params e F.scope F.cl pm F.c ctv) := (hok f _ z).1
theorem lam_fnAt {P : Program} {w : World} {H : Hp} {h : Heap} {f : Addr} {F : NF} {e : Expr} (hok : HOk P w H h) (z : H f = some (LamO f F e)) : PySem.W.FnAt f h := by
  obtain ⟨pm, ctv, ho⟩ := lamO_at hok z
  exact ⟨_, _, _, _, ho⟩
/-- the promise of the lambda F with the body e at f -/
structure LamOk (P : Program) (w : World) (K : PySem.W.Frag) (mg : Str → Option Value) (base : Heap) (CX : CXT) (k : Nat) (f : Addr) (F : NF) (e : Expr) (fr : List Str) (sp : List (Option V) → Sp) : Prop where
  run : ∀ (A : Around) (outer : List Env) (s : Shared) (H : Hp) (us : List Value) (vs : List V) (ws : List (Option V)) (Q : VK) (E : XK), Room k A → Env0 P w K mg base A outer s H → H f = some (LamO f F e) → H F.c = some (CodeO F.c F.qual) →
    CellsAt F.cl fr ws s.heap H → Vals vs us → sp ws vs H Q E → codeAny (model P w) A (.call (.ref f) ⟨us, []⟩) (CR CX outer P w H s Q E) s
section
variable {CX : CXT} {P : Program} {w : World} {K : PySem.W.Frag} {mg : Str → Option Value} {base : Heap} {N ps fr : List Str} {F : NF} {e : Expr} {f : Addr} {k : Nat} {t : XK → TE}
theorem lok_of (S : NScope N ps fr F.scope) (hb : ∀ (pm ctv : Value) (us : List Value), us.length = ps.length → bindArgs (PySem.W.kla_fn "<lambda>" F.qual F.params e F.scope F.cl pm (.ref F.c) ctv) ⟨us, []⟩ = pure (ps.zip us))
    (hbody : ∀ (A : Around) (outer : List Env) (s : Shared) (H : Hp) (E : XK), Room k (A.deeper (envF F f s.heap.objs.size)) → PE (ncx CX P w K mg base N F f A outer s H E) e (t E)) :
    LamOk P w K mg base CX (k + 1) f F e fr (fun ws vs H Q E => vs.length = ps.length ∧ t E (startF N vs ws) H Q) := by
  refine ⟨fun A outer s H us vs ws Q E hr e0 hf hc C r hsp => ?_⟩
  obtain ⟨hl, hq⟩ := hsp
  have lim : s.heap.NoLimit := e0.mod.nolimit.keeps fun b o e => (e0.bs b o e).1
  obtain ⟨pm, ctv, ho⟩ := lamO_at e0.hok hf
  refine PySem.W.kla_callFunE hr.depth ho rfl S.co S.gen rfl (codeO_at e0.hok hc) ?_
  rw [hb pm ctv us (by rw [← r.length]; exact hl)]
  refine wpAny_pure (wpAny_newFunctionEnv S.nocell (fun ⟨n, _⟩ hy => S.par n (List.of_mem_zip hy).1) (fun h₁ hns hsb => ⟨lim.fresh _ hsb, ?_⟩) S.kind)
  show codeAny _ _ (.expr e (envF F f s.heap.objs.size)) _ _
  have kp : ∀ b o, s.heap.get? b = some o → h₁.get? b = some o := fun b o z => hsb.extBut b o (Nat.ne_of_lt (Heap.lt_size z)) (Heap.get?_push_of_some _ z)
  have I : Inv (ncx CX P w K mg base N F f A outer s H E) [] (startF N vs ws) H { s with heap := h₁, toks := s.toks + (ps.zip us).length } := inv_startN S hr.hd e0 hl r C hns kp
  refine PySem.W.kla_codeExpr (wpAny_mono ((hbody A outer s H E (hr.deeper _)).run [] _ _ H Q I hq) (fun v s' hs => ?_) fun e' s' hs => hs)
  obtain ⟨v', H', J, rv, q⟩ := hs
  exact ⟨v', H', J.os, J.bare, J.base, J.hok, rv, q⟩
end
/-! ### cells, tracked and not -/
def hideC (H : Hp) (cs : List (Addr × Obj)) : Hp := fun b => if b ∈ cs.map (·.1) then none else H b
def showC (H : Hp) (cs : List (Addr × Obj)) : Hp := fun b => match cs.find? (fun p => decide (p.1 = b)) with
  | some p => some (CellO p.1 p.2)
  | none => H b
section
variable {H : Hp} {cs : List (Addr × Obj)} {b : Addr}
theorem hide_in (h : b ∈ cs.map (·.1)) : hideC H cs b = none := if_pos h
theorem hide_out (h : b ∉ cs.map (·.1)) : hideC H cs b = H b := if_neg h
theorem show_out (h : b ∉ cs.map (·.1)) : showC H cs b = H b := by
  unfold showC
  have z : cs.find? (fun p => decide (p.1 = b)) = none := List.find?_eq_none.mpr fun p hp q => h (List.mem_map.mpr ⟨p, hp, of_decide_eq_true q⟩)
  rw [z]
theorem show_in (h : b ∈ cs.map (·.1)) : ∃ o, (b, o) ∈ cs ∧ showC H cs b = some (CellO b o) := by
  unfold showC
  cases z : cs.find? (fun p => decide (p.1 = b)) with
  | none =>
    obtain ⟨p, hp, e⟩ := List.mem_map.mp h
    exact absurd (decide_eq_true e) (List.find?_eq_none.mp z p hp)
  | some p =>
    have e := of_decide_eq_true (List.find?_some (p := fun p : Addr × Obj => decide (p.1 = b)) z)
    have hp := List.mem_of_find?_eq_some z
    obtain ⟨p1, p2⟩ := p
    have e : p1 = b := e
    subst e
    exact ⟨p2, hp, rfl⟩
theorem show_hide (h : ∀ p ∈ cs, H p.1 = some (CellO p.1 p.2)) : showC (hideC H cs) cs = H := by
  funext b
  by_cases hb : b ∈ cs.map (·.1)
  · obtain ⟨o, ho, e⟩ := show_in (H := hideC H cs) hb
    rw [e, h _ ho]
  · rw [show_out hb, hide_out hb]
theorem hide_show (h : ∀ p ∈ cs, H p.1 = none) : hideC (showC H cs) cs = H := by
  funext b
  by_cases hb : b ∈ cs.map (·.1)
  · rw [hide_in hb]
    obtain ⟨p, hp, e⟩ := List.mem_map.mp hb
    rw [← e, h p hp]
  · rw [hide_out hb, show_out hb]
end
/-- data that no cell is: .. stands whether the cells are tracked or not -/
theorem ext_hide {H : Hp} {cs : List (Addr × Obj)} (h : ∀ p ∈ cs, H p.1 = some (CellO p.1 p.2)) {b : Addr} {u : HO} (e : H b = some u) (n : ∀ φ, u ≠ .ext φ) : hideC H cs b = some u := by
  refine (hide_out fun hb => ?_).trans e
  obtain ⟨p, hp, z⟩ := List.mem_map.mp hb
  rw [← z, h p hp] at e
  exact n _ (Option.some.inj e).symm
section
variable {P : Program} {w : World} {H H' : Hp} {h h' : Heap} {cs : List (Addr × Obj)} {fs : List Addr}
/-- some of what is tracked is left out -/
theorem hok_hide (hok : HOk P w H h) (own : ∀ p ∈ cs, H p.1 = some (CellO p.1 p.2)) : HOk P w (hideC H cs) h := fun b u e => by
  by_cases hb : b ∈ cs.map (·.1)
  · rw [hide_in hb] at e
    cases e
  · rw [hide_out hb] at e
    exact (hok b u e).stay (fun _ _ _ z => z) (fun c z => ext_hide own z fun φ q => (by cases q)) fun c xs z => ext_hide own z fun φ q => (by cases q)
/-- the cells are tracked from now on -/
theorem hok_show (hok : HOk P w H h) (free : ∀ p ∈ cs, H p.1 = none) (at_ : ∀ p ∈ cs, h.get? p.1 = some p.2) : HOk P w (showC H cs) h := fun b u e => by
  have keep : ∀ c v, H c = some v → showC H cs c = some v := fun c v z => (show_out fun hc => by
    obtain ⟨p, hp, q⟩ := List.mem_map.mp hc
    rw [← q, free p hp] at z
    cases z).trans z
  by_cases hb : b ∈ cs.map (·.1)
  · obtain ⟨o, ho, z⟩ := show_in (H := H) hb
    rw [z] at e
    cases e
    exact ⟨at_ _ ho, ⟨o, at_ _ ho⟩, fun g1 g2 y st => st _ y⟩
  · rw [show_out hb] at e
    exact (hok b u e).stay (fun _ _ _ z => z) (fun c z => keep c _ z) fun c xs z => keep c _ z
theorem un_show (un : Un fs [] (hideC H cs) H' h h') (own : ∀ p ∈ cs, H p.1 = some (CellO p.1 p.2)) : Un fs [] H (showC H' cs) h h' := by
  have out : ∀ b, H b = none → b ∉ cs.map (·.1) := fun b n hb => by
    obtain ⟨p, hp, z⟩ := List.mem_map.mp hb
    rw [← z, own p hp] at n
    cases n
  have hid : ∀ b, H b = none → hideC H cs b = none := fun b n => (hide_out (out b n)).trans n
  have out2 : ∀ b u, H b = some u → (∀ φ, u ≠ .ext φ) → b ∉ cs.map (·.1) := fun b u e n hb => by
    obtain ⟨p, hp, z⟩ := List.mem_map.mp hb
    rw [← z, own p hp] at e
    exact n _ (Option.some.inj e).symm
  refine ⟨fun b o e n hf hx => un.keep b o e (hid b n) hf hx, fun b o e n hf hx => un.slot b o e (hid b n) hf hx, fun b o e n hx => (show_out (out b n)).trans (un.free b o e (hid b n) hx), un.there, fun b xs e => ?_, fun b o u e => ?_, fun b ps e => ?_⟩
  · have z := out2 b _ e fun φ q => (by cases q)
    exact (show_out z).trans (un.tups b xs ((hide_out z).trans e))
  · have z := out2 b _ e fun φ q => (by cases q)
    exact (show_out z).trans (un.frzs b o u ((hide_out z).trans e))
  · have z := out2 b _ e fun φ q => (by cases q)
    obtain ⟨more, q⟩ := un.tbls b ps ((hide_out z).trans e)
    exact ⟨more, (show_out z).trans q⟩
end
/-- a call with the cells untracked, seen with the cells tracked -/
theorem cr_show {P : Program} {w : World} {outer : List Env} {H : Hp} {s s' : Shared} {cs : List (Addr × Obj)} {Q : VK} {E : XK} {r : Result} (hok : HOk P w H s.heap) (own : ∀ p ∈ cs, H p.1 = some (CellO p.1 p.2)) (frf : ∀ b ∈ frs outer, H b = none)
    (h : CR (L2.CX P w) outer P w (hideC H cs) s (fun v H' => Q v (showC H' cs)) (fun c d H' => E c d (showC H' cs)) r s') : CR (L2.CX P w) outer P w H s Q E r s' := by
  have at0 : ∀ p ∈ cs, s.heap.get? p.1 = some p.2 := fun p hp => (hok p.1 _ (own p hp)).1
  have hid : ∀ p ∈ cs, hideC H cs p.1 = none := fun p hp => hide_in (List.mem_map.mpr ⟨p, hp, rfl⟩)
  have nf : ∀ p ∈ cs, p.1 ∉ frs outer := fun p hp z => by
    have q := frf _ z
    rw [own p hp] at q
    cases q
  cases r with
  | ok fl =>
    cases fl with
    | ret u =>
      obtain ⟨v, H', os, bare, un, hok', rv, q⟩ := h
      have fr : ∀ p ∈ cs, H' p.1 = none := fun p hp => un.free p.1 p.2 (at0 p hp) (hid p hp) (by simp)
      have at1 : ∀ p ∈ cs, s'.heap.get? p.1 = some p.2 := fun p hp => un.keep p.1 p.2 (at0 p hp) (hid p hp) (nf p hp) (by simp)
      exact ⟨v, showC H' cs, os, bare, un_show un own, hok_show hok' fr at1, rv, q⟩
    | next => exact h
    | brk => exact h
    | cont => exact h
  | error e =>
    obtain ⟨a, B, H', cls, d, ee, fl, hokB, ub, na, os, ag, hE⟩ := h
    have fr : ∀ p ∈ cs, H' p.1 = none := fun p hp => ub.free p.1 p.2 (at0 p hp) (hid p hp)
    have at1 : ∀ p ∈ cs, B.get? p.1 = some p.2 := fun p hp => ub.keep p.1 p.2 (at0 p hp) (hid p hp) (nf p hp)
    have outA : a ∉ cs.map (·.1) := fun z => by
      obtain ⟨p, hp, q⟩ := List.mem_map.mp z
      have y := at1 p hp
      rw [q, fl.2.1] at y
      cases y
    have out : ∀ b, H b = none → b ∉ cs.map (·.1) := fun b n hb => by
      obtain ⟨p, hp, z⟩ := List.mem_map.mp hb
      rw [← z, own p hp] at n
      cases n
    have hidn : ∀ b, H b = none → hideC H cs b = none := fun b n => (hide_out (out b n)).trans n
    have out2 : ∀ b u, H b = some u → (∀ φ, u ≠ .ext φ) → b ∉ cs.map (·.1) := fun b u e n hb => by
      obtain ⟨p, hp, z⟩ := List.mem_map.mp hb
      rw [← z, own p hp] at e
      exact n _ (Option.some.inj e).symm
    refine ⟨a, B, showC H' cs, cls, d, ee, fl, hok_show hokB fr at1, ⟨fun b o e n hf => ub.keep b o e (hidn b n) hf, ub.slot, fun b o e n => (show_out (out b n)).trans (ub.free b o e (hidn b n)), ub.there, fun b xs e => ?_, fun b o u e => ?_, fun b ps e => ?_⟩, (show_out outA).trans na, os, ag, hE⟩
    · have z := out2 b _ e fun φ q => (by cases q)
      exact (show_out z).trans (ub.tups b xs ((hide_out z).trans e))
    · have z := out2 b _ e fun φ q => (by cases q)
      exact (show_out z).trans (ub.frzs b o u ((hide_out z).trans e))
    · have z := out2 b _ e fun φ q => (by cases q)
      obtain ⟨more, q⟩ := ub.tbls b ps ((hide_out z).trans e)
      exact ⟨more, (show_out z).trans q⟩
theorem env0_hide {P : Program} {w : World} {K : PySem.W.Frag} {mg : Str → Option Value} {base : Heap} {A : Around} {outer : List Env} {s : Shared} {H : Hp} {cs : List (Addr × Obj)} (e0 : Env0 P w K mg base A outer s H) (own : ∀ p ∈ cs, H p.1 = some (CellO p.1 p.2)) :
    Env0 P w K mg base A outer s (hideC H cs) := by
  have hid : ∀ b, H b = none → hideC H cs b = none := fun b n => by
    unfold hideC
    split
    · rfl
    · exact n
  exact ⟨e0.frames, e0.mod, fun b o e => ⟨(e0.bs b o e).1, hid b (e0.bs b o e).2⟩, e0.bsz, e0.funs, fun b hb => hid b (e0.frf b hb), hok_hide e0.hok own, e0.bare⟩
/-- what the captured cells hold, tracked -/
structure Caught (H : Hp) (cl : List (Str × Addr)) (fr : List Str) (ws : List (Option V)) (cs : List (Addr × Obj)) : Prop where
  len : ws.length = fr.length
  own : ∀ p ∈ cs, H p.1 = some (CellO p.1 p.2)
  all : ∀ y c, cl.lookup y = some c → ∃ o v, (c, o) ∈ cs ∧ o.data = .cell v
  inj : ∀ x y c, cl.lookup x = some c → cl.lookup y = some c → x = y
  has : ∀ (i : Nat) (y : Str), fr[i]? = some y → ∃ c, cl.lookup y = some c ∧ ∀ v, ws[i]? = some (some v) → ∃ u o, L2.RelV v u ∧ (c, o) ∈ cs ∧ o.data = .cell (some u)
theorem Caught.cells {P : Program} {w : World} {H : Hp} {h : Heap} {cl : List (Str × Addr)} {fr : List Str} {ws : List (Option V)} {cs : List (Addr × Obj)} (C : Caught H cl fr ws cs) (hok : HOk P w H h) : CellsAt cl fr ws h (hideC H cs) := by
  have at0 : ∀ p ∈ cs, h.get? p.1 = some p.2 := fun p hp => (hok p.1 _ (C.own p hp)).1
  refine ⟨C.len, fun y c e => ?_, C.inj, fun i y e => ?_⟩
  · obtain ⟨o, v, h1, h2⟩ := C.all y c e
    exact ⟨hide_in (List.mem_map.mpr ⟨_, h1, rfl⟩), v, o, at0 _ h1, h2⟩
  · obtain ⟨c, h1, h2⟩ := C.has i y e
    refine ⟨c, h1, fun v ev => ?_⟩
    obtain ⟨u, o, r, h3, h4⟩ := h2 v ev
    exact ⟨u, r, o, at0 _ h3, h4⟩
theorem Caught.keep {H H1 : Hp} {cl : List (Str × Addr)} {fr : List Str} {ws : List (Option V)} {cs : List (Addr × Obj)} {ex : List Addr} (C : Caught H cl fr ws cs) (e : Ext ex H H1) (n : ∀ p ∈ cs, p.1 ∉ ex) : Caught H1 cl fr ws cs :=
  ⟨C.len, fun p hp => e.oth p.1 _ (n p hp) (fun ps z => by cases z) (C.own p hp), C.all, C.inj, C.has⟩
/-- a call of the function at f, with the values vs, ends so -/
def Goes (P : Program) (w : World) (K : PySem.W.Frag) (mg : Str → Option Value) (base : Heap) (CX : CXT) (k : Nat) (f : Addr) (H : Hp) (vs : List V) (Q : VK) (E : XK) : Prop :=
  ∀ (A : Around) (outer : List Env) (s : Shared) (us : List Value), Room k A → Env0 P w K mg base A outer s H → Vals vs us → codeAny (model P w) A (.call (.ref f) ⟨us, []⟩) (CR CX outer P w H s Q E) s
theorem Goes.mono {P : Program} {w : World} {K : PySem.W.Frag} {mg : Str → Option Value} {base : Heap} {CX : CXT} {j k : Nat} {f : Addr} {H : Hp} {vs : List V} {Q : VK} {E : XK} (g : Goes P w K mg base CX j f H vs Q E) (h : j ≤ k) : Goes P w K mg base CX k f H vs Q E :=
  fun A outer s us hr => g A outer s us (hr.mono h)
/-- a lambda that stands in H -/
structure Lam (P : Program) (w : World) (K : PySem.W.Frag) (mg : Str → Option Value) (base : Heap) (CX : CXT) (k : Nat) (H : Hp) (f c : Addr) (cl : List (Str × Addr)) (N ps fr : List Str) (t : XK → TE) : Prop where
  ex : ∃ (F : NF) (e : Expr), F.cl = cl ∧ F.c = c ∧ H f = some (LamO f F e) ∧ H c = some (CodeO c F.qual) ∧ LamOk P w K mg base CX k f F e fr (fun ws vs H Q E => vs.length = ps.length ∧ t E (startF N vs ws) H Q)
section
variable {P : Program} {w : World} {K : PySem.W.Frag} {mg : Str → Option Value} {base : Heap} {CX : CXT} {k : Nat} {H H1 : Hp} {f c : Addr} {cl : List (Str × Addr)} {N ps fr : List Str} {t : XK → TE} {cs : List (Addr × Obj)} {ws : List (Option V)} {vs : List V} {Q : VK} {E : XK}
theorem Lam.keep {ex : List Addr} (L : Lam P w K mg base CX k H f c cl N ps fr t) (e : Ext ex H H1) (nf : f ∉ ex) (nc : c ∉ ex) : Lam P w K mg base CX k H1 f c cl N ps fr t :=
  let ⟨F, b, h1, h2, h3, h4, h5⟩ := L.ex
  ⟨F, b, h1, h2, e.oth f _ nf (fun ps z => by cases z) h3, e.oth c _ nc (fun ps z => by cases z) h4, h5⟩
/-- it goes, from its body's reading with the cells untracked -/
theorem Lam.goes (L : Lam P w K mg base (L2.CX P w) k H f c cl N ps fr t) (C : Caught H cl fr ws cs) (hf : f ∉ cs.map (·.1)) (hc : c ∉ cs.map (·.1)) (hl : vs.length = ps.length) (q : t (fun c d H' => E c d (showC H' cs)) (startF N vs ws) (hideC H cs) (fun v H' => Q v (showC H' cs))) : Goes P w K mg base (L2.CX P w) k f H vs Q E := by
  intro A outer s us hr e0 r
  obtain ⟨F, b, h1, h2, h3, h4, h5⟩ := L.ex
  subst h1
  subst h2
  refine codeAny_mono (h5.run A outer s (hideC H cs) us vs ws _ (fun c d H' => E c d (showC H' cs)) hr (env0_hide e0 C.own) ((hide_out hf).trans h3) ((hide_out hc).trans h4) (C.cells e0.hok) r ⟨hl, q⟩) fun r s' h => cr_show e0.hok C.own e0.frf h
end
/-! ### the rules -/
def IsLam (H : Hp) (f : Addr) : Prop := ∃ (F : NF) (e : Expr), H f = some (LamO f F e)
theorem Lam.is {P : Program} {w : World} {K : PySem.W.Frag} {mg : Str → Option Value} {base : Heap} {CX : CXT} {k : Nat} {H : Hp} {f c : Addr} {cl : List (Str × Addr)} {N ps fr : List Str} {t : XK → TE} (L : Lam P w K mg base CX k H f c cl N ps fr t) : IsLam H f := let ⟨F, b, _, _, h, _⟩ := L.ex; ⟨F, b, h⟩
theorem IsLam.keep {ex : List Addr} {H H1 : Hp} {f : Addr} (h : IsLam H f) (e : Ext ex H H1) (nf : f ∉ ex) : IsLam H1 f := let ⟨F, b, z⟩ := h; ⟨F, b, e.oth f _ nf (fun ps z => by cases z) z⟩
/-- a lambda as a value -/
def tLam (P : Addr) (q : Str) (L : Hp → Addr → Addr → Prop) : TE := fun _ H Q => TabL H P q ∧ ∀ (f c : Addr) (H1 : Hp), Ext [P] H H1 → TabL H1 P q → H f = none → f ≠ P → (c ≠ P ∧ ∀ (P' : Addr) (q' : Str), TabL H1 P' q' → c ≠ P') → L H1 f c → Q (.ref f) H1
section
variable {X : Cx} {CX : CXT} {k : Nat} {N ps fr : List Str} {t : XK → TE}
theorem pe_lam {P c : Addr} {params : Arguments} {body : Expr} {scope : Scope} {pos : Pos} (TB : GxR.TabB X.base X.mg c P) (hcode : X.env.code = .ref c) (hdef : defaultsOf params X.env = ([], [])) (S : NScope N ps fr scope) {sc : Scope} (hsc : X.env.scope = sc) (hfr : ndefB sc scope fr = true)
    (hb : ∀ (cl : List (Str × Addr)) (q : Str) (cd pm ctv : Value) (us : List Value), us.length = ps.length → bindArgs (PySem.W.kla_fn "<lambda>" q params body scope cl pm cd ctv) ⟨us, []⟩ = pure (ps.zip us))
    (hbody : ∀ (f c' : Addr) (A : Around) (outer : List Env) (s : Shared) (H : Hp) (E : XK), Room k (A.deeper (envF ⟨"<lambda>", X.env.qual ++ "<lambda>", params, [], scope, cloFrom X.env.cells scope.names [], c'⟩ f s.heap.objs.size)) →
      PE (ncx CX X.prog X.w X.K X.mg X.base N ⟨"<lambda>", X.env.qual ++ "<lambda>", params, [], scope, cloFrom X.env.cells scope.names [], c'⟩ f A outer s H E) body (t E)) :
    PE X (.Lambda params body scope pos) (tLam P (X.env.qual ++ "<lambda>") fun H f c' => Lam X.prog X.w X.K X.mg X.base CX (k + 1) H f c' (cloFrom X.env.cells scope.names []) N ps fr t) := by
  refine ⟨fun pins s σ H Q I h => ?_⟩
  obtain ⟨T, h⟩ := h
  subst hsc
  have hfree : ∀ y ∈ scope.names, y.2 = .free → ∃ c, X.env.cells.lookup y.1 = some c := fun y hy e => (ndef_free hfr y hy e).elim (fun z => I.ok.has _ (.inl z)) fun z => I.ok.has _ (.inr z)
  refine lam_made I TB hcode T hdef hfree fun f c' H1 s' I1 e1 T1 n1 nf nc hf hc => ⟨.ref f, H1, I1, rfl, ?_⟩
  exact h f c' H1 e1 T1 n1 nf nc ⟨_, body, rfl, rfl, hf, hc, lok_of S (fun pm ctv us hl => hb _ _ _ pm ctv us hl) fun A outer s H E hr => hbody f c' A outer s H E hr⟩
/-- a name that holds a lambda is called -/
def tGoes (G : Addr → Hp → List V → VK → XK → Prop) (i : Nat) (E : L2.St → XK) (t : TA) : TE := fun σ H Q => ∃ f, σ[i]? = some (some (.ref f)) ∧ IsLam H f ∧ t σ H fun vs H1 => IsLam H1 f ∧ G f H1 vs Q (E σ)
theorem run_goes {pins : List (Addr × Obj)} {σ : L2.St} {H : Hp} {s : Shared} {Q : VK} {f : Addr} {us : List Value} {vs : List V} {E : L2.St → XK} (hr : Room k X.A) (hx : PassesAt CX X σ (E σ)) (I : Inv X pins σ H s) (r : Vals vs us) (g : Goes X.prog X.w X.K X.mg X.base CX k f H vs Q (E σ)) :
    wpAny (model X.prog X.w) X.A (call (.ref f) us) (EP X pins σ Q) X.xe s := by
  refine wpAny_call (codeAny_mono (g X.A X.stack s us hr I.env0 r) fun r s' hq => ?_)
  cases r with
  | error e => exact hx pins H s e s' I hq
  | ok fl =>
    cases fl with
    | ret u => exact I.after hq
    | next => exact False.elim hq
    | brk => exact False.elim hq
    | cont => exact False.elim hq
theorem pe_goes {P : Program} {w : World} {K : PySem.W.Frag} {mg : Str → Option Value} {base : Heap} {CX : CXT} {x : Str} {i : Nat} {E : L2.St → XK} {ta : TA} {e : Expr} {es : List Expr} {p pos : Pos} (hX : X.prog = P ∧ X.w = w ∧ X.K = K ∧ X.mg = mg ∧ X.base = base) (hr : Room k X.A) (hN : X.N[i]? = some x) (hv : Vis X.env.scope x) (hx : ∀ σ, PassesAt CX X σ (E σ)) (ha : PA X (e :: es) ta)
    (hd : (x == ("__debug__" : Str)) = false := by decide) (hcd : (x == ("__classdict__" : Str)) = false := by decide)
    (he : starEach (e :: es) X.env = (false, eval e X.env) :: starEach es X.env := by rfl) (hpl : (backTo pos (starEach es X.env)).any (·.1) = false := by rfl) :
    PE X (.Call (.Name x p) (e :: es) [] pos) (tGoes (fun f H vs Q E => Goes P w K mg base CX k f H vs Q E) i E ta) := by
  obtain ⟨rfl, rfl, rfl, rfl, rfl⟩ := hX
  refine ⟨fun pins s σ H Q I h => ?_⟩
  obtain ⟨f, hs, ⟨F, b, hf⟩, ht⟩ := h
  refine wpAny_Call_Name_kw (thn ((pe_var (pos := p) hN hv hd hcd).run pins s σ H (fun v G => v = .ref f ∧ G = H) I ⟨.ref f, hs, rfl, rfl⟩) fun u s1 ⟨v, G, I1, r1, ev, eH⟩ => ?_)
  subst ev
  rw [eH] at I1
  obtain rfl : u = Value.ref f := r1
  refine PySem.W.callWith_F (first := []) (lam_fnAt I1.hok hf) (thn (ha.run pos pins s1 σ H _ I1 ht) fun us s2 ⟨vs, H2, I2, r, ⟨F2, b2, h2⟩, g⟩ => ⟨lam_fnAt I2.hok h2, ?_⟩) he hpl
  exact run_goes hr (hx σ) I2 r g
theorem pe_goes0 {P : Program} {w : World} {K : PySem.W.Frag} {mg : Str → Option Value} {base : Heap} {CX : CXT} {x : Str} {i : Nat} {E : L2.St → XK} {p pos : Pos} (hX : X.prog = P ∧ X.w = w ∧ X.K = K ∧ X.mg = mg ∧ X.base = base) (hr : Room k X.A) (hN : X.N[i]? = some x) (hv : Vis X.env.scope x) (hx : ∀ σ, PassesAt CX X σ (E σ))
    (hd : (x == ("__debug__" : Str)) = false := by decide) (hcd : (x == ("__classdict__" : Str)) = false := by decide) :
    PE X (.Call (.Name x p) [] [] pos) (tGoes (fun f H vs Q E => Goes P w K mg base CX k f H vs Q E) i E tNil) := by
  obtain ⟨rfl, rfl, rfl, rfl, rfl⟩ := hX
  refine ⟨fun pins s σ H Q I h => ?_⟩
  obtain ⟨f, hs, ⟨F, b, hf⟩, _, g⟩ := h
  refine wpAny_Call_Name_kw (thn ((pe_var (pos := p) hN hv hd hcd).run pins s σ H (fun v G => v = .ref f ∧ G = H) I ⟨.ref f, hs, rfl, rfl⟩) fun u s1 ⟨v, G, I1, r1, ev, eH⟩ => ?_)
  subst ev
  rw [eH] at I1
  obtain rfl : u = Value.ref f := r1
  refine PySem.W.callWith_F0 (first := []) (lam_fnAt I1.hok hf) ?_
  exact run_goes (us := []) (vs := []) hr (hx σ) I1 .nil g
end
/-! ### a call with the running frame's cells lent -/
structure Lends (cells : List (Str × Addr)) (js : List (Nat × Str)) (σ : L2.St) (H : Hp) (cs : List (Addr × Obj)) : Prop where
  free : ∀ p ∈ cs, H p.1 = none
  all : ∀ q ∈ js, ∃ c o v, cells.lookup q.2 = some c ∧ (c, o) ∈ cs ∧ o.data = .cell v
  has : ∀ q ∈ js, ∀ v, σ[q.1]? = some (some v) → ∃ c o u, cells.lookup q.2 = some c ∧ (c, o) ∈ cs ∧ o.data = .cell (some u) ∧ L2.RelV v u
  inj : ∀ x y c, cells.lookup x = some c → cells.lookup y = some c → x = y
theorem Lends.own {cells : List (Str × Addr)} {js : List (Nat × Str)} {σ : L2.St} {H : Hp} {cs : List (Addr × Obj)} (L : Lends cells js σ H cs) (fn : ∀ p ∈ cs, ∀ q ∈ cs, p.1 = q.1 → p.2 = q.2) : ∀ p ∈ cs, showC H cs p.1 = some (CellO p.1 p.2) := fun p hp => by
  obtain ⟨o, ho, e⟩ := show_in (H := H) (b := p.1) (List.mem_map.mpr ⟨p, hp, rfl⟩)
  rw [e, fn _ hp _ ho rfl]
/-- data of the callers stand as they stood -/
theorem ext_show {cells : List (Str × Addr)} {js : List (Nat × Str)} {σ : L2.St} {H : Hp} {cs : List (Addr × Obj)} (L : Lends cells js σ H cs) {b : Addr} {u : HO} (e : H b = some u) : showC H cs b = some u := (show_out fun hb => by
  obtain ⟨p, hp, z⟩ := List.mem_map.mp hb
  rw [← z, L.free p hp] at e
  cases e).trans e
theorem Lends.caught {cells : List (Str × Addr)} {js : List (Nat × Str)} {σ : L2.St} {H : Hp} {cs : List (Addr × Obj)} (L : Lends cells js σ H cs) (fn : ∀ p ∈ cs, ∀ q ∈ cs, p.1 = q.1 → p.2 = q.2) {names : List (Str × NameKind)} {fr : List Str} {ws : List (Option V)} (hl : ws.length = fr.length) (hn : ∀ y, (y, NameKind.free) ∈ names ↔ y ∈ fr)
    (hs : ∀ (i : Nat) (y : Str), fr[i]? = some y → ∃ j, (j, y) ∈ js ∧ ∀ v, ws[i]? = some (some v) → σ[j]? = some (some v)) : Caught (showC H cs) (cloFrom cells names []) fr ws cs := by
  have inJ : ∀ y, (y, NameKind.free) ∈ names → ∃ j, (j, y) ∈ js := fun y hy => by
    obtain ⟨i, hi⟩ := List.mem_iff_getElem?.mp ((hn y).mp hy)
    obtain ⟨j, hj, _⟩ := hs i y hi
    exact ⟨j, hj⟩
  have hf : ∀ y ∈ names, y.2 = .free → ∃ c, cells.lookup y.1 = some c := fun y hy e => by
    obtain ⟨y1, y2⟩ := y
    have e : y2 = .free := e
    subst e
    obtain ⟨j, hj⟩ := inJ y1 hy
    obtain ⟨c, o, v, h1, _⟩ := L.all _ hj
    exact ⟨c, h1⟩
  have isf : ∀ y c, (cloFrom cells names []).lookup y = some c → (y, NameKind.free) ∈ names := fun y c e => by
    rcases cloFrom_mem (PySem.mem_of_lookup e) with hm | ⟨h1, _⟩
    · cases hm
    · exact h1
  refine ⟨hl, L.own fn, fun y c e => ?_, fun x y c e1 e2 => L.inj x y c (clo_cm hf e1) (clo_cm hf e2), fun i y e => ?_⟩
  · obtain ⟨j, hj⟩ := inJ y (isf y c e)
    obtain ⟨c2, o, v, h1, h2, h3⟩ := L.all _ hj
    have e2 := clo_cm hf e
    rw [h1] at e2
    cases e2
    exact ⟨o, v, h2, h3⟩
  · obtain ⟨j, hj, hv⟩ := hs i y e
    obtain ⟨c, o, v, h1, h2, h3⟩ := L.all _ hj
    refine ⟨c, clo_has hf ((hn y).mpr (List.mem_of_getElem? e)) h1, fun v ev => ?_⟩
    obtain ⟨c2, o2, u, k1, k2, k3, k4⟩ := L.has _ hj v (hv v ev)
    rw [show cells.lookup y = some c from h1] at k1
    cases k1
    exact ⟨u, o2, k4, k2, k3⟩
def tLend (cells : List (Str × Addr)) (js : List (Nat × Str)) (sp : Sp) (t : TA) : TE := fun σ H Q => t σ H fun vs H1 => ∀ cs : List (Addr × Obj), Lends cells js σ H1 cs → (∀ p ∈ cs, ∀ q ∈ cs, p.1 = q.1 → p.2 = q.2) →
  sp vs (showC H1 cs) (fun v H' => (∀ p ∈ cs, H' p.1 = some (CellO p.1 p.2)) ∧ Q v (hideC H' cs)) (fun _ _ _ => False)
section
variable {X : Cx} {pins : List (Addr × Obj)} {σ : L2.St} {H : Hp} {s : Shared}
theorem lends_of (I : Inv X pins σ H s) : ∀ js : List (Nat × Str), (∀ q ∈ js, X.N[q.1]? = some q.2 ∧ X.env.scope.names.lookup q.2 = some .cell) →
    ∃ cs : List (Addr × Obj), Lends X.env.cells js σ H cs ∧ ∀ p ∈ cs, s.heap.get? p.1 = some p.2 ∧ ∃ q ∈ js, X.env.cells.lookup q.2 = some p.1
  | [], _ => ⟨[], ⟨fun _ h => absurd h (by simp), fun _ h => absurd h (by simp), fun _ h => absurd h (by simp), I.ok.inj⟩, fun _ h => absurd h (by simp)⟩
  | q :: js, h => by
    obtain ⟨cs, L, hc⟩ := lends_of I js fun q hq => h q (List.mem_cons_of_mem _ hq)
    obtain ⟨h1, h2⟩ := h q List.mem_cons_self
    obtain ⟨c, hcl⟩ := I.ok.has q.2 (.inl h2)
    obtain ⟨v, o, ho, hd⟩ := I.cell q.2 c hcl
    refine ⟨(c, o) :: cs, ⟨fun p hp => ?_, fun p hp => ?_, fun p hp w hw => ?_, I.ok.inj⟩, fun p hp => ?_⟩
    · rcases List.mem_cons.mp hp with rfl | hp
      · exact I.freeC q.2 c hcl
      · exact L.free p hp
    · rcases List.mem_cons.mp hp with rfl | hp
      · exact ⟨c, o, v, hcl, List.mem_cons_self, hd⟩
      · obtain ⟨c2, o2, v2, z1, z2, z3⟩ := L.all p hp
        exact ⟨c2, o2, v2, z1, List.mem_cons_of_mem _ z2, z3⟩
    · rcases List.mem_cons.mp hp with rfl | hp
      · obtain ⟨m, _, hl⟩ := I.loc
        obtain ⟨u, r, l⟩ := hl p.1 p.2 w h1 hw (.inr (.inl h2))
        rcases l with ⟨z, _⟩ | ⟨_, c2, hc2, o2, ho2, hd2⟩
        · have z : X.env.scope.names.lookup p.2 = some .local := z
          rw [h2] at z
          cases z
        · rw [hcl] at hc2
          cases hc2
          rw [ho] at ho2
          cases ho2
          exact ⟨c, o, u, hcl, List.mem_cons_self, hd2, r⟩
      · obtain ⟨c2, o2, u, z1, z2, z3, z4⟩ := L.has p hp w hw
        exact ⟨c2, o2, u, z1, List.mem_cons_of_mem _ z2, z3, z4⟩
    · rcases List.mem_cons.mp hp with rfl | hp
      · exact ⟨ho, q, List.mem_cons_self, hcl⟩
      · obtain ⟨z1, q2, z2, z3⟩ := hc p hp
        exact ⟨z1, q2, List.mem_cons_of_mem _ z2, z3⟩
theorem run_lend {k : Nat} {f : Addr} {fd : FuncData} {ps : List Str} {sp : Sp} {js : List (Nat × Str)} {Q : VK} {us : List Value} {vs : List V} (F : FnOk X.prog X.w X.K X.mg X.base L2.CX0 k f fd ps sp) (hr : Room k X.A) (hb : Binds X.K fd ps [])
    (hjs : ∀ q ∈ js, X.N[q.1]? = some q.2 ∧ X.env.scope.names.lookup q.2 = some .cell ∧ X.fn q.2 = true) (I : Inv X pins σ H s) (r : Vals vs us)
    (h : ∀ cs : List (Addr × Obj), Lends X.env.cells js σ H cs → (∀ p ∈ cs, ∀ q ∈ cs, p.1 = q.1 → p.2 = q.2) → sp vs (showC H cs) (fun v H' => (∀ p ∈ cs, H' p.1 = some (CellO p.1 p.2)) ∧ Q v (hideC H' cs)) (fun _ _ _ => False)) :
    wpAny (model X.prog X.w) X.A (call (.ref f) us) (EP X pins σ Q) X.xe s := by
  obtain ⟨cs, L, hc⟩ := lends_of I js fun q hq => ⟨(hjs q hq).1, (hjs q hq).2.1⟩
  have one : ∀ p ∈ cs, ∀ q ∈ cs, p.1 = q.1 → p.2 = q.2 := fun p hp q hq e => by
    have z1 := (hc p hp).1
    have z2 := (hc q hq).1
    rw [e, z2] at z1
    exact (Option.some.inj z1).symm
  have q := h cs L one
  have high : ∀ b ∈ cs.map (·.1), X.s_0.heap.objs.size ≤ b ∧ b ≠ X.env.locals := fun b hb => by
    obtain ⟨p, hp, e⟩ := List.mem_map.mp hb
    obtain ⟨_, q, hq, hl⟩ := hc p hp
    rw [← e]
    exact ⟨I.ok.cab q.2 p.1 (hjs q hq).2.2 hl, I.cne q.2 p.1 hl⟩
  have outS : ∀ b ∈ frs X.stack, b ∉ cs.map (·.1) := fun b hb hm => by
    obtain ⟨h1, h2⟩ := high b hm
    rcases List.mem_cons.mp (I.stkSub b hb) with e | hf
    · exact h2 e
    · obtain ⟨_, o, ho, _⟩ := I.ok.funs.mem hf
      exact Nat.lt_irrefl _ (Nat.lt_of_lt_of_le (Heap.lt_size ho) h1)
  have E0 := I.env0
  have hokS : HOk X.prog X.w (showC H cs) s.heap := hok_show I.hok L.free fun p hp => (hc p hp).1
  have e1 : Env0 X.prog X.w X.K X.mg X.base X.A X.stack s (showC H cs) := ⟨E0.frames, E0.mod, fun b o e => ⟨(E0.bs b o e).1, (show_out fun hm => Nat.lt_irrefl _ (Nat.lt_of_lt_of_le (Heap.lt_size (I.ok.bs b o e).1) (high b hm).1)).trans (E0.bs b o e).2⟩, E0.bsz, E0.funs, fun b hb => (show_out (outS b hb)).trans (E0.frf b hb), hokS, E0.bare⟩
  have hl : us.length = ps.length := by rw [← r.length]; exact F.len _ _ _ _ q
  have hb2 := hb s us I.kIn (by rw [List.append_nil]; exact hl)
  rw [List.append_nil] at hb2
  refine wpAny_call (codeAny_mono (F.run X.A X.stack s _ ⟨us, []⟩ us vs _ _ hr e1 hb2 r q) fun r s' hq => ?_)
  cases r with
  | error e => exact (show False from hq).elim
  | ok fl =>
    cases fl with
    | ret u =>
      obtain ⟨v, H', os, bare, un, hok', rv, own', qq⟩ := hq
      have at1 : ∀ p ∈ cs, s'.heap.get? p.1 = some p.2 := fun p hp => (hok' p.1 _ (own' p hp)).1
      have cellK : ∀ b o, b ∈ cs.map (·.1) → s.heap.get? b = some o → s'.heap.get? b = some o := fun b o hb e => by
        obtain ⟨p, hp, z⟩ := List.mem_map.mp hb
        rw [← z] at e ⊢
        rw [(hc p hp).1] at e
        cases e
        exact at1 p hp
      have tracked : ∀ b u, H b = some u → b ∉ cs.map (·.1) := fun b u e hb => by
        obtain ⟨p, hp, z⟩ := List.mem_map.mp hb
        rw [← z, L.free p hp] at e
        cases e
      have un2 : Un (frs X.stack) [] H (hideC H' cs) s.heap s'.heap := by
        refine ⟨fun b o e n hb hx => ?_, fun b o e n hb hx => un.slot b o e ((show_out (outS b hb)).trans n) hb hx, fun b o e n hx => ?_, un.there, fun b xs e => ?_, fun b o u e => ?_, fun b ps e => ?_⟩
        · by_cases hm : b ∈ cs.map (·.1)
          · exact cellK b o hm e
          · exact un.keep b o e ((show_out hm).trans n) hb hx
        · by_cases hm : b ∈ cs.map (·.1)
          · exact hide_in hm
          · exact (hide_out hm).trans (un.free b o e ((show_out hm).trans n) hx)
        · have m := tracked b _ e
          exact (hide_out m).trans (un.tups b xs ((show_out m).trans e))
        · have m := tracked b _ e
          exact (hide_out m).trans (un.frzs b o u ((show_out m).trans e))
        · have m := tracked b _ e
          obtain ⟨more, z⟩ := un.tbls b ps ((show_out m).trans e)
          exact ⟨more, (hide_out m).trans z⟩
      exact ⟨v, hideC H' cs, I.call' (ch := []) os un2 (hok_hide hok' own') bare (fun _ z => nomatch z), rv, qq⟩
    | next => exact False.elim hq
    | brk => exact False.elim hq
    | cont => exact False.elim hq
theorem pe_lend {k : Nat} {f : Addr} {fd : FuncData} {ps : List Str} {sp : Sp} {js : List (Nat × Str)} {x : Str} {p pos : Pos} {e : Expr} {es : List Expr} {t : TA} (hjs : ∀ q ∈ js, X.N[q.1]? = some q.2 ∧ X.env.scope.names.lookup q.2 = some .cell ∧ X.fn q.2 = true) (F : FnOk X.prog X.w X.K X.mg X.base L2.CX0 k f fd ps sp) (hr : Room k X.A) (hg : Gl X x) (hm : X.mg x = some (.ref f)) (hk : PySem.W.keepIn X.K (.ref f) = true) (hb : Binds X.K fd ps [])
    (ha : PA X (e :: es) t) (hdb : (x == ("__debug__" : Str)) = false := by decide) (he : starEach (e :: es) X.env = (false, eval e X.env) :: starEach es X.env := by rfl) (hpl : (backTo pos (starEach es X.env)).any (·.1) = false := by rfl) :
    PE X (.Call (.Name x p) (e :: es) [] pos) (tLend X.env.cells js sp t) := by
  refine ⟨fun pins s σ H Q I h => ?_⟩
  refine wpAny_Call_Name_kw (ld_glob I hg hm ?_ hdb)
  refine PySem.W.callWith_K (h₀ := X.base) I.ok.mod.kin hk (thn (ha.run pos pins s σ H _ I h) fun us s1 ⟨vs, H1, I1, r, q⟩ => ⟨I1.kIn, ?_⟩) he hpl
  exact run_lend F hr hb hjs I1 r q
end
def lendB (N : List Str) (sc : Scope) (js : List (Nat × Str)) : Bool := js.all fun q => decide (N[q.1]? = some q.2) && decide (sc.names.lookup q.2 = some .cell)
theorem lend_by {X : Cx} {N : List Str} {sc : Scope} {js : List (Nat × Str)} (h : lendB N sc js = true) (hN : X.N = N) (hs : X.env.scope = sc) (hf : ∀ x, X.fn x = true) : ∀ q ∈ js, X.N[q.1]? = some q.2 ∧ X.env.scope.names.lookup q.2 = some .cell ∧ X.fn q.2 = true := fun q hq => by
  have z := List.all_eq_true.mp h q hq
  rw [Bool.and_eq_true, decide_eq_true_eq, decide_eq_true_eq] at z
  exact ⟨by rw [hN]; exact z.1, by rw [hs]; exact z.2, hf _⟩
theorem Goes.imp {P : Program} {w : World} {K : PySem.W.Frag} {mg : Str → Option Value} {base : Heap} {k : Nat} {f : Addr} {H : Hp} {vs : List V} {Q Q' : VK} {E E' : XK} (g : Goes P w K mg base (L2.CX P w) k f H vs Q E) (hQ : ∀ v H', Q v H' → Q' v H') (hE : ∀ c d H', E c d H' → E' c d H') : Goes P w K mg base (L2.CX P w) k f H vs Q' E' := by
  intro A outer s us hr e0 r
  refine codeAny_mono (g A outer s us hr e0 r) fun x s' h => ?_
  cases x with
  | ok fl =>
    cases fl with
    | ret u =>
      obtain ⟨v, H', h1, h2, h3, h4, h5, h6⟩ := h
      exact ⟨v, H', h1, h2, h3, h4, h5, hQ _ _ h6⟩
    | next => exact h
    | brk => exact h
    | cont => exact h
  | error e =>
    obtain ⟨a, B, H', cls, d, h1, h2, h3, h4, h5, h6, h7, h8⟩ := h
    exact ⟨a, B, H', cls, d, h1, h2, h3, h4, h5, h6, h7, hE _ _ _ h8⟩
section
variable {cells : List (Str × Addr)} {js : List (Nat × Str)} {σ : L2.St} {H H' : Hp} {cs : List (Addr × Obj)}
theorem show_same {b : Addr} (h : b ∈ cs.map (·.1)) : showC H cs b = showC H' cs b := by
  unfold showC
  cases z : cs.find? (fun p => decide (p.1 = b)) with
  | some p => rfl
  | none =>
    obtain ⟨p, hp, e⟩ := List.mem_map.mp h
    exact absurd (decide_eq_true e) (List.find?_eq_none.mp z p hp)
theorem show_ext (e : Ext [] H H') : Ext [] (showC H cs) (showC H' cs) := by
  have cell : ∀ b u, b ∈ cs.map (·.1) → showC H cs b = some u → ∃ o, u = CellO b o := fun b u hb z => by
    obtain ⟨o, _, q⟩ := show_in (H := H) hb
    rw [q] at z
    exact ⟨o, (Option.some.inj z).symm⟩
  refine ⟨fun b xs z => ?_, fun b o u z => ?_, fun b ps z t => ?_, fun b xs n z => ?_, fun b u n t z => ?_, fun b z => ?_⟩
  · by_cases hb : b ∈ cs.map (·.1)
    · obtain ⟨o, q⟩ := cell b _ hb z
      cases q
    · rw [show_out hb] at z ⊢
      exact e.tup b xs z
  · by_cases hb : b ∈ cs.map (·.1)
    · obtain ⟨o, q⟩ := cell b _ hb z
      cases q
    · rw [show_out hb] at z ⊢
      exact e.frz b o u z
  · by_cases hb : b ∈ cs.map (·.1)
    · obtain ⟨o, q⟩ := cell b _ hb z
      cases q
    · rw [show_out hb] at z ⊢
      exact e.tbl b ps z t
  · by_cases hb : b ∈ cs.map (·.1)
    · obtain ⟨o, q⟩ := cell b _ hb z
      cases q
    · rw [show_out hb] at z ⊢
      exact e.lst b xs n z
  · by_cases hb : b ∈ cs.map (·.1)
    · rw [← show_same (H := H) hb]
      exact z
    · rw [show_out hb] at z ⊢
      exact e.oth b u n t z
  · by_cases hb : b ∈ cs.map (·.1)
    · obtain ⟨o, _, q⟩ := show_in (H := H') hb
      rw [q] at z
      cases z
    · rw [show_out hb] at z ⊢
      exact e.dom b z
theorem lend_back (L : Lends cells js σ H cs) (one : ∀ p ∈ cs, ∀ q ∈ cs, p.1 = q.1 → p.2 = q.2) (e : Ext [] (showC H cs) H') : (∀ p ∈ cs, H' p.1 = some (CellO p.1 p.2)) ∧ Ext [] H (hideC H' cs) := by
  have out : ∀ b u, H b = some u → b ∉ cs.map (·.1) := fun b u z hb => by
    obtain ⟨p, hp, q⟩ := List.mem_map.mp hb
    rw [← q, L.free p hp] at z
    cases z
  refine ⟨fun p hp => e.oth p.1 _ (by simp) (fun ps z => by cases z) (L.own one p hp), ?_⟩
  refine ⟨fun b xs z => (hide_out (out b _ z)).trans (e.tup b xs (ext_show L z)), fun b o u z => (hide_out (out b _ z)).trans (e.frz b o u (ext_show L z)), fun b ps z t => ?_, fun b xs n z => (hide_out (out b _ z)).trans (e.lst b xs n (ext_show L z)), fun b u n t z => (hide_out (out b _ z)).trans (e.oth b u n t (ext_show L z)), fun b z => ?_⟩
  · obtain ⟨ps', h1, h2⟩ := e.tbl b ps (ext_show L z) t
    exact ⟨ps', (hide_out (out b _ z)).trans h1, h2⟩
  · by_cases hb : b ∈ cs.map (·.1)
    · obtain ⟨p, hp, q⟩ := List.mem_map.mp hb
      rw [← q]
      exact L.free p hp
    · rw [hide_out hb] at z
      have := e.dom b z
      rw [show_out hb] at this
      exact this
/-- behind cells that were shown: what stood without them -/
theorem back_ext {ex : List Addr} (free : ∀ p ∈ cs, H p.1 = none) (e : Ext ex (showC H cs) H') : Ext ex H (hideC H' cs) := by
  have out : ∀ b u, H b = some u → b ∉ cs.map (·.1) := fun b u z hb => by
    obtain ⟨p, hp, q⟩ := List.mem_map.mp hb
    rw [← q, free p hp] at z
    cases z
  have sh : ∀ b u, H b = some u → showC H cs b = some u := fun b u z => (show_out (out b u z)).trans z
  refine ⟨fun b xs z => (hide_out (out b _ z)).trans (e.tup b xs (sh b _ z)), fun b o u z => (hide_out (out b _ z)).trans (e.frz b o u (sh b _ z)), fun b ps z t => ?_, fun b xs n z => (hide_out (out b _ z)).trans (e.lst b xs n (sh b _ z)), fun b u n t z => (hide_out (out b _ z)).trans (e.oth b u n t (sh b _ z)), fun b z => ?_⟩
  · obtain ⟨ps', h1, h2⟩ := e.tbl b ps (sh b _ z) t
    exact ⟨ps', (hide_out (out b _ z)).trans h1, h2⟩
  · by_cases hb : b ∈ cs.map (·.1)
    · obtain ⟨p, hp, q⟩ := List.mem_map.mp hb
      rw [← q]
      exact free p hp
    · rw [hide_out hb] at z
      have := e.dom b z
      rw [show_out hb] at this
      exact this
/-- cells that are shown: nothing else changes -/
theorem ext_lend (L : Lends cells js σ H cs) : Ext [] H (showC H cs) :=
  ⟨fun b xs z => ext_show L z, fun b o u z => ext_show L z, fun b ps z t => ⟨ps, ext_show L z, t⟩, fun b xs _ z => ext_show L z, fun b u _ _ z => ext_show L z, fun b z => by
    by_cases hb : b ∈ cs.map (·.1)
    · obtain ⟨o, _, q⟩ := show_in (H := H) hb
      rw [q] at z
      cases z
    · rw [show_out hb] at z
      exact z⟩
theorem IsLam.show {f : Addr} (h : IsLam H f) (L : Lends cells js σ H cs) : IsLam (showC H cs) f := let ⟨F, b, z⟩ := h; ⟨F, b, ext_show L z⟩
/-- a lambda of the running frame, where that frame's cells are lent: by its body's reading -/
theorem Lam.lent {P : Program} {w : World} {K : PySem.W.Frag} {mg : Str → Option Value} {base : Heap} {k : Nat} {f c : Addr} {names : List (Str × NameKind)} {N ps fr : List Str} {t : XK → TE} {ws : List (Option V)} {vs : List V} {Q : VK} {E : XK}
    (Lm : Lam P w K mg base (L2.CX P w) k H f c (cloFrom cells names []) N ps fr t) (L : Lends cells js σ H cs) (one : ∀ p ∈ cs, ∀ q ∈ cs, p.1 = q.1 → p.2 = q.2) (hl : ws.length = fr.length) (hn : ∀ y, (y, NameKind.free) ∈ names ↔ y ∈ fr)
    (hs : ∀ (i : Nat) (y : Str), fr[i]? = some y → ∃ j, (j, y) ∈ js ∧ ∀ v, ws[i]? = some (some v) → σ[j]? = some (some v)) (hvs : vs.length = ps.length) (q : t (fun c d H' => E c d (showC H' cs)) (startF N vs ws) H (fun v H' => Q v (showC H' cs))) : Goes P w K mg base (L2.CX P w) k f (showC H cs) vs Q E := by
  obtain ⟨F, b, h1, h2, h3, h4, h5⟩ := id Lm.ex
  have out : ∀ b u, H b = some u → b ∉ cs.map (·.1) := fun b u z hb => by
    obtain ⟨p, hp, q⟩ := List.mem_map.mp hb
    rw [← q, L.free p hp] at z
    cases z
  have Ls : Lam P w K mg base (L2.CX P w) k (showC H cs) f c (cloFrom cells names []) N ps fr t := ⟨F, b, h1, h2, ext_show L h3, ext_show L h4, h5⟩
  refine Ls.goes (L.caught one hl hn hs) (out f _ h3) (out c _ h4) hvs ?_
  rw [hide_show L.free]
  exact q
end
end LM
namespace LM
open PySem PySem.Spec PyProof.Rows L2 NdefX LamX GD
/-! ### a def whose last row is a return: its cells are tracked behind it -/
structure PSr (X : Cx) (st : List Stmt) (t : (L2.St → VK) → L2.St → Hp → Prop) : Prop where
  run : ∀ (pins : List (Addr × Obj)) (s : Shared) (σ : L2.St) (H : Hp) (R : L2.St → VK), Inv X pins σ H s → t R σ H → wpAny (model X.prog X.w) X.A (execs st X.env) (fun fl s' => ∃ u v σ' H', fl = .ret u ∧ Inv X pins σ' H' s' ∧ L2.RelV v u ∧ R σ' v H') X.xe s
section
variable {X : Cx}
theorem psr_cons {st : Stmt} {rest : List Stmt} {t : TS} {u : (L2.St → VK) → L2.St → Hp → Prop} (h1 : PS X st t) (h2 : PSr X rest u) : PSr X (st :: rest) (fun R σ H => t { nx := u R, rt := fun _ _ => False } σ H) := by
  refine ⟨fun pins s σ H R I h => ?_⟩
  refine wpAny_execs_cons (thn (h1.run pins s σ H _ I h) fun f s1 q => ?_)
  cases f with
  | next =>
    obtain ⟨σ', H', I', q⟩ := q
    exact h2.run pins s1 σ' H' R I' q
  | ret v =>
    obtain ⟨_, _, _, _, _, q⟩ := q
    exact False.elim q
  | brk =>
    obtain ⟨_, _, _, q⟩ := q
    exact False.elim q
  | cont =>
    obtain ⟨_, _, _, q⟩ := q
    exact False.elim q
theorem psr_ret {e : Expr} {pos : Pos} {te : TE} (he : PE X e te) : PSr X [.Return (some e) pos] (fun R σ H => te σ H (R σ)) := by
  refine ⟨fun pins s σ H R I h => ?_⟩
  refine wpAny_execs_cons (wpAny_Return_some (thn (he.run pins s σ H _ I h) fun v s1 ⟨x, H1, I1, r1, q1⟩ => ?_))
  exact ⟨v, x, σ, H1, rfl, I1, r1, q1⟩
end
theorem PSr.nox {X : Cx} {st : List Stmt} {t : (L2.St → VK) → L2.St → Hp → Prop} (h : PSr X.nox st t) : PSr X st t := ⟨fun pins s σ H R I hw =>
  wpAny_mono (h.run pins s σ H R (I.wish _) hw) (fun _ _ ⟨u, v, σ', H', e, I', r, q⟩ => ⟨u, v, σ', H', e, I'.unwish, r, q⟩) fun _ _ z => False.elim z⟩
theorem okTA {P : Program} {w : World} {K : PySem.W.Frag} {mg : Str → Option Value} {base : Heap} {x qual : Str} {params : Arguments} {body : List Stmt} {scope : Scope} {dvs : List V} {kws : List (Str × V)} {f c : Addr} {fd : FuncData} {N ps : List Str} {k : Nat} {sp : Sp} {js : List (Nat × Str)}
    (F : FunD K x qual params body scope dvs kws f fd) (hc : fd.code = .ref c) (S : FnScope N ps scope) (hjs : lendB N scope js = true) (len : ∀ vs H Q E, sp vs H Q E → vs.length = ps.length)
    (hbody : ∀ (A : Around) (outer : List Env) (s : Shared) (H : Hp) (vs : List V) (Q : VK) (E : XK), Room k (A.deeper (envOfC qual scope s.heap.objs.size f (.ref c))) → sp vs H Q E →
      ∃ t, PSr (cxOf L2.CX0 P w K mg base N qual scope f (.ref c) A outer s H E) body t ∧ t (fun σ v H2 => ∀ cs : List (Addr × Obj), Lends (cellsFrom (s.heap.objs.size + 1) scope.names []) js σ H2 cs → (∀ p ∈ cs, ∀ q ∈ cs, p.1 = q.1 → p.2 = q.2) → Q v (showC H2 cs)) (L2.start N vs) H) : FnOk P w K mg base L2.CX0 (k + 1) f fd ps sp := by
  obtain ⟨oc, od, dV, kV, doc, pm, an, cdv, ct, osl, rfl, lk, hcd, _, _⟩ := F.ex
  have e : cdv = .ref c := hc
  subst e
  refine ⟨len, fun A outer s H args us vs Q E hr e0 hb r hsp => ?_⟩
  have hl := len _ _ _ _ hsp
  have KX : K.In s.heap := e0.mod.kin.keeps fun b o e => (e0.bs b o e).1
  have lim : s.heap.NoLimit := e0.mod.nolimit.keeps fun b o e => (e0.bs b o e).1
  have kinds : ∀ y ∈ ps.zip us, scope.names.lookup y.1 = some .local ∨ (scope.names.lookup y.1 = some .cell ∧ ((cellsFrom (s.heap.objs.size + 1) scope.names []).lookup y.1).isSome = true) := fun ⟨n, v⟩ hy => (S.par n (List.of_mem_zip hy).1).elim .inl fun q => .inr ⟨q, PySem.W.cellsFrom_some _ _ _ (.inl q)⟩
  refine codeAny_call_function hr.depth (KX _ _ lk) rfl S.co S.gen rfl (PySem.W.codeRec_of KX hcd) (hb _ _ _ _ ?_)
  refine wpAny_newFunctionEnv_cells S.kind kinds fun env he s1 z => ?_
  subst he
  refine ⟨lim.keeps z.toInCall.keep, codeAny_func ?_⟩
  obtain ⟨t, ht, hq⟩ := hbody A outer s H vs Q E (hr.deeper _) hsp
  have I : Inv (cxOf L2.CX0 P w K mg base N qual scope f (.ref c) A outer s H E) [] (L2.start N vs) H s1 := inv_start S hr.hd e0 hl r z
  refine wpAny_mono (ht.run [] s1 (L2.start N vs) H _ I hq) (fun fl s' hs => ?_) fun e s' hs => hs
  obtain ⟨u, v, σ', H', rfl, J, rv, q⟩ := hs
  have hj : ∀ p ∈ js, N[p.1]? = some p.2 ∧ scope.names.lookup p.2 = some .cell := fun p hp => by
    have y := List.all_eq_true.mp hjs p hp
    rw [Bool.and_eq_true, decide_eq_true_eq, decide_eq_true_eq] at y
    exact y
  obtain ⟨cs, L, hcs⟩ := lends_of J js hj
  have one : ∀ p ∈ cs, ∀ q ∈ cs, p.1 = q.1 → p.2 = q.2 := fun p hp q hq e => by
    have z1 := (hcs p hp).1
    have z2 := (hcs q hq).1
    rw [e, z2] at z1
    exact (Option.some.inj z1).symm
  have fin := q cs L one
  have high : ∀ b ∈ cs.map (·.1), s.heap.objs.size ≤ b := fun b hb => by
    obtain ⟨p, hp, e⟩ := List.mem_map.mp hb
    obtain ⟨_, q, hq, hl⟩ := hcs p hp
    rw [← e]
    exact J.ok.cab q.2 p.1 rfl hl
  have out : ∀ b u, H' b = some u → b ∉ cs.map (·.1) := fun b u e hb => by
    obtain ⟨p, hp, y⟩ := List.mem_map.mp hb
    rw [← y, L.free p hp] at e
    cases e
  have un : Un (frs outer) [] H H' s.heap s'.heap := J.base
  refine ⟨v, showC H' cs, J.os, J.bare, ⟨un.keep, un.slot, fun b o e n hx => ?_, un.there, fun b xs e => ?_, fun b o u e => ?_, fun b ps e => ?_⟩, hok_show J.hok L.free fun p hp => (hcs p hp).1, rv, fin⟩
  · exact (show_out fun hb => Nat.lt_irrefl _ (Nat.lt_of_lt_of_le (Heap.lt_size e) (high b hb))).trans (un.free b o e n hx)
  · have y := un.tups b xs e
    exact (show_out (out b _ y)).trans y
  · have y := un.frzs b o u e
    exact (show_out (out b _ y)).trans y
  · obtain ⟨more, y⟩ := un.tbls b ps e
    exact ⟨more, (show_out (out b _ y)).trans y⟩
end LM
namespace GD
theorem all1 {α : Type} {p : α → Prop} {a : α} (h : p a) : ∀ x ∈ [a], p x := fun x hx => by rw [List.mem_singleton.mp hx]; exact h
theorem allC {α : Type} {p : α → Prop} {a : α} {as : List α} (h : p a) (hs : ∀ x ∈ as, p x) : ∀ x ∈ a :: as, p x := fun x hx => by
  rcases List.mem_cons.mp hx with rfl | hx
  · exact h
  · exact hs x hx
theorem allN {α : Type} {p : α → Prop} : ∀ x ∈ ([] : List α), p x := fun x hx => absurd hx (by simp)
end GD

namespace GD
open PySem PySem.Spec PyProof.Rows L2 GxR GX GS GT GC
/-! ### tables looked at -/
theorem tdTup {K : PySem.W.Frag} {H : Hp} {v : V} {ds : List PyData} (h : Td K H v (.tuple ds)) : ∃ a xs, v = .ref a ∧ SqT K H a xs ∧ TdAll K H xs ds := by
  cases h with
  | tup h1 h2 => exact ⟨_, _, rfl, h1, h2⟩
theorem tdLenS {K : PySem.W.Frag} {H : Hp} : ∀ {vs : List V} {ds : List PyData}, TdAll K H vs ds → vs.length = ds.length
  | _, _, .nil => rfl
  | _, _, .cons _ t => congrArg (· + 1) (tdLenS t)
theorem tdGetS {K : PySem.W.Frag} {H : Hp} : ∀ {vs : List V} {ds : List PyData} {i : Nat} {x : V}, TdAll K H vs ds → vs[i]? = some x → ∃ d, ds[i]? = some d ∧ Td K H x d
  | _, _, 0, _, .cons a _, h => ⟨_, rfl, by cases h; exact a⟩
  | _, _, i + 1, _, .cons _ t, h => tdGetS (i := i) t h
def rowR (k : Book) (now w1 w2 : Int) (n : Nat) (pl : List (Option Int)) (i : Nat) (p : Int × PyData) : Bool := match p.2 with
  | .tuple [.int g, e] => decide (g = p.1) && showsR k now w1 w2 n (putP pl i p.1) e
  | _ => false
theorem showsR_cases {k : Book} {now w1 w2 : Int} {n : Nat} {pl : List (Option Int)} {s : Str} {b : Int} {rs : List PyData} (hd : PyData.eqv (.tuple [.str s, .int b, .tuple rs]) doneD = false) :
    showsR k now w1 w2 (n + 1) pl (.tuple [.str s, .int b, .tuple rs]) = (decide (s = "cases") && openB pl b && decide (rs.length = (betterL k now pl b.toNat w1 w2).length) && ((betterL k now pl b.toNat w1 w2).zip rs).all (rowR k now w1 w2 n pl b.toNat)) := by
  conv => lhs; unfold showsR
  rw [if_neg (by rw [hd]; decide)]
  rfl
theorem showsR_other {k : Book} {now w1 w2 : Int} {n : Nat} {pl : List (Option Int)} {ds : List PyData} (hd : PyData.eqv (.tuple ds) doneD = false) (h : ds.length ≠ 3) : showsR k now w1 w2 (n + 1) pl (.tuple ds) = false := by
  conv => lhs; unfold showsR
  rw [if_neg (by rw [hd]; decide)]
  split
  · rename_i e
    cases e
    exact absurd rfl h
  · rfl
theorem lay_mem {n : Nat} : ∀ {ds : List PyData} {r : PyData}, PyData.canLayAll0 ds = true → PyData.depthAll ds ≤ n → r ∈ ds → r.canLay0 = true ∧ r.depth ≤ n
  | d :: ds, r, h1, h2, h => by
    have h1 : (PyData.canLay0 d && PyData.canLayAll0 ds) = true := h1
    have h2 : max (PyData.depth d) (PyData.depthAll ds) ≤ n := h2
    rw [Bool.and_eq_true] at h1
    rcases List.mem_cons.mp h with rfl | h
    · exact ⟨h1.1, by omega⟩
    · exact lay_mem h1.2 (by omega) h
theorem lay_in {ds : List PyData} {r : PyData} (h : (PyData.tuple ds).canLay0 = true ∧ (PyData.tuple ds).depth ≤ 60) (hr : r ∈ ds) : r.canLay0 = true ∧ r.depth ≤ 60 := by
  have h2 : PyData.depthAll ds + 1 ≤ 60 := h.2
  exact lay_mem (n := 60) h.1 (by omega) hr
theorem all_next {α : Type} {f : α → Bool} {xs : List α} {j : Nat} {x : α} (h : xs[j]? = some x) (hx : f x = true) (ha : (xs.take j).all f = true) : (xs.take (j + 1)).all f = true := by
  rw [List.take_add_one, h, List.all_append, ha]
  show ([x].all f) = true
  simp [hx]
theorem all_no {α : Type} {f : α → Bool} {xs : List α} {j : Nat} {x : α} (h : xs[j]? = some x) (hx : f x = false) : xs.all f = false := by
  rw [List.all_eq_false]
  exact ⟨x, List.mem_of_getElem? h, by rw [hx]; decide⟩
theorem lay_done : doneD.canLay0 = true ∧ doneD.depth ≤ 60 := ⟨by decide +kernel, by decide +kernel⟩
/-- the barges without an hour -/
def openN (pl : List (Option Int)) (n : Nat) : List Nat := (List.range n).filter fun i => decide (pl.getD i none = none)
theorem openN_succ (pl : List (Option Int)) (n : Nat) : openN pl (n + 1) = openN pl n ++ (if pl.getD n none = none then [n] else []) := by
  unfold openN
  rw [List.range_succ, List.filter_append]
  congr 1
  by_cases h : pl.getD n none = none
  · rw [if_pos h]
    show List.filter _ [n] = [n]
    rw [List.filter_cons_of_pos (by rw [decide_eq_true h])]
    rfl
  · rw [if_neg h]
    show List.filter _ [n] = []
    rw [List.filter_cons_of_neg (by rw [decide_eq_false h]; decide)]
    rfl
theorem openN_len (pl : List (Option Int)) (n : Nat) : (openN pl n).length ≤ n := by
  unfold openN
  refine Nat.le_trans (List.length_filter_le _ _) ?_
  rw [List.length_range]
  exact Nat.le_refl _
theorem openN_mem {pl : List (Option Int)} {n x : Nat} : x ∈ openN pl n ↔ x < n ∧ pl.getD x none = none := by
  unfold openN
  rw [List.mem_filter, List.mem_range, decide_eq_true_eq]
theorem inV_natsI (b : Int) (xs : List Nat) : inV (.int b) (natsV xs) = decide (∃ n ∈ xs, (n : Int) = b) := by
  rw [Bool.eq_iff_iff, decide_eq_true_eq]
  unfold inV natsV
  rw [List.any_map, List.any_eq_true]
  constructor
  · rintro ⟨x, hx, e⟩
    have e2 : eqV (V.int (x : Int)) (V.int b) = true := e
    exact ⟨x, hx, by simpa [eqV] using e2⟩
  · rintro ⟨x, hx, e⟩
    exact ⟨x, hx, by show eqV (V.int (x : Int)) (V.int b) = true; simp [eqV, e]⟩
theorem inV_open (pl : List (Option Int)) (b : Int) : inV (.int b) (natsV (openN pl pl.length)) = openB pl b := by
  rw [inV_natsI]
  unfold openB
  rw [← Bool.decide_and, ← Bool.decide_and]
  refine decide_eq_decide.mpr ⟨?_, ?_⟩
  · rintro ⟨n, hn, rfl⟩
    obtain ⟨h1, h2⟩ := openN_mem.mp hn
    exact ⟨⟨by omega, by omega⟩, by rw [Int.toNat_natCast]; exact h2⟩
  · rintro ⟨⟨h1, h2⟩, h3⟩
    exact ⟨b.toNat, openN_mem.mpr ⟨by omega, h3⟩, by omega⟩
/-- the hours by which a plan with one more is better than a worth and stays good: by the law's own look -/
def dueB (k : Book) (w1 w2 : Int) (pl : List (Option Int)) (i : Nat) (h : Int) : Prop := HT.lexLt [((hoursL (putP pl i h)).length : Int), (waitsN k (putP pl i h) (putP pl i h).length).sum] [w1, w2] = true ∧ allR k (putP pl i h) = []
instance (k : Book) (w1 w2 : Int) (pl : List (Option Int)) (i : Nat) (h : Int) : Decidable (dueB k w1 w2 pl i h) := by
  unfold dueB
  have : Decidable (allR k (putP pl i h) = []) := decidable_of_iff ((allR k (putP pl i h)).isEmpty = true) List.isEmpty_iff
  infer_instance
def dueN (k : Book) (w1 w2 : Int) (pl : List (Option Int)) (i : Nat) (now : Int) (n : Nat) : List Int := ((List.range n).map fun j : Nat => now + (j : Int)).filter fun h => decide (dueB k w1 w2 pl i h)
theorem dueN_succ (k : Book) (w1 w2 : Int) (pl : List (Option Int)) (i : Nat) (now : Int) (n : Nat) : dueN k w1 w2 pl i now (n + 1) = dueN k w1 w2 pl i now n ++ (if dueB k w1 w2 pl i (now + (n : Int)) then [now + (n : Int)] else []) := by
  unfold dueN
  rw [range_snoc, List.filter_append]
  congr 1
  by_cases h : dueB k w1 w2 pl i (now + (n : Int))
  · rw [if_pos h, List.filter_cons_of_pos (by rw [decide_eq_true h])]
    rfl
  · rw [if_neg h, List.filter_cons_of_neg (by rw [decide_eq_false h]; decide)]
    rfl
theorem dueN_len (k : Book) (w1 w2 : Int) (pl : List (Option Int)) (i : Nat) (now : Int) (n : Nat) : (dueN k w1 w2 pl i now n).length ≤ n := by
  unfold dueN
  refine Nat.le_trans (List.length_filter_le _ _) ?_
  rw [List.length_map, List.length_range]
  exact Nat.le_refl _
theorem dueN_better {k : Book} (ok : k.Ok) {pl : List (Option Int)} (okp : PlOk k.bs.length pl) (good : allR k pl = []) {i : Nat} (hop : pl[i]? = some none) {now w1 w2 : Int} (h0 : 0 ≤ now) (h12 : now ≤ 12) : dueN k w1 w2 pl i now (12 - now).toNat = betterL k now pl i w1 w2 := by
  unfold dueN betterL fitsL
  rw [List.filter_filter]
  have e : hoursF now = (List.range (12 - now).toNat).map fun j : Nat => now + (j : Int) := by
    unfold hoursF rgI
    rw [show max now 0 = now by omega]
  rw [e]
  refine List.filter_congr fun h hh => ?_
  obtain ⟨j, hj, rfl⟩ := List.mem_map.mp hh
  have := List.mem_range.mp hj
  rw [Bool.eq_iff_iff, decide_eq_true_eq, Bool.and_eq_true]
  unfold dueB
  rw [← betterL_iff (now := now) ok okp good hop (by omega) (by omega)]
  exact ⟨fun z => ⟨z.2, z.1⟩, fun z => ⟨z.2, z.1⟩⟩
theorem betterL_len (k : Book) (now : Int) (pl : List (Option Int)) (i : Nat) (w1 w2 : Int) : (betterL k now pl i w1 w2).length ≤ 12 := Nat.le_trans (List.length_filter_le _ _) (fitsL_len k now i)
/-- a table's rows that are none -/
def intsOf : List PyData → List Int
  | [] => []
  | .int j :: rs => j :: intsOf rs
  | _ :: rs => intsOf rs
theorem intsOf_app (xs ys : List PyData) : intsOf (xs ++ ys) = intsOf xs ++ intsOf ys := by
  induction xs with
  | nil => rfl
  | cons x xs ih => cases x <;> simp [intsOf, ih]
theorem intsOf_len : ∀ xs : List PyData, (intsOf xs).length ≤ xs.length
  | [] => Nat.le_refl _
  | x :: xs => by
    have := intsOf_len xs
    cases x <;> simp [intsOf] <;> omega
theorem intsOf_mem : ∀ {xs : List PyData} {j : Int}, j ∈ intsOf xs → PyData.int j ∈ xs
  | x :: xs, j, h => by
    cases x <;> simp only [intsOf] at h
    case int i =>
      rcases List.mem_cons.mp h with rfl | h
      · exact List.mem_cons_self
      · exact List.mem_cons_of_mem _ (intsOf_mem h)
    all_goals exact List.mem_cons_of_mem _ (intsOf_mem h)
theorem intsOf_has : ∀ {xs : List PyData} {j : Int}, PyData.int j ∈ xs → j ∈ intsOf xs
  | x :: xs, j, h => by
    rcases List.mem_cons.mp h with rfl | h
    · exact List.mem_cons_self
    · have ih := intsOf_has h
      cases x
      case int i => exact List.mem_cons_of_mem _ ih
      all_goals exact ih
theorem isi_jt {K : PySem.W.Frag} {H : Hp} {Q : VK} {v : Int} (h : Q (.bl false) H) : rIsi K [.int v, .ty "tuple"] H Q := ⟨.int v, .ty "tuple", .type "int", .type "tuple", false, rfl, .ty _, .base (.int _), kit_ty (by decide +kernel), h⟩
theorem dp_intsL {K : PySem.W.Frag} {H : Hp} : ∀ xs : List Int, DpAll K H (xs.map V.int) (xs.map PyData.int)
  | [] => .nil
  | x :: xs => .cons (.int _) (dp_intsL xs)
theorem lay_intsL (xs : List Int) : (PyData.list (xs.map PyData.int)).canLay0 = true ∧ (PyData.list (xs.map PyData.int)).depth ≤ 1 := by
  have h : ∀ as : List Int, PyData.canLayAll0 (as.map PyData.int) = true ∧ PyData.depthAll (as.map PyData.int) ≤ 0 := fun as => by
    induction as with
    | nil => exact ⟨rfl, Nat.le_refl _⟩
    | cons a as ih =>
      constructor
      · show (true && PyData.canLayAll0 (as.map PyData.int)) = true
        rw [ih.1]
        rfl
      · show max 0 (PyData.depthAll (as.map PyData.int)) ≤ 0
        have := ih.2
        omega
  obtain ⟨h1, h2⟩ := h xs
  exact ⟨h1, by show PyData.depthAll _ + 1 ≤ 1; exact Nat.succ_le_succ h2⟩
theorem eqv_ints : ∀ {xs ys : List Int}, PyData.eqv (.list (xs.map PyData.int)) (.list (ys.map PyData.int)) = decide (xs = ys)
  | [], [] => rfl
  | [], _ :: _ => rfl
  | _ :: _, [] => rfl
  | x :: xs, y :: ys => by
    have ih := eqv_ints (xs := xs) (ys := ys)
    have e1 : PyData.eqv (.list ((x :: xs).map PyData.int)) (.list ((y :: ys).map PyData.int)) = (PyData.eqv (.int x) (.int y) && PyData.eqv (.list (xs.map PyData.int)) (.list (ys.map PyData.int))) := by
      simp [PyData.eqv, PyData.eqvAll]
    rw [e1, ih]
    have e2 : PyData.eqv (.int x) (.int y) = decide (x = y) := by
      show (x == y) = decide (x = y)
      rw [Bool.eq_iff_iff]
      simp
    rw [e2, ← Bool.decide_and]
    exact decide_eq_decide.mpr ⟨fun z => by rw [z.1, z.2], fun z => ⟨(List.cons.inj z).1, (List.cons.inj z).2⟩⟩
/-- a table's row that is none makes it show nothing -/
theorem rows_bad {k : Book} {now w1 w2 : Int} {n : Nat} {pl : List (Option Int)} {i : Nat} {L : List Int} {rs : List PyData} (h : intsOf rs ≠ []) : (decide (rs.length = L.length) && (L.zip rs).all (rowR k now w1 w2 n pl i)) = false := by
  by_cases hl : rs.length = L.length
  · rw [decide_eq_true hl, Bool.true_and]
    obtain ⟨j, hj⟩ : ∃ j, j ∈ intsOf rs := List.exists_mem_of_ne_nil _ h
    obtain ⟨m, hm⟩ := List.mem_iff_getElem?.mp (intsOf_mem hj)
    have lt := (List.getElem?_eq_some_iff.mp hm).1
    have hz : (L.zip rs)[m]? = some (L[m]'(by omega), .int j) := by
      rw [List.getElem?_zip_eq_some]
      exact ⟨List.getElem?_eq_getElem (by omega), hm⟩
    exact all_no hz rfl
  · rw [decide_eq_false hl, Bool.false_and]
def rowHour : PyData → Int
  | .tuple [.int h, _] => h
  | _ => 0
/-- .. and rows of other hours too -/
theorem rows_hours {k : Book} {now w1 w2 : Int} {n : Nat} {pl : List (Option Int)} {i : Nat} {L : List Int} {rs : List PyData} (h : rs.map rowHour ≠ L) (hrs : ∀ r ∈ rs, ∃ h e, r = .tuple [.int h, e]) : (decide (rs.length = L.length) && (L.zip rs).all (rowR k now w1 w2 n pl i)) = false := by
  by_cases hl : rs.length = L.length
  · rw [decide_eq_true hl, Bool.true_and, List.all_eq_false]
    have : ∃ m, (rs.map rowHour)[m]? ≠ L[m]? := Classical.byContradiction fun z => h (List.ext_getElem? fun m => Classical.byContradiction fun q => z ⟨m, q⟩)
    obtain ⟨m, hm⟩ := this
    have lt : m < rs.length := by
      refine Classical.byContradiction fun z => hm ?_
      rw [List.getElem?_eq_none (by rw [List.length_map]; omega), List.getElem?_eq_none (by omega)]
    obtain ⟨g, e, hr⟩ := hrs _ (List.getElem_mem lt)
    refine ⟨(L[m]'(by omega), rs[m]), List.mem_of_getElem? (i := m) (by rw [List.getElem?_zip_eq_some]; exact ⟨List.getElem?_eq_getElem (by omega), List.getElem?_eq_getElem lt⟩), ?_⟩
    rw [hr]
    show ¬ (decide (g = L[m]'(by omega)) && _) = true
    have ne : g ≠ L[m]'(by omega) := fun z => by
      apply hm
      rw [List.getElem?_map, List.getElem?_eq_getElem lt, List.getElem?_eq_getElem (by omega), hr]
      exact congrArg some z
    rw [decide_eq_false ne]
    simp
  · rw [decide_eq_false hl, Bool.false_and]
/-! ### tables grown and spoilt -/
def GrD : Nat → PyData → Prop
  | 0, _ => False
  | n + 1, d => d = doneD ∨ ∃ b rs, d = .tuple [.str "cases", .int b, .tuple rs] ∧ rs.length ≤ 12 ∧ ∀ r ∈ rs, ∃ h e, r = .tuple [.int h, e] ∧ GrD n e
theorem GrD.mono : ∀ {n : Nat} {d : PyData}, GrD n d → GrD (n + 1) d
  | _ + 1, _, .inl h => .inl h
  | n + 1, _, .inr ⟨b, rs, h1, h2, h3⟩ => .inr ⟨b, rs, h1, h2, fun r hr => let ⟨h, e, z1, z2⟩ := h3 r hr; ⟨h, e, z1, GrD.mono z2⟩⟩
theorem GrD.le {n m : Nat} {d : PyData} (h : n ≤ m) (g : GrD n d) : GrD m d := by
  induction h with
  | refl => exact g
  | step _ ih => exact ih.mono
theorem GrD.tab : ∀ {n : Nat} {d : PyData}, GrD n d → TabD n d
  | _ + 1, _, .inl h => .inl ⟨_, h⟩
  | n + 1, _, .inr ⟨b, rs, h1, h2, h3⟩ => .inr (.inr (.inr (.inr ⟨_, b, rs, h1, by omega, fun r hr => .inr (let ⟨h, e, z1, z2⟩ := h3 r hr; ⟨h, e, z1, GrD.tab z2⟩)⟩)))
/-- no deeper than n, and may be laid -/
def LayN (n : Nat) (d : PyData) : Prop := d.canLay0 = true ∧ d.depth ≤ n
theorem layAll {n : Nat} : ∀ {ds : List PyData}, (∀ d ∈ ds, LayN n d) → PyData.canLayAll0 ds = true ∧ PyData.depthAll ds ≤ n
  | [], _ => ⟨rfl, Nat.zero_le _⟩
  | d :: ds, h => by
    obtain ⟨h1, h2⟩ := h d List.mem_cons_self
    obtain ⟨h3, h4⟩ := layAll (n := n) (ds := ds) fun x hx => h x (List.mem_cons_of_mem _ hx)
    constructor
    · show (PyData.canLay0 d && PyData.canLayAll0 ds) = true
      rw [h1, h3]
      rfl
    · show max (PyData.depth d) (PyData.depthAll ds) ≤ n
      omega
theorem layTup {n : Nat} {ds : List PyData} (h : ∀ d ∈ ds, LayN n d) : LayN (n + 1) (.tuple ds) := by
  obtain ⟨h1, h2⟩ := layAll h
  exact ⟨h1, Nat.succ_le_succ h2⟩
theorem layStr {s : Str} (h : PyData.strOk s = true) (n : Nat) : LayN n (.str s) := ⟨h, Nat.zero_le _⟩
theorem layInt (i : Int) (n : Nat) : LayN n (.int i) := ⟨rfl, Nat.zero_le _⟩
theorem LayN.le {n m : Nat} {d : PyData} (h : LayN n d) (l : n ≤ m) : LayN m d := ⟨h.1, Nat.le_trans h.2 l⟩
theorem layCases {n : Nat} {b : Int} {rs : List PyData} (h : ∀ r ∈ rs, LayN n r) : LayN (n + 2) (.tuple [.str "cases", .int b, .tuple rs]) := layTup (allC (layStr (by decide +kernel) _) (allC (layInt b _) (all1 (layTup h))))
theorem layRow {n : Nat} {h : Int} {e : PyData} (l : LayN n e) : LayN (n + 1) (.tuple [.int h, e]) := layTup (allC (layInt h _) (all1 l))
theorem layDone : LayN 1 doneD := layTup (all1 (layStr (by decide +kernel) _))
theorem tdCut {K : PySem.W.Frag} {H : Hp} : ∀ {xs : List V} {ds : List PyData}, TdAll K H xs ds → ∀ n, TdAll K H (xs.take n) (ds.take n) ∧ TdAll K H (xs.drop n) (ds.drop n)
  | _, _, .nil, n => by
    simp only [List.take_nil, List.drop_nil]
    exact And.intro .nil .nil
  | _, _, .cons a t, 0 => ⟨.nil, .cons a t⟩
  | _, _, .cons a t, n + 1 => by
    obtain ⟨h1, h2⟩ := tdCut t n
    exact ⟨.cons a h1, h2⟩
/-- a tuple of rows -/
structure RowsOk (K : PySem.W.Frag) (n m c : Nat) (H : Hp) (a : Addr) : Prop where
  ex : ∃ xs rs, SqT K H a xs ∧ TdAll K H xs rs ∧ rs.length ≤ c ∧ ∀ r ∈ rs, LayN m r ∧ ((∃ j, r = .int j) ∨ ∃ h e, r = .tuple [.int h, e] ∧ TabD n e)
theorem RowsOk.keep {K : PySem.W.Frag} {n m c : Nat} {H H1 : Hp} {ex : List Addr} {a : Addr} (r : RowsOk K n m c H a) (e : Ext ex H H1) : RowsOk K n m c H1 a := let ⟨xs, rs, h1, h2, h3⟩ := r.ex; ⟨xs, rs, e.sqT h1, e.tdAll h2, h3⟩
theorem rowsCut {K : PySem.W.Frag} {n m c : Nat} {H : Hp} {a : Addr} {lo hi : Option Int} {Q : VK} (r : RowsOk K n m c H a) (q : ∀ p H', Ext [] H H' → RowsOk K n m c H' p → Q (.ref p) H') : rSlTA K (.ref a) lo hi H Q := by
  obtain ⟨xs, rs, h1, h2, h3, h4⟩ := r.ex
  refine slTA_any h1 fun p H' e t => q p H' e ⟨_, _, t, (e.tdAll (tdCut (tdCut h2 _).2 _).1), ?_, fun r hr => h4 r (List.mem_of_mem_drop (List.mem_of_mem_take hr))⟩
  refine Nat.le_trans (List.length_take_le' _ _) ?_
  rw [List.length_drop]
  omega
theorem rowsCat {K : PySem.W.Frag} {n m c d : Nat} {H : Hp} {a b : Addr} {Q : VK} (r : RowsOk K n m c H a) (s : RowsOk K n m d H b) (hl : c + d ≤ 1000) (q : ∀ p H', Ext [] H H' → RowsOk K n m (c + d) H' p → Q (.ref p) H') : rCatA K (.ref a) (.ref b) H Q := by
  obtain ⟨xs, rs, h1, h2, h3, h4⟩ := r.ex
  obtain ⟨ys, ss, k1, k2, k3, k4⟩ := s.ex
  have l1 := h2.len
  have l2 := k2.len
  refine catA_any h1 k1 (by omega) fun p H' e t => q p H' e ⟨_, _, t, (e.tdAll h2).app (e.tdAll k2), by rw [List.length_append]; omega, fun r hr => ?_⟩
  rcases List.mem_append.mp hr with hr | hr
  · exact h4 r hr
  · exact k4 r hr
/-- a table -/
def IsTab (K : PySem.W.Frag) (n m : Nat) (H : Hp) (v : V) : Prop := ∃ d, Td K H v d ∧ LayN m d ∧ TabD n d
theorem IsTab.keep {K : PySem.W.Frag} {n m : Nat} {H H1 : Hp} {ex : List Addr} {v : V} (h : IsTab K n m H v) (e : Ext ex H H1) : IsTab K n m H1 v := let ⟨d, h1, h2⟩ := h; ⟨d, e.td h1, h2⟩
theorem IsTab.of {K : PySem.W.Frag} {n m c : Nat} {H : Hp} {a t : Addr} {w : Str} {b : Int} (r : RowsOk K n m c H a) (hc : c ≤ 1000) (h : SqT K H t [.str w, .int b, .ref a]) (hw : PyData.strOk w = true) : IsTab K (n + 1) (m + 2) H (.ref t) := by
  obtain ⟨xs, rs, h1, h2, h3, h4⟩ := r.ex
  exact ⟨.tuple [.str w, .int b, .tuple rs], .tup h (.cons (.str _) (.cons (.int _) (.cons (.tup h1 h2) .nil))), layTup (allC (layStr hw _) (allC (layInt b _) (all1 (layTup fun r hr => (h4 r hr).1)))), .inr (.inr (.inr (.inr ⟨w, b, rs, rfl, by omega, fun r hr => (h4 r hr).2⟩)))⟩
/-- a list of tables -/
structure TabsAt (K : PySem.W.Frag) (n m c : Nat) (H : Hp) (L : Addr) : Prop where
  ex : ∃ us, H L = some (.lst us) ∧ us.length = c ∧ ∀ u ∈ us, IsTab K n m H u
theorem TabsAt.keep {K : PySem.W.Frag} {n m c : Nat} {H H1 : Hp} {L : Addr} {ex : List Addr} (r : TabsAt K n m c H L) (e : Ext ex H H1) (h : L ∉ ex) : TabsAt K n m c H1 L := let ⟨us, h1, h2, h3⟩ := r.ex; ⟨us, e.lst L _ h h1, h2, fun u hu => (h3 u hu).keep e⟩
theorem tabsCat {K : PySem.W.Frag} {n m c d : Nat} {H : Hp} {a b : Addr} {Q : VK} (r : TabsAt K n m c H a) (s : TabsAt K n m d H b) (hl : c + d ≤ 1000) (q : ∀ p H', Ext [] H H' → H p = none → TabsAt K n m (c + d) H' p → Q (.ref p) H') : rCat (.ref a) (.ref b) H Q := by
  obtain ⟨xs, h1, h3, h4⟩ := r.ex
  obtain ⟨ys, k1, k3, k4⟩ := s.ex
  refine ⟨a, b, xs, ys, rfl, rfl, h1, k1, Nat.le_of_lt (small1000 (by omega)), fun p hp => ?_⟩
  have e := Ext.new (ex := []) (o := .lst (xs ++ ys)) hp
  refine q p _ e hp ⟨_, upd_same, by rw [List.length_append]; omega, fun r hr => ?_⟩
  rcases List.mem_append.mp hr with hr | hr
  · exact (h4 r hr).keep e
  · exact (k4 r hr).keep e
theorem TabsAt.pick {K : PySem.W.Frag} {n m c : Nat} {H : Hp} {L : Addr} {v : Int} (r : TabsAt K n m c H L) (h0 : 0 ≤ v) (h1 : v < (c : Int)) : ∃ us u, H L = some (.lst us) ∧ atI us v = some u ∧ IsTab K n m H u := by
  obtain ⟨us, k1, k3, k4⟩ := r.ex
  obtain ⟨j, rfl⟩ : ∃ j : Nat, v = (j : Int) := ⟨v.toNat, by omega⟩
  have hj : j < us.length := by omega
  exact ⟨us, us[j], k1, atI_nat (List.getElem?_eq_getElem hj), k4 _ (List.getElem_mem hj)⟩
theorem layInTup {n : Nat} {ds : List PyData} (h : LayN (n + 1) (.tuple ds)) : ∀ r ∈ ds, LayN n r := fun r hr => by
  have h2 : PyData.depthAll ds + 1 ≤ n + 1 := h.2
  exact lay_mem (n := n) h.1 (by omega) hr
theorem eqv_tup_nil (rs : List PyData) : PyData.eqv (.tuple rs) (.tuple []) = decide (rs = []) := by
  cases rs with
  | nil => rfl
  | cons x xs => simp [PyData.eqv, PyData.eqvAll]
/-- ways that meet again -/
theorem joinG {A : Prop} {G : Hp → Prop} (P : Hp → Prop) (h1 : (∀ H3, P H3 → G H3) → A) (rest : ∀ H3, P H3 → G H3) : A := h1 rest
theorem eqv_nats_nil (xs : List Nat) : PyData.eqv (.list (xs.map fun i : Nat => PyData.int (i : Int))) (.list []) = decide (xs = []) := by
  cases xs with
  | nil => rfl
  | cons x xs => simp [PyData.eqv, PyData.eqvAll]
theorem open_put {pl : List (Option Int)} {i : Nat} {h : Int} (hop : pl[i]? = some none) : ∀ n, (openN (putP pl i h) n).length + (if i < n then 1 else 0) = (openN pl n).length
  | 0 => rfl
  | n + 1 => by
    have hi : i < pl.length := (List.getElem?_eq_some_iff.mp hop).1
    have ih := open_put (h := h) hop n
    rw [openN_succ, openN_succ, List.length_append, List.length_append]
    by_cases c : n = i
    · subst c
      have e1 : (putP pl n h).getD n none = some h := getD_of (by rw [putP_get hi, if_pos rfl])
      rw [if_neg (show ¬ n < n by omega)] at ih
      rw [e1, getD_of hop, if_neg (show ¬ some h = none by simp), if_pos (show n < n + 1 by omega), if_pos rfl, ← ih]
      rfl
    · have e1 : (putP pl i h).getD n none = pl.getD n none := by
        rw [List.getD_eq_getElem?_getD, List.getD_eq_getElem?_getD, putP_get hi, if_neg c]
      rw [e1, ← ih]
      by_cases d : i < n
      · rw [if_pos d, if_pos (show i < n + 1 by omega)]
        omega
      · rw [if_neg d, if_neg (show ¬ i < n + 1 by omega)]
        omega
end GD

namespace GD
open PySem PySem.Spec PyProof.Rows L2 GxR GX GS GT GC
/-! ### groups of open barges -/
theorem notInK {X : Cx} (K : PySem.W.Frag) (h : X.K = K) : OpR X (compareOp .NotIn) (rIn K true) := by
  subst h
  exact op_notIn_seq
/-- all(..) over a tuple: the turns till one says no -/
theorem allG_tup {K : PySem.W.Frag} {P a : Addr} {xs : List V} {g : TG} {tt : TT} {te : TE} {vs : List Nat} {σ : L2.St} {H1 : Hp} {Q : VK} {j : Nat} (hv : σ[j]? = some (some (.ref a))) (ht : SqT K H1 a xs) (hT : TabG H1 P) (Pv : Nat → Hp → Prop) (h0 : ∀ H2, Tabbed P H1 H2 → Pv 0 H2) (hl : ∀ i H, i ≤ xs.length → Pv i H → SqT K H a xs)
    (hs : ∀ i x H, xs[i]? = some x → Pv i H → g x (wipe σ vs) H fun σ2 H2 => wipe σ2 vs = wipe σ vs ∧ tt σ2 H2 fun b H3 => if b = true then te σ2 H3 fun y H4 => ∃ c, y = .bl c ∧ if c = true then Pv (i + 1) H4 else Q (.bl false) H4 else Pv (i + 1) H3)
    (hd : ∀ H, Pv xs.length H → Q (.bl true) H) : tAllG P (iTup K (tVar j)) g tt te vs σ H1 Q := by
  refine ⟨.ref a, hv, a, rfl, ⟨xs, ht⟩, hT, fun H2 hb => ⟨fun i m H => m = xs.length - i ∧ i ≤ xs.length ∧ Pv i H, ⟨xs.length, by simp, Nat.zero_le _, h0 H2 hb⟩, ?_⟩⟩
  rintro i m H ⟨rfl, hi, p⟩
  have q := hl i H hi p
  by_cases hlt : i < xs.length
  · refine .inr ⟨⟨xs, xs[i], q, by simp [hlt]⟩, fun H' => Pv (i + 1) H', fun H' p' => ⟨xs.length - (i + 1), by omega, rfl, hlt, p'⟩, fun x H' y => ?_⟩
    obtain ⟨e, y⟩ := y
    subst e
    exact hs i x H' (y xs q) p
  · have e : i = xs.length := by omega
    subst e
    exact .inl ⟨⟨xs, q, Nat.le_refl _⟩, hd H p⟩
/-- the groups that are of the rest, and what each leaves -/
def takenL (gs : List (List Nat)) (rest : List Nat) : List (List Nat × List Nat) := (gs.filter fun g => g.all fun b => decide (b ∈ rest)).map fun g => (g, rest.filter fun b => decide (b ∉ g))
def IsGr (K : PySem.W.Frag) (H : Hp) (v : V) (g : List Nat) : Prop := ∃ t, v = .ref t ∧ SqT K H t (natsV g)
def IsTk (K : PySem.W.Frag) (H : Hp) (v : V) (p : List Nat × List Nat) : Prop := ∃ t a b, v = .ref t ∧ SqT K H t [.ref a, .ref b] ∧ SqT K H a (natsV p.1) ∧ SqT K H b (natsV p.2)
theorem Ext.gr {ex : List Addr} {K : PySem.W.Frag} {H H1 : Hp} {v : V} {g : List Nat} (e : Ext ex H H1) (h : IsGr K H v g) : IsGr K H1 v g := let ⟨t, a, b⟩ := h; ⟨t, a, e.sqT b⟩
theorem Ext.tk {ex : List Addr} {K : PySem.W.Frag} {H H1 : Hp} {v : V} {p : List Nat × List Nat} (e : Ext ex H H1) (h : IsTk K H v p) : IsTk K H1 v p := let ⟨t, a, b, h1, h2, h3, h4⟩ := h; ⟨t, a, b, h1, e.sqT h2, e.sqT h3, e.sqT h4⟩
theorem takenL_snoc (gs : List (List Nat)) (g rest : List Nat) : takenL (gs ++ [g]) rest = takenL gs rest ++ (if g.all (fun b => decide (b ∈ rest)) = true then [(g, rest.filter fun b => decide (b ∉ g))] else []) := by
  unfold takenL
  rw [List.filter_append, List.map_append]
  by_cases h : g.all (fun b => decide (b ∈ rest)) = true
  · rw [if_pos h, List.filter_cons_of_pos (by simpa using h)]
    rfl
  · rw [if_neg h, List.filter_cons_of_neg (by simpa using h)]
    rfl
theorem takenL_le (gs : List (List Nat)) (rest : List Nat) : (takenL gs rest).length ≤ gs.length := by
  unfold takenL
  rw [List.length_map]
  exact List.length_filter_le _ _
/-- which open barges may have an hour together: a barge more -/
def grpStep (k : Book) (now h : Int) (ab : List Nat) (told : List (List Nat)) (b : Nat) : List (List Nat) :=
  if h ∈ fitsL k now b then told ++ (told.map fun g => g ++ [b]).filter (fun g => shareB k (ab ++ g)) else told
def grpO (k : Book) (now h : Int) (ab os : List Nat) : List (List Nat) := os.foldl (grpStep k now h ab) [[]]
def groupsL (k : Book) (now : Int) (pl : List (Option Int)) (h : Int) : List (List Nat) := grpO k now h (memN pl h pl.length) (openN pl pl.length)
theorem grpO_snoc (k : Book) (now h : Int) (ab os : List Nat) (b : Nat) : grpO k now h ab (os ++ [b]) = grpStep k now h ab (grpO k now h ab os) b := by
  unfold grpO
  rw [List.foldl_append]
  rfl
theorem grpStep_mem {k : Book} {now h : Int} {ab : List Nat} {told : List (List Nat)} {b : Nat} {g : List Nat} : g ∈ grpStep k now h ab told b ↔ g ∈ told ∨ (h ∈ fitsL k now b ∧ ∃ g', g' ∈ told ∧ g = g' ++ [b] ∧ shareB k (ab ++ g) = true) := by
  unfold grpStep
  by_cases c : h ∈ fitsL k now b
  · rw [if_pos c, List.mem_append, List.mem_filter, List.mem_map]
    constructor
    · rintro (z | ⟨⟨g', h1, h2⟩, h3⟩)
      · exact .inl z
      · exact .inr ⟨c, g', h1, h2.symm, h3⟩
    · rintro (z | ⟨_, g', h1, h2, h3⟩)
      · exact .inl z
      · exact .inr ⟨⟨g', h1, h2.symm⟩, h3⟩
  · rw [if_neg c]
    exact ⟨.inl, fun z => z.elim (fun y => y) fun y => absurd y.1 c⟩
theorem grpStep_len {k : Book} {now h : Int} {ab : List Nat} {told : List (List Nat)} {b n : Nat} (hn : told.length ≤ n) : (grpStep k now h ab told b).length ≤ 2 * n := by
  unfold grpStep
  split
  · rw [List.length_append]
    have z := List.length_filter_le (fun g => shareB k (ab ++ g)) (told.map fun g => g ++ [b])
    rw [List.length_map] at z
    omega
  · omega
theorem grpO_len (k : Book) (now h : Int) (ab : List Nat) : ∀ (n : Nat) (os : List Nat), os.length = n → (grpO k now h ab os).length ≤ 2 ^ n
  | 0, os, e => by
    rw [List.length_eq_zero_iff.mp e]
    exact Nat.le_refl _
  | n + 1, os, e => by
    obtain ⟨r, b, rfl⟩ : ∃ r b, os = r ++ [b] := ⟨os.dropLast, os.getLast (fun z => by rw [z] at e; cases e), (List.dropLast_concat_getLast _).symm⟩
    have hr : r.length = n := by rw [List.length_append] at e; simp at e; exact e
    rw [grpO_snoc, Nat.pow_succ, Nat.mul_comm]
    exact grpStep_len (grpO_len k now h ab n r hr)
/-- a group's barges are open ones, in their order -/
theorem grpO_sub (k : Book) (now h : Int) (ab : List Nat) : ∀ (n : Nat) (os : List Nat), os.length = n → ∀ g ∈ grpO k now h ab os, g.Sublist os
  | 0, os, e, g, hg => by
    rw [List.length_eq_zero_iff.mp e] at hg ⊢
    have z : g ∈ [([] : List Nat)] := hg
    rw [List.mem_singleton.mp z]
    exact List.Sublist.refl _
  | n + 1, os, e, g, hg => by
    obtain ⟨r, b, rfl⟩ : ∃ r b, os = r ++ [b] := ⟨os.dropLast, os.getLast (fun z => by rw [z] at e; cases e), (List.dropLast_concat_getLast _).symm⟩
    have hr : r.length = n := by rw [List.length_append] at e; simp at e; exact e
    rw [grpO_snoc] at hg
    rcases grpStep_mem.mp hg with z | ⟨_, g', h1, rfl, _⟩
    · exact (grpO_sub k now h ab n r hr g z).trans (List.sublist_append_left r [b])
    · exact (grpO_sub k now h ab n r hr g' h1).append (List.Sublist.refl [b])
/-- .. and each sharing group whose barges can have the hour is told -/
theorem grpO_has {k : Book} {now h : Int} {ab : List Nat} (her : ∀ g b, shareB k (ab ++ (g ++ [b])) = true → shareB k (ab ++ g) = true) : ∀ (n : Nat) (os : List Nat), os.length = n → ∀ g, g.Sublist os → (∀ b ∈ g, h ∈ fitsL k now b) → (g ≠ [] → shareB k (ab ++ g) = true) → g ∈ grpO k now h ab os
  | 0, os, e, g, hg, _, _ => by
    rw [List.length_eq_zero_iff.mp e] at hg ⊢
    rw [List.sublist_nil.mp hg]
    exact List.mem_singleton.mpr rfl
  | n + 1, os, e, g, hg, hf, hs => by
    obtain ⟨r, b, rfl⟩ : ∃ r b, os = r ++ [b] := ⟨os.dropLast, os.getLast (fun z => by rw [z] at e; cases e), (List.dropLast_concat_getLast _).symm⟩
    have hr : r.length = n := by rw [List.length_append] at e; simp at e; exact e
    rw [grpO_snoc]
    obtain ⟨g1, g2, rfl, s1, s2⟩ := List.sublist_append_iff.mp hg
    have s3 : g2 = [] ∨ g2 = [b] := by
      rcases List.sublist_cons_iff.mp s2 with z | ⟨r', rfl, z⟩
      · exact .inl (List.sublist_nil.mp z)
      · exact .inr (by rw [List.sublist_nil.mp z])
    rcases s3 with rfl | rfl
    · rw [List.append_nil] at hf hs ⊢
      exact grpStep_mem.mpr (.inl (grpO_has her n r hr g1 s1 hf hs))
    · have sh := hs (by simp)
      exact grpStep_mem.mpr (.inr ⟨hf b (by simp), g1, grpO_has her n r hr g1 s1 (fun x hx => hf x (by simp [hx])) (fun _ => her _ _ sh), rfl, sh⟩)
/-- a plan of some of another's hours: none of it is too full, none crosses, where the other is so -/
def PartP (ql pl : List (Option Int)) : Prop := ql.length = pl.length ∧ ∀ i h, ql.getD i none = some h → pl.getD i none = some h
theorem memN_part {ql pl : List (Option Int)} (p : PartP ql pl) (h : Int) : ∀ n, ∀ x ∈ memN ql h n, x ∈ memN pl h n
  | 0, x, hx => hx
  | n + 1, x, hx => by
    rw [memN_succ] at hx ⊢
    rcases List.mem_append.mp hx with z | z
    · exact List.mem_append.mpr (.inl (memN_part p h n x z))
    · by_cases c : ql.getD n none = some h
      · rw [if_pos c] at z
        exact List.mem_append.mpr (.inr (by rw [if_pos (p.2 n h c)]; exact z))
      · rw [if_neg c] at z
        cases z
theorem onL_part {k : Book} {ql pl : List (Option Int)} (p : PartP ql pl) (h : Int) (s : Nat) : (onL k ql h s).length ≤ (onL k pl h s).length := by
  unfold onL
  rw [p.1]
  refine sub_len ((memN_nodup _).filter _) fun x hx => ?_
  rw [List.mem_filter] at hx ⊢
  exact ⟨memN_part p h _ x hx.1, hx.2⟩
theorem full_part {k : Book} {n : Nat} {ql pl : List (Option Int)} (okq : PlOk n ql) (okp : PlOk n pl) (p : PartP ql pl) (e : fullA k pl = []) : fullA k ql = [] := by
  unfold fullA at e ⊢
  rw [List.flatMap_eq_nil_iff] at e ⊢
  intro h hh
  have hp : h ∈ hoursL pl := by
    obtain ⟨i, hi⟩ := List.getElem?_of_mem ((hoursL_mem okq).mp hh)
    have z := p.2 i h (by rw [List.getD_eq_getElem?_getD, hi]; rfl)
    rw [List.getD_eq_getElem?_getD] at z
    refine (hoursL_mem okp).mpr ?_
    cases q : pl[i]? with
    | none => rw [q] at z; cases z
    | some o =>
      rw [q] at z
      have z : o = some h := z
      rw [z] at q
      exact List.mem_of_getElem? q
  have f := e h hp
  unfold fullH at f ⊢
  rw [catNil] at f ⊢
  intro s hs
  have g := f s hs
  unfold fullR at g ⊢
  have l := onL_part (k := k) p h s
  split at g
  · cases g
  · rw [if_neg (by omega)]
theorem cross_part {k : Book} {ql pl : List (Option Int)} (p : PartP ql pl) (e : crossA k pl = []) : crossA k ql = [] := by
  unfold crossA at e ⊢
  rw [catNil] at e ⊢
  intro i hi
  have f := e i (by rw [← p.1]; exact hi)
  unfold crossR at f ⊢
  split
  · rename_i h hq
    rw [p.2 i h hq] at f
    dsimp only at f
    rw [catNil] at f ⊢
    intro j hj
    have g := f j (by rw [← p.1]; exact hj)
    by_cases c : ql.getD j none = some h
    · rw [if_pos (p.2 j h c)] at g
      rw [if_pos c]
      exact g
    · rw [if_neg c]
  · rfl
theorem party_part {n : Nat} {ms ns : List Nat} (sub : ∀ i ∈ ms, i ∈ ns) : PartP (partyP n ms) (partyP n ns) := by
  refine ⟨by unfold partyP; rw [List.length_map, List.length_map], fun i h e => ?_⟩
  unfold partyP at e ⊢
  rw [List.getD_eq_getElem?_getD, List.getElem?_map] at e ⊢
  cases q : (List.range n)[i]? with
  | none => rw [q] at e; cases e
  | some j =>
    rw [q] at e
    have e : (if j ∈ ms then some (0 : Int) else none) = some h := e
    show (if j ∈ ns then some (0 : Int) else none) = some h
    by_cases c : j ∈ ms
    · rw [if_pos c] at e
      rw [if_pos (sub j c)]
      exact e
    · rw [if_neg c] at e
      cases e
/-- some of those who can share a tow can share one -/
theorem share_part {k : Book} {ms ns : List Nat} (sub : ∀ i ∈ ms, i ∈ ns) (h : shareB k ns = true) : shareB k ms = true := by
  unfold shareB at h ⊢
  rw [Bool.and_eq_true, List.isEmpty_iff, List.isEmpty_iff] at h ⊢
  exact ⟨full_part (partyP_ok _ ms) (partyP_ok _ ns) (party_part sub) h.1, cross_part (party_part sub) h.2⟩
theorem share_her {k : Book} {ab : List Nat} (g : List Nat) (b : Nat) (h : shareB k (ab ++ (g ++ [b])) = true) : shareB k (ab ++ g) = true := share_part (fun i hi => by
  rcases List.mem_append.mp hi with z | z
  · exact List.mem_append.mpr (.inl z)
  · exact List.mem_append.mpr (.inr (List.mem_append.mpr (.inl z)))) h
/-- a part of a good plan is good -/
theorem good_part {k : Book} {n : Nat} {ql pl : List (Option Int)} (okq : PlOk n ql) (okp : PlOk n pl) (p : PartP ql pl) (e : allR k pl = []) : allR k ql = [] := by
  unfold allR at e ⊢
  rw [List.append_eq_nil_iff, List.append_eq_nil_iff] at e ⊢
  refine ⟨⟨?_, full_part okq okp p e.1.2⟩, cross_part p e.2⟩
  have eb := e.1.1
  unfold bargesA at eb ⊢
  rw [catNil] at eb ⊢
  intro i hi
  have f := eb i (by rw [← p.1]; exact hi)
  unfold bargeR at f ⊢
  cases q : ql.getD i none with
  | none => rfl
  | some h =>
    rw [p.2 i h q] at f
    exact f
theorem wait_good {k : Book} {pl : List (Option Int)} (good : allR k pl = []) {i : Nat} (hi : i < pl.length) : 0 ≤ (waitOf k i (pl.getD i none)).sum := by
  unfold allR at good
  rw [List.append_eq_nil_iff, List.append_eq_nil_iff] at good
  have f := catNil.mp (show cat (bargeR k pl) pl.length = [] from good.1.1) i hi
  unfold bargeR at f
  cases q : pl.getD i none with
  | none => exact Int.le_refl _
  | some h =>
    cases hb : k.bs[i]? with
    | none =>
      unfold waitOf
      rw [hb]
      exact Int.le_refl _
    | some b =>
      rw [q, hb] at f
      have z := ((alone_fits k i b h).mp f).1
      rw [waitOf_B hb, waitB_of hb]
      have z2 : comesAt k b.b h = h + hsum k.rv b.b.toNat := rfl
      rw [z2] at z
      simp
      omega
theorem waits_part {k : Book} {ql pl : List (Option Int)} (p : PartP ql pl) (good : allR k pl = []) : ∀ n, n ≤ pl.length → (waitsN k ql n).sum ≤ (waitsN k pl n).sum
  | 0, _ => Int.le_refl _
  | n + 1, hn => by
    have ih := waits_part p good n (by omega)
    rw [waitsN_succ, waitsN_succ, List.sum_append, List.sum_append]
    have w0 := wait_good good (i := n) (by omega)
    cases q : ql.getD n none with
    | none =>
      have z : (waitOf k n (none : Option Int)).sum = 0 := rfl
      rw [z]
      omega
    | some h =>
      rw [p.2 n h q]
      omega
theorem hours_part {n : Nat} {ql pl : List (Option Int)} (okq : PlOk n ql) (okp : PlOk n pl) (p : PartP ql pl) : (hoursL ql).length ≤ (hoursL pl).length := by
  refine sub_len ((hoursN_pw ql 12).imp fun h => by omega) fun h hh => ?_
  obtain ⟨i, hi⟩ := List.getElem?_of_mem ((hoursL_mem okq).mp hh)
  have z := p.2 i h (by rw [List.getD_eq_getElem?_getD, hi]; rfl)
  rw [List.getD_eq_getElem?_getD] at z
  refine (hoursL_mem okp).mpr ?_
  cases q : pl[i]? with
  | none => rw [q] at z; cases z
  | some o =>
    rw [q] at z
    have z : o = some h := z
    rw [z] at q
    exact List.mem_of_getElem? q
theorem lex2 (a b c d : Int) : HT.lexLt [a, b] [c, d] = decide (a < c ∨ (a = c ∧ b < d)) := by
  rw [Bool.eq_iff_iff, decide_eq_true_eq]
  unfold HT.lexLt
  by_cases h : a = c
  · subst h
    simp [HT.lexLt]
    intro h1 h2
    omega
  · simp [HT.lexLt, h]
def worthI (k : Book) (pl : List (Option Int)) : List Int := [((hoursL pl).length : Int), (waitsN k pl pl.length).sum]
theorem worth_part {k : Book} {n : Nat} {ql pl : List (Option Int)} (okq : PlOk n ql) (okp : PlOk n pl) (p : PartP ql pl) (good : allR k pl = []) {w1 w2 : Int} (h : HT.lexLt (worthI k pl) [w1, w2] = true) : HT.lexLt (worthI k ql) [w1, w2] = true := by
  unfold worthI at h ⊢
  rw [lex2, decide_eq_true_eq] at h ⊢
  have h1 := hours_part okq okp p
  have h2 := waits_part p good pl.length (Nat.le_refl _)
  rw [← p.1] at h2
  rw [← p.1] at h
  omega
theorem putP_at {pl : List (Option Int)} {i : Nat} {h : Int} (hi : i < pl.length) (j : Nat) : (putP pl i h).getD j none = if j = i then some h else pl.getD j none := by
  rw [List.getD_eq_getElem?_getD, putP_get hi]
  by_cases c : j = i
  · rw [if_pos c, if_pos c]; rfl
  · rw [if_neg c, if_neg c, List.getD_eq_getElem?_getD]
/-- what a table shows is so: no full good plan on from there is better -/
theorem shows_sound {k : Book} (ok : k.Ok) {now w1 w2 : Int} {fl : List (Option Int)} (okf : PlOk k.bs.length fl) (goodf : allR k fl = []) (full : none ∉ fl) : ∀ (n : Nat) (pl : List (Option Int)) (d : PyData), PlOk k.bs.length pl → showsR k now w1 w2 n pl d = true → PartP pl fl →
    (∀ i h, pl.getD i none = none → fl.getD i none = some h → now ≤ h) → HT.lexLt (worthI k fl) [w1, w2] = false
  | 0, pl, d, _, h, _, _ => by cases h
  | n + 1, pl, d, okp, h, p, lat => by
    cases hc : HT.lexLt (worthI k fl) [w1, w2] with
    | false => rfl
    | true =>
    exfalso
    unfold showsR at h
    split at h
    · rw [Bool.and_eq_true] at h
      obtain ⟨h1, h2⟩ := h
      have hn : none ∉ pl := fun z => by rw [decide_eq_true z] at h1; cases h1
      have e : pl = fl := by
        refine List.ext_getElem? fun i => ?_
        by_cases hi : i < pl.length
        · cases q : pl[i]'hi with
          | none => exact absurd (by rw [← q]; exact List.getElem_mem hi) hn
          | some x =>
            have g : pl.getD i none = some x := by rw [List.getD_eq_getElem?_getD, List.getElem?_eq_getElem hi, q]; rfl
            have z := p.2 i x g
            have hi2 : i < fl.length := by rw [← p.1]; exact hi
            rw [List.getD_eq_getElem?_getD, List.getElem?_eq_getElem hi2] at z
            have z : fl[i] = some x := z
            rw [List.getElem?_eq_getElem hi, List.getElem?_eq_getElem hi2, q, z]
        · rw [List.getElem?_eq_none (by omega), List.getElem?_eq_none (by rw [← p.1]; omega)]
      subst e
      unfold worthI at hc
      rw [hc] at h2
      cases h2
    · split at h
      · rename_i s b rs _
        rw [Bool.and_eq_true, Bool.and_eq_true, Bool.and_eq_true, decide_eq_true_eq, decide_eq_true_eq, List.all_eq_true] at h
        obtain ⟨⟨⟨_, hb⟩, hlen⟩, hall⟩ := h
        unfold openB at hb
        rw [Bool.and_eq_true, Bool.and_eq_true, decide_eq_true_eq, decide_eq_true_eq, decide_eq_true_eq] at hb
        obtain ⟨⟨b0, b1⟩, hop⟩ := hb
        have hi : b.toNat < pl.length := by omega
        have hi2 : b.toNat < fl.length := by rw [← p.1]; exact hi
        have hop2 : pl[b.toNat]? = some none := by
          rw [List.getD_eq_getElem?_getD, List.getElem?_eq_getElem hi] at hop
          have z : pl[b.toNat] = none := hop
          rw [List.getElem?_eq_getElem hi, z]
        obtain ⟨h0, hf0⟩ : ∃ h0, fl.getD b.toNat none = some h0 := by
          cases q : fl[b.toNat]'hi2 with
          | none => exact absurd (by rw [← q]; exact List.getElem_mem hi2) full
          | some x => exact ⟨x, by rw [List.getD_eq_getElem?_getD, List.getElem?_eq_getElem hi2, q]; rfl⟩
        have hm : some h0 ∈ fl := by
          rw [List.getD_eq_getElem?_getD, List.getElem?_eq_getElem hi2] at hf0
          have z : fl[b.toNat] = some h0 := hf0
          rw [← z]
          exact List.getElem_mem hi2
        have bnd := okf.ok h0 hm
        have hnow := lat _ _ hop hf0
        have pq : PartP (putP pl b.toNat h0) fl := ⟨by rw [putP_len hi]; exact p.1, fun j x e => by
          rw [putP_at hi] at e
          by_cases c : j = b.toNat
          · rw [if_pos c] at e
            rw [c, hf0]
            exact e
          · rw [if_neg c] at e
            exact p.2 j x e⟩
        have okq := putP_ok okp hi (h := h0) (by omega) (by omega)
        have goodp := good_part okp okf p goodf
        have goodq := good_part okq okf pq goodf
        have bq := worth_part okq okf pq goodf hc
        unfold worthI at bq
        obtain ⟨ft, bt⟩ := (betterL_iff ok okp goodp hop2 (now := now) (by omega) (by omega)).mpr ⟨bq, goodq⟩
        have inB : h0 ∈ betterL k now pl b.toNat w1 w2 := by
          unfold betterL fitsL
          rw [List.mem_filter, List.mem_filter, hoursF_mem]
          exact ⟨⟨⟨hnow, by omega, by omega⟩, ft⟩, bt⟩
        obtain ⟨m, hmB⟩ := List.getElem?_of_mem inB
        have ml : m < (betterL k now pl b.toNat w1 w2).length := (List.getElem?_eq_some_iff.mp hmB).1
        have hz : ((betterL k now pl b.toNat w1 w2).zip rs)[m]? = some (h0, rs[m]'(by omega)) := by
          rw [List.getElem?_zip_eq_some]
          exact ⟨hmB, List.getElem?_eq_getElem (by omega)⟩
        have row := hall _ (List.mem_of_getElem? hz)
        dsimp only at row
        split at row
        · rw [Bool.and_eq_true] at row
          have z := shows_sound ok okf goodf full n _ _ okq row.2 pq fun j x e1 e2 => by
            rw [putP_at hi] at e1
            by_cases c : j = b.toNat
            · rw [if_pos c] at e1; cases e1
            · rw [if_neg c] at e1
              exact lat j x e1 e2
          rw [hc] at z
          cases z
        · cases row
      · cases h
end GD

namespace LM
open PySem PySem.Spec PyProof.Rows L2 NdefX LamX GD
/-! ### the law's own call: the tables of the lambdas' makers, tracked by what they tell -/
def extT (H : Hp) (ps : List Addr) : Hp := fun b => if b ∈ ps then some (TabE b #[]) else H b
def reTab (ps : List Addr) (sp : Sp) : Sp := fun vs H Q E => (∀ b ∈ ps, H b = some (.tbl #[])) ∧ sp vs (extT H ps) (fun v H' => (∀ b ∈ ps, ∃ more, H' b = some (TabE b more)) ∧ ∀ H'', Q v H'') (fun _ _ _ => False)
theorem extT_in {H : Hp} {ps : List Addr} {b : Addr} (h : b ∈ ps) : extT H ps b = some (TabE b #[]) := if_pos h
theorem extT_out {H : Hp} {ps : List Addr} {b : Addr} (h : b ∉ ps) : extT H ps b = H b := if_neg h
theorem retab {P : Program} {w : World} {K : PySem.W.Frag} {mg : Str → Option Value} {base : Heap} {k : Nat} {f : Addr} {fd : FuncData} {xs : List Str} {sp : Sp} {ps : List Addr} (F : FnOk P w K mg base L2.CX0 k f fd xs sp) : FnOk P w K mg base L2.CX0 k f fd xs (reTab ps sp) := by
  refine ⟨fun vs H Q E h => F.len _ _ _ _ h.2, fun A outer s H args us vs Q E hr e0 hb r h => ?_⟩
  obtain ⟨hT, hsp⟩ := h
  have out : ∀ b, H b = none → b ∉ ps := fun b n hb => by rw [hT b hb] at n; cases n
  have plain : ∀ b u, H b = some u → (∀ qs, u ≠ .tbl qs) → b ∉ ps := fun b u e n hb => by
    rw [hT b hb] at e
    exact n _ (Option.some.inj e).symm
  have none2 : ∀ b, H b = none → extT H ps b = none := fun b n => (extT_out (out b n)).trans n
  have ok2 : HOk P w (extT H ps) s.heap := fun b u e => by
    by_cases hb : b ∈ ps
    · rw [extT_in hb] at e
      cases e
      have z : s.heap.get? b = some { cls := .none, data := .fields #[] } := e0.hok b _ (hT b hb)
      exact ⟨z, ⟨_, z⟩, fun g1 g2 y st => st _ y⟩
    · rw [extT_out hb] at e
      exact (e0.hok b u e).stay (fun _ _ _ z => z) (fun c z => (extT_out (plain c _ z fun q y => (by cases y))).trans z) fun c ys z => (extT_out (plain c _ z fun q y => (by cases y))).trans z
  have e2 : Env0 P w K mg base A outer s (extT H ps) := ⟨e0.frames, e0.mod, fun b o e => ⟨(e0.bs b o e).1, none2 b (e0.bs b o e).2⟩, e0.bsz, e0.funs, fun b hb => none2 b (e0.frf b hb), ok2, e0.bare⟩
  refine codeAny_mono (F.run A outer s _ args us vs _ _ hr e2 hb r hsp) fun x s' hx => ?_
  cases x with
  | error e => exact (show False from hx).elim
  | ok fl =>
    cases fl with
    | ret u =>
      obtain ⟨v, H', os, bare, un, hok', rv, tabs, q⟩ := hx
      obtain ⟨g, hg⟩ : ∃ g : Addr → Array Value, ∀ b ∈ ps, H' b = some (TabE b (g b)) := ⟨fun b => if h : b ∈ ps then Classical.choose (tabs b h) else #[], fun b hb => by
        simp only [dif_pos hb]
        exact Classical.choose_spec (tabs b hb)⟩
      have back : ∀ b u, H' b = some u → (∀ φ, u ≠ .ext φ) → b ∉ ps := fun b u e n hb => by
        rw [hg b hb] at e
        exact n _ (Option.some.inj e).symm
      refine ⟨v, fun b => if b ∈ ps then some (.tbl (g b)) else H' b, os, bare, ⟨fun b o e n h1 h2 => un.keep b o e (none2 b n) h1 h2, fun b o e n h1 h2 => un.slot b o e (none2 b n) h1 h2, fun b o e n h1 => (if_neg (out b n)).trans (un.free b o e (none2 b n) h1), un.there, fun b ys e => ?_, fun b o u e => ?_, fun b qs e => ?_⟩, fun b u e => ?_, rv, q _⟩
      · have z := plain b _ e fun q y => (by cases y)
        exact (if_neg z).trans (un.tups b ys ((extT_out z).trans e))
      · have z := plain b _ e fun q y => (by cases y)
        exact (if_neg z).trans (un.frzs b o u ((extT_out z).trans e))
      · by_cases hb : b ∈ ps
        · rw [hT b hb] at e
          cases e
          exact ⟨g b, (if_pos hb).trans (by rw [Array.empty_append])⟩
        · obtain ⟨more, z⟩ := un.tbls b qs ((extT_out hb).trans e)
          exact ⟨more, (if_neg hb).trans z⟩
      · by_cases hb : b ∈ ps
        · have z := (if_pos hb).symm.trans e
          cases z
          exact (hok' b _ (hg b hb)).1
        · have z := (if_neg hb).symm.trans e
          exact (hok' b u z).stay (fun _ _ _ y => y) (fun c y => (if_neg (back c _ y fun φ q => (by cases q))).trans y) fun c ys y => (if_neg (back c _ y fun φ q => (by cases q))).trans y
    | next => exact hx
    | brk => exact hx
    | cont => exact hx
/-- the tables that grow by generators stand apart from the lambdas' -/
def apartB (gs ls : List He.Defn) (K : PySem.W.Frag) : Bool := (gs.all fun g => ls.all fun l => decide ((He.cT K g).2 ≠ (He.cT K l).2)) && decide ((ls.map fun l => (He.cT K l).2).Nodup)
theorem apart_out {gs ls : List He.Defn} {K : PySem.W.Frag} (h : apartB gs ls K = true) {g : He.Defn} (hg : g ∈ gs) : (He.cT K g).2 ∉ ls.map fun l => (He.cT K l).2 := fun hm => by
  obtain ⟨l, hl, e⟩ := List.mem_map.mp hm
  unfold apartB at h
  rw [Bool.and_eq_true] at h
  exact of_decide_eq_true (List.all_eq_true.mp (List.all_eq_true.mp h.1 g hg) l hl) e.symm
theorem apart_nodup {gs ls : List He.Defn} {K : PySem.W.Frag} (h : apartB gs ls K = true) : (ls.map fun l => (He.cT K l).2).Nodup := by
  unfold apartB at h
  rw [Bool.and_eq_true] at h
  exact of_decide_eq_true h.2
theorem sqL_extT {K : PySem.W.Frag} {H : Hp} {ps : List Addr} {a : Addr} {xs : List V} (hT : ∀ b ∈ ps, H b = some (.tbl #[])) (h : SqL K H a xs) : SqL K (extT H ps) a xs := by
  have out : ∀ b u, H b = some u → (∀ qs, u ≠ .tbl qs) → b ∉ ps := fun b u e n hb => by
    rw [hT b hb] at e
    exact n _ (Option.some.inj e).symm
  rcases h with (h | ⟨o, h⟩) | h
  · exact .inl (.inl ((extT_out (out a _ h fun q y => (by cases y))).trans h))
  · exact .inl (.inr ⟨o, (extT_out (out a _ h fun q y => (by cases y))).trans h⟩)
  · exact .inr h
end LM

namespace DD
open PySem PySem.Spec PyProof.Rows L2 GxR GD
/-! ### for k, v in d.items(), the keys tuples -/
section
variable {X : Cx} {pins : List (Addr × Obj)} {σ : L2.St} {H : Hp} {s : Shared} {d : Addr} {o : Obj}
theorem frzT2 {kvs : List (List L2.Key × V)} (I : Inv X pins σ H s) (h : H d = some (.frz o (.dT kvs))) :
    (d == sysModules) = false ∧ s.heap.get? d = some o ∧ o.ExactDict ∧ ∃ (es : Array DictEntry) (ep : Nat), o.data = .dict es ep ∧ es.size = kvs.length ∧
      ∀ (i : Nat) (k : List L2.Key) (v : V), kvs[i]? = some (k, v) → ∃ (en : DictEntry) (q : Addr), es[i]? = some en ∧ en.key = .ref q ∧ H q = some (.tup (k.map kV)) ∧ RelV v en.val := by
  obtain ⟨hd, z, hs, xs, pr, o', es, ep, ho, hx, hdt, he, _⟩ := I.hok d _ h
  rw [hd] at ho
  cases ho
  refine ⟨hs, hd, hx, es, ep, hdt, ?_, fun i k v e => ?_⟩
  · have l1 : es.size = xs.length := size_of_entries he
    have l2 : kvs.length = xs.length := Paired.length pr
    omega
  · obtain ⟨b, hb, e1, e2, e3⟩ := paired_get pr e
    have q := entry_at he i
    rw [hb] at q
    exact ⟨_, b.2.1, q, rfl, e2, e3⟩
end
/-- the pairs, each a new tuple of the key's own tuple and the value -/
def Itit (d : Addr) (o : Obj) (kvs : List (List L2.Key × V)) : It :=
  ⟨fun i H => H d = some (.frz o (.dT kvs)) ∧ i < kvs.length, fun i H x H' => ∃ T k v q, kvs[i]? = some (k, v) ∧ x = .ref T ∧ H T = none ∧ H q = some (.tup (k.map kV)) ∧ H' = upd H T (.tup [.ref q, v]), fun i H => H d = some (.frz o (.dT kvs)) ∧ kvs.length ≤ i⟩
section
variable {P : Program} {w : World} {K : PySem.W.Frag} {d : Addr} {o : Obj} {es : Array DictEntry} {ep : Nat}
theorem turn_itemsT {kvs : List (List L2.Key × V)} {elts : List Expr} {kk : Nat} {tpos : Pos} (it : Addr) (hod : o.data = .dict es ep) :
    Turn P w K (.Tuple elts kk tpos) (Itit d o kvs) [it] it (fun i h => ∃ ok ov, IsItemIter h it d i kvs.length ep ok ov) where
  mem := by simp
  obj := fun i h st b hb => by
    have e : b = it := by simpa using hb
    subst e
    obtain ⟨ok, ov, e⟩ := st
    exact ⟨_, e, fun v z => nomatch z⟩
  keep := fun i h h' st k => let ⟨ok, ov, e⟩ := st; ⟨ok, ov, k it (by simp) _ e⟩
  item := by
    intro X hP hw hK hc i pins s σ H E I hf st hg
    subst hP hw hK
    obtain ⟨hd, hi⟩ := hg
    obtain ⟨hs, hgd, hx, es', ep', hdt, hsz, ent⟩ := frzT2 I hd
    obtain ⟨rfl, rfl⟩ := dict_ep hod hdt
    obtain ⟨⟨k, v⟩, hkv⟩ : ∃ p, kvs[i]? = some p := ⟨kvs[i], List.getElem?_eq_getElem hi⟩
    obtain ⟨en, q, hen, hkey, hq, rv⟩ := ent i k v hkv
    obtain ⟨ok, ov, he⟩ := st
    rw [← hsz] at he
    have hi2 : i < es'.size := by omega
    have een : es'[i] = en := by rw [Array.getElem?_eq_getElem hi2] at hen; exact Option.some.inj hen
    have hlt : it < s.heap.objs.size := Heap.lt_size he
    refine DT.nextI he ⟨o, hgd, hx, hdt⟩ hi2 fun h' ho hT hz hk => ?_
    rw [een, hkey] at ho hT
    refine ⟨_, rfl, wpAny_letOwnedTupleGo_items (s := { s with heap := h' }) ho fun h'' he' sb => ?_⟩
    have hT2 : h''.get? s.heap.objs.size = some { cls := .type "tuple", data := .seq #[.ref q, en.val] } := (sb.2 _ (Nat.ne_of_gt hlt)).trans hT
    have new : ObjOk X.prog X.w (upd H s.heap.objs.size (.tup [.ref q, v])) h'' s.heap.objs.size (.tup [.ref q, v]) :=
      ⟨by show 2 ≤ sizeLine; decide, [.ref q, en.val], .cons rfl (.cons rv .nil), ⟨_, hT2, rfl, _, rfl⟩⟩
    have I1 : Inv X pins σ (upd H s.heap.objs.size (.tup [.ref q, v])) { s with heap := h'' } :=
      I.turnedNew (t' := s.toks) (ch := [it]) (fun b ob hb e => (sb.2 b (by simpa using hb)).trans (hk b ob (by simpa using hb) e)) hf (Nat.le_refl _) new
    refine ⟨.ref s.heap.objs.size, _, I1, rfl, ⟨_, k, v, q, hkv, rfl, I.hok.fresh (Nat.le_refl _), hq, rfl⟩, ⟨.ref q, en.val, ?_⟩, fun b hb => ?_⟩
    · rw [← hsz]; exact he'
    · have e : b = it := by simpa using hb
      rw [e, upd_ne (Nat.ne_of_lt hlt)]
      exact (hf it (by simp)).1
  done := by
    intro X hP hw hK hc i pins s σ H E I hf st hg
    subst hP hw hK
    obtain ⟨hd, hi⟩ := hg
    obtain ⟨f0, f1, f2, f3, f4, f5⟩ := hf it (by simp)
    obtain ⟨hs, hgd, hx, es', ep', hdt, hsz, ent⟩ := frzT2 I hd
    obtain ⟨rfl, rfl⟩ := dict_ep hod hdt
    obtain ⟨ok, ov, he⟩ := st
    rw [← hsz] at he
    exact DT.endI (I.ok.hd hc) he ⟨o, hgd, hx, hdt⟩ (by omega) fun h' eb => ⟨rfl, I.turned (t' := s.toks) (fun b ob hb e => eb b ob hb e) f0 f1 f3 f4 f5⟩
  self := fun A i s Q E st h => let ⟨_, _, e⟩ := st; PySem.W.kcp_self e h
end
def iItemsT (td : TE) : TI := fun σ H R => td σ H fun x H1 => ∃ d o kvs, x = .ref d ∧ H1 d = some (.frz o (.dT kvs)) ∧ R (Itit d o kvs) H1
section
variable {X : Cx} {e : Expr} {td : TE} {apos cpos : Pos}
theorem pi_itemsT {elts : List Expr} {kk : Nat} {tpos : Pos} (he : PE X e td) (hbase : attributeBase e "items" X.env (eval e X.env) = eval e X.env := by rfl) (hline : (apos.endLine == cpos.line) = true := by rfl) : PI X (.Tuple elts kk tpos) (.Call (.Attribute e "items" apos) [] [] cpos) (iItemsT td) := by
  refine ⟨fun pins s σ H R I h => ?_⟩
  refine wpAny_Call_method (T := "dict") (id := "dict.items") hbase rfl hline PySem.F.plainAttrs_dict PySem.F.slot_dict_items PySem.F.type_dict_items (thn (he.run pins s σ H _ I h) fun u s1 ⟨x, H1, I1, rx, d, o, kvs, ex, hd, q⟩ => ?_)
  subst ex
  obtain rfl : u = Value.ref d := rx
  obtain ⟨hs, hgd, hx, es, ep, hdt, hsz, ent⟩ := frzT2 I1 hd
  have rw : DT.Raw s1.heap d es ep := ⟨o, hgd, hx, hdt⟩
  refine ⟨rw.typeIs, fun b z => ?_, ?_⟩
  · cases z
    exact ⟨o, hgd, hx.2.1⟩
  have I2 : Inv X pins σ H1 { s1 with heap := s1.heap.push { cls := .type "dict_items", data := .fields #[.ref d] } } := I1.kept (t' := s1.toks) fun b ob q => Heap.get?_push_of_some _ q
  have fin : wpAny (model X.prog X.w) X.A (pyIter (.ref s1.heap.objs.size)) (PIE X pins σ (.Tuple elts kk tpos) R) X.xe { s1 with heap := s1.heap.push { cls := .type "dict_items", data := .fields #[.ref d] } } := by
    refine DT.iterI (d := d) (es := es) (ep := ep) ⟨_, Heap.get?_push_size _ rfl, rfl, rfl⟩ (rw.push _) (pi_one (tk := s1.toks) I2 _ (turn_itemsT _ hdt) ⟨.none, .none, ?_⟩ q)
    rw [← hsz]
    exact Heap.get?_push_size _ rfl
  show wpAny _ _ (callWith cpos (.builtin "dict.items") [.ref d] [] []) _ X.xe s1
  exact method_meetsIn PySem.F.slot_dict_items PySem.F.entry_dict_items rfl (PySem.evalArgs_none ⟨rfl, rw.typeIs, PySem.F.args_dict_items_1 _, _, DT.meetsItems (es := es) (ep := ep) hs, rw, fin⟩)
end
/-- the turns of it -/
theorem for_itemsT {d : Addr} {o : Obj} {kvs : List (List L2.Key × V)} {g : TG} {tb : TS} {D : Ends} {σ : L2.St} {H : Hp} (Pv : Nat → L2.St → Hp → Prop) (h0 : Pv 0 σ H) (hl : ∀ i σ H, i ≤ kvs.length → Pv i σ H → H d = some (.frz o (.dT kvs)))
    (hs : ∀ i k v q T σ H, kvs[i]? = some (k, v) → Pv i σ H → H T = none → H q = some (.tup (k.map kV)) → g (.ref T) σ (upd H T (.tup [.ref q, v])) fun σ2 H2 => tb { D with nx := Pv (i + 1), ct := Pv (i + 1), bk := D.nx } σ2 H2) (hd : ∀ σ H, Pv kvs.length σ H → D.nx σ H) :
    ∃ W : Nat → Nat → L2.St → Hp → Prop, (∃ m, W 0 m σ H) ∧ ∀ i m σ H, W i m σ H →
      ((Itit d o kvs).stop i H ∧ D.nx σ H) ∨ ((Itit d o kvs).go i H ∧ ∃ N : L2.St → Hp → Prop, (∀ σ' H', N σ' H' → ∃ m', m' < m ∧ W (i + 1) m' σ' H') ∧ ∀ x H', (Itit d o kvs).yld i H x H' → g x σ H' fun σ2 H2 => tb { D with nx := N, ct := N, bk := D.nx } σ2 H2) := by
  refine ⟨fun i m σ H => m = kvs.length - i ∧ i ≤ kvs.length ∧ Pv i σ H, ⟨kvs.length, by simp, Nat.zero_le _, h0⟩, ?_⟩
  rintro i m σ H ⟨rfl, hi, p⟩
  have q := hl i σ H hi p
  by_cases hlt : i < kvs.length
  · refine .inr ⟨⟨q, hlt⟩, Pv (i + 1), fun σ' H' p' => ⟨kvs.length - (i + 1), by omega, rfl, hlt, p'⟩, fun x H' y => ?_⟩
    obtain ⟨T, k, v, q, hk, rfl, hT, hq, rfl⟩ := y
    exact hs i k v q T σ H hk p hT hq
  · have e : i = kvs.length := by omega
    subst e
    exact .inl ⟨⟨q, Nat.le_refl _⟩, hd σ H p⟩
/-- behind a lock: what stood stands -/
theorem Ext.unlock {ex : List Addr} {H H' : Hp} {d : Addr} {u : HO} {od : Obj} (h : H d = some u) (mu : Mut (some u)) (e : Ext ex (upd H d (.frz od u)) H') : Ext ex H (upd H' d u) where
  tup := fun b xs z => by
    have n : b ≠ d := fun q => by rw [q, h] at z; cases z; exact mu
    rw [upd_ne n]
    exact e.tup b xs (by rw [upd_ne n]; exact z)
  frz := fun b o v z => by
    have n : b ≠ d := fun q => by rw [q, h] at z; cases z; exact mu
    rw [upd_ne n]
    exact e.frz b o v (by rw [upd_ne n]; exact z)
  tbl := fun b ps z t => by
    have n : b ≠ d := fun q => by rw [q, h] at z; cases z; exact mu
    rw [upd_ne n]
    exact e.tbl b ps (by rw [upd_ne n]; exact z) t
  lst := fun b xs nx z => by
    by_cases n : b = d
    · rw [n, upd_same]
      rw [n, h] at z
      exact z
    · rw [upd_ne n]
      exact e.lst b xs nx (by rw [upd_ne n]; exact z)
  oth := fun b v nx t z => by
    by_cases n : b = d
    · rw [n, upd_same]
      rw [n, h] at z
      exact z
    · rw [upd_ne n]
      exact e.oth b v nx t (by rw [upd_ne n]; exact z)
  dom := fun b z => by
    by_cases n : b = d
    · rw [n, upd_same] at z; cases z
    · rw [upd_ne n] at z
      have := e.dom b z
      rw [upd_ne n] at this
      exact this
/-- .. and while it is locked: all but that one -/
theorem Ext.locked {H : Hp} {d : Addr} {u : HO} {od : Obj} (h : H d = some u) (mu : Mut (some u)) : Ext [d] H (upd H d (.frz od u)) where
  tup := fun b xs z => by
    have n : b ≠ d := fun q => by rw [q, h] at z; cases z; exact mu
    rw [upd_ne n]
    exact z
  frz := fun b o v z => by
    have n : b ≠ d := fun q => by rw [q, h] at z; cases z; exact mu
    rw [upd_ne n]
    exact z
  tbl := fun b ps z t => by
    have n : b ≠ d := fun q => by rw [q, h] at z; cases z; exact mu
    exact ⟨ps, by rw [upd_ne n]; exact z, t⟩
  lst := fun b xs nx z => by rw [upd_ne (by simpa using nx)]; exact z
  oth := fun b v nx t z => by rw [upd_ne (by simpa using nx)]; exact z
  dom := fun b z => by
    by_cases n : b = d
    · rw [n, upd_same] at z; cases z
    · rw [upd_ne n] at z; exact z
/-! ### {k: v}, the key a tuple -/
def tDispT (tk tv : TE) : TE := fun σ H Q => ∀ p, H p = none → tk σ (upd H p (.dT [])) fun x H1 => tv σ H1 fun y H2 => H2 p = some (.dT []) ∧ ∃ b ks, x = .ref b ∧ H2 b = some (.tup (ks.map kV)) ∧ Q (.ref p) (upd H2 p (.dT [(ks, y)]))
theorem pe_dispT {X : Cx} {pos : Pos} {k v : Expr} {tk tv : TE} (hu : X.A.units < cLine) (hk : PE X k tk) (hv : PE X v tv) : PE X (.Dict [some k] [v] pos) (tDispT tk tv) := by
  refine ⟨fun pins s σ H Q I q => ?_⟩
  have hn := I.hok.fresh (Nat.le_refl s.heap.objs.size)
  have I1 := I.laid (a := s.heap.objs.size) (o := .dT []) (h' := s.heap.push { cls := .type "dict", data := .dict #[] }) (t' := s.toks) (fun _ _ q => Heap.get?_push_of_some _ q) (Nat.le_refl _) (dt_empty s.heap I.big)
  rw [arm_eval_Dict, zip_pairTrees [some k] [v] X.env pos rfl rfl, dictDisplay_pairs (pairTrees [some k] [v] X.env pos) (by simp [pairTrees]) (by simp [pairTrees])]
  refine wpAny_bind (wpAny_standAt (wpAny_bind (wpAny_subDictH (knd := tupleKind (mixKind X.prog X.w)) (by exact hu) (by simp [pairTrees]) ?_)))
  refine pairTrees_cons_walk (thn (hk.run pins _ σ _ _ I1 (q _ hn)) fun u s1 ⟨x, H1, I2, rx, q1⟩ => thn (hv.run pins s1 σ H1 _ I2 q1) fun w2 s2 ⟨y, H2, I3, ry, e, b, ks, ex, hb, q2⟩ => pairTrees_nil_walk ?_)
  subst ex
  cases (show u = Value.ref b from rx)
  obtain ⟨z, hd, xs0, r0, dd⟩ := dt_of I3.hok e
  cases r0
  refine ⟨[(ks, b, w2)], ⟨rfl, rfl, key_of I3.hok hb, trivial⟩, dd, fun h' tk dd' hs => wpAny_pure ⟨.ref s.heap.objs.size, _, ?_, rfl, q2⟩⟩
  obtain ⟨o, es, ep, h1, h2, h3, h4, h5, h6⟩ := dd'
  refine d_write I3 (by rw [e]; exact True.intro) hs ⟨o, h1⟩ ⟨by show 1 ≤ sizeLine; decide, hd, [(ks, b, w2)], .cons ⟨rfl, ?_, ry⟩ .nil, o, es, ep, h1, h2, h3, h4, h6⟩
  rw [upd_ne (ne_of hb e (fun z => nomatch z))]
  exact hb
end DD

namespace DM
open PySem PySem.Spec PyProof.Rows L2 GxR GD LM
theorem vals_refs : ∀ {as : List Addr} {us : List Value}, Vals (as.map V.ref) us → us = as.map Value.ref
  | [], _, r => by cases r; rfl
  | a :: as, _, r => by
    rw [List.map_cons] at r
    cases r with
    | cons h t =>
      cases h
      rw [vals_refs t]
      rfl
/-- min(xs, key=f): xs a list of references, f a lambda that tells a whole number of each and leaves the heap as it is; which one is told isn't said -/
def rMinKey (P : Program) (w : World) (K : PySem.W.Frag) (mg : Str → Option Value) (base : Heap) (k : Nat) : List V → List V → Hp → VK → Prop := fun vs zs H Q => ∃ (a f : Addr) (as : List Addr) (ks : List Int), vs = [.ref a] ∧ zs = [.ref f] ∧ H a = some (.lst (as.map V.ref)) ∧ as ≠ [] ∧ ks.length = as.length ∧
  (∀ (i : Nat) (x : Addr) (n : Int), as[i]? = some x → ks[i]? = some n → ∀ Q' : VK, Q' (.int n) H → Goes P w K mg base (L2.CX P w) k f H [.ref x] Q' (fun _ _ _ => False)) ∧
  ∀ (i : Nat) (x : Addr), as[i]? = some x → Q (.ref x) H
theorem argBest_le {bt : Nat → Nat → Bool} : ∀ j, argBest bt j ≤ j
  | 0 => Nat.le_refl _
  | j + 1 => by
    unfold argBest
    split
    · exact Nat.le_refl _
    · exact Nat.le_succ_of_le (argBest_le j)
theorem cr_minKey {X : Cx} {k : Nat} (hr : Room (k + 1) X.A) : CallRK X (.builtin "min") [Str.ofString "key"] (rMinKey X.prog X.w X.K X.mg X.base k) := by
  intro pins s σ H xs zs us ws Q I r1 r2 h
  obtain ⟨a, f, as, ks, rfl, rfl, ha, hne, hkl, hg, q⟩ := h
  have e1 : us = [.ref a] := vals_refs (as := [a]) r1
  have e2 : ws = [.ref f] := vals_refs (as := [f]) r2
  subst e1
  subst e2
  obtain ⟨its, rv, p, hz⟩ := I.list (.inl (.inl ha))
  have eits := vals_refs rv
  have hH : X.A.in1.handled = none := hr.in1.hd
  show wpAny (model X.prog X.w) X.A (call (.builtin "min") [.ref a] [(Str.ofString "key", .ref f)]) _ _ s
  refine call_min_walkK ?_
  refine PySem.W.iter_listW (A := X.A.in1) hH p.isList fun s₂ es W st hfp hnew hkeep => ?_
  have hn1 : H s.heap.objs.size = none := I.hok.fresh (Nat.le_refl _)
  have I2 : Inv X pins σ H s₂ := by rw [es]; exact I.kept (t' := s.toks) fun b ob z => Heap.get?_push_of_some _ z
  have hn2 : H s₂.heap.objs.size = none := I2.hok.fresh (Nat.le_refl _)
  have fI : FpOk X pins H s.heap.objs.size := I.fpOk (Nat.le_refl _) hn1
  have fS : FpOk X pins H s₂.heap.objs.size := I2.fpOk (Nat.le_refl _) hn2
  have fall : ∀ b ∈ s₂.heap.objs.size :: [s.heap.objs.size], FpOk X pins H b := fun b hb => by
    rcases List.mem_cons.mp hb with rfl | hb
    · exact fS
    · rw [List.mem_singleton.mp hb]; exact fI
  have hlen : its.toArray.size = as.length := by rw [eits]; simp
  have ait : a ≠ s.heap.objs.size := fun z => by rw [z, hn1] at ha; cases ha
  have aS : a ≠ s₂.heap.objs.size := fun z => by rw [z, hn2] at ha; cases ha
  refine ⟨s.heap.objs.size, _, _, _, _, _, _, fun s' => Inv X pins σ H s', fun i kv _ => ∃ n t, ks[i]? = some n ∧ kv = .int n t, fun i j => decide (ks.getD i 0 < ks.getD j 0), rfl, W, st, hfp, ?_, ?_, I2, fun v s' hv J => ?_⟩
  · rw [hlen]
    exact List.length_pos_iff.mpr hne
  · refine ⟨fun s1 s' J hm => ?_, fun i kv s1 s' h _ => h, fun i v s1 o Q E hi hP J hst hS hq => ?_, fun i j ki kj s1 Q E J h1 h2 hq => ?_⟩
    · rw [Moved.eq_with hm]
      exact Inv.turnedL J (fun b ob hb z => hm.heap b ob hb z) fall
    · have hP : its.toArray[i]? = some v := hP
      rw [eits] at hP
      have hx : ∃ x, as[i]? = some x ∧ v = .ref x := by
        simp only [List.getElem?_toArray, List.getElem?_map] at hP
        cases z : as[i]? with
        | none => rw [z] at hP; cases hP
        | some x => rw [z] at hP; exact ⟨x, rfl, (Option.some.inj hP).symm⟩
      obtain ⟨x, hx, rfl⟩ := hx
      have hik : i < ks.length := by rw [hkl]; exact (List.getElem?_eq_some_iff.mp hx).1
      obtain ⟨n, hn⟩ : ∃ n, ks[i]? = some n := ⟨ks[i], List.getElem?_eq_getElem hik⟩
      have g := hg i x n hx hn (fun v H' => v = .int n ∧ H' = H) ⟨rfl, rfl⟩
      obtain ⟨hit, hli⟩ := hst
      refine wpAny_call (codeAny_mono (g X.A.in1 X.stack s1 [.ref x] hr.in1 J.env0.in1 (.cons rfl .nil)) fun r s' hc => ?_)
      cases r with
      | error e =>
        obtain ⟨_, _, _, _, _, _, _, _, _, _, _, _, z⟩ := hc
        exact z.elim
      | ok fl =>
        cases fl with
        | next => exact False.elim hc
        | brk => exact False.elim hc
        | cont => exact False.elim hc
        | ret u =>
          have keep : ∀ b ob, (b = s.heap.objs.size ∨ b = s₂.heap.objs.size) → s1.heap.get? b = some ob → s'.heap.get? b = some ob := fun b ob hb z => by
            obtain ⟨_, _, _, _, un, _⟩ := hc
            have fb : FpOk X pins H b := by rcases hb with rfl | rfl; exact fI; exact fS
            refine un.keep b ob z fb.1 (fun hb2 => ?_) (by simp)
            rcases List.mem_cons.mp (J.stkSub b hb2) with z | z
            · exact fb.2.1 z
            · exact fb.2.2.1 z
          obtain ⟨x', H', I3, ru, rfl, rfl⟩ := J.after hc
          obtain ⟨t, rfl⟩ := (show ∃ t, u = Value.int n t from ru)
          obtain ⟨its3, rv3, p3, _⟩ := I3.list (.inl (.inl ha))
          have e3 : its3 = its := by rw [vals_refs rv3, eits]
          rw [e3] at p3
          exact hq _ s' I3 ⟨hit.at fun ob z => keep _ ob (.inl rfl) z, p3.isList⟩ (keep _ _ (.inr rfl) hS) ⟨n, t, hn, rfl⟩ fun j k' h => h
    · obtain ⟨n1, t1, e1, rfl⟩ := h1
      obtain ⟨n2, t2, e2, rfl⟩ := h2
      refine (show wpAny _ _ (compareOp .Lt (.int n1 t1) (.int n2 t2)) Q E s1 from wpAny_lt_int ?_)
      rw [List.getD_eq_getElem?_getD, List.getD_eq_getElem?_getD, e1, e2] at hq
      exact hq
  · have hv : its.toArray[argBest _ (its.toArray.size - 1)]? = some v := hv
    rw [eits] at hv
    generalize argBest _ _ = m at hv
    have hx : ∃ x, as[m]? = some x ∧ v = .ref x := by
      simp only [List.getElem?_toArray, List.getElem?_map] at hv
      cases z : as[m]? with
      | none => rw [z] at hv; cases hv
      | some x => rw [z] at hv; exact ⟨x, rfl, (Option.some.inj hv).symm⟩
    obtain ⟨x, hx, rfl⟩ := hx
    exact ⟨.ref x, H, J, rfl, q m x hx⟩
end DM

namespace NP
open PySem PySem.Spec PyProof.Rows L2
/-! ### an own exception over an own one over ValueError, with its own __init__ -/
def clsB (K : PySem.W.Frag) (C : Addr) : Bool := match K.lookup C with
  | some ⟨.type "type", _, .cls cd, sl⟩ => (match cd.mro, sl.toList with
    | .ref C' :: bm, [_, _, _, _, some (.builtin n), _] => C' == C && n == "ValueError.__new__" && cd.hasDict && !cd.hasDel && PySem.HandSPX.refsVE bm
    | _, _ => false)
  | _ => false
theorem cls_of {K : PySem.W.Frag} {C : Addr} (q : clsB K C = true) : ∃ nm q N bs bm sn sub ab col dd k0 k1 k2 k3 k5, K.lookup C = some (excClassObj nm q C N bs bm true sn sub ab col dd k0 k1 k2 k3 k5 "ValueError.__new__") ∧ PySem.HandSPX.refsVE bm = true := by
  unfold clsB at q
  split at q
  · rename_i dd cd sl ho
    split at q
    · rename_i C' bm k0 k1 k2 k3 n k5 hm hs
      simp only [Bool.and_eq_true, beq_iff_eq, Bool.not_eq_true'] at q
      obtain ⟨⟨⟨⟨rfl, rfl⟩, hd⟩, hdel⟩, ht⟩ := q
      obtain ⟨nm, bs, mro, ns, qn, hd', sn, sub, ab, col, del⟩ := cd
      dsimp only at hm hdel hd
      subst hm hdel hd
      have hsl : sl = #[k0, k1, k2, k3, some (.builtin "ValueError.__new__"), k5] := by
        obtain ⟨l⟩ := sl
        simp only at hs
        rw [hs]
      subst hsl
      exact ⟨nm, qn, ns, bs, bm, sn, sub, ab, col, dd, k0, k1, k2, k3, k5, ho, ht⟩
    · cases q
  · cases q
structure NpC (K : PySem.W.Frag) (C T fI : Addr) : Prop where
  ox : OexC K C
  ini : PySem.W.findIn K (.ref C) "__init__" = some (some (.ref fI))
  tyI : PySem.W.typeIn K (.ref fI) = some (.type "function")
  tab : PySem.W.findIn K (.ref C) "table" = some none
  xf : XfC K C
  rd : PySem.W.readsIn K T (.type "type") = true
  ga : PySem.W.specialIn K (.ref T) "__getattribute__" = some (some (.builtin "type.__getattribute__"))
  ti : PySem.W.findCls K (.ref T) (.type "type") "__init__" = some (.val (.builtin "ValueError.__init__"))
def valB (o : Option PySem.W.CFound) (b : String) : Bool := match o with
  | some (.val (.builtin n)) => n == b
  | _ => false
theorem valB_ok {o : Option PySem.W.CFound} {b : String} (h : valB o b = true) : o = some (.val (.builtin b)) := by
  unfold valB at h
  split at h
  · rw [beq_iff_eq.mp h]
  · cases h
def npB (K : PySem.W.Frag) (C T fI : Addr) : Bool :=
  clsB K C && (He.eqO (PySem.W.findIn K (.ref C) "__setattr__") (some (some (.builtin "object.__setattr__"))) && (decide (PySem.W.subIn K (.ref C) (.type "BaseException") = some true) && (decide (PySem.W.typeIn K (.ref C) = some (.type "type")) && (PySem.W.keepIn K (.ref C) &&
  (He.eqO (PySem.W.findIn K (.ref C) "__init__") (some (some (.ref fI))) && (decide (PySem.W.typeIn K (.ref fI) = some (.type "function")) && (He.eqO (PySem.W.findIn K (.ref C) "table") (some none) && (xfB K C && (PySem.W.readsIn K T (.type "type") &&
  (He.eqO (PySem.W.specialIn K (.ref T) "__getattribute__") (some (some (.builtin "type.__getattribute__"))) && valB (PySem.W.findCls K (.ref T) (.type "type") "__init__") "ValueError.__init__"))))))))))
theorem npB_ok {K : PySem.W.Frag} {C T fI : Addr} (h : npB K C T fI = true) : NpC K C T fI := by
  obtain ⟨h1, h⟩ := He.ba h
  obtain ⟨h2, h⟩ := He.ba h
  obtain ⟨h3, h⟩ := He.ba h
  obtain ⟨h4, h⟩ := He.ba h
  obtain ⟨h5, h⟩ := He.ba h
  obtain ⟨h6, h⟩ := He.ba h
  obtain ⟨h7, h⟩ := He.ba h
  obtain ⟨h8, h⟩ := He.ba h
  obtain ⟨h9, h⟩ := He.ba h
  obtain ⟨h10, h⟩ := He.ba h
  obtain ⟨h11, h12⟩ := He.ba h
  exact ⟨⟨cls_of h1, He.eqO_ok h2, of_decide_eq_true h3, of_decide_eq_true h4, h5⟩, He.eqO_ok h6, of_decide_eq_true h7, He.eqO_ok h8, xfB_ok h9, h10, He.eqO_ok h11, valB_ok h12⟩
section
variable {X : Cx} {e : Expr} {es : List Expr} {ta : TA} {x : Str} {T : Addr} {p1 p2 pos : Pos}
/-- C.__init__(self, ..), C an own class over ValueError without an own __init__ -/
theorem pe_oinit {pl : Sem Bool} (hg : Gl X x) (hm : X.mg x = some (.ref T)) (rd : PySem.W.readsIn X.K T (.type "type") = true) (ga : PySem.W.specialIn X.K (.ref T) "__getattribute__" = some (some (.builtin "type.__getattribute__")))
    (ti : PySem.W.findCls X.K (.ref T) (.type "type") "__init__" = some (.val (.builtin "ValueError.__init__"))) (ha : PA X (e :: es) ta) (hdb : (x == ("__debug__" : Str)) = false := by decide)
    (hc : eval (.Call (.Attribute (.Name x p1) "__init__" p2) (e :: es) [] pos) X.env = (do
      let ov ← eval (.Name x p1) X.env
      standAt p2.atName
      let (f, first) ← holding [ov] (getMethod ov "__init__" pl)
      callWith pos f first (backTo pos (starEach (e :: es) X.env)) (backToKw pos (keywordEach [] X.env))) := by rfl)
    (he : starEach (e :: es) X.env = (false, eval e X.env) :: starEach es X.env := by rfl) (hpl : (backTo pos (starEach es X.env)).any (·.1) = false := by rfl) :
    PE X (.Call (.Attribute (.Name x p1) "__init__" p2) (e :: es) [] pos) (tVeI X.K ta) := by
  refine ⟨fun pins s σ H Q I h => ?_⟩
  refine PySem.W.methodCall_KW (ld_glob I hg hm ?_ hdb) hc
  refine PySem.W.method_cls I.kIn ga (PySem.W.cls_value I.kIn rd ti (by decide +kernel) ?_)
  show wpAny _ _ (callWith pos (Value.builtin "ValueError.__init__") [] (backTo pos (starEach (e :: es) X.env)) []) _ _ _
  refine PyProof.Rows.callWith_method1 (thn (ha.run pos pins _ σ H _ (I.tok _) h) fun us s1 ⟨vs, H1, I1, r1, a, C, ws, ev, hl, T, ea, q⟩ => ?_) he hpl
  subst ev
  cases r1 with
  | @cons _ u0 _ ur ra rw' =>
    obtain rfl : u0 = Value.ref a := ra
    have hlen : ur.length ≤ sizeLine := by
      rw [← Paired.length rw', sizeLine_eq]
      omega
    exact oinit_ok T I1 ea hlen fun s' J => ⟨.non, H1, J, rfl, q⟩
end
/-! ### a tuple of whole numbers that the module's top made -/
def intsB : List Value → List Int → Bool
  | [], [] => true
  | .int i _ :: us, n :: ns => decide (i = n) && intsB us ns
  | _, _ => false
theorem intsB_ok : ∀ {us : List Value} {ns : List Int}, intsB us ns = true → Vals (ns.map V.int) us
  | [], [], _ => .nil
  | [], _ :: _, h => by cases h
  | u :: us, [], h => by cases u <;> cases h
  | u :: us, n :: ns, h => by
    cases u with
    | int i t =>
      obtain ⟨h1, h2⟩ := He.ba h
      rw [← of_decide_eq_true h1]
      exact .cons ⟨t, rfl⟩ (intsB_ok h2)
    | _ => cases h
def tupB (K : PySem.W.Frag) (a : Addr) (ns : List Int) : Bool := match K.lookup a with
  | some ⟨.type "tuple", _, .seq its _, _⟩ => decide (its.size ≤ 100) && intsB its.toList ns
  | _ => false
theorem tupB_ok {K : PySem.W.Frag} {a : Addr} {ns : List Int} (h : tupB K a ns = true) (H : Hp) : SqT K H a (ns.map V.int) := by
  unfold tupB at h
  split at h
  · rename_i ho
    obtain ⟨h1, h2⟩ := He.ba h
    have := of_decide_eq_true h1
    exact .inr ⟨_, _, _, ho, rfl, rfl, by rw [sizeLine_eq]; omega, intsB_ok h2⟩
  · cases h
end NP

namespace GD
open PySem PySem.Spec PyProof.Rows L2 GxR GX GS GT GC
/-! ### plans hour by hour -/
def opens (pl : List (Option Int)) : List Nat := openN pl pl.length
theorem opens_pw (pl : List (Option Int)) : (opens pl).Pairwise (· < ·) := by
  unfold opens openN
  exact List.Pairwise.filter _ List.pairwise_lt_range
theorem opens_nd (pl : List (Option Int)) : (opens pl).Nodup := (opens_pw pl).imp fun h => by omega
theorem opens_mem {pl : List (Option Int)} {i : Nat} : i ∈ opens pl ↔ i < pl.length ∧ pl.getD i none = none := openN_mem
theorem getD_some_lt {pl : List (Option Int)} {i : Nat} {h : Int} (e : pl.getD i none = some h) : i < pl.length := by
  refine Classical.byContradiction fun z => ?_
  rw [List.getD_eq_getElem?_getD, List.getElem?_eq_none (by omega)] at e
  cases e
theorem getD_mem {pl : List (Option Int)} {i : Nat} {h : Int} (e : pl.getD i none = some h) : some h ∈ pl := by
  have hi := getD_some_lt e
  rw [List.getD_eq_getElem?_getD, List.getElem?_eq_getElem hi] at e
  have e : pl[i] = some h := e
  rw [← e]
  exact List.getElem_mem hi
theorem mem_getD {pl : List (Option Int)} {h : Int} (e : some h ∈ pl) : ∃ i, pl.getD i none = some h := by
  obtain ⟨i, hi⟩ := List.getElem?_of_mem e
  exact ⟨i, getD_of hi⟩
theorem ext_getD {p q : List (Option Int)} (hl : p.length = q.length) (h : ∀ i, p.getD i none = q.getD i none) : p = q := by
  refine List.ext_getElem? fun i => ?_
  by_cases hi : i < p.length
  · have z := h i
    rw [List.getD_eq_getElem?_getD, List.getD_eq_getElem?_getD, List.getElem?_eq_getElem hi, List.getElem?_eq_getElem (by omega)] at z
    rw [List.getElem?_eq_getElem hi, List.getElem?_eq_getElem (by omega)]
    exact congrArg some z
  · rw [List.getElem?_eq_none (by omega), List.getElem?_eq_none (by omega)]
theorem joinP_at {h : Int} : ∀ {g : List Nat} {pl : List (Option Int)}, (∀ b ∈ g, b < pl.length) → ∀ j, (joinP pl g h).getD j none = if j ∈ g then some h else pl.getD j none
  | [], pl, _, j => by
    rw [if_neg (by simp)]
    rfl
  | b :: g, pl, hb, j => by
    show (joinP (putP pl b h) g h).getD j none = _
    have hbl := hb b (by simp)
    rw [joinP_at (fun x hx => by rw [putP_len hbl]; exact hb x (by simp [hx])) j, putP_at hbl]
    by_cases c : j ∈ g
    · rw [if_pos c, if_pos (by simp [c])]
    · rw [if_neg c]
      by_cases d : j = b
      · rw [if_pos d, if_pos (by simp [d])]
      · rw [if_neg d, if_neg (by simp [c, d])]
theorem filter_range_congr {p q : Nat → Bool} {n : Nat} (h : ∀ i, i < n → p i = q i) : (List.range n).filter p = (List.range n).filter q := List.filter_congr fun i hi => h i (List.mem_range.mp hi)
theorem opens_join {pl : List (Option Int)} {g : List Nat} {h : Int} (hg : ∀ b ∈ g, b < pl.length) : opens (joinP pl g h) = (opens pl).filter fun b => decide (b ∉ g) := by
  unfold opens openN
  rw [joinP_len hg, List.filter_filter]
  refine filter_range_congr fun i _ => ?_
  rw [joinP_at hg]
  by_cases c : i ∈ g
  · rw [if_pos c]
    simp [c]
  · rw [if_neg c]
    simp [c]
theorem joinP_okO {n : Nat} {pl : List (Option Int)} {g : List Nat} {h : Int} (ok : PlOk n pl) (hg : ∀ b ∈ g, b < pl.length) (h0 : 0 ≤ h) (h12 : h < 12) : PlOk n (joinP pl g h) := by
  refine ⟨by rw [joinP_len hg, ok.len], fun x hx => ?_⟩
  obtain ⟨i, hi⟩ := mem_getD hx
  rw [joinP_at hg] at hi
  by_cases c : i ∈ g
  · rw [if_pos c] at hi
    have := Option.some.inj hi
    omega
  · rw [if_neg c] at hi
    exact ok.ok x (getD_mem hi)
/-- the members by an hour of a good plan share a tow -/
theorem good_share {k : Book} (ok : k.Ok) {pl : List (Option Int)} (okp : PlOk k.bs.length pl) (good : allR k pl = []) (h : Int) {ms : List Nat} (hm : ∀ i ∈ ms, pl.getD i none = some h) (hne : ms ≠ []) : shareB k ms = true := by
  obtain ⟨i, hi⟩ := List.exists_mem_of_ne_nil ms hne
  have hpi := hm i hi
  have hil := getD_some_lt hpi
  have h01 := okp.ok h (getD_mem hpi)
  let ql : List (Option Int) := (List.range pl.length).map fun j => if j = i then none else pl.getD j none
  have qlen : ql.length = pl.length := by show ((List.range pl.length).map _).length = _; rw [List.length_map, List.length_range]
  have qat : ∀ j, ql.getD j none = if j = i then none else pl.getD j none := fun j => by
    by_cases hj : j < pl.length
    · rw [List.getD_eq_getElem?_getD]
      show (((List.range pl.length).map _)[j]?).getD none = _
      rw [List.getElem?_map, List.getElem?_range hj]
      rfl
    · rw [List.getD_eq_getElem?_getD, List.getElem?_eq_none (by omega), if_neg (by omega), List.getD_eq_getElem?_getD, List.getElem?_eq_none (by omega)]
  have part : PartP ql pl := ⟨qlen, fun j x e => by
    rw [qat] at e
    by_cases c : j = i
    · rw [if_pos c] at e; cases e
    · rw [if_neg c] at e; exact e⟩
  have okq : PlOk k.bs.length ql := ⟨by rw [qlen, okp.len], fun x hx => by
    obtain ⟨j, hj⟩ := mem_getD hx
    exact okp.ok x (getD_mem (part.2 j x hj))⟩
  have goodq := good_part okq okp part good
  have hop : ql[i]? = some none := by
    have z := qat i
    rw [if_pos rfl, List.getD_eq_getElem?_getD, List.getElem?_eq_getElem (by omega)] at z
    rw [List.getElem?_eq_getElem (by omega)]
    exact congrArg some z
  have e : putP ql i h = pl := ext_getD (by rw [putP_len (by omega), qlen]) fun j => by
    rw [putP_at (by omega), qat]
    by_cases c : j = i
    · rw [if_pos c, c, hpi]
    · rw [if_neg c, if_neg c]
  have z := ((put_good ok okq goodq hop h01.1 (by omega)).mp (by rw [e]; exact good)).2
  refine share_part (fun j hj => ?_) z
  by_cases c : j = i
  · exact List.mem_append.mpr (.inr (by simp [c]))
  · refine List.mem_append.mpr (.inl (memN_iff.mpr ⟨?_, ?_⟩))
    · rw [qlen]; exact getD_some_lt (hm j hj)
    · rw [qat, if_neg c]; exact hm j hj
/-- a barge of a good plan can have its hour -/
theorem good_fit {k : Book} {pl : List (Option Int)} (okp : PlOk k.bs.length pl) (good : allR k pl = []) {i : Nat} {h : Int} (e : pl.getD i none = some h) : fitB k i h = true := by
  have hil := getD_some_lt e
  unfold allR at good
  rw [List.append_eq_nil_iff, List.append_eq_nil_iff] at good
  have f := catNil.mp (show cat (bargeR k pl) pl.length = [] from good.1.1) i hil
  obtain ⟨b, hb⟩ : ∃ b, k.bs[i]? = some b := ⟨k.bs[i]'(by rw [← okp.len]; exact hil), List.getElem?_eq_getElem (by rw [← okp.len]; exact hil)⟩
  unfold bargeR at f
  rw [e, hb] at f
  rw [fitB_of hb]
  exact List.isEmpty_iff.mpr f
/-- a group of open barges joins a good plan -/
theorem join_good {k : Book} (ok : k.Ok) {h : Int} (h0 : 0 ≤ h) (h12 : h < 12) : ∀ (g : List Nat) (pl : List (Option Int)), PlOk k.bs.length pl → allR k pl = [] → g.Nodup → (∀ b ∈ g, b ∈ opens pl) → (∀ b ∈ g, fitB k b h = true) → (g ≠ [] → shareB k (memN pl h pl.length ++ g) = true) → allR k (joinP pl g h) = []
  | [], pl, _, good, _, _, _, _ => good
  | b :: g, pl, okp, good, nd, op, fit, sh => by
    obtain ⟨nd1, nd2⟩ := List.nodup_cons.mp nd
    have hb := opens_mem.mp (op b (by simp))
    have hop : pl[b]? = some none := by
      have z := hb.2
      rw [List.getD_eq_getElem?_getD, List.getElem?_eq_getElem hb.1] at z
      rw [List.getElem?_eq_getElem hb.1]
      exact congrArg some z
    have s0 := sh (by simp)
    have g1 : allR k (putP pl b h) = [] := (put_good ok okp good hop h0 h12).mpr ⟨fit b (by simp), share_part (fun i hi => by
      rcases List.mem_append.mp hi with z | z
      · exact List.mem_append.mpr (.inl z)
      · rw [List.mem_singleton.mp z]; exact List.mem_append.mpr (.inr (by simp))) s0⟩
    refine join_good ok h0 h12 g (putP pl b h) (putP_ok okp hb.1 h0 (by omega)) g1 nd2 (fun x hx => ?_) (fun x hx => fit x (by simp [hx])) fun _ => share_part (fun i hi => ?_) s0
    · have hx2 := opens_mem.mp (op x (by simp [hx]))
      refine opens_mem.mpr ⟨by rw [putP_len hb.1]; exact hx2.1, ?_⟩
      rw [putP_at hb.1, if_neg (show x ≠ b from fun z => nd1 (z ▸ hx))]
      exact hx2.2
    · rcases List.mem_append.mp hi with z | z
      · obtain ⟨z1, z2⟩ := memN_iff.mp z
        rw [putP_at hb.1] at z2
        by_cases c : i = b
        · exact List.mem_append.mpr (.inr (by simp [c]))
        · rw [if_neg c] at z2
          exact List.mem_append.mpr (.inl (memN_iff.mpr ⟨getD_some_lt z2, z2⟩))
      · exact List.mem_append.mpr (.inr (by simp [z]))
/-- what the groups told are -/
theorem grpO_fits {k : Book} {now h : Int} {ab : List Nat} : ∀ (n : Nat) (os : List Nat), os.length = n → ∀ g ∈ grpO k now h ab os, (∀ b ∈ g, h ∈ fitsL k now b) ∧ (g ≠ [] → shareB k (ab ++ g) = true)
  | 0, os, e, g, hg => by
    rw [List.length_eq_zero_iff.mp e] at hg
    have z : g ∈ [([] : List Nat)] := hg
    rw [List.mem_singleton.mp z]
    exact ⟨fun b hb => absurd hb (by simp), fun z => absurd rfl z⟩
  | n + 1, os, e, g, hg => by
    obtain ⟨r, b, rfl⟩ : ∃ r b, os = r ++ [b] := ⟨os.dropLast, os.getLast (fun z => by rw [z] at e; cases e), (List.dropLast_concat_getLast _).symm⟩
    have hr : r.length = n := by rw [List.length_append] at e; simp at e; exact e
    rw [grpO_snoc] at hg
    rcases grpStep_mem.mp hg with z | ⟨hf, g', h1, rfl, hs⟩
    · exact grpO_fits n r hr g z
    · refine ⟨fun x hx => ?_, fun _ => hs⟩
      rcases List.mem_append.mp hx with z | z
      · exact (grpO_fits n r hr g' h1).1 x z
      · rw [List.mem_singleton.mp z]; exact hf
theorem grpO_nodup {k : Book} {now h : Int} {ab : List Nat} : ∀ (n : Nat) (os : List Nat), os.length = n → os.Nodup → (grpO k now h ab os).Nodup
  | 0, os, e, _ => by
    rw [List.length_eq_zero_iff.mp e]
    exact List.nodup_cons.mpr ⟨by simp, .nil⟩
  | n + 1, os, e, nd => by
    obtain ⟨r, b, rfl⟩ : ∃ r b, os = r ++ [b] := ⟨os.dropLast, os.getLast (fun z => by rw [z] at e; cases e), (List.dropLast_concat_getLast _).symm⟩
    have hr : r.length = n := by rw [List.length_append] at e; simp at e; exact e
    obtain ⟨n1, n2, n3⟩ := List.nodup_append.mp nd
    have ih := grpO_nodup (k := k) (now := now) (h := h) (ab := ab) n r hr n1
    rw [grpO_snoc]
    unfold grpStep
    split
    · refine List.nodup_append.mpr ⟨ih, List.Pairwise.filter _ (List.pairwise_map.mpr (ih.imp fun h z => h (List.append_cancel_right z))), fun x hx y hy z => ?_⟩
      obtain ⟨g, hg, e⟩ := List.mem_map.mp (List.mem_filter.mp hy).1
      have hb : b ∈ x := by rw [z, ← e]; simp
      have := (grpO_sub k now h ab n r hr x hx).subset hb
      exact n3 b this b (by simp) rfl
    · exact ih
theorem takenL_mem {gs : List (List Nat)} {rest : List Nat} {p : List Nat × List Nat} : p ∈ takenL gs rest ↔ p.1 ∈ gs ∧ (∀ b ∈ p.1, b ∈ rest) ∧ p.2 = rest.filter fun b => decide (b ∉ p.1) := by
  unfold takenL
  rw [List.mem_map]
  constructor
  · rintro ⟨g, hg, rfl⟩
    obtain ⟨h1, h2⟩ := List.mem_filter.mp hg
    exact ⟨h1, fun b hb => of_decide_eq_true (List.all_eq_true.mp h2 b hb), rfl⟩
  · rintro ⟨h1, h2, h3⟩
    exact ⟨p.1, List.mem_filter.mpr ⟨h1, List.all_eq_true.mpr fun b hb => decide_eq_true (h2 b hb)⟩, by rw [← h3]⟩
/-! ### what goes on from a start, by some hours -/
structure OnFrom (k : Book) (st : List (Option Int)) (hs : List Int) (pl : List (Option Int)) : Prop where
  ok : PlOk k.bs.length pl
  good : allR k pl = []
  part : PartP st pl
  new : ∀ i h, st.getD i none = none → pl.getD i none = some h → h ∈ hs
def stepL (k : Book) (now : Int) (st : List (Option Int)) (h : Int) (L : List (List (Option Int))) : List (List (Option Int)) := L.flatMap fun pl => (takenL (groupsL k now st h) (opens pl)).map fun p => joinP pl p.1 h
def stageL (k : Book) (now : Int) (st : List (Option Int)) (hs : List Int) : List (List (Option Int)) := hs.foldl (fun L h => stepL k now st h L) [st]
theorem stageL_snoc (k : Book) (now : Int) (st : List (Option Int)) (hs : List Int) (h : Int) : stageL k now st (hs ++ [h]) = stepL k now st h (stageL k now st hs) := by
  unfold stageL
  rw [List.foldl_append]
  rfl
theorem stepL_mem {k : Book} {now : Int} {st : List (Option Int)} {h : Int} {L : List (List (Option Int))} {pl : List (Option Int)} : pl ∈ stepL k now st h L ↔ ∃ ql ∈ L, ∃ g ∈ groupsL k now st h, (∀ b ∈ g, b ∈ opens ql) ∧ pl = joinP ql g h := by
  unfold stepL
  rw [List.mem_flatMap]
  constructor
  · rintro ⟨ql, hq, hp0⟩
    obtain ⟨p, hp, rfl⟩ := List.mem_map.mp hp0
    obtain ⟨h1, h2, _⟩ := takenL_mem.mp hp
    exact ⟨ql, hq, p.1, h1, h2, rfl⟩
  · rintro ⟨ql, hq, g, hg, hs, rfl⟩
    exact ⟨ql, hq, List.mem_map.mpr ⟨(g, (opens ql).filter fun b => decide (b ∉ g)), takenL_mem.mpr ⟨hg, hs, rfl⟩, rfl⟩⟩
theorem grp_opens {k : Book} {now h : Int} {st : List (Option Int)} {g : List Nat} (hg : g ∈ groupsL k now st h) : g.Sublist (opens st) := grpO_sub k now h _ _ _ rfl g hg
theorem mem_start {k : Book} {st pl : List (Option Int)} {hs : List Int} (o : OnFrom k st hs pl) {h : Int} (hn : h ∉ hs) {i : Nat} : pl.getD i none = some h ↔ st.getD i none = some h := by
  refine ⟨fun e => ?_, o.part.2 i h⟩
  cases c : st.getD i none with
  | none => exact absurd (o.new i h c e) hn
  | some x =>
    have := o.part.2 i x c
    rw [e] at this
    exact this.symm ▸ rfl
/-- the hours of tows that may go yet, some of them -/
structure HoursOk (now : Int) (hs : List Int) : Prop where
  nd : hs.Nodup
  b : ∀ h ∈ hs, now ≤ h ∧ 0 ≤ h ∧ h < 12
theorem HoursOk.init {now : Int} {hs : List Int} {h : Int} (o : HoursOk now (hs ++ [h])) : HoursOk now hs ∧ h ∉ hs ∧ now ≤ h ∧ 0 ≤ h ∧ h < 12 := by
  obtain ⟨n1, n2, n3⟩ := List.nodup_append.mp o.nd
  exact ⟨⟨n1, fun x hx => o.b x (by simp [hx])⟩, fun z => n3 h z h (by simp) rfl, o.b h (by simp)⟩
theorem step_on {k : Book} (ok : k.Ok) {now h : Int} {st ql : List (Option Int)} {hs : List Int} (o : OnFrom k st hs ql) (hn : h ∉ hs) (h0 : 0 ≤ h) (h12 : h < 12) {g : List Nat} (hg : g ∈ groupsL k now st h) (hs2 : ∀ b ∈ g, b ∈ opens ql) : OnFrom k st (hs ++ [h]) (joinP ql g h) := by
  have hlt : ∀ b ∈ g, b < ql.length := fun b hb => (opens_mem.mp (hs2 b hb)).1
  obtain ⟨f1, f2⟩ := grpO_fits _ _ rfl g hg
  refine ⟨joinP_okO o.ok hlt h0 h12, ?_, ⟨by rw [joinP_len hlt]; exact o.part.1, fun i x e => ?_⟩, fun i x e1 e2 => ?_⟩
  · refine join_good ok h0 h12 g ql o.ok o.good ((grp_opens hg).nodup (opens_nd st)) hs2 (fun b hb => ?_) fun hne => share_part (fun i hi => ?_) (f2 hne)
    · have := f1 b hb
      unfold fitsL at this
      exact (List.mem_filter.mp this).2
    · rcases List.mem_append.mp hi with z | z
      · obtain ⟨z1, z2⟩ := memN_iff.mp z
        have z3 := (mem_start o hn).mp z2
        exact List.mem_append.mpr (.inl (memN_iff.mpr ⟨getD_some_lt z3, z3⟩))
      · exact List.mem_append.mpr (.inr z)
  · have z := o.part.2 i x e
    rw [joinP_at hlt]
    by_cases c : i ∈ g
    · have := (opens_mem.mp (hs2 i c)).2
      rw [z] at this
      cases this
    · rw [if_neg c]; exact z
  · rw [joinP_at hlt] at e2
    by_cases c : i ∈ g
    · rw [if_pos c] at e2
      rw [← Option.some.inj e2]
      simp
    · rw [if_neg c] at e2
      exact List.mem_append.mpr (.inl (o.new i x e1 e2))
/-- a plan without the new ones of an hour -/
def lessP (st pl : List (Option Int)) (h : Int) : List (Option Int) := (List.range pl.length).map fun i => if st.getD i none = none ∧ pl.getD i none = some h then none else pl.getD i none
theorem lessP_len (st pl : List (Option Int)) (h : Int) : (lessP st pl h).length = pl.length := by
  unfold lessP
  rw [List.length_map, List.length_range]
theorem lessP_at (st pl : List (Option Int)) (h : Int) (i : Nat) : (lessP st pl h).getD i none = if st.getD i none = none ∧ pl.getD i none = some h then none else pl.getD i none := by
  by_cases hi : i < pl.length
  · rw [List.getD_eq_getElem?_getD]
    unfold lessP
    rw [List.getElem?_map, List.getElem?_range hi]
    rfl
  · have e : pl.getD i none = none := by rw [List.getD_eq_getElem?_getD, List.getElem?_eq_none (by omega)]; rfl
    rw [List.getD_eq_getElem?_getD, List.getElem?_eq_none (by rw [lessP_len]; omega), e, if_neg (by simp)]
    rfl
def newG (st pl : List (Option Int)) (h : Int) : List Nat := (opens st).filter fun i => decide (pl.getD i none = some h)
theorem step_back {k : Book} (ok : k.Ok) {now h : Int} {st pl : List (Option Int)} {hs : List Int} (o : OnFrom k st (hs ++ [h]) pl) (hn : h ∉ hs) (hnow : now ≤ h) (h0 : 0 ≤ h) (h12 : h < 12) :
    OnFrom k st hs (lessP st pl h) ∧ newG st pl h ∈ groupsL k now st h ∧ (∀ b ∈ newG st pl h, b ∈ opens (lessP st pl h)) ∧ pl = joinP (lessP st pl h) (newG st pl h) h := by
  have hl := o.part.1
  have gm : ∀ {b}, b ∈ newG st pl h ↔ st.getD b none = none ∧ pl.getD b none = some h := fun {b} => by
    unfold newG
    rw [List.mem_filter, decide_eq_true_eq, opens_mem]
    exact ⟨fun z => ⟨z.1.2, z.2⟩, fun z => ⟨⟨by rw [hl]; exact getD_some_lt z.2, z.1⟩, z.2⟩⟩
  have part : PartP (lessP st pl h) pl := ⟨lessP_len st pl h, fun i x e => by
    rw [lessP_at] at e
    split at e
    · cases e
    · exact e⟩
  have okq : PlOk k.bs.length (lessP st pl h) := ⟨by rw [lessP_len]; exact o.ok.len, fun x hx => by
    obtain ⟨j, hj⟩ := mem_getD hx
    exact o.ok.ok x (getD_mem (part.2 j x hj))⟩
  have gop : ∀ b ∈ newG st pl h, b ∈ opens (lessP st pl h) := fun b hb => by
    have z := gm.mp hb
    exact opens_mem.mpr ⟨by rw [lessP_len]; exact getD_some_lt z.2, by rw [lessP_at, if_pos z]⟩
  refine ⟨⟨okq, good_part okq o.ok part o.good, ⟨by rw [lessP_len]; exact hl, fun i x e => ?_⟩, fun i x e1 e2 => ?_⟩, ?_, gop, ?_⟩
  · rw [lessP_at, if_neg (by rw [e]; simp)]
    exact o.part.2 i x e
  · rw [lessP_at] at e2
    split at e2
    · cases e2
    · rename_i c
      rcases List.mem_append.mp (o.new i x e1 e2) with z | z
      · exact z
      · rw [List.mem_singleton.mp z] at e2
        exact absurd ⟨e1, e2⟩ c
  · unfold groupsL
    refine grpO_has (fun g b => share_her g b) _ _ rfl _ ?_ (fun b hb => ?_) fun hne => ?_
    · unfold newG opens
      exact List.filter_sublist
    · unfold fitsL
      exact List.mem_filter.mpr ⟨hoursF_mem.mpr ⟨hnow, h0, h12⟩, good_fit o.ok o.good (gm.mp hb).2⟩
    · refine good_share ok o.ok o.good h (fun i hi => ?_) (fun z => hne (List.append_eq_nil_iff.mp z).2)
      rcases List.mem_append.mp hi with z | z
      · exact o.part.2 i h (memN_iff.mp z).2
      · exact (gm.mp z).2
  · refine ext_getD (by rw [joinP_len (fun b hb => (opens_mem.mp (gop b hb)).1), lessP_len]) fun i => ?_
    rw [joinP_at (fun b hb => (opens_mem.mp (gop b hb)).1), lessP_at]
    by_cases c : i ∈ newG st pl h
    · rw [if_pos c]; exact (gm.mp c).2
    · rw [if_neg c, if_neg fun z => c (gm.mpr z)]
/-- the plans that are told, hour by hour: all that go on from the start by these hours -/
theorem stage_mem {k : Book} (ok : k.Ok) {now : Int} {st : List (Option Int)} (oks : PlOk k.bs.length st) (good : allR k st = []) : ∀ (n : Nat) (hs : List Int), hs.length = n → HoursOk now hs → ∀ pl, pl ∈ stageL k now st hs ↔ OnFrom k st hs pl
  | 0, hs, e, _, pl => by
    rw [List.length_eq_zero_iff.mp e]
    constructor
    · intro z
      have z : pl ∈ [st] := z
      rw [List.mem_singleton.mp z]
      exact ⟨oks, good, ⟨rfl, fun _ _ e => e⟩, fun i h e1 e2 => by rw [e1] at e2; cases e2⟩
    · intro o
      have e : pl = st := ext_getD o.part.1.symm fun i => by
        cases c : st.getD i none with
        | some x => exact o.part.2 i x c
        | none =>
          cases d : pl.getD i none with
          | none => rfl
          | some x => exact absurd (o.new i x c d) (by simp)
      rw [e]
      exact List.mem_singleton.mpr rfl
  | n + 1, hs, e, ho, pl => by
    obtain ⟨r, h, rfl⟩ : ∃ r b, hs = r ++ [b] := ⟨hs.dropLast, hs.getLast (fun z => by rw [z] at e; cases e), (List.dropLast_concat_getLast _).symm⟩
    have hr : r.length = n := by rw [List.length_append] at e; simp at e; exact e
    obtain ⟨ho1, hn, hnow, h0, h12⟩ := ho.init
    have ih := stage_mem ok oks good n r hr ho1
    rw [stageL_snoc, stepL_mem]
    constructor
    · rintro ⟨ql, hq, g, hg, hsub, rfl⟩
      exact step_on ok ((ih ql).mp hq) hn h0 h12 hg hsub
    · intro o
      obtain ⟨o1, o2, o3, o4⟩ := step_back ok o hn hnow h0 h12
      exact ⟨_, (ih _).mpr o1, _, o2, o3, o4⟩
theorem sublist_filter {g os : List Nat} (nd : os.Nodup) (s : g.Sublist os) : g = os.filter fun x => decide (x ∈ g) := by
  induction s with
  | slnil => rfl
  | @cons l₁ l₂ a s ih =>
    obtain ⟨n1, n2⟩ := List.nodup_cons.mp nd
    rw [List.filter_cons_of_neg (by simpa using fun z => n1 (s.subset z))]
    exact ih n2
  | @cons_cons l₁ l₂ a s ih =>
    obtain ⟨n1, n2⟩ := List.nodup_cons.mp nd
    rw [List.filter_cons_of_pos (by simp)]
    congr 1
    refine (ih n2).trans (List.filter_congr fun x hx => ?_)
    have : x ≠ a := fun z => n1 (z ▸ hx)
    simp [this]
theorem stage_nodup {k : Book} (ok : k.Ok) {now : Int} {st : List (Option Int)} (oks : PlOk k.bs.length st) (good : allR k st = []) : ∀ (n : Nat) (hs : List Int), hs.length = n → HoursOk now hs → (stageL k now st hs).Nodup
  | 0, hs, e, _ => by
    rw [List.length_eq_zero_iff.mp e]
    exact List.nodup_cons.mpr ⟨by simp, .nil⟩
  | n + 1, hs, e, ho => by
    obtain ⟨r, h, rfl⟩ : ∃ r b, hs = r ++ [b] := ⟨hs.dropLast, hs.getLast (fun z => by rw [z] at e; cases e), (List.dropLast_concat_getLast _).symm⟩
    have hr : r.length = n := by rw [List.length_append] at e; simp at e; exact e
    obtain ⟨ho1, hn, hnow, h0, h12⟩ := ho.init
    have ih := stage_nodup ok oks good n r hr ho1
    have im := stage_mem ok oks good n r hr ho1
    have back : ∀ ql ∈ stageL k now st r, ∀ p ∈ takenL (groupsL k now st h) (opens ql), (∀ i, i ∈ p.1 ↔ st.getD i none = none ∧ (joinP ql p.1 h).getD i none = some h) ∧ ∀ i, ql.getD i none = if i ∈ p.1 then none else (joinP ql p.1 h).getD i none := fun ql hq p hp => by
      have o := (im ql).mp hq
      obtain ⟨t1, t2, _⟩ := takenL_mem.mp hp
      have hlt : ∀ b ∈ p.1, b < ql.length := fun b hb => (opens_mem.mp (t2 b hb)).1
      refine ⟨fun i => ⟨fun z => ⟨(opens_mem.mp ((grp_opens t1).subset z)).2, by rw [joinP_at hlt, if_pos z]⟩, fun z => ?_⟩, fun i => ?_⟩
      · rw [joinP_at hlt] at z
        by_cases c : i ∈ p.1
        · exact c
        · rw [if_neg c] at z
          exact absurd (o.new i h z.1 z.2) hn
      · by_cases c : i ∈ p.1
        · rw [if_pos c]; exact (opens_mem.mp (t2 i c)).2
        · rw [if_neg c, joinP_at hlt, if_neg c]
    rw [stageL_snoc]
    unfold stepL
    refine List.pairwise_flatMap.mpr ⟨fun ql hq => ?_, ih.imp_of_mem fun {q1 q2} h1 h2 ne x hx y hy z => ?_⟩
    · refine List.pairwise_map.mpr ?_
      have nd : (takenL (groupsL k now st h) (opens ql)).Nodup := by
        unfold takenL
        refine List.pairwise_map.mpr (List.Pairwise.filter _ ((grpO_nodup _ _ rfl (opens_nd st)).imp fun h z => h ?_))
        exact (Prod.mk.inj z).1
      refine nd.imp_of_mem fun {p1 p2} hp1 hp2 ne z => ne ?_
      obtain ⟨b1, _⟩ := back ql hq p1 hp1
      obtain ⟨b2, _⟩ := back ql hq p2 hp2
      obtain ⟨t1, _, t3⟩ := takenL_mem.mp hp1
      obtain ⟨u1, _, u3⟩ := takenL_mem.mp hp2
      have e1 : p1.1 = p2.1 := by
        rw [sublist_filter (opens_nd st) (grp_opens t1), sublist_filter (opens_nd st) (grp_opens u1)]
        refine List.filter_congr fun i _ => ?_
        refine decide_eq_decide.mpr ?_
        rw [b1, b2, z]
      obtain ⟨p11, p12⟩ := p1
      obtain ⟨p21, p22⟩ := p2
      have e1 : p11 = p21 := e1
      subst e1
      have t3 : p12 = _ := t3
      have u3 : p22 = _ := u3
      rw [t3, u3]
    · obtain ⟨p1, hp1, rfl⟩ := List.mem_map.mp hx
      obtain ⟨p2, hp2, rfl⟩ := List.mem_map.mp hy
      obtain ⟨b1, c1⟩ := back q1 h1 p1 hp1
      obtain ⟨b2, c2⟩ := back q2 h2 p2 hp2
      refine ne (ext_getD ?_ fun i => ?_)
      · rw [((im q1).mp h1).ok.len, ((im q2).mp h2).ok.len]
      · rw [c1, c2, z]
        have : i ∈ p1.1 ↔ i ∈ p2.1 := by rw [b1, b2, z]
        by_cases c : i ∈ p1.1
        · rw [if_pos c, if_pos (this.mp c)]
        · rw [if_neg c, if_neg fun y => c (this.mpr y)]
end GD

namespace GD
open PySem PySem.Spec PyProof.Rows L2 GxR GX GS GT GC
theorem catAK {X : Cx} (K : PySem.W.Frag) (h : X.K = K) : OpR X (binaryOp .Add) (rCatA K) := by
  subst h
  exact op_catA
def rListOf (K : PySem.W.Frag) : List V → Hp → VK → Prop := fun xs H Q => ∃ p ys, xs = [V.ref p] ∧ (SqL K H p ys ∨ SqT K H p ys) ∧ ∀ l, H l = none → Q (.ref l) (upd H l (.lst ys))
theorem listOfK {X : Cx} (K : PySem.W.Frag) (h : X.K = K) : CallR X (.type "list") (rListOf K) := by
  subst h
  exact call_list_of
theorem inV_ints (h : Int) (xs : List Int) : inV (.int h) (xs.map V.int) = decide (h ∈ xs) := by
  rw [Bool.eq_iff_iff, decide_eq_true_eq]
  unfold inV
  rw [List.any_map, List.any_eq_true]
  constructor
  · rintro ⟨x, hx, e⟩
    have e2 : eqV (V.int x) (V.int h) = true := e
    have : x = h := by simpa [eqV] using e2
    rw [← this]
    exact hx
  · intro z
    exact ⟨h, z, by show eqV (V.int h) (V.int h) = true; simp [eqV]⟩
theorem flat_ints (xs : List Int) : (xs.map V.int).all flatV = true := by
  rw [List.all_eq_true]
  intro y hy
  obtain ⟨o, _, rfl⟩ := List.mem_map.mp hy
  rfl
theorem openN_pw (pl : List (Option Int)) (n : Nat) : (openN pl n).Pairwise (· < ·) := by
  unfold openN
  exact List.Pairwise.filter _ List.pairwise_lt_range
theorem pw_nodup {xs : List Nat} (h : xs.Pairwise (· < ·)) : xs.Nodup := h.imp fun h => by omega
theorem grp_nodup {k : Book} {now h : Int} {ab os g : List Nat} (hos : os.Nodup) (hg : g ∈ grpO k now h ab os) : g.Nodup := (grpO_sub k now h ab os.length os rfl g hg).nodup hos
theorem grp_mem {k : Book} {now h : Int} {ab os g : List Nat} (hg : g ∈ grpO k now h ab os) : ∀ b ∈ g, b ∈ os := fun b hb => (grpO_sub k now h ab os.length os rfl g hg).subset hb
theorem filter_snoc_take {α : Type} {f : α → Bool} {xs : List α} {j : Nat} {x : α} (h : xs[j]? = some x) : (xs.take (j + 1)).filter f = (xs.take j).filter f ++ (if f x = true then [x] else []) := filter_take h
theorem map_take_succ {α β : Type} {f : α → β} {xs : List α} {j : Nat} {x : α} (h : xs[j]? = some x) : (xs.take (j + 1)).map f = (xs.take j).map f ++ [f x] := by
  rw [List.take_add_one, h, List.map_append]
  rfl
theorem pappl {α β : Type} {F : α → β → Prop} : ∀ {xs : List α} {ys : List β} {xs' : List α} {ys' : List β}, Paired F xs ys → Paired F xs' ys' → Paired F (xs ++ xs') (ys ++ ys')
  | _, _, _, _, .nil, h => h
  | _, _, _, _, .cons r t, h => .cons r (pappl t h)
/-- the list of groups told, a list of tuples -/
def IsGrs (K : PySem.W.Frag) (H : Hp) (L : Addr) (gs : List (List Nat)) : Prop := ∃ ts, H L = some (.lst ts) ∧ Paired (IsGr K H) ts gs
theorem Ext.grs {ex : List Addr} {K : PySem.W.Frag} {H H1 : Hp} {L : Addr} {gs : List (List Nat)} (e : Ext ex H H1) (n : L ∉ ex) (h : IsGrs K H L gs) : IsGrs K H1 L gs := let ⟨ts, h1, h2⟩ := h; ⟨ts, e.lst L _ n h1, Paired.mapP h2 fun _ _ z => e.gr z⟩
/-! ### dicts of open barges -/
section
variable {β : Type}
def QV (F : V → β → Prop) (kvs : List (List L2.Key × V)) (kp : List (List Nat × β)) : Prop := Paired (fun p q => p.1 = keyN q.1 ∧ F p.2 q.2) kvs kp
def findQ (kp : List (List Nat × β)) (r : List Nat) : Option β := (kp.find? fun q => decide (q.1 = r)).map (·.2)
def putQ (kp : List (List Nat × β)) (r : List Nat) (c : β) : List (List Nat × β) := if (kp.any fun q => decide (q.1 = r)) = true then kp.map (fun q => if q.1 = r then (q.1, c) else q) else kp ++ [(r, c)]
def OptR (F : V → β → Prop) : Option V → Option β → Prop
  | some x, some c => F x c
  | none, none => True
  | _, _ => False
theorem QV.mono {F G : V → β → Prop} {kvs : List (List L2.Key × V)} {kp : List (List Nat × β)} (h : QV F kvs kp) (i : ∀ v c, F v c → G v c) : QV G kvs kp := Paired.mapP h fun _ _ z => ⟨z.1, i _ _ z.2⟩
theorem findQ_cons (q : List Nat × β) (kp : List (List Nat × β)) (r : List Nat) : findQ (q :: kp) r = if q.1 = r then some q.2 else findQ kp r := by
  unfold findQ
  rw [List.find?_cons]
  by_cases c : q.1 = r
  · rw [if_pos c, decide_eq_true c]; rfl
  · rw [if_neg c, decide_eq_false c]
theorem QV.find {F : V → β → Prop} : ∀ {kvs : List (List L2.Key × V)} {kp : List (List Nat × β)}, QV F kvs kp → ∀ r, OptR F (valV kvs (keyN r)) (findQ kp r)
  | _, _, .nil, r => trivial
  | _, _, .cons (a := p) (b := q) h t, r => by
    rw [findQ_cons]
    by_cases c : q.1 = r
    · rw [if_pos c, valV_pos (p := p) (by rw [h.1, c])]
      exact h.2
    · rw [if_neg c, valV_neg (p := p) (by rw [h.1]; exact fun z => c (keyN_inj z))]
      exact QV.find t r
theorem QV.any {F : V → β → Prop} {kvs : List (List L2.Key × V)} {kp : List (List Nat × β)} (h : QV F kvs kp) (r : List Nat) : (kvs.any fun kv => decide (kv.1 = keyN r)) = kp.any fun q => decide (q.1 = r) := by
  unfold QV at h
  induction h with
  | nil => rfl
  | cons h t ih =>
    rw [List.any_cons, List.any_cons, ih, h.1]
    congr 1
    exact decide_eq_decide.mpr ⟨fun z => keyN_inj z, fun z => by rw [z]⟩
theorem QV.repl {F : V → β → Prop} {kvs : List (List L2.Key × V)} {kp : List (List Nat × β)} (h : QV F kvs kp) (r : List Nat) {v : V} {c : β} (f : F v c) : QV F (kvs.map fun kv => if kv.1 = keyN r then (kv.1, v) else kv) (kp.map fun q => if q.1 = r then (q.1, c) else q) := by
  unfold QV at h ⊢
  induction h with
  | nil => exact .nil
  | @cons p q ps qs h t ih =>
    rw [List.map_cons, List.map_cons]
    refine .cons ?_ ih
    by_cases e : q.1 = r
    · rw [if_pos e, if_pos (by rw [h.1, e])]; exact ⟨h.1, f⟩
    · rw [if_neg e, if_neg (by rw [h.1]; exact fun z => e (keyN_inj z))]; exact h
theorem QV.put {F : V → β → Prop} {kvs : List (List L2.Key × V)} {kp : List (List Nat × β)} (h : QV F kvs kp) (r : List Nat) {v : V} {c : β} (f : F v c) : QV F (putK kvs (keyN r) v) (putQ kp r c) := by
  unfold putK putQ
  rw [h.any r]
  split
  · exact h.repl r f
  · exact papp h ⟨rfl, f⟩
theorem findQ_none {kp : List (List Nat × β)} {r : List Nat} : findQ kp r = none ↔ ∀ q ∈ kp, q.1 ≠ r := by
  unfold findQ
  rw [Option.map_eq_none_iff, List.find?_eq_none]
  exact ⟨fun h q hq z => h q hq (decide_eq_true z), fun h q hq z => h q hq (of_decide_eq_true z)⟩
theorem findQ_mem {kp : List (List Nat × β)} {r : List Nat} {c : β} (h : findQ kp r = some c) : (r, c) ∈ kp := by
  unfold findQ at h
  obtain ⟨q, hq, rfl⟩ := Option.map_eq_some_iff.mp h
  have e := of_decide_eq_true (List.find?_some (p := fun q : List Nat × β => decide (q.1 = r)) hq)
  rw [← e]
  exact List.mem_of_find?_eq_some hq
theorem findQ_of {kp : List (List Nat × β)} (nd : (kp.map (·.1)).Nodup) {q : List Nat × β} (h : q ∈ kp) : findQ kp q.1 = some q.2 := by
  induction kp with
  | nil => cases h
  | cons p kp ih =>
    obtain ⟨n1, n2⟩ := List.nodup_cons.mp nd
    rw [findQ_cons]
    rcases List.mem_cons.mp h with rfl | h
    · rw [if_pos rfl]
    · rw [if_neg (show ¬ p.1 = q.1 from fun z => n1 (List.mem_map.mpr ⟨q, h, z.symm⟩)), ih n2 h]
theorem any_keyQ {kp : List (List Nat × β)} {r : List Nat} : (kp.any fun q => decide (q.1 = r)) = true ↔ r ∈ kp.map (·.1) := by
  rw [List.any_eq_true, List.mem_map]
  exact ⟨fun ⟨q, h1, h2⟩ => ⟨q, h1, of_decide_eq_true h2⟩, fun ⟨q, h1, h2⟩ => ⟨q, h1, decide_eq_true h2⟩⟩
theorem putQ_keys {kp : List (List Nat × β)} (nd : (kp.map (·.1)).Nodup) (r : List Nat) (c : β) : ((putQ kp r c).map (·.1)).Nodup := by
  unfold putQ
  split
  · rw [List.map_map]
    have : (kp.map ((·.1) ∘ fun q => if q.1 = r then (q.1, c) else q)) = kp.map (·.1) := List.map_congr_left fun q _ => by
      show (if q.1 = r then (q.1, c) else q).1 = q.1
      split <;> rfl
    rw [this]
    exact nd
  · rename_i h
    rw [List.map_append]
    refine List.nodup_append.mpr ⟨nd, by simp, fun x hx y hy z => h (any_keyQ.mpr ?_)⟩
    rw [← show y = r by simpa using hy, ← z]
    exact hx
theorem putQ_mem {kp : List (List Nat × β)} {r : List Nat} {c : β} {q : List Nat × β} : q ∈ putQ kp r c → q = (r, c) ∨ (q ∈ kp ∧ q.1 ≠ r) := by
  unfold putQ
  split
  · intro h
    obtain ⟨p, hp, rfl⟩ := List.mem_map.mp h
    by_cases e : p.1 = r
    · rw [if_pos e, e]; exact .inl rfl
    · rw [if_neg e]; exact .inr ⟨hp, e⟩
  · rename_i n
    intro h
    rcases List.mem_append.mp h with h | h
    · exact .inr ⟨h, fun z => n (any_keyQ.mpr (List.mem_map.mpr ⟨q, h, z⟩))⟩
    · exact .inl (List.mem_singleton.mp h)
theorem mem_putQ {kp : List (List Nat × β)} {r : List Nat} {c : β} {q : List Nat × β} : q = (r, c) ∨ (q ∈ kp ∧ q.1 ≠ r) → q ∈ putQ kp r c := by
  unfold putQ
  intro h
  split
  · rename_i n
    rcases h with rfl | ⟨h1, h2⟩
    · obtain ⟨p, hp, e⟩ := List.mem_map.mp (any_keyQ.mp n)
      exact List.mem_map.mpr ⟨p, hp, by rw [if_pos e, e]⟩
    · exact List.mem_map.mpr ⟨q, h1, by rw [if_neg h2]⟩
  · rcases h with rfl | ⟨h1, _⟩
    · exact List.mem_append.mpr (.inr (by simp))
    · exact List.mem_append.mpr (.inl h1)
theorem findQ_put {kp : List (List Nat × β)} (nd : (kp.map (·.1)).Nodup) (r r' : List Nat) (c : β) : findQ (putQ kp r c) r' = if r' = r then some c else findQ kp r' := by
  have nd2 := putQ_keys nd r c
  by_cases e : r' = r
  · rw [if_pos e, e]
    exact findQ_of nd2 (q := (r, c)) (mem_putQ (.inl rfl))
  · rw [if_neg e]
    cases f : findQ kp r' with
    | some x => exact findQ_of nd2 (q := (r', x)) (mem_putQ (.inr ⟨findQ_mem f, e⟩))
    | none =>
      rw [findQ_none] at f ⊢
      intro q hq
      rcases putQ_mem hq with rfl | ⟨h, _⟩
      · exact fun z => e z.symm
      · exact f q h
/-- keys are lists of barges, rising -/
def KeysN (n : Nat) (kp : List (List Nat × β)) : Prop := (kp.map (·.1)).Nodup ∧ ∀ q ∈ kp, q.1.Pairwise (· < ·) ∧ ∀ x ∈ q.1, x < n
theorem KeysN.len {n : Nat} {kp : List (List Nat × β)} (h : KeysN n kp) (n7 : n ≤ 7) : kp.length ≤ 128 := by
  have h1 := sub_len (ys := subsN 0 n) h.1 fun x hx => by
    obtain ⟨q, hq, rfl⟩ := List.mem_map.mp hx
    obtain ⟨p1, p2⟩ := h.2 q hq
    exact subsN_mem p1 fun y hy => ⟨Nat.zero_le _, by have := p2 y hy; omega⟩
  rw [List.length_map, subsN_len] at h1
  have h2 : 2 ^ n ≤ 2 ^ 7 := Nat.pow_le_pow_right (by decide) n7
  exact Nat.le_trans h1 h2
theorem KeysN.put {n : Nat} {kp : List (List Nat × β)} (h : KeysN n kp) {r : List Nat} (c : β) (h1 : r.Pairwise (· < ·)) (h2 : ∀ x ∈ r, x < n) : KeysN n (putQ kp r c) := ⟨putQ_keys h.1 r c, fun q hq => by
  rcases putQ_mem hq with rfl | ⟨z, _⟩
  · exact ⟨h1, h2⟩
  · exact h.2 q z⟩
end
/-! ### the least of each -/
def lexO (xs ys : List (Option Int)) : Bool := HT.lexLt (xs.map fun o => o.getD 0) (ys.map fun o => o.getD 0)
theorem lexO_tr {a b c : List (Option Int)} (h1 : lexO a b = false) (h2 : lexO b c = false) : lexO a c = false := NtL.lex_tr _ _ _ h2 h1
theorem lexO_asym {a b : List (Option Int)} (h : lexO a b = true) : lexO b a = false := NtL.lex_asym _ _ h
theorem lexO_irr (a : List (Option Int)) : lexO a a = false := by
  cases h : lexO a a with
  | false => rfl
  | true => have z := lexO_asym h; rw [h] at z; exact z
structure Kept (R : List (Option Int) → List (Option Int)) (C : List (List (Option Int))) (kp : List (List Nat × List (Option Int))) : Prop where
  nd : (kp.map (·.1)).Nodup
  ok : ∀ q ∈ kp, q.2 ∈ C ∧ opens q.2 = q.1
  min : ∀ c ∈ C, ∃ q ∈ kp, q.1 = opens c ∧ lexO (R c) (R q.2) = false
section
variable {R : List (Option Int) → List (Option Int)} {C : List (List (Option Int))} {kp : List (List Nat × List (Option Int))} {c : List (Option Int)}
theorem Kept.nil : Kept R [] [] := ⟨.nil, fun _ h => absurd h (by simp), fun _ h => absurd h (by simp)⟩
theorem Kept.one (c : List (Option Int)) : Kept R [c] [(opens c, c)] := ⟨by simp, fun q hq => by rw [List.mem_singleton.mp hq]; exact ⟨by simp, rfl⟩, fun x hx => ⟨_, List.mem_singleton.mpr rfl, by rw [List.mem_singleton.mp hx], by rw [List.mem_singleton.mp hx]; exact lexO_irr _⟩⟩
theorem Kept.keys (K : Kept R C kp) {n : Nat} (hl : ∀ c ∈ C, c.length = n) : KeysN n kp := ⟨K.nd, fun q hq => by
  obtain ⟨h1, h2⟩ := K.ok q hq
  rw [← h2]
  exact ⟨opens_pw _, fun x hx => by have := (opens_mem.mp hx).1; rw [hl _ h1] at this; exact this⟩⟩
theorem Kept.put (K : Kept R C kp) (h : ∀ p, findQ kp (opens c) = some p → lexO (R c) (R p) = true) : Kept R (C ++ [c]) (putQ kp (opens c) c) := by
  refine ⟨putQ_keys K.nd _ _, fun q hq => ?_, fun x hx => ?_⟩
  · rcases putQ_mem hq with rfl | ⟨z, _⟩
    · exact ⟨by simp, rfl⟩
    · obtain ⟨h1, h2⟩ := K.ok q z
      exact ⟨List.mem_append.mpr (.inl h1), h2⟩
  · rcases List.mem_append.mp hx with hx | hx
    · obtain ⟨q, hq, e, hl⟩ := K.min x hx
      by_cases d : q.1 = opens c
      · refine ⟨(opens c, c), mem_putQ (.inl rfl), by rw [← d, e], ?_⟩
        have := h q.2 (by rw [← d]; exact findQ_of K.nd hq)
        exact lexO_tr hl (lexO_asym this)
      · exact ⟨q, mem_putQ (.inr ⟨hq, d⟩), e, hl⟩
    · rw [List.mem_singleton.mp hx]
      exact ⟨(opens c, c), mem_putQ (.inl rfl), rfl, lexO_irr _⟩
theorem Kept.skip (K : Kept R C kp) {p : List (Option Int)} (h : findQ kp (opens c) = some p) (hl : lexO (R c) (R p) = false) : Kept R (C ++ [c]) kp := by
  refine ⟨K.nd, fun q hq => ?_, fun x hx => ?_⟩
  · obtain ⟨h1, h2⟩ := K.ok q hq
    exact ⟨List.mem_append.mpr (.inl h1), h2⟩
  · rcases List.mem_append.mp hx with hx | hx
    · exact K.min x hx
    · rw [List.mem_singleton.mp hx]
      exact ⟨_, findQ_mem h, rfl, hl⟩
end
/-- a rank that orders two plans with the same ones open as it orders them with the same later hours -/
structure RankOk (k : Book) (st : List (Option Int)) (R : List (Option Int) → List (Option Int)) : Prop where
  same : ∀ p q, PlOk k.bs.length p → PlOk k.bs.length q → opens p = opens q → (R p).length = (R q).length ∧ ∀ i : Nat, (R p)[i]? = some none ↔ (R q)[i]? = some none
  mono : ∀ hs h p q g, OnFrom k st hs p → OnFrom k st hs q → h ∉ hs → 0 ≤ h → h < 12 → opens p = opens q → (∀ b ∈ g, b ∈ opens p) → g.Nodup → lexO (R p) (R q) = false → lexO (R (joinP p g h)) (R (joinP q g h)) = false
def candsL (k : Book) (now : Int) (st : List (Option Int)) (h : Int) (kp : List (List Nat × List (Option Int))) : List (List (Option Int)) := kp.flatMap fun q => (takenL (groupsL k now st h) q.1).map fun p => joinP q.2 p.1 h
theorem Kept.step {k : Book} {now h : Int} {st : List (Option Int)} {hs : List Int} {R : List (Option Int) → List (Option Int)} {L : List (List (Option Int))} {kp kp2 : List (List Nat × List (Option Int))} (RO : RankOk k st R) (hL : ∀ p ∈ L, OnFrom k st hs p) (hn : h ∉ hs) (h0 : 0 ≤ h) (h12 : h < 12)
    (K : Kept R L kp) (K2 : Kept R (candsL k now st h kp) kp2) : Kept R (stepL k now st h L) kp2 := by
  have cin : ∀ c ∈ candsL k now st h kp, c ∈ stepL k now st h L := fun c hc => by
    unfold candsL at hc
    obtain ⟨q, hq, hc⟩ := List.mem_flatMap.mp hc
    obtain ⟨p, hp, rfl⟩ := List.mem_map.mp hc
    obtain ⟨k1, k2⟩ := K.ok q hq
    obtain ⟨t1, t2, _⟩ := takenL_mem.mp hp
    exact stepL_mem.mpr ⟨q.2, k1, p.1, t1, by rw [k2]; exact t2, rfl⟩
  refine ⟨K2.nd, fun q hq => ⟨cin _ (K2.ok q hq).1, (K2.ok q hq).2⟩, fun c hc => ?_⟩
  obtain ⟨ql, hq, g, hg, hsub, rfl⟩ := stepL_mem.mp hc
  obtain ⟨q, hqk, e, hl⟩ := K.min ql hq
  obtain ⟨k1, k2⟩ := K.ok q hqk
  have hcand : joinP q.2 g h ∈ candsL k now st h kp := by
    unfold candsL
    exact List.mem_flatMap.mpr ⟨q, hqk, List.mem_map.mpr ⟨(g, q.1.filter fun b => decide (b ∉ g)), takenL_mem.mpr ⟨hg, by rw [e]; exact hsub, rfl⟩, rfl⟩⟩
  have eo : opens ql = opens q.2 := by rw [k2, e]
  obtain ⟨q', hq', e', hl'⟩ := K2.min _ hcand
  have hlt : ∀ b ∈ g, b < ql.length := fun b hb => (opens_mem.mp (hsub b hb)).1
  have hlt2 : ∀ b ∈ g, b < q.2.length := fun b hb => (opens_mem.mp (by rw [← eo]; exact hsub b hb)).1
  refine ⟨q', hq', ?_, lexO_tr ?_ hl'⟩
  · rw [e', opens_join hlt, opens_join hlt2, eo]
  · exact RO.mono hs h ql q.2 g (hL _ hq) (hL _ k1) hn h0 h12 eo hsub ((grp_opens hg).nodup (opens_nd st)) hl
/-! ### ranks -/
def worthO (k : Book) (pl : List (Option Int)) : List (Option Int) := [some ((hoursL pl).length : Int), some (waitsN k pl pl.length).sum]
theorem lexO_worth (k : Book) (p q : List (Option Int)) : lexO (worthO k p) (worthO k q) = HT.lexLt (worthI k p) (worthI k q) := rfl
theorem join_hours {h : Int} (h0 : 0 ≤ h) (h12 : h < 12) : ∀ (g : List Nat) (pl : List (Option Int)), g.Nodup → (∀ b ∈ g, b ∈ opens pl) → ((hoursL (joinP pl g h)).length : Int) = ((hoursL pl).length : Int) + (if some h ∈ pl ∨ g = [] then 0 else 1)
  | [], pl, _, _ => by
    rw [if_pos (.inr rfl)]
    show ((hoursL pl).length : Int) = _
    omega
  | b :: g, pl, nd, op => by
    obtain ⟨nd1, nd2⟩ := List.nodup_cons.mp nd
    have hb := opens_mem.mp (op b (by simp))
    have hop : pl[b]? = some none := by
      have z := hb.2
      rw [List.getD_eq_getElem?_getD, List.getElem?_eq_getElem hb.1] at z
      rw [List.getElem?_eq_getElem hb.1]
      exact congrArg some z
    show ((hoursL (joinP (putP pl b h) g h)).length : Int) = _
    rw [join_hours h0 h12 g (putP pl b h) nd2 (fun x hx => by
      have hx2 := opens_mem.mp (op x (by simp [hx]))
      refine opens_mem.mpr ⟨by rw [putP_len hb.1]; exact hx2.1, ?_⟩
      rw [putP_at hb.1, if_neg (show x ≠ b from fun z => nd1 (z ▸ hx))]
      exact hx2.2), put_hours hop h0 h12, if_pos (show some h ∈ putP pl b h ∨ g = [] from .inl ((put_mem hop h).mpr (.inl rfl)))]
    by_cases c : some h ∈ pl
    · rw [if_pos c, if_pos (show some h ∈ pl ∨ b :: g = [] from .inl c)]; omega
    · rw [if_neg c, if_neg (show ¬ (some h ∈ pl ∨ b :: g = []) by simp [c])]; omega
theorem join_waits {k : Book} {h : Int} : ∀ (g : List Nat) (pl : List (Option Int)), pl.length = k.bs.length → g.Nodup → (∀ b ∈ g, b ∈ opens pl) → (waitsN k (joinP pl g h) pl.length).sum = (waitsN k pl pl.length).sum + (g.map fun b => waitB k b h).sum
  | [], pl, _, _, _ => by
    show (waitsN k pl pl.length).sum = _
    simp
  | b :: g, pl, hl, nd, op => by
    obtain ⟨nd1, nd2⟩ := List.nodup_cons.mp nd
    have hb := opens_mem.mp (op b (by simp))
    have hop : pl[b]? = some none := by
      have z := hb.2
      rw [List.getD_eq_getElem?_getD, List.getElem?_eq_getElem hb.1] at z
      rw [List.getElem?_eq_getElem hb.1]
      exact congrArg some z
    show (waitsN k (joinP (putP pl b h) g h) pl.length).sum = _
    have z := join_waits (k := k) (h := h) g (putP pl b h) (by rw [putP_len hb.1, hl]) nd2 (fun x hx => by
      have hx2 := opens_mem.mp (op x (by simp [hx]))
      refine opens_mem.mpr ⟨by rw [putP_len hb.1]; exact hx2.1, ?_⟩
      rw [putP_at hb.1, if_neg (show x ≠ b from fun z => nd1 (z ▸ hx))]
      exact hx2.2)
    rw [putP_len hb.1] at z
    rw [z, put_waits2 hop (b := k.bs[b]'(by have := hb.1; omega)) (List.getElem?_eq_getElem _), if_pos hb.1, List.map_cons, List.sum_cons]
    omega
theorem hour_start {k : Book} {st pl : List (Option Int)} {hs : List Int} (o : OnFrom k st hs pl) {h : Int} (hn : h ∉ hs) : some h ∈ pl ↔ some h ∈ st := by
  constructor
  · intro z
    obtain ⟨i, hi⟩ := mem_getD z
    exact getD_mem ((mem_start o hn).mp hi)
  · intro z
    obtain ⟨i, hi⟩ := mem_getD z
    exact getD_mem ((mem_start o hn).mpr hi)
theorem rank_worth (k : Book) (st : List (Option Int)) : RankOk k st (worthO k) where
  same := fun p q _ _ _ => ⟨rfl, fun i => by
    match i with
    | 0 => exact ⟨fun z => by simp [worthO] at z, fun z => by simp [worthO] at z⟩
    | 1 => exact ⟨fun z => by simp [worthO] at z, fun z => by simp [worthO] at z⟩
    | i + 2 => exact ⟨fun z => by simp [worthO] at z, fun z => by simp [worthO] at z⟩⟩
  mono := fun hs h p q g op oq hn h0 h12 e hg nd hl => by
    have hg2 : ∀ b ∈ g, b ∈ opens q := by rw [← e]; exact hg
    rw [lexO_worth] at hl ⊢
    unfold worthI at hl ⊢
    have hp := hour_start op hn
    have hq := hour_start oq hn
    have lp := joinP_len (h := h) (fun b hb => (opens_mem.mp (hg b hb)).1)
    have lq := joinP_len (h := h) (fun b hb => (opens_mem.mp (hg2 b hb)).1)
    rw [lp, lq, join_hours h0 h12 g p nd hg, join_hours h0 h12 g q nd hg2, join_waits g p op.ok.len nd hg, join_waits g q oq.ok.len nd hg2]
    have ec : (if some h ∈ p ∨ g = [] then (0 : Int) else 1) = if some h ∈ q ∨ g = [] then 0 else 1 := by
      have : some h ∈ p ↔ some h ∈ q := hp.trans hq.symm
      by_cases c : some h ∈ p ∨ g = []
      · rw [if_pos c, if_pos (c.imp this.mp id)]
      · rw [if_neg c, if_neg fun z => c (z.imp this.mpr id)]
    rw [ec]
    rw [lex2, decide_eq_false_iff_not] at hl ⊢
    omega
theorem lex_same : ∀ (p q p' q' : List (Option Int)), p.length = q.length → p'.length = p.length → q'.length = q.length → (∀ i : Nat, (p'[i]? = p[i]? ∧ q'[i]? = q[i]?) ∨ (p[i]? = q[i]? ∧ p'[i]? = q'[i]?)) → lexO p' q' = lexO p q
  | [], q, p', q', h1, h2, h3, _ => by
    have e1 : q = [] := List.length_eq_zero_iff.mp h1.symm
    subst e1
    rw [List.length_eq_zero_iff.mp h2, List.length_eq_zero_iff.mp h3]
  | x :: p, [], _, _, h1, _, _, _ => by cases h1
  | x :: p, y :: q, [], _, _, h2, _, _ => by cases h2
  | x :: p, y :: q, x' :: p', [], _, _, h3, _ => by cases h3
  | x :: p, y :: q, x' :: p', y' :: q', h1, h2, h3, h => by
    have ih := lex_same p q p' q' (Nat.succ.inj h1) (Nat.succ.inj h2) (Nat.succ.inj h3) fun i => by simpa using h (i + 1)
    have h00 := h 0
    simp only [List.getElem?_cons_zero, Option.some.injEq] at h00
    unfold lexO at ih ⊢
    rw [List.map_cons, List.map_cons, List.map_cons, List.map_cons, HT.lexLt_cons, HT.lexLt_cons, ih]
    rcases h00 with ⟨rfl, rfl⟩ | ⟨rfl, rfl⟩
    · rfl
    · rw [if_pos rfl, if_pos rfl]
theorem none_at {p q : List (Option Int)} (hl : p.length = q.length) (e : opens p = opens q) (i : Nat) : p[i]? = some none ↔ q[i]? = some none := by
  have hp : ∀ {p : List (Option Int)}, p[i]? = some none ↔ i ∈ opens p := fun {p} => by
    rw [opens_mem]
    constructor
    · intro z
      exact ⟨(List.getElem?_eq_some_iff.mp z).1, getD_of z⟩
    · rintro ⟨z1, z2⟩
      rw [List.getD_eq_getElem?_getD, List.getElem?_eq_getElem z1] at z2
      rw [List.getElem?_eq_getElem z1]
      exact congrArg some z2
  rw [hp, hp, e]
theorem getQ_join {pl : List (Option Int)} {g : List Nat} {h : Int} (hg : ∀ b ∈ g, b < pl.length) (i : Nat) : (joinP pl g h)[i]? = if i ∈ g then some (some h) else pl[i]? := by
  have z := joinP_at (h := h) hg i
  have l := joinP_len (h := h) hg
  by_cases hi : i < pl.length
  · rw [List.getD_eq_getElem?_getD, List.getD_eq_getElem?_getD, List.getElem?_eq_getElem (by omega), List.getElem?_eq_getElem hi] at z
    rw [List.getElem?_eq_getElem (by omega), List.getElem?_eq_getElem hi]
    by_cases c : i ∈ g
    · rw [if_pos c] at z ⊢; exact congrArg some z
    · rw [if_neg c] at z ⊢; exact congrArg some z
  · rw [if_neg fun c => hi (hg i c), List.getElem?_eq_none (by omega), List.getElem?_eq_none (by omega)]
theorem rank_plan (k : Book) (st : List (Option Int)) : RankOk k st (fun pl => pl) where
  same := fun p q hp hq e => ⟨by rw [hp.len, hq.len], none_at (by rw [hp.len, hq.len]) e⟩
  mono := fun hs h p q g op oq hn h0 h12 e hg nd hl => by
    have hgp : ∀ b ∈ g, b < p.length := fun b hb => (opens_mem.mp (hg b hb)).1
    have hgq : ∀ b ∈ g, b < q.length := fun b hb => (opens_mem.mp (by rw [← e]; exact hg b hb)).1
    have ll : p.length = q.length := by rw [op.ok.len, oq.ok.len]
    rw [lex_same p q _ _ ll (joinP_len hgp) (joinP_len hgq) fun i => ?_]
    · exact hl
    · rw [getQ_join hgp, getQ_join hgq]
      by_cases c : i ∈ g
      · rw [if_pos c, if_pos c]
        have hi := opens_mem.mp (hg i c)
        have hj := opens_mem.mp (show i ∈ opens q by rw [← e]; exact hg i c)
        refine .inr ⟨?_, rfl⟩
        have z1 := hi.2
        have z2 := hj.2
        rw [List.getD_eq_getElem?_getD, List.getElem?_eq_getElem hi.1] at z1
        rw [List.getD_eq_getElem?_getD, List.getElem?_eq_getElem hj.1] at z2
        rw [List.getElem?_eq_getElem hi.1, List.getElem?_eq_getElem hj.1]
        exact congrArg some (z1.trans z2.symm)
      · rw [if_neg c, if_neg c]; exact .inl ⟨rfl, rfl⟩
/-! ### how many -/
def sumW (xs : List (List Nat × Int)) (r : List Nat) : Int := (xs.map fun p => if p.1 = r then p.2 else 0).sum
theorem sumW_snoc (xs : List (List Nat × Int)) (l r : List Nat) (m : Int) : sumW (xs ++ [(l, m)]) r = sumW xs r + if l = r then m else 0 := by
  unfold sumW
  rw [List.map_append, List.sum_append]
  simp
theorem sumW_app (xs ys : List (List Nat × Int)) (r : List Nat) : sumW (xs ++ ys) r = sumW xs r + sumW ys r := by
  unfold sumW
  rw [List.map_append, List.sum_append]
def waysL (gs : List (List Nat)) (kp : List (List Nat × Int)) : List (List Nat × Int) := kp.flatMap fun q => (takenL gs q.1).map fun p => (p.2, q.2)
def leftC (gs : List (List Nat)) (rest r : List Nat) : Nat := (takenL gs rest).countP fun p => decide (p.2 = r)
theorem sumW_row (ps : List (List Nat × List Nat)) (m : Int) (r : List Nat) : sumW (ps.map fun p => (p.2, m)) r = m * ((ps.countP fun p => decide (p.2 = r) : Nat) : Int) := by
  induction ps with
  | nil => simp [sumW]
  | cons p ps ih =>
    rw [List.map_cons, List.countP_cons]
    have e : sumW ((p.2, m) :: ps.map fun p => (p.2, m)) r = (if p.2 = r then m else 0) + sumW (ps.map fun p => (p.2, m)) r := by
      unfold sumW
      rw [List.map_cons, List.sum_cons]
    rw [e, ih]
    by_cases c : p.2 = r
    · rw [if_pos c, if_pos (decide_eq_true c), Int.natCast_add, Int.mul_add]
      simp
      omega
    · rw [if_neg c, if_neg (by simpa using c)]
      simp
theorem sumW_ways (gs : List (List Nat)) (kp : List (List Nat × Int)) (r : List Nat) : sumW (waysL gs kp) r = (kp.map fun q => q.2 * (leftC gs q.1 r : Int)).sum := by
  induction kp with
  | nil => rfl
  | cons q kp ih =>
    have e : waysL gs (q :: kp) = ((takenL gs q.1).map fun p => (p.2, q.2)) ++ waysL gs kp := by
      unfold waysL
      rw [List.flatMap_cons]
    rw [e, sumW_app, ih, sumW_row, List.map_cons, List.sum_cons]
    rfl
theorem ways_sum (f : List Nat → Int) : ∀ (kp : List (List Nat × Int)) (C : List (List Nat)), (kp.map (·.1)).Nodup → (∀ r, (findQ kp r).getD 0 = (C.count r : Int)) → (kp.map fun q => q.2 * f q.1).sum = (C.map f).sum
  | [], C, _, h => by
    cases C with
    | nil => rfl
    | cons c C =>
      have z := h c
      rw [List.count_cons_self] at z
      have : (findQ ([] : List (List Nat × Int)) c).getD 0 = 0 := rfl
      rw [this] at z
      omega
  | q :: kp, C, nd, h => by
    obtain ⟨n1, n2⟩ := List.nodup_cons.mp nd
    have hq : q.2 = (C.count q.1 : Int) := by
      have z := h q.1
      rw [findQ_cons, if_pos rfl] at z
      exact z
    have ih := ways_sum f kp (C.filter fun c => decide (c ≠ q.1)) n2 fun r => by
      by_cases e : r = q.1
      · rw [e, findQ_none.mpr fun p hp z => n1 (List.mem_map.mpr ⟨p, hp, z⟩), List.count_eq_zero.mpr (by simp)]
        rfl
      · have z := h r
        rw [findQ_cons, if_neg fun y => e y.symm] at z
        rw [z, List.count_filter (by simpa using e)]
    rw [List.map_cons, List.sum_cons, ih, hq]
    have split : ∀ D : List (List Nat), (D.map f).sum = (D.count q.1 : Int) * f q.1 + ((D.filter fun c => decide (c ≠ q.1)).map f).sum := fun D => by
      induction D with
      | nil => simp
      | cons d D ihD =>
        rw [List.map_cons, List.sum_cons, ihD]
        by_cases e : d = q.1
        · rw [e, List.count_cons_self, List.filter_cons_of_neg (by simp), Int.natCast_add, Int.add_mul]
          simp
          omega
        · rw [List.count_cons_of_ne e, List.filter_cons_of_pos (by simpa using e), List.map_cons, List.sum_cons]
          omega
    rw [split C]
theorem count_step {k : Book} {now h : Int} {st : List (Option Int)} {L : List (List (Option Int))} (r : List Nat) : (((stepL k now st h L).map opens).count r : Int) = ((L.map opens).map fun rest => (leftC (groupsL k now st h) rest r : Int)).sum := by
  unfold stepL
  induction L with
  | nil => rfl
  | cons pl L ih =>
    rw [List.flatMap_cons, List.map_append, List.count_append, List.map_cons, List.map_cons, List.sum_cons, ← ih, Int.natCast_add]
    congr 1
    congr 1
    unfold leftC List.count
    rw [List.map_map, List.countP_map]
    refine List.countP_congr fun p hp => ?_
    obtain ⟨t1, t2, t3⟩ := takenL_mem.mp hp
    show (opens (joinP pl p.1 h) == r) = true ↔ decide (p.2 = r) = true
    rw [opens_join (fun b hb => (opens_mem.mp (t2 b hb)).1), ← t3, beq_iff_eq, decide_eq_true_eq]
/-- a table of ways -/
structure Ways (C : List (List Nat)) (kp : List (List Nat × Int)) : Prop where
  nd : (kp.map (·.1)).Nodup
  ok : ∀ r, (findQ kp r).getD 0 = (C.count r : Int)
theorem Ways.step {k : Book} {now h : Int} {st : List (Option Int)} {L : List (List (Option Int))} {kp kp2 : List (List Nat × Int)} (W : Ways (L.map opens) kp) (nd : (kp2.map (·.1)).Nodup) (h2 : ∀ r, (findQ kp2 r).getD 0 = sumW (waysL (groupsL k now st h) kp) r) : Ways ((stepL k now st h L).map opens) kp2 :=
  ⟨nd, fun r => by rw [h2, sumW_ways, ways_sum (fun rest => (leftC (groupsL k now st h) rest r : Int)) kp _ W.nd W.ok, count_step]⟩
/-! ### t < u of tuples of whole numbers and None, None at the same places -/
def rLtO (K : PySem.W.Frag) : R2 := fun x y H Q => ∃ (a b : Addr) (xs ys : List (Option Int)), x = .ref a ∧ y = .ref b ∧ SqT K H a (xs.map oV) ∧ SqT K H b (ys.map oV) ∧ xs.length = ys.length ∧ (∀ i : Nat, xs[i]? = some none ↔ ys[i]? = some none) ∧ Q (.bl (lexO xs ys)) H
theorem lexAt_O {xs ys : List (Option Int)} (same : ∀ i : Nat, xs[i]? = some none ↔ ys[i]? = some none) : ∀ (n : Nat) (i : Nat), xs.length = i + n → ys.length = i + n → Ob.lexAt (fun j => decide (xs.getD j none = ys.getD j none)) (fun j => decide ((xs.getD j none).getD 0 < (ys.getD j none).getD 0)) false i n = lexO (xs.drop i) (ys.drop i)
  | 0, i, h1, h2 => by
    rw [Ob.lexAt_zero, List.drop_eq_nil_of_le (by omega), List.drop_eq_nil_of_le (by omega)]
    rfl
  | n + 1, i, h1, h2 => by
    have i1 : i < xs.length := by omega
    have i2 : i < ys.length := by omega
    rw [Ob.lexAt_succ, lexAt_O same n (i + 1) (by omega) (by omega), List.drop_eq_getElem_cons i1, List.drop_eq_getElem_cons i2]
    have e1 : xs.getD i none = xs[i] := by rw [List.getD_eq_getElem?_getD, List.getElem?_eq_getElem i1]; rfl
    have e2 : ys.getD i none = ys[i] := by rw [List.getD_eq_getElem?_getD, List.getElem?_eq_getElem i2]; rfl
    rw [e1, e2]
    unfold lexO
    rw [List.map_cons, List.map_cons, HT.lexLt_cons]
    by_cases c : xs[i] = ys[i]
    · rw [decide_eq_true c, if_pos rfl, if_pos (by rw [c])]
    · rw [decide_eq_false c, if_neg (by decide)]
      by_cases d : xs[i].getD 0 = ys[i].getD 0
      · have z := same i
        rw [List.getElem?_eq_getElem i1, List.getElem?_eq_getElem i2] at z
        exfalso
        cases p : xs[i] with
        | none =>
          rw [p] at z c
          exact c (Option.some.inj (z.mp rfl)).symm
        | some x =>
          cases q : ys[i] with
          | none =>
            rw [p, q] at z
            have := Option.some.inj (z.mpr rfl)
            cases this
          | some y =>
            rw [p, q] at d c
            exact c (congrArg some d)
      · rw [if_neg d]
theorem rel_oV {o : Option Int} {u : Value} (r : RelV (oV o) u) : (o = none ∧ u = .none) ∨ ∃ i t, o = some i ∧ u = .int i t := by
  cases o with
  | none => exact .inl ⟨rfl, r⟩
  | some i =>
    obtain ⟨t, e⟩ := (show ∃ t, u = Value.int i t from r)
    exact .inr ⟨i, t, rfl, e⟩
theorem op_ltO {X : Cx} (hu : X.A.units < cLine) : OpR X (compareOp .Lt) (rLtO X.K) := by
  intro pins s σ H x y v u Q I rx ry h
  obtain ⟨a, b, xs, ys, rfl, rfl, ha, hb, hl, same, q⟩ := h
  cases rx
  cases ry
  obtain ⟨its, r1, p1, _⟩ := I.tuple ha
  obtain ⟨its2, r2, p2, _⟩ := I.tuple hb
  have l1 : its.toArray.size = xs.length := by rw [List.size_toArray]; have := r1.length; rw [List.length_map] at this; exact this.symm
  have l2 : its2.toArray.size = ys.length := by rw [List.size_toArray]; have := r2.length; rw [List.length_map] at this; exact this.symm
  have at1 : ∀ {xs : List (Option Int)} {its : List Value}, Vals (xs.map oV) its → ∀ j (h1 : j < its.toArray.size), ∃ o, xs[j]? = some o ∧ RelV (oV o) its.toArray[j] := fun {xs its} r j h1 => by
    have e : its[j]? = some its.toArray[j] := by simp
    have hj : j < xs.length := by have := r.length; rw [List.length_map] at this; rw [List.size_toArray] at h1; omega
    obtain ⟨w, hw, rw'⟩ := r.get (i := j) (x := oV xs[j]) (by rw [List.getElem?_map, List.getElem?_eq_getElem hj]; rfl)
    rw [e] at hw
    rw [Option.some.inj hw]
    exact ⟨xs[j], List.getElem?_eq_getElem hj, rw'⟩
  have R := Ob.RcOp.tuples_lt (A := X.A) (s := s) (e := fun j => decide (xs.getD j none = ys.getD j none)) (r := fun j => decide ((xs.getD j none).getD 0 < (ys.getD j none).getD 0)) p1 p2 hu (fun j h1 h2 => by
    obtain ⟨o1, e1, z1⟩ := at1 r1 j h1
    obtain ⟨o2, e2, z2⟩ := at1 r2 j h2
    rw [List.getD_eq_getElem?_getD, List.getD_eq_getElem?_getD, e1, e2]
    show SeqAt.EqAt _ _ _ _ (decide (o1 = o2))
    have sj := same j
    rw [e1, e2] at sj
    rcases rel_oV z1 with ⟨rfl, w1⟩ | ⟨i1, t1, rfl, w1⟩
    · have : o2 = none := Option.some.inj (sj.mp rfl)
      subst this
      have w2 : its2.toArray[j] = .none := z2
      rw [w1, w2, decide_eq_true rfl]
      exact SeqAt.EqAt.same _
    · rcases rel_oV z2 with ⟨rfl, w2⟩ | ⟨i2, t2, rfl, w2⟩
      · have := Option.some.inj (sj.mpr rfl)
        cases this
      · rw [w1, w2]
        have e : decide (some i1 = some i2) = (i1 == i2) := by
          by_cases c : i1 = i2
          · rw [c]; simp
          · rw [decide_eq_false (fun z => c (Option.some.inj z))]; exact (beq_eq_false_iff_ne.mpr c).symm
        rw [e]
        exact SeqAt.EqAt.int_int _ _ _ _) (fun j h1 h2 ne => by
    obtain ⟨o1, e1, z1⟩ := at1 r1 j h1
    obtain ⟨o2, e2, z2⟩ := at1 r2 j h2
    rw [List.getD_eq_getElem?_getD, List.getD_eq_getElem?_getD, e1, e2] at ne ⊢
    have ne : o1 ≠ o2 := of_decide_eq_false ne
    have sj := same j
    rw [e1, e2] at sj
    rcases rel_oV z1 with ⟨rfl, w1⟩ | ⟨i1, t1, rfl, w1⟩
    · exact absurd (Option.some.inj (sj.mp rfl)).symm ne
    · rcases rel_oV z2 with ⟨rfl, w2⟩ | ⟨i2, t2, rfl, w2⟩
      · exact absurd (Option.some.inj (sj.mpr rfl)) ne
      · rw [w1, w2]
        exact Ob.RcOp.lt_int _ _ _ _)
  rw [l1, l2, hl, decide_eq_false (Nat.lt_irrefl _), Nat.min_self, lexAt_O same ys.length 0 (by omega) (by omega)] at R
  exact R _ _ _ _ ⟨.bl (lexO xs ys), H, I, rfl, q⟩
theorem pass_none {X : Cx} {P : Program} {w : World} (σ : L2.St) : PassesAt (L2.CX P w) X σ (fun _ _ _ => False) := fun _ _ _ _ _ _ h => by
  obtain ⟨_, _, _, _, _, _, _, _, _, _, _, _, z⟩ := h
  exact z.elim
def IsTk2 (K : PySem.W.Frag) (H : Hp) (v : V) (p : List Nat × List Nat) : Prop := ∃ t a b, v = .ref t ∧ SqT K H t [.ref a, .ref b] ∧ SqT K H a (natsV p.1) ∧ H b = some (.tup (natsV p.2))
theorem Ext.tk2 {ex : List Addr} {K : PySem.W.Frag} {H H1 : Hp} {v : V} {p : List Nat × List Nat} (e : Ext ex H H1) (h : IsTk2 K H v p) : IsTk2 K H1 v p := let ⟨t, a, b, h1, h2, h3, h4⟩ := h; ⟨t, a, b, h1, e.sqT h2, e.sqT h3, e.tup _ _ h4⟩
theorem hoursF_ok (now : Int) : HoursOk now (hoursF now) := ⟨by
  unfold hoursF rgI
  refine List.pairwise_map.mpr (List.nodup_range.imp fun h z => h ?_)
  omega, fun h hh => hoursF_mem.mp hh⟩
theorem HoursOk.take {now : Int} {hs : List Int} (o : HoursOk now hs) (n : Nat) : HoursOk now (hs.take n) := ⟨o.nd.sublist (List.take_sublist _ _), fun h hh => o.b h (List.mem_of_mem_take hh)⟩
theorem stage_take {k : Book} {now : Int} {st : List (Option Int)} {hs : List Int} {i : Nat} {h : Int} (e : hs[i]? = some h) : stageL k now st (hs.take (i + 1)) = stepL k now st h (stageL k now st (hs.take i)) := by
  rw [List.take_add_one, e]
  exact stageL_snoc k now st _ h
theorem nodup_take {hs : List Int} {i : Nat} {h : Int} (nd : hs.Nodup) (e : hs[i]? = some h) : h ∉ hs.take i := fun z => by
  have : (hs.take i ++ hs.drop i).Nodup := by rw [List.take_append_drop]; exact nd
  obtain ⟨_, _, n3⟩ := List.nodup_append.mp this
  have hi := List.getElem?_eq_some_iff.mp e
  exact n3 h z h (by rw [List.drop_eq_getElem_cons hi.1, hi.2]; simp) rfl
theorem SqT.unlock {K : PySem.W.Frag} {H : Hp} {D a : Addr} {od : Obj} {kvs : List (List L2.Key × V)} {u : HO} {xs : List V} (hD : H D = some (.frz od (.dT kvs))) (h : SqT K H a xs) : SqT K (upd H D u) a xs := by
  rcases h with (h | ⟨o, h⟩) | h
  · exact .inl (.inl (by rw [upd_ne (fun z => by rw [z, hD] at h; cases h)]; exact h))
  · exact .inl (.inr ⟨o, by rw [upd_ne (fun z => by rw [z, hD] at h; cases h)]; exact h⟩)
  · exact .inr h
theorem cands_take {k : Book} {now h : Int} {st : List (Option Int)} {kp : List (List Nat × List (Option Int))} {j : Nat} {q : List Nat × List (Option Int)} (e : kp[j]? = some q) : candsL k now st h (kp.take (j + 1)) = candsL k now st h (kp.take j) ++ (takenL (groupsL k now st h) q.1).map fun p => joinP q.2 p.1 h := by
  unfold candsL
  exact flat_take e
theorem ways_take {gs : List (List Nat)} {kp : List (List Nat × Int)} {j : Nat} {q : List Nat × Int} (e : kp[j]? = some q) : waysL gs (kp.take (j + 1)) = waysL gs (kp.take j) ++ (takenL gs q.1).map fun p => (p.2, q.2) := by
  unfold waysL
  exact flat_take e
theorem hide_nil (H : Hp) : LM.hideC H [] = H := by
  funext b
  exact LM.hide_out (by simp)
theorem show_nil (H : Hp) : LM.showC H [] = H := by
  funext b
  exact LM.show_out (by simp)
/-- a lambda that catches nothing -/
theorem goes0 {P : Program} {w : World} {K : PySem.W.Frag} {mg : Str → Option Value} {base : Heap} {k : Nat} {H : Hp} {f c : Addr} {cl : List (Str × Addr)} {N ps : List Str} {t : XK → TE} {vs : List V} {Q : VK} (L : LM.Lam P w K mg base (L2.CX P w) k H f c cl N ps [] t) (hcl : cl = [])
    (hl : vs.length = ps.length) (q : t (fun _ _ _ => False) (NdefX.startF N vs []) H Q) : LM.Goes P w K mg base (L2.CX P w) k f H vs Q (fun _ _ _ => False) := by
  subst hcl
  refine L.goes (cs := []) (ws := []) ⟨rfl, by simp, fun y c e => (by cases e), fun _ _ _ e => (by cases e), fun i y e => by simp at e⟩ (by simp) (by simp) hl ?_
  rw [hide_nil]
  have e : (fun v H' => Q v (LM.showC H' [])) = Q := by
    funext v H'
    rw [show_nil]
  rw [e]
  exact q
/-- the object that keeps what rests on barges alone, while tables of code grow -/
theorem Ext.choT {ex : List Addr} {H H1 : Hp} {K : PySem.W.Frag} {C a sd : Addr} {k : Book} {now : Int} (e : Ext ex H H1) (n : ∀ b ∈ ex, ∃ φ, H b = some (.ext φ)) (h : IsCho K C H a sd k now) : IsCho K C H1 a sd k now := by
  obtain ⟨dx, v, wl, al, ws, as, kvs, h1, h2, h3, h4, h5, h6, h7, h8⟩ := h
  have nm : ∀ {b : Addr} {o : HO}, H b = some o → (∀ φ, o ≠ .ext φ) → b ∉ ex := fun {b o} hb q z => by
    obtain ⟨φ, z⟩ := n b z
    rw [hb] at z
    exact q φ (Option.some.inj z)
  have nl : ∀ b ∈ ex, ∀ xs, H b ≠ some (.lst xs) := fun b hb xs z => nm z (fun _ q => by cases q) hb
  exact ⟨dx, v, wl, al, ws, as, kvs, e.ins (nm h1 (fun _ z => by cases z)) h1, e.book h2, e.lst _ _ (nm h3 (fun _ z => by cases z)) h3, Paired.mapP h4 fun _ _ z => e.nums nl z, e.lst _ _ (nm h5 (fun _ z => by cases z)) h5, Paired.mapP h6 fun _ _ z => e.nums nl z, e.dT (nm h7 (fun _ z => by cases z)) h7, h8⟩
theorem lam_ne {P : Program} {w : World} {K : PySem.W.Frag} {mg : Str → Option Value} {base : Heap} {CX : CXT} {k : Nat} {H : Hp} {f c b : Addr} {cl : List (Str × Addr)} {N ps fr : List Str} {t : XK → TE} {o : HO} (L : LM.Lam P w K mg base CX k H f c cl N ps fr t) (hb : H b = some o) (n : ∀ φ, o ≠ .ext φ) : f ≠ b ∧ c ≠ b := by
  obtain ⟨F, e, h1, h2, h3, h4, h5⟩ := L.ex
  exact ⟨fun z => by rw [z, hb] at h3; exact n _ (Option.some.inj h3), fun z => by rw [z, hb] at h4; exact n _ (Option.some.inj h4)⟩
end GD

namespace GD
open PySem PySem.Spec PyProof.Rows L2 GxR GX GS GT GC
/-! ### all plans that go on from a start, barge by barge -/
def everyS (k : Book) (now : Int) (st : List (Option Int)) (i : Nat) (L : List (List (Option Int))) : List (List (Option Int)) := if st.getD i none = none then L.flatMap fun pl => ((rgI now 12).filter fun h => decide (allR k (putP pl i h) = [])).map fun h => putP pl i h else L
def everyN (k : Book) (now : Int) (st : List (Option Int)) : Nat → List (List (Option Int))
  | 0 => [st]
  | i + 1 => everyS k now st i (everyN k now st i)
structure EvOk (k : Book) (now : Int) (st : List (Option Int)) (i : Nat) (pl : List (Option Int)) : Prop where
  ok : PlOk k.bs.length pl
  good : allR k pl = []
  part : PartP st pl
  new : ∀ j h, st.getD j none = none → pl.getD j none = some h → j < i ∧ now ≤ h
  has : ∀ j, j < pl.length → st.getD j none = none → j < i → pl.getD j none ≠ none
def dropP (pl : List (Option Int)) (i : Nat) : List (Option Int) := (List.range pl.length).map fun j => if j = i then none else pl.getD j none
theorem dropP_len (pl : List (Option Int)) (i : Nat) : (dropP pl i).length = pl.length := by
  unfold dropP
  rw [List.length_map, List.length_range]
theorem dropP_at (pl : List (Option Int)) (i j : Nat) : (dropP pl i).getD j none = if j = i then none else pl.getD j none := by
  by_cases hj : j < pl.length
  · rw [List.getD_eq_getElem?_getD]
    unfold dropP
    rw [List.getElem?_map, List.getElem?_range hj]
    rfl
  · have e : pl.getD j none = none := by rw [List.getD_eq_getElem?_getD, List.getElem?_eq_none (by omega)]; rfl
    rw [List.getD_eq_getElem?_getD, List.getElem?_eq_none (by rw [dropP_len]; omega), e]
    split <;> rfl
theorem none_get {pl : List (Option Int)} {i : Nat} (hi : i < pl.length) (h : pl.getD i none = none) : pl[i]? = some none := by
  rw [List.getD_eq_getElem?_getD, List.getElem?_eq_getElem hi] at h
  rw [List.getElem?_eq_getElem hi]
  exact congrArg some h
theorem everyN_mem {k : Book} (ok : k.Ok) {now : Int} (h0 : 0 ≤ now) {st : List (Option Int)} (oks : PlOk k.bs.length st) (good : allR k st = []) : ∀ i, i ≤ st.length → ∀ pl, pl ∈ everyN k now st i ↔ EvOk k now st i pl
  | 0, _, pl => by
    constructor
    · intro z
      have z : pl ∈ [st] := z
      rw [List.mem_singleton.mp z]
      exact ⟨oks, good, ⟨rfl, fun _ _ e => e⟩, fun j h e1 e2 => (by rw [e1] at e2; cases e2), fun j _ _ hj => absurd hj (by omega)⟩
    · intro o
      have e : pl = st := ext_getD o.part.1.symm fun j => by
        cases c : st.getD j none with
        | some x => exact o.part.2 j x c
        | none =>
          cases d : pl.getD j none with
          | none => rfl
          | some x => exact absurd (o.new j x c d).1 (by omega)
      rw [e]
      exact List.mem_singleton.mpr rfl
  | i + 1, hi, pl => by
    have ih := everyN_mem ok h0 oks good i (by omega)
    show pl ∈ everyS k now st i (everyN k now st i) ↔ _
    unfold everyS
    by_cases c : st.getD i none = none
    · rw [if_pos c, List.mem_flatMap]
      constructor
      · rintro ⟨ql, hq, hp⟩
        obtain ⟨h, hh, rfl⟩ := List.mem_map.mp hp
        obtain ⟨hr, hg⟩ := List.mem_filter.mp hh
        have hr := rgI_mem.mp hr
        have hg := of_decide_eq_true hg
        have o := (ih ql).mp hq
        have hl := o.part.1
        have hql : i < ql.length := by omega
        have at_ := putP_at (h := h) hql
        have hop : ql.getD i none = none := by
          cases d : ql.getD i none with
          | none => rfl
          | some x => exact absurd (o.new i x c d).1 (by omega)
        refine ⟨putP_ok o.ok hql (by omega) (by omega), hg, ⟨by rw [putP_len hql]; exact hl, fun j x e => ?_⟩, fun j x e1 e2 => ?_, fun j hj e1 hj2 => ?_⟩
        · rw [at_]
          by_cases d : j = i
          · rw [d, c] at e; cases e
          · rw [if_neg d]; exact o.part.2 j x e
        · rw [at_] at e2
          by_cases d : j = i
          · rw [if_pos d] at e2
            have := Option.some.inj e2
            omega
          · rw [if_neg d] at e2
            have := o.new j x e1 e2
            omega
        · rw [at_]
          by_cases d : j = i
          · rw [if_pos d]; simp
          · rw [if_neg d]
            exact o.has j (by rw [putP_len hql] at hj; exact hj) e1 (by omega)
      · intro o
        have hl := o.part.1
        have hpl : i < pl.length := by omega
        obtain ⟨h, hh⟩ : ∃ h, pl.getD i none = some h := by
          cases d : pl.getD i none with
          | none => exact absurd d (o.has i hpl c (by omega))
          | some x => exact ⟨x, rfl⟩
        have hb := o.ok.ok h (getD_mem hh)
        have hnow := (o.new i h c hh).2
        have part : PartP (dropP pl i) pl := ⟨dropP_len pl i, fun j x e => by
          rw [dropP_at] at e
          split at e
          · cases e
          · exact e⟩
        have okq : PlOk k.bs.length (dropP pl i) := ⟨by rw [dropP_len]; exact o.ok.len, fun x hx => by
          obtain ⟨j, hj⟩ := mem_getD hx
          exact o.ok.ok x (getD_mem (part.2 j x hj))⟩
        have e : pl = putP (dropP pl i) i h := ext_getD (by rw [putP_len (by rw [dropP_len]; exact hpl), dropP_len]) fun j => by
          rw [putP_at (by rw [dropP_len]; exact hpl), dropP_at]
          by_cases d : j = i
          · rw [if_pos d, d, hh]
          · rw [if_neg d, if_neg d]
        refine ⟨dropP pl i, (ih _).mpr ⟨okq, good_part okq o.ok part o.good, ⟨by rw [dropP_len]; exact hl, fun j x e => ?_⟩, fun j x e1 e2 => ?_, fun j hj e1 hj2 => ?_⟩, List.mem_map.mpr ⟨h, List.mem_filter.mpr ⟨rgI_mem.mpr (by omega), decide_eq_true (by rw [← e]; exact o.good)⟩, e.symm⟩⟩
        · rw [dropP_at]
          by_cases d : j = i
          · rw [d, c] at e; cases e
          · rw [if_neg d]; exact o.part.2 j x e
        · rw [dropP_at] at e2
          by_cases d : j = i
          · rw [if_pos d] at e2; cases e2
          · rw [if_neg d] at e2
            have := o.new j x e1 e2
            omega
        · rw [dropP_at, if_neg (by omega)]
          exact o.has j (by rw [dropP_len] at hj; exact hj) e1 (by omega)
    · rw [if_neg c, ih]
      constructor
      · intro o
        refine ⟨o.ok, o.good, o.part, fun j x e1 e2 => ?_, fun j hj e1 hj2 => ?_⟩
        · have := o.new j x e1 e2; omega
        · by_cases d : j = i
          · rw [d] at e1; exact absurd e1 c
          · exact o.has j hj e1 (by omega)
      · intro o
        refine ⟨o.ok, o.good, o.part, fun j x e1 e2 => ?_, fun j hj e1 hj2 => o.has j hj e1 (by omega)⟩
        have := o.new j x e1 e2
        have : j ≠ i := fun z => c (z ▸ e1)
        omega
theorem everyN_nodup {k : Book} (ok : k.Ok) {now : Int} (h0 : 0 ≤ now) {st : List (Option Int)} (oks : PlOk k.bs.length st) (good : allR k st = []) : ∀ i, i ≤ st.length → (everyN k now st i).Nodup
  | 0, _ => List.nodup_cons.mpr ⟨by simp, .nil⟩
  | i + 1, hi => by
    have ih := everyN_nodup ok h0 oks good i (by omega)
    have im := everyN_mem ok h0 oks good i (by omega)
    show (everyS k now st i (everyN k now st i)).Nodup
    unfold everyS
    by_cases c : st.getD i none = none
    · rw [if_pos c]
      have at_ : ∀ ql ∈ everyN k now st i, ∀ h j, (putP ql i h).getD j none = if j = i then some h else ql.getD j none := fun ql hq h j => putP_at (by have := ((im ql).mp hq).part.1; omega) j
      have op : ∀ ql ∈ everyN k now st i, ql.getD i none = none := fun ql hq => by
        cases d : ql.getD i none with
        | none => rfl
        | some x => exact absurd (((im ql).mp hq).new i x c d).1 (by omega)
      refine List.pairwise_flatMap.mpr ⟨fun ql hq => List.pairwise_map.mpr (List.Pairwise.filter _ ?_), ih.imp_of_mem fun {q1 q2} h1 h2 ne x hx y hy z => ?_⟩
      · unfold rgI
        refine List.pairwise_map.mpr (List.nodup_range.imp fun {a b} hab z => hab ?_)
        have z1 := at_ ql hq (now + (a : Int)) i
        rw [z, at_ ql hq, if_pos rfl, if_pos rfl] at z1
        have := Option.some.inj z1
        omega
      · obtain ⟨a, _, rfl⟩ := List.mem_map.mp hx
        obtain ⟨b, _, rfl⟩ := List.mem_map.mp hy
        refine ne (ext_getD ?_ fun j => ?_)
        · rw [((im q1).mp h1).ok.len, ((im q2).mp h2).ok.len]
        · by_cases d : j = i
          · rw [d, op q1 h1, op q2 h2]
          · have z1 := at_ q1 h1 a j
            have z2 := at_ q2 h2 b j
            rw [if_neg d] at z1 z2
            rw [← z1, ← z2, z]
    · rw [if_neg c]; exact ih
theorem everyN_len {k : Book} {now : Int} (h0 : 0 ≤ now) {st : List (Option Int)} : ∀ i, (everyN k now st i).length ≤ 12 ^ i
  | 0 => Nat.le_refl _
  | i + 1 => by
    have ih := everyN_len (k := k) h0 (st := st) i
    show (everyS k now st i (everyN k now st i)).length ≤ _
    unfold everyS
    split
    · rw [List.length_flatMap, Nat.pow_succ]
      have : ∀ L : List (List (Option Int)), (L.map fun pl => (((rgI now 12).filter fun h => decide (allR k (putP pl i h) = [])).map fun h => putP pl i h).length).sum ≤ L.length * 12 := fun L => by
        induction L with
        | nil => exact Nat.le_refl _
        | cons pl L ih =>
          rw [List.map_cons, List.sum_cons, List.length_cons, List.length_map]
          have z := List.length_filter_le (fun h => decide (allR k (putP pl i h) = [])) (rgI now 12)
          rw [rgI_len] at z
          omega
      have z := this (everyN k now st i)
      have : (everyN k now st i).length * 12 ≤ 12 ^ i * 12 := Nat.mul_le_mul_right _ ih
      omega
    · have : 12 ^ i ≤ 12 ^ (i + 1) := Nat.pow_le_pow_right (by decide) (Nat.le_succ i)
      omega
/-- full plans on from the start: the two ways to tell them -/
theorem full_iff_on {k : Book} {now : Int} (h0 : 0 ≤ now) {st pl : List (Option Int)} : EvOk k now st st.length pl ↔ OnFrom k st (hoursF now) pl ∧ opens pl = [] := by
  constructor
  · intro o
    refine ⟨⟨o.ok, o.good, o.part, fun j h e1 e2 => ?_⟩, ?_⟩
    · have hb := o.ok.ok h (getD_mem e2)
      exact hoursF_mem.mpr ⟨(o.new j h e1 e2).2, hb.1, by omega⟩
    · refine List.eq_nil_iff_forall_not_mem.mpr fun j hj => ?_
      have z := opens_mem.mp hj
      cases c : st.getD j none with
      | none => exact o.has j z.1 c (by rw [o.part.1]; exact z.1) z.2
      | some x => rw [o.part.2 j x c] at z; cases z.2
  · rintro ⟨o, e⟩
    refine ⟨o.ok, o.good, o.part, fun j h e1 e2 => ?_, fun j hj _ _ z => ?_⟩
    · exact ⟨by rw [o.part.1]; exact getD_some_lt e2, (hoursF_mem.mp (o.new j h e1 e2)).1⟩
    · have : j ∈ opens pl := opens_mem.mpr ⟨hj, z⟩
      rw [e] at this
      cases this
theorem every_iff {k : Book} (ok : k.Ok) {now : Int} (h0 : 0 ≤ now) {st : List (Option Int)} (oks : PlOk k.bs.length st) (good : allR k st = []) (pl : List (Option Int)) : pl ∈ everyN k now st st.length ↔ pl ∈ stageL k now st (hoursF now) ∧ opens pl = [] := by
  rw [everyN_mem ok h0 oks good _ (Nat.le_refl _), full_iff_on h0, stage_mem ok oks good _ _ rfl (hoursF_ok now)]
theorem every_count {k : Book} (ok : k.Ok) {now : Int} (h0 : 0 ≤ now) {st : List (Option Int)} (oks : PlOk k.bs.length st) (good : allR k st = []) : ((stageL k now st (hoursF now)).map opens).count [] = (everyN k now st st.length).length := by
  have e : ((stageL k now st (hoursF now)).map opens).count [] = ((stageL k now st (hoursF now)).filter fun pl => decide (opens pl = [])).length := by
    unfold List.count
    rw [List.countP_map, List.countP_eq_length_filter]
    congr 1
    refine List.filter_congr fun pl _ => ?_
    show (opens pl == []) = decide (opens pl = [])
    rw [Bool.eq_iff_iff, beq_iff_eq, decide_eq_true_eq]
  rw [e]
  have n1 : ((stageL k now st (hoursF now)).filter fun pl => decide (opens pl = [])).Nodup := List.Pairwise.filter _ (stage_nodup ok oks good _ _ rfl (hoursF_ok now))
  have n2 := everyN_nodup ok h0 oks good _ (Nat.le_refl _)
  have mem : ∀ pl, pl ∈ ((stageL k now st (hoursF now)).filter fun pl => decide (opens pl = [])) ↔ pl ∈ everyN k now st st.length := fun pl => by
    rw [every_iff ok h0 oks good, List.mem_filter, decide_eq_true_eq]
  have l1 := sub_len n1 fun x hx => (mem x).mp hx
  have l2 := sub_len n2 fun x hx => (mem x).mpr hx
  omega
theorem opens_full {pl : List (Option Int)} : opens pl = [] ↔ none ∉ pl := by
  constructor
  · intro e z
    obtain ⟨i, hi⟩ := List.getElem?_of_mem z
    have : i ∈ opens pl := opens_mem.mpr ⟨(List.getElem?_eq_some_iff.mp hi).1, getD_of hi⟩
    rw [e] at this
    cases this
  · intro z
    refine List.eq_nil_iff_forall_not_mem.mpr fun j hj => z ?_
    have y := opens_mem.mp hj
    exact List.mem_of_getElem? (none_get y.1 y.2)
/-- a list of plans -/
def IsPlans (K : PySem.W.Frag) (H : Hp) (p : Addr) (ps : List (List (Option Int))) : Prop := ∃ us, H p = some (.lst us) ∧ Paired (IsPlan K H) us ps
theorem Ext.plans {ex : List Addr} {K : PySem.W.Frag} {H H1 : Hp} {p : Addr} {ps : List (List (Option Int))} (e : Ext ex H H1) (n : p ∉ ex) (h : IsPlans K H p ps) : IsPlans K H1 p ps := let ⟨us, h1, h2⟩ := h; ⟨us, e.lst p _ n h1, Paired.mapP h2 fun _ _ z => e.plan z⟩
theorem everyN_take {k : Book} {now : Int} {st : List (Option Int)} {i : Nat} (c : st.getD i none = none) : everyN k now st (i + 1) = (everyN k now st i).flatMap fun pl => ((rgI now 12).filter fun h => decide (allR k (putP pl i h) = [])).map fun h => putP pl i h := by
  show everyS k now st i _ = _
  unfold everyS
  rw [if_pos c]
theorem small_pow {n i : Nat} (h : n ≤ 12 ^ i) (hi : i ≤ 6) : n < 3000000 := by
  have : 12 ^ i ≤ 12 ^ 6 := Nat.pow_le_pow_right (by decide) hi
  have e : (12 : Nat) ^ 6 = 2985984 := by decide
  omega
end GD

namespace DM
open PySem PySem.Spec PyProof.Rows L2 GxR GD
/-! ### min of a list of tuples of whole numbers -/
theorem lex_irr (a : List Int) : HT.lexLt a a = false := by
  cases h : HT.lexLt a a with
  | false => rfl
  | true => have z := NtL.lex_asym _ _ h; rw [h] at z; exact z
theorem argBest_min (f : Nat → List Int) : ∀ n j, j ≤ n → HT.lexLt (f j) (f (argBest (fun i j => HT.lexLt (f i) (f j)) n)) = false
  | 0, j, h => by
    have : j = 0 := by omega
    subst this
    exact lex_irr _
  | n + 1, j, h => by
    unfold argBest
    by_cases c : HT.lexLt (f (n + 1)) (f (argBest (fun i j => HT.lexLt (f i) (f j)) n)) = true
    · rw [if_pos c]
      by_cases e : j = n + 1
      · rw [e]; exact lex_irr _
      · exact NtL.lex_tr _ _ _ (NtL.lex_asym _ _ c) (argBest_min f n j (by omega))
    · rw [if_neg c]
      by_cases e : j = n + 1
      · rw [e]; simpa using c
      · exact argBest_min f n j (by omega)
/-- a list of tuples of whole numbers -/
def TupsAt (K : PySem.W.Frag) (H : Hp) (a : Addr) (as : List Addr) (xss : List (List Int)) : Prop := H a = some (.lst (as.map V.ref)) ∧ Paired (fun x ns => SqT K H x (ns.map V.int)) as xss
section
variable {X : Cx} {pins : List (Addr × Obj)} {σ : L2.St} {H : Hp} {s : Shared} {a : Addr} {as : List Addr} {xss : List (List Int)}
theorem min_core (hr : Room 1 X.A) (I : Inv X pins σ H s) (h : TupsAt X.K H a as xss) (Q : Value → Shared → Prop) (E : Value → Shared → Prop)
    (q : ∀ (i : Nat) (x : Addr) (s' : Shared), as[i]? = some x → (∀ j, j < as.length → HT.lexLt (xss.getD j []) (xss.getD i []) = false) → Inv X pins σ H s' → Q (.ref x) s') :
    wpAny (model X.prog X.w) X.A.in1 (pyIter (.ref a)) (fun it s₂ => ∃ I' fp wr G n P St H' bt, it = .ref I' ∧ WalksS X.prog X.w X.A.in1 I' fp wr G n P St ∧ St 0 s₂ ∧ (∀ b ∈ fp, b < s₂.heap.objs.size) ∧ n = as.length ∧
      (∀ b o, H'.get? b = some o → b ∉ wr) ∧ (∀ b o, H'.get? b = some o → s₂.heap.get? b = some o) ∧ (∀ s', Moved wr G s₂ s' → Inv X pins σ H s') ∧ (0 < n → CmpIn X.prog X.w X.A.in1 .Lt H' P bt ∧ ∀ v s', P (argBest bt (n - 1)) v → Moved wr G s₂ s' → Q v s')) E s := by
  obtain ⟨ha, pt⟩ := h
  obtain ⟨its, rv, p, hz⟩ := I.list (.inl (.inl ha))
  have eits := vals_refs rv
  have hlen : its.toArray.size = as.length := by rw [eits]; simp
  refine PySem.W.iter_listW (A := X.A.in1) hr.hd p.isList fun s₂ es W st hfp hnew hkeep => ?_
  have hn1 : H s.heap.objs.size = none := I.hok.fresh (Nat.le_refl _)
  have I2 : Inv X pins σ H s₂ := by rw [es]; exact I.kept (t' := s.toks) fun b ob z => Heap.get?_push_of_some _ z
  have fI : FpOk X pins H s.heap.objs.size := I.fpOk (Nat.le_refl _) hn1
  have moved : ∀ s', Moved [s.heap.objs.size] (fun a b => b = a) s₂ s' → Inv X pins σ H s' := fun s' hm => by
    rw [Moved.eq_with hm]
    exact Inv.turnedL I2 (fun b ob hb z => hm.heap b ob hb z) fun b hb => by rw [List.mem_singleton.mp hb]; exact fI
  have at_ : ∀ (i : Nat) (v : Value), its.toArray[i]? = some v → ∃ (x : Addr) (ns : List Int), as[i]? = some x ∧ xss[i]? = some ns ∧ v = .ref x ∧ SqT X.K H x (ns.map V.int) := fun i v hv => by
    rw [eits] at hv
    simp only [List.getElem?_toArray, List.getElem?_map] at hv
    cases z : as[i]? with
    | none => rw [z] at hv; cases hv
    | some x =>
      rw [z] at hv
      obtain ⟨ns, h1, h2⟩ := GD.pget pt z
      exact ⟨x, ns, rfl, h1, (Option.some.inj hv).symm, h2⟩
  refine ⟨_, _, _, _, _, _, _, s.heap, fun i j => HT.lexLt (xss.getD i []) (xss.getD j []), rfl, W, st, hfp, hlen, hnew, hkeep, moved, fun h0 => ⟨fun i j vi vj s1 Q1 E1 hk h1 h2 hq => ?_, fun v s' hv hm => ?_⟩⟩
  · obtain ⟨x, ns, _, e1, rfl, t1⟩ := at_ i vi h1
    obtain ⟨y, ms, _, e2, rfl, t2⟩ := at_ j vj h2
    obtain ⟨u1, r1, p1, _⟩ := I.tuple t1
    obtain ⟨u2, r2, p2, _⟩ := I.tuple t2
    have i1 : IntsAre u1.toArray.toList ns := intsAre_of r1
    have i2 : IntsAre u2.toArray.toList ms := intsAre_of r2
    have hq : Q1 (.bool (HT.lexLt (xss.getD i []) (xss.getD j []))) s1 := hq
    rw [List.getD_eq_getElem?_getD, List.getD_eq_getElem?_getD, e1, e2] at hq
    exact (show wpAny _ _ (compareOp .Lt (.ref x) (.ref y)) Q1 E1 s1 from HT.lt_tupInts (Heap.IsTuple.at p1 fun o z => hk _ o z) (Heap.IsTuple.at p2 fun o z => hk _ o z) i1 i2 (by have := hr.un; show X.A.units + 1 < cLine; omega) hq)
  · obtain ⟨x, ns, h1, h2, rfl, _⟩ := at_ _ v hv
    refine q _ x s' h1 (fun j hj => ?_) (moved s' hm)
    rw [hlen]
    exact argBest_min (fun i => xss.getD i []) (as.length - 1) j (by omega)
end
def rMinT (K : PySem.W.Frag) : List V → Hp → VK → Prop := fun vs H Q => ∃ (a : Addr) (as : List Addr) (xss : List (List Int)), vs = [.ref a] ∧ TupsAt K H a as xss ∧ as ≠ [] ∧
  ∀ (i : Nat) (x : Addr), as[i]? = some x → (∀ j, j < as.length → HT.lexLt (xss.getD j []) (xss.getD i []) = false) → Q (.ref x) H
theorem cr_minT {X : Cx} (hr : Room 1 X.A) : CallR X (.builtin "min") (rMinT X.K) := by
  intro pins s σ H vs us Q I r h
  obtain ⟨a, as, xss, rfl, ht, hne, q⟩ := h
  rw [Vals.ref1 r]
  refine call_min_walkH (thn (min_core hr I ht (EP X pins σ Q) X.xe fun i x s' h1 h2 J => ⟨.ref x, H, J, rfl, q i x h1 h2⟩) fun it s2 h => ?_)
  obtain ⟨I', fp, wr, G, n, P, St, H', bt, e, W, st, hfp, hn, h1, h2, _, h3⟩ := h
  have h0 : 0 < n := by rw [hn]; exact List.length_pos_iff.mpr hne
  obtain ⟨c1, c2⟩ := h3 h0
  exact ⟨I', fp, wr, G, n, P, St, H', bt, e, W, st, hfp, h0, h1, h2, c1, c2⟩
def rMinD (K : PySem.W.Frag) : List V → List V → Hp → VK → Prop := fun vs zs H Q => ∃ (a : Addr) (d : V) (as : List Addr) (xss : List (List Int)), vs = [.ref a] ∧ zs = [d] ∧ TupsAt K H a as xss ∧ (as = [] → Q d H) ∧
  ∀ (i : Nat) (x : Addr), as[i]? = some x → (∀ j, j < as.length → HT.lexLt (xss.getD j []) (xss.getD i []) = false) → Q (.ref x) H
theorem cr_minD {X : Cx} (hr : Room 1 X.A) : CallRK X (.builtin "min") [Str.ofString "default"] (rMinD X.K) := by
  intro pins s σ H xs zs us ws Q I r1 r2 h
  obtain ⟨a, d, as, xss, rfl, rfl, ht, hd, q⟩ := h
  rw [Vals.ref1 r1]
  cases r2 with
  | cons rd rn =>
    cases rn
    refine call_min_walkD (thn (min_core hr I ht (EP X pins σ Q) X.xe fun i x s' h1 h2 J => ⟨.ref x, H, J, rfl, q i x h1 h2⟩) fun it s2 h => ?_)
    obtain ⟨I', fp, wr, G, n, P, St, H', bt, e, W, st, hfp, hn, h1, h2, hm, h3⟩ := h
    refine ⟨I', fp, wr, G, n, P, St, H', bt, e, W, st, hfp, h1, h2, fun h0 s' hv => ⟨d, H, hm s' hv, rd, hd ?_⟩, h3⟩
    rw [hn] at h0
    exact List.length_eq_zero_iff.mp h0
end DM
namespace GD
open PySem PySem.Spec PyProof.Rows L2 GxR GX GS GT GC DM
def intsP (pl : List (Option Int)) : List Int := pl.map fun o => o.getD 0
theorem oV_ints : ∀ {pl : List (Option Int)}, none ∉ pl → pl.map oV = (intsP pl).map V.int
  | [], _ => rfl
  | o :: pl, h => by
    cases o with
    | none => exact absurd (by simp) h
    | some i =>
      have := oV_ints (pl := pl) fun z => h (by simp [z])
      show oV (some i) :: pl.map oV = V.int i :: (intsP pl).map V.int
      rw [this]
      rfl
theorem plans_tups {K : PySem.W.Frag} {H : Hp} {p : Addr} {ps : List (List (Option Int))} (h : IsPlans K H p ps) (full : ∀ pl ∈ ps, none ∉ pl) : ∃ as, TupsAt K H p as (ps.map intsP) := by
  obtain ⟨us, h1, h2⟩ := h
  have : ∀ {us : List V} {ps : List (List (Option Int))}, Paired (IsPlan K H) us ps → (∀ pl ∈ ps, none ∉ pl) → ∃ as : List Addr, us = as.map V.ref ∧ Paired (fun x ns => SqT K H x (ns.map V.int)) as (ps.map intsP) := by
    intro us ps h
    induction h with
    | nil => exact fun _ => ⟨[], rfl, .nil⟩
    | @cons u pl us ps r t ih =>
      intro full
      obtain ⟨as, e, pr⟩ := ih fun x hx => full x (by simp [hx])
      obtain ⟨a, rfl, ta⟩ := r
      refine ⟨a :: as, by rw [e]; rfl, .cons ?_ pr⟩
      rw [← oV_ints (full pl (by simp))]
      exact ta
  obtain ⟨as, e, pr⟩ := this h2 full
  exact ⟨as, by rw [h1, e], pr⟩
theorem lexO_ints (p q : List (Option Int)) : lexO p q = HT.lexLt (intsP p) (intsP q) := rfl
theorem lex_eq : ∀ {a b : List Int}, a.length = b.length → HT.lexLt a b = false → HT.lexLt b a = false → a = b
  | [], [], _, _, _ => rfl
  | [], _ :: _, h, _, _ => by cases h
  | _ :: _, [], h, _, _ => by cases h
  | x :: a, y :: b, h, h1, h2 => by
    rw [HT.lexLt_cons] at h1 h2
    by_cases c : x = y
    · subst c
      rw [if_pos rfl] at h1 h2
      rw [lex_eq (Nat.succ.inj h) h1 h2]
    · rw [if_neg c] at h1
      rw [if_neg fun z => c z.symm] at h2
      have := of_decide_eq_false h1
      have := of_decide_eq_false h2
      omega
theorem intsP_inj {p q : List (Option Int)} (hp : none ∉ p) (hq : none ∉ q) (h : intsP p = intsP q) : p = q := by
  have : ∀ {p : List (Option Int)}, none ∉ p → (intsP p).map some = p := by
    intro p
    induction p with
    | nil => intro _; rfl
    | cons o p ih =>
      intro h
      cases o with
      | none => exact absurd (by simp) h
      | some i =>
        show some i :: (intsP p).map some = _
        rw [ih fun z => h (by simp [z])]
  rw [← this hp, ← this hq, h]
/-- plans as data -/
def plansD (ps : List (List (Option Int))) : PyData := .list (ps.map planD)
theorem plans_dp {K : PySem.W.Frag} {H : Hp} {p : Addr} {ps : List (List (Option Int))} (h : IsPlans K H p ps) : Dp K H (.ref p) (plansD ps) := by
  obtain ⟨us, h1, h2⟩ := h
  refine .lst (.inl (.inl h1)) ?_
  have : ∀ {us : List V} {ps : List (List (Option Int))}, Paired (IsPlan K H) us ps → DpAll K H us (ps.map planD) := by
    intro us ps h
    induction h with
    | nil => exact .nil
    | @cons u pl us ps r t ih => exact .cons (IsPlan.td r).dp ih
  exact this h2
theorem lay_plans (ps : List (List (Option Int))) : (plansD ps).canLay0 = true ∧ (plansD ps).depth ≤ 2 := by
  obtain ⟨h1, h2⟩ := layAll (n := 1) (ds := ps.map planD) fun d hd => by
    obtain ⟨pl, _, rfl⟩ := List.mem_map.mp hd
    exact lay_plan pl
  exact ⟨h1, Nat.succ_le_succ h2⟩
theorem eqv_list_nil (ds : List PyData) : PyData.eqv (.list ds) (.list []) = decide (ds = []) := by
  cases ds with
  | nil => rfl
  | cons x xs => simp [PyData.eqv, PyData.eqvAll]
theorem shaped_nil : SeqAt.shaped (.list []) = true := rfl
end GD

namespace GD
open PySem PySem.Spec PyProof.Rows L2 GxR GX GS GT GC
/-! ### tables that are made -/
theorem IsCho.stepX {K : PySem.W.Frag} {C a sd : Addr} {H H1 : Hp} {k : Book} {now : Int} {ex : List Addr} (h : IsCho K C H a sd k now) (e : Ext ex H H1) (n : ∀ b ∈ ex, b = sd ∨ H b = none ∨ ∃ φ, H b = some (.ext φ)) (hd : SdOk k H1 sd) : IsCho K C H1 a sd k now := by
  obtain ⟨dx, v, wl, al, ws, as, kvs0, h1, h2, h3, h4, h5, h6, h7, h8⟩ := h
  obtain ⟨kvs, hk, ok⟩ := hd
  have nm : ∀ {b : Addr} {o : HO}, H b = some o → (∀ kvs, o ≠ .dT kvs) → (∀ φ, o ≠ .ext φ) → b ∉ ex := fun {b o} hb q q2 z => by
    rcases n b z with rfl | z | ⟨φ, z⟩
    · rw [h7] at hb
      exact q _ (Option.some.inj hb).symm
    · rw [z] at hb
      cases hb
    · rw [z] at hb
      exact q2 φ (Option.some.inj hb).symm
  have nl : ∀ b ∈ ex, ∀ xs, H b ≠ some (.lst xs) := fun b hb xs z => nm z (fun _ q => by cases q) (fun _ q => by cases q) hb
  exact ⟨dx, v, wl, al, ws, as, kvs, e.ins (nm h1 (fun _ z => by cases z) (fun _ z => by cases z)) h1, e.book h2, e.lst _ _ (nm h3 (fun _ z => by cases z) (fun _ z => by cases z)) h3, Paired.mapP h4 fun _ _ z => e.nums nl z, e.lst _ _ (nm h5 (fun _ z => by cases z) (fun _ z => by cases z)) h5, Paired.mapP h6 fun _ _ z => e.nums nl z, hk, ok⟩
/-- no full good plan on from one is better than a worth -/
def NoBetter (k : Book) (now : Int) (pl : List (Option Int)) (w1 w2 : Int) : Prop := ∀ fl, PlOk k.bs.length fl → allR k fl = [] → none ∉ fl → PartP pl fl → (∀ i h, pl.getD i none = none → fl.getD i none = some h → now ≤ h) → HT.lexLt (worthI k fl) [w1, w2] = false
theorem NoBetter.put {k : Book} {now w1 w2 h : Int} {pl : List (Option Int)} {i : Nat} (nb : NoBetter k now pl w1 w2) (hi : i < pl.length) (hop : pl.getD i none = none) (hn : now ≤ h) : NoBetter k now (putP pl i h) w1 w2 := fun fl okf gf full p lat => by
  have at_ := putP_at (h := h) hi
  refine nb fl okf gf full ⟨by rw [← p.1, putP_len hi], fun j x e => p.2 j x ?_⟩ fun j x e1 e2 => ?_
  · rw [at_]
    by_cases c : j = i
    · rw [c, hop] at e; cases e
    · rw [if_neg c]; exact e
  · by_cases c : j = i
    · have := p.2 i h (by rw [at_, if_pos rfl])
      rw [c, this] at e2
      rw [← Option.some.inj e2]
      exact hn
    · exact lat j x (by rw [at_, if_neg c]; exact e1) e2
def RowT (k : Book) (now w1 w2 : Int) (n : Nat) (pl : List (Option Int)) (b : Nat) (h : Int) (d : PyData) : Prop := ∃ e, d = .tuple [.int h, e] ∧ GrD n e ∧ LayN (3 * n) e ∧ (NoBetter k now (putP pl b h) w1 w2 → showsR k now w1 w2 n (putP pl b h) e = true)
theorem eqv_doneD : PyData.eqv doneD doneD = true := by decide +kernel
theorem tab_done {k : Book} {now w1 w2 : Int} {n : Nat} {pl : List (Option Int)} (okp : PlOk k.bs.length pl) (good : allR k pl = []) (full : none ∉ pl) (nb : NoBetter k now pl w1 w2) : showsR k now w1 w2 (n + 1) pl doneD = true := by
  unfold showsR
  rw [if_pos eqv_doneD, decide_eq_false full]
  have z := nb pl okp good full ⟨rfl, fun _ _ e => e⟩ fun i h e1 e2 => by rw [e1] at e2; cases e2
  unfold worthI at z
  rw [z]
  rfl
theorem eqv_cases (b : Int) (rs : List PyData) : PyData.eqv (.tuple [.str "cases", .int b, .tuple rs]) doneD = false := by
  unfold doneD
  simp [PyData.eqv, PyData.eqvAll]
theorem open_b {pl : List (Option Int)} {b : Nat} (hb : b ∈ openN pl pl.length) : openB pl (b : Int) = true := by
  have z := openN_mem.mp hb
  unfold openB
  rw [Bool.and_eq_true, Bool.and_eq_true, decide_eq_true_eq, decide_eq_true_eq, decide_eq_true_eq]
  exact ⟨⟨by omega, by omega⟩, by rw [Int.toNat_natCast]; exact z.2⟩
theorem betterL_now {k : Book} {now w1 w2 h : Int} {pl : List (Option Int)} {i : Nat} (hh : h ∈ betterL k now pl i w1 w2) : now ≤ h ∧ 0 ≤ h ∧ h < 12 := hoursF_mem.mp (List.mem_filter.mp (List.mem_filter.mp hh).1).1
theorem tab_cases {k : Book} {now w1 w2 : Int} {n : Nat} {pl : List (Option Int)} {b : Nat} (hb : b ∈ openN pl pl.length) {rs : List PyData} (hr : Paired (RowT k now w1 w2 n pl b) (betterL k now pl b w1 w2) rs) (nb : NoBetter k now pl w1 w2) :
    showsR k now w1 w2 (n + 1) pl (.tuple [.str "cases", .int (b : Int), .tuple rs]) = true := by
  have ob := openN_mem.mp hb
  rw [showsR_cases (eqv_cases _ _), open_b hb, Int.toNat_natCast, decide_eq_true rfl, decide_eq_true (plen hr).symm, Bool.true_and, Bool.true_and, Bool.true_and, List.all_eq_true]
  rintro ⟨h, d⟩ hp
  obtain ⟨j, hj⟩ := List.getElem?_of_mem hp
  rw [List.getElem?_zip_eq_some] at hj
  have hj1 : (betterL k now pl b w1 w2)[j]? = some h := hj.1
  have hj2 : rs[j]? = some d := hj.2
  obtain ⟨d', hd', e, rfl, _, _, sh⟩ := pget hr hj1
  rw [hj2] at hd'
  cases hd'
  show (decide (h = h) && showsR k now w1 w2 n (putP pl b h) e) = true
  rw [decide_eq_true rfl, Bool.true_and]
  exact sh (nb.put ob.1 ob.2 (betterL_now (List.mem_of_getElem? hj1)).1)
theorem tab_gr {k : Book} {now w1 w2 : Int} {n : Nat} {pl : List (Option Int)} {b : Nat} {L : List Int} (hl : L.length ≤ 12) {rs : List PyData} (hr : Paired (RowT k now w1 w2 n pl b) L rs) : GrD (n + 1) (.tuple [.str "cases", .int (b : Int), .tuple rs]) ∧ LayN (3 * (n + 1)) (.tuple [.str "cases", .int (b : Int), .tuple rs]) := by
  have row : ∀ r ∈ rs, ∃ h e, r = .tuple [.int h, e] ∧ GrD n e ∧ LayN (3 * n) e := fun r hr2 => by
    obtain ⟨j, hj⟩ := List.getElem?_of_mem hr2
    obtain ⟨h, _, e, e1, e2, e3, _⟩ := pgetR hr hj
    exact ⟨h, e, e1, e2, e3⟩
  refine ⟨.inr ⟨b, rs, rfl, by rw [← plen hr]; exact hl, fun r hr2 => let ⟨h, e, z1, z2, _⟩ := row r hr2; ⟨h, e, z1, z2⟩⟩, ?_⟩
  have := layCases (b := (b : Int)) (n := 3 * n + 1) (rs := rs) fun r hr2 => by
    obtain ⟨h, e, rfl, _, z⟩ := row r hr2
    exact layRow z
  exact this.le (by omega)
/-- a case: an open barge, and the hours that it may have -/
def IsCase (K : PySem.W.Frag) (k : Book) (now w1 w2 : Int) (pl : List (Option Int)) (D : Addr) (H : Hp) (x : Addr) (b : Nat) : Prop := ∃ hl, SqT K H x [.ref hl, .int (b : Int)] ∧ hl ≠ D ∧ H hl = some (.lst ((betterL k now pl b w1 w2).map V.int))
theorem Ext.caseOf {ex : List Addr} {K : PySem.W.Frag} {k : Book} {now w1 w2 : Int} {pl : List (Option Int)} {D : Addr} {H H1 : Hp} {x : Addr} {b : Nat} (e : Ext ex H H1) (n : ∀ c ∈ ex, c = D ∨ ∀ xs, H c ≠ some (.lst xs)) (h : IsCase K k now w1 w2 pl D H x b) : IsCase K k now w1 w2 pl D H1 x b := by
  obtain ⟨hl, h1, h2, h3⟩ := h
  refine ⟨hl, e.sqT h1, h2, e.lst hl _ (fun z => ?_) h3⟩
  rcases n hl z with y | y
  · exact h2 y
  · exact y _ h3
end GD

namespace LM
open PySem PySem.Spec PyProof.Rows L2 NdefX LamX GD
/-! ### a lambda's answer is none of the cells -/
theorem cr_free {P : Program} {w : World} {outer : List Env} {H : Hp} {s s' : Shared} {cs : List (Addr × Obj)} {Q : VK} {E : XK} {r : Result} (hok : HOk P w H s.heap) (own : ∀ p ∈ cs, H p.1 = some (CellO p.1 p.2))
    (h : CR (L2.CX P w) outer P w (hideC H cs) s (fun v H' => (∀ p ∈ cs, H' p.1 = none) → Q v H') E r s') : CR (L2.CX P w) outer P w (hideC H cs) s Q E r s' := by
  have at0 : ∀ p ∈ cs, s.heap.get? p.1 = some p.2 := fun p hp => (hok p.1 _ (own p hp)).1
  have hid : ∀ p ∈ cs, hideC H cs p.1 = none := fun p hp => hide_in (List.mem_map.mpr ⟨p, hp, rfl⟩)
  cases r with
  | ok fl =>
    cases fl with
    | ret u =>
      obtain ⟨v, H', os, bare, un, hok', rv, q⟩ := h
      exact ⟨v, H', os, bare, un, hok', rv, q fun p hp => un.free p.1 p.2 (at0 p hp) (hid p hp) (by simp)⟩
    | next => exact h
    | brk => exact h
    | cont => exact h
  | error e => exact h
section
variable {P : Program} {w : World} {K : PySem.W.Frag} {mg : Str → Option Value} {base : Heap} {k : Nat} {H H1 : Hp} {f c : Addr} {cl : List (Str × Addr)} {N ps fr : List Str} {t : XK → TE} {cs : List (Addr × Obj)} {ws : List (Option V)} {vs : List V} {Q : VK} {E : XK}
theorem Lam.goes2 (L : Lam P w K mg base (L2.CX P w) k H f c cl N ps fr t) (C : Caught H cl fr ws cs) (hf : f ∉ cs.map (·.1)) (hc : c ∉ cs.map (·.1)) (hl : vs.length = ps.length) (q : t (fun c d H' => E c d (showC H' cs)) (startF N vs ws) (hideC H cs) (fun v H' => (∀ p ∈ cs, H' p.1 = none) → Q v (showC H' cs))) : Goes P w K mg base (L2.CX P w) k f H vs Q E := by
  intro A outer s us hr e0 r
  obtain ⟨F, b, h1, h2, h3, h4, h5⟩ := L.ex
  subst h1
  subst h2
  refine codeAny_mono (h5.run A outer s (hideC H cs) us vs ws _ (fun c d H' => E c d (showC H' cs)) hr (env0_hide e0 C.own) ((hide_out hf).trans h3) ((hide_out hc).trans h4) (C.cells e0.hok) r ⟨hl, q⟩) fun r s' h => cr_show e0.hok C.own e0.frf (cr_free e0.hok C.own h)
theorem Lam.lent2 {names : List (Str × NameKind)} {cells : List (Str × Addr)} {js : List (Nat × Str)} {σ : L2.St}
    (Lm : Lam P w K mg base (L2.CX P w) k H f c (cloFrom cells names []) N ps fr t) (L : Lends cells js σ H cs) (one : ∀ p ∈ cs, ∀ q ∈ cs, p.1 = q.1 → p.2 = q.2) (hl : ws.length = fr.length) (hn : ∀ y, (y, NameKind.free) ∈ names ↔ y ∈ fr)
    (hs : ∀ (i : Nat) (y : Str), fr[i]? = some y → ∃ j, (j, y) ∈ js ∧ ∀ v, ws[i]? = some (some v) → σ[j]? = some (some v)) (hvs : vs.length = ps.length) (q : t (fun c d H' => E c d (showC H' cs)) (startF N vs ws) H (fun v H' => (∀ p ∈ cs, H' p.1 = none) → Q v (showC H' cs))) : Goes P w K mg base (L2.CX P w) k f (showC H cs) vs Q E := by
  obtain ⟨F, b, h1, h2, h3, h4, h5⟩ := id Lm.ex
  have out : ∀ b u, H b = some u → b ∉ cs.map (·.1) := fun b u z hb => by
    obtain ⟨p, hp, q⟩ := List.mem_map.mp hb
    rw [← q, L.free p hp] at z
    cases z
  have Ls : Lam P w K mg base (L2.CX P w) k (showC H cs) f c (cloFrom cells names []) N ps fr t := ⟨F, b, h1, h2, ext_show L h3, ext_show L h4, h5⟩
  refine Ls.goes2 (L.caught one hl hn hs) (out f _ h3) (out c _ h4) hvs ?_
  rw [hide_show L.free]
  exact q
end
/-- data that stands without the cells stands with them -/
theorem show_data {H : Hp} {cs : List (Addr × Obj)} (fr : ∀ p ∈ cs, H p.1 = none) {b : Addr} {u : HO} (h : H b = some u) : showC H cs b = some u := by
  rw [show_out fun hb => ?_]
  · exact h
  · obtain ⟨p, hp, q⟩ := List.mem_map.mp hb
    rw [← q, fr p hp] at h
    cases h
theorem show_sqT {K : PySem.W.Frag} {H : Hp} {cs : List (Addr × Obj)} (fr : ∀ p ∈ cs, H p.1 = none) {a : Addr} {xs : List V} (h : SqT K H a xs) : SqT K (showC H cs) a xs := by
  rcases h with (h | ⟨o, h⟩) | h
  · exact .inl (.inl (show_data fr h))
  · exact .inl (.inr ⟨o, show_data fr h⟩)
  · exact .inr h
theorem hide_dT {H : Hp} {cs : List (Addr × Obj)} (own : ∀ p ∈ cs, H p.1 = some (CellO p.1 p.2)) {b : Addr} {u : HO} (h : H b = some u) (n : ∀ φ, u ≠ .ext φ) : hideC H cs b = some u := by
  rw [hide_out fun hb => ?_]
  · exact h
  · obtain ⟨p, hp, q⟩ := List.mem_map.mp hb
    rw [← q, own p hp] at h
    exact n _ (Option.some.inj h).symm
theorem hide_sqT {K : PySem.W.Frag} {H : Hp} {cs : List (Addr × Obj)} (own : ∀ p ∈ cs, H p.1 = some (CellO p.1 p.2)) {a : Addr} {xs : List V} (h : SqT K H a xs) : SqT K (hideC H cs) a xs := by
  rcases h with (h | ⟨o, h⟩) | h
  · exact .inl (.inl (hide_dT own h fun _ z => by cases z))
  · exact .inl (.inr ⟨o, hide_dT own h fun _ z => by cases z⟩)
  · exact .inr h
end LM
namespace GD
open PySem PySem.Spec PyProof.Rows L2 GxR GX GS GT GC
theorem stage_full {k : Book} (ok : k.Ok) {now : Int} {st : List (Option Int)} (oks : PlOk k.bs.length st) (good : allR k st = []) {fl : List (Option Int)} (okf : PlOk k.bs.length fl) (gf : allR k fl = []) (full : none ∉ fl) (p : PartP st fl) (lat : ∀ i h, st.getD i none = none → fl.getD i none = some h → now ≤ h) : fl ∈ stageL k now st (hoursF now) ∧ opens fl = [] :=
  ⟨(stage_mem ok oks good _ _ rfl (hoursF_ok now) fl).mpr ⟨okf, gf, p, fun i h e1 e2 => hoursF_mem.mpr ⟨lat i h e1 e2, by have := okf.ok h (getD_mem e2); omega⟩⟩, opens_full.mpr full⟩
/-- behind an exception that was made: all that stood stands -/
theorem ext_exc {H : Hp} {x d : Addr} {o1 o2 o3 o4 : HO} (hx : H x = none) (hd : H d = none) (ne : d ≠ x) : Ext [] H (upd (del (upd (upd (upd H x o1) d o2) x o3) x) d o4) := by
  have out : ∀ b u, H b = some u → (upd (del (upd (upd (upd H x o1) d o2) x o3) x) d o4) b = some u := fun b u e => by
    have n1 : b ≠ x := ne_of_none e hx
    have n2 : b ≠ d := ne_of_none e hd
    rw [upd_ne n2, del_ne n1, upd_ne n1, upd_ne n2, upd_ne n1]
    exact e
  refine ⟨fun b xs e => out b _ e, fun b o u e => out b _ e, fun b ps e t => ⟨ps, out b _ e, t⟩, fun b xs _ e => out b _ e, fun b u _ _ e => out b _ e, fun b e => ?_⟩
  by_cases n2 : b = d
  · rw [n2]; exact hd
  · by_cases n1 : b = x
    · rw [n1]; exact hx
    · rw [upd_ne n2, del_ne n1, upd_ne n1, upd_ne n2, upd_ne n1] at e
      exact e
end GD
namespace NP
open PySem PySem.Spec PyProof.Rows L2
theorem exm_self {K : PySem.W.Frag} {C : Addr} (T : OexC K C) : PySem.W.exmOne K (.ref C) (.ref C) = some true := by
  obtain ⟨nm, q, N, bs, bm, sn, sub, ab, col, dd, k0, k1, k2, k3, k5, hC, hbm⟩ := T.cls
  have hc : ∃ cd, PySem.W.clsIn K C = some cd ∧ cd.mro = .ref C :: bm := by
    unfold PySem.W.clsIn
    rw [hC]
    exact ⟨_, rfl, rfl⟩
  obtain ⟨cd, h1, h2⟩ := hc
  have h3 : PySem.W.subIn K (.ref C) (.ref C) = some true := by
    show PySem.W.mroIn K C (.ref C) = some true
    unfold PySem.W.mroIn
    rw [h1, Option.bind_some, h2]
    simp
  unfold PySem.W.exmOne PySem.W.kitCls
  rw [T.exC]
  show (if ((PySem.W.clsIn K C).isSome && PySem.W.typeIn K (.ref C) == some (.type "type")) = true then PySem.W.subIn K (.ref C) (.ref C) else none) = some true
  rw [T.tyC, h1, h3]
  rfl
end NP

namespace GD
open PySem PySem.Spec PyProof.Rows L2 GxR GX GS GT GC
/-! ### books with more room, more depth, later dues -/
structure BookUp (k k' : Book) : Prop where
  rl : k'.rv.length = k.rv.length
  hs : ∀ n, hsum k'.rv n = hsum k.rv n
  room : ∀ s, s < k.rv.length → (strN k s).room ≤ (strN k' s).room
  dep : ∀ s t, s < k.rv.length → depthAt (strN k s) t ≤ depthAt (strN k' s) t
  bs : Paired (fun b b' : Barge => b'.b = b.b ∧ b'.g = b.g ∧ b'.d = b.d ∧ b'.r = b.r ∧ b.u ≤ b'.u) k.bs k'.bs
section
variable {k k' : Book} {pl : List (Option Int)}
theorem BookUp.len (u : BookUp k k') : k'.bs.length = k.bs.length := (plen u.bs).symm
theorem BookUp.pairs (u : BookUp k k') : Paired (fun p p' : Pr => p'.1 = p.1 ∧ p'.2.b = p.2.b ∧ p'.2.g = p.2.g ∧ p'.2.d = p.2.d ∧ p'.2.r = p.2.r ∧ p.2.u ≤ p'.2.u) (GD.pairs k pl) (GD.pairs k' pl) := by
  unfold GD.pairs
  have : ∀ {bs bs' : List Barge}, Paired (fun b b' : Barge => b'.b = b.b ∧ b'.g = b.g ∧ b'.d = b.d ∧ b'.r = b.r ∧ b.u ≤ b'.u) bs bs' → ∀ pl : List (Option Int), Paired (fun p p' : Pr => p'.1 = p.1 ∧ p'.2.b = p.2.b ∧ p'.2.g = p.2.g ∧ p'.2.d = p.2.d ∧ p'.2.r = p.2.r ∧ p.2.u ≤ p'.2.u) (pl.zip bs) (pl.zip bs') := by
    intro bs bs' h
    induction h with
    | nil => intro pl; rw [List.zip_nil_right]; exact .nil
    | cons r t ih =>
      intro pl
      cases pl with
      | nil => exact .nil
      | cons o pl => exact .cons ⟨rfl, r⟩ (ih pl)
  exact this u.bs pl
theorem cnt_paired {h : Int} {s : Nat} : ∀ {ps qs : List Pr}, Paired (fun p p' : Pr => p'.1 = p.1 ∧ p'.2.b = p.2.b ∧ p'.2.g = p.2.g ∧ p'.2.d = p.2.d ∧ p'.2.r = p.2.r ∧ p.2.u ≤ p'.2.u) ps qs → cntP qs h s = cntP ps h s := by
  intro ps qs hp
  induction hp with
  | nil => rfl
  | @cons p q ps qs r t ih =>
    unfold cntP at ih ⊢
    rw [List.countP_cons, List.countP_cons, ih]
    congr 1
    have : onB s q.2 = onB s p.2 := by unfold onB; rw [r.2.1, r.2.2.1]
    rw [this, r.1]
theorem BookUp.good (u : BookUp k k') (ok : k.Ok) (ok' : k'.Ok) (okp : PlOk k.bs.length pl) (g : allR k pl = []) : allR k' pl = [] := by
  have okp' : PlOk k'.bs.length pl := by rw [u.len]; exact okp
  have G := (good_iff ok okp).mp g
  have pr := u.pairs (pl := pl)
  refine (good_iff ok' okp').mpr ⟨fun p hp h e => ?_, fun h s hs => ?_, fun p hp q hq h e1 e2 => ?_⟩
  · obtain ⟨i, hi⟩ := List.getElem?_of_mem hp
    obtain ⟨p0, hp0, r1, r2, r3, r4, r5, r6⟩ := pgetR pr hi
    have hm0 := List.mem_of_getElem? hp0
    have f := G.fits p0 hm0 h (by rw [← r1]; exact e)
    obtain ⟨i0, _, _, hb0⟩ := pairs_mem hm0
    have bo := ok.ok p0.2 (List.mem_of_getElem? hb0)
    unfold Fits comesAt at f ⊢
    rw [u.hs, u.hs, r2, r3, r4, r5]
    refine ⟨f.1, by have := f.2.1; omega, fun j hj => ?_⟩
    rw [u.hs]
    have := f.2.2 j hj
    have b1 := bo.gn
    have b0 := bo.b0
    exact Int.le_trans this (u.dep _ _ (by omega))
  · rw [cnt_paired pr]
    have hs' : s < k.rv.length := by rw [← u.rl]; exact hs
    exact Int.le_trans (G.room h s hs') (u.room s hs')
  · obtain ⟨i, hi⟩ := List.getElem?_of_mem hp
    obtain ⟨j, hj⟩ := List.getElem?_of_mem hq
    obtain ⟨p0, hp0, r1, r2, r3, _⟩ := pgetR pr hi
    obtain ⟨q0, hq0, s1, s2, s3, _⟩ := pgetR pr hj
    have := G.cross p0 (List.mem_of_getElem? hp0) q0 (List.mem_of_getElem? hq0) h (by rw [← r1]; exact e1) (by rw [← s1]; exact e2)
    unfold crossed at this ⊢
    rw [r2, r3, s2, s3]
    exact this
theorem BookUp.worth (u : BookUp k k') : worthI k' pl = worthI k pl := by
  have w : ∀ n, waitsN k' pl n = waitsN k pl n := fun n => by
    induction n with
    | zero => rfl
    | succ n ih =>
      rw [waitsN_succ, waitsN_succ, ih]
      congr 1
      cases pl.getD n none with
      | none => rfl
      | some h =>
        cases hb : k.bs[n]? with
        | none =>
          have hb' : k'.bs[n]? = none := List.getElem?_eq_none (by rw [u.len]; exact List.getElem?_eq_none_iff.mp hb)
          unfold waitOf
          rw [hb, hb']
        | some b =>
          obtain ⟨b', hb', r1, _, _, r4, _⟩ := pget u.bs hb
          rw [waitOf_some hb, waitOf_some hb', u.hs, r1, r4]
  unfold worthI
  rw [w]
end
def mapB (f : Stretch → Stretch) (k : Book) : Book := ⟨k.rv.map f, k.bs⟩
theorem strN_map {f : Stretch → Stretch} {k : Book} {s : Nat} (hs : s < k.rv.length) : strN (mapB f k) s = f (strN k s) := by
  have h1 : k.rv[s]? = some k.rv[s] := List.getElem?_eq_getElem hs
  have h2 : (mapB f k).rv[s]? = some (f k.rv[s]) := by
    show (k.rv.map f)[s]? = _
    rw [List.getElem?_map, h1]
    rfl
  rw [strN_of h1, strN_of h2]
theorem map_up {f : Stretch → Stretch} {k : Book} (hh : ∀ s, (f s).hours = s.hours) (hr : ∀ s ∈ k.rv, s.room ≤ (f s).room) (hd : ∀ s ∈ k.rv, ∀ t, depthAt s t ≤ depthAt (f s) t) : BookUp k (mapB f k) where
  rl := List.length_map ..
  hs := fun n => by
    show hsum (k.rv.map f) n = _
    unfold hsum
    rw [← List.map_take, List.map_map]
    congr 1
    exact List.map_congr_left fun s _ => hh s
  room := fun s hs => by
    rw [strN_map hs, strN_of (List.getElem?_eq_getElem hs)]
    exact hr _ (List.getElem_mem hs)
  dep := fun s t hs => by
    rw [strN_map hs, strN_of (List.getElem?_eq_getElem hs)]
    exact hd _ (List.getElem_mem hs) t
  bs := by
    have : ∀ bs : List Barge, Paired (fun b b' : Barge => b'.b = b.b ∧ b'.g = b.g ∧ b'.d = b.d ∧ b'.r = b.r ∧ b.u ≤ b'.u) bs bs := fun bs => by
      induction bs with
      | nil => exact .nil
      | cons b bs ih => exact .cons ⟨rfl, rfl, rfl, rfl, Int.le_refl _⟩ ih
    exact this k.bs
theorem map_ok {f : Stretch → Stretch} {k : Book} (ok : k.Ok) (h : ∀ s ∈ k.rv, (f s).Ok) : (mapB f k).Ok where
  rv := ⟨by show 1 ≤ (k.rv.map f).length; rw [List.length_map]; exact ok.rv.n1, by show (k.rv.map f).length ≤ 8; rw [List.length_map]; exact ok.rv.n8, fun s hs => by
    obtain ⟨s0, h0, rfl⟩ := List.mem_map.mp hs
    exact h s0 h0⟩
  n7 := ok.n7
  ok := fun b hb => by
    have := ok.ok b hb
    show b.Ok (k.rv.map f).length
    rw [List.length_map]
    exact this
def wideS (s : Stretch) : Stretch := ⟨s.hours, 9, s.ds⟩
def deepS (s : Stretch) : Stretch := ⟨s.hours, s.room, [99]⟩
theorem wide_ok {k : Book} (ok : k.Ok) : (mapB wideS k).Ok := map_ok ok fun s hs => by
  have o := ok.rv.ok s hs
  exact ⟨o.h1, o.h9, by show (1 : Int) ≤ 9; omega, by show (9 : Int) ≤ 9; omega, o.d1, o.d24, o.ds⟩
theorem wide_up {k : Book} (ok : k.Ok) : BookUp k (mapB wideS k) := map_up (fun _ => rfl) (fun s hs => (ok.rv.ok s hs).r9) fun s _ t => Int.le_refl _
theorem deep_ok {k : Book} (ok : k.Ok) : (mapB deepS k).Ok := map_ok ok fun s hs => by
  have o := ok.rv.ok s hs
  exact ⟨o.h1, o.h9, o.r1, o.r9, by show 1 ≤ 1; omega, by show 1 ≤ 24; omega, fun d hd => by
    have : d = 99 := List.mem_singleton.mp hd
    omega⟩
theorem depth_le {s : Stretch} (o : s.Ok) (t : Int) : 0 ≤ depthAt s t ∧ depthAt s t ≤ 99 := by
  unfold depthAt
  have h1 : 0 ≤ t % (s.ds.length : Int) := Int.emod_nonneg t (by have := o.d1; omega)
  have h2 : t % (s.ds.length : Int) < (s.ds.length : Int) := Int.emod_lt_of_pos t (by have := o.d1; omega)
  have hlt : (t % (s.ds.length : Int)).toNat < s.ds.length := by omega
  rw [List.getD_eq_getElem?_getD, List.getElem?_eq_getElem hlt]
  exact o.ds _ (List.getElem_mem hlt)
theorem deep_up {k : Book} (ok : k.Ok) : BookUp k (mapB deepS k) := map_up (fun _ => rfl) (fun s _ => Int.le_refl _) fun s hs t => by
  have h := depth_le (ok.rv.ok s hs) t
  have e : depthAt (deepS s) t = 99 := by
    unfold depthAt deepS
    have : (t % (([99] : List Int).length : Int)).toNat = 0 := by
      show (t % 1).toNat = 0
      rw [Int.emod_one]
      rfl
    rw [this]
    rfl
  rw [e]
  exact h.2
theorem ltTK {X : Cx} (K : PySem.W.Frag) (hu : X.A.units < cLine) (hk : X.K = K) : OpR X (compareOp .Lt) (rLtT K) := by
  subst hk
  exact op_ltT hu
/-- a loop's body by a name -/
theorem tFor_gen {wi : TI} {g : TG} {tb : TS} {D : Ends} {σ : L2.St} {H : Hp} (h : ∀ tb', tb' = tb → tFor wi g tb' D σ H) : tFor wi g tb D σ H := h tb rfl
theorem gName_in {i : Nat} {v : V} {σ : L2.St} {H : Hp} {Q : L2.St → Hp → Prop} (h : Q (σ.set i (some v)) H) : gName i v σ H Q := h
end GD

namespace GD
open PySem PySem.Spec PyProof.Rows L2 NdefX
/-! ### whether a truth is a truth -/
theorem bool_beq (a b : Bool) : (Value.bool a == Value.bool b) = decide (a = b) := by
  by_cases e : a = b
  · subst e
    exact (beq_self_eq_true (Value.bool a)).trans (decide_eq_true (p := a = a) rfl).symm
  · exact (beq_eq_false_iff_ne.mpr fun z => e (Value.bool.inj z)).trans (decide_eq_false e).symm
theorem op_isB {X : Cx} : OpR X (compareOp .Is) (fun x y H Q => ∃ a b, x = .bl a ∧ y = .bl b ∧ Q (.bl (decide (a = b))) H) := by
  intro pins s σ H x y v u Q I rx ry h
  obtain ⟨a, b, rfl, rfl, q⟩ := h
  cases (show v = Value.bool a from rx)
  cases (show u = Value.bool b from ry)
  exact wpAny_is_plain rfl (fin_bl I q (bool_beq a b).symm)
theorem op_notB {X : Cx} : OpR X (compareOp .IsNot) (fun x y H Q => ∃ a b, x = .bl a ∧ y = .bl b ∧ Q (.bl (!decide (a = b))) H) := by
  intro pins s σ H x y v u Q I rx ry h
  obtain ⟨a, b, rfl, rfl, q⟩ := h
  cases (show v = Value.bool a from rx)
  cases (show u = Value.bool b from ry)
  exact wpAny_isNot_plain rfl (fin_bl I q (by rw [bool_beq]))
/-- (a, b, ..) = a tuple of that length, where the tables' names are said -/
theorem pg_tupK {X : Cx} (K : PySem.W.Frag) (hk : X.K = K) {es : List Expr} {k : Nat} {t : TGs} {n : Nat} {pos : Pos} (hc : X.calm = true) (h : PGs X es t)
    (hn : (assignEach es X.env).length = n := by rfl) (hst : (assignEach es X.env).findIdx? (·.1) = none := by rfl) : PG X (.Tuple es k pos) (gTup K n t) := by
  subst hk
  exact pg_tup hc h hn hst
/-- t * n, where the tables' names are said -/
theorem repTAK {X : Cx} (K : PySem.W.Frag) (hk : X.K = K) : OpR X (binaryOp .Mult) (GT.rRepTA K) := by
  subst hk
  exact GT.op_repTA
theorem room65 {k : Nat} {A : Around} (r : Room k A) : A.units + 65 < cLine := by have := r.un; omega
end GD

namespace GD
open PySem PySem.Spec PyProof.Rows L2 GxR GX GS GT GC
/-! ### t > u of pairs of whole numbers -/
def rGtT (K : PySem.W.Frag) : R2 := fun x y H Q => ∃ (a b : Addr) (n1 n2 m1 m2 : Int), x = .ref a ∧ y = .ref b ∧ SqT K H a [.int n1, .int n2] ∧ SqT K H b [.int m1, .int m2] ∧ Q (.bl (HT.lexLt [m1, m2] [n1, n2])) H
theorem lexGt2 (n1 n2 m1 m2 : Int) : Ob.lexAt (fun j => decide ([n1, n2].getD j 0 = [m1, m2].getD j 0)) (fun j => decide ([m1, m2].getD j 0 < [n1, n2].getD j 0)) false 0 2 = HT.lexLt [m1, m2] [n1, n2] := by
  rw [Ob.lexAt_succ, Ob.lexAt_succ, Ob.lexAt_zero]
  simp only [HT.lexLt, List.getD_cons_zero, List.getD_cons_succ]
  by_cases h1 : n1 = m1
  · by_cases h2 : n2 = m2
    · simp [h1, h2]
    · have : ¬ m2 = n2 := fun z => h2 z.symm
      simp [h1, h2, this]
  · have : ¬ m1 = n1 := fun z => h1 z.symm
    simp [h1, this]
theorem op_gtT {X : Cx} (hu : X.A.units < cLine) : OpR X (compareOp .Gt) (rGtT X.K) := by
  intro pins s σ H x y v u Q I rx ry h
  obtain ⟨a, b, n1, n2, m1, m2, rfl, rfl, ha, hb, q⟩ := h
  cases rx
  cases ry
  obtain ⟨its, r1, p1, _⟩ := I.tuple ha
  obtain ⟨its2, r2, p2, _⟩ := I.tuple hb
  have i1 : IntsAre its [n1, n2] := Vals.ints (ns := [n1, n2]) r1
  have i2 : IntsAre its2 [m1, m2] := Vals.ints (ns := [m1, m2]) r2
  have e1 : its.toArray.size = 2 := by rw [List.size_toArray]; exact i1.length
  have e2 : its2.toArray.size = 2 := by rw [List.size_toArray]; exact i2.length
  have at1 : ∀ j (h1 : j < its.toArray.size), ∃ t, its.toArray[j] = .int ([n1, n2].getD j 0) t := fun j h1 => PyProof.Rows.IntsAre.int_at i1 _ _ (by simp at h1; simp [h1])
  have at2 : ∀ j (h1 : j < its2.toArray.size), ∃ t, its2.toArray[j] = .int ([m1, m2].getD j 0) t := fun j h1 => PyProof.Rows.IntsAre.int_at i2 _ _ (by simp at h1; simp [h1])
  have R := Ob.RcOp.tuples_gt (A := X.A) (s := s) (e := fun j => decide ([n1, n2].getD j 0 = [m1, m2].getD j 0)) (r := fun j => decide ([m1, m2].getD j 0 < [n1, n2].getD j 0)) p1 p2 hu (fun j h1 h2 => by
    obtain ⟨t, et⟩ := at1 j h1
    obtain ⟨t', et'⟩ := at2 j h2
    rw [et, et']
    have z : ([n1, n2].getD j 0 == [m1, m2].getD j 0) = decide ([n1, n2].getD j 0 = [m1, m2].getD j 0) := by
      by_cases q : [n1, n2].getD j 0 = [m1, m2].getD j 0
      · rw [decide_eq_true q]; exact beq_iff_eq.mpr q
      · rw [decide_eq_false q]; exact beq_eq_false_iff_ne.mpr q
    rw [← z]
    exact SeqAt.EqAt.int_int _ _ _ _) (fun j h1 h2 _ => by
    obtain ⟨t, et⟩ := at1 j h1
    obtain ⟨t', et'⟩ := at2 j h2
    rw [et, et']
    exact Ob.RcOp.gt_int _ _ _ _)
  rw [e1, e2] at R
  have e : Ob.lexAt (fun j => decide ([n1, n2].getD j 0 = [m1, m2].getD j 0)) (fun j => decide ([m1, m2].getD j 0 < [n1, n2].getD j 0)) (decide (2 > 2)) 0 (min 2 2) = HT.lexLt [m1, m2] [n1, n2] := lexGt2 n1 n2 m1 m2
  rw [e] at R
  exact R _ _ _ _ ⟨.bl (HT.lexLt [m1, m2] [n1, n2]), H, I, rfl, q⟩
theorem lexLe2 (n1 n2 m1 m2 : Int) : Ob.lexAt (fun j => decide ([n1, n2].getD j 0 = [m1, m2].getD j 0)) (fun j => decide ([n1, n2].getD j 0 ≤ [m1, m2].getD j 0)) true 0 2 = !HT.lexLt [m1, m2] [n1, n2] := by
  rw [Ob.lexAt_succ, Ob.lexAt_succ, Ob.lexAt_zero]
  simp only [HT.lexLt, List.getD_cons_zero, List.getD_cons_succ]
  by_cases h1 : n1 = m1
  · by_cases h2 : n2 = m2
    · simp [h1, h2]
    · have h4 : ¬ m2 = n2 := fun z => h2 z.symm
      by_cases h3 : m2 < n2
      · have h5 : ¬ n2 ≤ m2 := by omega
        simp [h1, h2, h3, h4, h5]
      · have h5 : n2 ≤ m2 := by omega
        simp [h1, h2, h3, h4, h5]
  · have h4 : ¬ m1 = n1 := fun z => h1 z.symm
    by_cases h3 : m1 < n1
    · have h5 : ¬ n1 ≤ m1 := by omega
      simp [h1, h3, h4, h5]
    · have h5 : n1 ≤ m1 := by omega
      simp [h1, h3, h4, h5]
theorem le_pair {K : PySem.W.Frag} {H : Hp} {a b : Addr} {n1 n2 m1 m2 : Int} {Q : VK} (ha : SqT K H a [.int n1, .int n2]) (hb : SqT K H b [.int m1, .int m2]) (q : Q (.bl (!HT.lexLt [m1, m2] [n1, n2])) H) : rLeT K (.ref a) (.ref b) H Q :=
  ⟨a, b, [n1, n2], [m1, m2], rfl, rfl, ha, hb, by rw [← lexLe2] at q; exact q⟩
/-! ### one stretch or one barge anew -/
def putL {α : Type} (xs : List α) (i : Nat) (x : α) : List α := xs.take i ++ [x] ++ xs.drop (i + 1)
theorem putL_set {α : Type} : ∀ {xs : List α} {i : Nat} {x : α}, i < xs.length → putL xs i x = xs.set i x
  | [], i, _, h => absurd h (Nat.not_lt_zero _)
  | a :: as, 0, x, _ => rfl
  | a :: as, i + 1, x, h => by
    have ih := putL_set (xs := as) (i := i) (x := x) (Nat.lt_of_succ_lt_succ h)
    show a :: putL as i x = a :: as.set i x
    rw [ih]
theorem paired_put {α β : Type} {F : α → β → Prop} {x : α} {y : β} (r : F x y) : ∀ {xs : List α} {ys : List β} (i : Nat), Paired F xs ys → i < xs.length → Paired F (putL xs i x) (putL ys i y)
  | _, _, i, .nil, h => absurd h (Nat.not_lt_zero _)
  | _, _, 0, .cons _ t, _ => .cons r t
  | _, _, i + 1, .cons q t, h => .cons q (paired_put r i t (Nat.lt_of_succ_lt_succ h))
theorem putL_len {α : Type} {xs : List α} {i : Nat} {x : α} (h : i < xs.length) : (putL xs i x).length = xs.length := by rw [putL_set h, List.length_set]
theorem putL_get {α : Type} {xs : List α} {i : Nat} {x : α} (h : i < xs.length) (j : Nat) : (putL xs i x)[j]? = if j = i then some x else xs[j]? := by
  rw [putL_set h, List.getElem?_set]
  by_cases c : i = j
  · subst c
    rw [if_pos rfl, if_pos rfl, if_pos h]
  · rw [if_neg c, if_neg fun z => c z.symm]
theorem putL_mem {α : Type} {xs : List α} {i : Nat} {x y : α} (h : y ∈ putL xs i x) : y = x ∨ y ∈ xs := by
  unfold putL at h
  rcases List.mem_append.mp h with h | h
  · rcases List.mem_append.mp h with h | h
    · exact .inr (List.mem_of_mem_take h)
    · exact .inl (List.mem_singleton.mp h)
  · exact .inr (List.mem_of_mem_drop h)
section
variable {k : Book} {i : Nat}
theorem same_bs : ∀ bs : List Barge, Paired (fun b b' : Barge => b'.b = b.b ∧ b'.g = b.g ∧ b'.d = b.d ∧ b'.r = b.r ∧ b.u ≤ b'.u) bs bs
  | [] => .nil
  | _ :: bs => .cons ⟨rfl, rfl, rfl, rfl, Int.le_refl _⟩ (same_bs bs)
theorem put_up {s s' : Stretch} (hi : k.rv[i]? = some s) (hh : s'.hours = s.hours) (hr : s.room ≤ s'.room) (hd : ∀ t, depthAt s t ≤ depthAt s' t) : BookUp k ⟨putL k.rv i s', k.bs⟩ := by
  have hlt := (List.getElem?_eq_some_iff.mp hi).1
  have st : ∀ j, strN ⟨putL k.rv i s', k.bs⟩ j = if j = i then s' else strN k j := fun j => by
    unfold strN
    rw [List.getD_eq_getElem?_getD, List.getD_eq_getElem?_getD]
    show ((putL k.rv i s')[j]?).getD _ = _
    rw [putL_get hlt]
    split <;> rfl
  refine ⟨putL_len hlt, fun n => ?_, fun j hj => ?_, fun j t hj => ?_, same_bs _⟩
  · show hsum (putL k.rv i s') n = _
    unfold hsum
    rw [List.map_take, List.map_take]
    congr 2
    refine List.ext_getElem? fun j => ?_
    rw [List.getElem?_map, List.getElem?_map, putL_get hlt]
    by_cases c : j = i
    · rw [if_pos c, c, hi]
      exact congrArg some hh
    · rw [if_neg c]
  · rw [st]
    by_cases c : j = i
    · rw [if_pos c, c, strN_of hi]; exact hr
    · rw [if_neg c]; exact Int.le_refl _
  · rw [st]
    by_cases c : j = i
    · rw [if_pos c, c, strN_of hi]; exact hd t
    · rw [if_neg c]; exact Int.le_refl _
theorem put_ok {s s' : Stretch} (ok : k.Ok) (hi : k.rv[i]? = some s) (o : s'.Ok) : Book.Ok ⟨putL k.rv i s', k.bs⟩ := by
  have hlt := (List.getElem?_eq_some_iff.mp hi).1
  have hl := putL_len (x := s') hlt
  have n1 := ok.rv.n1
  have n8 := ok.rv.n8
  refine ⟨⟨by show 1 ≤ (putL k.rv i s').length; omega, by show (putL k.rv i s').length ≤ 8; omega, fun x hx => ?_⟩, ok.n7, fun b hb => ?_⟩
  · rcases putL_mem hx with rfl | h
    · exact o
    · exact ok.rv.ok x h
  · show b.Ok (putL k.rv i s').length
    rw [hl]
    exact ok.ok b hb
theorem putB_up {b b' : Barge} (hi : k.bs[i]? = some b) (r : b'.b = b.b ∧ b'.g = b.g ∧ b'.d = b.d ∧ b'.r = b.r ∧ b.u ≤ b'.u) : BookUp k ⟨k.rv, putL k.bs i b'⟩ := by
  have hlt := (List.getElem?_eq_some_iff.mp hi).1
  refine ⟨rfl, fun _ => rfl, fun _ _ => Int.le_refl _, fun _ _ _ => Int.le_refl _, ?_⟩
  have : ∀ (bs : List Barge) (i : Nat), bs[i]? = some b → Paired (fun b b' : Barge => b'.b = b.b ∧ b'.g = b.g ∧ b'.d = b.d ∧ b'.r = b.r ∧ b.u ≤ b'.u) bs (putL bs i b') := fun bs => by
    induction bs with
    | nil => intro i h; cases h
    | cons x bs ih =>
      intro i h
      cases i with
      | zero =>
        have : x = b := Option.some.inj h
        subst this
        exact .cons r (same_bs bs)
      | succ i => exact .cons ⟨rfl, rfl, rfl, rfl, Int.le_refl _⟩ (ih i h)
  exact this k.bs i hi
theorem putB_ok {b b' : Barge} (ok : k.Ok) (hi : k.bs[i]? = some b) (o : b'.Ok k.rv.length) : Book.Ok ⟨k.rv, putL k.bs i b'⟩ := by
  have hlt := (List.getElem?_eq_some_iff.mp hi).1
  have hl := putL_len (x := b') hlt
  have n7 := ok.n7
  refine ⟨ok.rv, by show (putL k.bs i b').length ≤ 7; omega, fun x hx => ?_⟩
  rcases putL_mem hx with rfl | h
  · exact o
  · exact ok.ok x h
end
section
variable {k k' : Book} {now : Int} {st pl : List (Option Int)} {i : Nat}
theorem EvOk.up (u : BookUp k k') (ok : k.Ok) (ok' : k'.Ok) (o : EvOk k now st i pl) : EvOk k' now st i pl :=
  ⟨by rw [u.len]; exact o.ok, u.good ok ok' o.ok o.good, o.part, o.new, o.has⟩
theorem every_up (u : BookUp k k') (ok : k.Ok) (ok' : k'.Ok) (h0 : 0 ≤ now) (oks : PlOk k.bs.length st) (good : allR k st = []) : (∀ pl, pl ∈ everyN k now st st.length → pl ∈ everyN k' now st st.length) ∧ (everyN k now st st.length).length ≤ (everyN k' now st st.length).length := by
  have oks' : PlOk k'.bs.length st := by rw [u.len]; exact oks
  have good' := u.good ok ok' oks good
  have m : ∀ pl, pl ∈ everyN k now st st.length → pl ∈ everyN k' now st st.length := fun pl hp => (everyN_mem ok' h0 oks' good' _ (Nat.le_refl _) pl).mpr (((everyN_mem ok h0 oks good _ (Nat.le_refl _) pl).mp hp).up u ok ok')
  exact ⟨m, sub_len (everyN_nodup ok h0 oks good _ (Nat.le_refl _)) m⟩
/-! ### the last barge gone -/
def lessB (k : Book) : Book := ⟨k.rv, k.bs.take (k.bs.length - 1)⟩
theorem less_ok (ok : k.Ok) : (lessB k).Ok := ⟨ok.rv, by have := ok.n7; show (k.bs.take _).length ≤ 7; rw [List.length_take]; omega, fun b hb => ok.ok b (List.mem_of_mem_take hb)⟩
theorem less_pl (okp : PlOk k.bs.length pl) : PlOk (lessB k).bs.length (pl.take (k.bs.length - 1)) :=
  ⟨by show _ = (k.bs.take _).length; rw [List.length_take, List.length_take, okp.len], fun h hh => okp.ok h (List.mem_of_mem_take hh)⟩
theorem less_good (ok : k.Ok) (okp : PlOk k.bs.length pl) (good : allR k pl = []) : allR (lessB k) (pl.take (k.bs.length - 1)) = [] := by
  have e : pairs (lessB k) (pl.take (k.bs.length - 1)) = (pairs k pl).take (k.bs.length - 1) := by
    exact (List.take_zipWith ..).symm
  have g := goodP_sub ((good_iff ok okp).mp good) (e ▸ List.take_sublist _ _ : (pairs (lessB k) (pl.take (k.bs.length - 1))).Sublist (pairs k pl))
  exact (good_iff (less_ok ok) (less_pl okp)).mpr ⟨g.fits, g.room, g.cross⟩
end
end GD

namespace GD
open PySem PySem.Spec PyProof.Rows L2 GxR GX GS GT GC
/-! ### what stands of a good plan is good, with a barge lost or late too -/
section
variable {k : Book} {now : Int} {pl : List (Option Int)} {i : Nat}
theorem standP_at (j : Nat) : (standP pl now).getD j none = standO now (pl.getD j none) := by
  unfold standP
  rw [List.getD_eq_getElem?_getD, List.getD_eq_getElem?_getD, List.getElem?_map]
  cases pl[j]? with
  | none => rfl
  | some o => rfl
theorem standO_some {o : Option Int} {h : Int} (e : standO now o = some h) : o = some h ∧ h < now := by
  cases o with
  | none => cases e
  | some x =>
    have e : (if x < now then some x else none) = some h := e
    split at e
    · rename_i c
      cases e
      exact ⟨rfl, c⟩
    · cases e
theorem standO_none {h : Int} (e : standO now (some h) = none) : now ≤ h := by
  have e : (if h < now then some h else none) = none := e
  split at e
  · cases e
  · omega
theorem stand_part : PartP (standP pl now) pl := ⟨by unfold standP; rw [List.length_map], fun j h e => by
  rw [standP_at] at e
  exact (standO_some e).1⟩
theorem part_ok {n : Nat} {ql : List (Option Int)} (okp : PlOk n pl) (p : PartP ql pl) : PlOk n ql := ⟨by rw [p.1]; exact okp.len, fun h hh => by
  obtain ⟨j, hj⟩ := mem_getD hh
  exact okp.ok h (getD_mem (p.2 j h hj))⟩
theorem stand_ok {n : Nat} (okp : PlOk n pl) : PlOk n (standP pl now) := part_ok okp stand_part
theorem stand_good (okp : PlOk k.bs.length pl) (good : allR k pl = []) : allR k (standP pl now) = [] := good_part (stand_ok okp) okp stand_part good
theorem stand_ev (okp : PlOk k.bs.length pl) (good : allR k pl = []) (full : none ∉ pl) : EvOk k now (standP pl now) (standP pl now).length pl := by
  refine ⟨okp, good, stand_part, fun j h e1 e2 => ?_, fun j hj _ _ z => full (List.mem_of_getElem? (none_get hj z))⟩
  rw [standP_at, e2] at e1
  exact ⟨by rw [stand_part.1]; exact getD_some_lt e2, standO_none e1⟩
theorem zip_erase {α β : Type} : ∀ (xs : List α) (ys : List β) (i : Nat), (xs.eraseIdx i).zip (ys.eraseIdx i) = (xs.zip ys).eraseIdx i
  | [], ys, i => by simp
  | x :: xs, [], i => by
    cases i with
    | zero => simp
    | succ i => simp
  | x :: xs, y :: ys, 0 => rfl
  | x :: xs, y :: ys, i + 1 => congrArg ((x, y) :: ·) (zip_erase xs ys i)
theorem lost_ok (ok : k.Ok) : Book.Ok ⟨k.rv, k.bs.eraseIdx i⟩ := ⟨ok.rv, by have := ok.n7; have := List.length_eraseIdx_le k.bs i; show (k.bs.eraseIdx i).length ≤ 7; omega, fun b hb => ok.ok b (List.mem_of_mem_eraseIdx hb)⟩
theorem lost_pl (okp : PlOk k.bs.length pl) : PlOk (Book.mk k.rv (k.bs.eraseIdx i)).bs.length (pl.eraseIdx i) := ⟨by
  show (pl.eraseIdx i).length = (k.bs.eraseIdx i).length
  rw [List.length_eraseIdx, List.length_eraseIdx, okp.len], fun h hh => okp.ok h (List.mem_of_mem_eraseIdx hh)⟩
theorem lost_good (ok : k.Ok) (okp : PlOk k.bs.length pl) (good : allR k pl = []) : allR ⟨k.rv, k.bs.eraseIdx i⟩ (pl.eraseIdx i) = [] := by
  have e : pairs ⟨k.rv, k.bs.eraseIdx i⟩ (pl.eraseIdx i) = (pairs k pl).eraseIdx i := zip_erase pl k.bs i
  have s : (pairs (Book.mk k.rv (k.bs.eraseIdx i)) (pl.eraseIdx i)).Sublist (pairs k pl) := by
    rw [e]
    exact List.eraseIdx_sublist _ _
  have g := goodP_sub ((good_iff ok okp).mp good) s
  exact (good_iff (lost_ok ok) (lost_pl okp)).mpr ⟨g.fits, g.room, g.cross⟩
/-- the pairs of a book in which an open barge is another -/
def SameP (p q : Pr) : Prop := q.1 = p.1 ∧ (p.1 ≠ none → q.2 = p.2)
theorem same_all : ∀ ps : List Pr, Paired SameP ps ps
  | [] => .nil
  | _ :: ps => .cons ⟨rfl, fun _ => rfl⟩ (same_all ps)
theorem zip_put {b : Barge} : ∀ (pl : List (Option Int)) (bs : List Barge) (i : Nat), i < bs.length → pl.getD i none = none → Paired SameP (pl.zip bs) (pl.zip (putL bs i b))
  | [], bs, i, _, _ => by rw [List.zip_nil_left, List.zip_nil_left]; exact .nil
  | o :: pl, [], i, h, _ => absurd h (Nat.not_lt_zero _)
  | o :: pl, x :: bs, 0, _, e => by
    have e : o = none := e
    subst e
    exact .cons ⟨rfl, fun z => absurd rfl z⟩ (same_all _)
  | o :: pl, x :: bs, i + 1, h, e => .cons ⟨rfl, fun _ => rfl⟩ (zip_put pl bs i (Nat.lt_of_succ_lt_succ h) e)
theorem same_cnt {h : Int} {s : Nat} : ∀ {ps qs : List Pr}, Paired SameP ps qs → cntP qs h s = cntP ps h s := by
  intro ps qs hp
  induction hp with
  | nil => rfl
  | @cons p q ps qs r t ih =>
    unfold cntP at ih ⊢
    rw [List.countP_cons, List.countP_cons, ih]
    congr 1
    by_cases c : p.1 = none
    · rw [r.1, c]
      simp
    · rw [r.1, r.2 c]
theorem same_good {ps qs : List Pr} (hp : Paired SameP ps qs) (g : GoodP k ps) : GoodP k qs := by
  have one : ∀ q ∈ qs, ∀ h, q.1 = some h → q ∈ ps := fun q hq h e => by
    obtain ⟨j, hj⟩ := List.getElem?_of_mem hq
    obtain ⟨p, hp2, r1, r2⟩ := pgetR hp hj
    have e1 : p.1 = some h := by rw [← r1]; exact e
    have : q = p := Prod.ext r1 (r2 (by rw [e1]; simp))
    rw [this]
    exact List.mem_of_getElem? hp2
  exact ⟨fun q hq h e => g.fits q (one q hq h e) h e, fun h s hs => by rw [same_cnt hp]; exact g.room h s hs, fun p hp q hq h e1 e2 => g.cross p (one p hp h e1) q (one q hq h e2) h e1 e2⟩
theorem late_good {b b' : Barge} (ok : k.Ok) (okp : PlOk k.bs.length pl) (good : allR k pl = []) (hi : k.bs[i]? = some b) (ho : pl.getD i none = none) (o : b'.Ok k.rv.length) : allR ⟨k.rv, putL k.bs i b'⟩ pl = [] := by
  have hlt := (List.getElem?_eq_some_iff.mp hi).1
  have ok' := putB_ok ok hi o
  have okp' : PlOk (Book.mk k.rv (putL k.bs i b')).bs.length pl := by
    show PlOk (putL k.bs i b').length pl
    rw [putL_len hlt]
    exact okp
  have g := same_good (zip_put (b := b') pl k.bs i hlt ho) ((good_iff ok okp).mp good)
  exact (good_iff ok' okp').mpr ⟨g.fits, g.room, g.cross⟩
theorem lateB_put {b : Barge} {r : Int} (hi : k.bs[i]? = some b) : lateB k i r = ⟨k.rv, putL k.bs i { b with r := r }⟩ := by
  unfold lateB
  rw [late_take (f := fun b => { b with r := r }) hi]
  rfl
end
end GD

namespace HY
open PySem PySem.Spec PyProof.Rows L2 He
/-! ### a look that takes the interpreter's own table along: attributes of own classes are read by it -/
section
variable (fa : List Fa) (fn : List DefD) (ts : List Tab) (tf : List Defn) (ex : PySem.W.Frag → Bool)
def told (g : Addr → Option Obj) (K : PySem.W.Frag) : AlX := (obsT fa fn ts K, ex K && tabsB g tf K)
def seen (n : Nat) (g : Addr → Option Obj) : AlX := told fa fn ts tf ex g (frT g (He5.asA g n))
end
section
variable {fa : List Fa} {fn : List DefD} {ts : List Tab} {tf : List Defn} {ex : PySem.W.Frag → Bool}
theorem says_of {w : World} {h : Heap} {as : List Addr} (e : told fa fn ts tf ex h.get? (frT h.get? as) = valX fn ts w) : SaysX fa fn ts tf ex w h (frT h.get? as) := by
  generalize hK : frT h.get? as = K at e ⊢
  obtain ⟨e1, e2⟩ := Prod.mk.inj e
  obtain ⟨h1, h2⟩ := ba e2
  have tabs : ∀ p ∈ tf, PySem.W.codeHdIn K (cT K p).1 (cT K p).2 = true ∧ ∃ o, h.get? (cT K p).2 = some o ∧ emptyTab o = true := fun p hp => by
    obtain ⟨h3, h4⟩ := ba (List.all_eq_true.mp h2 p hp)
    refine ⟨h3, ?_⟩
    split at h4
    · rename_i o ho
      exact ⟨o, ho, h4⟩
    · cases h4
  refine ⟨e1, h1, fun p hp => (tabs p hp).1, fun p hp => ?_, fun p hp => ?_⟩
  · obtain ⟨_, o, q, z⟩ := tabs p hp
    rw [← hK] at q ⊢
    exact frT_none q z
  · obtain ⟨_, o, q, z⟩ := tabs p hp
    rw [q, emptyTab_eq z]
end
def hook (n : Nat) (fa : List Fa) (fn : List DefD) (ts : List Tab) (tf : List Defn) (ex : PySem.W.Frag → Bool) : PySem.W.Hook where
  α := AlX
  obs := fun s => seen fa fn ts tf ex n s.heap.get?
  val := fun w => valX fn ts w
  says := fun w h => ∃ K : PySem.W.Frag, K.In h ∧ SaysX fa fn ts tf ex w h K
  of := fun _ _ e => ⟨_, frT_in, says_of e⟩
  keeps := fun _ _ _ ⟨K, hK, c⟩ k => ⟨K, PySem.W.Frag.In.keeps hK k, ⟨c.t, c.more, c.hd, c.out, fun p hp => k _ _ (c.empty p hp)⟩⟩
theorem seen_eq {n : Nat} {fa : List Fa} {fn : List DefD} {ts : List Tab} {tf : List Defn} {ex : PySem.W.Frag → Bool} {g : Addr → Option Obj} {s : Shared} (h : ∀ a, g a = s.heap.get? a) : seen fa fn ts tf ex n g = (hook n fa fn ts tf ex).obs s := by
  rw [show g = s.heap.get? from funext h] <;> rfl
end HY

set_option pp.maxSteps 1500
set_option pp.deepTerms false
namespace TB
open PySem PySem.Spec PyProof.Rows L2 GxR GX GE GD GS GT GC

def top (i : Nat) : Stmt := PySem.Challenge.pw_towbarges_k14_whole_mended.main.body.getD i (.Pass ⟨0, 0, 0, 0⟩)
abbrev s_NoPlan___init__ : Stmt := inClass (top 4) 0
theorem sc_NoPlan___init__ : FnScope ["self", "table"] ["self", "table"] (defScope s_NoPlan___init__) := ⟨rfl, rfl, rfl, by decide +kernel, rfl, by decide +kernel, by decide +kernel⟩
abbrev s_is_number : Stmt := top 8
theorem sc_is_number : FnScope ["value", "least", "most"] ["value", "least", "most"] (defScope s_is_number) := ⟨rfl, rfl, rfl, by decide +kernel, rfl, by decide +kernel, by decide +kernel⟩
abbrev s_is_row : Stmt := top 9
theorem sc_is_row : FnScope ["value", "least", "most"] ["value", "least", "most"] (defScope s_is_row) := ⟨rfl, rfl, rfl, by decide +kernel, rfl, by decide +kernel, by decide +kernel⟩
abbrev s_is_stretch : Stmt := top 10
theorem sc_is_stretch : FnScope ["value", "hours", "room", "depths", "depth"] ["value"] (defScope s_is_stretch) := ⟨rfl, rfl, rfl, by decide +kernel, rfl, by decide +kernel, by decide +kernel⟩
abbrev s_is_ready : Stmt := top 11
theorem sc_is_ready : FnScope ["value"] ["value"] (defScope s_is_ready) := ⟨rfl, rfl, rfl, by decide +kernel, rfl, by decide +kernel, by decide +kernel⟩
abbrev s_is_barge : Stmt := top 12
theorem sc_is_barge : FnScope ["value", "last", "begin", "goal", "draft", "ready", "due"] ["value", "last"] (defScope s_is_barge) := ⟨rfl, rfl, rfl, by decide +kernel, rfl, by decide +kernel, by decide +kernel⟩
abbrev s_check_book : Stmt := top 13
theorem sc_check_book : FnScope ["book", "stretches", "barges", "stretch", "last", "barge"] ["book"] (defScope s_check_book) := ⟨rfl, rfl, rfl, by decide +kernel, rfl, by decide +kernel, by decide +kernel⟩
abbrev s_check_plan : Stmt := top 14
theorem sc_check_plan : FnScope ["book", "plan", "many", "hour"] ["book", "plan"] (defScope s_check_plan) := ⟨rfl, rfl, rfl, by decide +kernel, rfl, by decide +kernel, by decide +kernel⟩
abbrev s_arrival : Stmt := top 16
theorem sc_arrival : FnScope ["stretches", "place", "hour", "at", "stretch"] ["stretches", "place", "hour"] (defScope s_arrival) := ⟨rfl, rfl, rfl, by decide +kernel, rfl, by decide +kernel, by decide +kernel⟩
abbrev s_depth_then : Stmt := top 17
theorem sc_depth_then : FnScope ["stretches", "stretch", "time", "depths"] ["stretches", "stretch", "time"] (defScope s_depth_then) := ⟨rfl, rfl, rfl, by decide +kernel, rfl, by decide +kernel, by decide +kernel⟩
abbrev s_hours_of : Stmt := top 19
theorem sc_hours_of : FnScope ["plan", "hour"] ["plan"] (defScope s_hours_of) := ⟨rfl, rfl, rfl, by decide +kernel, rfl, by decide +kernel, by decide +kernel⟩
abbrev s_members : Stmt := top 20
theorem sc_members : FnScope ["plan", "hour", "number", "given"] ["plan", "hour"] (defScope s_members) := ⟨rfl, rfl, rfl, by decide +kernel, rfl, by decide +kernel, by decide +kernel⟩
abbrev s_waiting : Stmt := top 21
theorem sc_waiting : FnScope ["stretches", "barge", "hour", "begin", "_", "ready"] ["stretches", "barge", "hour"] (defScope s_waiting) := ⟨rfl, rfl, rfl, by decide +kernel, rfl, by decide +kernel, by decide +kernel⟩
abbrev s_depths_on_way : Stmt := top 22
theorem sc_depths_on_way : FnScope ["stretches", "barge", "hour", "told", "stretch", "time"] ["stretches", "barge", "hour"] (defScope s_depths_on_way) := ⟨rfl, rfl, rfl, by decide +kernel, rfl, by decide +kernel, by decide +kernel⟩
abbrev s_against_barge : Stmt := top 23
theorem sc_against_barge : FnScope ["book", "number", "hour", "stretches", "barges", "barge", "begin", "goal", "draft", "ready", "due", "told", "comes", "ends", "stretch", "time", "depth"] ["book", "number", "hour"] (defScope s_against_barge) := ⟨rfl, rfl, rfl, by decide +kernel, rfl, by decide +kernel, by decide +kernel⟩
abbrev s_against_barges : Stmt := top 24
theorem sc_against_barges : FnScope ["book", "plan", "told", "number", "hour"] ["book", "plan"] (defScope s_against_barges) := ⟨rfl, rfl, rfl, by decide +kernel, rfl, by decide +kernel, by decide +kernel⟩
abbrev s_many_on : Stmt := top 25
theorem sc_many_on : FnScope ["barges", "numbers", "stretch", "number"] ["barges", "numbers", "stretch"] (defScope s_many_on) := ⟨rfl, rfl, rfl, by decide +kernel, rfl, by decide +kernel, by decide +kernel⟩
abbrev s_full_stretches : Stmt := top 26
theorem sc_full_stretches : FnScope ["book", "plan", "stretches", "barges", "told", "hour", "numbers", "stretch", "_", "room", "many"] ["book", "plan"] (defScope s_full_stretches) := ⟨rfl, rfl, rfl, by decide +kernel, rfl, by decide +kernel, by decide +kernel⟩
abbrev s_is_crossed : Stmt := top 27
theorem sc_is_crossed : FnScope ["first", "second"] ["first", "second"] (defScope s_is_crossed) := ⟨rfl, rfl, rfl, by decide +kernel, rfl, by decide +kernel, by decide +kernel⟩
abbrev s_crossed_barges : Stmt := top 28
theorem sc_crossed_barges : FnScope ["book", "plan", "barges", "told", "one", "hour", "other"] ["book", "plan"] (defScope s_crossed_barges) := ⟨rfl, rfl, rfl, by decide +kernel, rfl, by decide +kernel, by decide +kernel⟩
abbrev s_all_against : Stmt := top 29
theorem sc_all_against : FnScope ["book", "plan"] ["book", "plan"] (defScope s_all_against) := ⟨rfl, rfl, rfl, by decide +kernel, rfl, by decide +kernel, by decide +kernel⟩
abbrev s_check_good : Stmt := top 30
theorem sc_check_good : FnScope ["book", "plan"] ["book", "plan"] (defScope s_check_good) := ⟨rfl, rfl, rfl, by decide +kernel, rfl, by decide +kernel, by decide +kernel⟩
abbrev s_check_mending : Stmt := top 32
theorem sc_check_mending : FnScope ["book", "plan", "now", "barge"] ["book", "plan", "now", "barge"] (defScope s_check_mending) := ⟨rfl, rfl, rfl, by decide +kernel, rfl, by decide +kernel, by decide +kernel⟩
abbrev s_standing : Stmt := top 33
theorem sc_standing : FnScope ["plan", "now", "hour"] ["plan", "now"] (defScope s_standing) := ⟨rfl, rfl, rfl, by decide +kernel, rfl, by decide +kernel, by decide +kernel⟩
abbrev s_late : Stmt := top 34
theorem sc_late : FnScope ["book", "plan", "now", "barge", "ready", "stretches", "barges", "told", "number", "old"] ["book", "plan", "now", "barge", "ready"] (defScope s_late) := ⟨rfl, rfl, rfl, by decide +kernel, rfl, by decide +kernel, by decide +kernel⟩
abbrev s_without : Stmt := top 35
theorem sc_without : FnScope ["row", "at", "place", "item"] ["row", "at"] (defScope s_without) := ⟨rfl, rfl, rfl, by decide +kernel, rfl, by decide +kernel, by decide +kernel⟩
abbrev s_lost : Stmt := top 36
theorem sc_lost : FnScope ["book", "plan", "now", "barge", "stretches", "barges"] ["book", "plan", "now", "barge"] (defScope s_lost) := ⟨rfl, rfl, rfl, by decide +kernel, rfl, by decide +kernel, by decide +kernel⟩
abbrev s_hours_from : Stmt := top 38
theorem sc_hours_from : FnScope ["now"] ["now"] (defScope s_hours_from) := ⟨rfl, rfl, rfl, by decide +kernel, rfl, by decide +kernel, by decide +kernel⟩
abbrev s_open_barges : Stmt := top 39
theorem sc_open_barges : FnScope ["plan"] ["plan"] (defScope s_open_barges) := ⟨rfl, rfl, rfl, by decide +kernel, rfl, by decide +kernel, by decide +kernel⟩
abbrev s_with_hour : Stmt := top 40
theorem sc_with_hour : FnScope ["plan", "barge", "hour"] ["plan", "barge", "hour"] (defScope s_with_hour) := ⟨rfl, rfl, rfl, by decide +kernel, rfl, by decide +kernel, by decide +kernel⟩
abbrev s_Choices___init__ : Stmt := inClass (top 41) 0
theorem sc_Choices___init__ : FnScope ["self", "book", "now", "stretches", "barges", "hour", "barge", "number"] ["self", "book", "now"] (defScope s_Choices___init__) := ⟨rfl, rfl, rfl, by decide +kernel, rfl, by decide +kernel, by decide +kernel⟩
abbrev s_Choices_share : Stmt := inClass (top 41) 1
theorem sc_Choices_share : FnScope ["self", "numbers", "party", "plan", "number"] ["self", "numbers"] (defScope s_Choices_share) := ⟨rfl, rfl, rfl, by decide +kernel, rfl, by decide +kernel, by decide +kernel⟩
abbrev s_Choices_worth_of : Stmt := inClass (top 41) 2
theorem sc_Choices_worth_of : FnScope ["self", "plan", "waits", "number", "hour"] ["self", "plan"] (defScope s_Choices_worth_of) := ⟨rfl, rfl, rfl, by decide +kernel, rfl, by decide +kernel, by decide +kernel⟩
abbrev s_Choices_better_hours : Stmt := inClass (top 41) 3
theorem sc_Choices_better_hours : FnScope ["self", "plan", "barge", "worth", "tows", "waited", "told", "hour", "more", "better"] ["self", "plan", "barge", "worth"] (defScope s_Choices_better_hours) := ⟨rfl, rfl, rfl, by decide +kernel, rfl, by decide +kernel, by decide +kernel⟩
abbrev s_table_for : Stmt := top 42
theorem sc_table_for : FnScope ["choices", "plan", "worth", "cases", "barge", "hours", "rows", "hour"] ["choices", "plan", "worth"] (defScope s_table_for) := ⟨rfl, rfl, rfl, by decide +kernel, rfl, by decide +kernel, by decide +kernel⟩
abbrev s_groups : Stmt := top 45
theorem sc_groups : FnScope ["choices", "start", "hour", "aboard", "told", "barge", "wider", "group"] ["choices", "start", "hour"] (defScope s_groups) := ⟨rfl, rfl, rfl, by decide +kernel, rfl, by decide +kernel, by decide +kernel⟩
abbrev s_taken : Stmt := top 46
theorem sc_taken : FnScope ["told", "rest", "pairs", "group", "barge"] ["told", "rest"] (defScope s_taken) := ⟨rfl, rfl, rfl, by decide +kernel, rfl, by decide +kernel, by decide +kernel⟩
abbrev s_joined : Stmt := top 47
theorem sc_joined : FnScope ["plan", "group", "hour", "barge"] ["plan", "group", "hour"] (defScope s_joined) := ⟨rfl, rfl, rfl, by decide +kernel, rfl, by decide +kernel, by decide +kernel⟩
abbrev s_least : Stmt := top 48
theorem sc_least : FnScope ["choices", "start", "now", "rank", "kept", "hour", "told", "after", "rest", "plan", "group", "left", "found"] ["choices", "start", "now", "rank"] (defScope s_least) := ⟨rfl, rfl, rfl, by decide +kernel, rfl, by decide +kernel, by decide +kernel⟩
abbrev s_best : Stmt := top 49
theorem sc_best : FnScope ["book", "start", "now", "choices", "plan"] ["book", "start", "now"] (defScope s_best) := ⟨rfl, rfl, rfl, by decide +kernel, rfl, by decide +kernel, by decide +kernel⟩
abbrev s__law_cell_at : Stmt := top 51
theorem sc__law_cell_at : FnScope ["_law_script", "_law_k"] ["_law_script", "_law_k"] (defScope s__law_cell_at) := ⟨rfl, rfl, rfl, by decide +kernel, rfl, by decide +kernel, by decide +kernel⟩
abbrev s__law_dice : Stmt := top 52
theorem sc__law_dice : FnScope ["_law_cell"] ["_law_cell"] (defScope s__law_dice) := ⟨rfl, rfl, rfl, by decide +kernel, rfl, by decide +kernel, by decide +kernel⟩
abbrev s__law_roll : Stmt := top 53
theorem sc__law_roll : FnScope ["_law_dice_here", "_law_most", "_law_found"] ["_law_dice_here", "_law_most"] (defScope s__law_roll) := ⟨rfl, rfl, rfl, by decide +kernel, rfl, by decide +kernel, by decide +kernel⟩
abbrev s__law_river : Stmt := top 54
theorem sc__law_river : FnScope ["_law_dice_here", "_law_many", "_law_out", "_law_k", "_law_slow", "_law_depths", "_law_turn"] ["_law_dice_here", "_law_many"] (defScope s__law_river) := ⟨rfl, rfl, rfl, by decide +kernel, rfl, by decide +kernel, by decide +kernel⟩
abbrev s__law_time : Stmt := top 55
theorem sc__law_time : FnScope ["_law_river_here", "_law_place", "_law_hour", "_law_stretch"] ["_law_river_here", "_law_place", "_law_hour"] (defScope s__law_time) := ⟨rfl, rfl, rfl, by decide +kernel, rfl, by decide +kernel, by decide +kernel⟩
abbrev s__law_barges : Stmt := top 56
theorem sc__law_barges : FnScope ["_law_dice_here", "_law_river_here", "_law_many", "_law_out", "_law_slack", "_law_k", "_law_begin", "_law_goal", "_law_hour", "_law_ready", "_law_due", "_law_draft", "_law_odd"] ["_law_dice_here", "_law_river_here", "_law_many"] (defScope s__law_barges) := ⟨rfl, rfl, rfl, by decide +kernel, rfl, by decide +kernel, by decide +kernel⟩
abbrev s__law_book : Stmt := top 57
theorem sc__law_book : FnScope ["_law_script", "_law_most", "_law_dice_here", "_law_cell", "_law_river_here"] ["_law_script", "_law_most"] (defScope s__law_book) := ⟨rfl, rfl, rfl, by decide +kernel, rfl, by decide +kernel, by decide +kernel⟩
abbrev s__law_depth : Stmt := top 58
theorem sc__law_depth : FnScope ["_law_river_here", "_law_stretch", "_law_time_here", "_law_depths"] ["_law_river_here", "_law_stretch", "_law_time_here"] (defScope s__law_depth) := ⟨rfl, rfl, rfl, by decide +kernel, rfl, by decide +kernel, by decide +kernel⟩
abbrev s__law_alone : Stmt := top 59
theorem sc__law_alone : FnScope ["_law_book_here", "_law_k", "_law_hour", "_law_river_here", "_law_begin", "_law_goal", "_law_draft", "_law_ready", "_law_due", "_law_out", "_law_stretch", "_law_time_here"] ["_law_book_here", "_law_k", "_law_hour"] (defScope s__law_alone) := ⟨rfl, rfl, rfl, by decide +kernel, rfl, by decide +kernel, by decide +kernel⟩
abbrev s__law_hours : Stmt := top 60
theorem sc__law_hours : FnScope ["_law_plan", "_law_hour"] ["_law_plan"] (defScope s__law_hours) := ⟨rfl, rfl, rfl, by decide +kernel, rfl, by decide +kernel, by decide +kernel⟩
abbrev s__law_full : Stmt := top 61
theorem sc__law_full : FnScope ["_law_book_here", "_law_plan", "_law_out", "_law_hour", "_law_stretch", "_law_over", "_law_k"] ["_law_book_here", "_law_plan"] (defScope s__law_full) := ⟨rfl, rfl, rfl, by decide +kernel, rfl, by decide +kernel, by decide +kernel⟩
abbrev s__law_crossed : Stmt := top 62
theorem sc__law_crossed : FnScope ["_law_book_here", "_law_plan", "_law_out", "_law_one", "_law_other", "_law_ends"] ["_law_book_here", "_law_plan"] (defScope s__law_crossed) := ⟨rfl, rfl, rfl, by decide +kernel, rfl, by decide +kernel, by decide +kernel⟩
abbrev s__law_refusals : Stmt := top 63
theorem sc__law_refusals : FnScope ["_law_book_here", "_law_plan", "_law_out", "_law_k"] ["_law_book_here", "_law_plan"] (defScope s__law_refusals) := ⟨rfl, rfl, rfl, by decide +kernel, rfl, by decide +kernel, by decide +kernel⟩
abbrev s__law_price : Stmt := top 64
theorem sc__law_price : FnScope ["_law_book_here", "_law_plan", "_law_waits", "_law_k"] ["_law_book_here", "_law_plan"] (defScope s__law_price) := ⟨rfl, rfl, rfl, by decide +kernel, rfl, by decide +kernel, by decide +kernel⟩
abbrev s__law_put : Stmt := top 65
theorem sc__law_put : FnScope ["_law_plan", "_law_k", "_law_hour"] ["_law_plan", "_law_k", "_law_hour"] (defScope s__law_put) := ⟨rfl, rfl, rfl, by decide +kernel, rfl, by decide +kernel, by decide +kernel⟩
abbrev s__law_good : Stmt := top 66
theorem sc__law_good : FnScope ["_law_dice_here", "_law_book_here", "_law_least", "_law_rest", "_law_plan", "_law_k", "_law_first", "_law_turn", "_law_hour"] ["_law_dice_here", "_law_book_here", "_law_least", "_law_rest"] (defScope s__law_good) := ⟨rfl, rfl, rfl, by decide +kernel, rfl, by decide +kernel, by decide +kernel⟩
abbrev s__law_every : Stmt := top 67
theorem sc__law_every : FnScope ["_law_book_here", "_law_start", "_law_now", "_law_plans", "_law_k", "_law_more", "_law_plan", "_law_hour"] ["_law_book_here", "_law_start", "_law_now"] (defScope s__law_every) := ⟨rfl, rfl, rfl, by decide +kernel, rfl, by decide +kernel, by decide +kernel⟩
abbrev s__law_is_mended : Stmt := top 68
theorem sc__law_is_mended : FnScope ["_law_made", "_law_start", "_law_now", "_law_most", "_law_plans", "_law_plan", "_law_price_here", "_law_one"] ["_law_made", "_law_start", "_law_now", "_law_most"] (defScope s__law_is_mended) := ⟨rfl, rfl, rfl, by decide +kernel, rfl, by decide +kernel, by decide +kernel⟩
abbrev s_law : Stmt := top 69
theorem sc_law : FnScope ["_law_script", "_law_book_here", "_law_plan", "_law_here", "_law_k", "_law_now", "_law_made", "_law_start"] ["_law_script"] (defScope s_law) := ⟨rfl, rfl, rfl, by decide +kernel, rfl, by decide +kernel, by decide +kernel⟩

abbrev FnP (K : PySem.W.Frag) (x : Str) (st : Stmt) (f : Addr) (fd : FuncData) : Prop := FunD K x x (defArgs st) (defBody st) (defScope st) [] [] f fd
/-- where the defs stand -/
structure Ad where
  a_NoPlan___init__ : Addr
  d_NoPlan___init__ : FuncData
  a_is_number : Addr
  d_is_number : FuncData
  a_is_row : Addr
  d_is_row : FuncData
  a_is_stretch : Addr
  d_is_stretch : FuncData
  k_is_stretch : Addr × Addr
  a_is_ready : Addr
  d_is_ready : FuncData
  a_is_barge : Addr
  d_is_barge : FuncData
  a_check_book : Addr
  d_check_book : FuncData
  k_check_book : Addr × Addr
  a_check_plan : Addr
  d_check_plan : FuncData
  k_check_plan : Addr × Addr
  a_arrival : Addr
  d_arrival : FuncData
  k_arrival : Addr × Addr
  a_depth_then : Addr
  d_depth_then : FuncData
  a_hours_of : Addr
  d_hours_of : FuncData
  a_members : Addr
  d_members : FuncData
  a_waiting : Addr
  d_waiting : FuncData
  a_depths_on_way : Addr
  d_depths_on_way : FuncData
  a_against_barge : Addr
  d_against_barge : FuncData
  a_against_barges : Addr
  d_against_barges : FuncData
  a_many_on : Addr
  d_many_on : FuncData
  a_full_stretches : Addr
  d_full_stretches : FuncData
  a_is_crossed : Addr
  d_is_crossed : FuncData
  a_crossed_barges : Addr
  d_crossed_barges : FuncData
  a_all_against : Addr
  d_all_against : FuncData
  a_check_good : Addr
  d_check_good : FuncData
  a_check_mending : Addr
  d_check_mending : FuncData
  a_standing : Addr
  d_standing : FuncData
  k_standing : Addr × Addr
  a_late : Addr
  d_late : FuncData
  a_without : Addr
  d_without : FuncData
  k_without : Addr × Addr
  a_lost : Addr
  d_lost : FuncData
  a_hours_from : Addr
  d_hours_from : FuncData
  a_open_barges : Addr
  d_open_barges : FuncData
  a_with_hour : Addr
  d_with_hour : FuncData
  a_Choices___init__ : Addr
  d_Choices___init__ : FuncData
  a_Choices_share : Addr
  d_Choices_share : FuncData
  k_Choices_share : Addr × Addr
  a_Choices_worth_of : Addr
  d_Choices_worth_of : FuncData
  a_Choices_better_hours : Addr
  d_Choices_better_hours : FuncData
  a_table_for : Addr
  d_table_for : FuncData
  k_table_for : Addr × Addr
  a_groups : Addr
  d_groups : FuncData
  a_taken : Addr
  d_taken : FuncData
  k_taken : Addr × Addr
  a_joined : Addr
  d_joined : FuncData
  a_least : Addr
  d_least : FuncData
  a_best : Addr
  d_best : FuncData
  k_best : Addr × Addr
  a__law_cell_at : Addr
  d__law_cell_at : FuncData
  a__law_dice : Addr
  d__law_dice : FuncData
  a__law_roll : Addr
  d__law_roll : FuncData
  a__law_river : Addr
  d__law_river : FuncData
  a__law_time : Addr
  d__law_time : FuncData
  a__law_barges : Addr
  d__law_barges : FuncData
  a__law_book : Addr
  d__law_book : FuncData
  a__law_depth : Addr
  d__law_depth : FuncData
  a__law_alone : Addr
  d__law_alone : FuncData
  a__law_hours : Addr
  d__law_hours : FuncData
  a__law_full : Addr
  d__law_full : FuncData
  a__law_crossed : Addr
  d__law_crossed : FuncData
  a__law_refusals : Addr
  d__law_refusals : FuncData
  a__law_price : Addr
  d__law_price : FuncData
  a__law_put : Addr
  d__law_put : FuncData
  a__law_good : Addr
  d__law_good : FuncData
  a__law_every : Addr
  d__law_every : FuncData
  a__law_is_mended : Addr
  d__law_is_mended : FuncData
  a_law : Addr
  d_law : FuncData
  c_TowError : Addr
  c_BadBook : Addr
  c_BadPlan : Addr
  c_NoPlan : Addr
  c_Gone : Addr
  c_Choices : Addr
  w_WORST : Addr
structure Facts (A : Ad) (K : PySem.W.Frag) (mg : Str → Option Value) (base : Heap) : Prop where
  F_NoPlan___init__ : FunD K "__init__" "NoPlan.__init__" (defArgs s_NoPlan___init__) (defBody s_NoPlan___init__) (defScope s_NoPlan___init__) [] [] A.a_NoPlan___init__ A.d_NoPlan___init__
  b_NoPlan___init__ : Binds K A.d_NoPlan___init__ ["self", "table"] []
  F_is_number : FnP K "is_number" s_is_number A.a_is_number A.d_is_number
  g_is_number : mg "is_number" = some (.ref A.a_is_number)
  b_is_number : Binds K A.d_is_number ["value", "least", "most"] []
  F_is_row : FnP K "is_row" s_is_row A.a_is_row A.d_is_row
  g_is_row : mg "is_row" = some (.ref A.a_is_row)
  b_is_row : Binds K A.d_is_row ["value", "least", "most"] []
  F_is_stretch : FnP K "is_stretch" s_is_stretch A.a_is_stretch A.d_is_stretch
  g_is_stretch : mg "is_stretch" = some (.ref A.a_is_stretch)
  b_is_stretch : Binds K A.d_is_stretch ["value"] []
  h_is_stretch : A.d_is_stretch.code = .ref A.k_is_stretch.1
  t_is_stretch : GxR.TabB base mg A.k_is_stretch.1 A.k_is_stretch.2
  F_is_ready : FnP K "is_ready" s_is_ready A.a_is_ready A.d_is_ready
  g_is_ready : mg "is_ready" = some (.ref A.a_is_ready)
  b_is_ready : Binds K A.d_is_ready ["value"] []
  F_is_barge : FnP K "is_barge" s_is_barge A.a_is_barge A.d_is_barge
  g_is_barge : mg "is_barge" = some (.ref A.a_is_barge)
  b_is_barge : Binds K A.d_is_barge ["value", "last"] []
  F_check_book : FnP K "check_book" s_check_book A.a_check_book A.d_check_book
  g_check_book : mg "check_book" = some (.ref A.a_check_book)
  b_check_book : Binds K A.d_check_book ["book"] []
  h_check_book : A.d_check_book.code = .ref A.k_check_book.1
  t_check_book : GxR.TabB base mg A.k_check_book.1 A.k_check_book.2
  F_check_plan : FnP K "check_plan" s_check_plan A.a_check_plan A.d_check_plan
  g_check_plan : mg "check_plan" = some (.ref A.a_check_plan)
  b_check_plan : Binds K A.d_check_plan ["book", "plan"] []
  h_check_plan : A.d_check_plan.code = .ref A.k_check_plan.1
  t_check_plan : GxR.TabB base mg A.k_check_plan.1 A.k_check_plan.2
  F_arrival : FnP K "arrival" s_arrival A.a_arrival A.d_arrival
  g_arrival : mg "arrival" = some (.ref A.a_arrival)
  b_arrival : Binds K A.d_arrival ["stretches", "place", "hour"] []
  h_arrival : A.d_arrival.code = .ref A.k_arrival.1
  t_arrival : GxR.TabB base mg A.k_arrival.1 A.k_arrival.2
  F_depth_then : FnP K "depth_then" s_depth_then A.a_depth_then A.d_depth_then
  g_depth_then : mg "depth_then" = some (.ref A.a_depth_then)
  b_depth_then : Binds K A.d_depth_then ["stretches", "stretch", "time"] []
  F_hours_of : FnP K "hours_of" s_hours_of A.a_hours_of A.d_hours_of
  g_hours_of : mg "hours_of" = some (.ref A.a_hours_of)
  b_hours_of : Binds K A.d_hours_of ["plan"] []
  F_members : FnP K "members" s_members A.a_members A.d_members
  g_members : mg "members" = some (.ref A.a_members)
  b_members : Binds K A.d_members ["plan", "hour"] []
  F_waiting : FnP K "waiting" s_waiting A.a_waiting A.d_waiting
  g_waiting : mg "waiting" = some (.ref A.a_waiting)
  b_waiting : Binds K A.d_waiting ["stretches", "barge", "hour"] []
  F_depths_on_way : FnP K "depths_on_way" s_depths_on_way A.a_depths_on_way A.d_depths_on_way
  g_depths_on_way : mg "depths_on_way" = some (.ref A.a_depths_on_way)
  b_depths_on_way : Binds K A.d_depths_on_way ["stretches", "barge", "hour"] []
  F_against_barge : FnP K "against_barge" s_against_barge A.a_against_barge A.d_against_barge
  g_against_barge : mg "against_barge" = some (.ref A.a_against_barge)
  b_against_barge : Binds K A.d_against_barge ["book", "number", "hour"] []
  F_against_barges : FnP K "against_barges" s_against_barges A.a_against_barges A.d_against_barges
  g_against_barges : mg "against_barges" = some (.ref A.a_against_barges)
  b_against_barges : Binds K A.d_against_barges ["book", "plan"] []
  F_many_on : FnP K "many_on" s_many_on A.a_many_on A.d_many_on
  g_many_on : mg "many_on" = some (.ref A.a_many_on)
  b_many_on : Binds K A.d_many_on ["barges", "numbers", "stretch"] []
  F_full_stretches : FnP K "full_stretches" s_full_stretches A.a_full_stretches A.d_full_stretches
  g_full_stretches : mg "full_stretches" = some (.ref A.a_full_stretches)
  b_full_stretches : Binds K A.d_full_stretches ["book", "plan"] []
  F_is_crossed : FnP K "is_crossed" s_is_crossed A.a_is_crossed A.d_is_crossed
  g_is_crossed : mg "is_crossed" = some (.ref A.a_is_crossed)
  b_is_crossed : Binds K A.d_is_crossed ["first", "second"] []
  F_crossed_barges : FnP K "crossed_barges" s_crossed_barges A.a_crossed_barges A.d_crossed_barges
  g_crossed_barges : mg "crossed_barges" = some (.ref A.a_crossed_barges)
  b_crossed_barges : Binds K A.d_crossed_barges ["book", "plan"] []
  F_all_against : FnP K "all_against" s_all_against A.a_all_against A.d_all_against
  g_all_against : mg "all_against" = some (.ref A.a_all_against)
  b_all_against : Binds K A.d_all_against ["book", "plan"] []
  F_check_good : FnP K "check_good" s_check_good A.a_check_good A.d_check_good
  g_check_good : mg "check_good" = some (.ref A.a_check_good)
  b_check_good : Binds K A.d_check_good ["book", "plan"] []
  F_check_mending : FnP K "check_mending" s_check_mending A.a_check_mending A.d_check_mending
  g_check_mending : mg "check_mending" = some (.ref A.a_check_mending)
  b_check_mending : Binds K A.d_check_mending ["book", "plan", "now", "barge"] []
  F_standing : FnP K "standing" s_standing A.a_standing A.d_standing
  g_standing : mg "standing" = some (.ref A.a_standing)
  b_standing : Binds K A.d_standing ["plan", "now"] []
  h_standing : A.d_standing.code = .ref A.k_standing.1
  t_standing : GxR.TabB base mg A.k_standing.1 A.k_standing.2
  F_late : FnP K "late" s_late A.a_late A.d_late
  g_late : mg "late" = some (.ref A.a_late)
  b_late : Binds K A.d_late ["book", "plan", "now", "barge", "ready"] []
  F_without : FnP K "without" s_without A.a_without A.d_without
  g_without : mg "without" = some (.ref A.a_without)
  b_without : Binds K A.d_without ["row", "at"] []
  h_without : A.d_without.code = .ref A.k_without.1
  t_without : GxR.TabB base mg A.k_without.1 A.k_without.2
  F_lost : FnP K "lost" s_lost A.a_lost A.d_lost
  g_lost : mg "lost" = some (.ref A.a_lost)
  b_lost : Binds K A.d_lost ["book", "plan", "now", "barge"] []
  F_hours_from : FnP K "hours_from" s_hours_from A.a_hours_from A.d_hours_from
  g_hours_from : mg "hours_from" = some (.ref A.a_hours_from)
  b_hours_from : Binds K A.d_hours_from ["now"] []
  F_open_barges : FnP K "open_barges" s_open_barges A.a_open_barges A.d_open_barges
  g_open_barges : mg "open_barges" = some (.ref A.a_open_barges)
  b_open_barges : Binds K A.d_open_barges ["plan"] []
  F_with_hour : FnP K "with_hour" s_with_hour A.a_with_hour A.d_with_hour
  g_with_hour : mg "with_hour" = some (.ref A.a_with_hour)
  b_with_hour : Binds K A.d_with_hour ["plan", "barge", "hour"] []
  F_Choices___init__ : FunD K "__init__" "Choices.__init__" (defArgs s_Choices___init__) (defBody s_Choices___init__) (defScope s_Choices___init__) [] [] A.a_Choices___init__ A.d_Choices___init__
  b_Choices___init__ : Binds K A.d_Choices___init__ ["self", "book", "now"] []
  F_Choices_share : FunD K "share" "Choices.share" (defArgs s_Choices_share) (defBody s_Choices_share) (defScope s_Choices_share) [] [] A.a_Choices_share A.d_Choices_share
  m_Choices_share : Meth K A.c_Choices "share" A.a_Choices_share
  b_Choices_share : Binds K A.d_Choices_share ["self", "numbers"] []
  h_Choices_share : A.d_Choices_share.code = .ref A.k_Choices_share.1
  t_Choices_share : GxR.TabB base mg A.k_Choices_share.1 A.k_Choices_share.2
  F_Choices_worth_of : FunD K "worth_of" "Choices.worth_of" (defArgs s_Choices_worth_of) (defBody s_Choices_worth_of) (defScope s_Choices_worth_of) [] [] A.a_Choices_worth_of A.d_Choices_worth_of
  m_Choices_worth_of : Meth K A.c_Choices "worth_of" A.a_Choices_worth_of
  b_Choices_worth_of : Binds K A.d_Choices_worth_of ["self", "plan"] []
  F_Choices_better_hours : FunD K "better_hours" "Choices.better_hours" (defArgs s_Choices_better_hours) (defBody s_Choices_better_hours) (defScope s_Choices_better_hours) [] [] A.a_Choices_better_hours A.d_Choices_better_hours
  m_Choices_better_hours : Meth K A.c_Choices "better_hours" A.a_Choices_better_hours
  b_Choices_better_hours : Binds K A.d_Choices_better_hours ["self", "plan", "barge", "worth"] []
  F_table_for : FnP K "table_for" s_table_for A.a_table_for A.d_table_for
  g_table_for : mg "table_for" = some (.ref A.a_table_for)
  b_table_for : Binds K A.d_table_for ["choices", "plan", "worth"] []
  h_table_for : A.d_table_for.code = .ref A.k_table_for.1
  t_table_for : GxR.TabB base mg A.k_table_for.1 A.k_table_for.2
  F_groups : FnP K "groups" s_groups A.a_groups A.d_groups
  g_groups : mg "groups" = some (.ref A.a_groups)
  b_groups : Binds K A.d_groups ["choices", "start", "hour"] []
  F_taken : FnP K "taken" s_taken A.a_taken A.d_taken
  g_taken : mg "taken" = some (.ref A.a_taken)
  b_taken : Binds K A.d_taken ["told", "rest"] []
  h_taken : A.d_taken.code = .ref A.k_taken.1
  t_taken : GxR.TabB base mg A.k_taken.1 A.k_taken.2
  F_joined : FnP K "joined" s_joined A.a_joined A.d_joined
  g_joined : mg "joined" = some (.ref A.a_joined)
  b_joined : Binds K A.d_joined ["plan", "group", "hour"] []
  F_least : FnP K "least" s_least A.a_least A.d_least
  g_least : mg "least" = some (.ref A.a_least)
  b_least : Binds K A.d_least ["choices", "start", "now", "rank"] []
  F_best : FnP K "best" s_best A.a_best A.d_best
  g_best : mg "best" = some (.ref A.a_best)
  b_best : Binds K A.d_best ["book", "start", "now"] []
  h_best : A.d_best.code = .ref A.k_best.1
  t_best : GxR.TabB base mg A.k_best.1 A.k_best.2
  F__law_cell_at : FnP K "_law_cell_at" s__law_cell_at A.a__law_cell_at A.d__law_cell_at
  g__law_cell_at : mg "_law_cell_at" = some (.ref A.a__law_cell_at)
  b__law_cell_at : Binds K A.d__law_cell_at ["_law_script", "_law_k"] []
  F__law_dice : FnP K "_law_dice" s__law_dice A.a__law_dice A.d__law_dice
  g__law_dice : mg "_law_dice" = some (.ref A.a__law_dice)
  b__law_dice : Binds K A.d__law_dice ["_law_cell"] []
  F__law_roll : FnP K "_law_roll" s__law_roll A.a__law_roll A.d__law_roll
  g__law_roll : mg "_law_roll" = some (.ref A.a__law_roll)
  b__law_roll : Binds K A.d__law_roll ["_law_dice_here", "_law_most"] []
  F__law_river : FnP K "_law_river" s__law_river A.a__law_river A.d__law_river
  g__law_river : mg "_law_river" = some (.ref A.a__law_river)
  b__law_river : Binds K A.d__law_river ["_law_dice_here", "_law_many"] []
  F__law_time : FnP K "_law_time" s__law_time A.a__law_time A.d__law_time
  g__law_time : mg "_law_time" = some (.ref A.a__law_time)
  b__law_time : Binds K A.d__law_time ["_law_river_here", "_law_place", "_law_hour"] []
  F__law_barges : FnP K "_law_barges" s__law_barges A.a__law_barges A.d__law_barges
  g__law_barges : mg "_law_barges" = some (.ref A.a__law_barges)
  b__law_barges : Binds K A.d__law_barges ["_law_dice_here", "_law_river_here", "_law_many"] []
  F__law_book : FnP K "_law_book" s__law_book A.a__law_book A.d__law_book
  g__law_book : mg "_law_book" = some (.ref A.a__law_book)
  b__law_book : Binds K A.d__law_book ["_law_script", "_law_most"] []
  F__law_depth : FnP K "_law_depth" s__law_depth A.a__law_depth A.d__law_depth
  g__law_depth : mg "_law_depth" = some (.ref A.a__law_depth)
  b__law_depth : Binds K A.d__law_depth ["_law_river_here", "_law_stretch", "_law_time_here"] []
  F__law_alone : FnP K "_law_alone" s__law_alone A.a__law_alone A.d__law_alone
  g__law_alone : mg "_law_alone" = some (.ref A.a__law_alone)
  b__law_alone : Binds K A.d__law_alone ["_law_book_here", "_law_k", "_law_hour"] []
  F__law_hours : FnP K "_law_hours" s__law_hours A.a__law_hours A.d__law_hours
  g__law_hours : mg "_law_hours" = some (.ref A.a__law_hours)
  b__law_hours : Binds K A.d__law_hours ["_law_plan"] []
  F__law_full : FnP K "_law_full" s__law_full A.a__law_full A.d__law_full
  g__law_full : mg "_law_full" = some (.ref A.a__law_full)
  b__law_full : Binds K A.d__law_full ["_law_book_here", "_law_plan"] []
  F__law_crossed : FnP K "_law_crossed" s__law_crossed A.a__law_crossed A.d__law_crossed
  g__law_crossed : mg "_law_crossed" = some (.ref A.a__law_crossed)
  b__law_crossed : Binds K A.d__law_crossed ["_law_book_here", "_law_plan"] []
  F__law_refusals : FnP K "_law_refusals" s__law_refusals A.a__law_refusals A.d__law_refusals
  g__law_refusals : mg "_law_refusals" = some (.ref A.a__law_refusals)
  b__law_refusals : Binds K A.d__law_refusals ["_law_book_here", "_law_plan"] []
  F__law_price : FnP K "_law_price" s__law_price A.a__law_price A.d__law_price
  g__law_price : mg "_law_price" = some (.ref A.a__law_price)
  b__law_price : Binds K A.d__law_price ["_law_book_here", "_law_plan"] []
  F__law_put : FnP K "_law_put" s__law_put A.a__law_put A.d__law_put
  g__law_put : mg "_law_put" = some (.ref A.a__law_put)
  b__law_put : Binds K A.d__law_put ["_law_plan", "_law_k", "_law_hour"] []
  F__law_good : FnP K "_law_good" s__law_good A.a__law_good A.d__law_good
  g__law_good : mg "_law_good" = some (.ref A.a__law_good)
  b__law_good : Binds K A.d__law_good ["_law_dice_here", "_law_book_here", "_law_least", "_law_rest"] []
  F__law_every : FnP K "_law_every" s__law_every A.a__law_every A.d__law_every
  g__law_every : mg "_law_every" = some (.ref A.a__law_every)
  b__law_every : Binds K A.d__law_every ["_law_book_here", "_law_start", "_law_now"] []
  F__law_is_mended : FnP K "_law_is_mended" s__law_is_mended A.a__law_is_mended A.d__law_is_mended
  g__law_is_mended : mg "_law_is_mended" = some (.ref A.a__law_is_mended)
  b__law_is_mended : Binds K A.d__law_is_mended ["_law_made", "_law_start", "_law_now", "_law_most"] []
  F_law : FnP K "law" s_law A.a_law A.d_law
  c_HOURS : ∃ t, mg "HOURS" = some (.int 12 t)
  g_TowError : mg "TowError" = some (.ref A.c_TowError)
  g_BadBook : mg "BadBook" = some (.ref A.c_BadBook)
  e_BadBook : PySem.W.exmOne K (.ref A.c_BadBook) (.ref A.c_TowError) = some true
  cc_BadBook : ExcC K A.c_BadBook
  kv_BadBook : PySem.W.kitOne K (.ref A.c_BadBook) (.type "ValueError") = some true
  k_BadBook_BadBook : PySem.W.kitOne K (.ref A.c_BadBook) (.ref A.c_BadBook) = some true
  k_BadBook_BadPlan : PySem.W.kitOne K (.ref A.c_BadBook) (.ref A.c_BadPlan) = some false
  k_BadBook_NoPlan : PySem.W.kitOne K (.ref A.c_BadBook) (.ref A.c_NoPlan) = some false
  k_BadBook_Gone : PySem.W.kitOne K (.ref A.c_BadBook) (.ref A.c_Gone) = some false
  x_BadBook : PySem.W.excIn K A.c_BadBook [.type "ValueError", .type "Exception", .type "BaseException", .type "object"] "ValueError.__new__" = true
  kp_BadBook : PySem.W.keepIn K (.ref A.c_BadBook) = true
  sb_BadBook : PySem.W.subIn K (.ref A.c_BadBook) (.type "BaseException") = some true
  tp_BadBook : PySem.W.typeIn K (.ref A.c_BadBook) = some (.type "type")
  g_BadPlan : mg "BadPlan" = some (.ref A.c_BadPlan)
  e_BadPlan : PySem.W.exmOne K (.ref A.c_BadPlan) (.ref A.c_TowError) = some true
  cc_BadPlan : ExcC K A.c_BadPlan
  kv_BadPlan : PySem.W.kitOne K (.ref A.c_BadPlan) (.type "ValueError") = some true
  k_BadPlan_BadBook : PySem.W.kitOne K (.ref A.c_BadPlan) (.ref A.c_BadBook) = some false
  k_BadPlan_BadPlan : PySem.W.kitOne K (.ref A.c_BadPlan) (.ref A.c_BadPlan) = some true
  k_BadPlan_NoPlan : PySem.W.kitOne K (.ref A.c_BadPlan) (.ref A.c_NoPlan) = some false
  k_BadPlan_Gone : PySem.W.kitOne K (.ref A.c_BadPlan) (.ref A.c_Gone) = some false
  x_BadPlan : PySem.W.excIn K A.c_BadPlan [.type "ValueError", .type "Exception", .type "BaseException", .type "object"] "ValueError.__new__" = true
  kp_BadPlan : PySem.W.keepIn K (.ref A.c_BadPlan) = true
  sb_BadPlan : PySem.W.subIn K (.ref A.c_BadPlan) (.type "BaseException") = some true
  tp_BadPlan : PySem.W.typeIn K (.ref A.c_BadPlan) = some (.type "type")
  g_NoPlan : mg "NoPlan" = some (.ref A.c_NoPlan)
  e_NoPlan : PySem.W.exmOne K (.ref A.c_NoPlan) (.ref A.c_TowError) = some true
  cc_NoPlan : ExcC K A.c_NoPlan
  kv_NoPlan : PySem.W.kitOne K (.ref A.c_NoPlan) (.type "ValueError") = some true
  k_NoPlan_BadBook : PySem.W.kitOne K (.ref A.c_NoPlan) (.ref A.c_BadBook) = some false
  k_NoPlan_BadPlan : PySem.W.kitOne K (.ref A.c_NoPlan) (.ref A.c_BadPlan) = some false
  k_NoPlan_NoPlan : PySem.W.kitOne K (.ref A.c_NoPlan) (.ref A.c_NoPlan) = some true
  k_NoPlan_Gone : PySem.W.kitOne K (.ref A.c_NoPlan) (.ref A.c_Gone) = some false
  g_Gone : mg "Gone" = some (.ref A.c_Gone)
  e_Gone : PySem.W.exmOne K (.ref A.c_Gone) (.ref A.c_TowError) = some true
  cc_Gone : ExcC K A.c_Gone
  kv_Gone : PySem.W.kitOne K (.ref A.c_Gone) (.type "ValueError") = some true
  k_Gone_BadBook : PySem.W.kitOne K (.ref A.c_Gone) (.ref A.c_BadBook) = some false
  k_Gone_BadPlan : PySem.W.kitOne K (.ref A.c_Gone) (.ref A.c_BadPlan) = some false
  k_Gone_NoPlan : PySem.W.kitOne K (.ref A.c_Gone) (.ref A.c_NoPlan) = some false
  k_Gone_Gone : PySem.W.kitOne K (.ref A.c_Gone) (.ref A.c_Gone) = some true
  x_Gone : PySem.W.excIn K A.c_Gone [.type "ValueError", .type "Exception", .type "BaseException", .type "object"] "ValueError.__new__" = true
  kp_Gone : PySem.W.keepIn K (.ref A.c_Gone) = true
  sb_Gone : PySem.W.subIn K (.ref A.c_Gone) (.type "BaseException") = some true
  tp_Gone : PySem.W.typeIn K (.ref A.c_Gone) = some (.type "type")
  np_NoPlan : NP.NpC K A.c_NoPlan A.c_TowError A.a_NoPlan___init__
  g_WORST : mg "WORST" = some (.ref A.w_WORST)
  t_WORST : ∀ H, SqT K H A.w_WORST [.int 13, .int 0]
  g_Choices : mg "Choices" = some (.ref A.c_Choices)
  cls_Choices : Cls K A.c_Choices
  mk_Choices : Mk K A.c_Choices A.a_Choices___init__
  na_Choices_book : NoAttr K A.c_Choices "book"
  na_Choices_waits : NoAttr K A.c_Choices "waits"
  na_Choices_alone : NoAttr K A.c_Choices "alone"
  na_Choices_sharing : NoAttr K A.c_Choices "sharing"
  n_all : mg "all" = none
  n_bool : mg "bool" = none
  n_case : mg "case" = none
  n_enumerate : mg "enumerate" = none
  n_found : mg "found" = none
  n_int : mg "int" = none
  n_isinstance : mg "isinstance" = none
  n_len : mg "len" = none
  n_list : mg "list" = none
  n_max : mg "max" = none
  n_min : mg "min" = none
  n_range : mg "range" = none
  n_sorted : mg "sorted" = none
  n_sum : mg "sum" = none
  n_tuple : mg "tuple" = none

def Tabs (A : Ad) (H : Hp) : Prop := TabG H A.k_is_stretch.2 ∧ TabG H A.k_check_book.2 ∧ TabG H A.k_check_plan.2 ∧ TabG H A.k_arrival.2 ∧ TabG H A.k_standing.2 ∧ TabG H A.k_without.2 ∧ TabG H A.k_Choices_share.2 ∧ TabG H A.k_taken.2
theorem Tabs.ext {A : Ad} {ex : List Addr} {H H1 : Hp} (h : Tabs A H) (e : Ext ex H H1) : Tabs A H1 := ⟨e.tabG h.1, e.tabG h.2.1, e.tabG h.2.2.1, e.tabG h.2.2.2.1, e.tabG h.2.2.2.2.1, e.tabG h.2.2.2.2.2.1, e.tabG h.2.2.2.2.2.2.1, e.tabG h.2.2.2.2.2.2.2⟩
theorem Tabs.is_stretch {A : Ad} {H : Hp} (h : Tabs A H) : TabG H A.k_is_stretch.2 := h.1
theorem Tabs.check_book {A : Ad} {H : Hp} (h : Tabs A H) : TabG H A.k_check_book.2 := h.2.1
theorem Tabs.check_plan {A : Ad} {H : Hp} (h : Tabs A H) : TabG H A.k_check_plan.2 := h.2.2.1
theorem Tabs.arrival {A : Ad} {H : Hp} (h : Tabs A H) : TabG H A.k_arrival.2 := h.2.2.2.1
theorem Tabs.standing {A : Ad} {H : Hp} (h : Tabs A H) : TabG H A.k_standing.2 := h.2.2.2.2.1
theorem Tabs.without {A : Ad} {H : Hp} (h : Tabs A H) : TabG H A.k_without.2 := h.2.2.2.2.2.1
theorem Tabs.Choices_share {A : Ad} {H : Hp} (h : Tabs A H) : TabG H A.k_Choices_share.2 := h.2.2.2.2.2.2.1
theorem Tabs.taken {A : Ad} {H : Hp} (h : Tabs A H) : TabG H A.k_taken.2 := h.2.2.2.2.2.2.2
structure LTabs (A : Ad) (H : Hp) : Prop where
  table_for : LM.TabL H A.k_table_for.2 (("table_for" : Str) ++ ".<locals>." ++ "<lambda>")
  best : LM.TabL H A.k_best.2 (("best" : Str) ++ ".<locals>." ++ "<lambda>")
  ne_table_for_best : A.k_table_for.2 ≠ A.k_best.2
structure LTabE (A : Ad) (H : Hp) : Prop where
  table_for : ∃ ps, H A.k_table_for.2 = some (LM.TabE A.k_table_for.2 ps) ∧ True
  best : ∃ ps, H A.k_best.2 = some (LM.TabE A.k_best.2 ps) ∧ True
theorem LTabs.ext {A : Ad} {H H1 : Hp} (h : LTabs A H) (e : Ext [] H H1) : LTabs A H1 := ⟨h.table_for.keep e (by simp) (by simp), h.best.keep e (by simp) (by simp), h.ne_table_for_best⟩
theorem LTabs.grow_table_for {A : Ad} {ex : List Addr} {H H1 : Hp} (h : LTabs A H) (e : Ext ex H H1) (hx : ∀ b ∈ ex, b = A.k_table_for.2 ∨ ∀ φ, H b ≠ some (.ext φ)) (T : LM.TabL H1 A.k_table_for.2 (("table_for" : Str) ++ ".<locals>." ++ "<lambda>")) : LTabs A H1 := ⟨T, h.best.keepT e (fun z => (hx _ z).elim (fun z => h.ne_table_for_best z.symm) fun z => (let ⟨_, y, _⟩ := h.best; z _ y)) (fun b hb => (hx b hb).elim (fun z => .inl ⟨_, z ▸ h.table_for⟩) .inr), h.ne_table_for_best⟩
theorem LTabs.grow_best {A : Ad} {ex : List Addr} {H H1 : Hp} (h : LTabs A H) (e : Ext ex H H1) (hx : ∀ b ∈ ex, b = A.k_best.2 ∨ ∀ φ, H b ≠ some (.ext φ)) (T : LM.TabL H1 A.k_best.2 (("best" : Str) ++ ".<locals>." ++ "<lambda>")) : LTabs A H1 := ⟨h.table_for.keepT e (fun z => (hx _ z).elim (fun z => h.ne_table_for_best z) fun z => (let ⟨_, y, _⟩ := h.table_for; z _ y)) (fun b hb => (hx b hb).elim (fun z => .inl ⟨_, z ▸ h.best⟩) .inr), T, h.ne_table_for_best⟩
section
variable {P : Program} {w : World} {A : Ad} {K : PySem.W.Frag} {mg : Str → Option Value} {base : Heap}
def spNpInit (A : Ad) : Sp := fun vs H Q _ => ∃ (a : Addr) (v : V), vs = [.ref a, v] ∧ H a = some (exo a A.c_NoPlan none) ∧ ∀ dx, H dx = none → dx ≠ a → Q .non (upd (upd H dx (exd dx [("table", v)])) a (exo a A.c_NoPlan (some dx)))
theorem ok_NoPlan___init__ (T : Facts A K mg base) : FnOk P w K mg base CX0 1 A.a_NoPlan___init__ A.d_NoPlan___init__ ["self", "table"] (spNpInit A) := by
  refine T.F_NoPlan___init__.ok sc_NoPlan___init__ (fun vs H Q E h => ?_) (fun cdv A1 outer s H vs Q E hr h => ?_)
  · obtain ⟨a, v, rfl, _⟩ := h
    rfl
  · obtain ⟨a, v, rfl, ha, q⟩ := h
    refine ⟨_, PSs.nox (pss_cons (ps_expr (NP.pe_oinit (by rfl) T.g_TowError T.np_NoPlan.rd T.np_NoPlan.ga T.np_NoPlan.ti (pa_cons (pv 0) (pa_cons pe_str pa_nil))))
      (pss_one (ps_ost (pv 0) (pv 1)))), ?_⟩
    refine ⟨_, rfl, a, A.c_NoPlan, _, rfl, by simp, T.np_NoPlan.ox, ha, ?_⟩
    exact ⟨_, rfl, _, rfl, a, A.c_NoPlan, rfl, T.np_NoPlan.ox, T.np_NoPlan.tab, .inl ⟨ha, fun dx hdx ne => q dx hdx ne⟩⟩

def spIsNumber : Sp := fun vs H Q _ => ∃ v lo hi : Int, vs = [.int v, .int lo, .int hi] ∧ lo ≤ v ∧ v ≤ hi ∧ Q (.bl true) H
theorem ok_is_number (T : Facts A K mg base) : FnOk P w K mg base CX0 1 A.a_is_number A.d_is_number ["value", "least", "most"] (spIsNumber) := by
  refine T.F_is_number.ok sc_is_number (fun vs H Q E h => ?_) (fun cdv A1 outer s H vs Q E hr h => ?_)
  · obtain ⟨v, lo, hi, rfl, _⟩ := h
    rfl
  · obtain ⟨v, lo, hi, rfl, h1, h2, q⟩ := h
    refine ⟨_, PSs.nox (pss_cons (ps_if (PW.pt (pw_or (pt_val (pe_callB call_isi (by rfl) T.n_isinstance PyProof.Rows.boot_isinstance (pa_cons (pv 0) (pa_cons (pe_bltn (v := .ty "bool") (by rfl) T.n_bool (by decide +kernel) rfl) pa_nil)))) (pw_or1 (pt_not (pt_val (pe_callB call_isi (by rfl) T.n_isinstance PyProof.Rows.boot_isinstance (pa_cons (pv 0) (pa_cons (pe_bltn (v := .ty "int") (by rfl) T.n_int (by decide +kernel) rfl) pa_nil)))))))) (pss_one (ps_ret pe_bl)) pss_nil)
      (pss_one (ps_ret (pe_chain op_le op_le (pv 1) (pv 0) (pv 2))))), ?_⟩
    refine ⟨.int v, rfl, tc1 (isi_ib ⟨_, rfl, iteF ⟨.int v, rfl, tc1 (isi_ii ⟨_, rfl, iteF ?_⟩)⟩⟩)⟩
    refine ⟨.int lo, rfl, .int v, rfl, _, _, rfl, rfl, _, rfl, iteD h1 ⟨.int hi, rfl, _, _, rfl, rfl, ?_⟩⟩
    show Q (.bl (decide (v ≤ hi))) H
    rw [decide_eq_true h2]
    exact q

def spnIsNumber : Sp := fun vs H Q _ => ∃ (v : V) (lo hi : Int), vs = [v, .int lo, .int hi] ∧ Sca v ∧ Q (.bl (numB lo hi v)) H
theorem okn_is_number (T : Facts A K mg base) : FnOk P w K mg base CX0 1 A.a_is_number A.d_is_number ["value", "least", "most"] (spnIsNumber) := by
  refine T.F_is_number.ok sc_is_number (fun vs H Q E h => ?_) (fun cdv A1 outer s H vs Q E hr h => ?_)
  · obtain ⟨v, lo, hi, rfl, _⟩ := h
    rfl
  · obtain ⟨v, lo, hi, rfl, sc, q⟩ := h
    refine ⟨_, PSs.nox (pss_cons (ps_if (PW.pt (pw_or (pt_val (pe_callB call_isi (by rfl) T.n_isinstance PyProof.Rows.boot_isinstance (pa_cons (pv 0) (pa_cons (pe_bltn (v := .ty "bool") (by rfl) T.n_bool (by decide +kernel) rfl) pa_nil)))) (pw_or1 (pt_not (pt_val (pe_callB call_isi (by rfl) T.n_isinstance PyProof.Rows.boot_isinstance (pa_cons (pv 0) (pa_cons (pe_bltn (v := .ty "int") (by rfl) T.n_int (by decide +kernel) rfl) pa_nil)))))))) (pss_one (ps_ret pe_bl)) pss_nil)
      (pss_one (ps_ret (pe_chain op_le op_le (pv 1) (pv 0) (pv 2))))), ?_⟩
    cases sc with
    | int v =>
      refine ⟨.int v, rfl, tc1 (isi_ib ⟨_, rfl, iteF ⟨.int v, rfl, tc1 (isi_ii ⟨_, rfl, iteF ?_⟩)⟩⟩)⟩
      refine ⟨.int lo, rfl, .int v, rfl, _, _, rfl, rfl, _, rfl, ?_⟩
      by_cases h1 : lo ≤ v
      · refine iteD h1 ⟨.int hi, rfl, _, _, rfl, rfl, ?_⟩
        have e : numB lo hi (.int v) = decide (v ≤ hi) := by
          show (decide (lo ≤ v) && decide (v ≤ hi)) = _
          rw [decide_eq_true h1, Bool.true_and]
        rw [e] at q
        exact q
      · refine iteDn h1 ?_
        have e : numB lo hi (.int v) = false := by
          show (decide (lo ≤ v) && decide (v ≤ hi)) = _
          rw [decide_eq_false h1, Bool.false_and]
        rw [e] at q
        exact q
    | bl b => exact ⟨_, rfl, tc1 (isi_bb ⟨_, rfl, iteT q⟩)⟩
    | str z => exact ⟨_, rfl, tc1 (isi_sb ⟨_, rfl, iteF ⟨_, rfl, tc1 (isi_si ⟨_, rfl, iteT q⟩)⟩⟩)⟩
    | non => exact ⟨_, rfl, tc1 (isi_nb ⟨_, rfl, iteF ⟨_, rfl, tc1 (isi_ni ⟨_, rfl, iteT q⟩)⟩⟩)⟩

def spIsRow (K : PySem.W.Frag) : Sp := fun vs H Q _ => ∃ (a : Addr) (xs : List V) (lo hi : Int), vs = [.ref a, .int lo, .int hi] ∧ SqT K H a xs ∧ lo ≤ (xs.length : Int) ∧ (xs.length : Int) ≤ hi ∧ Q (.bl true) H
theorem ok_is_row (T : Facts A K mg base) : FnOk P w K mg base CX0 1 A.a_is_row A.d_is_row ["value", "least", "most"] (spIsRow K) := by
  refine T.F_is_row.ok sc_is_row (fun vs H Q E h => ?_) (fun cdv A1 outer s H vs Q E hr h => ?_)
  · obtain ⟨a, xs, lo, hi, rfl, _⟩ := h
    rfl
  · obtain ⟨a, xs, lo, hi, rfl, t, h1, h2, q⟩ := h
    refine ⟨_, PSs.nox (pss_one (ps_ret (pe_and (pe_callB call_isi (by rfl) T.n_isinstance PyProof.Rows.boot_isinstance (pa_cons (pv 0) (pa_cons (pe_bltn (v := .ty "tuple") (by rfl) T.n_tuple (by decide +kernel) rfl) pa_nil))) (pe_one (pe_chain op_le op_le (pv 1) (pe_callB call_len_seq (by rfl) T.n_len PySem.boot_len (pa_cons (pv 0) pa_nil)) (pv 2)))))), ?_⟩
    refine ⟨.ref a, rfl, tc1 (isi_tt t ⟨_, rfl, iteT ?_⟩)⟩
    refine ⟨.int lo, rfl, .ref a, rfl, a, _, rfl, .inr t, _, _, rfl, rfl, _, rfl, iteD h1 ⟨.int hi, rfl, _, _, rfl, rfl, ?_⟩⟩
    show Q (.bl (decide ((xs.length : Int) ≤ hi))) H
    rw [decide_eq_true h2]
    exact q

def spIsStretch (A : Ad) (K : PySem.W.Frag) : Sp := fun vs H Q _ => ∃ (v : V) (s : Stretch), vs = [v] ∧ IsStretch K H v s ∧ s.Ok ∧ Tabs A H ∧ ∀ H', Ext [] H H' → Q (.bl true) H'
theorem ok_is_stretch (T : Facts A K mg base) : FnOk P w K mg base CX0 3 A.a_is_stretch A.d_is_stretch ["value"] (spIsStretch A K) := by
  refine GX.okT T.F_is_stretch T.h_is_stretch sc_is_stretch (fun vs H Q E h => ?_) (fun A1 outer s H vs Q E hr h => ?_)
  · obtain ⟨v, s, rfl, _⟩ := h
    rfl
  · obtain ⟨v, st, rfl, ⟨a, d, rfl, t1, t2⟩, ok, tb, q⟩ := h
    refine ⟨_, PSs.nox (pss_cons (ps_if (pt_not (pt_val (pe_call (ok_is_row T) (hr.mono (by decide)) (by rfl) T.g_is_row T.F_is_row.kp T.b_is_row .nil pass0 (pa_cons (pv 0) (pa_cons pe_int (pa_cons pe_int pa_nil)))))) (pss_one (ps_ret pe_bl)) pss_nil)
      (pss_cons (ps_asg (pv 0) (pg_tup (by rfl) (pgs_cons (pg_name (i := 1) sc_is_stretch.nd rfl (Or.inl rfl)) (pgs_cons (pg_name (i := 2) sc_is_stretch.nd rfl (Or.inl rfl)) (pgs_cons (pg_name (i := 3) sc_is_stretch.nd rfl (Or.inl rfl)) pgs_nil)))))
      (pss_cons (ps_if (PW.pt (pw_or (pt_not (pt_val (pe_call (ok_is_number T) (hr.mono (by decide)) (by rfl) T.g_is_number T.F_is_number.kp T.b_is_number .nil pass0 (pa_cons (pv 1) (pa_cons pe_int (pa_cons pe_int pa_nil)))))) (pw_or1 (pt_not (pt_val (pe_call (ok_is_number T) (hr.mono (by decide)) (by rfl) T.g_is_number T.F_is_number.kp T.b_is_number .nil pass0 (pa_cons (pv 2) (pa_cons pe_int (pa_cons pe_int pa_nil))))))))) (pss_one (ps_ret pe_bl)) pss_nil)
      (pss_one (ps_ret (pe_and (pe_call (ok_is_row T) (hr.mono (by decide)) (by rfl) T.g_is_row T.F_is_row.kp T.b_is_row .nil pass0 (pa_cons (pv 3) (pa_cons pe_int (pa_cons pe_int pa_nil)))) (pe_one (GX.pe_allG (own := [("depth", 4)]) (g := (gName 4)) hr (by rfl) T.n_all T.t_is_stretch rfl (GX.genOk_by (own := [("depth", 4)]) (N := ["value", "hours", "room", "depths", "depth"]) (sc := defScope s_is_stretch) (by decide +kernel)) sc_is_stretch.nd (pi_tup (pv 3)) (fun _ _ _ _ _ _ _ => (pg_name (i := 4) sc_is_stretch.nd rfl (Or.inl rfl))) (fun _ _ _ _ _ _ _ => pts_nil) (fun _ _ _ _ _ _ _ => (pe_call (ok_is_number T) ((GX.room_gcx hr).mono (by decide)) (by rfl) T.g_is_number T.F_is_number.kp T.b_is_number .nil pass0 (pa_cons (pv 4) (pa_cons pe_int (pa_cons pe_int pa_nil))))))))))))), ?_⟩
    refine ⟨.ref a, rfl, a, _, _, _, rfl, t1, by simp, by simp, _, rfl, iteF ?_⟩
    refine ⟨.ref a, rfl, a, _, rfl, t1, rfl, _, _, rfl, _, _, rfl, _, _, rfl, rfl, ?_⟩
    refine ⟨_, rfl, _, _, _, rfl, ok.h1, ok.h9, _, rfl, iteF ⟨_, rfl, _, _, _, rfl, ok.r1, ok.r9, _, rfl, iteF ?_⟩⟩
    refine ⟨_, rfl, d, _, _, _, rfl, t2, by rw [List.length_map]; exact Int.ofNat_le.mpr ok.d1, by rw [List.length_map]; exact Int.ofNat_le.mpr ok.d24, _, rfl, iteT ?_⟩
    refine ⟨.ref d, rfl, d, rfl, ⟨_, t2⟩, all_tup (xs := st.ds.map V.int) tb.is_stretch (fun _ H2 => Ext [] H H2) (fun H2 hT => Ext.tab tb.is_stretch hT) (fun _ _ _ e => e.sqT t2) (fun i x H2 hx e => ?_) (fun H2 e => q H2 e)⟩
    obtain ⟨y, hy, rfl⟩ := map_get hx
    have oy := ok.ds y (List.mem_of_getElem? hy)
    exact ⟨rfl, _, rfl, _, _, _, rfl, oy.1, oy.2, true, rfl, iteT e⟩

def spIsReady : Sp := fun vs H Q _ => ∃ v : Int, vs = [.int v] ∧ 0 ≤ v ∧ v ≤ 99 ∧ Q (.bl true) H
theorem ok_is_ready (T : Facts A K mg base) : FnOk P w K mg base CX0 2 A.a_is_ready A.d_is_ready ["value"] (spIsReady) := by
  refine T.F_is_ready.ok sc_is_ready (fun vs H Q E h => ?_) (fun cdv A1 outer s H vs Q E hr h => ?_)
  · obtain ⟨v, rfl, _⟩ := h
    rfl
  · obtain ⟨v, rfl, h1, h2, q⟩ := h
    refine ⟨_, PSs.nox (pss_one (ps_ret (pe_call (ok_is_number T) (hr.mono (by decide)) (by rfl) T.g_is_number T.F_is_number.kp T.b_is_number .nil pass0 (pa_cons (pv 0) (pa_cons pe_int (pa_cons pe_int pa_nil)))))), ?_⟩
    exact ⟨_, rfl, _, _, _, rfl, h1, h2, q⟩

def spnIsReady : Sp := fun vs H Q _ => ∃ v : V, vs = [v] ∧ Sca v ∧ Q (.bl (numB 0 99 v)) H
theorem okn_is_ready (T : Facts A K mg base) : FnOk P w K mg base CX0 2 A.a_is_ready A.d_is_ready ["value"] (spnIsReady) := by
  refine T.F_is_ready.ok sc_is_ready (fun vs H Q E h => ?_) (fun cdv A1 outer s H vs Q E hr h => ?_)
  · obtain ⟨v, rfl, _⟩ := h
    rfl
  · obtain ⟨v, rfl, sc, q⟩ := h
    refine ⟨_, PSs.nox (pss_one (ps_ret (pe_call (okn_is_number T) (hr.mono (by decide)) (by rfl) T.g_is_number T.F_is_number.kp T.b_is_number .nil pass0 (pa_cons (pv 0) (pa_cons pe_int (pa_cons pe_int pa_nil)))))), ?_⟩
    exact ⟨_, rfl, _, _, _, rfl, sc, q⟩

def spIsBarge (K : PySem.W.Frag) : Sp := fun vs H Q _ => ∃ (v : V) (b : Barge) (n : Nat), vs = [v, .int (n : Int)] ∧ IsBarge K H v b ∧ b.Ok n ∧ Q (.bl true) H
theorem ok_is_barge (T : Facts A K mg base) : FnOk P w K mg base CX0 3 A.a_is_barge A.d_is_barge ["value", "last"] (spIsBarge K) := by
  refine T.F_is_barge.ok sc_is_barge (fun vs H Q E h => ?_) (fun cdv A1 outer s H vs Q E hr h => ?_)
  · obtain ⟨v, b, n, rfl, _⟩ := h
    rfl
  · obtain ⟨v, b, n, rfl, ⟨a, rfl, t1⟩, ok, q⟩ := h
    refine ⟨_, PSs.nox (pss_cons (ps_if (pt_not (pt_val (pe_call (ok_is_row T) (hr.mono (by decide)) (by rfl) T.g_is_row T.F_is_row.kp T.b_is_row .nil pass0 (pa_cons (pv 0) (pa_cons pe_int (pa_cons pe_int pa_nil)))))) (pss_one (ps_ret pe_bl)) pss_nil)
      (pss_cons (ps_asg (pv 0) (pg_tup (by rfl) (pgs_cons (pg_name (i := 2) sc_is_barge.nd rfl (Or.inl rfl)) (pgs_cons (pg_name (i := 3) sc_is_barge.nd rfl (Or.inl rfl)) (pgs_cons (pg_name (i := 4) sc_is_barge.nd rfl (Or.inl rfl)) (pgs_cons (pg_name (i := 5) sc_is_barge.nd rfl (Or.inl rfl)) (pgs_cons (pg_name (i := 6) sc_is_barge.nd rfl (Or.inl rfl)) pgs_nil)))))))
      (pss_cons (ps_if (PW.pt (pw_or (pt_not (pt_val (pe_call (ok_is_number T) (hr.mono (by decide)) (by rfl) T.g_is_number T.F_is_number.kp T.b_is_number .nil pass0 (pa_cons (pv 2) (pa_cons pe_int (pa_cons (pv 1) pa_nil)))))) (pw_or (pt_not (pt_val (pe_call (ok_is_number T) (hr.mono (by decide)) (by rfl) T.g_is_number T.F_is_number.kp T.b_is_number .nil pass0 (pa_cons (pv 3) (pa_cons pe_int (pa_cons (pv 1) pa_nil)))))) (pw_or1 (pt_cmpR op_ge (pv 2) (pv 3) (nomark _)))))) (pss_one (ps_ret pe_bl)) pss_nil)
      (pss_one (ps_ret (pe_and (pe_call (ok_is_number T) (hr.mono (by decide)) (by rfl) T.g_is_number T.F_is_number.kp T.b_is_number .nil pass0 (pa_cons (pv 4) (pa_cons pe_int (pa_cons pe_int pa_nil)))) (pe_and (pe_call (ok_is_ready T) (hr.mono (by decide)) (by rfl) T.g_is_ready T.F_is_ready.kp T.b_is_ready .nil pass0 (pa_cons (pv 5) pa_nil)) (pe_one (pe_call (ok_is_number T) (hr.mono (by decide)) (by rfl) T.g_is_number T.F_is_number.kp T.b_is_number .nil pass0 (pa_cons (pv 6) (pa_cons pe_int (pa_cons pe_int pa_nil)))))))))))), ?_⟩
    have := ok.b0
    have := ok.bg
    have := ok.gn
    refine ⟨.ref a, rfl, a, _, _, _, rfl, t1, by simp, by simp, _, rfl, iteF ?_⟩
    refine ⟨.ref a, rfl, a, _, rfl, t1, rfl, _, _, rfl, _, _, rfl, _, _, rfl, _, _, rfl, _, _, rfl, rfl, ?_⟩
    refine ⟨_, rfl, _, rfl, _, _, _, rfl, ok.b0, by omega, _, rfl, iteF ⟨_, rfl, _, rfl, _, _, _, rfl, by omega, ok.gn, _, rfl, iteF ⟨_, rfl, _, rfl, _, _, rfl, rfl, _, rfl, iteDn (by omega) ?_⟩⟩⟩
    refine ⟨_, rfl, _, _, _, rfl, ok.d1, ok.d99, _, rfl, iteT ⟨_, rfl, _, rfl, ok.r0, ok.r99, _, rfl, iteT ⟨_, rfl, _, _, _, rfl, ok.u0, ok.u199, q⟩⟩⟩

def spCheckBook (A : Ad) (K : PySem.W.Frag) : Sp := fun vs H Q _ => ∃ (v : V) (k : Book), vs = [v] ∧ IsBook K H v k ∧ k.Ok ∧ Tabs A H ∧ ∀ H', Ext [] H H' → Q .non H'
theorem ok_check_book (T : Facts A K mg base) : FnOk P w K mg base CX0 5 A.a_check_book A.d_check_book ["book"] (spCheckBook A K) := by
  refine GX.okT T.F_check_book T.h_check_book sc_check_book (fun vs H Q E h => ?_) (fun A1 outer s H vs Q E hr h => ?_)
  · obtain ⟨v, k, rfl, _⟩ := h
    rfl
  · obtain ⟨v, k, rfl, ⟨a, r, b, rfl, t0, ⟨ra, rs, rfl, t1, pr⟩, ⟨ba, bs, rfl, t2, pb⟩⟩, ok, tb, q⟩ := h
    refine ⟨_, PSs.nox (pss_cons (ps_if (pt_not (pt_val (pe_call (ok_is_row T) (hr.mono (by decide)) (by rfl) T.g_is_row T.F_is_row.kp T.b_is_row .nil pass0 (pa_cons (pv 0) (pa_cons pe_int (pa_cons pe_int pa_nil)))))) (pss_one ps_never) pss_nil)
      (pss_cons (ps_asg (pv 0) (pg_tup (by rfl) (pgs_cons (pg_name (i := 1) sc_check_book.nd rfl (Or.inl rfl)) (pgs_cons (pg_name (i := 2) sc_check_book.nd rfl (Or.inl rfl)) pgs_nil))))
      (pss_cons (ps_if (PW.pt (pw_or (pt_not (pt_val (pe_call (ok_is_row T) (hr.mono (by decide)) (by rfl) T.g_is_row T.F_is_row.kp T.b_is_row .nil pass0 (pa_cons (pv 1) (pa_cons pe_int (pa_cons pe_int pa_nil)))))) (pw_or1 (pt_not (pt_val (GX.pe_allG (own := [("stretch", 3)]) (g := (gName 3)) hr (by rfl) T.n_all T.t_check_book rfl (GX.genOk_by (own := [("stretch", 3)]) (N := ["book", "stretches", "barges", "stretch", "last", "barge"]) (sc := defScope s_check_book) (by decide +kernel)) sc_check_book.nd (pi_tup (pv 1)) (fun _ _ _ _ _ _ _ => (pg_name (i := 3) sc_check_book.nd rfl (Or.inl rfl))) (fun _ _ _ _ _ _ _ => pts_nil) (fun _ _ _ _ _ _ _ => (pe_call (ok_is_stretch T) ((GX.room_gcx hr).mono (by decide)) (by rfl) T.g_is_stretch T.F_is_stretch.kp T.b_is_stretch .nil pass0 (pa_cons (pv 3) pa_nil))))))))) (pss_one ps_never) pss_nil)
      (pss_cons (ps_set (i := 4) sc_check_book.nd rfl (by first | exact Or.inr rfl | exact Or.inl rfl) (pe_callB call_len_seq (by rfl) T.n_len PySem.boot_len (pa_cons (pv 1) pa_nil)))
      (pss_one (ps_if (PW.pt (pw_or (pt_not (pt_val (pe_call (ok_is_row T) (hr.mono (by decide)) (by rfl) T.g_is_row T.F_is_row.kp T.b_is_row .nil pass0 (pa_cons (pv 2) (pa_cons pe_int (pa_cons pe_int pa_nil)))))) (pw_or1 (pt_not (pt_val (GX.pe_allG (own := [("barge", 5)]) (g := (gName 5)) hr (by rfl) T.n_all T.t_check_book rfl (GX.genOk_by (own := [("barge", 5)]) (N := ["book", "stretches", "barges", "stretch", "last", "barge"]) (sc := defScope s_check_book) (by decide +kernel)) sc_check_book.nd (pi_tup (pv 2)) (fun _ _ _ _ _ _ _ => (pg_name (i := 5) sc_check_book.nd rfl (Or.inl rfl))) (fun _ _ _ _ _ _ _ => pts_nil) (fun _ _ _ _ _ _ _ => (pe_call (ok_is_barge T) ((GX.room_gcx hr).mono (by decide)) (by rfl) T.g_is_barge T.F_is_barge.kp T.b_is_barge .nil pass0 (pa_cons (pv 5) (pa_cons (pv 4) pa_nil)))))))))) (pss_one ps_never) pss_nil)))))), ?_⟩
    have l1 := plen pr
    have l2 := plen pb
    have n1 := ok.rv.n1
    have n8 := ok.rv.n8
    have n7 := ok.n7
    refine ⟨.ref a, rfl, a, _, _, _, rfl, t0, by simp, by simp, _, rfl, iteF ?_⟩
    refine ⟨.ref a, rfl, a, _, rfl, t0, rfl, _, _, rfl, _, _, rfl, rfl, ?_⟩
    refine ⟨_, rfl, ra, _, _, _, rfl, t1, by omega, by omega, _, rfl, iteF ?_⟩
    refine tNot_ (tB_ (all_var (xs := rs) rfl t1 tb.check_book (fun _ H2 => Ext [] H H2) (fun H2 hT => Ext.tab tb.check_book hT) (fun _ _ _ e => e.sqT t1) (fun i x H2 hx e => ?_) (fun H2 e => ?_)))
    · obtain ⟨s1, hs1, is1⟩ := pget pr hx
      exact ⟨rfl, _, rfl, _, s1, rfl, e.stretch is1, ok.rv.ok s1 (List.mem_of_getElem? hs1), tb.ext e, fun H3 e3 => ⟨true, rfl, iteT (e.trans e3)⟩⟩
    refine ⟨_, rfl, iteF ?_⟩
    refine ⟨_, rfl, ra, _, rfl, .inr (e.sqT t1), ?_⟩
    refine ⟨_, rfl, ba, _, _, _, rfl, e.sqT t2, by omega, by omega, _, rfl, iteF ?_⟩
    refine tNot_ (tB_ (all_var (xs := bs) rfl (e.sqT t2) (tb.ext e).check_book (fun _ H3 => Ext [] H H3) (fun H3 hT => e.trans (Ext.tab (tb.ext e).check_book hT)) (fun _ _ _ e => e.sqT t2) (fun i x H3 hx e3 => ?_) (fun H3 e3 => ?_)))
    · obtain ⟨s1, hs1, is1⟩ := pget pb hx
      exact ⟨rfl, _, rfl, _, rfl, _, s1, rs.length, rfl, e3.barge is1, by rw [l1]; exact ok.ok s1 (List.mem_of_getElem? hs1), true, rfl, iteT e3⟩
    exact ⟨_, rfl, iteF (q H3 e3)⟩

def spCheckPlan (A : Ad) (K : PySem.W.Frag) : Sp := fun vs H Q _ => ∃ (v u : V) (k : Book) (pl : List (Option Int)), vs = [v, u] ∧ IsBook K H v k ∧ k.Ok ∧ IsPlan K H u pl ∧ PlOk k.bs.length pl ∧ Tabs A H ∧ ∀ H', Ext [] H H' → Q .non H'
theorem ok_check_plan (T : Facts A K mg base) : FnOk P w K mg base CX0 6 A.a_check_plan A.d_check_plan ["book", "plan"] (spCheckPlan A K) := by
  refine GX.okT T.F_check_plan T.h_check_plan sc_check_plan (fun vs H Q E h => ?_) (fun A1 outer s H vs Q E hr h => ?_)
  · obtain ⟨v, u, k, pl, rfl, _⟩ := h
    rfl
  · obtain ⟨v, u, k, pl, rfl, ib, ok, ⟨pa, rfl, tp⟩, okp, tb, q⟩ := h
    obtain ⟨ct_HOURS, c_HOURS⟩ := T.c_HOURS
    refine ⟨_, PSs.nox (pss_cons (ps_expr (pe_call (ok_check_book T) (hr.mono (by decide)) (by rfl) T.g_check_book T.F_check_book.kp T.b_check_book .nil pass0 (pa_cons (pv 0) pa_nil)))
      (pss_cons (ps_set (i := 2) sc_check_plan.nd rfl (Or.inl rfl) (pe_callB call_len_seq (by rfl) T.n_len PySem.boot_len (pa_cons (pe_ix ix_seq (pv 0) pe_int (fun _ _ => rfl)) pa_nil)))
      (pss_cons (ps_if (pt_not (pt_val (pe_call (ok_is_row T) (hr.mono (by decide)) (by rfl) T.g_is_row T.F_is_row.kp T.b_is_row .nil pass0 (pa_cons (pv 1) (pa_cons (pv 2) (pa_cons (pv 2) pa_nil)))))) (pss_one ps_never) pss_nil)
      (pss_one (ps_if (pt_not (pt_val (GX.pe_allG (own := [("hour", 3)]) (g := (gName 3)) hr (by rfl) T.n_all T.t_check_plan rfl (GX.genOk_by (own := [("hour", 3)]) (N := ["book", "plan", "many", "hour"]) (sc := defScope s_check_plan) (by decide +kernel)) sc_check_plan.nd (pi_tup (pv 1)) (fun _ _ _ _ _ _ _ => (pg_name (i := 3) sc_check_plan.nd rfl (Or.inl rfl))) (fun _ _ _ _ _ _ _ => pts_nil) (fun _ _ _ _ _ _ _ => (pe_or (pe_cmpR op_isN (pv 3) pe_non (nomark _)) (pe_one (pe_call (ok_is_number T) ((GX.room_gcx hr).mono (by decide)) (by rfl) T.g_is_number T.F_is_number.kp T.b_is_number .nil pass0 (pa_cons (pv 3) (pa_cons pe_int (pa_cons (pe_op op_sub (pe_glob (v := .int 12) (by rfl) c_HOURS ⟨_, rfl⟩) pe_int) pa_nil)))))))))) (pss_one ps_never) pss_nil))))), ?_⟩
    refine ⟨_, rfl, _, k, rfl, ib, ok, tb, fun H1 e1 => ?_⟩
    obtain ⟨a, r, b, rfl, t0, _, ⟨ba, bs, rfl, t2, pb⟩⟩ := e1.book ib
    have l2 := plen pb
    have lp := okp.len
    refine ⟨_, rfl, .inr (.inl ⟨a, _, 1, _, rfl, rfl, t0, atI_nat (j := 1) rfl, ba, bs, rfl, .inr t2, ?_⟩)⟩
    refine ⟨_, rfl, _, rfl, _, rfl, pa, _, _, _, rfl, e1.sqT tp, by rw [List.length_map]; omega, by rw [List.length_map]; omega, _, rfl, iteF ?_⟩
    unfold tNext
    dsimp only
    unfold tIfS
    refine tNot_ ?_
    refine tB_ ?_
    refine (all_var (xs := pl.map oV) rfl (e1.sqT tp) (tb.ext e1).check_plan (fun _ H2 => Ext [] H H2) (fun H2 hT => e1.trans (Ext.tab (tb.ext e1).check_plan hT)) (fun _ _ _ e => e.sqT tp) (fun i x H2 hx e => ?_) (fun H2 e => ?_))
    · obtain ⟨o, ho, rfl⟩ := map_get hx
      cases o with
      | none => exact ⟨rfl, _, rfl, rfl, _, rfl, iteD rfl ⟨true, rfl, iteT e⟩⟩
      | some h =>
        obtain ⟨h0, h11⟩ := okp.ok h (List.mem_of_getElem? ho)
        exact ⟨rfl, _, rfl, rfl, _, rfl, iteDn (by simp [oV]) ⟨_, rfl, _, _, rfl, rfl, h, 0, 12 - 1, rfl, h0, by omega, true, rfl, iteT e⟩⟩
    · exact ⟨_, rfl, iteF (q H2 e)⟩

def spArrival (A : Ad) (K : PySem.W.Frag) : Sp := fun vs H Q _ => ∃ (v : V) (rv : List Stretch) (p : Nat) (h : Int), vs = [v, .int (p : Int), .int h] ∧ IsRiver K H v rv ∧ RvOk rv ∧ Tabs A H ∧ ∀ H', Ext [] H H' → Q (.int (h + hsum rv p)) H'
theorem ok_arrival (T : Facts A K mg base) : FnOk P w K mg base CX0 2 A.a_arrival A.d_arrival ["stretches", "place", "hour"] (spArrival A K) := by
  refine GX.okT T.F_arrival T.h_arrival sc_arrival (fun vs H Q E h => ?_) (fun A1 outer s H vs Q E hr h => ?_)
  · obtain ⟨v, rv, p, h, rfl, _⟩ := h
    rfl
  · obtain ⟨v, rv, p, h, rfl, ⟨ra, rs, rfl, t1, pr⟩, ok, tb, q⟩ := h
    refine ⟨_, PSs.nox (pss_one (ps_ret (pe_op op_add (pv 2) (GX.pe_sumG (own := [("at", 3), ("stretch", 4)]) (g := (gTup K 2 (gCons (gName 3) (gCons (gName 4) gNil)))) hr (by rfl) T.n_sum T.t_arrival rfl (GX.genOk_by (own := [("at", 3), ("stretch", 4)]) (N := ["stretches", "place", "hour", "at", "stretch"]) (sc := defScope s_arrival) (by decide +kernel)) sc_arrival.nd (GE.pi_enumT (by rfl) T.n_enumerate (pa_cons (pv 0) pa_nil)) (fun _ _ _ _ _ _ _ => (pg_tup (by rfl) (pgs_cons (pg_name (i := 3) sc_arrival.nd rfl (Or.inl rfl)) (pgs_cons (pg_name (i := 4) sc_arrival.nd rfl (Or.inl rfl)) pgs_nil)))) (fun _ _ _ _ _ _ _ => (pts_one (pt_cmpR op_lt (pv 3) (pv 1) (nomark _)))) (fun _ _ _ _ _ _ _ => (pe_ix (ixK K rfl) (pv 4) pe_int (fun _ _ => rfl))))))), ?_⟩
    have l1 := plen pr
    have n8 := ok.n8
    refine ⟨.int h, rfl, sum_enumT (xs := rs) rfl t1 tb.arrival (fun i z H2 => Ext [] H H2 ∧ z = hsum rv (min i p)) (fun H2 hT => ⟨Ext.tab tb.arrival hT, by rw [Nat.zero_min]; rfl⟩) (fun _ _ _ _ e => e.1.sqT t1) (fun i x z H2 T hx e hn => ?_) (fun z H2 e => ?_)⟩
    · obtain ⟨s1, hs1, is1⟩ := pget pr hx
      obtain ⟨e, rfl⟩ := e
      have e2 : Ext [] H (upd H2 T (.tup [.int (i : Nat), x])) := e.trans (Ext.new hn)
      obtain ⟨sa, sd, rfl, u1, u2⟩ := e2.stretch is1
      have hb := hsum_bound ok.ok (min i p)
      have hi : i < rs.length := (List.getElem?_eq_some_iff.mp hx).1
      have o1 := (ok.ok s1 (List.mem_of_getElem? hs1)).h1
      have o9 := (ok.ok s1 (List.mem_of_getElem? hs1)).h9
      refine ⟨T, _, rfl, sqT_new, rfl, _, _, rfl, _, _, rfl, rfl, rfl, _, rfl, _, rfl, _, _, rfl, rfl, _, rfl, ?_⟩
      refine ite2 (fun c => ?_) (fun c => ?_)
      · have hip : i < p := Int.ofNat_lt.mp (of_decide_eq_true c)
        refine ⟨_, rfl, .inr (.inl ⟨sa, _, 0, _, rfl, rfl, u1, atI_nat (j := 0) rfl, s1.hours, rfl, inLong_small (by omega) (by omega), inLong_small (by omega) (by omega), e2, ?_⟩)⟩
        rw [show min i p = i by omega, show min (i + 1) p = i + 1 by omega, hsum_succ hs1]
      · have hip : ¬ i < p := fun z => c (decide_eq_true (Int.ofNat_lt.mpr z))
        refine ⟨e2, ?_⟩
        rw [show min i p = p by omega, show min (i + 1) p = p by omega]
    · obtain ⟨e, rfl⟩ := e
      refine ⟨_, _, rfl, rfl, ?_⟩
      rw [l1]
      have hm : hsum rv (min rv.length p) = hsum rv p := by
        by_cases hp : rv.length ≤ p
        · rw [Nat.min_eq_left hp, hsum_len hp]
        · rw [Nat.min_eq_right (by omega)]
      rw [hm]
      exact q H2 e

def spDepthThen (K : PySem.W.Frag) : Sp := fun vs H Q _ => ∃ (v : V) (rv : List Stretch) (k : Nat) (t : Int) (s : Stretch), vs = [v, .int (k : Int), .int t] ∧ IsRiver K H v rv ∧ rv[k]? = some s ∧ 0 < s.ds.length ∧ Q (.int (depthAt s t)) H
theorem ok_depth_then (T : Facts A K mg base) : FnOk P w K mg base CX0 1 A.a_depth_then A.d_depth_then ["stretches", "stretch", "time"] (spDepthThen K) := by
  refine T.F_depth_then.ok sc_depth_then (fun vs H Q E h => ?_) (fun cdv A1 outer s H vs Q E hr h => ?_)
  · obtain ⟨v, rv, k, t, s, rfl, _⟩ := h
    rfl
  · obtain ⟨v, rv, k, t, s1, rfl, ⟨ra, rs, rfl, t1, pr⟩, hk, hd, q⟩ := h
    refine ⟨_, PSs.nox (pss_cons (ps_set (i := 3) sc_depth_then.nd rfl (Or.inl rfl) (pe_ix ix_seq (pe_ix ix_seq (pv 0) (pv 1) (fun _ _ => rfl)) pe_int (fun _ _ => rfl)))
      (pss_one (ps_ret (pe_ix ix_seq (pv 3) (pe_op op_modN (pv 2) (pe_callB call_len_seq (by rfl) T.n_len PySem.boot_len (pa_cons (pv 3) pa_nil))) (fun _ _ => rfl))))), ?_⟩
    obtain ⟨x, hx, sa, sd, rfl, u1, u2⟩ := pgetR pr hk
    refine ⟨.ref ra, rfl, _, rfl, .inr (.inl ⟨ra, _, _, _, rfl, rfl, t1, atI_nat hx, .inr (.inl ⟨sa, _, 2, _, rfl, rfl, u1, atI_nat (j := 2) rfl, ?_⟩)⟩)⟩
    refine ⟨_, rfl, _, rfl, _, rfl, sd, _, rfl, .inr u2, _, _, rfl, rfl, ?_, .inr (.inl ⟨sd, _, _, _, rfl, rfl, u2, depth_item hd, q⟩)⟩
    rw [List.length_map]
    omega

def spHoursOf (K : PySem.W.Frag) : Sp := fun vs H Q _ => ∃ (u : V) (n : Nat) (pl : List (Option Int)), vs = [u] ∧ IsPlan K H u pl ∧ PlOk n pl ∧ n ≤ 7 ∧ ∀ H' p, Ext [] H H' → H p = none → H' p = some (.lst ((hoursL pl).map V.int)) → Q (.ref p) H'
theorem ok_hours_of (T : Facts A K mg base) : FnOk P w K mg base CX0 1 A.a_hours_of A.d_hours_of ["plan"] (spHoursOf K) := by
  refine T.F_hours_of.ok sc_hours_of (fun vs H Q E h => ?_) (fun cdv A1 outer s H vs Q E hr h => ?_)
  · obtain ⟨u, n, pl, rfl, _⟩ := h
    rfl
  · obtain ⟨u, n, pl, rfl, ⟨pa, rfl, tp⟩, okp, n7, q⟩ := h
    refine ⟨_, PSs.nox (pss_one (ps_ret (pe_callB (cr_sortedSet rfl) (by rfl) T.n_sorted (by decide +kernel) (pa_cons (GS.pe_si (own := [("hour", 1)]) (g := (gName 1)) rfl sc_hours_of.nd (pi_tup (pv 0)) (blkOk_by (own := [("hour", 1)]) (N := ["plan", "hour"]) (sc := defScope s_hours_of) (by decide +kernel)) (fun _ _ _ _ _ => (pg_name (i := 1) sc_hours_of.nd rfl (Or.inl rfl))) (fun _ _ _ _ _ => (pts_one (pt_cmpR op_notN (pv 1) pe_non (nomark _)))) (fun _ _ _ _ _ => (pv 1))) pa_nil)))), ?_⟩
    have lp := okp.len
    have scan : (1000 : Nat) ≤ scanBound := by decide
    refine ⟨_, rfl, pa, rfl, ⟨_, tp⟩, fun D hD => si_tup (xs := pl.map oV) (fun i H3 => Ext [] H H3 ∧ ∃ (S : Int → Bool) (m : Nat), H3 D = some (SetO w D S m) ∧ m ≤ i ∧ ∀ k, S k = true ↔ some k ∈ pl.take i) ⟨Ext.new hD, _, 0, upd_same, Nat.le_refl _, fun k => by simp⟩ (fun _ _ _ z => z.1.sqT tp) (fun i x H3 hx z => ?_) (fun H3 z => ?_)⟩
    · obtain ⟨o, ho, rfl⟩ := map_get hx
      obtain ⟨e, S, m, hS, hm, hk⟩ := z
      have hi : i < pl.length := (List.getElem?_eq_some_iff.mp ho).1
      cases o with
      | none =>
        refine ⟨rfl, _, rfl, rfl, _, rfl, iteNS rfl ⟨e, S, m, hS, by omega, fun k => ?_⟩⟩
        rw [hk, List.take_add_one, ho]
        simp
      | some h =>
        refine ⟨rfl, _, rfl, rfl, _, rfl, iteN (by simp [oV]) ⟨_, rfl, h, S, m, rfl, hS, by omega, e.wrNew hD, _, _, upd_same, by split <;> omega, fun k => ?_⟩⟩
        rw [Bool.or_eq_true, hk, decide_eq_true_eq, List.take_add_one, ho, List.mem_append]
        simp
    · obtain ⟨e, S, m, hS, hm, hk⟩ := z
      rw [List.length_map] at hm hk
      refine ⟨D, S, m, rfl, hS, by omega, fun ns p hpw hmem _ hp => ?_⟩
      have en : ns = hoursL pl := strict_uniq hpw (hoursN_pw pl 12) fun k => by rw [hmem, hk, List.take_length, hoursL_mem okp]
      rw [← en] at q
      exact q _ p (e.trans (Ext.new hp)) (e.dom p hp) upd_same

def spMembers (K : PySem.W.Frag) : Sp := fun vs H Q _ => ∃ (u : V) (pl : List (Option Int)) (h : Int), vs = [u, .int h] ∧ IsPlan K H u pl ∧ pl.length ≤ 7 ∧ ∀ H' p, Ext [] H H' → H p = none → H' p = some (.lst (natsV (memN pl h pl.length))) → Q (.ref p) H'
theorem ok_members (T : Facts A K mg base) : FnOk P w K mg base CX0 1 A.a_members A.d_members ["plan", "hour"] (spMembers K) := by
  refine T.F_members.ok sc_members (fun vs H Q E h => ?_) (fun cdv A1 outer s H vs Q E hr h => ?_)
  · obtain ⟨u, pl, h, rfl, _⟩ := h
    rfl
  · obtain ⟨u, pl, h, rfl, ⟨pa, rfl, tp⟩, n7, q⟩ := h
    refine ⟨_, PSs.nox (pss_one (ps_ret (pe_lc (own := [("number", 2), ("given", 3)]) (g := (gTup K 2 (gCons (gName 2) (gCons (gName 3) gNil)))) rfl sc_members.nd (GE.pi_enumT (by rfl) T.n_enumerate (pa_cons (pv 0) pa_nil)) (blkOk_by (own := [("number", 2), ("given", 3)]) (N := ["plan", "hour", "number", "given"]) (sc := defScope s_members) (by decide +kernel)) (fun _ _ _ _ _ => (pg_tup (by rfl) (pgs_cons (pg_name (i := 2) sc_members.nd rfl (Or.inl rfl)) (pgs_cons (pg_name (i := 3) sc_members.nd rfl (Or.inl rfl)) pgs_nil)))) (fun _ _ _ _ _ => (pts_one (pt_cmpR op_eq (pv 3) (pv 1) (nomark _)))) (fun _ _ _ _ _ => (pv 2))))), ?_⟩
    refine ⟨.ref pa, rfl, pa, _, rfl, tp, fun D hD => lc_enumT (xs := pl.map oV) (fun i H3 => Ext [] H H3 ∧ i ≤ 7 ∧ H3 D = some (.lst (natsV (memN pl h i)))) ⟨Ext.new hD, Nat.zero_le _, upd_same⟩ (fun _ _ _ z => z.1.sqT tp) (fun i x H3 S hx z hS => ?_) (fun H3 z => ?_)⟩
    · obtain ⟨o, ho, rfl⟩ := map_get hx
      obtain ⟨e3, i7, hL⟩ := z
      have hi : i < pl.length := (List.getElem?_eq_some_iff.mp ho).1
      have e4 : Ext [] H3 (upd H3 S (.tup [.int (i : Nat), oV o])) := Ext.new hS
      have hL4 := e4.lst D _ (by simp) hL
      refine ⟨S, _, rfl, sqT_new, rfl, _, _, rfl, _, _, rfl, rfl, rfl, ?_⟩
      refine ⟨_, rfl, _, rfl, scal_oV o h, _, rfl, ?_⟩
      by_cases c : o = some h
      · rw [decide_eq_true (oV_int.mpr c)]
        refine iteT ⟨_, rfl, _, hL4, small1000 (by have := memN_le pl h i; rw [List.length_map]; omega), (e3.trans e4).wrNew hD, by omega, ?_⟩
        rw [upd_same, memN_succ, getD_of ho, if_pos c]
        unfold natsV
        rw [List.map_append]
        rfl
      · rw [decide_eq_false (fun z => c (oV_int.mp z))]
        refine iteF ⟨e3.trans e4, by omega, ?_⟩
        rw [memN_succ, getD_of ho, if_neg c, List.append_nil]
        exact hL4
    · obtain ⟨e3, _, hL⟩ := z
      rw [List.length_map] at hL
      exact q _ D e3 hD hL

theorem oV_non {o : Option Int} : oV o = .non ↔ o = none := by
  cases o with
  | none => exact ⟨fun _ => rfl, fun _ => rfl⟩
  | some h => exact ⟨fun z => (by cases z), fun z => (by cases z)⟩
theorem scal_non (o : Option Int) : scal (oV o) .non = true := by cases o <;> rfl
def spoMembers (K : PySem.W.Frag) : Sp := fun vs H Q _ => ∃ (u : V) (pl : List (Option Int)), vs = [u, .non] ∧ IsPlan K H u pl ∧ pl.length ≤ 7 ∧ ∀ H' p, Ext [] H H' → H p = none → H' p = some (.lst (natsV (openN pl pl.length))) → Q (.ref p) H'
theorem oko_members (T : Facts A K mg base) : FnOk P w K mg base CX0 1 A.a_members A.d_members ["plan", "hour"] (spoMembers K) := by
  refine T.F_members.ok sc_members (fun vs H Q E h => ?_) (fun cdv A1 outer s H vs Q E hr h => ?_)
  · obtain ⟨u, pl, rfl, _⟩ := h
    rfl
  · obtain ⟨u, pl, rfl, ⟨pa, rfl, tp⟩, n7, q⟩ := h
    refine ⟨_, PSs.nox (pss_one (ps_ret (pe_lc (own := [("number", 2), ("given", 3)]) (g := (gTup K 2 (gCons (gName 2) (gCons (gName 3) gNil)))) rfl sc_members.nd (GE.pi_enumT (by rfl) T.n_enumerate (pa_cons (pv 0) pa_nil)) (blkOk_by (own := [("number", 2), ("given", 3)]) (N := ["plan", "hour", "number", "given"]) (sc := defScope s_members) (by decide +kernel)) (fun _ _ _ _ _ => (pg_tup (by rfl) (pgs_cons (pg_name (i := 2) sc_members.nd rfl (Or.inl rfl)) (pgs_cons (pg_name (i := 3) sc_members.nd rfl (Or.inl rfl)) pgs_nil)))) (fun _ _ _ _ _ => (pts_one (pt_cmpR op_eq (pv 3) (pv 1) (nomark _)))) (fun _ _ _ _ _ => (pv 2))))), ?_⟩
    refine ⟨.ref pa, rfl, pa, _, rfl, tp, fun D hD => lc_enumT (xs := pl.map oV) (fun i H3 => Ext [] H H3 ∧ i ≤ 7 ∧ H3 D = some (.lst (natsV (openN pl i)))) ⟨Ext.new hD, Nat.zero_le _, upd_same⟩ (fun _ _ _ z => z.1.sqT tp) (fun i x H3 S hx z hS => ?_) (fun H3 z => ?_)⟩
    · obtain ⟨o, ho, rfl⟩ := map_get hx
      obtain ⟨e3, i7, hL⟩ := z
      have hi : i < pl.length := (List.getElem?_eq_some_iff.mp ho).1
      have e4 : Ext [] H3 (upd H3 S (.tup [.int (i : Nat), oV o])) := Ext.new hS
      have hL4 := e4.lst D _ (by simp) hL
      refine ⟨S, _, rfl, sqT_new, rfl, _, _, rfl, _, _, rfl, rfl, rfl, ?_⟩
      refine ⟨_, rfl, _, rfl, scal_non o, _, rfl, ?_⟩
      by_cases c : o = none
      · rw [decide_eq_true (oV_non.mpr c)]
        refine iteT ⟨_, rfl, _, hL4, small1000 (by have := openN_len pl i; rw [List.length_map]; omega), (e3.trans e4).wrNew hD, by omega, ?_⟩
        rw [upd_same, openN_succ, getD_of ho, if_pos c]
        unfold natsV
        rw [List.map_append]
        rfl
      · rw [decide_eq_false (fun z => c (oV_non.mp z))]
        refine iteF ⟨e3.trans e4, by omega, ?_⟩
        rw [openN_succ, getD_of ho, if_neg c, List.append_nil]
        exact hL4
    · obtain ⟨e3, _, hL⟩ := z
      rw [List.length_map] at hL
      exact q _ D e3 hD hL

def spWaiting (A : Ad) (K : PySem.W.Frag) : Sp := fun vs H Q _ => ∃ (v u : V) (rv : List Stretch) (b : Barge) (h : Int), vs = [v, u, .int h] ∧ IsRiver K H v rv ∧ RvOk rv ∧ IsBarge K H u b ∧ b.Ok rv.length ∧ Tabs A H ∧ ∀ H', Ext [] H H' → Q (.int (h + hsum rv b.b.toNat - b.r)) H'
theorem ok_waiting (T : Facts A K mg base) : FnOk P w K mg base CX0 3 A.a_waiting A.d_waiting ["stretches", "barge", "hour"] (spWaiting A K) := by
  refine T.F_waiting.ok sc_waiting (fun vs H Q E h => ?_) (fun cdv A1 outer s H vs Q E hr h => ?_)
  · obtain ⟨v, u, rv, b, h, rfl, _⟩ := h
    rfl
  · obtain ⟨v, u, rv, b, h, rfl, ir, ok, ⟨a, rfl, t⟩, okb, tb, q⟩ := h
    refine ⟨_, PSs.nox (pss_cons (ps_asg (pv 1) (pg_tup (by rfl) (pgs_cons (pg_name (i := 3) sc_waiting.nd rfl (Or.inl rfl)) (pgs_cons (pg_name (i := 4) sc_waiting.nd rfl (Or.inl rfl)) (pgs_cons (pg_name (i := 4) sc_waiting.nd rfl (Or.inl rfl)) (pgs_cons (pg_name (i := 5) sc_waiting.nd rfl (Or.inl rfl)) (pgs_cons (pg_name (i := 4) sc_waiting.nd rfl (Or.inl rfl)) pgs_nil)))))))
      (pss_one (ps_ret (pe_op op_sub (pe_call (ok_arrival T) (hr.mono (by decide)) (by rfl) T.g_arrival T.F_arrival.kp T.b_arrival .nil pass0 (pa_cons (pv 0) (pa_cons (pv 3) (pa_cons (pv 2) pa_nil)))) (pv 5))))), ?_⟩
    have b0 := okb.b0
    refine ⟨_, rfl, a, _, rfl, t, rfl, _, _, rfl, _, _, rfl, _, _, rfl, _, _, rfl, _, _, rfl, rfl, ?_⟩
    refine ⟨_, rfl, _, rfl, _, rfl, _, rv, b.b.toNat, h, ?_, ir, ok, tb, fun H1 e1 => ⟨_, rfl, _, _, rfl, rfl, q H1 e1⟩⟩
    rw [Int.toNat_of_nonneg b0]
    rfl

def spWay (A : Ad) (K : PySem.W.Frag) : Sp := fun vs H Q _ => ∃ (v u : V) (k : Book) (b : Barge) (h : Int), vs = [v, u, .int h] ∧ IsRiver K H v k.rv ∧ RvOk k.rv ∧ IsBarge K H u b ∧ b.Ok k.rv.length ∧ Tabs A H ∧ ∀ H' p, Ext [] H H' → H p = none → IsList K H' p (wayL k b h (b.g - b.b).toNat) → Q (.ref p) H'
theorem ok_depths_on_way (T : Facts A K mg base) : FnOk P w K mg base CX0 3 A.a_depths_on_way A.d_depths_on_way ["stretches", "barge", "hour"] (spWay A K) := by
  refine T.F_depths_on_way.ok sc_depths_on_way (fun vs H Q E h => ?_) (fun cdv A1 outer s H vs Q E hr h => ?_)
  · obtain ⟨v, u, k, b, h, rfl, _⟩ := h
    rfl
  · obtain ⟨v, u, k, b, h, rfl, ir, ok, ⟨xa, rfl, tx⟩, okb, tb, q⟩ := h
    refine ⟨_, PSs.nox (pss_cons (ps_set (i := 3) sc_depths_on_way.nd rfl (Or.inl rfl) (pe_lst pa_nil))
      (pss_cons (ps_for PassesOwn.never rfl (pi_range2 (by rfl) T.n_range (pa_cons (pe_ix ix_seq (pv 1) pe_int (fun _ _ => rfl)) (pa_cons (pe_ix ix_seq (pv 1) pe_int (fun _ _ => rfl)) pa_nil))) (pg_name (i := 4) sc_depths_on_way.nd rfl (Or.inl rfl)) (pss_cons (ps_set (i := 5) sc_depths_on_way.nd rfl (Or.inl rfl) (pe_call (ok_arrival T) (hr.mono (by decide)) (by rfl) T.g_arrival T.F_arrival.kp T.b_arrival .nil pass0 (pa_cons (pv 0) (pa_cons (pv 4) (pa_cons (pv 2) pa_nil)))))
      (pss_one (ps_expr (pe_bm PySem.F.plainAttrs_list PySem.F.slot_list_append PySem.F.type_list_append mt_append (pv 3) (pa_cons (pe_tup (pa_cons (pv 4) (pa_cons (pv 5) (pa_cons (pe_call (ok_depth_then T) (hr.mono (by decide)) (by rfl) T.g_depth_then T.F_depth_then.kp T.b_depth_then .nil pass0 (pa_cons (pv 0) (pa_cons (pv 4) (pa_cons (pv 5) pa_nil)))) pa_nil)))) pa_nil))))))
      (pss_one (ps_ret (pv 3))))), ?_⟩
    obtain ⟨ra, rs, rfl, t1, pr⟩ := id ir
    have b0 := okb.b0
    have bg := okb.bg
    have gn := okb.gn
    have n8 := ok.n8
    refine ⟨Nat.zero_le _, fun L hL => ?_⟩
    have e0 : Ext [] H (upd H L (.lst [])) := Ext.new hL
    refine ⟨_, rfl, .inr (.inl ⟨xa, _, 0, _, rfl, rfl, e0.sqT tx, atI_nat (j := 0) rfl, ?_⟩)⟩
    refine ⟨_, rfl, .inr (.inl ⟨xa, _, 1, _, rfl, rfl, e0.sqT tx, atI_nat (j := 1) rfl, ?_⟩)⟩
    refine ⟨b.b, b.g, rfl, ⟨by omega, by omega, by omega, by omega⟩, for_range (lo := b.b) (n := (b.g - b.b).toNat) (fun j σ H1 => ∃ y4 y5, σ = [some (.ref ra), some (.ref xa), some (.int h), some (.ref L), y4, y5] ∧ Ext [] H H1 ∧ j ≤ (b.g - b.b).toNat ∧ IsList K H1 L (wayL k b h j))
      ⟨none, none, rfl, e0, Nat.zero_le _, IsList.new⟩ ?_ ?_⟩
    · rintro j σ H1 hj ⟨y4, y5, rfl, e1, _, vs, hL1, pv⟩
      have lv := plen pv
      rw [wayL_len] at lv
      obtain ⟨st, hst⟩ : ∃ st, k.rv[b.b.toNat + j]? = some st := ⟨k.rv[b.b.toNat + j], List.getElem?_eq_getElem (by omega)⟩
      have hp : (((b.b.toNat + j : Nat)) : Int) = b.b + j := by omega
      refine ⟨_, rfl, _, rfl, _, rfl, _, k.rv, b.b.toNat + j, h, by rw [hp]; rfl, e1.river ir, ok, tb.ext e1, fun H2 e2 => ?_⟩
      have hL2 := e2.lst L _ (by simp) hL1
      refine ⟨_, rfl, .inl ⟨rfl, _, .inl (.inl hL2)⟩, ?_⟩
      refine ⟨_, rfl, _, rfl, _, rfl, _, rfl, _, rfl, _, k.rv, b.b.toNat + j, _, st, by rw [hp]; rfl, (e1.trans e2).river ir, hst, (ok.ok st (List.mem_of_getElem? hst)).d1, ?_⟩
      refine ⟨by show 3 ≤ sizeLine; decide, fun t ht => ?_⟩
      have e3 := Ext.new (ex := []) (o := .tup [.int (b.b + j), .int (h + hsum k.rv (b.b.toNat + j)), .int (depthAt st (h + hsum k.rv (b.b.toNat + j)))]) ht
      have hL3 := e3.lst L _ (by simp) hL2
      refine ⟨L, _, _, rfl, rfl, hL3, small1000 (by omega), ?_⟩
      refine ⟨_, _, rfl, (e1.trans (e2.trans e3)).wrNew hL, by omega, ?_⟩
      rw [wayL_succ]
      have hc : comesAt k (b.b + j) h = h + hsum k.rv (b.b.toNat + j) := by rw [← hp, comesAt_nat]
      refine rows_push hL3 (Paired.mapP pv fun _ _ z => (e2.trans e3).row z) (isRow_new ?_)
      unfold wayR
      rw [hc, strN_of hst]
      rfl
    · rintro σ H1 ⟨y4, y5, rfl, e1, _, hl⟩
      exact ⟨_, rfl, q _ L e1 hL hl⟩

def spAgainstBarge (A : Ad) (K : PySem.W.Frag) : Sp := fun vs H Q _ => ∃ (v : V) (k : Book) (i : Nat) (b : Barge) (h : Int), vs = [v, .int (i : Int), .int h] ∧ IsBook K H v k ∧ k.Ok ∧ k.bs[i]? = some b ∧ Tabs A H ∧ ∀ H' p, Ext [] H H' → H p = none → IsList K H' p (aloneR k i b h) → Q (.ref p) H'
theorem ok_against_barge (T : Facts A K mg base) : FnOk P w K mg base CX0 4 A.a_against_barge A.d_against_barge ["book", "number", "hour"] (spAgainstBarge A K) := by
  refine T.F_against_barge.ok sc_against_barge (fun vs H Q E h => ?_) (fun cdv A1 outer s H vs Q E hr h => ?_)
  · obtain ⟨v, k, i, b, h, rfl, _⟩ := h
    rfl
  · obtain ⟨v, k, i, b, h, rfl, ⟨a, r, bb, rfl, t0, ir, ⟨ba, bs, rfl, t2, pb⟩⟩, ok, hb, tb, q⟩ := h
    refine ⟨_, PSs.nox (pss_cons (ps_asg (pv 0) (pg_tup (by rfl) (pgs_cons (pg_name (i := 3) sc_against_barge.nd rfl (Or.inl rfl)) (pgs_cons (pg_name (i := 4) sc_against_barge.nd rfl (Or.inl rfl)) pgs_nil))))
      (pss_cons (ps_set (i := 5) sc_against_barge.nd rfl (Or.inl rfl) (pe_ix ix_seq (pv 4) (pv 1) (fun _ _ => rfl)))
      (pss_cons (ps_asg (pv 5) (pg_tup (by rfl) (pgs_cons (pg_name (i := 6) sc_against_barge.nd rfl (Or.inl rfl)) (pgs_cons (pg_name (i := 7) sc_against_barge.nd rfl (Or.inl rfl)) (pgs_cons (pg_name (i := 8) sc_against_barge.nd rfl (Or.inl rfl)) (pgs_cons (pg_name (i := 9) sc_against_barge.nd rfl (Or.inl rfl)) (pgs_cons (pg_name (i := 10) sc_against_barge.nd rfl (Or.inl rfl)) pgs_nil)))))))
      (pss_cons (ps_set (i := 11) sc_against_barge.nd rfl (Or.inl rfl) (pe_lst pa_nil))
      (pss_cons (ps_set (i := 12) sc_against_barge.nd rfl (Or.inl rfl) (pe_call (ok_arrival T) (hr.mono (by decide)) (by rfl) T.g_arrival T.F_arrival.kp T.b_arrival .nil pass0 (pa_cons (pv 3) (pa_cons (pv 6) (pa_cons (pv 2) pa_nil)))))
      (pss_cons (ps_if (pt_cmpR op_lt (pv 12) (pv 9) (nomark _)) (pss_one (ps_expr (pe_bm PySem.F.plainAttrs_list PySem.F.slot_list_append PySem.F.type_list_append mt_append (pv 11) (pa_cons (pe_tup (pa_cons pe_str (pa_cons (pv 1) (pa_cons (pv 12) pa_nil)))) pa_nil)))) pss_nil)
      (pss_cons (ps_set (i := 13) sc_against_barge.nd rfl (Or.inl rfl) (pe_call (ok_arrival T) (hr.mono (by decide)) (by rfl) T.g_arrival T.F_arrival.kp T.b_arrival .nil pass0 (pa_cons (pv 3) (pa_cons (pv 7) (pa_cons (pv 2) pa_nil)))))
      (pss_cons (ps_if (pt_cmpR op_gt (pv 13) (pv 10) (nomark _)) (pss_one (ps_expr (pe_bm PySem.F.plainAttrs_list PySem.F.slot_list_append PySem.F.type_list_append mt_append (pv 11) (pa_cons (pe_tup (pa_cons pe_str (pa_cons (pv 1) (pa_cons (pv 13) pa_nil)))) pa_nil)))) pss_nil)
      (pss_cons (ps_for PassesOwn.never rfl (pi_list (pe_call (ok_depths_on_way T) (hr.mono (by decide)) (by rfl) T.g_depths_on_way T.F_depths_on_way.kp T.b_depths_on_way .nil pass0 (pa_cons (pv 3) (pa_cons (pv 5) (pa_cons (pv 2) pa_nil))))) (pg_tup (by rfl) (pgs_cons (pg_name (i := 14) sc_against_barge.nd rfl (Or.inl rfl)) (pgs_cons (pg_name (i := 15) sc_against_barge.nd rfl (Or.inl rfl)) (pgs_cons (pg_name (i := 16) sc_against_barge.nd rfl (Or.inl rfl)) pgs_nil)))) (pss_one (ps_if (pt_cmpR op_lt (pv 16) (pv 8) (nomark _)) (pss_one (ps_expr (pe_bm PySem.F.plainAttrs_list PySem.F.slot_list_append PySem.F.type_list_append mt_append (pv 11) (pa_cons (pe_tup (pa_cons pe_str (pa_cons (pv 1) (pa_cons (pv 14) (pa_cons (pv 15) (pa_cons (pv 16) pa_nil)))))) pa_nil)))) pss_nil)))
      (pss_one (ps_ret (pv 11)))))))))))), ?_⟩
    obtain ⟨xb, hxb, ibb⟩ := pgetR pb hb
    obtain ⟨xa, rfl, tx⟩ := id ibb
    have okb := ok.ok b (List.mem_of_getElem? hb)
    have b0 := okb.b0
    have bg := okb.bg
    refine ⟨_, rfl, a, _, rfl, t0, rfl, _, _, rfl, _, _, rfl, rfl, ?_⟩
    refine ⟨_, rfl, _, rfl, .inr (.inl ⟨ba, bs, _, _, rfl, rfl, t2, atI_nat hxb, ?_⟩)⟩
    refine ⟨_, rfl, xa, _, rfl, tx, rfl, _, _, rfl, _, _, rfl, _, _, rfl, _, _, rfl, _, _, rfl, rfl, ?_⟩
    refine ⟨Nat.zero_le _, fun L hL => ?_⟩
    have e0 : Ext [] H (upd H L (.lst [])) := Ext.new hL
    refine ⟨_, rfl, _, rfl, _, rfl, _, k.rv, b.b.toNat, h, by rw [Int.toNat_of_nonneg b0]; rfl, e0.river ir, ok.rv, tb.ext e0, fun H2 e2 => ?_⟩
    have hL2 := e2.lst L _ (by simp) upd_same
    refine ⟨_, rfl, _, rfl, _, _, rfl, rfl, _, rfl, joinIf H2 (fun H3 => Ext [] H H3 ∧ IsList K H3 L (if comesAt k b.b h < b.r then [[f_early, .i i, .i (comesAt k b.b h)]] else [])) (fun c => ⟨e0.trans e2, ?_⟩) (fun c rest => ?_) (fun H3 z => ?_)⟩
    · rw [if_neg (c := comesAt k b.b h < b.r) (fun z => c (decide_eq_true z))]
      exact ⟨[], hL2, .nil⟩
    · refine ⟨_, rfl, .inl ⟨rfl, _, .inl (.inl hL2)⟩, _, rfl, _, rfl, by show 3 ≤ sizeLine; decide, fun t ht => ?_⟩
      have e3 := Ext.new (ex := []) (o := .tup [.str "early", .int (i : Int), .int (h + hsum k.rv b.b.toNat)]) ht
      refine ⟨L, _, _, rfl, rfl, e3.lst L _ (by simp) hL2, small1000 (by simp), rest _ ⟨(e0.trans (e2.trans e3)).wrNew hL, ?_⟩⟩
      rw [if_pos (c := comesAt k b.b h < b.r) (of_decide_eq_true c)]
      exact rows_push (e3.lst L _ (by simp) hL2) .nil (isRow_new rfl)
    obtain ⟨e3, vs, hL3, pv⟩ := z
    have lv : vs.length ≤ 1 := by
      rw [plen pv]
      split <;> simp
    refine ⟨_, rfl, _, rfl, _, rfl, _, k.rv, b.g.toNat, h, by rw [Int.toNat_of_nonneg (by omega)]; rfl, e3.river ir, ok.rv, tb.ext e3, fun H4 e4 => ?_⟩
    have hL4 := e4.lst L _ (by simp) hL3
    have pv4 := Paired.mapP pv fun _ _ z => e4.row z
    refine ⟨_, rfl, _, rfl, _, _, rfl, rfl, _, rfl, joinIf H4 (fun H5 => Ext [] H H5 ∧ IsList K H5 L (endsR k i b h)) (fun c => ⟨e3.trans e4, ?_⟩) (fun c rest => ?_) (fun H5 z => ?_)⟩
    · unfold endsR
      rw [if_neg (c := b.u < comesAt k b.g h) (fun z => c (decide_eq_true z)), List.append_nil]
      exact ⟨vs, hL4, pv4⟩
    · refine ⟨_, rfl, .inl ⟨rfl, _, .inl (.inl hL4)⟩, _, rfl, _, rfl, by show 3 ≤ sizeLine; decide, fun t ht => ?_⟩
      have e5 := Ext.new (ex := []) (o := .tup [.str "late", .int (i : Int), .int (h + hsum k.rv b.g.toNat)]) ht
      refine ⟨L, _, _, rfl, rfl, e5.lst L _ (by simp) hL4, small1000 (by omega), rest _ ⟨(e3.trans (e4.trans e5)).wrNew hL, ?_⟩⟩
      unfold endsR
      rw [if_pos (c := b.u < comesAt k b.g h) (of_decide_eq_true c)]
      exact rows_push (e5.lst L _ (by simp) hL4) (Paired.mapP pv4 fun _ _ z => e5.row z) (isRow_new rfl)
    obtain ⟨e5, hl5⟩ := z
    refine ⟨_, rfl, _, rfl, _, rfl, _, _, k, b, h, rfl, e5.river ir, ok.rv, e5.barge ibb, okb, tb.ext e5, fun H6 W e6 hW hlW => ?_⟩
    have nLW : W ≠ L := by
      obtain ⟨_, z, _⟩ := hl5
      exact (ne_of_none z hW).symm
    have e56 := e5.trans e6
    obtain ⟨ws, hW6, pw⟩ := hlW
    have lw := plen pw
    rw [wayL_len] at lw
    have gn := okb.gn
    have n8 := ok.rv.n8
    refine ⟨W, rfl, ⟨ws, .inl (.inl hW6)⟩, for_list (xs := ws) (fun j σ H7 => ∃ y14 y15 y16, σ = [some (.ref a), some (.int (i : Int)), some (.int h), some r, some (.ref ba), some (.ref xa), some (.int b.b), some (.int b.g), some (.int b.d), some (.int b.r), some (.int b.u), some (.ref L), some (.int (h + hsum k.rv b.b.toNat)), some (.int (h + hsum k.rv b.g.toNat)), y14, y15, y16] ∧ j ≤ ws.length ∧ Ext [L] H6 H7 ∧ IsList K H7 L (endsR k i b h ++ cat (shalR k i b h) j))
      ⟨none, none, none, rfl, Nat.zero_le _, Ext.refl, by rw [cat_zero, List.append_nil]; exact e6.rows (by simp) hl5⟩ (fun j σ H7 _ z => ?_) (fun j x σ H7 hx z => ?_) (fun σ H7 z => ?_)⟩
    · obtain ⟨_, _, _, _, _, f, _⟩ := z
      exact .inl (.inl (f.lst W _ (by simp [nLW]) hW6))
    · obtain ⟨y14, y15, y16, rfl, _, f, us, hL7, pu⟩ := z
      obtain ⟨rw_, hrw, t, rfl, tr⟩ := pget pw hx
      obtain ⟨rfl, hj⟩ := wayL_get hrw
      have tr7 := f.sqT tr
      have lu := plen pu
      have hbnd : us.length ≤ 100 := by
        rw [lu, List.length_append]
        have := endsR_le k i b h
        have := cat_le (shalR_le k i b h) j
        omega
      refine ⟨t, _, rfl, tr7, rfl, _, _, rfl, _, _, rfl, _, _, rfl, rfl, ?_⟩
      refine ⟨_, rfl, _, rfl, _, _, rfl, rfl, _, rfl, ite2 (fun c => ?_) (fun c => ?_)⟩
      · refine ⟨_, rfl, .inl ⟨rfl, _, .inl (.inl hL7)⟩, _, rfl, _, rfl, _, rfl, _, rfl, by show 5 ≤ sizeLine; decide, fun t5 ht5 => ?_⟩
        have e8 := Ext.new (ex := []) (o := .tup [.str "shallow", .int (i : Int), .int (b.b + j), .int (comesAt k (b.b + j) h), .int (depthAt (strN k (b.b.toNat + j)) (comesAt k (b.b + j) h))]) ht5
        have hL8 := e8.lst L _ (by simp) hL7
        refine ⟨L, _, _, rfl, rfl, hL8, small1000 (by omega), ?_⟩
        refine ⟨_, _, _, rfl, by omega, (f.trans (Ext.new ht5)).trans (Ext.wr (by simp) hL8), ?_⟩
        rw [cat_succ, ← List.append_assoc]
        have es : shalR k i b h j = [[f_shallow, .i i, .i (b.b + j), .i (comesAt k (b.b + j) h), .i (depthAt (strN k (b.b.toNat + j)) (comesAt k (b.b + j) h))]] := by
          unfold shalR
          rw [if_pos (of_decide_eq_true c)]
        rw [es]
        exact rows_push hL8 (Paired.mapP pu fun _ _ z => e8.row z) (isRow_new rfl)
      · refine ⟨_, _, _, rfl, by omega, f, ?_⟩
        have es : shalR k i b h j = [] := by
          unfold shalR
          rw [if_neg (fun z => c (decide_eq_true z))]
        rw [cat_succ, es, List.append_nil]
        exact ⟨us, hL7, pu⟩
    · obtain ⟨y14, y15, y16, rfl, _, f, hl⟩ := z
      rw [lw] at hl
      exact ⟨_, rfl, q _ L (e56.born hL f) hL hl⟩

def spAgainstBarges (A : Ad) (K : PySem.W.Frag) : Sp := fun vs H Q _ => ∃ (v u : V) (k : Book) (pl : List (Option Int)), vs = [v, u] ∧ IsBook K H v k ∧ k.Ok ∧ IsPlan K H u pl ∧ PlOk k.bs.length pl ∧ Tabs A H ∧ ∀ H' p, Ext [] H H' → H p = none → IsList K H' p (bargesA k pl) → Q (.ref p) H'
theorem ok_against_barges (T : Facts A K mg base) : FnOk P w K mg base CX0 5 A.a_against_barges A.d_against_barges ["book", "plan"] (spAgainstBarges A K) := by
  refine T.F_against_barges.ok sc_against_barges (fun vs H Q E h => ?_) (fun cdv A1 outer s H vs Q E hr h => ?_)
  · obtain ⟨v, u, k, pl, rfl, _⟩ := h
    rfl
  · obtain ⟨v, u, k, pl, rfl, ib, ok, ⟨pa, rfl, tp⟩, okp, tb, q⟩ := h
    refine ⟨_, PSs.nox (pss_cons (ps_set (i := 2) sc_against_barges.nd rfl (Or.inl rfl) (pe_lst pa_nil))
      (pss_cons (ps_for PassesOwn.never rfl (GE.pi_enumT (by rfl) T.n_enumerate (pa_cons (pv 1) pa_nil)) (pg_tup (by rfl) (pgs_cons (pg_name (i := 3) sc_against_barges.nd rfl (Or.inl rfl)) (pgs_cons (pg_name (i := 4) sc_against_barges.nd rfl (Or.inl rfl)) pgs_nil))) (pss_one (ps_if (pt_cmpR op_notN (pv 4) pe_non (nomark _)) (pss_one (ps_expr (pe_bm PySem.F.plainAttrs_list PySem.F.slot_list_extend PySem.F.type_list_extend mt_extend (pv 2) (pa_cons (pe_call (ok_against_barge T) (hr.mono (by decide)) (by rfl) T.g_against_barge T.F_against_barge.kp T.b_against_barge .nil pass0 (pa_cons (pv 0) (pa_cons (pv 3) (pa_cons (pv 4) pa_nil)))) pa_nil)))) pss_nil)))
      (pss_one (ps_ret (pv 2))))), ?_⟩
    have lp := okp.len
    have n7 := ok.n7
    refine ⟨Nat.zero_le _, fun L hL => ?_⟩
    have e0 : Ext [] H (upd H L (.lst [])) := Ext.new hL
    refine ⟨_, rfl, pa, _, rfl, e0.sqT tp, for_enumT (xs := pl.map oV) (fun i σ H1 => ∃ y3 y4, σ = [some v, some (.ref pa), some (.ref L), y3, y4] ∧ i ≤ pl.length ∧ Ext [] H H1 ∧ IsList K H1 L (cat (bargeR k pl) i))
      ⟨none, none, rfl, Nat.zero_le _, e0, IsList.new⟩ (fun i σ H1 _ z => ?_) (fun i x σ H1 S hx z hS => ?_) (fun σ H1 z => ?_)⟩
    · obtain ⟨_, _, _, _, e, _⟩ := z
      exact e.sqT tp
    · obtain ⟨o, ho, rfl⟩ := map_get hx
      obtain ⟨y3, y4, rfl, _, e1, vs, hL1, pv⟩ := z
      have hi : i < pl.length := (List.getElem?_eq_some_iff.mp ho).1
      have e2 : Ext [] H1 (upd H1 S (.tup [.int (i : Nat), oV o])) := Ext.new hS
      have hL2 := e2.lst L _ (by simp) hL1
      refine ⟨S, _, rfl, sqT_new, rfl, _, _, rfl, _, _, rfl, rfl, ?_⟩
      cases o with
      | none =>
        refine ⟨_, rfl, rfl, _, rfl, iteNS rfl ⟨_, _, rfl, by omega, e1.trans e2, ?_⟩⟩
        rw [cat_succ, bargeR_none ho, List.append_nil]
        exact ⟨vs, hL2, Paired.mapP pv fun _ _ z => e2.row z⟩
      | some h =>
        obtain ⟨bb, hbb⟩ : ∃ bb, k.bs[i]? = some bb := ⟨k.bs[i], List.getElem?_eq_getElem (by omega)⟩
        have f2 := e1.trans e2
        refine ⟨_, rfl, rfl, _, rfl, iteN (by simp [oV]) ?_⟩
        refine ⟨_, rfl, .inl ⟨rfl, _, .inl (.inl hL2)⟩, _, rfl, _, rfl, _, rfl, _, k, i, bb, h, rfl, f2.book ib, ok, hbb, tb.ext f2, fun H3 W e3 hW hl3 => ?_⟩
        obtain ⟨ws, hW3, pw⟩ := hl3
        have hL3 := e3.lst L _ (by simp) hL2
        have lv := plen pv
        have lw := plen pw
        have b1 := cat_le (bargeR_le ok pl) i
        have b2 := aloneR_le (ok.ok bb (List.mem_of_getElem? hbb)) ok.rv.n8 i h
        refine ⟨L, W, _, _, rfl, rfl, hL3, hW3, Nat.le_of_lt (small1000 (by omega)), ?_⟩
        refine ⟨_, _, rfl, by omega, (f2.trans e3).wrNew hL, ?_⟩
        rw [cat_succ, bargeR_some ho hbb]
        exact rows_cat hL3 (Paired.mapP pv fun _ _ z => (e2.trans e3).row z) pw
    · obtain ⟨y3, y4, rfl, _, e1, hl⟩ := z
      rw [List.length_map] at hl
      exact ⟨_, rfl, q _ L e1 hL hl⟩

def spManyOn (K : PySem.W.Frag) : Sp := fun vs H Q _ => ∃ (u : V) (p : Addr) (k : Book) (xs : List Nat) (s : Nat), vs = [u, .ref p, .int (s : Int)] ∧ IsBarges K H u k.bs ∧ H p = some (.lst (natsV xs)) ∧ (∀ i ∈ xs, i < k.bs.length) ∧ xs.length ≤ 7 ∧ ∀ H', Ext [] H H' → Q (.int ((xs.filter (onS k s)).length : Int)) H'
theorem ok_many_on (T : Facts A K mg base) : FnOk P w K mg base CX0 1 A.a_many_on A.d_many_on ["barges", "numbers", "stretch"] (spManyOn K) := by
  refine T.F_many_on.ok sc_many_on (fun vs H Q E h => ?_) (fun cdv A1 outer s H vs Q E hr h => ?_)
  · obtain ⟨u, p, k, xs, s, rfl, _⟩ := h
    rfl
  · obtain ⟨u, p, k, xs, s1, rfl, ⟨ba, bs, rfl, t2, pb⟩, hp, hlt, n7, q⟩ := h
    refine ⟨_, PSs.nox (pss_one (ps_ret (pe_callB call_len_seq (by rfl) T.n_len PySem.boot_len (pa_cons (pe_lc (own := [("number", 3)]) (g := (gName 3)) rfl sc_many_on.nd (pi_list (pv 1)) (blkOk_by (own := [("number", 3)]) (N := ["barges", "numbers", "stretch", "number"]) (sc := defScope s_many_on) (by decide +kernel)) (fun _ _ _ _ _ => (pg_name (i := 3) sc_many_on.nd rfl (Or.inl rfl))) (fun _ _ _ _ _ => (pts_one (pt_chain op_le op_lt (pe_ix (ixK K rfl) (pe_ix (ixK K rfl) (pv 0) (pv 3) (fun _ _ => rfl)) pe_int (fun _ _ => rfl)) (pv 2) (pe_ix (ixK K rfl) (pe_ix (ixK K rfl) (pv 0) (pv 3) (fun _ _ => rfl)) pe_int (fun _ _ => rfl))))) (fun _ _ _ _ _ => (pv 3))) pa_nil)))), ?_⟩
    refine ⟨.ref p, rfl, p, rfl, ⟨_, .inl (.inl hp)⟩, fun D hD => lc_list (xs := natsV xs) (fun i H3 => Ext [] H H3 ∧ i ≤ xs.length ∧ H3 D = some (.lst (natsV ((xs.take i).filter (onS k s1))))) ⟨Ext.new hD, Nat.zero_le _, upd_same⟩ (fun _ _ _ z => .inl (.inl (z.1.lst p _ (by simp) hp))) (fun i x H3 hx z => ?_) (fun H3 z => ?_)⟩
    · obtain ⟨n, hn, rfl⟩ : ∃ n : Nat, xs[i]? = some n ∧ x = V.int (n : Int) := by
        unfold natsV at hx
        rw [List.getElem?_map] at hx
        cases e : xs[i]? with
        | none => rw [e] at hx; cases hx
        | some n => rw [e] at hx; exact ⟨n, rfl, (Option.some.inj hx).symm⟩
      obtain ⟨e3, hi, hL⟩ := z
      have hi2 : i < xs.length := (List.getElem?_eq_some_iff.mp hn).1
      have hnl := hlt n (List.mem_of_getElem? hn)
      obtain ⟨b, hb⟩ : ∃ b, k.bs[n]? = some b := ⟨k.bs[n], List.getElem?_eq_getElem hnl⟩
      obtain ⟨xb, hxb, xa, rfl, tx⟩ := pgetR pb hb
      have e : (xs.take (i + 1)).filter (onS k s1) = (xs.take i).filter (onS k s1) ++ [n].filter (onS k s1) := by
        rw [List.take_add_one, hn, List.filter_append]
        rfl
      have hon : onS k s1 n = (decide (b.b ≤ (s1 : Int)) && decide ((s1 : Int) < b.g)) := by
        unfold onS
        rw [hb]
      have hlen : ((xs.take i).filter (onS k s1)).length ≤ 7 := by
        have h1 := List.length_filter_le (onS k s1) (xs.take i)
        rw [List.length_take] at h1
        omega
      have f1 := e3.sqT t2
      have f2 := e3.sqT tx
      refine ⟨rfl, ?_⟩
      refine ⟨_, rfl, _, rfl, .inr (.inl ⟨ba, bs, _, _, rfl, rfl, f1, atI_nat hxb, .inr (.inl ⟨xa, _, 0, _, rfl, rfl, f2, atI_nat (j := 0) rfl, _, rfl, _, _, rfl, rfl, _, rfl, ?_⟩)⟩)⟩
      by_cases c1 : b.b ≤ (s1 : Int)
      · rw [decide_eq_true c1]
        refine iteT ⟨_, rfl, _, rfl, .inr (.inl ⟨ba, bs, _, _, rfl, rfl, f1, atI_nat hxb, .inr (.inl ⟨xa, _, 1, _, rfl, rfl, f2, atI_nat (j := 1) rfl, _, _, rfl, rfl, _, rfl, ?_⟩)⟩)⟩
        by_cases c2 : (s1 : Int) < b.g
        · rw [decide_eq_true c2]
          have ef : [n].filter (onS k s1) = [n] := by simp [hon, c1, c2]
          refine iteT ⟨_, rfl, _, hL, small1000 (by rw [List.length_map]; omega), e3.wrNew hD, by omega, ?_⟩
          rw [upd_same, e, ef]
          unfold natsV
          rw [List.map_append]
          rfl
        · rw [decide_eq_false c2]
          have ef : [n].filter (onS k s1) = [] := by simp [hon, c2]
          refine iteF ⟨e3, by omega, ?_⟩
          rw [e, ef, List.append_nil]
          exact hL
      · rw [decide_eq_false c1]
        have ef : [n].filter (onS k s1) = [] := by simp [hon, c1]
        refine iteF ⟨_, rfl, iteF ⟨e3, by omega, ?_⟩⟩
        rw [e, ef, List.append_nil]
        exact hL
    · obtain ⟨e3, _, hL⟩ := z
      have e : xs.take (natsV xs).length = xs := by
        unfold natsV
        rw [List.length_map, List.take_length]
      rw [e] at hL
      have hq := q H3 e3
      rw [← List.length_map (f := fun i : Nat => V.int (i : Int))] at hq
      exact ⟨D, _, rfl, .inl (.inl (.inl hL)), hq⟩

def spFullStretches (K : PySem.W.Frag) : Sp := fun vs H Q _ => ∃ (v u : V) (k : Book) (pl : List (Option Int)), vs = [v, u] ∧ IsBook K H v k ∧ k.Ok ∧ IsPlan K H u pl ∧ PlOk k.bs.length pl ∧ ∀ H' p, Ext [] H H' → H p = none → IsList K H' p (fullA k pl) → Q (.ref p) H'
theorem ok_full_stretches (T : Facts A K mg base) : FnOk P w K mg base CX0 2 A.a_full_stretches A.d_full_stretches ["book", "plan"] (spFullStretches K) := by
  refine T.F_full_stretches.ok sc_full_stretches (fun vs H Q E h => ?_) (fun cdv A1 outer s H vs Q E hr h => ?_)
  · obtain ⟨v, u, k, pl, rfl, _⟩ := h
    rfl
  · obtain ⟨v, u, k, pl, rfl, ⟨a, r, bb, rfl, t0, ir, ⟨ba, bs, rfl, t2, pb⟩⟩, ok, ⟨pa, rfl, tp⟩, okp, q⟩ := h
    refine ⟨_, PSs.nox (pss_cons (ps_asg (pv 0) (pg_tup (by rfl) (pgs_cons (pg_name (i := 2) sc_full_stretches.nd rfl (Or.inl rfl)) (pgs_cons (pg_name (i := 3) sc_full_stretches.nd rfl (Or.inl rfl)) pgs_nil))))
      (pss_cons (ps_set (i := 4) sc_full_stretches.nd rfl (Or.inl rfl) (pe_lst pa_nil))
      (pss_cons (ps_for PassesOwn.never rfl (pi_list (pe_call (ok_hours_of T) (hr.mono (by decide)) (by rfl) T.g_hours_of T.F_hours_of.kp T.b_hours_of .nil pass0 (pa_cons (pv 1) pa_nil))) (pg_name (i := 5) sc_full_stretches.nd rfl (Or.inl rfl)) (pss_cons (ps_set (i := 6) sc_full_stretches.nd rfl (Or.inl rfl) (pe_call (ok_members T) (hr.mono (by decide)) (by rfl) T.g_members T.F_members.kp T.b_members .nil pass0 (pa_cons (pv 1) (pa_cons (pv 5) pa_nil))))
      (pss_one (ps_for PassesOwn.never rfl (GE.pi_enumT (by rfl) T.n_enumerate (pa_cons (pv 2) pa_nil)) (pg_tup (by rfl) (pgs_cons (pg_name (i := 7) sc_full_stretches.nd rfl (Or.inl rfl)) (pgs_cons (pg_tup (by rfl) (pgs_cons (pg_name (i := 8) sc_full_stretches.nd rfl (Or.inl rfl)) (pgs_cons (pg_name (i := 9) sc_full_stretches.nd rfl (Or.inl rfl)) (pgs_cons (pg_name (i := 8) sc_full_stretches.nd rfl (Or.inl rfl)) pgs_nil)))) pgs_nil))) (pss_cons (ps_set (i := 10) sc_full_stretches.nd rfl (Or.inl rfl) (pe_call (ok_many_on T) (hr.mono (by decide)) (by rfl) T.g_many_on T.F_many_on.kp T.b_many_on .nil pass0 (pa_cons (pv 3) (pa_cons (pv 6) (pa_cons (pv 7) pa_nil)))))
      (pss_one (ps_if (pt_cmpR op_gt (pv 10) (pv 9) (nomark _)) (pss_one (ps_expr (pe_bm PySem.F.plainAttrs_list PySem.F.slot_list_append PySem.F.type_list_append mt_append (pv 4) (pa_cons (pe_tup (pa_cons pe_str (pa_cons (pv 5) (pa_cons (pv 7) (pa_cons (pv 10) pa_nil))))) pa_nil)))) pss_nil)))))))
      (pss_one (ps_ret (pv 4)))))), ?_⟩
    obtain ⟨ra, rs, rfl, t1, pr⟩ := id ir
    have lr := plen pr
    have lp := okp.len
    have n7 := ok.n7
    have n8 := ok.rv.n8
    refine ⟨_, rfl, a, _, rfl, t0, rfl, _, _, rfl, _, _, rfl, rfl, ?_⟩
    refine ⟨Nat.zero_le _, fun L hL => ?_⟩
    have e0 : Ext [] H (upd H L (.lst [])) := Ext.new hL
    refine ⟨_, rfl, _, k.bs.length, pl, rfl, ⟨pa, rfl, e0.sqT tp⟩, okp, n7, fun H1 W e1 hW hW1 => ?_⟩
    have nWL : W ≠ L := (ne_of_none upd_same hW).symm
    have e01 := e0.trans e1
    refine ⟨W, rfl, ⟨_, .inl (.inl hW1)⟩, for_list (xs := (hoursL pl).map V.int) (fun i σ H2 => ∃ y5 y6 y7 y8 y9 y10, σ = [some (.ref a), some (.ref pa), some (.ref ra), some (.ref ba), some (.ref L), y5, y6, y7, y8, y9, y10] ∧ i ≤ (hoursL pl).length ∧ Ext [L] H1 H2 ∧ IsList K H2 L (((hoursL pl).take i).flatMap (fullH k pl)))
      ⟨none, none, none, none, none, none, rfl, Nat.zero_le _, Ext.refl, e1.rows (by simp) IsList.new⟩ (fun i σ H2 _ z => ?_) (fun i x σ H2 hx z => ?_) (fun σ H2 z => ?_)⟩
    · obtain ⟨_, _, _, _, _, _, _, _, f, _⟩ := z
      exact .inl (.inl (f.lst W _ (by simp [nWL]) hW1))
    · obtain ⟨h, hh, rfl⟩ : ∃ h : Int, (hoursL pl)[i]? = some h ∧ x = V.int h := by
        rw [List.getElem?_map] at hx
        cases e : (hoursL pl)[i]? with
        | none => rw [e] at hx; cases hx
        | some n => rw [e] at hx; exact ⟨n, rfl, (Option.some.inj hx).symm⟩
      obtain ⟨y5, y6, y7, y8, y9, y10, rfl, _, f2, hl2⟩ := z
      have hi : i < (hoursL pl).length := (List.getElem?_eq_some_iff.mp hh).1
      have g2 := e01.born hL f2
      refine ⟨_, rfl, _, rfl, _, pl, h, rfl, ⟨pa, rfl, g2.sqT tp⟩, by omega, fun H3 M e3 hM hM3 => ?_⟩
      have nML : M ≠ L := by
        obtain ⟨_, z, _⟩ := hl2
        exact (ne_of_none z hM).symm
      have g3 := g2.trans e3
      have bnd : (((hoursL pl).take i).flatMap (fullH k pl)).length ≤ 96 := fullT_le ok pl i
      refine ⟨.ref ra, rfl, ra, rs, rfl, g3.sqT t1, for_enumT (xs := rs) (fun j σ H4 => ∃ y7 y8 y9 y10, σ = [some (.ref a), some (.ref pa), some (.ref ra), some (.ref ba), some (.ref L), some (.int h), some (.ref M), y7, y8, y9, y10] ∧ j ≤ rs.length ∧ Ext [L] H3 H4 ∧ IsList K H4 L (((hoursL pl).take i).flatMap (fullH k pl) ++ cat (fullR k pl h) j))
        ⟨y7, y8, y9, y10, rfl, Nat.zero_le _, Ext.refl, by rw [cat_zero, List.append_nil]; exact e3.rows (by simp) hl2⟩ (fun j σ H4 _ z => ?_) (fun j x σ H4 S hx z hS => ?_) (fun σ H4 z => ?_)⟩
      · obtain ⟨_, _, _, _, _, _, f, _⟩ := z
        exact f.sqT (g3.sqT t1)
      · obtain ⟨y7, y8, y9, y10, rfl, _, f4, us, hL4, pu⟩ := z
        obtain ⟨st, hst, sa, sd, rfl, u1, u2⟩ := pget pr hx
        have hj : j < rs.length := (List.getElem?_eq_some_iff.mp hx).1
        have e5 : Ext [] H4 (upd H4 S (.tup [.int (j : Nat), .ref sa])) := Ext.new hS
        have g4 := g3.born hL f4
        have lu := plen pu
        have bu : us.length ≤ 200 := by
          rw [lu, List.length_append]
          have := cat_le (fullR_le k pl h) j
          omega
        refine ⟨S, _, rfl, sqT_new, rfl, _, _, rfl, _, _, rfl, sa, _, rfl, (g4.trans e5).sqT u1, rfl, _, _, rfl, _, _, rfl, _, _, rfl, rfl, rfl, ?_⟩
        have hM5 := e5.lst M _ (by simp) (f4.lst M _ (by simp [nML]) hM3)
        have hL5 := e5.lst L _ (by simp) hL4
        refine ⟨_, rfl, _, rfl, _, rfl, _, M, k, memN pl h pl.length, j, rfl, (g4.trans e5).barges ⟨ba, bs, rfl, t2, pb⟩, hM5, fun x hx => by have := memN_lt hx; omega, by have := memN_le pl h pl.length; omega, fun H6 e6 => ?_⟩
        have hL6 := e6.lst L _ (by simp) hL5
        have pu6 := Paired.mapP pu fun _ _ z => (e5.trans e6).row z
        refine ⟨_, rfl, _, rfl, _, _, rfl, rfl, _, rfl, ite2 (fun c => ?_) (fun c => ?_)⟩
        · refine ⟨_, rfl, .inl ⟨rfl, _, .inl (.inl hL6)⟩, _, rfl, _, rfl, _, rfl, by show 4 ≤ sizeLine; decide, fun t ht => ?_⟩
          have e7 := Ext.new (ex := []) (o := .tup [.str "full", .int h, .int (j : Int), .int ((onL k pl h j).length : Int)]) ht
          have hL7 := e7.lst L _ (by simp) hL6
          refine ⟨L, _, _, rfl, rfl, hL7, small1000 (by omega), ?_⟩
          refine ⟨_, _, _, _, rfl, by omega, (f4.trans ((e5.trans e6).mono (by simp))).trans ((Ext.new ht).trans (Ext.wr (by simp) hL7)), ?_⟩
          rw [cat_succ, ← List.append_assoc]
          have es : fullR k pl h j = [[f_full, .i h, .i j, .i ((onL k pl h j).length : Int)]] := by
            unfold fullR
            rw [if_pos (by rw [strN_of hst]; exact of_decide_eq_true c)]
          rw [es]
          exact rows_push hL7 (Paired.mapP pu6 fun _ _ z => e7.row z) (isRow_new rfl)
        · refine ⟨_, _, _, _, rfl, by omega, f4.trans ((e5.trans e6).mono (by simp)), ?_⟩
          have es : fullR k pl h j = [] := by
            unfold fullR
            rw [if_neg (fun z => c (by rw [strN_of hst] at z; exact decide_eq_true z))]
          rw [cat_succ, es, List.append_nil]
          exact ⟨us, hL6, pu6⟩
      · obtain ⟨y7, y8, y9, y10, rfl, _, f4, hl4⟩ := z
        refine ⟨_, _, _, _, _, _, rfl, by omega, f2.trans ((e3.mono (by simp)).trans f4), ?_⟩
        rw [flat_take hh]
        rw [lr] at hl4
        exact hl4
    · obtain ⟨y5, y6, y7, y8, y9, y10, rfl, _, f2, hl2⟩ := z
      rw [List.length_map, List.take_length] at hl2
      exact ⟨_, rfl, q _ L (e01.born hL f2) hL hl2⟩

def spIsCrossed (K : PySem.W.Frag) : Sp := fun vs H Q _ => ∃ (u v : V) (a b : Barge), vs = [u, v] ∧ IsBarge K H u a ∧ IsBarge K H v b ∧ Q (.bl (decide (crossed a b))) H
theorem ok_is_crossed (T : Facts A K mg base) : FnOk P w K mg base CX0 1 A.a_is_crossed A.d_is_crossed ["first", "second"] (spIsCrossed K) := by
  refine T.F_is_crossed.ok sc_is_crossed (fun vs H Q E h => ?_) (fun cdv A1 outer s H vs Q E hr h => ?_)
  · obtain ⟨u, v, a, b, rfl, _⟩ := h
    rfl
  · obtain ⟨u, v, a, b, rfl, ⟨xa, rfl, ta⟩, ⟨xb, rfl, tb⟩, q⟩ := h
    refine ⟨_, PSs.nox (pss_one (ps_ret (GC.pe_ch3 op_lt op_lt op_lt (pe_ix ix_seq (pv 0) pe_int (fun _ _ => rfl)) (pe_ix ix_seq (pv 1) pe_int (fun _ _ => rfl)) (pe_ix ix_seq (pv 0) pe_int (fun _ _ => rfl)) (pe_ix ix_seq (pv 1) pe_int (fun _ _ => rfl))))), ?_⟩
    refine ⟨_, rfl, .inr (.inl ⟨xa, _, 0, _, rfl, rfl, ta, atI_nat (j := 0) rfl, _, rfl, .inr (.inl ⟨xb, _, 0, _, rfl, rfl, tb, atI_nat (j := 0) rfl, ?_⟩)⟩)⟩
    refine ⟨_, _, rfl, rfl, _, rfl, ite2 (fun c => ?_) (fun c => ?_)⟩
    · refine ⟨_, rfl, .inr (.inl ⟨xa, _, 1, _, rfl, rfl, ta, atI_nat (j := 1) rfl, ?_⟩)⟩
      refine ⟨_, _, rfl, rfl, _, rfl, ite2 (fun c2 => ?_) (fun c2 => ?_)⟩
      · refine ⟨_, rfl, .inr (.inl ⟨xb, _, 1, _, rfl, rfl, tb, atI_nat (j := 1) rfl, _, _, rfl, rfl, ?_⟩)⟩
        show Q (.bl (decide (a.g < b.g))) H
        rw [show decide (a.g < b.g) = decide (crossed a b) by
          have h1 := of_decide_eq_true c
          have h2 := of_decide_eq_true c2
          by_cases h : a.g < b.g
          · rw [decide_eq_true h, decide_eq_true (show crossed a b from ⟨h1, h2, h⟩)]
          · rw [decide_eq_false h, decide_eq_false (show ¬ crossed a b from fun z => h z.2.2)]]
        exact q
      · rw [decide_eq_false (show ¬ crossed a b from fun z => c2 (decide_eq_true z.2.1))] at q
        exact q
    · rw [decide_eq_false (show ¬ crossed a b from fun z => c (decide_eq_true z.1))] at q
      exact q

def spCrossedBarges (K : PySem.W.Frag) : Sp := fun vs H Q _ => ∃ (v u : V) (k : Book) (pl : List (Option Int)), vs = [v, u] ∧ IsBook K H v k ∧ k.Ok ∧ IsPlan K H u pl ∧ PlOk k.bs.length pl ∧ ∀ H' p, Ext [] H H' → H p = none → IsList K H' p (crossA k pl) → Q (.ref p) H'
theorem ok_crossed_barges (T : Facts A K mg base) : FnOk P w K mg base CX0 2 A.a_crossed_barges A.d_crossed_barges ["book", "plan"] (spCrossedBarges K) := by
  refine T.F_crossed_barges.ok sc_crossed_barges (fun vs H Q E h => ?_) (fun cdv A1 outer s H vs Q E hr h => ?_)
  · obtain ⟨v, u, k, pl, rfl, _⟩ := h
    rfl
  · obtain ⟨v, u, k, pl, rfl, ⟨a, r, bb, rfl, t0, ir, ⟨ba, bs, rfl, t2, pb⟩⟩, ok, ⟨pa, rfl, tp⟩, okp, q⟩ := h
    refine ⟨_, PSs.nox (pss_cons (ps_set (i := 2) sc_crossed_barges.nd rfl (Or.inl rfl) (pe_ix ix_seq (pv 0) pe_int (fun _ _ => rfl)))
      (pss_cons (ps_set (i := 3) sc_crossed_barges.nd rfl (Or.inl rfl) (pe_lst pa_nil))
      (pss_cons (ps_for PassesOwn.never rfl (GE.pi_enumT (by rfl) T.n_enumerate (pa_cons (pv 1) pa_nil)) (pg_tup (by rfl) (pgs_cons (pg_name (i := 4) sc_crossed_barges.nd rfl (Or.inl rfl)) (pgs_cons (pg_name (i := 5) sc_crossed_barges.nd rfl (Or.inl rfl)) pgs_nil))) (pss_one (ps_if (pt_cmpR op_notN (pv 5) pe_non (nomark _)) (pss_one (ps_for PassesOwn.never rfl (pi_list (pe_call (ok_members T) (hr.mono (by decide)) (by rfl) T.g_members T.F_members.kp T.b_members .nil pass0 (pa_cons (pv 1) (pa_cons (pv 5) pa_nil)))) (pg_name (i := 6) sc_crossed_barges.nd rfl (Or.inl rfl)) (pss_one (ps_if (pt_val (pe_call (ok_is_crossed T) (hr.mono (by decide)) (by rfl) T.g_is_crossed T.F_is_crossed.kp T.b_is_crossed .nil pass0 (pa_cons (pe_ix ix_seq (pv 2) (pv 4) (fun _ _ => rfl)) (pa_cons (pe_ix ix_seq (pv 2) (pv 6) (fun _ _ => rfl)) pa_nil)))) (pss_one (ps_expr (pe_bm PySem.F.plainAttrs_list PySem.F.slot_list_append PySem.F.type_list_append mt_append (pv 3) (pa_cons (pe_tup (pa_cons pe_str (pa_cons (pv 4) (pa_cons (pv 6) pa_nil)))) pa_nil)))) pss_nil)))) pss_nil)))
      (pss_one (ps_ret (pv 3)))))), ?_⟩
    have lp := okp.len
    have n7 := ok.n7
    refine ⟨_, rfl, .inr (.inl ⟨a, _, 1, _, rfl, rfl, t0, atI_nat (j := 1) rfl, ?_⟩)⟩
    refine ⟨Nat.zero_le _, fun L hL => ?_⟩
    have e0 : Ext [] H (upd H L (.lst [])) := Ext.new hL
    refine ⟨.ref pa, rfl, pa, _, rfl, e0.sqT tp, for_enumT (xs := pl.map oV) (fun i σ H1 => ∃ y4 y5 y6, σ = [some (.ref a), some (.ref pa), some (.ref ba), some (.ref L), y4, y5, y6] ∧ i ≤ pl.length ∧ Ext [] H H1 ∧ IsList K H1 L (cat (crossR k pl) i))
      ⟨none, none, none, rfl, Nat.zero_le _, e0, IsList.new⟩ (fun i σ H1 _ z => ?_) (fun i x σ H1 S hx z hS => ?_) (fun σ H1 z => ?_)⟩
    · obtain ⟨_, _, _, _, _, e, _⟩ := z
      exact e.sqT tp
    · obtain ⟨o, ho, rfl⟩ := map_get hx
      obtain ⟨y4, y5, y6, rfl, _, e1, vs, hL1, pv⟩ := z
      have hi : i < pl.length := (List.getElem?_eq_some_iff.mp ho).1
      have e2 : Ext [] H1 (upd H1 S (.tup [.int (i : Nat), oV o])) := Ext.new hS
      have hL2 := e2.lst L _ (by simp) hL1
      refine ⟨S, _, rfl, sqT_new, rfl, _, _, rfl, _, _, rfl, rfl, ?_⟩
      cases o with
      | none =>
        refine ⟨_, rfl, rfl, _, rfl, iteNS rfl ⟨_, _, _, rfl, by omega, e1.trans e2, ?_⟩⟩
        rw [cat_succ, crossR_none ho, List.append_nil]
        exact ⟨vs, hL2, Paired.mapP pv fun _ _ z => e2.row z⟩
      | some h =>
        obtain ⟨b1, hb1⟩ : ∃ bb, k.bs[i]? = some bb := ⟨k.bs[i], List.getElem?_eq_getElem (by omega)⟩
        obtain ⟨x1, hx1, ib1⟩ := pgetR pb hb1
        have f2 := e1.trans e2
        have bnd := cat_le (crossR_le k pl (by omega)) i
        refine ⟨_, rfl, rfl, _, rfl, iteN (by simp [oV]) ?_⟩
        refine ⟨_, rfl, _, rfl, _, pl, h, rfl, ⟨pa, rfl, f2.sqT tp⟩, by omega, fun H3 M e3 hM hM3 => ?_⟩
        have nML : M ≠ L := (ne_of_none hL2 hM).symm
        have g3 := f2.trans e3
        refine ⟨M, rfl, ⟨_, .inl (.inl hM3)⟩, for_list (xs := natsV (memN pl h pl.length)) (fun j σ H4 => ∃ y6, σ = [some (.ref a), some (.ref pa), some (.ref ba), some (.ref L), some (.int (i : Int)), some (.int h), y6] ∧ j ≤ (memN pl h pl.length).length ∧ Ext [L] H3 H4 ∧ IsList K H4 L (cat (crossR k pl) i ++ ((memN pl h pl.length).take j).flatMap (crossO k i)))
          ⟨y6, rfl, Nat.zero_le _, Ext.refl, by show IsList K H3 L (_ ++ []); rw [List.append_nil]; exact ⟨vs, e3.lst L _ (by simp) hL2, Paired.mapP pv fun _ _ z => (e2.trans e3).row z⟩⟩ (fun j σ H4 _ z => ?_) (fun j x σ H4 hx z => ?_) (fun σ H4 z => ?_)⟩
        · obtain ⟨_, _, _, f, _⟩ := z
          exact .inl (.inl (f.lst M _ (by simp [nML]) hM3))
        · obtain ⟨n, hn, rfl⟩ : ∃ n : Nat, (memN pl h pl.length)[j]? = some n ∧ x = V.int (n : Int) := by
            unfold natsV at hx
            rw [List.getElem?_map] at hx
            cases e : (memN pl h pl.length)[j]? with
            | none => rw [e] at hx; cases hx
            | some n => rw [e] at hx; exact ⟨n, rfl, (Option.some.inj hx).symm⟩
          obtain ⟨y6, rfl, _, f4, us, hL4, pu⟩ := z
          have hj : j < (memN pl h pl.length).length := (List.getElem?_eq_some_iff.mp hn).1
          have hnl := memN_lt (List.mem_of_getElem? hn)
          have ml := memN_le pl h pl.length
          obtain ⟨b2, hb2⟩ : ∃ bb, k.bs[n]? = some bb := ⟨k.bs[n], List.getElem?_eq_getElem (by omega)⟩
          obtain ⟨x2, hx2, ib2⟩ := pgetR pb hb2
          have g4 := g3.born hL f4
          have lu := plen pu
          have bu : us.length ≤ 100 := by
            rw [lu, List.length_append]
            have := flat_le (crossO_le k i) ((memN pl h pl.length).take j)
            rw [List.length_take] at this
            omega
          refine ⟨_, rfl, _, rfl, .inr (.inl ⟨ba, bs, _, _, rfl, rfl, g4.sqT t2, atI_nat hx1, _, rfl, _, rfl, .inr (.inl ⟨ba, bs, _, _, rfl, rfl, g4.sqT t2, atI_nat hx2, ?_⟩)⟩)⟩
          refine ⟨_, _, b1, b2, rfl, g4.barge ib1, g4.barge ib2, _, rfl, ite2 (fun c => ?_) (fun c => ?_)⟩
          · refine ⟨_, rfl, .inl ⟨rfl, _, .inl (.inl hL4)⟩, _, rfl, _, rfl, by show 3 ≤ sizeLine; decide, fun t ht => ?_⟩
            have e7 := Ext.new (ex := []) (o := .tup [.str "crossed", .int (i : Int), .int (n : Int)]) ht
            have hL7 := e7.lst L _ (by simp) hL4
            refine ⟨L, _, _, rfl, rfl, hL7, small1000 (by omega), ?_⟩
            refine ⟨_, rfl, by omega, f4.trans ((Ext.new ht).trans (Ext.wr (by simp) hL7)), ?_⟩
            rw [flat_take hn, ← List.append_assoc, crossO_of hb1 hb2, if_pos (of_decide_eq_true c)]
            exact rows_push hL7 (Paired.mapP pu fun _ _ z => e7.row z) (isRow_new rfl)
          · refine ⟨_, rfl, by omega, f4, ?_⟩
            rw [flat_take hn, crossO_of hb1 hb2, if_neg (fun z => c (decide_eq_true z)), List.append_nil]
            exact ⟨us, hL4, pu⟩
        · obtain ⟨y6, rfl, _, f4, hl4⟩ := z
          refine ⟨_, _, _, rfl, by omega, g3.born hL f4, ?_⟩
          unfold natsV at hl4
          rw [List.length_map, List.take_length, crossM] at hl4
          rw [cat_succ, crossR_some ho]
          exact hl4
    · obtain ⟨y4, y5, y6, rfl, _, e1, hl⟩ := z
      rw [List.length_map] at hl
      exact ⟨_, rfl, q _ L e1 hL hl⟩

def spAllAgainst (A : Ad) (K : PySem.W.Frag) : Sp := fun vs H Q _ => ∃ (v u : V) (k : Book) (pl : List (Option Int)), vs = [v, u] ∧ IsBook K H v k ∧ k.Ok ∧ IsPlan K H u pl ∧ PlOk k.bs.length pl ∧ Tabs A H ∧ ∀ H' p, Ext [] H H' → H p = none → IsList K H' p (allR k pl) → Q (.ref p) H'
theorem ok_all_against (T : Facts A K mg base) : FnOk P w K mg base CX0 6 A.a_all_against A.d_all_against ["book", "plan"] (spAllAgainst A K) := by
  refine T.F_all_against.ok sc_all_against (fun vs H Q E h => ?_) (fun cdv A1 outer s H vs Q E hr h => ?_)
  · obtain ⟨v, u, k, pl, rfl, _⟩ := h
    rfl
  · obtain ⟨v, u, k, pl, rfl, ib, ok, ip, okp, tb, q⟩ := h
    refine ⟨_, PSs.nox (pss_one (ps_ret (pe_op op_cat (pe_op op_cat (pe_call (ok_against_barges T) (hr.mono (by decide)) (by rfl) T.g_against_barges T.F_against_barges.kp T.b_against_barges .nil pass0 (pa_cons (pv 0) (pa_cons (pv 1) pa_nil))) (pe_call (ok_full_stretches T) (hr.mono (by decide)) (by rfl) T.g_full_stretches T.F_full_stretches.kp T.b_full_stretches .nil pass0 (pa_cons (pv 0) (pa_cons (pv 1) pa_nil)))) (pe_call (ok_crossed_barges T) (hr.mono (by decide)) (by rfl) T.g_crossed_barges T.F_crossed_barges.kp T.b_crossed_barges .nil pass0 (pa_cons (pv 0) (pa_cons (pv 1) pa_nil)))))), ?_⟩
    have lp := okp.len
    have n7 := ok.n7
    have b1 := bargesA_le ok pl (by omega)
    have b2 := fullA_le ok pl
    have b3 := crossA_le (k := k) pl (by omega)
    refine ⟨_, rfl, _, rfl, _, _, k, pl, rfl, ib, ok, ip, okp, tb, fun H1 p1 e1 hp1 ⟨vs, h1, v1⟩ => ?_⟩
    refine ⟨_, rfl, _, rfl, _, _, k, pl, rfl, e1.book ib, ok, e1.plan ip, okp, fun H2 p2 e2 hp2 ⟨ws, h2, v2⟩ => ?_⟩
    have h12 := e2.lst p1 _ (by simp) h1
    have v12 := Paired.mapP v1 fun _ _ z => e2.row z
    have l1 := plen v1
    have l2 := plen v2
    refine ⟨p1, p2, _, _, rfl, rfl, h12, h2, Nat.le_of_lt (small1000 (by omega)), fun p3 hp3 => ?_⟩
    have r3 := rows_new hp3 v12 v2
    have e3 : Ext [] H2 (upd H2 p3 (.lst (vs ++ ws))) := Ext.new hp3
    have f3 := e1.trans (e2.trans e3)
    refine ⟨_, rfl, _, rfl, _, _, k, pl, rfl, f3.book ib, ok, f3.plan ip, okp, fun H4 p4 e4 hp4 ⟨xs, h4, v4⟩ => ?_⟩
    obtain ⟨ys, h34, v34⟩ := e4.rows (by simp) r3
    have l3 := plen v34
    have l4 := plen v4
    rw [List.length_append] at l3
    refine ⟨p3, p4, _, _, rfl, rfl, h34, h4, Nat.le_of_lt (small1000 (by omega)), fun p5 hp5 => ?_⟩
    have f4 := f3.trans e4
    exact q _ p5 (f4.trans (Ext.new hp5)) (f4.dom p5 hp5) (rows_new hp5 v34 v4)

def spCheckGood (A : Ad) (K : PySem.W.Frag) : Sp := fun vs H Q _ => ∃ (v u : V) (k : Book) (pl : List (Option Int)), vs = [v, u] ∧ IsBook K H v k ∧ k.Ok ∧ IsPlan K H u pl ∧ PlOk k.bs.length pl ∧ allR k pl = [] ∧ Tabs A H ∧ ∀ H', Ext [] H H' → Q .non H'
theorem ok_check_good (T : Facts A K mg base) : FnOk P w K mg base CX0 7 A.a_check_good A.d_check_good ["book", "plan"] (spCheckGood A K) := by
  refine T.F_check_good.ok sc_check_good (fun vs H Q E h => ?_) (fun cdv A1 outer s H vs Q E hr h => ?_)
  · obtain ⟨v, u, k, pl, rfl, _⟩ := h
    rfl
  · obtain ⟨v, u, k, pl, rfl, ib, ok, ip, okp, good, tb, q⟩ := h
    refine ⟨_, PSs.nox (pss_cons (ps_expr (pe_call (ok_check_plan T) (hr.mono (by decide)) (by rfl) T.g_check_plan T.F_check_plan.kp T.b_check_plan .nil pass0 (pa_cons (pv 0) (pa_cons (pv 1) pa_nil))))
      (pss_one (ps_if (pt_truth (pe_call (ok_all_against T) (hr.mono (by decide)) (by rfl) T.g_all_against T.F_all_against.kp T.b_all_against .nil pass0 (pa_cons (pv 0) (pa_cons (pv 1) pa_nil))) (by intro _; rfl)) (pss_one ps_never) pss_nil))), ?_⟩
    refine ⟨_, rfl, _, rfl, _, _, k, pl, rfl, ib, ok, ip, okp, tb, fun H1 e1 => ?_⟩
    refine ⟨_, rfl, _, rfl, _, _, k, pl, rfl, e1.book ib, ok, e1.plan ip, okp, tb.ext e1, fun H2 p2 e2 hp2 hl => ?_⟩
    rw [good] at hl
    obtain ⟨vs, h2, pv⟩ := hl
    cases pv
    exact ⟨false, .inl ⟨[], .inl (.inl h2), rfl⟩, iteF (q H2 (e1.trans e2))⟩

def spxCheckGood (A : Ad) (K : PySem.W.Frag) : Sp := fun vs H Q E => ∃ (v u : V) (k : Book) (pl : List (Option Int)), vs = [v, u] ∧ IsBook K H v k ∧ k.Ok ∧ IsPlan K H u pl ∧ PlOk k.bs.length pl ∧ Tabs A H ∧ (allR k pl = [] → ∀ H', Ext [] H H' → Q .non H') ∧ (allR k pl ≠ [] → ∀ H', Ext [] H H' → E (.ref A.c_BadPlan) none H')
theorem okx_check_good (T : Facts A K mg base) : FnOk P w K mg base (L2.CX P w) 7 A.a_check_good A.d_check_good ["book", "plan"] (spxCheckGood A K) := by
  refine T.F_check_good.ok sc_check_good (fun vs H Q E h => ?_) (fun cdv A1 outer s H vs Q E hr h => ?_)
  · obtain ⟨v, u, k, pl, rfl, _⟩ := h
    rfl
  · obtain ⟨v, u, k, pl, rfl, ib, ok, ip, okp, tb, q, qE⟩ := h
    refine ⟨_, id (pss_cons (ps_expr (pe_call (ok_check_plan T) (hr.mono (by decide)) (by rfl) T.g_check_plan T.F_check_plan.kp T.b_check_plan .nil pass0 (pa_cons (pv 0) (pa_cons (pv 1) pa_nil))))
      (pss_one (ps_if (GD.pt_tru K (pe_call (ok_all_against T) (hr.mono (by decide)) (by rfl) T.g_all_against T.F_all_against.kp T.b_all_against .nil pass0 (pa_cons (pv 0) (pa_cons (pv 1) pa_nil))) rfl (by intro _; rfl)) (pss_one (ps_raise rfl (takes_of rfl rfl rfl rfl) (pmk_own PySem.F.excBase_ValueError T.x_BadPlan T.g_BadPlan T.kp_BadPlan (raises_own T.sb_BadPlan T.tp_BadPlan) (by rfl)))) pss_nil))), ?_⟩
    refine ⟨_, rfl, _, rfl, _, _, k, pl, rfl, ib, ok, ip, okp, tb, fun H1 e1 => ?_⟩
    refine ⟨_, rfl, _, rfl, _, _, k, pl, rfl, e1.book ib, ok, e1.plan ip, okp, tb.ext e1, fun H2 p2 e2 hp2 hl => ?_⟩
    obtain ⟨vs, h2, pv⟩ := hl
    have lv := plen pv
    cases vs with
    | nil => exact ⟨false, .inl ⟨[], .inl (.inl h2), rfl⟩, iteF (q (List.length_eq_zero_iff.mp lv.symm) H2 (e1.trans e2))⟩
    | cons w ws => exact ⟨true, .inl ⟨_, .inl (.inl h2), rfl⟩, iteT (qE (fun z => by rw [z] at lv; cases lv) H2 (e1.trans e2))⟩

def spxCheckMending (A : Ad) (K : PySem.W.Frag) : Sp := fun vs H Q E => ∃ (v u : V) (k : Book) (pl : List (Option Int)) (now : Int) (i : Nat), vs = [v, u, .int now, .int (i : Int)] ∧ IsBook K H v k ∧ k.Ok ∧ IsPlan K H u pl ∧ PlOk k.bs.length pl ∧ i < pl.length ∧ Tabs A H ∧
  (allR k pl = [] → none ∉ pl → ¬ (pl.getD i none).getD 0 < now → ∀ H', Ext [] H H' → Q .non H') ∧ ((allR k pl ≠ [] ∨ none ∈ pl) → ∀ H', Ext [] H H' → E (.ref A.c_BadPlan) none H') ∧ (allR k pl = [] → none ∉ pl → (pl.getD i none).getD 0 < now → ∀ H', Ext [] H H' → E (.ref A.c_Gone) none H')
theorem okx_check_mending (T : Facts A K mg base) : FnOk P w K mg base (L2.CX P w) 8 A.a_check_mending A.d_check_mending ["book", "plan", "now", "barge"] (spxCheckMending A K) := by
  refine T.F_check_mending.ok sc_check_mending (fun vs H Q E h => ?_) (fun cdv A1 outer s H vs Q E hr h => ?_)
  · obtain ⟨v, u, k, pl, now, i, rfl, _⟩ := h
    rfl
  · obtain ⟨v, u, k, pl, now, i, rfl, ib, ok, ip, okp, hi, tb, q, qP, qG⟩ := h
    refine ⟨_, id (pss_cons (ps_expr (pe_call (okx_check_good T) (hr.mono (by decide)) (by rfl) T.g_check_good T.F_check_good.kp T.b_check_good .nil (passes_call (takes_of rfl rfl rfl rfl) (fun _ _ _ _ h => h)) (pa_cons (pv 0) (pa_cons (pv 1) pa_nil))))
      (pss_cons (ps_if (pt_cmpR op_in_seq pe_non (pv 1) (by rfl)) (pss_one (ps_raise rfl (takes_of rfl rfl rfl rfl) (pmk_own PySem.F.excBase_ValueError T.x_BadPlan T.g_BadPlan T.kp_BadPlan (raises_own T.sb_BadPlan T.tp_BadPlan) (by rfl)))) pss_nil)
      (pss_one (ps_if (PW.pt (pw_and (pt_chain op_le op_lt pe_int (pv 3) (pe_callB call_len_seq (by rfl) T.n_len PySem.boot_len (pa_cons (pv 1) pa_nil))) (pw_and1 (pt_cmpR op_lt (pe_ix ix_seq (pv 1) (pv 3) (fun _ _ => rfl)) (pv 2) (nomark _))))) (pss_one (ps_raise rfl (takes_of rfl rfl rfl rfl) (pmk_own PySem.F.excBase_ValueError T.x_Gone T.g_Gone T.kp_Gone (raises_own T.sb_Gone T.tp_Gone) (by rfl)))) pss_nil)))), ?_⟩
    obtain ⟨pa, rfl, tp⟩ := id ip
    have lp := okp.len
    refine ⟨_, rfl, _, rfl, _, _, k, pl, rfl, ib, ok, ip, okp, tb, fun good H1 e1 => ?_, fun bad H1 e1 => qP (.inl bad) H1 e1⟩
    refine ⟨_, rfl, pa, _, rfl, .inr (e1.sqT tp), rfl, flat_plan pl, decide (none ∈ pl), congrArg V.bl (inV_none pl), ?_⟩
    by_cases hn : none ∈ pl
    · exact iteD hn (qP (.inr hn) H1 e1)
    refine iteDn hn ?_
    refine ⟨_, rfl, _, _, rfl, rfl, _, rfl, iteD (by omega) ⟨_, rfl, pa, _, rfl, .inr (e1.sqT tp), _, _, rfl, rfl, _, rfl, ?_⟩⟩
    refine iteD (by rw [List.length_map]; omega) ?_
    obtain ⟨o, ho⟩ : ∃ o, pl[i]? = some o := ⟨pl[i], List.getElem?_eq_getElem hi⟩
    have hoV : (pl.map oV)[i]? = some (oV o) := by rw [List.getElem?_map, ho]; rfl
    rw [getD_of ho] at q qG
    cases o with
    | none => exact absurd (List.mem_of_getElem? ho) hn
    | some h =>
      refine ⟨_, rfl, _, rfl, .inr (.inl ⟨pa, _, _, _, rfl, rfl, e1.sqT tp, atI_nat hoV, _, rfl, _, _, rfl, rfl, _, rfl, ?_⟩)⟩
      by_cases c : h < now
      · exact iteD c (qG good hn c H1 e1)
      · exact iteDn c (q good hn c H1 e1)

def spStanding (A : Ad) (K : PySem.W.Frag) : Sp := fun vs H Q _ => ∃ (u : V) (pl : List (Option Int)) (now : Int), vs = [u, .int now] ∧ IsPlan K H u pl ∧ pl.length ≤ 7 ∧ none ∉ pl ∧ Tabs A H ∧ ∀ H' v, Ext [] H H' → IsPlan K H' v (standP pl now) → Q v H'
theorem ok_standing (T : Facts A K mg base) : FnOk P w K mg base CX0 2 A.a_standing A.d_standing ["plan", "now"] (spStanding A K) := by
  refine GX.okT T.F_standing T.h_standing sc_standing (fun vs H Q E h => ?_) (fun A1 outer s H vs Q E hr h => ?_)
  · obtain ⟨u, pl, now, rfl, _⟩ := h
    rfl
  · obtain ⟨u, pl, now, rfl, ⟨pa, rfl, tp⟩, n7, hn, tb, q⟩ := h
    refine ⟨_, PSs.nox (pss_one (ps_ret (GX.pe_tupleG (own := [("hour", 2)]) (g := (gName 2)) hr (by rfl) T.n_tuple T.t_standing rfl (GX.genOk_by (own := [("hour", 2)]) (N := ["plan", "now", "hour"]) (sc := defScope s_standing) (by decide +kernel)) sc_standing.nd (pi_tup (pv 0)) (fun _ _ _ _ _ _ _ => (pg_name (i := 2) sc_standing.nd rfl (Or.inl rfl))) (fun _ _ _ _ _ _ _ => pts_nil) (fun _ _ _ _ _ _ _ => (pe_ifExp (pt_cmpR op_lt (pv 2) (pv 1) (nomark _)) (pv 2) pe_non))))), ?_⟩
    refine tupG_tup (xs := pl.map oV) rfl tp tb.standing (fun i z H2 => Ext [] H H2 ∧ i ≤ pl.length ∧ z = ((pl.take i).map (standO now)).map oV) (fun H2 hT => ⟨Ext.tab tb.standing hT, Nat.zero_le _, rfl⟩) (fun _ _ _ _ e => e.1.sqT tp) (fun i x z H2 hx e => ?_) (fun z H2 e => ?_)
    · obtain ⟨o, ho, rfl⟩ := map_get hx
      obtain ⟨e, _, rfl⟩ := e
      have hi : i < pl.length := (List.getElem?_eq_some_iff.mp ho).1
      have ln : (((pl.take i).map (standO now)).map oV).length < sizeLine := small1000 (by rw [List.length_map, List.length_map, List.length_take]; omega)
      have step : ((pl.take (i + 1)).map (standO now)).map oV = ((pl.take i).map (standO now)).map oV ++ [oV (standO now o)] := by
        rw [map_take ho, List.map_append]
        rfl
      cases o with
      | none => exact absurd (List.mem_of_getElem? ho) hn
      | some h =>
        refine ⟨rfl, yesT ⟨_, rfl, _, rfl, _, _, rfl, rfl, _, rfl, ?_⟩⟩
        by_cases c : h < now
        · refine iteD c ⟨_, rfl, ln, e, hi, ?_⟩
          have es : standO now (some h) = some h := if_pos c
          exact (step.trans (congrArg (fun o => ((pl.take i).map (standO now)).map oV ++ [oV o]) es)).symm
        · refine iteDn c ⟨ln, e, hi, ?_⟩
          have es : standO now (some h) = none := if_neg c
          exact (step.trans (congrArg (fun o => ((pl.take i).map (standO now)).map oV ++ [oV o]) es)).symm
    · obtain ⟨e, _, rfl⟩ := e
      have hl : (pl.map oV).length = pl.length := List.length_map ..
      rw [hl, List.take_length]
      exact ⟨Nat.le_of_lt (small1000 (by rw [List.length_map, List.length_map]; omega)), fun p hp => q _ _ (e.trans (Ext.new hp)) ⟨p, rfl, sqT_new⟩⟩

def spxLate (A : Ad) (K : PySem.W.Frag) : Sp := fun vs H Q E => ∃ (v u x : V) (k : Book) (pl : List (Option Int)) (now : Int) (i : Nat), vs = [v, u, .int now, .int (i : Int), x] ∧ IsBook K H v k ∧ k.Ok ∧ IsPlan K H u pl ∧ PlOk k.bs.length pl ∧ i < pl.length ∧ Sca x ∧ Tabs A H ∧
  (∀ r, x = .int r → numB 0 99 x = true → allR k pl = [] → none ∉ pl → ¬ (pl.getD i none).getD 0 < now → ∀ H' p, Ext [] H H' → (∃ bv uv, SqT K H' p [bv, uv] ∧ IsBook K H' bv (lateB k i r) ∧ IsPlan K H' uv (standP pl now)) → Q (.ref p) H') ∧
  (numB 0 99 x = false → allR k pl = [] → none ∉ pl → ¬ (pl.getD i none).getD 0 < now → ∀ H', Ext [] H H' → E (.ref A.c_BadBook) none H') ∧
  ((allR k pl ≠ [] ∨ none ∈ pl) → ∀ H', Ext [] H H' → E (.ref A.c_BadPlan) none H') ∧ (allR k pl = [] → none ∉ pl → (pl.getD i none).getD 0 < now → ∀ H', Ext [] H H' → E (.ref A.c_Gone) none H')
theorem okx_late (T : Facts A K mg base) : FnOk P w K mg base (L2.CX P w) 9 A.a_late A.d_late ["book", "plan", "now", "barge", "ready"] (spxLate A K) := by
  refine T.F_late.ok sc_late (fun vs H Q E h => ?_) (fun cdv A1 outer s H vs Q E hr h => ?_)
  · obtain ⟨v, u, x, k, pl, now, i, rfl, _⟩ := h
    rfl
  · obtain ⟨v, u, x, k, pl, now, i, rfl, ib, ok, ip, okp, hi, sc, tb, q, qB, qP, qG⟩ := h
    refine ⟨_, id (pss_cons (ps_expr (pe_call (okx_check_mending T) (hr.mono (by decide)) (by rfl) T.g_check_mending T.F_check_mending.kp T.b_check_mending .nil (passes_call (takes_of rfl rfl rfl rfl) (fun _ _ _ _ h => h)) (pa_cons (pv 0) (pa_cons (pv 1) (pa_cons (pv 2) (pa_cons (pv 3) pa_nil))))))
      (pss_cons (ps_if (pt_not (pt_val (pe_call (okn_is_ready T) (hr.mono (by decide)) (by rfl) T.g_is_ready T.F_is_ready.kp T.b_is_ready .nil pass0 (pa_cons (pv 4) pa_nil)))) (pss_one (ps_raise rfl (takes_of rfl rfl rfl rfl) (pmk_own PySem.F.excBase_ValueError T.x_BadBook T.g_BadBook T.kp_BadBook (raises_own T.sb_BadBook T.tp_BadBook) (by rfl)))) pss_nil)
      (pss_cons (ps_asg (pv 0) (pg_tup (by rfl) (pgs_cons (pg_name (i := 5) sc_late.nd rfl (Or.inl rfl)) (pgs_cons (pg_name (i := 6) sc_late.nd rfl (Or.inl rfl)) pgs_nil))))
      (pss_cons (ps_set (i := 7) sc_late.nd rfl (Or.inl rfl) (pe_lst pa_nil))
      (pss_cons (ps_for (passes_of rfl) rfl (GE.pi_enumT (by rfl) T.n_enumerate (pa_cons (pv 6) pa_nil)) (pg_tup (by rfl) (pgs_cons (pg_name (i := 8) sc_late.nd rfl (Or.inl rfl)) (pgs_cons (pg_name (i := 9) sc_late.nd rfl (Or.inl rfl)) pgs_nil))) (pss_one (ps_expr (pe_bm PySem.F.plainAttrs_list PySem.F.slot_list_append PySem.F.type_list_append mt_append (pv 7) (pa_cons (pe_ifExp (pt_cmpR op_eq (pv 8) (pv 3) (nomark _)) (pe_tup (pa_cons (pe_ix ix_seq (pv 9) pe_int (fun _ _ => rfl)) (pa_cons (pe_ix ix_seq (pv 9) pe_int (fun _ _ => rfl)) (pa_cons (pe_ix ix_seq (pv 9) pe_int (fun _ _ => rfl)) (pa_cons (pv 4) (pa_cons (pe_ix ix_seq (pv 9) pe_int (fun _ _ => rfl)) pa_nil)))))) (pv 9)) pa_nil)))))
      (pss_one (ps_ret (pe_tup (pa_cons (pe_tup (pa_cons (pv 5) (pa_cons (pe_callTy call_tuple_of (by rfl) T.n_tuple (by decide +kernel) (pa_cons (pv 7) pa_nil)) pa_nil))) (pa_cons (pe_call (ok_standing T) (hr.mono (by decide)) (by rfl) T.g_standing T.F_standing.kp T.b_standing .nil pass0 (pa_cons (pv 1) (pa_cons (pv 2) pa_nil))) pa_nil)))))))))), ?_⟩
    have n7 := ok.n7
    have lp := okp.len
    refine ⟨_, rfl, _, rfl, _, rfl, _, rfl, _, _, k, pl, now, i, rfl, ib, ok, ip, okp, hi, tb, fun good hn hg H1 e1 => ?_, qP, qG⟩
    refine ⟨_, rfl, _, rfl, sc, ?_⟩
    obtain ⟨bb, hbb⟩ : ∃ bb, numB 0 99 x = bb := ⟨_, rfl⟩
    rw [hbb]
    cases bb with
    | false => exact ⟨_, rfl, iteT (qB hbb good hn hg H1 e1)⟩
    | true =>
      refine ⟨_, rfl, iteF ?_⟩
      obtain ⟨r, rfl⟩ : ∃ r, x = .int r := by
        cases sc with
        | int r => exact ⟨r, rfl⟩
        | bl b => cases hbb
        | str z => cases hbb
        | non => cases hbb
      obtain ⟨a, rr, b, rfl, t0, ir, ⟨ba, bs, rfl, t2, pb⟩⟩ := e1.book ib
      obtain ⟨pa, rfl, tp⟩ := e1.plan ip
      have lb := plen pb
      refine ⟨_, rfl, a, _, rfl, t0, rfl, _, _, rfl, _, _, rfl, rfl, ?_⟩
      refine ⟨Nat.zero_le _, fun L hL => ?_⟩
      have e0 : Ext [] H1 (upd H1 L (.lst [])) := Ext.new hL
      refine ⟨_, rfl, ba, _, rfl, e0.sqT t2, for_enumT (xs := bs) (fun j σ H2 => ∃ y8 y9, σ = [some (.ref a), some (.ref pa), some (.int now), some (.int (i : Int)), some (.int r), some rr, some (.ref ba), some (.ref L), y8, y9] ∧ j ≤ bs.length ∧ Ext [] H1 H2 ∧ ∃ us, H2 L = some (.lst us) ∧ Paired (IsBarge K H2) us ((lateB k i r).bs.take j))
        ⟨none, none, rfl, Nat.zero_le _, e0, [], upd_same, .nil⟩ (fun j σ H2 _ z => ?_) (fun j x σ H2 S hx z hS => ?_) (fun σ H2 z => ?_)⟩
      · obtain ⟨_, _, _, _, e, _⟩ := z
        exact e.sqT t2
      · obtain ⟨y8, y9, rfl, _, e1', us, hL1, pu⟩ := z
        obtain ⟨old, hold, xa, rfl, tx⟩ := pget pb hx
        have hj : j < bs.length := (List.getElem?_eq_some_iff.mp hx).1
        have e2 : Ext [] H2 (upd H2 S (.tup [.int (j : Nat), .ref xa])) := Ext.new hS
        have f2 := e1'.trans e2
        have hL2 := e2.lst L _ (by simp) hL1
        have lu := plen pu
        have lt : us.length ≤ 7 := by
          rw [lu, List.length_take]
          omega
        have tx2 := f2.sqT tx
        refine ⟨S, _, rfl, sqT_new, rfl, _, _, rfl, _, _, rfl, rfl, ?_⟩
        refine ⟨_, rfl, .inl ⟨rfl, _, .inl (.inl hL2)⟩, ?_⟩
        refine ⟨_, rfl, _, rfl, rfl, _, rfl, ?_⟩
        have hnew : (lateB k i r).bs[j]? = some (if j = i then { old with r := r } else old) := by
          unfold lateB
          rw [List.getElem?_mapIdx, hold]
          rfl
        have fin : ∀ {H3 : Hp} {w : V}, Ext [] (upd H2 S (.tup [.int (j : Nat), .ref xa])) H3 → IsBarge K H3 w (if j = i then { old with r := r } else old) → ∃ y8 y9 : Option V, [some (.ref a), some (.ref pa), some (.int now), some (.int (i : Int)), some (.int r), some rr, some (.ref ba), some (.ref L), some (V.int (j : Nat)), some (V.ref xa)] = [some (.ref a), some (.ref pa), some (.int now), some (.int (i : Int)), some (.int r), some rr, some (.ref ba), some (.ref L), y8, y9] ∧ j + 1 ≤ bs.length ∧ Ext [] H1 (upd H3 L (.lst (us ++ [w]))) ∧ ∃ us', (upd H3 L (.lst (us ++ [w]))) L = some (.lst us') ∧ Paired (IsBarge K (upd H3 L (.lst (us ++ [w])))) us' ((lateB k i r).bs.take (j + 1)) := fun {H3 w} e3 iw => by
          have hL3 := e3.lst L _ (by simp) hL2
          have wr : Ext [L] H3 (upd H3 L (.lst (us ++ [w]))) := Ext.wr (by simp) hL3
          refine ⟨_, _, rfl, hj, (f2.trans e3).wrNew hL, _, upd_same, ?_⟩
          rw [List.take_add_one, hnew]
          exact papp (Paired.mapP pu fun _ _ z => wr.barge (e3.barge (e2.barge z))) (wr.barge iw)
        by_cases c : j = i
        · refine iteD (by rw [c]) ?_
          refine ⟨_, rfl, .inr (.inl ⟨xa, _, 0, _, rfl, rfl, tx2, atI_nat (j := 0) rfl, _, rfl, .inr (.inl ⟨xa, _, 1, _, rfl, rfl, tx2, atI_nat (j := 1) rfl, _, rfl, .inr (.inl ⟨xa, _, 2, _, rfl, rfl, tx2, atI_nat (j := 2) rfl, _, rfl, _, rfl, .inr (.inl ⟨xa, _, 4, _, rfl, rfl, tx2, atI_nat (j := 4) rfl, by show 5 ≤ sizeLine; decide, fun p hp => ?_⟩)⟩)⟩)⟩)⟩
          have e3 := Ext.new (ex := []) (o := .tup [.int old.b, .int old.g, .int old.d, .int r, .int old.u]) hp
          refine ⟨L, _, _, rfl, rfl, e3.lst L _ (by simp) hL2, small1000 (by omega), fin e3 ⟨p, rfl, ?_⟩⟩
          rw [if_pos c]
          exact sqT_new
        · refine iteDn (by simp; omega) ?_
          refine ⟨_, rfl, L, _, _, rfl, rfl, hL2, small1000 (by omega), fin Ext.refl ⟨xa, rfl, ?_⟩⟩
          rw [if_neg c]
          exact tx2
      · obtain ⟨y8, y9, rfl, _, e1', us, hL1, pu⟩ := z
        have ll : (lateB k i r).bs.length = bs.length := by
          unfold lateB
          rw [List.length_mapIdx]
          omega
        rw [← ll, List.take_length] at pu
        refine ⟨_, rfl, _, rfl, L, _, rfl, .inl ⟨.inl (.inl hL1), fun t3 ht3 => ?_⟩⟩
        have e3 := Ext.new (ex := []) (o := .tup us) ht3
        refine ⟨by show 2 ≤ sizeLine; decide, fun p4 hp4 => ?_⟩
        have e4 := Ext.new (ex := []) (o := .tup [rr, .ref t3]) hp4
        have f4 := e3.trans e4
        refine ⟨_, rfl, _, rfl, _, pl, now, rfl, ⟨pa, rfl, (e1'.trans f4).sqT tp⟩, by omega, hn, tb.ext (e1.trans (e1'.trans f4)), fun H5 w e5 ipw => ?_⟩
        refine ⟨by show 2 ≤ sizeLine; decide, fun p6 hp6 => ?_⟩
        have e6 := Ext.new (ex := []) (o := .tup [.ref p4, w]) hp6
        have g6 := e4.trans (e5.trans e6)
        refine q r rfl hbb good hn hg _ p6 (e1.trans (e1'.trans (e3.trans g6))) ?_
        have ibk : IsBook K (upd H5 p6 (.tup [.ref p4, w])) (.ref p4) (lateB k i r) := by
          refine ⟨p4, rr, .ref t3, rfl, (e5.trans e6).sqT sqT_new, (e1'.trans (e3.trans g6)).river ir, ⟨t3, us, rfl, g6.sqT sqT_new, Paired.mapP pu fun _ _ z => (e3.trans g6).barge z⟩⟩
        exact ⟨_, _, sqT_new, ibk, e6.plan ipw⟩

def spWithout (A : Ad) (K : PySem.W.Frag) : Sp := fun vs H Q _ => ∃ (t : Addr) (xs : List V) (i : Nat), vs = [.ref t, .int (i : Int)] ∧ SqT K H t xs ∧ xs.length ≤ 7 ∧ Tabs A H ∧ ∀ H' p, Ext [] H H' → SqT K H' p (xs.eraseIdx i) → Q (.ref p) H'
theorem ok_without (T : Facts A K mg base) : FnOk P w K mg base CX0 2 A.a_without A.d_without ["row", "at"] (spWithout A K) := by
  refine GX.okT T.F_without T.h_without sc_without (fun vs H Q E h => ?_) (fun A1 outer s H vs Q E hr h => ?_)
  · obtain ⟨t, xs, i, rfl, _⟩ := h
    rfl
  · obtain ⟨t, xs, k, rfl, tt, n7, tb, q⟩ := h
    refine ⟨_, PSs.nox (pss_one (ps_ret (GX.pe_tupleG (own := [("place", 2), ("item", 3)]) (g := (gTup K 2 (gCons (gName 2) (gCons (gName 3) gNil)))) hr (by rfl) T.n_tuple T.t_without rfl (GX.genOk_by (own := [("place", 2), ("item", 3)]) (N := ["row", "at", "place", "item"]) (sc := defScope s_without) (by decide +kernel)) sc_without.nd (GE.pi_enumT (by rfl) T.n_enumerate (pa_cons (pv 0) pa_nil)) (fun _ _ _ _ _ _ _ => (pg_tup (by rfl) (pgs_cons (pg_name (i := 2) sc_without.nd rfl (Or.inl rfl)) (pgs_cons (pg_name (i := 3) sc_without.nd rfl (Or.inl rfl)) pgs_nil)))) (fun _ _ _ _ _ _ _ => (pts_one (pt_cmpR op_ne (pv 2) (pv 1) (nomark _)))) (fun _ _ _ _ _ _ _ => (pv 3))))), ?_⟩
    refine tupG_enumT (xs := xs) rfl tt tb.without (fun i z H2 => Ext [] H H2 ∧ i ≤ xs.length ∧ z = (xs.take i).eraseIdx k) (fun H2 hT => ⟨Ext.tab tb.without hT, Nat.zero_le _, by rw [List.take_zero]; rfl⟩) (fun _ _ _ _ e => e.1.sqT tt) (fun i x z H2 T hx e hT => ?_) (fun z H2 e => ?_)
    · obtain ⟨e, _, rfl⟩ := e
      have hi : i < xs.length := (List.getElem?_eq_some_iff.mp hx).1
      have e2 : Ext [] H2 (upd H2 T (.tup [.int (i : Nat), x])) := Ext.new hT
      have ln : ((xs.take i).eraseIdx k).length < sizeLine := small1000 (by have := List.length_eraseIdx_le (xs.take i) k; rw [List.length_take] at this; omega)
      refine ⟨T, _, rfl, sqT_new, rfl, _, _, rfl, _, _, rfl, rfl, rfl, ?_⟩
      refine ⟨_, rfl, _, rfl, rfl, _, rfl, ?_⟩
      by_cases c : i = k
      · refine iteNS (by rw [c]) ⟨e.trans e2, hi, ?_⟩
        rw [erase_next hx, if_pos c]
      · refine iteN (by simp; omega) ⟨_, rfl, ln, e.trans e2, hi, ?_⟩
        rw [erase_next hx, if_neg c]
    · obtain ⟨e, _, rfl⟩ := e
      rw [List.take_length]
      exact ⟨Nat.le_of_lt (small1000 (by have := List.length_eraseIdx_le xs k; omega)), fun p hp => q _ p (e.trans (Ext.new hp)) sqT_new⟩

def spxLost (A : Ad) (K : PySem.W.Frag) : Sp := fun vs H Q E => ∃ (v u : V) (k : Book) (pl : List (Option Int)) (now : Int) (i : Nat), vs = [v, u, .int now, .int (i : Int)] ∧ IsBook K H v k ∧ k.Ok ∧ IsPlan K H u pl ∧ PlOk k.bs.length pl ∧ i < pl.length ∧ Tabs A H ∧
  (allR k pl = [] → none ∉ pl → ¬ (pl.getD i none).getD 0 < now → ∀ H' p, Ext [] H H' → (∃ bv uv, SqT K H' p [bv, uv] ∧ IsBook K H' bv (⟨k.rv, k.bs.eraseIdx i⟩) ∧ IsPlan K H' uv ((standP pl now).eraseIdx i)) → Q (.ref p) H') ∧
  ((allR k pl ≠ [] ∨ none ∈ pl) → ∀ H', Ext [] H H' → E (.ref A.c_BadPlan) none H') ∧ (allR k pl = [] → none ∉ pl → (pl.getD i none).getD 0 < now → ∀ H', Ext [] H H' → E (.ref A.c_Gone) none H')
theorem okx_lost (T : Facts A K mg base) : FnOk P w K mg base (L2.CX P w) 9 A.a_lost A.d_lost ["book", "plan", "now", "barge"] (spxLost A K) := by
  refine T.F_lost.ok sc_lost (fun vs H Q E h => ?_) (fun cdv A1 outer s H vs Q E hr h => ?_)
  · obtain ⟨v, u, k, pl, now, i, rfl, _⟩ := h
    rfl
  · obtain ⟨v, u, k, pl, now, i, rfl, ib, ok, ip, okp, hi, tb, q, qP, qG⟩ := h
    refine ⟨_, id (pss_cons (ps_expr (pe_call (okx_check_mending T) (hr.mono (by decide)) (by rfl) T.g_check_mending T.F_check_mending.kp T.b_check_mending .nil (passes_call (takes_of rfl rfl rfl rfl) (fun _ _ _ _ h => h)) (pa_cons (pv 0) (pa_cons (pv 1) (pa_cons (pv 2) (pa_cons (pv 3) pa_nil))))))
      (pss_cons (ps_asg (pv 0) (pg_tup (by rfl) (pgs_cons (pg_name (i := 4) sc_lost.nd rfl (Or.inl rfl)) (pgs_cons (pg_name (i := 5) sc_lost.nd rfl (Or.inl rfl)) pgs_nil))))
      (pss_one (ps_ret (pe_tup (pa_cons (pe_tup (pa_cons (pv 4) (pa_cons (pe_call (ok_without T) (hr.mono (by decide)) (by rfl) T.g_without T.F_without.kp T.b_without .nil pass0 (pa_cons (pv 5) (pa_cons (pv 3) pa_nil))) pa_nil))) (pa_cons (pe_call (ok_without T) (hr.mono (by decide)) (by rfl) T.g_without T.F_without.kp T.b_without .nil pass0 (pa_cons (pe_call (ok_standing T) (hr.mono (by decide)) (by rfl) T.g_standing T.F_standing.kp T.b_standing .nil pass0 (pa_cons (pv 1) (pa_cons (pv 2) pa_nil))) (pa_cons (pv 3) pa_nil))) pa_nil))))))), ?_⟩
    have n7 := ok.n7
    have lp := okp.len
    refine ⟨_, rfl, _, rfl, _, rfl, _, rfl, _, _, k, pl, now, i, rfl, ib, ok, ip, okp, hi, tb, fun good hn hg H1 e1 => ?_, qP, qG⟩
    obtain ⟨a, rr, b, rfl, t0, ir, ⟨ba, bs, rfl, t2, pb⟩⟩ := e1.book ib
    obtain ⟨pa, rfl, tp⟩ := e1.plan ip
    have lb := plen pb
    refine ⟨_, rfl, a, _, rfl, t0, rfl, _, _, rfl, _, _, rfl, rfl, ?_⟩
    refine ⟨_, rfl, _, rfl, _, rfl, ba, bs, i, rfl, t2, by omega, tb.ext e1, fun H2 p2 e2 tp2 => ?_⟩
    refine ⟨by show 2 ≤ sizeLine; decide, fun p3 hp3 => ?_⟩
    have e3 := Ext.new (ex := []) (o := .tup [rr, .ref p2]) hp3
    have f3 := e2.trans e3
    refine ⟨_, rfl, _, rfl, _, pl, now, rfl, ⟨pa, rfl, f3.sqT tp⟩, by omega, hn, tb.ext (e1.trans f3), fun H4 w e4 ipw => ?_⟩
    obtain ⟨wa, rfl, tw⟩ := ipw
    refine ⟨_, rfl, wa, _, i, rfl, tw, by unfold standP; rw [List.length_map, List.length_map]; omega, tb.ext (e1.trans (f3.trans e4)), fun H5 p5 e5 tp5 => ?_⟩
    refine ⟨by show 2 ≤ sizeLine; decide, fun p6 hp6 => ?_⟩
    have e6 := Ext.new (ex := []) (o := .tup [.ref p3, .ref p5]) hp6
    have g6 := e4.trans (e5.trans e6)
    refine q good hn hg _ p6 (e1.trans (f3.trans g6)) ?_
    have ibk : IsBook K (upd H5 p6 (.tup [.ref p3, .ref p5])) (.ref p3) ⟨k.rv, k.bs.eraseIdx i⟩ := by
      refine ⟨p3, rr, .ref p2, rfl, g6.sqT sqT_new, (f3.trans g6).river ir, ⟨p2, bs.eraseIdx i, rfl, (e3.trans g6).sqT tp2, ?_⟩⟩
      exact Paired.mapP (paired_erase pb i) fun _ _ z => (f3.trans g6).barge z
    refine ⟨_, _, sqT_new, ibk, p5, rfl, ?_⟩
    rw [← map_erase]
    exact e6.sqT tp5

def spHoursFrom : Sp := fun vs H Q _ => ∃ now : Int, vs = [.int now] ∧ now ≤ 1000 ∧ ∀ H' p, Ext [] H H' → H p = none → H' p = some (.lst ((hoursF now).map V.int)) → Q (.ref p) H'
theorem ok_hours_from (T : Facts A K mg base) : FnOk P w K mg base CX0 1 A.a_hours_from A.d_hours_from ["now"] (spHoursFrom) := by
  refine T.F_hours_from.ok sc_hours_from (fun vs H Q E h => ?_) (fun cdv A1 outer s H vs Q E hr h => ?_)
  · obtain ⟨now, rfl, _⟩ := h
    rfl
  · obtain ⟨now, rfl, hn, q⟩ := h
    obtain ⟨ct_HOURS, c_HOURS⟩ := T.c_HOURS
    refine ⟨_, PSs.nox (pss_one (ps_ret (pe_listRg rfl (by rfl) T.n_list (prg_2 (by rfl) T.n_range (pe_callB (call_max2 rfl) (by rfl) T.n_max (by decide +kernel) (pa_cons (pv 0) (pa_cons pe_int pa_nil))) (pe_glob (v := .int 12) (by rfl) c_HOURS ⟨_, rfl⟩))))), ?_⟩
    refine ⟨_, rfl, now, 0, rfl, _, _, rfl, rfl, ?_⟩
    refine ⟨⟨by omega, by omega, by omega, by omega, by omega⟩, fun p hp => q _ p (Ext.new hp) hp ?_⟩
    rw [upd_same, rgV_I]
    unfold hoursF
    rw [show (if (0 : Int) > now then 0 else now) = max now 0 by split <;> omega]

def spOpenBarges (K : PySem.W.Frag) : Sp := fun vs H Q _ => ∃ (u : V) (pl : List (Option Int)), vs = [u] ∧ IsPlan K H u pl ∧ pl.length ≤ 7 ∧ ∀ H' p, Ext [] H H' → H p = none → H' p = some (.tup (natsV (openN pl pl.length))) → Q (.ref p) H'
theorem ok_open_barges (T : Facts A K mg base) : FnOk P w K mg base CX0 2 A.a_open_barges A.d_open_barges ["plan"] (spOpenBarges K) := by
  refine T.F_open_barges.ok sc_open_barges (fun vs H Q E h => ?_) (fun cdv A1 outer s H vs Q E hr h => ?_)
  · obtain ⟨u, pl, rfl, _⟩ := h
    rfl
  · obtain ⟨u, pl, rfl, ip, n7, q⟩ := h
    refine ⟨_, PSs.nox (pss_one (ps_ret (pe_callTy call_tuple_of (by rfl) T.n_tuple (by decide +kernel) (pa_cons (pe_call (oko_members T) (hr.mono (by decide)) (by rfl) T.g_members T.F_members.kp T.b_members .nil pass0 (pa_cons (pv 0) (pa_cons pe_non pa_nil))) pa_nil)))), ?_⟩
    refine ⟨_, rfl, u, pl, rfl, ip, n7, fun H1 p e1 hp hl => ⟨p, _, rfl, .inl ⟨.inl (.inl hl), fun t ht => ?_⟩⟩⟩
    exact q _ t (e1.trans (Ext.new ht)) (e1.dom t ht) upd_same

def spWithHour (K : PySem.W.Frag) : Sp := fun vs H Q _ => ∃ (u : V) (pl : List (Option Int)) (i : Nat) (h : Int), vs = [u, .int (i : Int), .int h] ∧ IsPlan K H u pl ∧ i < pl.length ∧ pl.length ≤ 7 ∧ ∀ H' v, Ext [] H H' → IsPlan K H' v (putP pl i h) → Q v H'
theorem ok_with_hour (T : Facts A K mg base) : FnOk P w K mg base CX0 1 A.a_with_hour A.d_with_hour ["plan", "barge", "hour"] (spWithHour K) := by
  refine T.F_with_hour.ok sc_with_hour (fun vs H Q E h => ?_) (fun cdv A1 outer s H vs Q E hr h => ?_)
  · obtain ⟨u, pl, i, h, rfl, _⟩ := h
    rfl
  · obtain ⟨u, pl, i, h, rfl, ⟨pa, rfl, tp⟩, hi, n7, q⟩ := h
    refine ⟨_, PSs.nox (pss_one (ps_ret (pe_op op_catA (pe_op op_catA (pe_slice GX.sl_tupA (pv 0) po_none (po_some (pv 1))) (pe_tup (pa_cons (pv 2) pa_nil))) (pe_slice GX.sl_tupA (pv 0) (po_some (pe_op op_add (pv 1) pe_int)) po_none)))), ?_⟩
    refine ⟨.ref pa, rfl, .int (i : Int), rfl, (i : Int), rfl, slTA_any tp (fun c1 H1 e1 t1 => ?_)⟩
    rw [cut_take] at t1
    refine ⟨_, rfl, by show 1 ≤ sizeLine; decide, fun t ht => ?_⟩
    have e2 : Ext [] H1 (upd H1 t (.tup [.int h])) := Ext.new ht
    refine catA_any (e2.sqT t1) sqT_new (by rw [List.length_take, List.length_map]; simp; omega) (fun c2 H2 e3 t2 => ?_)
    have f2 := e1.trans (e2.trans e3)
    refine ⟨.ref pa, rfl, _, rfl, _, _, rfl, rfl, ((i + 1 : Nat) : Int), by rw [show ((i + 1 : Nat) : Int) = (i : Int) + 1 by omega], ?_⟩
    unfold tNoPart
    dsimp only
    refine slTA_any (K := K) (lo := some ((i + 1 : Nat) : Int)) (hi := none) (f2.sqT tp) (fun c3 H3 e4 t3 => ?_)
    rw [cut_drop _ _ (by rw [List.length_map]; omega)] at t3
    refine catA_any (e4.sqT t2) t3 (by simp only [List.length_append, List.length_take, List.length_drop, List.length_map, List.length_singleton]; omega) (fun c4 H4 e5 t4 => ?_)
    refine q H4 (.ref c4) (f2.trans (e4.trans e5)) ⟨c4, rfl, ?_⟩
    have e : (putP pl i h).map oV = (pl.map oV).take i ++ [V.int h] ++ (pl.map oV).drop (i + 1) := by
      unfold putP
      rw [List.map_append, List.map_append, List.map_take, List.map_drop]
      rfl
    rw [e]
    exact t4

def spInit (A : Ad) (K : PySem.W.Frag) : Sp := fun vs H Q _ => ∃ (a dx : Addr) (v : V) (k : Book) (now : Int), vs = [.ref a, v, .int now] ∧ H a = some (.ins A.c_Choices dx []) ∧ IsBook K H v k ∧ k.Ok ∧ now ≤ 1000 ∧ Tabs A H ∧
  ∀ H' sd, Ext [a] H H' → IsCho K A.c_Choices H' a sd k now → H sd = none → Q .non H'
theorem ok_Choices___init__ (T : Facts A K mg base) : FnOk P w K mg base CX0 5 A.a_Choices___init__ A.d_Choices___init__ ["self", "book", "now"] (spInit A K) := by
  refine T.F_Choices___init__.ok sc_Choices___init__ (fun vs H Q E h => ?_) (fun cdv A1 outer s H vs Q E hr h => ?_)
  · obtain ⟨a, dx, v, k, now, rfl, _⟩ := h
    rfl
  · obtain ⟨a, dx, v, k, now, rfl, ha, ib, ok, hn, tb, q⟩ := h
    obtain ⟨ct_HOURS, c_HOURS⟩ := T.c_HOURS
    refine ⟨_, PSs.nox (pss_cons (ps_asg (pv 1) (pg_tup (by rfl) (pgs_cons (pg_name (i := 3) sc_Choices___init__.nd rfl (by first | exact Or.inr rfl | exact Or.inl rfl)) (pgs_cons (pg_name (i := 4) sc_Choices___init__.nd rfl (Or.inl rfl)) pgs_nil))))
      (pss_cons (ps_fld (pv 0) (pv 1) rfl)
      (pss_cons (ps_fld (pv 0) (pe_lc (own := [("barge", 6)]) (g := (gName 6)) rfl sc_Choices___init__.nd (pi_tup (pv 4)) (blkOk_by (own := [("barge", 6)]) (N := ["self", "book", "now", "stretches", "barges", "hour", "barge", "number"]) (sc := defScope s_Choices___init__) (by decide +kernel)) (fun _ _ _ _ _ => (pg_name (i := 6) sc_Choices___init__.nd rfl (Or.inr rfl))) (fun _ _ _ _ _ => pts_nil) (fun _ _ _ _ _ => (pe_lc (own := [("hour", 5)]) (g := (gName 5)) rfl sc_Choices___init__.nd (pi_range1 (by rfl) T.n_range (pa_cons (pe_glob (v := .int 12) (by rfl) c_HOURS ⟨_, rfl⟩) pa_nil)) (blkOk_by (own := [("hour", 5)]) (N := ["self", "book", "now", "stretches", "barges", "hour", "barge", "number"]) (sc := { kind := .function, names := [(".0", .local), ("barge", .cell), ("range", .globalImplicit), ("HOURS", .globalImplicit), ("stretches", .cell)], isGenerator := false, isCoroutine := false }) (by decide +kernel)) (fun _ _ _ _ _ => (pg_name (i := 5) sc_Choices___init__.nd rfl (Or.inl rfl))) (fun _ _ _ _ _ => pts_nil) (fun _ _ _ _ _ => (pe_call (ok_waiting T) (hr.mono (by decide)) (by rfl) T.g_waiting T.F_waiting.kp T.b_waiting .nil pass0 (pa_cons (pv 3) (pa_cons (pv 6) (pa_cons (pv 5) pa_nil)))))))) rfl)
      (pss_cons (ps_fld (pv 0) (pe_lst pa_nil) rfl)
      (pss_cons (ps_for PassesOwn.never rfl (pi_range1 (by rfl) T.n_range (pa_cons (pe_callB call_len_seq (by rfl) T.n_len PySem.boot_len (pa_cons (pv 4) pa_nil)) pa_nil)) (pg_name (i := 7) sc_Choices___init__.nd rfl (by first | exact Or.inr rfl | exact Or.inl rfl)) (pss_one (ps_expr (pe_bm PySem.F.plainAttrs_list PySem.F.slot_list_append PySem.F.type_list_append mt_append (pe_fld (pv 0) rfl) (pa_cons (pe_lc (own := [("hour", 5)]) (g := (gName 5)) rfl sc_Choices___init__.nd (pi_list (pe_call (ok_hours_from T) (hr.mono (by decide)) (by rfl) T.g_hours_from T.F_hours_from.kp T.b_hours_from .nil pass0 (pa_cons (pv 2) pa_nil))) (blkOk_by (own := [("hour", 5)]) (N := ["self", "book", "now", "stretches", "barges", "hour", "barge", "number"]) (sc := defScope s_Choices___init__) (by decide +kernel)) (fun _ _ _ _ _ => (pg_name (i := 5) sc_Choices___init__.nd rfl (Or.inl rfl))) (fun _ _ _ _ _ => (pts_one (pt_not (GD.pt_tru K (pe_call (ok_against_barge T) (hr.mono (by decide)) (by rfl) T.g_against_barge T.F_against_barge.kp T.b_against_barge .nil pass0 (pa_cons (pv 1) (pa_cons (pv 7) (pa_cons (pv 5) pa_nil)))) rfl (by intro _; rfl))))) (fun _ _ _ _ _ => (pv 5))) pa_nil)))))
      (pss_one (ps_fld (pv 0) pe_dnewT rfl))))))), ?_⟩
    obtain ⟨ka, r, b, rfl, t0, ⟨ra, rs, rfl, t1, pr⟩, ⟨ba, bs, rfl, t2, pb⟩⟩ := id ib
    have lb := plen pb
    have n7 := ok.n7
    refine ⟨_, rfl, ka, _, rfl, t0, rfl, _, _, rfl, _, _, rfl, rfl, ?_⟩
    -- self.book
    refine ⟨_, rfl, _, rfl, a, _, dx, _, rfl, ha, T.cls_Choices, T.na_Choices_book, by decide, ?_⟩
    have E1 : Ext [a] H (upd H a (.ins A.c_Choices dx [("book", .ref ka)])) := Ext.wrI (by simp) ha
    generalize hH1 : upd H a (HO.ins A.c_Choices dx (putF _ (V.ref ka) [])) = H1
    have hH1' : upd H a (.ins A.c_Choices dx [("book", .ref ka)]) = H1 := hH1
    rw [hH1'] at E1
    have a1 : H1 a = some (.ins A.c_Choices dx [("book", .ref ka)]) := by rw [← hH1']; exact upd_same
    have ib1 := E1.book ib
    -- self.waits
    refine ⟨.ref ba, rfl, ba, rfl, ⟨_, E1.sqT t2⟩, fun W hW => lc_tup (xs := bs) (fun i H3 => Ext [] H1 H3 ∧ i ≤ bs.length ∧ ∃ ws, H3 W = some (.lst ws) ∧ Paired (IsNumsO W H3) ws ((List.range i).map (waitRow k))) ⟨Ext.new hW, Nat.zero_le _, [], upd_same, .nil⟩ (fun _ _ _ z => z.1.sqT (E1.sqT t2)) (fun i x H3 hx z => ?_) (fun H3 z => ?_)⟩
    · obtain ⟨e3, _, ws, hL, pw⟩ := z
      obtain ⟨b, hb, ibb⟩ := pget pb hx
      have hi : i < bs.length := (List.getElem?_eq_some_iff.mp hx).1
      have lw := plen pw
      rw [List.length_map, List.length_range] at lw
      refine ⟨rfl, yesT ?_⟩
      refine ⟨12, rfl, by omega, by omega, fun D hD => lc_range (lo := 0) (n := 12) (fun j H5 => Ext [] H3 H5 ∧ H5 D = some (.lst ((((rgI 0 12).take j).map (waitB k i)).map V.int))) ⟨Ext.new hD, upd_same⟩ (fun j H5 hj z => ?_) (fun H5 z => ?_)⟩
      · obtain ⟨e5, hD5⟩ := z
        have f5 := e3.trans e5
        refine ⟨rfl, yesT ⟨_, rfl, _, rfl, _, rfl, _, _, k.rv, b, _, rfl, f5.river ⟨ra, rs, rfl, E1.sqT t1, Paired.mapP pr fun _ _ z => E1.stretch z⟩, ok.rv, f5.barge (E1.barge ibb), ok.ok b (List.mem_of_getElem? hb), tb.ext (E1.trans f5.any), fun H6 e6 => ?_⟩⟩
        refine ⟨_, e6.lst D _ (by simp) hD5, small1000 (by rw [List.length_map, List.length_map, List.length_take, rgI_len]; omega), (e5.trans e6).wrNew hD, ?_⟩
        have hg : (rgI 0 12)[j]? = some (0 + (j : Int)) := by
          unfold rgI
          rw [List.getElem?_map, List.getElem?_range (by omega)]
          rfl
        rw [upd_same, map_take hg, List.map_append, waitB_of hb]
        rfl
      · obtain ⟨e5, hD5⟩ := z
        have hD5 : H5 D = some (.lst ((waitRow k i).map V.int)) := hD5
        have nDW : D ≠ W := (ne_of_none hL hD).symm
        have hW5 := e5.lst W _ (by simp) hL
        have w : Ext [W] _ _ := Ext.wr (ys := ws ++ [.ref D]) (ex := [W]) (by simp) hW5
        refine ⟨_, hW5, small1000 (by omega), (e3.trans e5).wrNew hW, hi, _, upd_same, ?_⟩
        rw [range_snoc]
        exact papp (Paired.mapP pw fun _ _ z => w.numsO (e5.any.numsO z)) (w.numsO ⟨D, rfl, nDW, hD5⟩)
    obtain ⟨e3, _, ws, hW3, pw⟩ := z
    have pw := Paired.mapP pw fun _ _ z => z.to
    have a3 := e3.ins (by simp) a1
    refine ⟨_, rfl, a, _, dx, _, rfl, a3, T.cls_Choices, T.na_Choices_waits, by simp, ?_⟩
    rw [put_waits]
    have E3 : Ext [a] H3 (upd H3 a (.ins A.c_Choices dx [("book", .ref ka), ("waits", .ref W)])) := Ext.wrI (by simp) a3
    have nl3 : ∀ b ∈ [a], ∀ xs, H3 b ≠ some (.lst xs) := fun b hb xs z => by
      rw [List.mem_singleton.mp hb, a3] at z
      cases z
    have hW4 := E3.lst W _ (by simp; intro z; rw [z, a3] at hW3; cases hW3) hW3
    have pw4 := Paired.mapP pw fun _ _ z => E3.nums nl3 z
    have E4 := E1.trans (e3.any.trans E3)
    have a4 : (upd H3 a (.ins A.c_Choices dx [("book", .ref ka), ("waits", .ref W)])) a = some (.ins A.c_Choices dx [("book", .ref ka), ("waits", .ref W)]) := upd_same
    generalize upd H3 a (.ins A.c_Choices dx [("book", .ref ka), ("waits", .ref W)]) = H4 at hW4 pw4 E4 a4 ⊢
    -- self.alone
    refine ⟨Nat.zero_le _, fun L hL => ?_⟩
    have e5 := Ext.new (ex := []) (o := .lst []) hL
    have a5 := e5.ins (by simp) a4
    refine ⟨_, rfl, a, _, dx, _, rfl, a5, T.cls_Choices, T.na_Choices_alone, by simp, ?_⟩
    rw [put_alone]
    have E5 : Ext [a] (upd H4 L (.lst [])) (upd (upd H4 L (.lst [])) a (.ins A.c_Choices dx [("book", .ref ka), ("waits", .ref W), ("alone", .ref L)])) := Ext.wrI (by simp) a5
    have nl5 : ∀ b ∈ [a], ∀ xs, (upd H4 L (.lst [])) b ≠ some (.lst xs) := fun b hb xs z => by
      rw [List.mem_singleton.mp hb, a5] at z
      cases z
    have nLa : L ≠ a := fun z => by rw [z, a4] at hL; cases hL
    have hL6 := E5.lst L [] (by simpa using nLa) upd_same
    have hW6 := E5.lst W _ (by simp; intro z; rw [z, a4] at hW4; cases hW4) (e5.lst W _ (by simp) hW4)
    have pw6 : Paired (IsNumsO L _) ws _ := Paired.mapP pw4 fun u ns z => by
      obtain ⟨l, ee, hl⟩ := z
      exact ⟨l, ee, ne_of_none hl hL, E5.lst l _ (fun q => nl5 l q _ (e5.lst l _ (by simp) hl)) (e5.lst l _ (by simp) hl)⟩
    have hLn : H L = none := E4.dom L hL
    have E6 := E4.trans (e5.any.trans E5)
    have a6 : (upd (upd H4 L (.lst [])) a (.ins A.c_Choices dx [("book", .ref ka), ("waits", .ref W), ("alone", .ref L)])) a = some (.ins A.c_Choices dx [("book", .ref ka), ("waits", .ref W), ("alone", .ref L)]) := upd_same
    generalize upd (upd H4 L (.lst [])) a (.ins A.c_Choices dx [("book", .ref ka), ("waits", .ref W), ("alone", .ref L)]) = H6 at hL6 hW6 pw6 E6 a6 ⊢
    have nWL : W ≠ L := fun z => by rw [z] at hW4; rw [hW4] at hL; cases hL
    have tb6 := tb.ext E6
    have ib6 := E6.book ib
    -- nobody speaks against them alone
    refine ⟨_, rfl, ba, _, rfl, .inr (E6.sqT t2), (bs.length : Int), rfl, by omega, by omega, for_range (n := bs.length) (fun i σ H7 => ∃ (y5 y6 y7 : Option V), σ = [some (.ref a), some (.ref ka), some (.int now), some (.ref ra), some (.ref ba), y5, y6, y7] ∧ Ext [L] H6 H7 ∧ i ≤ bs.length ∧ ∃ as, H7 L = some (.lst as) ∧ Paired (IsNumsO L H7) as ((List.range i).map (fitsL k now)))
      ⟨_, _, _, rfl, Ext.refl, Nat.zero_le _, [], hL6, .nil⟩ (fun i σ H7 hi z => ?_) (fun σ H7 z => ?_)⟩
    · obtain ⟨y5, y6, y7, rfl, e7, _, as, hL7, pa⟩ := z
      rw [show (0 : Int) + (i : Int) = (i : Int) from Int.zero_add _]
      have a7 := e7.ins (by simpa using nLa.symm) a6
      have la := plen pa
      rw [List.length_map, List.length_range] at la
      obtain ⟨b, hb⟩ : ∃ b, k.bs[i]? = some b := ⟨k.bs[i]'(by omega), List.getElem?_eq_getElem (by omega)⟩
      refine ⟨_, rfl, a, _, dx, _, _, rfl, a7, T.cls_Choices, T.na_Choices_alone, rfl, .inl ⟨rfl, _, .inl (.inl hL7)⟩, ?_⟩
      refine ⟨_, rfl, now, rfl, hn, fun H8 p e8 hp hl => ?_⟩
      have lh := hoursF_len now
      refine ⟨p, rfl, ⟨_, .inl (.inl hl)⟩, fun D hD => lc_list (xs := (hoursF now).map V.int) (fun j H9 => Ext [] H8 H9 ∧ j ≤ 12 ∧ H9 D = some (.lst ((((hoursF now).take j).filter (fitB k i)).map V.int))) ⟨Ext.new hD, Nat.zero_le _, upd_same⟩ (fun _ _ _ z => .inl (.inl (z.1.lst p _ (by simp) hl))) (fun j x H9 hx z => ?_) (fun H9 z => ?_)⟩
      · obtain ⟨e9, _, hD9⟩ := z
        obtain ⟨h, hh, rfl⟩ := map_int hx
        have hj : j < (hoursF now).length := (List.getElem?_eq_some_iff.mp hh).1
        have g9 := e8.any.trans (e9.any (ex := [L]))
        refine ⟨rfl, _, rfl, _, rfl, _, rfl, _, k, i, b, h, rfl, (e7.trans g9).book ib6, ok, hb, tb6.ext (e7.trans g9), fun H10 p10 e10 hp10 hl10 => ?_⟩
        obtain ⟨us, hus, hue⟩ := list_empty hl10
        have hD10 := e10.lst D _ (by simp) hD9
        have hf := filter_take (f := fitB k i) hh
        refine ⟨!us.isEmpty, .inl ⟨us, .inl (.inl hus), rfl⟩, ?_⟩
        rw [hue, ← fitB_of hb h]
        cases hc : fitB k i h with
        | false =>
          refine iteF ⟨e9.trans e10, by omega, ?_⟩
          rw [hf, hc, if_neg (by decide), List.append_nil]
          exact hD10
        | true =>
          have lf := Nat.le_trans (List.length_filter_le (fitB k i) ((hoursF now).take j)) (List.length_take_le _ _)
          refine iteT ⟨_, rfl, _, hD10, small1000 (by rw [List.length_map]; omega), (e9.trans e10).wrNew hD, by omega, ?_⟩
          rw [upd_same, hf, hc, if_pos rfl, List.map_append]
          rfl
      · obtain ⟨e9, _, hD9⟩ := z
        rw [List.length_map, List.take_length] at hD9
        have hL9 := (e8.trans e9).lst L _ (by simp) hL7
        have nDL : D ≠ L := (ne_of_none (e8.lst L _ (by simp) hL7) hD).symm
        refine ⟨L, _, _, rfl, rfl, hL9, small1000 (by omega), ?_⟩
        have w : Ext [L] _ _ := Ext.wr (ys := as ++ [.ref D]) (ex := [L]) (by simp) hL9
        refine ⟨_, _, _, rfl, e7.trans ((e8.trans e9).any.trans w), hi, _, upd_same, ?_⟩
        rw [range_snoc]
        exact papp (Paired.mapP pa fun _ _ z => w.numsO ((e8.trans e9).any.numsO z)) (w.numsO ⟨D, rfl, nDL, hD9⟩)
    obtain ⟨y5, y6, y7, rfl, e7, _, as, hL7, pa⟩ := z
    have pa := Paired.mapP pa fun _ _ z => z.to
    have a7 := e7.ins (by simpa using nLa.symm) a6
    have hW7 := e7.lst W _ (by simpa using nWL) hW6
    have pw7 := Paired.mapP pw6 fun _ _ z => (e7.numsO z).to
    have E7 := E6.bornIn hLn e7
    have ib7 := E7.book ib
    -- self.sharing
    intro S hS
    have e8 := Ext.new (ex := []) (o := .dT []) hS
    have a8 := e8.ins (by simp) a7
    refine ⟨_, rfl, a, _, dx, _, rfl, a8, T.cls_Choices, T.na_Choices_sharing, by simp, ?_⟩
    rw [put_sharing]
    have nSa : S ≠ a := fun z => by rw [z, a7] at hS; cases hS
    have E9 : Ext [a] (upd H7 S (.dT [])) (upd (upd H7 S (.dT [])) a (.ins A.c_Choices dx [("book", .ref ka), ("waits", .ref W), ("alone", .ref L), ("sharing", .ref S)])) := Ext.wrI (by simp) a8
    have nl8 : ∀ b ∈ [a], ∀ xs, (upd H7 S (.dT [])) b ≠ some (.lst xs) := fun b hb xs z => by
      rw [List.mem_singleton.mp hb, a8] at z
      cases z
    have nla : ∀ {b : Addr} {xs : List V}, H7 b = some (.lst xs) → b ∉ [a] := fun {b xs} hb z => by
      rw [List.mem_singleton.mp z, a7] at hb
      cases hb
    refine q _ S (E7.trans (e8.any.trans E9)) ⟨dx, .ref ka, W, L, ws, as, [], upd_same, (e8.any.trans E9).book ib7, E9.lst W _ (nla hW7) (e8.lst W _ (by simp) hW7), ?_, E9.lst L _ (nla hL7) (e8.lst L _ (by simp) hL7), ?_, E9.dT (by simpa using nSa) upd_same, KvsOk.nil k⟩ (E7.dom S hS)
    · rw [← lb]
      have : ws.length = bs.length := by have := plen pw7; rw [List.length_map, List.length_range] at this; exact this
      exact Paired.mapP pw7 fun _ _ z => E9.nums nl8 (e8.nums (by simp) z)
    · rw [← lb]
      exact Paired.mapP pa fun _ _ z => E9.nums nl8 (e8.nums (by simp) z)

def spShare (A : Ad) (K : PySem.W.Frag) : Sp := fun vs H Q _ => ∃ (a sd L : Addr) (k : Book) (now : Int) (ns : List Nat), vs = [.ref a, .ref L] ∧ IsCho K A.c_Choices H a sd k now ∧ k.Ok ∧ H L = some (.lst (natsV ns)) ∧ ns.Nodup ∧ (∀ n ∈ ns, n < k.bs.length) ∧ Tabs A H ∧
  ∀ H', Ext [sd] H H' → SdOk k H' sd → Q (.bl (shareB k ns)) H'
theorem ok_Choices_share (T : Facts A K mg base) : FnOk P w K mg base CX0 3 A.a_Choices_share A.d_Choices_share ["self", "numbers"] (spShare A K) := by
  refine GX.okT T.F_Choices_share T.h_Choices_share sc_Choices_share (fun vs H Q E h => ?_) (fun A1 outer s H vs Q E hr h => ?_)
  · obtain ⟨a, sd, L, k, now, ns, rfl, _⟩ := h
    rfl
  · obtain ⟨a, sd, L, k, now, ns, rfl, ic, ok, hL, nd, lt, tb, q⟩ := h
    refine ⟨_, PSs.nox (pss_cons (ps_set (i := 2) sc_Choices_share.nd rfl (by first | exact Or.inr rfl | exact Or.inl rfl) (pe_callTy call_tuple_of (by rfl) T.n_tuple (by decide +kernel) (pa_cons (pe_callB cr_sorted (by rfl) T.n_sorted (by decide +kernel) (pa_cons (pv 1) pa_nil)) pa_nil)))
      (pss_cons (ps_if (pt_cmp (pc_dnotin (GD.lt1 hr.units) (pv 2) (pe_fld (pv 0) rfl))) (pss_cons (ps_set (i := 3) sc_Choices_share.nd rfl (Or.inl rfl) (GX.pe_tupleG (own := [("number", 4)]) (g := (gName 4)) hr (by rfl) T.n_tuple T.t_Choices_share rfl (GX.genOk_by (own := [("number", 4)]) (N := ["self", "numbers", "party", "plan", "number"]) (sc := defScope s_Choices_share) (by decide +kernel)) sc_Choices_share.nd (pi_range1 (by rfl) T.n_range (pa_cons (pe_callB call_len_seq (by rfl) T.n_len PySem.boot_len (pa_cons (pe_fld (pv 0) rfl) pa_nil)) pa_nil)) (fun _ _ _ _ _ _ _ => (pg_name (i := 4) sc_Choices_share.nd rfl (Or.inl rfl))) (fun _ _ _ _ _ _ _ => pts_nil) (fun _ _ _ _ _ _ _ => (pe_ifExp (pt_cmpR (GD.inK K rfl) (pv 4) (pv 2) (by rfl)) pe_int pe_non))))
      (pss_one (ps_dput (GD.lt1 hr.units) (pe_fld (pv 0) rfl) (pv 2) (pe_and (pe_notT (pe_call (ok_full_stretches T) (hr.mono (by decide)) (by rfl) T.g_full_stretches T.F_full_stretches.kp T.b_full_stretches .nil pass0 (pa_cons (pe_fld (pv 0) rfl) (pa_cons (pv 3) pa_nil)))) (pe_one (pe_notT (pe_call (ok_crossed_barges T) (hr.mono (by decide)) (by rfl) T.g_crossed_barges T.F_crossed_barges.kp T.b_crossed_barges .nil pass0 (pa_cons (pe_fld (pv 0) rfl) (pa_cons (pv 3) pa_nil)))))) rfl))) pss_nil)
      (pss_one (ps_ret (pe_dget (GD.lt1 hr.units) (pe_fld (pv 0) rfl) (pv 2) (fun _ _ => rfl)))))), ?_⟩
    have n7 := ok.n7
    have lns : ns.length ≤ 7 := by
      have := sub_len (ys := List.range k.bs.length) nd fun x hx => List.mem_range.mpr (lt x hx)
      rw [List.length_range] at this
      omega
    refine ⟨_, rfl, L, ns.map fun n : Nat => (n : Int), rfl, .inl (.inl (by rw [natsV_int]; exact hL)), by rw [List.length_map]; omega, fun zs p pm pw hp => ?_⟩
    obtain ⟨ms, rfl, mlt, mem⟩ := sort_nats pm pw nd
    have e1 := Ext.new (ex := []) (o := .lst ((ms.map fun n : Nat => (n : Int)).map V.int)) hp
    refine ⟨p, _, rfl, .inl ⟨.inl (.inl upd_same), fun t ht => ?_⟩⟩
    have e2 := Ext.new (ex := []) (o := .tup ((ms.map fun n : Nat => (n : Int)).map V.int)) ht
    have e12 := e1.trans e2
    have ht2 : (upd (upd H p (.lst ((ms.map fun n : Nat => (n : Int)).map V.int))) t (.tup ((ms.map fun n : Nat => (n : Int)).map V.int))) t = some (.tup ((keyN ms).map kV)) := by rw [upd_same, natsV_int, keyN_kV]
    generalize upd (upd H p (.lst ((ms.map fun n : Nat => (n : Int)).map V.int))) t (.tup ((ms.map fun n : Nat => (n : Int)).map V.int)) = H2 at e12 ht2 ⊢
    have ic2 := e12.cho ic
    have mlt2 : ∀ n ∈ ms, n < k.bs.length := fun n hn => lt n ((mem n).mp hn)
    have esh : shareB k ms = shareB k ns := shareB_same mem
    obtain ⟨dx, v, wl, al, ws, as, kvs, h1, h2, h3, h4, h5, h6, h7, h8⟩ := id ic2
    have lk := h8.len n7
    refine ⟨_, rfl, _, rfl, a, _, dx, _, _, rfl, h1, T.cls_Choices, T.na_Choices_sharing, rfl, sd, _, rfl, DGet.t h7 ht2, _, rfl, ?_⟩
    cases hv : valV kvs (keyN ms) with
    | some x =>
      obtain rfl := h8.get hv
      refine iteF ?_
      unfold tNext
      refine ⟨_, rfl, a, _, dx, _, _, rfl, h1, T.cls_Choices, T.na_Choices_sharing, rfl, _, rfl, sd, _, rfl, hv ▸ DGet.t h7 ht2, ?_⟩
      rw [esh]
      exact q _ e12.any ic2.sd
    | none =>
      refine iteT ?_
      have lws : ws.length = k.bs.length := by
        have := plen h4
        rw [List.length_map, List.length_range] at this
        exact this
      unfold tSeq tAsg
      refine tupG_range (n := ws.length) (fun K hK => ⟨_, rfl, a, _, dx, _, _, rfl, h1, T.cls_Choices, T.na_Choices_waits, rfl, wl, _, rfl, .inl (.inl (.inl h3)), hK⟩) (by omega) (tb.ext e12).Choices_share (fun i z H3 => Ext [] H2 H3 ∧ z = (partyP i ms).map oV) (fun H3 hb => ⟨Ext.tab (tb.ext e12).Choices_share hb, rfl⟩) (fun i z H3 hi p => ?_) (fun z H3 p => ?_)
      · obtain ⟨e3, rfl⟩ := p
        rw [show (0 : Int) + (i : Int) = (i : Int) from Int.zero_add _]
        have lz : ((partyP i ms).map oV).length = i := by unfold partyP; rw [List.length_map, List.length_map, List.length_range]
        have ht3 : SqT K H3 t (natsV ms) := e3.sqT (.inl (.inl (by rw [← keyN_kV]; exact ht2)))
        refine ⟨rfl, yesT ⟨_, rfl, _, rfl, t, _, rfl, .inr ht3, rfl, flat_nats2 ms, decide (i ∈ ms), congrArg V.bl (inV_nats2 i ms), ?_⟩⟩
        have hp := partyP_succ i ms
        by_cases c : i ∈ ms
        · rw [if_pos c] at hp
          exact iteD c ⟨small1000 (by omega), e3, hp.symm⟩
        · rw [if_neg c] at hp
          exact iteDn c ⟨small1000 (by omega), e3, hp.symm⟩
      · obtain ⟨e3, rfl⟩ := p
        rw [lws]
        have lz : ((partyP k.bs.length ms).map oV).length = k.bs.length := by unfold partyP; rw [List.length_map, List.length_map, List.length_range]
        refine ⟨Nat.le_of_lt (small1000 (by omega)), fun pa hpa => ?_⟩
        have e4 := e3.trans (Ext.new (ex := []) (o := .tup ((partyP k.bs.length ms).map oV)) hpa)
        have ip4 : IsPlan K (upd H3 pa (.tup ((partyP k.bs.length ms).map oV))) (.ref pa) (partyP k.bs.length ms) := ⟨pa, rfl, sqT_new⟩
        have okp := partyP_ok k.bs.length ms
        generalize upd H3 pa (.tup ((partyP k.bs.length ms).map oV)) = H4 at e4 ip4 ⊢
        have nas : a ≠ sd := fun z => by rw [z, h7] at h1; cases h1
        obtain ⟨hk1, hk2⟩ := h8.put hv mlt mlt2
        refine ⟨_, rfl, a, _, dx, _, _, rfl, e4.ins (by simp) h1, T.cls_Choices, T.na_Choices_book, rfl, _, rfl, _, _, k, _, rfl, e4.book h2, ok, ip4, okp, fun H5 p5 e5 hp5 hl5 => ?_⟩
        obtain ⟨us, hus, hue⟩ := list_empty hl5
        refine ⟨!us.isEmpty, .inl ⟨us, .inl (.inl hus), rfl⟩, _, rfl, ?_⟩
        have g := e4.trans e5
        cases hc : us.isEmpty with
        | false =>
          refine iteF ?_
          have hb : false = shareB k ms := by unfold shareB; rw [← hue, hc]; rfl
          refine ⟨_, rfl, a, _, dx, _, _, rfl, g.ins (by simp) h1, T.cls_Choices, T.na_Choices_sharing, rfl, _, rfl, sd, _, rfl, DPut.t (g.dT (by simp) h7) (g.tup t _ ht2) (small1000 (by omega)), ?_⟩
          rw [hb]
          obtain ⟨ew, icw⟩ := (g.cho ic2).put hk1
          refine ⟨_, rfl, a, _, dx, _, _, rfl, ew.ins (by simpa using nas) (g.ins (by simp) h1), T.cls_Choices, T.na_Choices_sharing, rfl, _, rfl, sd, _, rfl, hk2 ▸ DGet.t upd_same (ew.tup t _ (g.tup t _ ht2)), ?_⟩
          have fin := q _ ((e12.trans g).any.trans ew) icw.sd
          rw [← esh] at fin
          exact fin
        | true =>
          refine iteT ?_
          refine ⟨_, rfl, a, _, dx, _, _, rfl, g.ins (by simp) h1, T.cls_Choices, T.na_Choices_book, rfl, _, rfl, _, _, k, _, rfl, g.book h2, ok, e5.plan ip4, okp, fun H6 p6 e6 hp6 hl6 => ?_⟩
          obtain ⟨us2, hus2, hue2⟩ := list_empty hl6
          refine ⟨!us2.isEmpty, .inl ⟨us2, .inl (.inl hus2), rfl⟩, ?_⟩
          have g := g.trans e6
          have hb : (!(!us2.isEmpty)) = shareB k ms := by unfold shareB; rw [← hue, hc, ← hue2, Bool.not_not]; rfl
          refine ⟨_, rfl, a, _, dx, _, _, rfl, g.ins (by simp) h1, T.cls_Choices, T.na_Choices_sharing, rfl, _, rfl, sd, _, rfl, DPut.t (g.dT (by simp) h7) (g.tup t _ ht2) (small1000 (by omega)), ?_⟩
          rw [hb]
          obtain ⟨ew, icw⟩ := (g.cho ic2).put hk1
          refine ⟨_, rfl, a, _, dx, _, _, rfl, ew.ins (by simpa using nas) (g.ins (by simp) h1), T.cls_Choices, T.na_Choices_sharing, rfl, _, rfl, sd, _, rfl, hk2 ▸ DGet.t upd_same (ew.tup t _ (g.tup t _ ht2)), ?_⟩
          have fin := q _ ((e12.trans g).any.trans ew) icw.sd
          rw [← esh] at fin
          exact fin

def spWorthOf (A : Ad) (K : PySem.W.Frag) : Sp := fun vs H Q _ => ∃ (a sd : Addr) (u : V) (k : Book) (now : Int) (pl : List (Option Int)), vs = [.ref a, u] ∧ IsCho K A.c_Choices H a sd k now ∧ k.Ok ∧ IsPlan K H u pl ∧ PlOk k.bs.length pl ∧
  ∀ H' p, Ext [] H H' → SqT K H' p [.int ((hoursL pl).length : Int), .int (waitsN k pl pl.length).sum] → Q (.ref p) H'
theorem row_at {k : Book} {i n : Nat} {H : Hp} {ws : List V} (hi : i < k.bs.length) (hn : n < 12) (pw : Paired (IsNums H) ws ((List.range k.bs.length).map (waitRow k))) : ∃ l, ws[i]? = some (.ref l) ∧ H l = some (.lst ((waitRow k i).map V.int)) ∧ ((waitRow k i).map V.int)[n]? = some (.int (waitB k i (n : Int))) := by
  have h1 : ((List.range k.bs.length).map (waitRow k))[i]? = some (waitRow k i) := by rw [List.getElem?_map, List.getElem?_range hi]; rfl
  obtain ⟨x, hx, l, rfl, hl⟩ := pgetR pw h1
  refine ⟨l, hx, hl, ?_⟩
  have := waitRow_get (k := k) (i := i) (h := (n : Int)) (by omega) (by omega)
  rw [Int.toNat_natCast] at this
  rw [List.getElem?_map, this]
  rfl
theorem ok_Choices_worth_of (T : Facts A K mg base) : FnOk P w K mg base CX0 2 A.a_Choices_worth_of A.d_Choices_worth_of ["self", "plan"] (spWorthOf A K) := by
  refine T.F_Choices_worth_of.ok sc_Choices_worth_of (fun vs H Q E h => ?_) (fun cdv A1 outer s H vs Q E hr h => ?_)
  · obtain ⟨a, sd, u, k, now, pl, rfl, _⟩ := h
    rfl
  · obtain ⟨a, sd, u, k, now, pl, rfl, ic, ok, ⟨pa, rfl, tp⟩, okp, q⟩ := h
    refine ⟨_, PSs.nox (pss_cons (ps_setLc (i := 2) (own := [("number", 3), ("hour", 4)]) (g := (gTup K 2 (gCons (gName 3) (gCons (gName 4) gNil)))) rfl sc_Choices_worth_of.nd rfl rfl (sw_true rfl rfl rfl (by decide +kernel)) (GE.pi_enumT (by rfl) T.n_enumerate (pa_cons (pv 1) pa_nil)) (blkOk_by (own := [("number", 3), ("hour", 4)]) (N := ["self", "plan", "waits", "number", "hour"]) (sc := defScope s_Choices_worth_of) (by decide +kernel)) (fun _ _ _ _ _ => (pg_tup (by rfl) (pgs_cons (pg_name (i := 3) sc_Choices_worth_of.nd rfl (Or.inl rfl)) (pgs_cons (pg_name (i := 4) sc_Choices_worth_of.nd rfl (Or.inl rfl)) pgs_nil)))) (fun _ _ _ _ _ => (pts_one (pt_cmpR op_notN (pv 4) pe_non (nomark _)))) (fun _ _ _ _ _ => (pe_ix (ixK K rfl) (pe_ix (ixK K rfl) (GD.pe_fldK K rfl (pv 0) rfl) (pv 3) (fun _ _ => rfl)) (pv 4) (fun _ _ => rfl))))
      (pss_one (ps_ret (pe_tup (pa_cons (pe_callB call_len_seq (by rfl) T.n_len PySem.boot_len (pa_cons (pe_call (ok_hours_of T) (hr.mono (by decide)) (by rfl) T.g_hours_of T.F_hours_of.kp T.b_hours_of .nil pass0 (pa_cons (pv 1) pa_nil)) pa_nil)) (pa_cons (pe_callB (cr_sum rfl) (by rfl) T.n_sum PyProof.Rows.boot_sum (pa_cons (pv 2) pa_nil)) pa_nil)))))), ?_⟩
    have lp := okp.len
    have n7 := ok.n7
    obtain ⟨dx, v, wl, al, ws, as, kvs, h1, h2, h3, h4, h5, h6, h7, h8⟩ := id ic
    refine ⟨.ref pa, rfl, pa, _, rfl, tp, fun D hD => lc_enumT (xs := pl.map oV) (fun i H3 => Ext [] H H3 ∧ H3 D = some (.lst ((waitsN k pl i).map V.int))) ⟨Ext.new hD, upd_same⟩ (fun _ _ _ z => z.1.sqT tp) (fun i x H3 S hx z hS => ?_) (fun H3 z => ?_)⟩
    · obtain ⟨o, ho, rfl⟩ := map_get hx
      obtain ⟨e3, hL⟩ := z
      have hi : i < pl.length := (List.getElem?_eq_some_iff.mp ho).1
      have e4 : Ext [] H3 (upd H3 S (.tup [.int (i : Nat), oV o])) := Ext.new hS
      have hL4 := e4.lst D _ (by simp) hL
      refine ⟨S, _, rfl, sqT_new, rfl, _, _, rfl, _, _, rfl, rfl, rfl, ?_⟩
      cases o with
      | none =>
        refine ⟨_, rfl, rfl, _, rfl, iteNS rfl ⟨e3.trans e4, ?_⟩⟩
        rw [waitsN_succ, getD_of ho, waitOf_none, List.append_nil]
        exact hL4
      | some h =>
        obtain ⟨bb, hbb⟩ : ∃ bb, k.bs[i]? = some bb := ⟨k.bs[i], List.getElem?_eq_getElem (by omega)⟩
        have h01 := okp.ok h (List.mem_of_getElem? ho)
        obtain ⟨n, rfl⟩ : ∃ n : Nat, h = (n : Int) := ⟨h.toNat, by omega⟩
        have e5 := e3.trans e4
        obtain ⟨l, hwi, hl, hln⟩ := row_at (i := i) (n := n) (by omega) (by omega) (Paired.mapP h4 fun _ _ z => e5.nums (by simp) z)
        refine ⟨_, rfl, rfl, _, rfl, iteN (by simp [oV]) ?_⟩
        refine ⟨_, rfl, a, _, dx, _, _, rfl, e5.ins (by simp) h1, T.cls_Choices, T.na_Choices_waits, rfl, _, rfl, .inl ⟨wl, ws, _, _, rfl, rfl, .inl (.inl (e5.lst wl _ (by simp) h3)), atI_nat hwi, _, rfl, .inl ⟨l, _, _, _, rfl, rfl, .inl (.inl hl), atI_nat hln, ?_⟩⟩⟩
        have hw := waitsN_len k pl i
        refine ⟨_, hL4, small1000 (by rw [List.length_map]; omega), e5.wrNew hD, ?_⟩
        rw [upd_same, waitsN_succ, getD_of ho, waitOf_B hbb, List.map_append]
        rfl
    · obtain ⟨e3, hL⟩ := z
      rw [List.length_map] at hL
      refine ⟨_, rfl, _, k.bs.length, pl, rfl, ⟨pa, rfl, e3.sqT tp⟩, okp, n7, fun H4 hp e4 hnp hHp => ?_⟩
      have hL4 := e4.lst D _ (by simp) hL
      refine ⟨hp, _, rfl, .inl (.inl (.inl hHp)), ?_⟩
      refine ⟨_, rfl, D, waitsN k pl pl.length, rfl, .inl (.inl hL4), by show 2 ≤ sizeLine; decide, fun t ht => ?_⟩
      have z := sqT_new (K := K) (H := H4) (p := t) (xs := [.int (((hoursL pl).map V.int).length : Int), .int (waitsN k pl pl.length).sum])
      rw [List.length_map] at z ⊢
      exact q _ t (e3.trans (e4.trans (Ext.new ht))) z

def spBetterHours (A : Ad) (K : PySem.W.Frag) : Sp := fun vs H Q _ => ∃ (a sd wt : Addr) (u : V) (k : Book) (now w1 w2 : Int) (pl : List (Option Int)) (i : Nat), vs = [.ref a, u, .int (i : Int), .ref wt] ∧ IsCho K A.c_Choices H a sd k now ∧ k.Ok ∧ IsPlan K H u pl ∧ PlOk k.bs.length pl ∧ pl[i]? = some none ∧ SqT K H wt [.int w1, .int w2] ∧ Tabs A H ∧
  ∀ H' p, Ext [sd] H H' → SdOk k H' sd → H p = none → H' p = some (.lst ((betterL k now pl i w1 w2).map V.int)) → Q (.ref p) H'
theorem ok_Choices_better_hours (T : Facts A K mg base) : FnOk P w K mg base CX0 4 A.a_Choices_better_hours A.d_Choices_better_hours ["self", "plan", "barge", "worth"] (spBetterHours A K) := by
  refine T.F_Choices_better_hours.ok sc_Choices_better_hours (fun vs H Q E h => ?_) (fun cdv A1 outer s H vs Q E hr h => ?_)
  · obtain ⟨a, sd, wt, u, k, now, w1, w2, pl, i, rfl, _⟩ := h
    rfl
  · obtain ⟨a, sd, wt, u, k, now, w1, w2, pl, i, rfl, ic, ok, ⟨pa, rfl, tp⟩, okp, hop, tw, tb, q⟩ := h
    refine ⟨_, PSs.nox (pss_cons (ps_asg (pe_meth (pv 0) T.cls_Choices T.m_Choices_worth_of (ok_Choices_worth_of T) (hr.mono (by decide)) T.b_Choices_worth_of .nil pass0 (pa_cons (pv 1) pa_nil)) (pg_tup (by rfl) (pgs_cons (pg_name (i := 4) sc_Choices_better_hours.nd rfl (Or.inl rfl)) (pgs_cons (pg_name (i := 5) sc_Choices_better_hours.nd rfl (Or.inl rfl)) pgs_nil))))
      (pss_cons (ps_set (i := 6) sc_Choices_better_hours.nd rfl (Or.inl rfl) (pe_lst pa_nil))
      (pss_cons (ps_for PassesOwn.never rfl (pi_list (pe_ix ix_seq (pe_fld (pv 0) rfl) (pv 2) (fun _ _ => rfl))) (pg_name (i := 7) sc_Choices_better_hours.nd rfl (Or.inl rfl)) (pss_cons (ps_set (i := 8) sc_Choices_better_hours.nd rfl (Or.inl rfl) (pe_ifExp (pt_cmpR op_in_seq (pv 7) (pv 1) (by rfl)) pe_int pe_int))
      (pss_cons (ps_set (i := 9) sc_Choices_better_hours.nd rfl (Or.inl rfl) (pe_cmpR (op_ltT (Nat.lt_of_le_of_lt (Nat.le_add_right _ 64) hr.units)) (pe_tup (pa_cons (pe_op op_add (pv 4) (pv 8)) (pa_cons (pe_op op_add (pv 5) (pe_ix ix_seq (pe_ix ix_seq (pe_fld (pv 0) rfl) (pv 2) (fun _ _ => rfl)) (pv 7) (fun _ _ => rfl))) pa_nil))) (pv 3) (nomark _)))
      (pss_one (ps_if (PW.pt (pw_and (pt_truth (pv 9) (by intro _; rfl)) (pw_and1 (pt_val (pe_meth (pv 0) T.cls_Choices T.m_Choices_share (ok_Choices_share T) (hr.mono (by decide)) T.b_Choices_share .nil pass0 (pa_cons (pe_op op_cat (pe_call (ok_members T) (hr.mono (by decide)) (by rfl) T.g_members T.F_members.kp T.b_members .nil pass0 (pa_cons (pv 1) (pa_cons (pv 7) pa_nil))) (pe_lst (pa_cons (pv 2) pa_nil))) pa_nil)))))) (pss_one (ps_expr (pe_bm PySem.F.plainAttrs_list PySem.F.slot_list_append PySem.F.type_list_append mt_append (pv 6) (pa_cons (pv 7) pa_nil)))) pss_nil)))))
      (pss_one (ps_ret (pv 6)))))), ?_⟩
    have lp := okp.len
    have n7 := ok.n7
    have hi : i < pl.length := (List.getElem?_eq_some_iff.mp hop).1
    obtain ⟨dx, v, wl, al, ws, as, kvs, h1, h2, h3, h4, h5, h6, h7, h8⟩ := id ic
    refine ⟨_, rfl, a, dx, _, rfl, h1, rfl, _, rfl, a, sd, _, k, now, pl, rfl, ic, ok, ⟨pa, rfl, tp⟩, okp, fun H1 p1 e1 t1 => ?_⟩
    refine ⟨p1, _, rfl, t1, rfl, _, _, rfl, _, _, rfl, rfl, ?_⟩
    refine ⟨Nat.zero_le _, fun L hL => ?_⟩
    have eL := Ext.new (ex := []) (o := .lst []) hL
    have e2 := e1.trans eL
    have hLn : H L = none := e1.dom L hL
    obtain ⟨l, hal, hl⟩ := fits_at (i := i) (by omega) h6
    have lf := fitsL_len k now i
    -- the hours that fit
    refine ⟨_, rfl, a, _, dx, _, _, rfl, e2.ins (by simp) h1, T.cls_Choices, T.na_Choices_alone, rfl, _, rfl, .inl ⟨al, as, _, _, rfl, rfl, .inl (.inl (e2.lst al _ (by simp) h5)), atI_nat hal, ?_⟩⟩
    have hl2 := e2.lst l _ (by simp) hl
    have nlL : l ≠ L := ne_of_none hl hLn
    have nls : l ≠ sd := fun z => by rw [z, h7] at hl; cases hl
    have nLs : L ≠ sd := fun z => by rw [z, h7] at hLn; cases hLn
    refine ⟨l, rfl, ⟨_, .inl (.inl hl2)⟩, for_list (xs := (fitsL k now i).map V.int) (fun j σ Hx => ∃ (y7 y8 y9 : Option V), σ = [some (.ref a), some (.ref pa), some (.int (i : Int)), some (.ref wt), some (.int ((hoursL pl).length : Int)), some (.int (waitsN k pl pl.length).sum), some (.ref L), y7, y8, y9] ∧ j ≤ 12 ∧ Ext [L, sd] H Hx ∧ SdOk k Hx sd ∧ Hx L = some (.lst ((((fitsL k now i).take j).filter (betterB k pl i w1 w2)).map V.int)))
      ⟨_, _, _, rfl, Nat.zero_le _, e2.any, ⟨kvs, e2.dT (by simp) h7, h8⟩, upd_same⟩ (fun j σ Hx _ z => ?_) (fun j x σ Hx hx z => ?_) (fun σ Hx z => ?_)⟩
    · obtain ⟨_, _, _, _, _, e, _⟩ := z
      exact .inl (.inl (e.lst l _ (by simp; exact ⟨nlL, nls⟩) hl))
    · obtain ⟨h, hh, rfl⟩ := map_int hx
      obtain ⟨y7, y8, y9, rfl, _, e3, sd3, hL3⟩ := z
      have hj : j < (fitsL k now i).length := (List.getElem?_eq_some_iff.mp hh).1
      have h01 := fitsL_mem (List.mem_of_getElem? hh)
      obtain ⟨n, rfl⟩ : ∃ n : Nat, h = (n : Int) := ⟨h.toNat, by omega⟩
      have ic3 := ic.step e3 (fun b hb => by simp at hb; rcases hb with rfl | rfl; exact .inr hLn; exact .inl rfl) sd3
      -- more
      refine ⟨_, rfl, _, rfl, pa, _, rfl, .inr (e3.sqT tp), rfl, flat_plan pl, decide (some (n : Int) ∈ pl), congrArg V.bl (inV_plan (n : Int) pl), ?_⟩
      refine ifC ?_
      rw [ifInt]
      obtain ⟨l2, hwi, hl2, hln⟩ := row_at (i := i) (n := n) (by omega) (by omega) h4
      have hwl : wl ∉ [L, sd] := by
        simp
        exact ⟨ne_of_none h3 hLn, fun z => by rw [z, h7] at h3; cases h3⟩
      have hl2n : l2 ∉ [L, sd] := by
        simp
        exact ⟨ne_of_none hl2 hLn, fun z => by rw [z, h7] at hl2; cases hl2⟩
      have han : a ∉ [L, sd] := by
        simp
        exact ⟨ne_of_none h1 hLn, fun z => by rw [z, h7] at h1; cases h1⟩
      refine ⟨_, rfl, _, rfl, _, _, rfl, rfl, _, rfl, _, rfl, a, _, dx, _, _, rfl, e3.ins han h1, T.cls_Choices, T.na_Choices_waits, rfl, _, rfl, .inl ⟨wl, ws, _, _, rfl, rfl, .inl (.inl (e3.lst wl _ hwl h3)), atI_nat hwi, _, rfl, .inl ⟨l2, _, _, _, rfl, rfl, .inl (.inl (e3.lst l2 _ hl2n hl2)), atI_nat hln, _, _, rfl, rfl, by show 2 ≤ sizeLine; decide, fun t ht => ?_⟩⟩⟩
      have e4 := e3.trans (Ext.new (ex := [L, sd]) (o := .tup [.int (((hoursL pl).length : Int) + (if some (n : Int) ∈ pl then 0 else 1)), .int ((waitsN k pl pl.length).sum + waitB k i (n : Int))]) ht)
      have hL4 := (Ext.new (ex := []) (o := .tup [.int (((hoursL pl).length : Int) + (if some (n : Int) ∈ pl then 0 else 1)), .int ((waitsN k pl pl.length).sum + waitB k i (n : Int))]) ht).lst L _ (by simp) hL3
      have sd4 : SdOk k (upd Hx t (.tup [.int (((hoursL pl).length : Int) + (if some (n : Int) ∈ pl then 0 else 1)), .int ((waitsN k pl pl.length).sum + waitB k i (n : Int))])) sd := let ⟨kv, z1, z2⟩ := sd3; ⟨kv, (Ext.new (ex := []) ht).dT (by simp) z1, z2⟩
      refine ⟨_, rfl, t, wt, [((hoursL pl).length : Int) + (if some (n : Int) ∈ pl then 0 else 1), (waitsN k pl pl.length).sum + waitB k i (n : Int)], [w1, w2], rfl, rfl, sqT_new, e4.sqT tw, ?_⟩
      generalize upd Hx t (.tup [.int (((hoursL pl).length : Int) + (if some (n : Int) ∈ pl then 0 else 1)), .int ((waitsN k pl pl.length).sum + waitB k i (n : Int))]) = H4 at e4 hL4 sd4 ⊢
      have hf := filter_take (f := betterB k pl i w1 w2) hh
      obtain ⟨c, hc⟩ : ∃ c, c = HT.lexLt [((hoursL pl).length : Int) + (if some (n : Int) ∈ pl then 0 else 1), (waitsN k pl pl.length).sum + waitB k i (n : Int)] [w1, w2] := ⟨_, rfl⟩
      rw [← hc]
      refine ⟨_, rfl, c, rfl, ?_⟩
      cases c with
      | false =>
        have hb : betterB k pl i w1 w2 (n : Int) = false := by unfold betterB; rw [← hc]; rfl
        refine iteF (iteF ⟨_, _, _, rfl, by omega, e4, sd4, ?_⟩)
        rw [hf, hb, if_neg (by decide), List.append_nil]
        exact hL4
      | true =>
        refine iteT ?_
        have ic4 := ic.step e4 (fun b hb => by simp at hb; rcases hb with rfl | rfl; exact .inr hLn; exact .inl rfl) sd4
        refine ⟨_, rfl, a, dx, _, rfl, e4.ins han h1, rfl, _, rfl, _, rfl, _, pl, (n : Int), rfl, ⟨pa, rfl, e4.sqT tp⟩, by omega, fun H5 p5 e5 hn5 hp5 => ?_⟩
        refine ⟨_, rfl, by show 1 ≤ sizeLine; decide, fun p6 hp6 => ?_⟩
        have e6 := Ext.new (ex := []) (o := .lst [.int (i : Int)]) hp6
        have lm := memN_le pl (n : Int) pl.length
        refine ⟨p5, p6, _, _, rfl, rfl, e6.lst p5 _ (by simp) hp5, upd_same, Nat.le_of_lt (small1000 (by rw [natsV_len]; simp; omega)), fun p7 hp7 => ?_⟩
        have e7 := Ext.new (ex := []) (o := .lst (natsV (memN pl (n : Int) pl.length) ++ [.int (i : Int)])) hp7
        have hp7' : (upd (upd H5 p6 (.lst [.int (i : Int)])) p7 (.lst (natsV (memN pl (n : Int) pl.length) ++ [.int (i : Int)]))) p7 = some (.lst (natsV (memN pl (n : Int) pl.length ++ [i]))) := by
          rw [upd_same, natsV_app]
        have e47 := e5.trans (e6.trans e7)
        have e8 := e4.trans e47.any
        have sd8 : SdOk k (upd (upd H5 p6 (.lst [.int (i : Int)])) p7 (.lst (natsV (memN pl (n : Int) pl.length) ++ [.int (i : Int)]))) sd := let ⟨kv, z1, z2⟩ := sd4; ⟨kv, e47.dT (by simp) z1, z2⟩
        have hL8 := e47.lst L _ (by simp) hL4
        have nin : i ∉ memN pl (n : Int) pl.length := fun z => by
          have := memN_of z
          rw [getD_of hop] at this
          cases this
        refine ⟨a, sd, p7, k, now, _, rfl, ic.step e8 (fun b hb => by simp at hb; rcases hb with rfl | rfl; exact .inr hLn; exact .inl rfl) sd8, ok, hp7', ?_, ?_, tb.ext e8, fun H9 e9 sd9 => ?_⟩
        · exact List.nodup_append.mpr ⟨memN_nodup _, by simp, fun x hx y hy z => nin (by rw [List.mem_singleton.mp hy] at z; rw [← z]; exact hx)⟩
        · intro x hx
          rcases List.mem_append.mp hx with hx | hx
          · have := memN_lt hx; omega
          · rw [List.mem_singleton.mp hx]; omega
        have hb : betterB k pl i w1 w2 (n : Int) = shareB k (memN pl (n : Int) pl.length ++ [i]) := by unfold betterB; rw [← hc]; rfl
        have g9 := e8.trans (e9.mono (ex' := [L, sd]) (by simp))
        have hL9 := e9.lst L _ (by simpa using nLs) hL8
        refine ⟨_, rfl, ?_⟩
        cases hs : shareB k (memN pl (n : Int) pl.length ++ [i]) with
        | false =>
          refine iteF ⟨_, _, _, rfl, by omega, g9, sd9, ?_⟩
          rw [hf, hb, hs, if_neg (by decide), List.append_nil]
          exact hL9
        | true =>
          have lfl := Nat.le_trans (List.length_filter_le (betterB k pl i w1 w2) ((fitsL k now i).take j)) (List.length_take_le _ _)
          refine iteT ⟨_, rfl, .inl ⟨rfl, _, .inl (.inl hL9)⟩, _, rfl, L, _, _, rfl, rfl, hL9, small1000 (by rw [List.length_map]; omega), ?_⟩
          have w : Ext [L, sd] _ _ := Ext.wr (ys := (((fitsL k now i).take j).filter (betterB k pl i w1 w2)).map V.int ++ [V.int (n : Int)]) (ex := [L, sd]) (by simp) hL9
          refine ⟨_, _, _, rfl, by omega, g9.trans w, ?_, ?_⟩
          · obtain ⟨kv, z1, z2⟩ := sd9
            exact ⟨kv, by rw [upd_ne nLs.symm]; exact z1, z2⟩
          · rw [upd_same, hf, hb, hs, if_pos rfl, List.map_append]
            rfl
    obtain ⟨y7, y8, y9, rfl, _, e3, sd3, hL3⟩ := z
    rw [List.length_map, List.take_length] at hL3
    exact ⟨_, rfl, q _ L (e3.forget hLn) sd3 hLn hL3⟩

def spTableFor (A : Ad) (K : PySem.W.Frag) (n : Nat) : Sp := fun vs H Q _ => ∃ (a sd wt : Addr) (u : V) (k : Book) (now w1 w2 : Int) (pl : List (Option Int)), vs = [.ref a, u, .ref wt] ∧ IsCho K A.c_Choices H a sd k now ∧ k.Ok ∧ IsPlan K H u pl ∧ PlOk k.bs.length pl ∧ allR k pl = [] ∧ SqT K H wt [.int w1, .int w2] ∧ Tabs A H ∧ LTabs A H ∧ (openN pl pl.length).length < n ∧
  ∀ H' v d, Ext [A.k_table_for.2, sd] H H' → SdOk k H' sd → LTabs A H' → Td K H' v d → GrD n d → LayN (3 * n) d → (NoBetter k now pl w1 w2 → showsR k now w1 w2 n pl d = true) → Q v H'
theorem tfZero {A : Ad} {K : PySem.W.Frag} {vs : List V} {H : Hp} {Q : VK} {E : XK} (h : spTableFor A K 0 vs H Q E) : False := by
  obtain ⟨_, _, _, _, _, _, _, _, _, _, _, _, _, _, _, _, _, _, z, _⟩ := h
  omega
theorem LTabs.skip {A : Ad} {ex : List Addr} {H H1 : Hp} (h : LTabs A H) (e : Ext ex H H1) (hx : ∀ b ∈ ex, ∀ φ, H b ≠ some (.ext φ)) : LTabs A H1 := h.grow_table_for e (fun b hb => .inr (hx b hb)) (h.table_for.keep e (fun z => let ⟨_, y, _⟩ := h.table_for; hx _ z _ y) hx)
theorem ok_table_for (T : Facts A K mg base) (n : Nat) : FnOk P w K mg base CX0 (5 + n) A.a_table_for A.d_table_for ["choices", "plan", "worth"] (spTableFor A K n) := by
  induction n with
  | zero => exact ⟨fun vs H Q E h => (tfZero h).elim, fun _ _ _ _ _ _ _ _ _ _ _ _ _ h => (tfZero h).elim⟩
  | succ n ih =>
    refine FnOk.mono (j := (5 + n) + 1) ?_ (by omega)
    have hk0 := trivial
    refine GX.okT T.F_table_for T.h_table_for sc_table_for (fun vs H Q E h => ?_) (fun A1 outer s H vs Q E hr h => ?_)
    · obtain ⟨a, sd, wt, u, k, now, w1, w2, pl, rfl, _⟩ := h
      rfl
    · obtain ⟨a, sd, wt, u, k, now, w1, w2, pl, rfl, ic, ok, ip, okp, good, tw, tb, lt, hlen, q⟩ := h
      refine ⟨_, PSs.nox (pss_cons (ps_if (pt_cmpR op_notIn_seq pe_non (pv 1) (by rfl)) (pss_one (ps_ret (pe_tup (pa_cons pe_str pa_nil)))) pss_nil)
      (pss_cons (ps_setLc (i := 3) (own := [("barge", 4)]) (g := (gName 4)) rfl sc_table_for.nd rfl rfl (sw_true rfl rfl rfl (by decide +kernel)) (pi_tup (pe_call (ok_open_barges T) (hr.mono (by omega)) (by rfl) T.g_open_barges T.F_open_barges.kp T.b_open_barges .nil pass0 (pa_cons (pv 1) pa_nil))) (blkOk_by (own := [("barge", 4)]) (N := ["choices", "plan", "worth", "cases", "barge", "hours", "rows", "hour"]) (sc := defScope s_table_for) (by decide +kernel)) (fun _ _ _ _ _ => (pg_name (i := 4) sc_table_for.nd rfl (Or.inl rfl))) (fun _ _ _ _ _ => pts_nil) (fun _ _ _ _ _ => (pe_tup (pa_cons (pe_meth (pv 0) T.cls_Choices T.m_Choices_better_hours (ok_Choices_better_hours T) (hr.mono (by omega)) T.b_Choices_better_hours .nil pass0 (pa_cons (pv 1) (pa_cons (pv 4) (pa_cons (pv 2) pa_nil)))) (pa_cons (pv 4) pa_nil)))))
      (pss_cons (ps_asg (pe_callBK (DM.cr_minKey (k := 1) (hr.mono (by omega))) (by rfl) T.n_min (by decide +kernel) (pa_cons (pv 3) pa_nil) (pk_cons (LM.pe_lam (CX := L2.CX P w) (k := 0) (N := ["case"]) (ps := ["case"]) (fr := []) T.t_table_for rfl rfl (NdefX.nscope_by (by decide +kernel)) (sc := defScope s_table_for) rfl (by decide +kernel) (fun _ _ _ _ _ us hl => match us, hl with | [_], _ => rfl) (fun _ _ _ _ _ _ _ hr => (pe_callB (lenK K rfl) (by rfl) T.n_len PySem.boot_len (pa_cons (pe_ix (ixK K rfl) (pv 0) pe_int (fun _ _ => rfl)) pa_nil)))) pk_nil)) (pg_tup (by rfl) (pgs_cons (pg_name (i := 5) sc_table_for.nd rfl (Or.inl rfl)) (pgs_cons (pg_name (i := 4) sc_table_for.nd rfl (by first | exact Or.inr rfl | exact Or.inl rfl)) pgs_nil))))
      (pss_cons (ps_setLc (i := 6) (own := [("hour", 7)]) (g := (gName 7)) rfl sc_table_for.nd rfl rfl (sw_true rfl rfl rfl (by decide +kernel)) (pi_list (pv 5)) (blkOk_by (own := [("hour", 7)]) (N := ["choices", "plan", "worth", "cases", "barge", "hours", "rows", "hour"]) (sc := defScope s_table_for) (by decide +kernel)) (fun _ _ _ _ _ => (pg_name (i := 7) sc_table_for.nd rfl (Or.inl rfl))) (fun _ _ _ _ _ => pts_nil) (fun _ _ _ _ _ => (pe_tup (pa_cons (pv 7) (pa_cons (pe_call ih (hr.mono (by omega)) (by rfl) T.g_table_for T.F_table_for.kp T.b_table_for .nil pass0 (pa_cons (pv 0) (pa_cons (pe_call (ok_with_hour T) (hr.mono (by omega)) (by rfl) T.g_with_hour T.F_with_hour.kp T.b_with_hour .nil pass0 (pa_cons (pv 1) (pa_cons (pv 4) (pa_cons (pv 7) pa_nil)))) (pa_cons (pv 2) pa_nil)))) pa_nil)))))
      (pss_one (ps_ret (pe_tup (pa_cons pe_str (pa_cons (pv 4) (pa_cons (pe_callTy call_tuple_of (by rfl) T.n_tuple (by decide +kernel) (pa_cons (pv 6) pa_nil)) pa_nil)))))))))), ?_⟩
      have lp := okp.len
      have n7 := ok.n7
      obtain ⟨pa, rfl, tp⟩ := id ip
      obtain ⟨dx, bv, wl, al, ws, as0, kvs, h1, h2, h3, h4, h5, h6, h7, h8⟩ := id ic
      refine ⟨_, rfl, pa, _, rfl, .inr tp, rfl, flat_plan pl, !decide (none ∈ pl), by rw [inV_none]; rfl, ?_⟩
      by_cases hn : none ∈ pl
      · rw [decide_eq_true hn]
        refine iteF ?_
        unfold tNext
        have hone : (openN pl pl.length) ≠ [] := fun z => by
          obtain ⟨i, hi⟩ := List.getElem?_of_mem hn
          have : i ∈ openN pl pl.length := openN_mem.mpr ⟨(List.getElem?_eq_some_iff.mp hi).1, getD_of hi⟩
          rw [z] at this
          cases this
        have hol := openN_len pl pl.length
        -- the cases
        refine ⟨_, rfl, .ref pa, pl, rfl, ip, by omega, fun H1 po e1 hpo tpo => ⟨po, rfl, ⟨_, .inl (.inl tpo)⟩, fun D hD => lc_tup (xs := natsV (openN pl pl.length)) (fun j Hx => Ext [sd] H1 Hx ∧ SdOk k Hx sd ∧ ∃ as, Hx D = some (.lst (as.map V.ref)) ∧ Paired (IsCase K k now w1 w2 pl D Hx) as ((openN pl pl.length).take j)) ⟨Ext.new hD, ⟨kvs, (e1.trans (Ext.new hD)).dT (by simp) h7, h8⟩, [], upd_same, .nil⟩ (fun _ _ _ z => z.1.sqT (.inl (.inl tpo))) (fun j x Hx hx z => ?_) (fun Hx z => ?_)⟩⟩
        · obtain ⟨ex, sdx, as, hDx, pas⟩ := z
          obtain ⟨b, hb, rfl⟩ := map_nat hx
          have hbm := openN_mem.mp (List.mem_of_getElem? hb)
          have hj : j < (openN pl pl.length).length := (List.getElem?_eq_some_iff.mp hb).1
          have las := plen pas
          rw [List.length_take] at las
          have g0 : Ext [sd] H Hx := e1.any.trans ex
          have nDs : D ≠ sd := fun z => by rw [z, e1.dT (by simp) h7] at hD; cases hD
          refine ⟨rfl, yesT ⟨_, rfl, a, dx, _, rfl, g0.ins (by simp; intro z; rw [z, h7] at h1; cases h1) h1, rfl, _, rfl, _, rfl, _, rfl, a, sd, wt, .ref pa, k, now, w1, w2, pl, b, rfl, ic.step g0 (fun c hc => .inl (by simpa using hc)) sdx, ok, g0.plan ip, okp, none_get hbm.1 hbm.2, g0.sqT tw, tb.ext g0, fun H4 p4 e4 sd4 hp4 hl4 => ⟨_, rfl, by show 2 ≤ sizeLine; decide, fun t ht => ?_⟩⟩⟩
          have eT := Ext.new (ex := []) (o := .tup [.ref p4, .int (b : Int)]) ht
          have hD4 := eT.lst D _ (by simp) (e4.lst D _ (by simpa using nDs) hDx)
          have np4 : p4 ≠ D := fun z => by rw [z, hDx] at hp4; cases hp4
          have hp5 := eT.lst p4 _ (by simp) hl4
          have w : Ext [D] (upd H4 t (.tup [.ref p4, .int (b : Int)])) (upd (upd H4 t (.tup [.ref p4, .int (b : Int)])) D (.lst (as.map V.ref ++ [.ref t]))) := Ext.wr (xs := as.map V.ref) (by simp) hD4
          have hsx := sdx
          have nsl : ∀ {Hz : Hp}, SdOk k Hz sd → ∀ c ∈ [sd], c = D ∨ ∀ xs, Hz c ≠ some (.lst xs) := fun hz c hc => .inr fun xs z => by
            obtain ⟨kv, z1, _⟩ := hz
            rw [List.mem_singleton.mp hc, z1] at z
            cases z
          refine ⟨_, hD4, small1000 (by rw [List.length_map]; omega), ?_, ?_, as ++ [t], ?_, ?_⟩
          · have := (ex.trans (e4.trans eT.any)).mono (ex' := [D, sd]) (by simp)
            exact (this.trans (w.mono (by simp))).forget hD
          · obtain ⟨kv, z1, z2⟩ := sd4
            exact ⟨kv, by rw [upd_ne nDs.symm]; exact eT.dT (by simp) z1, z2⟩
          · rw [upd_same, List.map_append]
            rfl
          · rw [List.take_add_one, hb]
            refine papp (Paired.mapP pas fun x y z => ?_) ⟨p4, w.sqT sqT_new, np4, w.lst p4 _ (by simpa using np4) hp5⟩
            refine w.caseOf (fun c hc => .inl (by simpa using hc)) (eT.caseOf (by simp) (e4.caseOf (nsl hsx) z))
        obtain ⟨ex, sdx, as, hDx, pas⟩ := z
        rw [natsV_len, List.take_length] at pas
        have g0 : Ext [sd] H Hx := e1.any.trans ex
        have las := plen pas
        have nDs : D ≠ sd := fun z => by rw [z, e1.dT (by simp) h7] at hD; cases hD
        have sdne : ∀ φ, H sd ≠ some (.ext φ) := fun φ z => by rw [h7] at z; cases z
        have ltx := lt.skip g0 (fun c hc φ => by rw [List.mem_singleton.mp hc]; exact sdne φ)
        obtain ⟨psx, hPx, _⟩ := id ltx.table_for
        -- the fewest
        refine ⟨_, rfl, ltx.table_for, fun f c H5 e5 T5 hfn nf nc L => ?_⟩
        have nP : ∀ {b : Addr} {o : HO}, Hx b = some o → (∀ φ, o ≠ .ext φ) → b ∉ [A.k_table_for.2] := fun {b o} hb n z => by
          rw [List.mem_singleton.mp z, hPx] at hb
          exact n _ (Option.some.inj hb).symm
        have hD5 := e5.lst D _ (nP hDx (fun _ z => by cases z)) hDx
        have lt5 := ltx.grow_table_for e5 (fun b hb => .inl (by simpa using hb)) T5
        have pas5 : Paired (IsCase K k now w1 w2 pl D H5) as (openN pl pl.length) := Paired.mapP pas fun x y z => e5.caseOf (fun c hc => .inr fun xs z => by rw [List.mem_singleton.mp hc, hPx] at z; cases z) z
        have sd5 : SdOk k H5 sd := let ⟨kv, z1, z2⟩ := sdx; ⟨kv, e5.dT (nP z1 (fun _ z => by cases z)) z1, z2⟩
        refine ⟨D, f, as, (openN pl pl.length).map fun b => ((betterL k now pl b w1 w2).length : Int), rfl, rfl, hD5, fun z => hone (List.length_eq_zero_iff.mp (by rw [← las, z]; rfl)), by rw [List.length_map, las], fun i x n0 hx hn0 Q' hq' => ?_, fun i x hx => ?_⟩
        · obtain ⟨b, hb, hl, c1, _, c3⟩ := pget pas5 hx
          rw [List.getElem?_map, hb] at hn0
          have en : ((betterL k now pl b w1 w2).length : Int) = n0 := Option.some.inj hn0
          refine goes0 L rfl rfl ?_
          refine ⟨_, rfl, .inr (.inl ⟨x, _, 0, _, rfl, rfl, c1, atI_nat (j := 0) rfl, hl, _, rfl, .inl (.inl (.inl c3)), ?_⟩)⟩
          rw [List.length_map, en]
          exact hq'
        obtain ⟨b, hb, hl, c1, nhD, c3⟩ := pget pas5 hx
        have hbm := List.mem_of_getElem? hb
        have hbo := openN_mem.mp hbm
        refine ⟨x, _, rfl, c1, rfl, _, _, rfl, _, _, rfl, rfl, ?_⟩
        have hlL := betterL_len k now pl b w1 w2
        have hop := none_get hbo.1 hbo.2
        have g5 : Ext [A.k_table_for.2, sd] H H5 := (g0.mono (by simp)).trans (e5.mono (by simp))
        have nls : hl ≠ sd := fun z => by obtain ⟨kv, z1, _⟩ := sd5; rw [z, z1] at c3; cases c3
        have nlP : hl ≠ A.k_table_for.2 := fun z => by obtain ⟨ps, z1, _⟩ := lt5.table_for; rw [← z, c3] at z1; cases z1
        have nxt : ∀ {ex : List Addr} {Hy : Hp}, (∀ c ∈ ex, c = A.k_table_for.2 ∨ c = sd) → Ext ex H5 Hy → SdOk k Hy sd → IsCho K A.c_Choices Hy a sd k now := fun {ex Hy} hx e hd => by
          have e2 : Ext [A.k_table_for.2, sd] H Hy := g5.trans (e.mono fun c hc => by rcases hx c hc with rfl | rfl <;> simp)
          exact ic.stepX e2 (fun c hc => by
            simp at hc
            rcases hc with rfl | rfl
            · obtain ⟨ps, z, _⟩ := lt.table_for
              exact .inr (.inr ⟨_, z⟩)
            · exact .inl rfl) hd
        -- the rows
        refine ⟨_, rfl, hl, rfl, ⟨_, .inl (.inl c3)⟩, fun D2 hD2 => lc_list (xs := (betterL k now pl b w1 w2).map V.int) (fun j Hy => Ext [A.k_table_for.2, sd] H5 Hy ∧ SdOk k Hy sd ∧ LTabs A Hy ∧ ∃ us ds, Hy D2 = some (.lst us) ∧ TdAll K Hy us ds ∧ Paired (RowT k now w1 w2 n pl b) ((betterL k now pl b w1 w2).take j) ds) ⟨(Ext.new (ex := []) hD2).any, (let ⟨kv, z1, z2⟩ := sd5; ⟨kv, (Ext.new (ex := []) hD2).dT (by simp) z1, z2⟩), lt5.ext (Ext.new hD2), [], [], upd_same, .nil, .nil⟩ (fun _ _ _ z => .inl (.inl (z.1.lst hl _ (by simp; exact ⟨nlP, nls⟩) c3))) (fun j y Hy hy z => ?_) (fun Hy z => ?_)⟩
        · obtain ⟨ey, sdy, lty, us, ds, hDy, tds, prs⟩ := z
          obtain ⟨h, hh, rfl⟩ := map_int hy
          have hmem := List.mem_of_getElem? hh
          have hb3 := betterL_now hmem
          have hgood := (betterL_iff ok okp good hop (now := now) hb3.2.1 hb3.2.2).mp ⟨(List.mem_filter.mp (List.mem_filter.mp hmem).1).2, (List.mem_filter.mp hmem).2⟩
          have gy := g5.trans ey
          have ipy := gy.plan ip
          refine ⟨rfl, yesT ⟨_, rfl, _, rfl, _, rfl, _, rfl, _, rfl, .ref pa, pl, b, h, rfl, ipy, hbo.1, by omega, fun H7 v7 e7 ip7 => ?_⟩⟩
          have sd7 : SdOk k H7 sd := let ⟨kv, z1, z2⟩ := sdy; ⟨kv, e7.dT (by simp) z1, z2⟩
          have gy7 := gy.trans (e7.any (ex := [A.k_table_for.2, sd]))
          have olt : (openN (putP pl b h) (putP pl b h).length).length < n := by
            have := open_put (h := h) hop pl.length
            rw [if_pos hbo.1] at this
            rw [putP_len hbo.1]
            omega
          refine ⟨_, rfl, a, sd, wt, v7, k, now, w1, w2, putP pl b h, rfl, nxt (by simp) (ey.trans e7.any) sd7, ok, ip7, putP_ok okp hbo.1 hb3.2.1 (by omega), hgood.2, gy7.sqT tw, tb.ext gy7, lty.ext e7, olt, fun H8 v8 d8 e8 sd8 lt8 td8 gr8 lay8 sh8 => ⟨by show 2 ≤ sizeLine; decide, fun t ht => ?_⟩⟩
          have eT := Ext.new (ex := []) (o := .tup [.int h, v8]) ht
          have nD2P : D2 ≠ A.k_table_for.2 := fun z => by obtain ⟨ps, z1, _⟩ := lty.table_for; rw [← z, hDy] at z1; cases z1
          have nD2s : D2 ≠ sd := fun z => by obtain ⟨kv, z1, _⟩ := sdy; rw [z, z1] at hDy; cases hDy
          have hD8 := eT.lst D2 _ (by simp) (e8.lst D2 _ (by simp; exact ⟨nD2P, nD2s⟩) (e7.lst D2 _ (by simp) hDy))
          have w : Ext [D2] (upd H8 t (.tup [.int h, v8])) (upd (upd H8 t (.tup [.int h, v8])) D2 (.lst (us ++ [.ref t]))) := Ext.wr (xs := us) (by simp) hD8
          have lus := tds.len
          have lds := plen prs
          rw [List.length_take] at lds
          have e78 := (e7.any (ex := [A.k_table_for.2, sd])).trans (e8.trans eT.any)
          refine ⟨_, hD8, small1000 (by omega), ?_, ?_, ?_, us ++ [.ref t], ds ++ [.tuple [.int h, d8]], upd_same, ?_, ?_⟩
          · have := (ey.trans e78).mono (ex' := [D2, A.k_table_for.2, sd]) (by simp)
            exact (this.trans (w.mono (by simp))).forget hD2
          · obtain ⟨kv, z1, z2⟩ := sd8
            exact ⟨kv, by rw [upd_ne nD2s.symm]; exact eT.dT (by simp) z1, z2⟩
          · exact (lt8.ext eT).skip w fun c hc φ z => by rw [List.mem_singleton.mp hc, hD8] at z; cases z
          · exact (w.tdAll (e78.tdAll tds)).app (.cons (.tup (w.sqT sqT_new) (.cons (.int h) (.cons (w.td (eT.td td8)) .nil))) .nil)
          · rw [List.take_add_one, hh]
            exact papp prs ⟨d8, rfl, gr8, lay8, sh8⟩
        · obtain ⟨ey, sdy, lty, us, ds, hDy, tds, prs⟩ := z
          rw [List.length_map, List.take_length] at prs
          refine ⟨_, rfl, _, rfl, D2, us, rfl, .inl ⟨.inl (.inl hDy), fun t ht => ?_⟩⟩
          have eT := Ext.new (ex := []) (o := .tup us) ht
          refine ⟨by show 3 ≤ sizeLine; decide, fun t2 ht2 => ?_⟩
          have eT2 := Ext.new (ex := []) (o := .tup [.str "cases", .int (b : Int), .ref t]) ht2
          have e2 := eT.trans eT2
          obtain ⟨gr, lay⟩ := tab_gr hlL prs
          refine q _ (.ref t2) (.tuple [.str "cases", .int (b : Int), .tuple ds]) (g5.trans (ey.trans e2.any)) ?_ (lty.ext e2) (.tup sqT_new (.cons (.str _) (.cons (.int _) (.cons (.tup (eT2.sqT sqT_new) (e2.tdAll tds)) .nil)))) gr lay (tab_cases hbm prs)
          obtain ⟨kv, z1, z2⟩ := sdy
          exact ⟨kv, e2.dT (by simp) z1, z2⟩
      · rw [decide_eq_false hn]
        refine iteT ⟨by show 1 ≤ sizeLine; decide, fun t ht => ?_⟩
        have eT := Ext.new (ex := []) (o := .tup [.str "done"]) ht
        refine q _ (.ref t) doneD eT.any ⟨kvs, eT.dT (by simp) h7, h8⟩ (lt.ext eT) (.tup sqT_new (.cons (.str _) .nil)) (.inl rfl) (layDone.le (by omega)) (tab_done okp good hn)

def spGroups (A : Ad) (K : PySem.W.Frag) : Sp := fun vs H Q _ => ∃ (a sd : Addr) (u : V) (k : Book) (now h : Int) (pl : List (Option Int)), vs = [.ref a, u, .int h] ∧ IsCho K A.c_Choices H a sd k now ∧ k.Ok ∧ IsPlan K H u pl ∧ PlOk k.bs.length pl ∧ Tabs A H ∧
  ∀ H' p, Ext [sd] H H' → SdOk k H' sd → H p = none → IsGrs K H' p (groupsL k now pl h) → Q (.ref p) H'
theorem ok_groups (T : Facts A K mg base) : FnOk P w K mg base CX0 4 A.a_groups A.d_groups ["choices", "start", "hour"] (spGroups A K) := by
  refine T.F_groups.ok sc_groups (fun vs H Q E h => ?_) (fun cdv A1 outer s H vs Q E hr h => ?_)
  · obtain ⟨a, sd, u, k, now, h, pl, rfl, _⟩ := h
    rfl
  · obtain ⟨a, sd, u, k, now, h, pl, rfl, ic, ok, ip, okp, tb, q⟩ := h
    refine ⟨_, PSs.nox (pss_cons (ps_set (i := 3) sc_groups.nd rfl (by first | exact Or.inr rfl | exact Or.inl rfl) (pe_call (ok_members T) (hr.mono (by decide)) (by rfl) T.g_members T.F_members.kp T.b_members .nil pass0 (pa_cons (pv 1) (pa_cons (pv 2) pa_nil))))
      (pss_cons (ps_set (i := 4) sc_groups.nd rfl (Or.inl rfl) (pe_lst (pa_cons (pe_tup pa_nil) pa_nil)))
      (pss_cons (ps_for PassesOwn.never rfl (pi_tup (pe_call (ok_open_barges T) (hr.mono (by decide)) (by rfl) T.g_open_barges T.F_open_barges.kp T.b_open_barges .nil pass0 (pa_cons (pv 1) pa_nil))) (pg_name (i := 5) sc_groups.nd rfl (by first | exact Or.inr rfl | exact Or.inl rfl)) (pss_one (ps_if (pt_cmpR op_in_seq (pv 2) (pe_ix ix_seq (pe_fld (pv 0) rfl) (pv 5) (fun _ _ => rfl)) (by rfl)) (pss_cons (ps_setLc (i := 6) (own := [("group", 7)]) (g := (gName 7)) rfl sc_groups.nd rfl rfl (sw_true rfl rfl rfl (by decide +kernel)) (pi_list (pv 4)) (blkOk_by (own := [("group", 7)]) (N := ["choices", "start", "hour", "aboard", "told", "barge", "wider", "group"]) (sc := defScope s_groups) (by decide +kernel)) (fun _ _ _ _ _ => (pg_name (i := 7) sc_groups.nd rfl (Or.inl rfl))) (fun _ _ _ _ _ => pts_nil) (fun _ _ _ _ _ => (pe_op (GD.catAK K rfl) (pv 7) (pe_tup (pa_cons (pv 5) pa_nil)))))
      (pss_one (ps_expr (pe_bm PySem.F.plainAttrs_list PySem.F.slot_list_extend PySem.F.type_list_extend mt_extend (pv 4) (pa_cons (pe_lc (own := [("group", 7)]) (g := (gName 7)) rfl sc_groups.nd (pi_list (pv 6)) (blkOk_by (own := [("group", 7)]) (N := ["choices", "start", "hour", "aboard", "told", "barge", "wider", "group"]) (sc := defScope s_groups) (by decide +kernel)) (fun _ _ _ _ _ => (pg_name (i := 7) sc_groups.nd rfl (Or.inl rfl))) (fun _ _ _ _ _ => (pts_one (pt_val (pe_meth (pv 0) T.cls_Choices T.m_Choices_share (ok_Choices_share T) (hr.mono (by decide)) T.b_Choices_share .nil pass0 (pa_cons (pe_op op_cat (pv 3) (pe_callTy (GD.listOfK K rfl) (by rfl) T.n_list (by decide +kernel) (pa_cons (pv 7) pa_nil))) pa_nil))))) (fun _ _ _ _ _ => (pv 7))) pa_nil))))) pss_nil)))
      (pss_one (ps_ret (pv 4)))))), ?_⟩
    have lp := okp.len
    have n7 := ok.n7
    refine ⟨_, rfl, _, rfl, u, pl, h, rfl, ip, by omega, fun H1 pA e1 hpA hA1 => ?_⟩
    -- told
    refine ⟨by show 0 ≤ sizeLine; exact Nat.zero_le _, fun te hte => ⟨by show 1 ≤ sizeLine; decide, fun L hL => ?_⟩⟩
    have e2 := e1.trans (Ext.new (ex := []) (o := .tup []) hte)
    have hte2 : SqT K (upd H1 te (.tup [])) te (natsV []) := sqT_new
    have hA2 := (Ext.new (ex := []) (o := .tup []) hte).lst pA _ (by simp) hA1
    have ic2 := ic.step e2 (by simp) (let ⟨kv, z1, z2⟩ := ic.sd; ⟨kv, e2.dT (by simp) z1, z2⟩)
    have tb2 := tb.ext e2
    have ip2 := e2.plan ip
    generalize upd H1 te (.tup []) = H2 at hL e2 hte2 hA2 ic2 tb2 ip2 ⊢
    have eL := Ext.new (ex := []) (o := .lst [.ref te]) hL
    obtain ⟨dx, v, wl, al, ws, as, kvs, h1, h2, h3, h4, h5, h6, h7, h8⟩ := id ic2
    have nLs : L ≠ sd := fun z => by rw [z, h7] at hL; cases hL
    have nAs : pA ≠ sd := fun z => by rw [z, h7] at hA2; cases hA2
    have nAL : pA ≠ L := ne_of_none hA2 hL
    have hos := pw_nodup (openN_pw pl pl.length)
    have hlen := openN_len pl pl.length
    generalize hab : memN pl h pl.length = ab at *
    -- the open ones
    refine ⟨_, rfl, u, pl, rfl, eL.plan ip2, by omega, fun H3 po e3 _ to4 => ⟨po, rfl, ⟨_, .inl (.inl to4)⟩, ?_⟩⟩
    have f3 := eL.trans e3
    have to3 : SqT K H3 po (natsV (openN pl pl.length)) := .inl (.inl to4)
    refine for_tup (xs := natsV (openN pl pl.length)) (fun i σ Hx => ∃ (y5 y6 y7 : Option V), σ = [some (.ref a), some u, some (.int h), some (.ref pA), some (.ref L), y5, y6, y7] ∧ i ≤ 7 ∧ Ext [L, sd] H2 Hx ∧ SdOk k Hx sd ∧ SqT K Hx po (natsV (openN pl pl.length)) ∧ IsGrs K Hx L (grpO k now h ab ((openN pl pl.length).take i)))
      ⟨_, _, _, rfl, Nat.zero_le _, f3.any, ⟨kvs, f3.dT (by simp) h7, h8⟩, to3, ⟨_, e3.lst L _ (by simp) upd_same, .cons ⟨te, rfl, f3.sqT hte2⟩ .nil⟩⟩ (fun _ _ _ _ z => ?_) (fun i x σ Hx hx z => ?_) (fun σ Hx z => ?_)
    · obtain ⟨_, _, _, _, _, _, _, z, _⟩ := z
      exact z
    · obtain ⟨y5, y6, y7, rfl, i7, ex, sdx, tox, ts, hLx, pts⟩ := z
      obtain ⟨b, hb, rfl⟩ := map_nat hx
      have hi : i < (openN pl pl.length).length := (List.getElem?_eq_some_iff.mp hb).1
      have hbm := openN_mem.mp (List.mem_of_getElem? hb)
      have step : grpO k now h ab ((openN pl pl.length).take (i + 1)) = grpStep k now h ab (grpO k now h ab ((openN pl pl.length).take i)) b := by
        rw [List.take_add_one, hb]
        exact grpO_snoc k now h ab _ b
      have lg := grpO_len k now h ab i ((openN pl pl.length).take i) (by rw [List.length_take]; omega)
      have lg2 : 2 ^ i ≤ 2 ^ 7 := Nat.pow_le_pow_right (by decide) i7
      have lts := plen pts
      obtain ⟨l, hal, hl⟩ := fits_at (i := b) (by omega) h6
      have nx : ∀ {c : Addr} {o : HO}, H2 c = some o → (∀ kv, o ≠ .dT kv) → c ∉ [L, sd] := fun {c o} hc hn z => by
        simp at z
        rcases z with rfl | rfl
        · rw [hL] at hc; cases hc
        · rw [h7] at hc; exact hn _ (Option.some.inj hc).symm
      have hl2 := ex.lst l _ (nx hl (fun _ z => by cases z)) hl
      have hal2 := ex.lst al _ (nx h5 (fun _ z => by cases z)) h5
      refine ⟨_, rfl, _, rfl, a, _, dx, _, _, rfl, ex.ins (nx h1 (fun _ z => by cases z)) h1, T.cls_Choices, T.na_Choices_alone, rfl, _, rfl, .inl ⟨al, as, _, _, rfl, rfl, .inl (.inl hal2), atI_nat hal, ?_⟩⟩
      refine ⟨l, _, rfl, .inl (.inl (.inl hl2)), rfl, flat_ints _, decide (h ∈ fitsL k now b), congrArg V.bl (inV_ints h _), ?_⟩
      by_cases hf : h ∈ fitsL k now b
      · rw [decide_eq_true hf]
        refine iteT ?_
        -- wider
        refine ⟨_, rfl, L, rfl, ⟨_, .inl (.inl hLx)⟩, fun D hD => lc_list (xs := ts) (fun j Hy => Ext [] Hx Hy ∧ IsGrs K Hy D (((grpO k now h ab ((openN pl pl.length).take i)).take j).map fun g => g ++ [b])) ⟨Ext.new hD, ⟨_, upd_same, .nil⟩⟩ (fun _ _ _ z => .inl (.inl (z.1.lst L _ (by simp) hLx))) (fun j y Hy hy z => ?_) (fun Hy z => ?_)⟩
        · obtain ⟨ey, ds, hDy, pds⟩ := z
          obtain ⟨g, hg, t, rfl, ht⟩ := pget pts hy
          have hgl : g.length ≤ 7 := by
            have := sub_len (grp_nodup (hos.sublist (List.take_sublist _ _)) (List.mem_of_getElem? hg)) (fun x hx => List.mem_of_mem_take (grp_mem (List.mem_of_getElem? hg) x hx))
            omega
          have lds := plen pds
          rw [List.length_map, List.length_take] at lds
          refine ⟨rfl, yesT ⟨_, rfl, _, rfl, by show 1 ≤ sizeLine; decide, fun t1 ht1 => ?_⟩⟩
          have e4 := Ext.new (ex := []) (o := .tup [.int (b : Int)]) ht1
          refine catA_any ((ey.trans e4).sqT ht) sqT_new (by rw [natsV_len]; simp; omega) (fun c H4 e5 t5 => ?_)
          have g5 := e4.trans e5
          refine ⟨_, g5.lst D _ (by simp) hDy, small1000 (by omega), (ey.trans g5).wrNew hD, ?_⟩
          have w : Ext [D] H4 (upd H4 D (.lst (ds ++ [.ref c]))) := Ext.wr (xs := ds) (by simp) (g5.lst D _ (by simp) hDy)
          refine ⟨_, upd_same, ?_⟩
          rw [map_take_succ hg]
          refine papp (Paired.mapP pds fun _ _ z => w.gr (g5.gr z)) ⟨c, rfl, w.sqT ?_⟩
          rw [natsV_app]
          exact t5
        · obtain ⟨ey, ds, hDy, pds⟩ := z
          rw [lts, List.take_length] at pds
          have hL2 := ey.lst L _ (by simp) hLx
          refine ⟨_, rfl, .inl ⟨rfl, _, .inl (.inl hL2)⟩, ?_⟩
          have hos2 := hos.sublist (List.take_sublist i (openN pl pl.length))
          have gin : ∀ g' ∈ grpO k now h ab ((openN pl pl.length).take i), ∀ x ∈ g', x < pl.length ∧ pl.getD x none = none := fun g' hg' x hx => openN_mem.mp (List.mem_of_mem_take (grp_mem hg' x hx))
          have gnd : ∀ g' ∈ grpO k now h ab ((openN pl pl.length).take i), (ab ++ (g' ++ [b])).Nodup := fun g' hg' => by
            have n1 : (g' ++ [b]).Nodup := by
              refine List.nodup_append.mpr ⟨grp_nodup hos2 hg', by simp, fun x hx y hy z => ?_⟩
              rw [List.mem_singleton.mp hy] at z
              obtain ⟨m, hm⟩ := List.getElem?_of_mem (grp_mem hg' x hx)
              rw [z, List.getElem?_take] at hm
              split at hm
              · have := (List.pairwise_iff_getElem.mp (openN_pw pl pl.length)) m i (List.getElem?_eq_some_iff.mp hm).1 hi (by omega)
                rw [(List.getElem?_eq_some_iff.mp hm).2, (List.getElem?_eq_some_iff.mp hb).2] at this
                omega
              · cases hm
            refine List.nodup_append.mpr ⟨by rw [← hab]; exact memN_nodup _, n1, fun x hx y hy z => ?_⟩
            subst z
            rw [← hab] at hx
            have := memN_of hx
            rcases List.mem_append.mp hy with hy | hy
            · rw [(gin g' hg' x hy).2] at this; cases this
            · rw [List.mem_singleton.mp hy, hbm.2] at this; cases this
          have glt : ∀ g' ∈ grpO k now h ab ((openN pl pl.length).take i), ∀ x ∈ ab ++ (g' ++ [b]), x < k.bs.length := fun g' hg' x hx => by
            rcases List.mem_append.mp hx with hx | hx
            · rw [← hab] at hx
              have := memN_lt hx
              omega
            · rcases List.mem_append.mp hx with hx | hx
              · have := (gin g' hg' x hx).1; omega
              · rw [List.mem_singleton.mp hx]; omega
          generalize hG : grpO k now h ab ((openN pl pl.length).take i) = G at *
          refine ⟨.ref D, rfl, D, rfl, ⟨_, .inl (.inl hDy)⟩, fun D2 hD2 => lc_list (xs := ds) (fun j Hz => Ext [sd] Hy Hz ∧ SdOk k Hz sd ∧ IsGrs K Hz D2 (((G.map fun g => g ++ [b]).take j).filter fun g => shareB k (ab ++ g))) ⟨Ext.new hD2, let ⟨kv, z1, z2⟩ := sdx; ⟨kv, (ey.trans (Ext.new hD2)).dT (by simp) z1, z2⟩, ⟨_, upd_same, .nil⟩⟩ (fun _ _ _ z => .inl (.inl (z.1.lst D _ (by simp; intro z2; rw [z2] at hD; obtain ⟨kv, z1, _⟩ := sdx; rw [z1] at hD; cases hD) hDy))) (fun j y Hz hy z => ?_) (fun Hz z => ?_)⟩
          · obtain ⟨ez, sdz, ds2, hD2z, pds2⟩ := z
            obtain ⟨g1, hg1, t, rfl, ht⟩ := pget pds hy
            have hg1' := hg1
            rw [List.getElem?_map] at hg1
            obtain ⟨g, hg, rfl⟩ := Option.map_eq_some_iff.mp hg1
            have hgm := List.mem_of_getElem? hg
            have lds2 := plen pds2
            have hll := List.length_filter_le (fun g => shareB k (ab ++ g)) ((G.map fun g => g ++ [b]).take j)
            rw [List.length_take, List.length_map] at hll
            have exz : Ext [L, sd] H2 Hz := ex.trans (ey.any.trans (ez.mono (by simp)))
            have nls : (ab ++ (g ++ [b])).length ≤ 7 := by
              have := sub_len (ys := List.range k.bs.length) (gnd g hgm) fun x hx => List.mem_range.mpr (glt g hgm x hx)
              rw [List.length_range] at this
              omega
            refine ⟨rfl, _, rfl, a, dx, _, rfl, exz.ins (nx h1 (fun _ z => by cases z)) h1, rfl, _, rfl, _, rfl, t, _, rfl, .inr (ez.sqT ht), fun l2 hl2 => ?_⟩
            have e4 := Ext.new (ex := []) (o := .lst (natsV (g ++ [b]))) hl2
            have hA4 := e4.lst pA _ (by simp) (exz.lst pA _ (nx hA2 (fun _ z => by cases z)) hA2)
            refine ⟨pA, l2, _, _, rfl, rfl, hA4, upd_same, by rw [natsV_len, natsV_len, ← List.length_append]; exact Nat.le_of_lt (small1000 (by omega)), fun c hc => ?_⟩
            have e5 := e4.trans (Ext.new (ex := []) (o := .lst (natsV ab ++ natsV (g ++ [b]))) hc)
            have hc5 : (upd (upd Hz l2 (.lst (natsV (g ++ [b])))) c (.lst (natsV ab ++ natsV (g ++ [b])))) c = some (.lst (natsV (ab ++ (g ++ [b])))) := by
              rw [upd_same]
              unfold natsV
              rw [List.map_append (l₁ := ab)]
            have sd5 : SdOk k (upd (upd Hz l2 (.lst (natsV (g ++ [b])))) c (.lst (natsV ab ++ natsV (g ++ [b])))) sd := let ⟨kv, z1, z2⟩ := sdz; ⟨kv, e5.dT (by simp) z1, z2⟩
            generalize upd (upd Hz l2 (.lst (natsV (g ++ [b])))) c (.lst (natsV ab ++ natsV (g ++ [b]))) = H5 at e5 hc5 sd5 ⊢
            have f5 : Ext [L, sd] H H5 := e2.any.trans (exz.trans e5.any)
            refine ⟨a, sd, c, k, now, _, rfl, ic.step f5 (fun b hb => by simp at hb; rcases hb with rfl | rfl; exact .inr (e2.dom _ hL); exact .inl rfl) sd5, ok, hc5, gnd g hgm, glt g hgm, tb.ext f5, fun H6 e6 sd6 => ⟨_, rfl, ?_⟩⟩
            have g6 : Ext [sd] Hz H6 := e5.any.trans e6
            have nD2s : D2 ≠ sd := fun z => by obtain ⟨kv, z1, _⟩ := sdz; rw [z, z1] at hD2z; cases hD2z
            have hD6 := g6.lst D2 _ (by simpa using nD2s) hD2z
            have stepf := filter_snoc_take (f := fun g => shareB k (ab ++ g)) hg1'
            cases hs : shareB k (ab ++ (g ++ [b])) with
            | false =>
              refine iteF ⟨ez.trans g6, sd6, ds2, hD6, ?_⟩
              rw [stepf, if_neg (by rw [hs]; decide), List.append_nil]
              exact Paired.mapP pds2 fun _ _ z => g6.gr z
            | true =>
              refine iteT ⟨_, rfl, ds2, hD6, small1000 (by omega), ?_⟩
              have w : Ext [D2] H6 (upd H6 D2 (.lst (ds2 ++ [.ref t]))) := Ext.wr (xs := ds2) (by simp) hD6
              refine ⟨(((ez.trans g6).mono (ex' := [D2, sd]) (by simp)).trans (w.mono (by simp))).forget hD2, ?_, _, upd_same, ?_⟩
              · obtain ⟨kv, z1, z2⟩ := sd6
                exact ⟨kv, by rw [upd_ne nD2s.symm]; exact z1, z2⟩
              · rw [stepf, if_pos (by rw [hs])]
                exact papp (Paired.mapP pds2 fun _ _ z => w.gr (g6.gr z)) ⟨t, rfl, w.sqT (g6.sqT (ez.sqT ht))⟩
          · obtain ⟨ez, sdz, ds2, hD2z, pds2⟩ := z
            rw [plen pds, List.take_length] at pds2
            have nDs : D2 ≠ L := fun z => by rw [z] at hD2; rw [hL2] at hD2; cases hD2
            have hLz := ez.lst L _ (by simpa using nLs) hL2
            have lds2 := plen pds2
            have hll := List.length_filter_le (fun g => shareB k (ab ++ g)) (G.map fun g => g ++ [b])
            rw [List.length_map] at hll
            refine ⟨L, D2, ts, ds2, rfl, rfl, hLz, hD2z, Nat.le_of_lt (small1000 (by omega)), ?_⟩
            have w : Ext [L] Hz (upd Hz L (.lst (ts ++ ds2))) := Ext.wr (xs := ts) (by simp) hLz
            have ff := (ey.any (ex := [L, sd])).trans ((ez.mono (by simp)).trans (w.mono (by simp)))
            refine ⟨_, _, _, rfl, by omega, ex.trans ff, ?_, ff.sqT tox, _, upd_same, ?_⟩
            · obtain ⟨kv, z1, z2⟩ := sdz
              exact ⟨kv, by rw [upd_ne nLs.symm]; exact z1, z2⟩
            · rw [step]
              unfold grpStep
              rw [if_pos hf]
              exact pappl (Paired.mapP pts fun _ _ z => ff.gr z) (Paired.mapP pds2 fun _ _ z => w.gr z)
      · rw [decide_eq_false hf]
        refine iteF ?_
        refine ⟨_, _, _, rfl, by omega, ex, sdx, tox, ts, hLx, ?_⟩
        rw [step]
        unfold grpStep
        rw [if_neg hf]
        exact pts
    · obtain ⟨y5, y6, y7, rfl, i7, ex, sdx, tox, hg⟩ := z
      rw [natsV_len, List.take_length] at hg
      have g := e2.any.trans (ex : Ext [L, sd] H2 Hx)
      exact ⟨_, rfl, q _ L (g.forget (e2.dom L hL)) sdx (e2.dom L hL) (by unfold groupsL; rw [hab]; exact hg)⟩

def spTaken (A : Ad) (K : PySem.W.Frag) : Sp := fun vs H Q _ => ∃ (l r : Addr) (ts : List V) (gs : List (List Nat)) (rest : List Nat), vs = [.ref l, .ref r] ∧ H l = some (.lst ts) ∧ Paired (IsGr K H) ts gs ∧ SqT K H r (natsV rest) ∧ gs.length ≤ 128 ∧ rest.length ≤ 7 ∧ Tabs A H ∧ ∀ H' p us, Ext [] H H' → H p = none → H' p = some (.lst us) → Paired (IsTk2 K H') us (takenL gs rest) → Q (.ref p) H'
theorem ok_taken (T : Facts A K mg base) : FnOk P w K mg base CX0 2 A.a_taken A.d_taken ["told", "rest"] (spTaken A K) := by
  refine GX.okT T.F_taken T.h_taken sc_taken (fun vs H Q E h => ?_) (fun A1 outer s H vs Q E hr h => ?_)
  · obtain ⟨l, r, ts, gs, rest, rfl, _⟩ := h
    rfl
  · obtain ⟨l, r, ts, gs, rest, rfl, hl, pg, hr2, n128, n7, tb, q⟩ := h
    refine ⟨_, PSs.nox (pss_cons (ps_set (i := 2) sc_taken.nd rfl (Or.inl rfl) (pe_lst pa_nil))
      (pss_cons (ps_for PassesOwn.never rfl (pi_list (pv 0)) (pg_name (i := 3) sc_taken.nd rfl (by first | exact Or.inr rfl | exact Or.inl rfl)) (pss_one (ps_if (pt_val (GX.pe_allG (own := [("barge", 4)]) (g := (gName 4)) hr (by rfl) T.n_all T.t_taken rfl (GX.genOk_by (own := [("barge", 4)]) (N := ["told", "rest", "pairs", "group", "barge"]) (sc := defScope s_taken) (by decide +kernel)) sc_taken.nd (pi_tup (pv 3)) (fun _ _ _ _ _ _ _ => (pg_name (i := 4) sc_taken.nd rfl (Or.inl rfl))) (fun _ _ _ _ _ _ _ => pts_nil) (fun _ _ _ _ _ _ _ => (pe_cmpR (GD.inK K rfl) (pv 4) (pv 1) (by rfl))))) (pss_one (ps_expr (pe_bm PySem.F.plainAttrs_list PySem.F.slot_list_append PySem.F.type_list_append mt_append (pv 2) (pa_cons (pe_tup (pa_cons (pv 3) (pa_cons (GX.pe_tupleG (own := [("barge", 4)]) (g := (gName 4)) hr (by rfl) T.n_tuple T.t_taken rfl (GX.genOk_by (own := [("barge", 4)]) (N := ["told", "rest", "pairs", "group", "barge"]) (sc := defScope s_taken) (by decide +kernel)) sc_taken.nd (pi_tup (pv 1)) (fun _ _ _ _ _ _ _ => (pg_name (i := 4) sc_taken.nd rfl (Or.inl rfl))) (fun _ _ _ _ _ _ _ => (pts_one (pt_cmpR (GD.notInK K rfl) (pv 4) (pv 3) (by rfl)))) (fun _ _ _ _ _ _ _ => (pv 4))) pa_nil))) pa_nil)))) pss_nil)))
      (pss_one (ps_ret (pv 2))))), ?_⟩
    have lg := plen pg
    refine ⟨Nat.zero_le _, fun L hL => ?_⟩
    have e0 := Ext.new (ex := []) (o := .lst []) hL
    refine ⟨_, rfl, l, rfl, ⟨_, .inl (.inl (e0.lst l _ (by simp) hl))⟩, for_list (xs := ts) (fun i σ H2 => ∃ y3 y4, σ = [some (.ref l), some (.ref r), some (.ref L), y3, y4] ∧ i ≤ ts.length ∧ Ext [] H H2 ∧ ∃ us, H2 L = some (.lst us) ∧ Paired (IsTk2 K H2) us (takenL (gs.take i) rest))
      ⟨_, _, rfl, Nat.zero_le _, e0, [], upd_same, .nil⟩ (fun i σ H2 _ z => ?_) (fun i x σ H2 hx z => ?_) (fun σ H2 z => ?_)⟩
    · obtain ⟨_, _, _, _, e, _⟩ := z
      exact .inl (.inl (e.lst l _ (by simp) hl))
    · obtain ⟨y3, y4, rfl, _, e2, us, hL2, pu⟩ := z
      obtain ⟨g, hg, t, rfl, ht⟩ := pget pg hx
      have hi : i < ts.length := (List.getElem?_eq_some_iff.mp hx).1
      have lu := plen pu
      have tkl := takenL_le (gs.take i) rest
      rw [List.length_take] at tkl
      have step : takenL (gs.take (i + 1)) rest = takenL (gs.take i) rest ++ (if g.all (fun b => decide (b ∈ rest)) = true then [(g, rest.filter fun b => decide (b ∉ g))] else []) := by
        rw [List.take_add_one, hg]
        exact takenL_snoc _ _ _
      have no : ∀ {H3 : Hp} {y4' : Option V}, Ext [] H2 H3 → g.all (fun b => decide (b ∈ rest)) = false → ∃ y3 y4, ([some (.ref l), some (.ref r), some (.ref L), some (.ref t), y4'] : L2.St) = [some (.ref l), some (.ref r), some (.ref L), y3, y4] ∧ i + 1 ≤ ts.length ∧ Ext [] H H3 ∧ ∃ us, H3 L = some (.lst us) ∧ Paired (IsTk2 K H3) us (takenL (gs.take (i + 1)) rest) := fun {H3 y4'} e3 hb => by
        refine ⟨_, _, rfl, hi, e2.trans e3, us, e3.lst L _ (by simp) hL2, ?_⟩
        rw [step, hb, if_neg (by decide), List.append_nil]
        exact Paired.mapP pu fun _ _ z => e3.tk2 z
      have f2 : SqT K H2 t (natsV g) := e2.sqT ht
      unfold gName tIfS tB
      dsimp only
      refine allG_tup (xs := natsV g) ?_ f2 (tb.ext e2).taken (fun m H3 => Ext [] H2 H3 ∧ m ≤ g.length ∧ (g.take m).all (fun b => decide (b ∈ rest)) = true) (fun H3 hT => ⟨Ext.tab (tb.ext e2).taken hT, Nat.zero_le _, rfl⟩) (fun _ _ _ z => z.1.sqT f2) (fun m x H3 hx z => ?_) (fun H3 z => ?_)
      · rfl
      · obtain ⟨b, hb, rfl⟩ := map_get hx
        obtain ⟨e3, _, had⟩ := z
        have hm : m < g.length := (List.getElem?_eq_some_iff.mp hb).1
        refine ⟨rfl, yesT ⟨_, rfl, _, rfl, r, _, rfl, .inr ((e2.trans e3).sqT hr2), rfl, flat_nats2 rest, decide (b ∈ rest), congrArg V.bl (inV_nats2 b rest), ?_⟩⟩
        by_cases c : b ∈ rest
        · rw [decide_eq_true c]
          refine iteT ⟨e3, hm, ?_⟩
          rw [List.take_add_one, hb, List.all_append, had]
          show (true && (decide (b ∈ rest) && true)) = true
          rw [decide_eq_true c]
          rfl
        · rw [decide_eq_false c]
          refine iteF ⟨false, rfl, iteF (no e3 ?_)⟩
          rw [List.all_eq_false]
          exact ⟨b, List.mem_of_getElem? hb, by rw [decide_eq_false c]; decide⟩
      · obtain ⟨e3, _, had⟩ := z
        have lgn : (natsV g).length = g.length := by unfold natsV; rw [List.length_map]
        rw [lgn, List.take_length] at had
        refine ⟨true, rfl, iteT ?_⟩
        have f3 := e2.trans e3
        refine ⟨_, rfl, .inl ⟨rfl, _, .inl (.inl (e3.lst L _ (by simp) hL2))⟩, _, rfl, ?_⟩
        refine tupG_tup (xs := natsV rest) rfl (f3.sqT hr2) (tb.ext f3).taken (fun m z H4 => Ext [] H3 H4 ∧ m ≤ rest.length ∧ z = natsV ((rest.take m).filter fun b => decide (b ∉ g))) (fun H4 hT => ⟨Ext.tab (tb.ext f3).taken hT, Nat.zero_le _, rfl⟩) (fun _ _ _ _ z => (f3.trans z.1).sqT hr2) (fun m x z H4 hx y => ?_) (fun z H4 y => ?_)
        · obtain ⟨b, hb, rfl⟩ := map_get hx
          obtain ⟨e4, _, rfl⟩ := y
          have hm : m < rest.length := (List.getElem?_eq_some_iff.mp hb).1
          have stepf : (rest.take (m + 1)).filter (fun b => decide (b ∉ g)) = (rest.take m).filter (fun b => decide (b ∉ g)) ++ (if b ∈ g then [] else [b]) := by
            rw [List.take_add_one, hb, List.filter_append]
            by_cases c : b ∈ g <;> simp [c]
          refine ⟨rfl, _, rfl, _, rfl, t, _, rfl, .inr (e4.sqT (e3.sqT f2)), rfl, flat_nats2 g, decide (b ∉ g), congrArg V.bl (by show (!inV (.int (b : Int)) (natsV g)) = decide (b ∉ g); rw [inV_nats2]; by_cases c : b ∈ g <;> simp [c]), ?_⟩
          by_cases c : b ∈ g
          · rw [decide_eq_false (fun z => z c)]
            refine iteF ⟨e4, hm, ?_⟩
            rw [stepf, if_pos c, List.append_nil]
          · rw [decide_eq_true c]
            refine iteT ⟨_, rfl, small1000 ?_, e4, hm, ?_⟩
            · unfold natsV
              rw [List.length_map]
              have := List.length_filter_le (fun b => decide (b ∉ g)) (rest.take m)
              rw [List.length_take] at this
              omega
            · rw [stepf, if_neg c]
              unfold natsV
              rw [List.map_append]
              rfl
        · obtain ⟨e4, _, rfl⟩ := y
          have lrn : (natsV rest).length = rest.length := by unfold natsV; rw [List.length_map]
          rw [lrn, List.take_length]
          have lf : (natsV (rest.filter fun b => decide (b ∉ g))).length ≤ 7 := by
            unfold natsV
            rw [List.length_map]
            exact Nat.le_trans (List.length_filter_le _ _) n7
          refine ⟨Nat.le_of_lt (small1000 (by omega)), fun p hp => ⟨by show 2 ≤ sizeLine; decide, fun t2 ht2 => ?_⟩⟩
          have eP := Ext.new (ex := []) (o := .tup (natsV (rest.filter fun b => decide (b ∉ g)))) hp
          have eT := Ext.new (ex := []) (o := .tup [.ref t, .ref p]) ht2
          have ee := e3.trans (e4.trans (eP.trans eT))
          have hL4 := ee.lst L _ (by simp) hL2
          have w : Ext [L] _ _ := Ext.wr (ys := us ++ [.ref t2]) (ex := [L]) (by simp) hL4
          refine ⟨L, _, _, rfl, rfl, hL4, small1000 (by omega), ?_⟩
          refine ⟨_, _, rfl, hi, (e2.trans ee).wrNew hL, _, upd_same, ?_⟩
          rw [step, had, if_pos rfl]
          exact papp (Paired.mapP pu fun _ _ z => w.tk2 (ee.tk2 z)) ⟨t2, t, p, rfl, w.sqT sqT_new, w.sqT (ee.sqT f2), w.tup _ _ (eT.tup _ _ upd_same)⟩
    · obtain ⟨_, _, rfl, _, e, us, hL2, pu⟩ := z
      rw [lg, List.take_length] at pu
      exact ⟨_, rfl, q _ L us e hL hL2 pu⟩

def spJoined (K : PySem.W.Frag) : Sp := fun vs H Q _ => ∃ (u : V) (t : Addr) (pl : List (Option Int)) (g : List Nat) (h : Int), vs = [u, .ref t, .int h] ∧ IsPlan K H u pl ∧ SqT K H t (natsV g) ∧ (∀ b ∈ g, b < pl.length) ∧ pl.length ≤ 7 ∧ ∀ H' v, Ext [] H H' → IsPlan K H' v (joinP pl g h) → Q v H'
theorem ok_joined (T : Facts A K mg base) : FnOk P w K mg base CX0 2 A.a_joined A.d_joined ["plan", "group", "hour"] (spJoined K) := by
  refine T.F_joined.ok sc_joined (fun vs H Q E h => ?_) (fun cdv A1 outer s H vs Q E hr h => ?_)
  · obtain ⟨u, t, pl, g, h, rfl, _⟩ := h
    rfl
  · obtain ⟨u, t, pl, g, h, rfl, ip, tt, hg, n7, q⟩ := h
    refine ⟨_, PSs.nox (pss_cons (ps_for PassesOwn.never rfl (pi_tup (pv 1)) (pg_name (i := 3) sc_joined.nd rfl (Or.inl rfl)) (pss_one (ps_set (i := 0) sc_joined.nd rfl (Or.inl rfl) (pe_call (ok_with_hour T) (hr.mono (by decide)) (by rfl) T.g_with_hour T.F_with_hour.kp T.b_with_hour .nil pass0 (pa_cons (pv 0) (pa_cons (pv 3) (pa_cons (pv 2) pa_nil)))))))
      (pss_one (ps_ret (pv 0)))), ?_⟩
    refine ⟨_, rfl, t, rfl, ⟨_, tt⟩, for_tup (xs := natsV g) (fun i σ H1 => ∃ v y3, σ = [some v, some (.ref t), some (.int h), y3] ∧ Ext [] H H1 ∧ IsPlan K H1 v (joinP pl (g.take i) h))
      ⟨u, none, rfl, Ext.refl, ip⟩ (fun i σ H1 _ z => ?_) (fun i x σ H1 hx z => ?_) (fun σ H1 z => ?_)⟩
    · obtain ⟨_, _, _, e, _⟩ := z
      exact e.sqT tt
    · obtain ⟨b, hb, rfl⟩ := map_nat hx
      obtain ⟨v, y3, rfl, e1, ip1⟩ := z
      have hgt : ∀ x ∈ g.take i, x < pl.length := fun x hx => hg x (List.mem_of_mem_take hx)
      have hl := joinP_len (h := h) hgt
      refine ⟨_, rfl, _, rfl, _, rfl, v, joinP pl (g.take i) h, b, h, rfl, ip1, by rw [hl]; exact hg b (List.mem_of_getElem? hb), by omega, fun H2 v2 e2 ip2 => ?_⟩
      refine ⟨v2, _, rfl, e1.trans e2, ?_⟩
      rw [joinP_take hb]
      exact ip2
    · obtain ⟨v, y3, rfl, e1, ip1⟩ := z
      rw [natsV_len, List.take_length] at ip1
      exact ⟨_, rfl, q H1 v e1 ip1⟩

def IsRank (P : Program) (w : World) (A : Ad) (K : PySem.W.Frag) (mg : Str → Option Value) (base : Heap) (H : Hp) (a sd f : Addr) (k : Book) (now : Int) (R : List (Option Int) → List (Option Int)) : Prop :=
  LM.IsLam H f ∧ ∀ (H1 : Hp) (v : V) (ql : List (Option Int)) (Q' : VK), Ext [sd] H H1 → IsCho K A.c_Choices H1 a sd k now → IsPlan K H1 v ql → PlOk k.bs.length ql → (∀ H2 t, Ext [] H1 H2 → SqT K H2 t ((R ql).map oV) → Q' (.ref t) H2) → LM.Goes P w K mg base (L2.CX P w) 3 f H1 [v] Q' (fun _ _ _ => False)
def spLeast (P : Program) (w : World) (A : Ad) (K : PySem.W.Frag) (mg : Str → Option Value) (base : Heap) : Sp := fun vs H Q _ => ∃ (a sd f : Addr) (u : V) (k : Book) (now : Int) (pl : List (Option Int)) (R : List (Option Int) → List (Option Int)), vs = [.ref a, u, .int now, .ref f] ∧ IsCho K A.c_Choices H a sd k now ∧ k.Ok ∧ IsPlan K H u pl ∧ PlOk k.bs.length pl ∧ allR k pl = [] ∧ now ≤ 1000 ∧ IsRank P w A K mg base H a sd f k now R ∧ RankOk k pl R ∧ Tabs A H ∧
  ∀ H' v, Ext [sd] H H' → SdOk k H' sd → ((v = .non ∧ ∀ c ∈ stageL k now pl (hoursF now), opens c ≠ []) ∨ ∃ p, IsPlan K H' v p ∧ p ∈ stageL k now pl (hoursF now) ∧ opens p = [] ∧ ∀ c ∈ stageL k now pl (hoursF now), opens c = [] → lexO (R c) (R p) = false) → Q v H'
theorem ok_least (T : Facts A K mg base) : FnOk P w K mg base CX0 5 A.a_least A.d_least ["choices", "start", "now", "rank"] (spLeast P w A K mg base) := by
  refine T.F_least.ok sc_least (fun vs H Q E h => ?_) (fun cdv A1 outer s H vs Q E hr h => ?_)
  · obtain ⟨a, sd, f, u, k, now, pl, R, rfl, _⟩ := h
    rfl
  · obtain ⟨a, sd, f, u, k, now, pl, R, rfl, ic, ok, ip, okp, good, hn, ⟨il, rk⟩, RO, tb, q⟩ := h
    refine ⟨_, PSs.nox (pss_cons (ps_set (i := 4) sc_least.nd rfl (Or.inl rfl) (DD.pe_dispT hr.units0 (pe_call (ok_open_barges T) (hr.mono (by decide)) (by rfl) T.g_open_barges T.F_open_barges.kp T.b_open_barges .nil pass0 (pa_cons (pv 1) pa_nil)) (pv 1)))
      (pss_cons (ps_for PassesOwn.never rfl (pi_list (pe_call (ok_hours_from T) (hr.mono (by decide)) (by rfl) T.g_hours_from T.F_hours_from.kp T.b_hours_from .nil pass0 (pa_cons (pv 2) pa_nil))) (pg_name (i := 5) sc_least.nd rfl (Or.inl rfl)) (pss_cons (ps_set (i := 6) sc_least.nd rfl (Or.inl rfl) (pe_call (ok_groups T) (hr.mono (by decide)) (by rfl) T.g_groups T.F_groups.kp T.b_groups .nil pass0 (pa_cons (pv 0) (pa_cons (pv 1) (pa_cons (pv 5) pa_nil)))))
      (pss_cons (ps_set (i := 7) sc_least.nd rfl (Or.inl rfl) pe_dnewT)
      (pss_cons (ps_lock (ps_for PassesOwn.never rfl (DD.pi_itemsT (pv 4)) (pg_tup (by rfl) (pgs_cons (pg_name (i := 8) sc_least.nd rfl (Or.inl rfl)) (pgs_cons (pg_name (i := 9) sc_least.nd rfl (Or.inl rfl)) pgs_nil))) (pss_one (ps_for PassesOwn.never rfl (pi_list (pe_call (ok_taken T) (hr.mono (by decide)) (by rfl) T.g_taken T.F_taken.kp T.b_taken .nil pass0 (pa_cons (pv 6) (pa_cons (pv 8) pa_nil)))) (pg_tup (by rfl) (pgs_cons (pg_name (i := 10) sc_least.nd rfl (Or.inl rfl)) (pgs_cons (pg_name (i := 11) sc_least.nd rfl (Or.inl rfl)) pgs_nil))) (pss_cons (ps_set (i := 12) sc_least.nd rfl (Or.inl rfl) (pe_call (ok_joined T) (hr.mono (by decide)) (by rfl) T.g_joined T.F_joined.kp T.b_joined .nil pass0 (pa_cons (pv 9) (pa_cons (pv 10) (pa_cons (pv 5) pa_nil)))))
      (pss_one (ps_if (PW.pt (pw_or (pt_cmp (pc_dnotin (GD.lt1 hr.units) (pv 11) (pv 7))) (pw_or1 (pt_cmpR (GD.op_ltO hr.units0) (by exact (LM.pe_goes (P := P) (w := w) (K := K) (mg := mg) (base := base) (CX := L2.CX P w) (k := 3) (i := 3) (E := fun _ _ _ _ => False) ⟨rfl, rfl, rfl, rfl, rfl⟩ (hr.mono (by decide)) (by rfl) (by first | exact Or.inl rfl | exact Or.inr (Or.inl rfl) | exact Or.inr (Or.inr rfl)) (fun σ => GD.pass_none σ) (pa_cons (pv 12) pa_nil))) (by exact (LM.pe_goes (P := P) (w := w) (K := K) (mg := mg) (base := base) (CX := L2.CX P w) (k := 3) (i := 3) (E := fun _ _ _ _ => False) ⟨rfl, rfl, rfl, rfl, rfl⟩ (hr.mono (by decide)) (by rfl) (by first | exact Or.inl rfl | exact Or.inr (Or.inl rfl) | exact Or.inr (Or.inr rfl)) (fun σ => GD.pass_none σ) (pa_cons (pe_dget (GD.lt1 hr.units) (pv 7) (pv 11) (fun _ _ => rfl)) pa_nil))) (nomark _))))) (pss_one (ps_dput (GD.lt1 hr.units) (pv 7) (pv 11) (pv 12) rfl)) pss_nil)))))))
      (pss_one (ps_set (i := 4) sc_least.nd rfl (Or.inl rfl) (pv 7)))))))
      (pss_one (ps_ret (pe_dget1 (GD.lt1 hr.units) (pv 4) (pe_tup pa_nil) ⟨rfl, rfl, rfl, rfl⟩))))), ?_⟩
    have lp := okp.len
    have n7 := ok.n7
    have ops : opens pl = openN pl pl.length := rfl
    refine (fun D hD => ?_)
    have e0 := Ext.new (ex := []) (o := .dT []) hD
    refine ⟨_, rfl, u, pl, rfl, e0.plan ip, by omega, fun H1 po e1 hpo tpo => ⟨_, rfl, e1.dT (by simp) upd_same, po, keyN (opens pl), rfl, by rw [keyN_kV]; exact tpo, ?_⟩⟩
    have hD1 := e1.dT (by simp) (show (upd H D (.dT [])) D = some (.dT []) from upd_same)
    have eD : Ext [D] H1 (upd H1 D (.dT [(keyN (opens pl), u)])) := Ext.wrD (by simp) hD1
    have f2 : Ext [] H (upd H1 D (.dT [(keyN (opens pl), u)])) := ((e0.any.trans (e1.any.trans eD))).forget hD
    have hD2 : (upd H1 D (.dT [(keyN (opens pl), u)])) D = some (.dT [(keyN (opens pl), u)]) := upd_same
    generalize upd H1 D (.dT [(keyN (opens pl), u)]) = H2 at f2 hD2 ⊢
    have ip2 := f2.plan ip
    obtain ⟨kvs0, hs0, okv0⟩ := ic.sd
    have ho := hoursF_ok now
    have hfl := hoursF_len now
    refine ⟨_, rfl, now, rfl, hn, fun H3 lh e3 hlh hl3 => ⟨lh, rfl, ⟨_, .inl (.inl hl3)⟩, ?_⟩⟩
    have f3 := f2.trans e3
    have nlh : lh ≠ sd := fun z => by rw [z, f2.dT (by simp) hs0] at hlh; cases hlh
    refine for_list (xs := (hoursF now).map V.int) (fun i σ Hx => ∃ (D : Addr) (kvs : List (List L2.Key × V)) (kp : List (List Nat × List (Option Int))) (y5 y6 y7 y8 y9 y10 y11 y12 : Option V), σ = [some (.ref a), some u, some (.int now), some (.ref f), some (.ref D), y5, y6, y7, y8, y9, y10, y11, y12] ∧ Ext [sd] H3 Hx ∧ SdOk k Hx sd ∧ H D = none ∧ Hx D = some (.dT kvs) ∧ QV (IsPlan K Hx) kvs kp ∧ Kept R (stageL k now pl ((hoursF now).take i)) kp)
      ⟨D, _, [(opens pl, pl)], _, _, _, _, _, _, _, _, rfl, Ext.refl, ⟨kvs0, f3.dT (by simp) hs0, okv0⟩, hD, e3.dT (by simp) hD2, .cons ⟨rfl, f3.plan ip⟩ .nil, Kept.one pl⟩ (fun i σ Hx _ z => ?_) (fun i x σ Hx hx z => ?_) (fun σ Hx z => ?_)
    · obtain ⟨_, _, _, _, _, _, _, _, _, _, _, _, z, _⟩ := z
      exact .inl (.inl (z.lst lh _ (by simpa using nlh) hl3))
    · obtain ⟨D, kvs, kp, y5, y6, y7, y8, y9, y10, y11, y12, rfl, ex, sdx, hDn, hDx, qv, kept⟩ := z
      obtain ⟨h, hh, rfl⟩ := map_int hx
      have hb := hoursF_mem.mp (List.mem_of_getElem? hh)
      have g0 : Ext [sd] H Hx := f3.any.trans ex
      have stk : stageL k now pl ((hoursF now).take (i + 1)) = stepL k now pl h (stageL k now pl ((hoursF now).take i)) := stage_take hh
      have son : ∀ p ∈ stageL k now pl ((hoursF now).take i), OnFrom k pl ((hoursF now).take i) p := fun p => (stage_mem ok okp good _ _ rfl (ho.take i) p).mp
      have hni := nodup_take ho.nd hh
      have klen := (kept.keys (n := k.bs.length) fun c hc => (son c hc).ok.len).len n7
      have lkv := plen qv
      refine ⟨_, rfl, _, rfl, _, rfl, a, sd, u, k, now, h, pl, rfl, ic.step g0 (fun b hb => .inl (by simpa using hb)) sdx, ok, g0.plan ip, okp, tb.ext g0, fun H4 L e4 sd4 hLn gL => ?_⟩
      have g4 := g0.trans e4
      -- after
      intro A2 hA2
      have eA := Ext.new (ex := [sd]) (o := .dT []) hA2
      have g5 := g4.trans eA
      have hA5 : (upd H4 A2 (.dT [])) A2 = some (.dT []) := upd_same
      have nDs : D ≠ sd := fun z => by rw [z, hs0] at hDn; cases hDn
      have hD5 := eA.dT (by simpa using nDs) (e4.dT (by simpa using nDs) hDx)
      have sd5 : SdOk k (upd H4 A2 (.dT [])) sd := let ⟨kv, z1, z2⟩ := sd4; ⟨kv, (Ext.new (ex := []) hA2).dT (by simp) z1, z2⟩
      have nAs : A2 ≠ sd := fun z => by obtain ⟨kv, z1, _⟩ := sd4; rw [z, z1] at hA2; cases hA2
      have nAD : A2 ≠ D := fun z => by rw [z, e4.dT (by simpa using nDs) hDx] at hA2; cases hA2
      have hA2n : H A2 = none := g4.dom A2 hA2
      have hA23 : H3 A2 = none := (ex.trans e4).dom A2 hA2
      have nfs : f ≠ sd := fun z => by obtain ⟨F, b, z1⟩ := il; rw [z, hs0] at z1; cases z1
      have nLs : L ≠ sd := fun z => by obtain ⟨kv, z1, _⟩ := sdx; rw [z, z1] at hLn; cases hLn
      have gL5 : IsGrs K (upd H4 A2 (.dT [])) L (groupsL k now pl h) := (Ext.new (ex := []) hA2).grs (by simp) gL
      have nLA : L ≠ A2 := fun z => by obtain ⟨ts, z1, _⟩ := gL; rw [z, hA2] at z1; cases z1
      have nLD : L ≠ D := fun z => by rw [z, hDx] at hLn; cases hLn
      have qv5 : QV (IsPlan K (upd H4 A2 (.dT []))) kvs kp := qv.mono fun _ _ z => eA.plan (e4.plan z)
      have ex5 : Ext [sd] H3 (upd H4 A2 (.dT [])) := ex.trans (e4.trans eA)
      generalize upd H4 A2 (.dT []) = H5 at g5 hA5 hD5 sd5 gL5 qv5 ex5 ⊢
      refine ⟨D, .dT kvs, hD5, trivial, fun od => ?_⟩
      have eLk : Ext [D] H5 (upd H5 D (.frz od (.dT kvs))) := DD.Ext.locked hD5 trivial
      have hD6 : (upd H5 D (.frz od (.dT kvs))) D = some (.frz od (.dT kvs)) := upd_same
      have hA6 := eLk.dT (by simpa using nAD) hA5
      have sd6 : SdOk k (upd H5 D (.frz od (.dT kvs))) sd := let ⟨kv, z1, z2⟩ := sd5; ⟨kv, eLk.dT (by simpa using nDs.symm) z1, z2⟩
      have gL6 := eLk.grs (by simpa using nLD) gL5
      have qv6 : QV (IsPlan K (upd H5 D (.frz od (.dT kvs)))) kvs kp := qv5.mono fun _ _ z => eLk.plan z
      have back : ∀ {Hy : Hp}, Ext [A2, sd] (upd H5 D (.frz od (.dT kvs))) Hy → Ext [A2, sd] H5 (upd Hy D (.dT kvs)) := fun {Hy} e => DD.Ext.unlock hD5 trivial e
      have up : ∀ {Hy : Hp}, Ext [A2, sd] (upd H5 D (.frz od (.dT kvs))) Hy → Ext [sd] H Hy := fun {Hy} e => (((g5.mono (ex' := [D, A2, sd]) (by simp)).trans ((eLk.mono (by simp)).trans (e.mono (by simp)))).forget hDn).forget hA2n
      generalize upd H5 D (.frz od (.dT kvs)) = H6 at hD6 hA6 sd6 gL6 qv6 back up ⊢
      refine ⟨_, rfl, D, od, kvs, rfl, hD6, DD.for_itemsT (fun j σ Hy => ∃ (y8 y9 y10 y11 y12 : Option V) (kvs2 : List (List L2.Key × V)) (kp2 : List (List Nat × List (Option Int))), σ = [some (.ref a), some u, some (.int now), some (.ref f), some (.ref D), some (.int h), some (.ref L), some (.ref A2), y8, y9, y10, y11, y12] ∧ Ext [A2, sd] H6 Hy ∧ SdOk k Hy sd ∧ Hy A2 = some (.dT kvs2) ∧ QV (IsPlan K Hy) kvs2 kp2 ∧ Kept R (candsL k now pl h (kp.take j)) kp2)
        ⟨_, _, _, _, _, [], [], rfl, Ext.refl, sd6, hA6, .nil, Kept.nil⟩ (fun j σ Hy _ z => ?_) (fun j kk v qa T σ Hy hj z hT hq => ?_) (fun σ Hy z => ?_)⟩
      · obtain ⟨_, _, _, _, _, _, _, _, z, _⟩ := z
        exact z.frz D od _ hD6
      · obtain ⟨y8, y9, y10, y11, y12, kvs2, kp2, rfl, ey, sdy, hAy, qv2, kept2⟩ := z
        obtain ⟨⟨rest, plan⟩, hkp, ekk, ipv⟩ := pget qv hj
        have ekk : kk = keyN rest := ekk
        subst ekk
        rw [keyN_kV] at hq
        have hmk := List.mem_of_getElem? hkp
        obtain ⟨kin, kop⟩ := kept.ok _ hmk
        have kin : plan ∈ stageL k now pl ((hoursF now).take i) := kin
        have kop : opens plan = rest := kop
        have onp := son plan kin
        have lpl := onp.ok.len
        have lrest : rest.length ≤ 7 := by rw [← kop]; have := openN_len plan plan.length; unfold opens; omega
        have ipv6 : IsPlan K H6 v plan := by
          obtain ⟨q0, hq0, _, z⟩ := pget qv6 hj
          rw [hkp] at hq0
          cases hq0
          exact z
        have eT := Ext.new (ex := []) (o := .tup [.ref qa, v]) hT
        have eyT := ey.trans (eT.any (ex := [A2, sd]))
        have hqT := eT.tup qa _ hq
        have sdT : SdOk k (upd Hy T (.tup [.ref qa, v])) sd := let ⟨kv, z1, z2⟩ := sdy; ⟨kv, eT.dT (by simp) z1, z2⟩
        have hAT := eT.dT (by simp) hAy
        have qv2T : QV (IsPlan K (upd Hy T (.tup [.ref qa, v]))) kvs2 kp2 := qv2.mono fun _ _ z => eT.plan z
        refine ⟨T, _, rfl, sqT_new, rfl, _, _, rfl, _, _, rfl, rfl, ?_⟩
        generalize upd Hy T (.tup [.ref qa, v]) = H7 at eyT hqT sdT hAT qv2T ⊢
        obtain ⟨ts, hL7, pts⟩ := eyT.grs (by simp; exact ⟨nLA, nLs⟩) gL6
        have glen : (groupsL k now pl h).length ≤ 128 := by
          have z := grpO_len k now h (memN pl h pl.length) _ (openN pl pl.length) rfl
          have l := openN_len pl pl.length
          have : 2 ^ (openN pl pl.length).length ≤ 2 ^ 7 := Nat.pow_le_pow_right (by decide) (by omega)
          unfold groupsL
          omega
        refine ⟨_, rfl, _, rfl, L, qa, ts, groupsL k now pl h, rest, rfl, hL7, pts, .inl (.inl hqT), glen, lrest, tb.ext (up eyT), fun H8 p us e8 hp8 hu8 pus => ⟨p, rfl, ⟨_, .inl (.inl hu8)⟩, ?_⟩⟩
        have ey8 := eyT.trans (e8.any (ex := [A2, sd]))
        have np2 : p ∉ [A2, sd] := by
          simp
          exact ⟨fun z => (by rw [z, hAT] at hp8; cases hp8), fun z => (by obtain ⟨kv, z1, _⟩ := sdT; rw [z, z1] at hp8; cases hp8)⟩
        refine for_list (xs := us) (fun m σ Hz => ∃ (y10 y11 y12 : Option V) (kvs2 : List (List L2.Key × V)) (kp2 : List (List Nat × List (Option Int))), σ = [some (.ref a), some u, some (.int now), some (.ref f), some (.ref D), some (.int h), some (.ref L), some (.ref A2), some (.ref qa), some v, y10, y11, y12] ∧ Ext [A2, sd] H8 Hz ∧ SdOk k Hz sd ∧ Hz A2 = some (.dT kvs2) ∧ QV (IsPlan K Hz) kvs2 kp2 ∧ Kept R (candsL k now pl h (kp.take j) ++ ((takenL (groupsL k now pl h) rest).take m).map fun p => joinP plan p.1 h) kp2)
          ⟨_, _, _, kvs2, kp2, rfl, Ext.refl, let ⟨kv, z1, z2⟩ := sdT; ⟨kv, e8.dT (by simp) z1, z2⟩, e8.dT (by simp) hAT, qv2T.mono fun _ _ z => e8.plan z, by rw [List.take_zero, List.map_nil, List.append_nil]; exact kept2⟩ (fun m σ Hz _ z => ?_) (fun m x σ Hz hm z => ?_) (fun σ Hz z => ?_)
        · obtain ⟨_, _, _, _, _, _, z, _⟩ := z
          exact .inl (.inl (z.lst p _ np2 hu8))
        · obtain ⟨y10, y11, y12, kvs3, kp3, rfl, ez, sdz, hAz, qv3, kept3⟩ := z
          obtain ⟨⟨g, left⟩, hgl, itk⟩ := pget pus hm
          obtain ⟨t, ga, lb, rfl, ht1, ht2, ht3⟩ := ez.tk2 itk
          have ht2 : SqT K Hz ga (natsV g) := ht2
          have ht3 : Hz lb = some (.tup (natsV left)) := ht3
          obtain ⟨gm1, gm2, gm3⟩ := takenL_mem.mp (List.mem_of_getElem? hgl)
          have gm1 : g ∈ groupsL k now pl h := gm1
          have gm2 : ∀ b ∈ g, b ∈ rest := gm2
          have gm3 : left = rest.filter fun b => decide (b ∉ g) := gm3
          have gop : ∀ b ∈ g, b ∈ opens plan := by rw [kop]; exact gm2
          have glt : ∀ b ∈ g, b < plan.length := fun b hb => (opens_mem.mp (gop b hb)).1
          have onf := step_on ok onp hni hb.2.1 hb.2.2 gm1 gop
          have eopn : opens (joinP plan g h) = left := by rw [opens_join glt, kop, gm3]
          have mapk : ((takenL (groupsL k now pl h) rest).take (m + 1)).map (fun p => joinP plan p.1 h) = ((takenL (groupsL k now pl h) rest).take m).map (fun p => joinP plan p.1 h) ++ [joinP plan g h] := map_take_succ hgl
          refine ⟨t, _, rfl, ht1, rfl, _, _, rfl, _, _, rfl, rfl, ?_⟩
          have eyz := ey8.trans ez
          refine ⟨_, rfl, _, rfl, _, rfl, v, ga, plan, g, h, rfl, eyz.plan ipv6, ht2, glt, by omega, fun H9 v9 e9 ip9 => ?_⟩
          have ez9 := ez.trans (e9.any (ex := [A2, sd]))
          have eyz9 := eyz.trans (e9.any (ex := [A2, sd]))
          have hA9 := e9.dT (by simp) hAz
          have hlb9 : H9 lb = some (.tup ((keyN left).map kV)) := by rw [keyN_kV]; exact e9.tup lb _ ht3
          have sd9 : SdOk k H9 sd := let ⟨kv, z1, z2⟩ := sdz; ⟨kv, e9.dT (by simp) z1, z2⟩
          have qv9 : QV (IsPlan K H9) kvs3 kp3 := qv3.mono fun _ _ z => e9.plan z
          have son3 : ∀ c ∈ candsL k now pl h (kp.take j) ++ ((takenL (groupsL k now pl h) rest).take m).map (fun p => joinP plan p.1 h), OnFrom k pl ((hoursF now).take i ++ [h]) c := fun c hc => by
            have hc2 : c ∈ candsL k now pl h kp := by
              unfold candsL
              rcases List.mem_append.mp hc with hc | hc
              · unfold candsL at hc
                obtain ⟨q, hq, hc⟩ := List.mem_flatMap.mp hc
                exact List.mem_flatMap.mpr ⟨q, List.mem_of_mem_take hq, hc⟩
              · obtain ⟨p, hp, rfl⟩ := List.mem_map.mp hc
                exact List.mem_flatMap.mpr ⟨(rest, plan), hmk, List.mem_map.mpr ⟨p, List.mem_of_mem_take hp, rfl⟩⟩
            unfold candsL at hc2
            obtain ⟨q, hq, hc2⟩ := List.mem_flatMap.mp hc2
            obtain ⟨p, hp, rfl⟩ := List.mem_map.mp hc2
            obtain ⟨k1, k2⟩ := kept.ok q hq
            obtain ⟨t1, t2, _⟩ := takenL_mem.mp hp
            exact step_on ok (son _ k1) hni hb.2.1 hb.2.2 t1 (by rw [k2]; exact t2)
          have k3len := (kept3.keys (n := k.bs.length) fun c hc => (son3 c hc).ok.len).len n7
          have lkv3 := plen qv9
          have put : Kept R (candsL k now pl h (kp.take j) ++ ((takenL (groupsL k now pl h) rest).take m).map (fun p => joinP plan p.1 h) ++ [joinP plan g h]) (putQ kp3 left (joinP plan g h)) → ∀ (Hw : Hp) (σw : L2.St), Ext [] H9 Hw → (∃ y10 y11 y12, σw = [some (.ref a), some u, some (.int now), some (.ref f), some (.ref D), some (.int h), some (.ref L), some (.ref A2), some (.ref qa), some v, y10, y11, y12]) → ∃ (y10 y11 y12 : Option V) (kvs2 : List (List L2.Key × V)) (kp2 : List (List Nat × List (Option Int))), σw = [some (.ref a), some u, some (.int now), some (.ref f), some (.ref D), some (.int h), some (.ref L), some (.ref A2), some (.ref qa), some v, y10, y11, y12] ∧ Ext [A2, sd] H8 (upd Hw A2 (.dT (putK kvs3 (keyN left) v9))) ∧ SdOk k (upd Hw A2 (.dT (putK kvs3 (keyN left) v9))) sd ∧ (upd Hw A2 (.dT (putK kvs3 (keyN left) v9))) A2 = some (.dT kvs2) ∧ QV (IsPlan K (upd Hw A2 (.dT (putK kvs3 (keyN left) v9)))) kvs2 kp2 ∧ Kept R (candsL k now pl h (kp.take j) ++ ((takenL (groupsL k now pl h) rest).take (m + 1)).map fun p => joinP plan p.1 h) kp2 := fun kp' Hw σw ew ⟨z10, z11, z12, hσ⟩ => by
            have wr : Ext [A2] Hw (upd Hw A2 (.dT (putK kvs3 (keyN left) v9))) := Ext.wrD (by simp) (ew.dT (by simp) hA9)
            refine ⟨z10, z11, z12, _, putQ kp3 left (joinP plan g h), hσ, ez9.trans ((ew.any).trans (wr.mono (by simp))), ?_, upd_same, ?_, ?_⟩
            · obtain ⟨kv, z1, z2⟩ := sd9
              exact ⟨kv, by rw [upd_ne nAs.symm]; exact ew.dT (by simp) z1, z2⟩
            · exact (qv9.put left (F := IsPlan K H9) ip9).mono fun _ _ z => wr.plan (ew.plan z)
            · rw [mapk, ← List.append_assoc]
              exact kp'
          have icz : ∀ {Hw : Hp}, Ext [] H9 Hw → Ext [sd] H Hw ∧ IsCho K A.c_Choices Hw a sd k now := fun {Hw} ew => by
            have g9 := up (eyz9.trans (ew.any (ex := [A2, sd])))
            exact ⟨g9, ic.step g9 (fun b hb => .inl (by simpa using hb)) (let ⟨kv, z1, z2⟩ := sd9; ⟨kv, ew.dT (by simp) z1, z2⟩)⟩
          refine ⟨_, rfl, _, rfl, A2, _, rfl, DGet.t hA9 hlb9, _, rfl, ?_⟩
          have fr := qv9.find left
          cases hv : valV kvs3 (keyN left) with
          | none =>
            rw [hv] at fr
            have fn : findQ kp3 left = none := by
              cases hf : findQ kp3 left with
              | none => rfl
              | some x => rw [hf] at fr; exact fr.elim
            refine iteT (iteT ?_)
            refine ⟨_, rfl, _, rfl, _, rfl, A2, _, rfl, DPut.t hA9 hlb9 (small1000 (by omega)), ?_⟩
            refine put ?_ H9 _ Ext.refl ⟨_, _, _, rfl⟩
            have := kept3.put (c := joinP plan g h) (fun p hp => by rw [eopn, fn] at hp; cases hp)
            rw [eopn] at this
            exact this
          | some x =>
            rw [hv] at fr
            obtain ⟨px, fx⟩ : ∃ px, findQ kp3 left = some px := by
              cases hf : findQ kp3 left with
              | none => rw [hf] at fr; exact fr.elim
              | some x => exact ⟨x, rfl⟩
            rw [fx] at fr
            have ipx : IsPlan K H9 x px := fr
            obtain ⟨pxm, pxo⟩ := kept3.ok _ (findQ_mem fx)
            have pxm : px ∈ _ := pxm
            have pxo : opens px = left := pxo
            have onx := son3 px pxm
            refine iteF ?_
            have ilx : ∀ {Hw : Hp}, Ext [] H9 Hw → LM.IsLam Hw f := fun ew => il.keep (icz ew).1 (by simpa using nfs)
            refine ⟨f, rfl, ilx Ext.refl, _, rfl, ilx Ext.refl, rk H9 v9 (joinP plan g h) _ (icz Ext.refl).1 (icz Ext.refl).2 ip9 onf.ok (fun H10 t10 e10 tt10 => ?_)⟩
            refine ⟨f, rfl, ilx e10, _, rfl, _, rfl, A2, x, rfl, hv ▸ DGet.t (e10.dT (by simp) hA9) (e10.tup lb _ hlb9), ilx e10, rk H10 x px _ (icz e10).1 (icz e10).2 (e10.plan ipx) onx.ok (fun H11 t11 e11 tt11 => ?_)⟩
            obtain ⟨sm1, sm2⟩ := RO.same (joinP plan g h) px onf.ok onx.ok (eopn.trans pxo.symm)
            refine ⟨t10, t11, R (joinP plan g h), R px, rfl, rfl, e11.sqT tt10, tt11, sm1, sm2, ?_⟩
            have e911 := e10.trans e11
            cases hl : lexO (R (joinP plan g h)) (R px) with
            | true =>
              refine ⟨_, rfl, iteT ?_⟩
              refine ⟨_, rfl, _, rfl, _, rfl, A2, _, rfl, DPut.t (e911.dT (by simp) hA9) (e911.tup lb _ hlb9) (small1000 (by omega)), ?_⟩
              refine put ?_ H11 _ e911 ⟨_, _, _, rfl⟩
              have := kept3.put (c := joinP plan g h) (fun p hp => by
                rw [eopn, fx] at hp
                rw [← Option.some.inj hp]
                exact hl)
              rw [eopn] at this
              exact this
            | false =>
              refine ⟨_, rfl, iteF ?_⟩
              refine ⟨_, _, _, kvs3, kp3, rfl, ez9.trans e911.any, ?_, e911.dT (by simp) hA9, qv9.mono fun _ _ z => e911.plan z, ?_⟩
              · obtain ⟨kv, z1, z2⟩ := sd9
                exact ⟨kv, e911.dT (by simp) z1, z2⟩
              · rw [mapk, ← List.append_assoc]
                exact kept3.skip (c := joinP plan g h) (by rw [eopn]; exact fx) hl
        · obtain ⟨y10, y11, y12, kvs3, kp3, rfl, ez, sdz, hAz, qv3, kept3⟩ := z
          refine ⟨_, _, _, _, _, kvs3, kp3, rfl, ey8.trans ez, sdz, hAz, qv3, ?_⟩
          rw [cands_take hkp]
          rw [plen pus, List.take_length] at kept3
          exact kept3
      · obtain ⟨y8, y9, y10, y11, y12, kvs2, kp2, rfl, ey, sdy, hAy, qv2, kept2⟩ := z
        rw [lkv, List.take_length] at kept2
        have hDy := ey.frz D od _ hD6
        refine ⟨hDy, ?_⟩
        refine ⟨_, rfl, A2, kvs2, kp2, _, _, _, _, _, _, _, _, rfl, ?_, ?_, hA2n, ?_, ?_, ?_⟩
        · have := back ey
          exact ((ex5.mono (ex' := [A2, sd]) (by simp)).trans this).forget hA23
        · obtain ⟨kv, z1, z2⟩ := sdy
          exact ⟨kv, by rw [upd_ne nDs.symm]; exact z1, z2⟩
        · rw [upd_ne nAD]; exact hAy
        · exact qv2.mono fun v p ⟨pa, e, z⟩ => ⟨pa, e, SqT.unlock hDy z⟩
        · rw [stk]
          exact Kept.step RO son hni hb.2.1 hb.2.2 kept kept2
    · obtain ⟨D, kvs, kp, y5, y6, y7, y8, y9, y10, y11, y12, rfl, ex, sdx, hDn, hDx, qv, kept⟩ := z
      rw [List.length_map, List.take_length] at kept
      have g0 : Ext [sd] H Hx := f3.any.trans ex
      refine ⟨_, rfl, D, rfl, .inr ⟨_, .inl hDx⟩, by show 0 ≤ sizeLine; exact Nat.zero_le _, fun t ht => ?_⟩
      have eT := Ext.new (ex := []) (o := .tup []) ht
      refine ⟨valV kvs (keyN []), DGet.t (eT.dT (by simp) hDx) (k := keyN []) upd_same, ?_⟩
      have sdT : SdOk k (upd Hx t (.tup [])) sd := let ⟨kv, z1, z2⟩ := sdx; ⟨kv, eT.dT (by simp) z1, z2⟩
      have fr := qv.find []
      refine q _ _ (g0.trans eT.any) sdT ?_
      cases hv : valV kvs (keyN []) with
      | none =>
        rw [hv] at fr
        refine .inl ⟨rfl, fun c hc e => ?_⟩
        obtain ⟨q0, hq0, e0, _⟩ := kept.min c hc
        rw [e] at e0
        have := findQ_of kept.nd hq0
        rw [e0] at this
        rw [this] at fr
        exact fr
      | some x =>
        rw [hv] at fr
        cases hf : findQ kp [] with
        | none => rw [hf] at fr; exact fr.elim
        | some p =>
          rw [hf] at fr
          obtain ⟨k1, k2⟩ := kept.ok _ (findQ_mem hf)
          refine .inr ⟨p, eT.plan fr, k1, k2, fun c hc e => ?_⟩
          obtain ⟨q0, hq0, e0, hl⟩ := kept.min c hc
          have := findQ_of kept.nd hq0
          rw [e0, e, hf] at this
          rw [Option.some.inj this]
          exact hl

def spBest (A : Ad) (K : PySem.W.Frag) : Sp := fun vs H Q E => ∃ (v u : V) (k : Book) (now : Int) (pl : List (Option Int)), vs = [v, u, .int now] ∧ IsBook K H v k ∧ k.Ok ∧ IsPlan K H u pl ∧ PlOk k.bs.length pl ∧ allR k pl = [] ∧ (0 ≤ now ∧ now ≤ 1000) ∧ Tabs A H ∧ LTabs A H ∧
  (∀ H' t v1 v2 p d, Ext [A.k_best.2, A.k_table_for.2] H H' → LTabs A H' → SqT K H' t [v1, v2] → IsPlan K H' v1 p → p ∈ stageL k now pl (hoursF now) → opens p = [] → (∀ c ∈ stageL k now pl (hoursF now), opens c = [] → HT.lexLt (worthI k c) (worthI k p) = false) → Td K H' v2 d → GrD 8 d → LayN 24 d → showsR k now ((hoursL p).length : Int) (waitsN k p p.length).sum 8 pl d = true → Q (.ref t) H') ∧
  (∀ H' dd vt d, Ext [A.k_best.2, A.k_table_for.2] H H' → LTabs A H' → H dd = none → H' dd = some (.xd [("table", vt)]) → Td K H' vt d → GrD 8 d → LayN 24 d → (∀ c ∈ stageL k now pl (hoursF now), opens c ≠ []) → showsR k now 13 0 8 pl d = true → E (.ref A.c_NoPlan) (some dd) H')
theorem ok_best (T : Facts A K mg base) : FnOk P w K mg base (L2.CX P w) 14 A.a_best A.d_best ["book", "start", "now"] (spBest A K) := by
  refine GX.okT T.F_best T.h_best sc_best (fun vs H Q E h => ?_) (fun A1 outer s H vs Q E hr h => ?_)
  · obtain ⟨v, u, k, now, pl, rfl, _⟩ := h
    rfl
  · obtain ⟨v, u, k, now, pl, rfl, ib, ok, ip, okp, good, hn, tb, lt, q, qe⟩ := h
    refine ⟨_, id (pss_cons (ps_expr (pe_call (ok_check_good T) (hr.mono (by decide)) (by rfl) T.g_check_good T.F_check_good.kp T.b_check_good .nil pass0 (pa_cons (pv 0) (pa_cons (pv 1) pa_nil))))
      (pss_cons (ps_set (i := 3) sc_best.nd rfl (by first | exact Or.inr rfl | exact Or.inl rfl) (pe_make T.mk_Choices (ok_Choices___init__ T) (hr.mono (by decide)) (by rfl) T.g_Choices T.b_Choices___init__ .nil pass0 (pa_cons (pv 0) (pa_cons (pv 2) pa_nil))))
      (pss_cons (ps_set (i := 4) sc_best.nd rfl (Or.inl rfl) (LM.pe_lend (js := [(3, "choices")]) (LM.lend_by (N := ["book", "start", "now", "choices", "plan"]) (sc := defScope s_best) (by decide +kernel) rfl rfl (fun _ => rfl)) (ok_least T) (hr.mono (by decide)) (by rfl) T.g_least T.F_least.kp T.b_least (pa_cons (pv 3) (pa_cons (pv 1) (pa_cons (pv 2) (pa_cons (LM.pe_lam (CX := L2.CX P w) (k := 2) (N := ["found", "choices"]) (ps := ["found"]) (fr := ["choices"]) T.t_best rfl rfl (NdefX.nscope_by (by decide +kernel)) (sc := defScope s_best) rfl (by decide +kernel) (fun _ _ _ _ _ us hl => match us, hl with | [_], _ => rfl) (fun _ _ _ _ _ _ _ hr => (pe_meth (pv 1) T.cls_Choices T.m_Choices_worth_of (ok_Choices_worth_of T) (hr.mono (by decide)) T.b_Choices_worth_of .nil pass0 (pa_cons (pv 0) pa_nil)))) pa_nil))))))
      (pss_cons (ps_if (pt_cmpR op_isN (pv 4) pe_non (nomark _)) (pss_one (ps_raise rfl (takes_of rfl rfl rfl rfl) (pmk_oex T.np_NoPlan.ox T.np_NoPlan.ini T.np_NoPlan.tyI (ok_NoPlan___init__ T) (hr.mono (by decide)) T.b_NoPlan___init__ .nil pass0 (by rfl) T.g_NoPlan (pa_cons (pe_call (ok_table_for T 8) (hr.mono (by decide)) (by rfl) T.g_table_for T.F_table_for.kp T.b_table_for .nil pass0 (pa_cons (pv 3) (pa_cons (pv 1) (pa_cons (pe_glob (v := .ref A.w_WORST) (by rfl) T.g_WORST rfl) pa_nil)))) pa_nil)))) pss_nil)
      (pss_one (ps_ret (pe_tup (pa_cons (pv 4) (pa_cons (pe_call (ok_table_for T 8) (hr.mono (by decide)) (by rfl) T.g_table_for T.F_table_for.kp T.b_table_for .nil pass0 (pa_cons (pv 3) (pa_cons (pv 1) (pa_cons (pe_meth (pv 3) T.cls_Choices T.m_Choices_worth_of (ok_Choices_worth_of T) (hr.mono (by decide)) T.b_Choices_worth_of .nil pass0 (pa_cons (pv 4) pa_nil)) pa_nil)))) pa_nil))))))))), ?_⟩
    have lp := okp.len
    have n7 := ok.n7
    refine ⟨_, rfl, _, rfl, _, _, k, pl, rfl, ib, ok, ip, okp, good, tb, fun Ha ea => ?_⟩
    refine ⟨_, rfl, _, rfl, fun a dx hx hdx ne => ?_⟩
    have eb := Ext.new (ex := []) (o := .own a) hdx
    have hx2 : (upd Ha dx (.own a)) a = none := by rw [upd_ne ne.symm]; exact hx
    have ec := Ext.new (ex := []) (o := .ins A.c_Choices dx []) hx2
    have eabc := ea.trans (eb.trans ec)
    refine ⟨a, dx, v, k, now, rfl, upd_same, eabc.book ib, ok, by omega, tb.ext eabc, fun Hc sd e4 ic hsd => ⟨rfl, ?_⟩⟩
    have hxn : H a = none := ea.dom a hx
    have eH : Ext [] H Hc := eabc.bornAll (ex := [a]) (by simpa using hxn) e4
    have hsn : H sd = none := eabc.dom sd hsd
    have lt4 := lt.ext eH
    obtain ⟨psb, hPb, _⟩ := id lt4.best
    clear e4 eabc ec hx2 eb hx hdx ea hsd
    -- the least
    refine ⟨_, rfl, _, rfl, _, rfl, lt4.best, fun f c H5 e5 T5 hfn nf nc L => fun cs Ln one => ?_⟩
    have lt5 := lt4.grow_best e5 (fun b hb => .inl (by simpa using hb)) T5
    have ic5 := Ext.choT e5 (fun b hb => by have e := List.mem_singleton.mp hb; subst e; exact ⟨_, hPb⟩) ic
    have eH5 : Ext [A.k_best.2] H H5 := eH.any.trans e5
    obtain ⟨kvs5, hs5, okv5⟩ := ic5.sd
    obtain ⟨nfs, ncs⟩ := lam_ne L hs5 (fun _ z => by cases z)
    have eS := LM.ext_lend Ln
    have ownS := Ln.own one
    have out5 : ∀ {b : Addr} {o : HO}, H5 b = some o → b ∉ cs.map (·.1) := fun {b o} z hb => by
      obtain ⟨p, hp, y⟩ := List.mem_map.mp hb
      rw [← y, Ln.free p hp] at z
      cases z
    have hsS := eS.dT (by simp) hs5
    have keepC : ∀ {H1 : Hp}, Ext [sd] (LM.showC H5 cs) H1 → ∀ p ∈ cs, H1 p.1 = some (LM.CellO p.1 p.2) := fun {H1} e1 p hp => e1.oth p.1 _ (by
      simp
      intro z
      have y := ownS p hp
      rw [z, hsS] at y
      cases y) (fun ps z => by cases z) (ownS p hp)
    have sdne : ∀ φ, H5 sd ≠ some (.ext φ) := fun φ z => by rw [hs5] at z; cases z
    have at7 : ∀ {H1 : Hp}, Ext [sd] (LM.showC H5 cs) H1 → SdOk k H1 sd → Ext [sd] H5 (LM.hideC H1 cs) ∧ SdOk k (LM.hideC H1 cs) sd ∧ IsCho K A.c_Choices (LM.hideC H1 cs) a sd k now := fun {H1} e1 sd1 => by
      have b := LM.back_ext Ln.free e1
      have s7 : SdOk k (LM.hideC H1 cs) sd := let ⟨kv, z1, z2⟩ := sd1; ⟨kv, LM.hide_dT (keepC e1) z1 (fun _ z => by cases z), z2⟩
      exact ⟨b, s7, ic5.step b (fun b hb => .inl (by simpa using hb)) s7⟩
    refine ⟨a, sd, f, u, k, now, pl, worthO k, rfl, eS.cho ic5, ok, (eH5.trans eS.any).plan ip, okp, good, by omega, ⟨L.is.show Ln, fun H1 v1 ql Q' e1 ic1 ip1 okq hq => ?_⟩, rank_worth k pl, tb.ext (eH5.trans eS.any), fun H6 v6 e6 sd6 res => ⟨keepC e6, ?_⟩⟩
    · have own1 := keepC e1
      obtain ⟨b7, s7, ic7⟩ := at7 e1 ic1.sd
      obtain ⟨dx1, bv, wl, al, ws0, as0, kvs1, j1, _⟩ := id ic7
      have L7 := L.keep b7 (by simpa using nfs) (by simpa using ncs)
      have Ln7 : LM.Lends _ [(3, "choices")] _ (LM.hideC H1 cs) cs := ⟨fun p hp => LM.hide_in (List.mem_map.mpr ⟨p, hp, rfl⟩), Ln.all, Ln.has, Ln.inj⟩
      have go := L7.lent2 (ws := [some (.ref a)]) (vs := [v1]) (Q := Q') (E := fun _ _ _ => False) Ln7 one rfl (fun y => by constructor <;> intro h <;> simp_all) (fun i y h => ?_) rfl ?_
      · rw [LM.show_hide own1] at go
        exact go
      · match i with
        | 0 =>
          have e : "choices" = y := Option.some.inj h
          subst e
          exact ⟨3, by simp, fun v h => by rw [← Option.some.inj (Option.some.inj h)]; rfl⟩
        | i + 1 => cases h
      · obtain ⟨t1, rfl, ht1⟩ := ip1
        refine ⟨_, rfl, a, dx1, _, rfl, j1, rfl, _, rfl, a, sd, .ref t1, k, now, ql, rfl, ic7, ok, ⟨t1, rfl, LM.hide_sqT own1 ht1⟩, okq, fun H2 t2 e2 tt fr => hq _ t2 ?_ (LM.show_sqT fr tt)⟩
        have := LM.show_ext (cs := cs) e2
        rw [LM.show_hide own1] at this
        exact this
    have own6 := keepC e6
    obtain ⟨b7, s7, ic7⟩ := at7 e6 sd6
    have toP : ∀ {v : V} {p : List (Option Int)}, IsPlan K H6 v p → IsPlan K (LM.hideC H6 cs) v p := fun ⟨t1, e, ht⟩ => ⟨t1, e, LM.hide_sqT own6 ht⟩
    generalize LM.hideC H6 cs = H7 at b7 s7 ic7 toP ⊢
    have lt7 := lt5.skip b7 (fun b hb φ => by rw [List.mem_singleton.mp hb]; exact sdne φ)
    have g7 : Ext [sd, A.k_best.2] H H7 := (eH5.mono (by simp)).trans (b7.mono (by simp))
    obtain ⟨dx7, bv7, wl7, al7, ws7, as7, kvs7, h71, _, _, _, _, _, h77, h78⟩ := id ic7
    have hol := openN_len pl pl.length
    have sd7ne : ∀ φ, H7 sd ≠ some (.ext φ) := fun φ z => by rw [h77] at z; cases z
    have full_on : ∀ fl, PlOk k.bs.length fl → allR k fl = [] → none ∉ fl → PartP pl fl → (∀ i h, pl.getD i none = none → fl.getD i none = some h → now ≤ h) → fl ∈ stageL k now pl (hoursF now) ∧ opens fl = [] := fun fl okf gf full p lat => stage_full ok okp good okf gf full p lat
    have done : ∀ {H9 : Hp}, Ext [A.k_table_for.2, sd] H7 H9 → Ext [A.k_best.2, A.k_table_for.2] H H9 := fun {H9} e9 => by
      have : Ext [sd, A.k_best.2, A.k_table_for.2] H H9 := (g7.mono (by simp)).trans (e9.mono (by simp))
      exact this.forget hsn
    rcases res with ⟨rfl, hno⟩ | ⟨p, ip6, hin, hop, hmin⟩
    · refine ⟨_, rfl, rfl, _, rfl, iteD rfl ?_⟩
      refine ⟨_, rfl, _, rfl, a, sd, A.w_WORST, u, k, now, 13, 0, pl, rfl, ic7, ok, g7.plan ip, okp, good, T.t_WORST H7, tb.ext g7, lt7, by omega, fun H8 v8 d8 e8 sd8 lt8 td8 gr8 lay8 sh8 => ⟨by simp, fun x hx => ⟨x, v8, rfl, upd_same, fun d hd ned => ⟨rfl, d, _, upd_same, by rw [upd_ne ned, upd_same], ?_, ?_⟩⟩⟩⟩
      · rw [upd_ne ned] at hd
        exact hd
      · rw [upd_ne ned] at hd
        have eX := ext_exc (o1 := exo x A.c_NoPlan none) (o2 := exd d [("table", v8)]) (o3 := exo x A.c_NoPlan (some d)) (o4 := .xd [("table", v8)]) hx hd ned
        have e9 := done (e8.trans eX.any)
        exact qe _ d v8 d8 e9 (lt8.ext eX) (e9.dom d |> fun _ => (done e8).dom d hd) upd_same (eX.td td8) gr8 lay8 hno (sh8 fun fl okf gf full p lat => absurd (full_on fl okf gf full p lat).2 (hno fl (full_on fl okf gf full p lat).1))
    · have ip7 := toP ip6
      obtain ⟨t6, rfl, ht6⟩ := id ip7
      have onp := (stage_mem ok okp good _ _ rfl (hoursF_ok now) p).mp hin
      refine ⟨_, rfl, rfl, _, rfl, iteDn (by simp) ?_⟩
      refine ⟨_, rfl, _, rfl, _, rfl, _, rfl, a, dx7, _, rfl, h71, rfl, _, rfl, a, sd, .ref t6, k, now, p, rfl, ic7, ok, ip7, onp.ok, fun H8 wt e8 tw => ?_⟩
      have g8 := g7.trans (e8.any (ex := [sd, A.k_best.2]))
      refine ⟨a, sd, wt, u, k, now, _, _, pl, rfl, e8.cho ic7, ok, g8.plan ip, okp, good, tw, tb.ext g8, lt7.ext e8, by omega, fun H9 v9 d9 e9 sd9 lt9 td9 gr9 lay9 sh9 => ⟨by show 2 ≤ sizeLine; decide, fun t ht => ?_⟩⟩
      have eT := Ext.new (ex := []) (o := .tup [.ref t6, v9]) ht
      have e79 : Ext [A.k_table_for.2, sd] H7 (upd H9 t (.tup [.ref t6, v9])) := e8.any.trans (e9.trans eT.any)
      exact q _ t (.ref t6) v9 p d9 (done e79) (lt9.ext eT) sqT_new (e79.plan ip7) hin hop (fun c hc e => hmin c hc e) (eT.td td9) gr9 lay9 (sh9 fun fl okf gf full pp lat => hmin fl (full_on fl okf gf full pp lat).1 (full_on fl okf gf full pp lat).2)

def spCellAt (K : PySem.W.Frag) : Sp := fun vs H Q _ => ∃ (a : Addr) (ns : List Int) (k : Nat), vs = [.ref a, .int (k : Int)] ∧ SqL K H a (ns.map V.int) ∧ ∀ v : Int, Q (.int v) H
theorem ok__law_cell_at (T : Facts A K mg base) : FnOk P w K mg base CX0 1 A.a__law_cell_at A.d__law_cell_at ["_law_script", "_law_k"] (spCellAt K) := by
  refine T.F__law_cell_at.ok sc__law_cell_at (fun vs H Q E h => ?_) (fun cdv A1 outer s H vs Q E hr h => ?_)
  · obtain ⟨a, ns, k, rfl, _⟩ := h
    rfl
  · obtain ⟨a, ns, k, rfl, t, q⟩ := h
    refine ⟨_, PSs.nox (pss_cons (ps_if (pt_cmpR op_lt (pv 1) (pe_callB call_len_seq (by rfl) T.n_len PySem.boot_len (pa_cons (pv 0) pa_nil)) (nomark _)) (pss_one (ps_ret (pe_ix ix_seq (pv 0) (pv 1) (fun _ _ => rfl)))) pss_nil)
      (pss_one (ps_ret pe_int))), ?_⟩
    refine ⟨_, rfl, _, rfl, a, _, rfl, .inl t, _, _, rfl, rfl, _, rfl, ite2 (fun c => ?_) (fun c => q 0)⟩
    have hk : k < ns.length := by
      have c' := of_decide_eq_true c
      rw [List.length_map] at c'
      exact Int.ofNat_lt.mp c'
    exact ⟨_, rfl, _, rfl, .inl ⟨a, _, _, _, rfl, rfl, t, atI_cell hk, q _⟩⟩

def spDice : Sp := fun vs H Q _ => ∃ c : Int, vs = [.int c] ∧ ∀ (D : Addr) (H' : Hp), H D = none → Ext [] H H' → DiceAt H' D → Q (.ref D) H'
theorem ok__law_dice (T : Facts A K mg base) : FnOk P w K mg base CX0 1 A.a__law_dice A.d__law_dice ["_law_cell"] (spDice) := by
  refine T.F__law_dice.ok sc__law_dice (fun vs H Q E h => ?_) (fun cdv A1 outer s H vs Q E hr h => ?_)
  · obtain ⟨c, rfl, _⟩ := h
    rfl
  · obtain ⟨c, rfl, q⟩ := h
    refine ⟨_, PSs.nox (pss_one (ps_ret (pe_lst (pa_cons (pe_op op_modN (pv 0) pe_int) (pa_cons (pe_op op_mul (pe_op op_fdivW (pv 0) pe_int) (pe_callTy call_int1 (by rfl) T.n_int (by decide +kernel) (pa_cons (pe_cmpR op_ge (pv 0) (pe_op op_pow pe_int pe_int) (nomark _)) pa_nil))) pa_nil))))), ?_⟩
    refine ⟨_, rfl, _, _, rfl, rfl, by show (2147483647 : Int) ≠ 0; decide, ?_⟩
    refine ⟨_, rfl, c, 2147483647, rfl, rfl, wide_div (b := 40) (by decide) (by decide) (by decide) (by decide), _, rfl, 10, 18, rfl, rfl, ⟨by decide, by decide, by decide⟩, _, _, rfl, rfl, .inr ⟨_, rfl, ?_⟩⟩
    have hz : (10 : Int) ^ (Int.toNat 18) = 1000000000000000000 := by decide
    by_cases hc : (10 : Int) ^ (Int.toNat 18) ≤ c
    · refine ⟨_, _, rfl, by rw [decide_eq_true hc], .inr ⟨by decide, by decide⟩, (by show 2 ≤ sizeLine; decide), fun D hD => q D _ hD (Ext.new hD) ⟨_, _, upd_same, Int.fmod_nonneg_of_pos _ (by decide), Int.fmod_lt_of_pos _ (by decide), ?_⟩⟩
      show 0 ≤ c / 2147483647 * 1
      rw [Int.mul_one]
      exact Int.ediv_nonneg (by omega) (by decide)
    · refine ⟨_, _, rfl, by rw [decide_eq_false hc], .inr ⟨by decide, by decide⟩, (by show 2 ≤ sizeLine; decide), fun D hD => q D _ hD (Ext.new hD) ⟨_, _, upd_same, Int.fmod_nonneg_of_pos _ (by decide), Int.fmod_lt_of_pos _ (by decide), ?_⟩⟩
      show 0 ≤ c / 2147483647 * 0
      rw [Int.mul_zero]
      exact Int.le_refl _

def spRoll : Sp := fun vs H Q _ => ∃ (D : Addr) (m : Int), vs = [.ref D, .int m] ∧ DiceAt H D ∧ 0 < m ∧ m < 1000000 ∧ ∀ (v : Int) (H' : Hp), 0 ≤ v → v < m → Ext [D] H H' → DiceAt H' D → Q (.int v) H'
theorem ok__law_roll (T : Facts A K mg base) : FnOk P w K mg base CX0 1 A.a__law_roll A.d__law_roll ["_law_dice_here", "_law_most"] (spRoll) := by
  refine T.F__law_roll.ok sc__law_roll (fun vs H Q E h => ?_) (fun cdv A1 outer s H vs Q E hr h => ?_)
  · obtain ⟨D, m, rfl, _⟩ := h
    rfl
  · obtain ⟨D, m, rfl, ⟨a, b, hD, a0, a1, b0⟩, m0, m1, q⟩ := h
    refine ⟨_, PSs.nox (pss_cons (ps_if (pt_cmpR op_gt (pe_ix ix_seq (pv 0) pe_int (fun _ _ => rfl)) pe_int (nomark _)) (pss_cons (ps_set (i := 2) sc__law_roll.nd rfl (Or.inl rfl) (pe_op op_modN (pe_ix ix_seq (pv 0) pe_int (fun _ _ => rfl)) (pv 1)))
      (pss_cons (ps_asg (pe_op op_fdivN (pe_ix ix_seq (pv 0) pe_int (fun _ _ => rfl)) (pv 1)) (pg_sub (pv 0) pe_int set_list))
      (pss_one (ps_ret (pv 2))))) pss_nil)
      (pss_cons (ps_asg (pe_op op_modN (pe_op op_add (pe_op op_mul (pe_ix ix_seq (pv 0) pe_int (fun _ _ => rfl)) pe_int) pe_int) pe_int) (pg_sub (pv 0) pe_int set_list))
      (pss_one (ps_ret (pe_op op_modN (pe_op op_fdivN (pe_ix ix_seq (pv 0) pe_int (fun _ _ => rfl)) pe_int) (pv 1)))))), ?_⟩
    have hL : ∀ {K}, SqL K H D [.int a, .int b] := .inl (.inl hD)
    refine ⟨_, rfl, .inl ⟨D, _, 1, _, rfl, rfl, hL, atI_nat (j := 1) rfl, _, _, rfl, rfl, _, rfl, ite2 (fun c => ?_) (fun c => ?_)⟩⟩
    · refine ⟨_, rfl, .inl ⟨D, _, 1, _, rfl, rfl, hL, atI_nat (j := 1) rfl, _, rfl, _, _, rfl, rfl, by omega, ?_⟩⟩
      refine ⟨_, rfl, .inl ⟨D, _, 1, _, rfl, rfl, hL, atI_nat (j := 1) rfl, _, rfl, _, _, rfl, rfl, ⟨by omega, by omega⟩, ?_⟩⟩
      refine ⟨_, rfl, D, _, 1, 1, rfl, rfl, hD, rfl, ?_⟩
      refine ⟨_, rfl, q _ _ ?_ ?_ (Ext.wr (by simp) hD) ⟨a, b.fdiv m, ?_, a0, a1, ?_⟩⟩
      · exact Int.fmod_nonneg_of_pos _ m0
      · exact Int.fmod_lt_of_pos _ m0
      · rw [upd_same]
        rfl
      · rw [Int.fdiv_eq_ediv_of_nonneg _ (by omega)]
        exact Int.ediv_nonneg b0 (by omega)
    · refine ⟨_, rfl, .inl ⟨D, _, 0, _, rfl, rfl, hL, atI_nat (j := 0) rfl, _, _, rfl, rfl, .inl ⟨by omega, by omega⟩, _, _, rfl, rfl, _, _, rfl, rfl, by show (2147483647 : Int) ≠ 0; decide, ?_⟩⟩
      refine ⟨_, rfl, D, _, 0, 0, rfl, rfl, hD, rfl, ?_⟩
      have hL2 : ∀ {K}, SqL K (upd H D (.lst [.int ((a * 48271 + 11).fmod 2147483647), .int b])) D [.int ((a * 48271 + 11).fmod 2147483647), .int b] := .inl (.inl upd_same)
      refine ⟨_, rfl, .inl ⟨D, _, 0, _, rfl, rfl, hL2, atI_nat (j := 0) rfl, _, _, rfl, rfl, ⟨by decide, by decide⟩, _, rfl, _, _, rfl, rfl, by omega, ?_⟩⟩
      refine q _ _ (Int.fmod_nonneg_of_pos _ m0) (Int.fmod_lt_of_pos _ m0) (Ext.wr (by simp) hD) ⟨_, b, upd_same, Int.fmod_nonneg_of_pos _ (by decide), Int.fmod_lt_of_pos _ (by decide), b0⟩

def spRiver (K : PySem.W.Frag) : Sp := fun vs H Q _ => ∃ (D : Addr) (n : Nat), vs = [.ref D, .int (n : Int)] ∧ DiceAt H D ∧ 1 ≤ n ∧ n ≤ 8 ∧ ∀ (v : V) (rv : List Stretch) (H' : Hp), rv.length = n → RvOk rv → Ext [D] H H' → DiceAt H' D → IsRiver K H' v rv → Q v H'
theorem ok__law_river (T : Facts A K mg base) : FnOk P w K mg base CX0 2 A.a__law_river A.d__law_river ["_law_dice_here", "_law_many"] (spRiver K) := by
  refine T.F__law_river.ok sc__law_river (fun vs H Q E h => ?_) (fun cdv A1 outer s H vs Q E hr h => ?_)
  · obtain ⟨D, n, rfl, _⟩ := h
    rfl
  · obtain ⟨D, n, rfl, dD, n1, n8, q⟩ := h
    refine ⟨_, PSs.nox (pss_cons (ps_set (i := 2) sc__law_river.nd rfl (Or.inl rfl) (pe_lst pa_nil))
      (pss_cons (ps_for PassesOwn.never rfl (pi_range1 (by rfl) T.n_range (pa_cons (pv 1) pa_nil)) (pg_name (i := 3) sc__law_river.nd rfl (Or.inl rfl)) (pss_cons (ps_set (i := 4) sc__law_river.nd rfl (Or.inl rfl) (pe_callTy call_int1 (by rfl) T.n_int (by decide +kernel) (pa_cons (pe_cmpR op_eq (pe_call (ok__law_roll T) (hr.mono (by decide)) (by rfl) T.g__law_roll T.F__law_roll.kp T.b__law_roll .nil pass0 (pa_cons (pv 0) (pa_cons pe_int pa_nil))) pe_int (nomark _)) pa_nil)))
      (pss_cons (ps_set (i := 5) sc__law_river.nd rfl (Or.inl rfl) (pe_lst pa_nil))
      (pss_cons (ps_for PassesOwn.never rfl (pi_range1 (by rfl) T.n_range (pa_cons (pe_ix ix_seq (pe_lst (pa_cons (pe_op op_add pe_int (pe_call (ok__law_roll T) (hr.mono (by decide)) (by rfl) T.g__law_roll T.F__law_roll.kp T.b__law_roll .nil pass0 (pa_cons (pv 0) (pa_cons pe_int pa_nil)))) (pa_cons pe_int pa_nil))) (pv 4) (fun _ _ => rfl)) pa_nil)) (pg_name (i := 6) sc__law_river.nd rfl (Or.inl rfl)) (pss_one (ps_expr (pe_bm PySem.F.plainAttrs_list PySem.F.slot_list_append PySem.F.type_list_append mt_append (pv 5) (pa_cons (pe_ix ix_seq (pe_lst (pa_cons (pe_op op_add pe_int (pe_call (ok__law_roll T) (hr.mono (by decide)) (by rfl) T.g__law_roll T.F__law_roll.kp T.b__law_roll .nil pass0 (pa_cons (pv 0) (pa_cons pe_int pa_nil)))) (pa_cons pe_int pa_nil))) (pe_callTy call_int1 (by rfl) T.n_int (by decide +kernel) (pa_cons (pe_cmpR op_eq (pe_call (ok__law_roll T) (hr.mono (by decide)) (by rfl) T.g__law_roll T.F__law_roll.kp T.b__law_roll .nil pass0 (pa_cons (pv 0) (pa_cons pe_int pa_nil))) pe_int (nomark _)) pa_nil)) (fun _ _ => rfl)) pa_nil)))))
      (pss_one (ps_expr (pe_bm PySem.F.plainAttrs_list PySem.F.slot_list_append PySem.F.type_list_append mt_append (pv 2) (pa_cons (pe_tup (pa_cons (pe_op op_add pe_int (pe_call (ok__law_roll T) (hr.mono (by decide)) (by rfl) T.g__law_roll T.F__law_roll.kp T.b__law_roll .nil pass0 (pa_cons (pv 0) (pa_cons (pe_ix ix_seq (pe_lst (pa_cons pe_int (pa_cons pe_int pa_nil))) (pv 4) (fun _ _ => rfl)) pa_nil)))) (pa_cons (pe_op op_add pe_int (pe_call (ok__law_roll T) (hr.mono (by decide)) (by rfl) T.g__law_roll T.F__law_roll.kp T.b__law_roll .nil pass0 (pa_cons (pv 0) (pa_cons (pe_ix ix_seq (pe_lst (pa_cons pe_int (pa_cons pe_int pa_nil))) (pv 4) (fun _ _ => rfl)) pa_nil)))) (pa_cons (pe_callTy call_tuple_of (by rfl) T.n_tuple (by decide +kernel) (pa_cons (pv 5) pa_nil)) pa_nil)))) pa_nil))))))))
      (pss_one (ps_ret (pe_callTy call_tuple_of (by rfl) T.n_tuple (by decide +kernel) (pa_cons (pv 2) pa_nil)))))), ?_⟩
    refine ⟨Nat.zero_le _, fun O hO => ?_⟩
    have nDO : D ≠ O := by
      obtain ⟨a, b, z, _⟩ := dD
      exact ne_of_none z hO
    have e0 : Ext [D] H (upd H O (.lst [])) := Ext.new hO
    refine ⟨_, rfl, (n : Int), rfl, by omega, by omega, for_range (n := n) (fun i σ H1 => ∃ y3 y4 y5 y6 vs rv, σ = [some (.ref D), some (.int (n : Int)), some (.ref O), y3, y4, y5, y6] ∧ Ext [D] H H1 ∧ DiceAt H1 D ∧ H1 O = some (.lst vs) ∧ Paired (IsStretch K H1) vs rv ∧ rv.length = i ∧ ∀ s ∈ rv, s.Ok)
      ⟨none, none, none, none, [], [], rfl, e0, (Ext.new (ex := []) hO).dice (by simp) dD, upd_same, .nil, rfl, fun _ h => absurd h (by simp)⟩ ?_ ?_⟩
    · rintro i σ H1 hi ⟨y3, y4, y5, y6, vs, rv, rfl, e1, d1, hO1, pv, hl, okr⟩
      have lv := plen pv
      -- slow
      refine ⟨_, rfl, D, 9, rfl, d1, by omega, by omega, fun v H2 v0 v1 e2 d2 => ⟨rfl, .inr ⟨_, rfl, ?_⟩⟩⟩
      have hsl := b01 (decide (V.int v = V.int 0))
      generalize (if decide (V.int v = V.int 0) = true then (1 : Int) else 0) = sl at hsl ⊢
      -- depths = []
      refine ⟨Nat.zero_le _, fun L hL => ?_⟩
      have nDL : D ≠ L := by
        obtain ⟨a, b, z, _⟩ := d2
        exact ne_of_none z hL
      have hO2 : H2 O = some (.lst vs) := e2.lst O _ (by simp [nDO.symm]) hO1
      have nOL : O ≠ L := ne_of_none hO2 hL
      have e3 : Ext [D] H1 (upd H2 L (.lst [])) := e2.trans (Ext.new hL)
      have d3 : DiceAt (upd H2 L (.lst [])) D := (Ext.new (ex := []) hL).dice (by simp) d2
      -- range([1 + roll(4), 24][slow])
      refine ⟨_, rfl, D, 4, rfl, d3, by omega, by omega, fun w4 H4 w0 w1 e4 d4 => ⟨_, _, rfl, rfl, by show 2 ≤ sizeLine; decide, fun p hp => ?_⟩⟩
      obtain ⟨z, hz, hz2⟩ := pick2 (x := 1 + w4) (y := 24) hsl
      refine ⟨_, rfl, .inl ⟨p, _, sl, .int z, rfl, rfl, .inl (.inl upd_same), hz, ?_⟩⟩
      obtain ⟨m, rfl⟩ : ∃ m : Nat, z = (m : Int) := ⟨z.toNat, by omega⟩
      have hm : 1 ≤ m ∧ m ≤ 24 := by omega
      have e5 : Ext [D] H1 (upd H4 p (.lst [.int (1 + w4), .int 24])) := e3.trans (e4.trans (Ext.new hp))
      have d5 : DiceAt (upd H4 p (.lst [.int (1 + w4), .int 24])) D := (Ext.new (ex := []) hp).dice (by simp) d4
      have hL4 : H4 L = some (.lst []) := e4.lst L _ (by simp [nDL.symm]) upd_same
      have hL5 : (upd H4 p (.lst [.int (1 + w4), .int 24])) L = some (.lst []) := (Ext.new (ex := []) hp).lst L _ (by simp) hL4
      refine ⟨(m : Int), rfl, by omega, by omega, for_range (n := m) (fun j σ H6 => ∃ y6 ds, σ = [some (.ref D), some (.int (n : Int)), some (.ref O), some (.int (0 + (i : Int))), some (.int sl), some (.ref L), y6] ∧ Ext [D] H1 H6 ∧ DiceAt H6 D ∧ H6 L = some (.lst (ds.map V.int)) ∧ ds.length = j ∧ ∀ d ∈ ds, 0 ≤ d ∧ d ≤ 99)
        ⟨y6, [], rfl, e5, d5, hL5, rfl, fun _ h => absurd h (by simp)⟩ ?_ ?_⟩
      · rintro j σ H6 hj ⟨y6, ds, rfl, e6, d6, hL6, hdl, okd⟩
        refine ⟨_, rfl, .inl ⟨rfl, _, .inl (.inl hL6)⟩, ?_⟩
        refine ⟨_, rfl, D, 8, rfl, d6, by omega, by omega, fun w8 H7 w80 w81 e7 d7 => ⟨_, _, rfl, rfl, by show 2 ≤ sizeLine; decide, fun p2 hp2 => ?_⟩⟩
        have d8 : DiceAt (upd H7 p2 (.lst [.int (5 + w8), .int 0])) D := (Ext.new (ex := []) hp2).dice (by simp) d7
        have hL7 : H7 L = some (.lst (ds.map V.int)) := e7.lst L _ (by simp [nDL.symm]) hL6
        have hL8 : (upd H7 p2 (.lst [.int (5 + w8), .int 0])) L = some (.lst (ds.map V.int)) := (Ext.new (ex := []) hp2).lst L _ (by simp) hL7
        refine ⟨_, rfl, D, 20, rfl, d8, by omega, by omega, fun w9 H9 w90 w91 e9 d9 => ⟨rfl, .inr ⟨_, rfl, ?_⟩⟩⟩
        have hsk := b01 (decide (V.int w9 = V.int 0))
        generalize (if decide (V.int w9 = V.int 0) = true then (1 : Int) else 0) = sk at hsk ⊢
        obtain ⟨z, hz, hz2⟩ := pick2 (x := 5 + w8) (y := 0) hsk
        have np : D ≠ p2 := by
          obtain ⟨a, b, zz, _⟩ := d7
          exact ne_of_none zz hp2
        have hp9 : H9 p2 = some (.lst [.int (5 + w8), .int 0]) := e9.lst p2 _ (by simp [np.symm]) upd_same
        have hL9 : H9 L = some (.lst (ds.map V.int)) := e9.lst L _ (by simp [nDL.symm]) hL8
        refine .inl ⟨p2, _, sk, .int z, rfl, rfl, .inl (.inl hp9), hz, L, _, _, rfl, rfl, hL9, small1000 (by rw [List.length_map]; omega), ?_⟩
        refine ⟨_, ds ++ [z], rfl, ?_, ?_, ?_, by rw [List.length_append]; simp; omega, fun d hd => ?_⟩
        · have e10 : Ext [D] H1 H9 := e6.trans (e7.trans ((Ext.new hp2).trans e9))
          exact e10.wrNew (e2.dom L hL)
        · obtain ⟨a, b, zz, r⟩ := d9
          exact ⟨a, b, by rw [upd_ne nDL]; exact zz, r⟩
        · rw [upd_same, List.map_append]
          rfl
        · rcases List.mem_append.mp hd with hd | hd
          · exact okd d hd
          · rw [List.mem_singleton.mp hd]
            omega
      · rintro σ H6 ⟨y6, ds, rfl, e6, d6, hL6, hdl, okd⟩
        have hO6 : H6 O = some (.lst vs) := e6.lst O _ (by simp [nDO.symm]) hO1
        refine ⟨_, rfl, .inl ⟨rfl, _, .inl (.inl hO6)⟩, ?_⟩
        -- 1 + roll([3, 9][slow])
        refine ⟨_, rfl, by show 2 ≤ sizeLine; decide, fun p3 hp3 => ?_⟩
        obtain ⟨z3, hz3, hz32⟩ := pick2 (x := 3) (y := 9) hsl
        have d7 : DiceAt (upd H6 p3 (.lst [.int 3, .int 9])) D := (Ext.new (ex := []) hp3).dice (by simp) d6
        refine ⟨_, rfl, .inl ⟨p3, _, sl, .int z3, rfl, rfl, .inl (.inl upd_same), hz3, D, z3, rfl, d7, by omega, by omega, fun h1 H8 h10 h11 e8 d8 => ⟨_, _, rfl, rfl, ?_⟩⟩⟩
        refine ⟨_, rfl, by show 2 ≤ sizeLine; decide, fun p4 hp4 => ?_⟩
        obtain ⟨z4, hz4, hz42⟩ := pick2 (x := 3) (y := 9) hsl
        have d9 : DiceAt (upd H8 p4 (.lst [.int 3, .int 9])) D := (Ext.new (ex := []) hp4).dice (by simp) d8
        refine ⟨_, rfl, .inl ⟨p4, _, sl, .int z4, rfl, rfl, .inl (.inl upd_same), hz4, D, z4, rfl, d9, by omega, by omega, fun r1 H10 r10 r11 e10 d10 => ⟨_, _, rfl, rfl, ?_⟩⟩⟩
        have f6 : Ext [D] H6 H10 := (Ext.new hp3).trans (e8.trans ((Ext.new hp4).trans e10))
        have hL10 : H10 L = some (.lst (ds.map V.int)) := f6.lst L _ (by simp [nDL.symm]) hL6
        have hO10 : H10 O = some (.lst vs) := f6.lst O _ (by simp [nDO.symm]) hO6
        refine ⟨_, rfl, L, _, rfl, .inl ⟨.inl (.inl hL10), fun t ht => ?_⟩⟩
        have d11 : DiceAt (upd H10 t (.tup (ds.map V.int))) D := (Ext.new (ex := []) ht).dice (by simp) d10
        refine ⟨by show 3 ≤ sizeLine; decide, fun u hu => ?_⟩
        have d12 := (Ext.new (ex := []) (o := .tup [.int (1 + h1), .int (1 + r1), .ref t]) hu).dice (by simp) d11
        have g6 : Ext [D] H6 (upd (upd H10 t (.tup (ds.map V.int))) u (.tup [.int (1 + h1), .int (1 + r1), .ref t])) := f6.trans ((Ext.new ht).trans (Ext.new hu))
        have hO12 : (upd (upd H10 t (.tup (ds.map V.int))) u (.tup [.int (1 + h1), .int (1 + r1), .ref t])) O = some (.lst vs) := g6.lst O _ (by simp [nDO.symm]) hO6
        have st : IsStretch K (upd (upd H10 t (.tup (ds.map V.int))) u (.tup [.int (1 + h1), .int (1 + r1), .ref t])) (.ref u) ⟨1 + h1, 1 + r1, ds⟩ :=
          ⟨u, t, rfl, sqT_new, (Ext.new (ex := []) hu).sqT sqT_new⟩
        refine ⟨O, _, _, rfl, rfl, hO12, small1000 (by omega), ?_⟩
        have w12 : Ext [O] (upd (upd H10 t (.tup (ds.map V.int))) u (.tup [.int (1 + h1), .int (1 + r1), .ref t])) (upd (upd (upd H10 t (.tup (ds.map V.int))) u (.tup [.int (1 + h1), .int (1 + r1), .ref t])) O (.lst (vs ++ [.ref u]))) := Ext.wr (by simp) hO12
        refine ⟨_, _, _, _, vs ++ [.ref u], rv ++ [⟨1 + h1, 1 + r1, ds⟩], rfl, (e1.trans (e6.trans g6)).wrNew hO, ?_, upd_same, ?_, by rw [List.length_append, hl]; rfl, fun s hs => ?_⟩
        · obtain ⟨a, b, zz, r⟩ := d12
          exact ⟨a, b, by rw [upd_ne nDO]; exact zz, r⟩
        · refine papp (Paired.mapP pv fun _ _ z => ?_) (w12.stretch st)
          exact w12.stretch ((e6.trans g6).stretch z)
        · rcases List.mem_append.mp hs with hs | hs
          · exact okr s hs
          · rw [List.mem_singleton.mp hs]
            exact ⟨by show 1 ≤ 1 + h1; omega, by show 1 + h1 ≤ 9; omega, by show 1 ≤ 1 + r1; omega, by show 1 + r1 ≤ 9; omega, by show 1 ≤ ds.length; omega, by show ds.length ≤ 24; omega, okd⟩
    · rintro σ H1 ⟨y3, y4, y5, y6, vs, rv, rfl, e1, d1, hO1, pv, hl, okr⟩
      refine ⟨_, rfl, O, _, rfl, .inl ⟨.inl (.inl hO1), fun t ht => ?_⟩⟩
      exact q (.ref t) rv _ hl ⟨by omega, by omega, okr⟩ (e1.trans (Ext.new ht)) ((Ext.new (ex := []) ht).dice (by simp) d1) ⟨t, vs, rfl, sqT_new, Paired.mapP pv fun _ _ z => (Ext.new (ex := []) ht).stretch z⟩

def spTime (K : PySem.W.Frag) : Sp := fun vs H Q _ => ∃ (v : V) (rv : List Stretch) (p : Nat) (h : Int), vs = [v, .int (p : Int), .int h] ∧ IsRiver K H v rv ∧ RvOk rv ∧ ∀ H', Ext [] H H' → Q (.int (h + hsum rv p)) H'
theorem ok__law_time (T : Facts A K mg base) : FnOk P w K mg base CX0 1 A.a__law_time A.d__law_time ["_law_river_here", "_law_place", "_law_hour"] (spTime K) := by
  refine T.F__law_time.ok sc__law_time (fun vs H Q E h => ?_) (fun cdv A1 outer s H vs Q E hr h => ?_)
  · obtain ⟨v, rv, p, h, rfl, _⟩ := h
    rfl
  · obtain ⟨v, rv, p, h, rfl, ⟨ra, rs, rfl, t1, pr⟩, ok, q⟩ := h
    refine ⟨_, PSs.nox (pss_one (ps_ret (pe_op op_add (pv 2) (pe_callB (cr_sum rfl) (by rfl) T.n_sum PyProof.Rows.boot_sum (pa_cons (pe_lc (own := [("_law_stretch", 3)]) (g := (gName 3)) rfl sc__law_time.nd (pi_tup (pe_slice GX.sl_tupA (pv 0) po_none (po_some (pv 1)))) (blkOk_by (own := [("_law_stretch", 3)]) (N := ["_law_river_here", "_law_place", "_law_hour", "_law_stretch"]) (sc := defScope s__law_time) (by decide +kernel)) (fun _ _ _ _ _ => (pg_name (i := 3) sc__law_time.nd rfl (Or.inl rfl))) (fun _ _ _ _ _ => pts_nil) (fun _ _ _ _ _ => (pe_ix (ixK K rfl) (pv 3) pe_int (fun _ _ => rfl)))) pa_nil))))), ?_⟩
    have l1 := plen pr
    have n8 := ok.n8
    refine ⟨.int h, rfl, .ref ra, rfl, .int (p : Int), rfl, (p : Int), rfl, ra, rs, rfl, t1, fun hw => ?_, fun hw S hS => ?_⟩
    · have tt : SqT K H ra (rs.take p) := by
        rw [whole_take hw]
        exact t1
      have ee : Ext [] H H := Ext.refl
      refine ⟨_, rfl, ⟨_, tt⟩, fun D hD => lc_tup (xs := rs.take p) (fun i H3 => Ext [] H H3 ∧ SqT K H3 ra (rs.take p) ∧ H3 D = some (.lst ((((rv.take p).map (fun s : Stretch => s.hours)).take i).map V.int))) ⟨ee.trans (Ext.new hD), (Ext.new (ex := []) hD).sqT tt, upd_same⟩ (fun _ _ _ z => z.2.1) (fun i x H3 hx z => ?_) (fun H3 z => ?_)⟩
      · obtain ⟨s1, hs1, is1⟩ := pget (ptake p pr) hx
        obtain ⟨z1, z2, z3⟩ := z
        obtain ⟨sa, sd, rfl, u1, u2⟩ := z1.stretch is1
        refine ⟨rfl, yesT ?_⟩
        refine ⟨_, rfl, .inr (.inl ⟨sa, _, 0, _, rfl, rfl, u1, atI_nat (j := 0) rfl, _, z3, small1000 (by simp only [List.length_map, List.length_take]; omega), z1.wrNew (ee.dom D hD), (Ext.wr (ex := [D]) (by simp) z3).sqT z2, ?_⟩)⟩
        have e : ((rv.take p).map (fun s : Stretch => s.hours))[i]? = some s1.hours := by rw [List.getElem?_map, hs1]; rfl
        rw [upd_same, List.take_add_one, e, List.map_append]
        rfl
      · obtain ⟨z1, z2, z3⟩ := z
        have e : ((rv.take p).map (fun s : Stretch => s.hours)).take (rs.take p).length = (rv.take p).map (fun s : Stretch => s.hours) := List.take_of_length_le (by simp only [List.length_map, List.length_take]; omega)
        rw [e] at z3
        exact ⟨D, (rv.take p).map (fun s : Stretch => s.hours), rfl, .inl (.inl z3), _, _, rfl, rfl, q H3 z1⟩
    · have tt : SqT K (upd H S (.tup (cutV rs none (some (p : Int))))) S (rs.take p) := by
        have z := sqT_new (K := K) (H := H) (p := S) (xs := cutV rs none (some (p : Int)))
        rw [cut_take] at z ⊢
        exact z
      have ee : Ext [] H (upd H S (.tup (cutV rs none (some (p : Int))))) := Ext.new hS
      refine ⟨_, rfl, ⟨_, tt⟩, fun D hD => lc_tup (xs := rs.take p) (fun i H3 => Ext [] H H3 ∧ SqT K H3 S (rs.take p) ∧ H3 D = some (.lst ((((rv.take p).map (fun s : Stretch => s.hours)).take i).map V.int))) ⟨ee.trans (Ext.new hD), (Ext.new (ex := []) hD).sqT tt, upd_same⟩ (fun _ _ _ z => z.2.1) (fun i x H3 hx z => ?_) (fun H3 z => ?_)⟩
      · obtain ⟨s1, hs1, is1⟩ := pget (ptake p pr) hx
        obtain ⟨z1, z2, z3⟩ := z
        obtain ⟨sa, sd, rfl, u1, u2⟩ := z1.stretch is1
        refine ⟨rfl, yesT ?_⟩
        refine ⟨_, rfl, .inr (.inl ⟨sa, _, 0, _, rfl, rfl, u1, atI_nat (j := 0) rfl, _, z3, small1000 (by simp only [List.length_map, List.length_take]; omega), z1.wrNew (ee.dom D hD), (Ext.wr (ex := [D]) (by simp) z3).sqT z2, ?_⟩)⟩
        have e : ((rv.take p).map (fun s : Stretch => s.hours))[i]? = some s1.hours := by rw [List.getElem?_map, hs1]; rfl
        rw [upd_same, List.take_add_one, e, List.map_append]
        rfl
      · obtain ⟨z1, z2, z3⟩ := z
        have e : ((rv.take p).map (fun s : Stretch => s.hours)).take (rs.take p).length = (rv.take p).map (fun s : Stretch => s.hours) := List.take_of_length_le (by simp only [List.length_map, List.length_take]; omega)
        rw [e] at z3
        exact ⟨D, (rv.take p).map (fun s : Stretch => s.hours), rfl, .inl (.inl z3), _, _, rfl, rfl, q H3 z1⟩

def spBarges (K : PySem.W.Frag) : Sp := fun vs H Q _ => ∃ (D : Addr) (v : V) (rv : List Stretch) (n : Nat), vs = [.ref D, v, .int (n : Int)] ∧ DiceAt H D ∧ IsRiver K H v rv ∧ RvOk rv ∧ n ≤ 7 ∧ ∀ (u : V) (bs : List Barge) (H' : Hp), bs.length = n → (∀ b ∈ bs, b.Ok rv.length) → Ext [D] H H' → DiceAt H' D → IsBarges K H' u bs → Q u H'
theorem ok__law_barges (T : Facts A K mg base) : FnOk P w K mg base CX0 2 A.a__law_barges A.d__law_barges ["_law_dice_here", "_law_river_here", "_law_many"] (spBarges K) := by
  refine T.F__law_barges.ok sc__law_barges (fun vs H Q E h => ?_) (fun cdv A1 outer s H vs Q E hr h => ?_)
  · obtain ⟨D, v, rv, n, rfl, _⟩ := h
    rfl
  · obtain ⟨D, v, rv, n, rfl, dD, ir, ok, n7, q⟩ := h
    refine ⟨_, PSs.nox (pss_cons (ps_set (i := 3) sc__law_barges.nd rfl (Or.inl rfl) (pe_lst pa_nil))
      (pss_cons (ps_set (i := 4) sc__law_barges.nd rfl (Or.inl rfl) (pe_ix ix_seq (pe_lst (pa_cons pe_int (pa_cons pe_int pa_nil))) (pe_callTy call_int1 (by rfl) T.n_int (by decide +kernel) (pa_cons (pe_cmpR op_gt (pv 2) pe_int (nomark _)) pa_nil)) (fun _ _ => rfl)))
      (pss_cons (ps_for PassesOwn.never rfl (pi_range1 (by rfl) T.n_range (pa_cons (pv 2) pa_nil)) (pg_name (i := 5) sc__law_barges.nd rfl (Or.inl rfl)) (pss_cons (ps_set (i := 6) sc__law_barges.nd rfl (Or.inl rfl) (pe_call (ok__law_roll T) (hr.mono (by decide)) (by rfl) T.g__law_roll T.F__law_roll.kp T.b__law_roll .nil pass0 (pa_cons (pv 0) (pa_cons (pe_callB call_len_seq (by rfl) T.n_len PySem.boot_len (pa_cons (pv 1) pa_nil)) pa_nil))))
      (pss_cons (ps_set (i := 7) sc__law_barges.nd rfl (Or.inl rfl) (pe_op op_add (pe_op op_add (pv 6) pe_int) (pe_call (ok__law_roll T) (hr.mono (by decide)) (by rfl) T.g__law_roll T.F__law_roll.kp T.b__law_roll .nil pass0 (pa_cons (pv 0) (pa_cons (pe_op op_sub (pe_callB call_len_seq (by rfl) T.n_len PySem.boot_len (pa_cons (pv 1) pa_nil)) (pv 6)) pa_nil)))))
      (pss_cons (ps_set (i := 8) sc__law_barges.nd rfl (Or.inl rfl) (pe_call (ok__law_roll T) (hr.mono (by decide)) (by rfl) T.g__law_roll T.F__law_roll.kp T.b__law_roll .nil pass0 (pa_cons (pv 0) (pa_cons pe_int pa_nil))))
      (pss_cons (ps_set (i := 9) sc__law_barges.nd rfl (Or.inl rfl) (pe_callB (call_max2 rfl) (by rfl) T.n_max (by decide +kernel) (pa_cons pe_int (pa_cons (pe_op op_sub (pe_call (ok__law_time T) (hr.mono (by decide)) (by rfl) T.g__law_time T.F__law_time.kp T.b__law_time .nil pass0 (pa_cons (pv 1) (pa_cons (pv 6) (pa_cons (pv 8) pa_nil)))) (pe_call (ok__law_roll T) (hr.mono (by decide)) (by rfl) T.g__law_roll T.F__law_roll.kp T.b__law_roll .nil pass0 (pa_cons (pv 0) (pa_cons (pv 4) pa_nil)))) pa_nil))))
      (pss_cons (ps_set (i := 10) sc__law_barges.nd rfl (Or.inl rfl) (pe_op op_add (pe_call (ok__law_time T) (hr.mono (by decide)) (by rfl) T.g__law_time T.F__law_time.kp T.b__law_time .nil pass0 (pa_cons (pv 1) (pa_cons (pv 7) (pa_cons (pv 8) pa_nil)))) (pe_call (ok__law_roll T) (hr.mono (by decide)) (by rfl) T.g__law_roll T.F__law_roll.kp T.b__law_roll .nil pass0 (pa_cons (pv 0) (pa_cons (pv 4) pa_nil)))))
      (pss_cons (ps_set (i := 11) sc__law_barges.nd rfl (Or.inl rfl) (pe_ix ix_seq (pe_lst (pa_cons (pe_op op_add pe_int (pe_call (ok__law_roll T) (hr.mono (by decide)) (by rfl) T.g__law_roll T.F__law_roll.kp T.b__law_roll .nil pass0 (pa_cons (pv 0) (pa_cons pe_int pa_nil)))) (pa_cons (pe_op op_add pe_int (pe_call (ok__law_roll T) (hr.mono (by decide)) (by rfl) T.g__law_roll T.F__law_roll.kp T.b__law_roll .nil pass0 (pa_cons (pv 0) (pa_cons pe_int pa_nil)))) pa_nil))) (pe_callTy call_int1 (by rfl) T.n_int (by decide +kernel) (pa_cons (pe_cmpR op_eq (pe_call (ok__law_roll T) (hr.mono (by decide)) (by rfl) T.g__law_roll T.F__law_roll.kp T.b__law_roll .nil pass0 (pa_cons (pv 0) (pa_cons pe_int pa_nil))) pe_int (nomark _)) pa_nil)) (fun _ _ => rfl)))
      (pss_cons (ps_set (i := 12) sc__law_barges.nd rfl (Or.inl rfl) (pe_call (ok__law_roll T) (hr.mono (by decide)) (by rfl) T.g__law_roll T.F__law_roll.kp T.b__law_roll .nil pass0 (pa_cons (pv 0) (pa_cons pe_int pa_nil))))
      (pss_cons (ps_if (pt_cmpR op_lt (pv 12) pe_int (nomark _)) (pss_one (ps_asg (pe_ix ix_seq (pe_lst (pa_cons (pe_tup (pa_cons pe_int (pa_cons (pv 9) (pa_cons (pv 10) pa_nil)))) (pa_cons (pe_tup (pa_cons (pv 11) (pa_cons pe_int (pa_cons pe_int pa_nil)))) (pa_cons (pe_tup (pa_cons (pv 11) (pa_cons (pv 9) (pa_cons pe_int pa_nil)))) pa_nil)))) (pv 12) (fun _ _ => rfl)) (pg_tup (by rfl) (pgs_cons (pg_name (i := 11) sc__law_barges.nd rfl (Or.inl rfl)) (pgs_cons (pg_name (i := 9) sc__law_barges.nd rfl (Or.inl rfl)) (pgs_cons (pg_name (i := 10) sc__law_barges.nd rfl (Or.inl rfl)) pgs_nil)))))) pss_nil)
      (pss_one (ps_expr (pe_bm PySem.F.plainAttrs_list PySem.F.slot_list_append PySem.F.type_list_append mt_append (pv 3) (pa_cons (pe_tup (pa_cons (pv 6) (pa_cons (pv 7) (pa_cons (pv 11) (pa_cons (pv 9) (pa_cons (pv 10) pa_nil)))))) pa_nil)))))))))))))
      (pss_one (ps_ret (pe_callTy call_tuple_of (by rfl) T.n_tuple (by decide +kernel) (pa_cons (pv 3) pa_nil))))))), ?_⟩
    obtain ⟨ra, rs, rfl, t1, pr⟩ := id ir
    have lr := plen pr
    have rn1 := ok.n1
    have rn8 := ok.n8
    refine ⟨Nat.zero_le _, fun O hO => ?_⟩
    have nDO : D ≠ O := by
      obtain ⟨a, b, z, _⟩ := dD
      exact ne_of_none z hO
    -- slack
    refine ⟨by show 2 ≤ sizeLine; decide, fun p0 hp0 => ⟨_, rfl, _, _, rfl, rfl, .inr ⟨_, rfl, ?_⟩⟩⟩
    have hsl := b01 (decide ((4 : Int) < (n : Int)))
    generalize (if decide ((4 : Int) < (n : Int)) = true then (1 : Int) else 0) = sl at hsl ⊢
    obtain ⟨sk, hz, hz2⟩ := pick2 (x := 6) (y := 3) hsl
    refine .inl ⟨p0, _, sl, .int sk, rfl, rfl, .inl (.inl upd_same), hz, ?_⟩
    have e0 : Ext [D] H (upd (upd H O (.lst [])) p0 (.lst [.int 6, .int 3])) := (Ext.new hO).trans (Ext.new hp0)
    have d0 : DiceAt (upd (upd H O (.lst [])) p0 (.lst [.int 6, .int 3])) D := (Ext.new (ex := []) hp0).dice (by simp) ((Ext.new (ex := []) hO).dice (by simp) dD)
    have hO0 : (upd (upd H O (.lst [])) p0 (.lst [.int 6, .int 3])) O = some (.lst []) := (Ext.new (ex := []) hp0).lst O _ (by simp) upd_same
    refine ⟨_, rfl, (n : Int), rfl, by omega, by omega, for_range (n := n) (fun i σ H1 => ∃ y5 y6 y7 y8 y9 y10 y11 y12 vs bs, σ = [some (.ref D), some (.ref ra), some (.int (n : Int)), some (.ref O), some (.int sk), y5, y6, y7, y8, y9, y10, y11, y12] ∧ Ext [D] H H1 ∧ DiceAt H1 D ∧ H1 O = some (.lst vs) ∧ Paired (IsBarge K H1) vs bs ∧ bs.length = i ∧ ∀ b ∈ bs, b.Ok rv.length)
      ⟨none, none, none, none, none, none, none, none, [], [], rfl, e0, d0, hO0, .nil, rfl, fun _ h => absurd h (by simp)⟩ ?_ ?_⟩
    · rintro i σ H1 hi ⟨y5, y6, y7, y8, y9, y10, y11, y12, vs, bs, rfl, e1, d1, hO1, pv, hl, okb⟩
      have lv := plen pv
      have r1 := e1.river ir
      have t1' := e1.sqT t1
      -- begin
      refine ⟨_, rfl, _, rfl, ra, rs, rfl, .inr t1', D, _, rfl, d1, by omega, by omega, fun b H2 b0 b1 e2 d2 => ?_⟩
      -- goal
      refine ⟨_, rfl, _, _, rfl, rfl, _, rfl, _, rfl, ra, rs, rfl, .inr (e2.sqT t1'), _, rfl, _, _, rfl, rfl, D, _, rfl, d2, by omega, by omega, fun g H3 g0 g1 e3 d3 => ⟨_, _, rfl, rfl, ?_⟩⟩
      -- hour
      refine ⟨_, rfl, D, 12, rfl, d3, by omega, by omega, fun h H4 h0 h1 e4 d4 => ?_⟩
      obtain ⟨bn, rfl⟩ : ∃ m : Nat, b = (m : Int) := ⟨b.toNat, by omega⟩
      obtain ⟨gn, hgn⟩ : ∃ m : Nat, (bn : Int) + 1 + g = (m : Int) := ⟨((bn : Int) + 1 + g).toNat, by omega⟩
      have f4 : Ext [D] H1 H4 := e2.trans (e3.trans e4)
      -- ready
      refine ⟨_, rfl, _, rfl, _, rfl, .ref ra, rv, bn, h, rfl, f4.river r1, ok, fun H5 e5 => ?_⟩
      have d5 := e5.dice (by simp) d4
      refine ⟨_, rfl, _, rfl, D, sk, rfl, d5, by omega, by omega, fun s1 H6 s10 s11 e6 d6 => ⟨_, _, rfl, rfl, _, _, rfl, ?_⟩⟩
      have f6 : Ext [D] H1 H6 := f4.trans (e5.any.trans e6)
      have bb := hsum_bound ok.ok bn
      have bg := hsum_bound ok.ok gn
      -- due
      refine ⟨_, rfl, _, rfl, _, rfl, .ref ra, rv, gn, h, by rw [← hgn]; rfl, f6.river r1, ok, fun H7 e7 => ?_⟩
      have d7 := e7.dice (by simp) d6
      refine ⟨_, rfl, _, rfl, D, sk, rfl, d7, by omega, by omega, fun s2 H8 s20 s21 e8 d8 => ⟨_, _, rfl, rfl, ?_⟩⟩
      have f8 : Ext [D] H1 H8 := f6.trans (e7.any.trans e8)
      -- draft
      refine ⟨_, rfl, D, 5, rfl, d8, by omega, by omega, fun w1 H9 w10 w11 e9 d9 => ⟨_, _, rfl, rfl, ?_⟩⟩
      refine ⟨_, rfl, D, 8, rfl, d9, by omega, by omega, fun w2 H10 w20 w21 e10 d10 => ⟨_, _, rfl, rfl, by show 2 ≤ sizeLine; decide, fun p1 hp1 => ?_⟩⟩
      have d11 : DiceAt (upd H10 p1 (.lst [.int (1 + w1), .int (5 + w2)])) D := (Ext.new (ex := []) hp1).dice (by simp) d10
      refine ⟨_, rfl, D, 4, rfl, d11, by omega, by omega, fun w3 H12 w30 w31 e12 d12 => ⟨rfl, .inr ⟨_, rfl, ?_⟩⟩⟩
      have hsx := b01 (decide (V.int w3 = V.int 0))
      generalize (if decide (V.int w3 = V.int 0) = true then (1 : Int) else 0) = sx at hsx ⊢
      obtain ⟨dr, hdr, hdr2⟩ := pick2 (x := 1 + w1) (y := 5 + w2) hsx
      have np1 : D ≠ p1 := by
        obtain ⟨a, b, zz, _⟩ := d10
        exact ne_of_none zz hp1
      have hp12 : H12 p1 = some (.lst [.int (1 + w1), .int (5 + w2)]) := e12.lst p1 _ (by simp [np1.symm]) upd_same
      refine .inl ⟨p1, _, sx, .int dr, rfl, rfl, .inl (.inl hp12), hdr, ?_⟩
      have f12 : Ext [D] H1 H12 := f8.trans (e9.trans (e10.trans ((Ext.new hp1).trans e12)))
      -- odd
      refine ⟨_, rfl, D, 60, rfl, d12, by omega, by omega, fun od H13 od0 od1 e13 d13 => ?_⟩
      have f13 : Ext [D] H1 H13 := f12.trans e13
      have d13' := d13
      have hrd : 0 ≤ (if h + hsum rv bn - s1 > 0 then h + hsum rv bn - s1 else 0) ∧ (if h + hsum rv bn - s1 > 0 then h + hsum rv bn - s1 else 0) ≤ 99 := by split <;> omega
      have hgl : (bn : Int) + 1 + g ≤ (rv.length : Int) := by omega
      have hgr : hsum rv gn ≤ 72 := by omega
      generalize (if h + hsum rv bn - s1 > 0 then h + hsum rv bn - s1 else 0) = rd at hrd ⊢
      refine ⟨_, rfl, _, _, rfl, rfl, _, rfl, ite2 (fun c => ?_) (fun c => ?_)⟩
      · have hod : od < 3 := of_decide_eq_true c
        refine ⟨_, rfl, _, rfl, by show 3 ≤ sizeLine; decide, fun q1 hq1 => ?_⟩
        refine ⟨_, rfl, by show 3 ≤ sizeLine; decide, fun q2 hq2 => ?_⟩
        refine ⟨_, rfl, _, rfl, by show 3 ≤ sizeLine; decide, fun q3 hq3 => ?_⟩
        refine ⟨by show 3 ≤ sizeLine; decide, fun q4 hq4 => ?_⟩
        have x1 := Ext.new (ex := [D]) (o := .tup [.int 99, .int rd, .int (h + hsum rv gn + s2)]) hq1
        have x2 := Ext.new (ex := [D]) (o := .tup [.int dr, .int 99, .int 199]) hq2
        have x3 := Ext.new (ex := [D]) (o := .tup [.int dr, .int rd, .int 0]) hq3
        have x4 := Ext.new (ex := [D]) (o := .lst [.ref q1, .ref q2, .ref q3]) hq4
        have fH := f13.trans (x1.trans (x2.trans (x3.trans x4)))
        have dH := (Ext.new (ex := []) (o := .lst [.ref q1, .ref q2, .ref q3]) hq4).dice (by simp) ((Ext.new (ex := []) (o := .tup [.int dr, .int rd, .int 0]) hq3).dice (by simp) ((Ext.new (ex := []) (o := .tup [.int dr, .int 99, .int 199]) hq2).dice (by simp) ((Ext.new (ex := []) (o := .tup [.int 99, .int rd, .int (h + hsum rv gn + s2)]) hq1).dice (by simp) d13)))
        have t1q := (x2.trans (x3.trans x4)).sqT (sqT_new (K := K) (H := H13) (p := q1) (xs := [.int 99, .int rd, .int (h + hsum rv gn + s2)]))
        have t2q := (x3.trans x4).sqT (sqT_new (K := K) (H := upd H13 q1 (.tup [.int 99, .int rd, .int (h + hsum rv gn + s2)])) (p := q2) (xs := [.int dr, .int 99, .int 199]))
        have t3q := x4.sqT (sqT_new (K := K) (H := upd (upd H13 q1 (.tup [.int 99, .int rd, .int (h + hsum rv gn + s2)])) q2 (.tup [.int dr, .int 99, .int 199])) (p := q3) (xs := [.int dr, .int rd, .int 0]))
        have ho : od = 0 ∨ od = 1 ∨ od = 2 := by omega
        rcases ho with rfl | rfl | rfl
        · have okB : (⟨bn, (bn : Int) + 1 + g, 99, rd, h + hsum rv gn + s2⟩ : Barge).Ok rv.length := ⟨by show 0 ≤ (bn : Int); omega, by show (bn : Int) < (bn : Int) + 1 + g; omega, hgl, by show (1 : Int) ≤ 99; omega, by show (99 : Int) ≤ 99; omega, hrd.1, hrd.2, by show 0 ≤ h + hsum rv gn + s2; omega, by show h + hsum rv gn + s2 ≤ 199; omega⟩
          refine ⟨_, rfl, .inl ⟨q4, _, 0, .ref q1, rfl, rfl, .inl (.inl upd_same), atI_nat (j := 0) rfl, q1, _, rfl, t1q, rfl, _, _, rfl, _, _, rfl, _, _, rfl, rfl, ?_⟩⟩
          have hO14 := fH.lst O _ (by simp [nDO.symm]) hO1
          refine ⟨_, rfl, .inl ⟨rfl, _, .inl (.inl hO14)⟩, ?_⟩
          refine ⟨_, rfl, _, rfl, _, rfl, _, rfl, _, rfl, by show 5 ≤ sizeLine; decide, fun u hu => ?_⟩
          have hO15 := fun o => (Ext.new (ex := []) (o := o) hu).lst O _ (by simp) hO14
          refine ⟨O, _, _, rfl, rfl, hO15 _, small1000 (by omega), ?_⟩
          have w15 := fun o ys => Ext.wr (ex := [O]) (ys := ys) (by simp) (hO15 o)
          refine ⟨_, _, _, _, _, _, _, _, vs ++ [.ref u], bs ++ [⟨bn, (bn : Int) + 1 + g, 99, rd, h + hsum rv gn + s2⟩], rfl, (e1.trans (fH.trans (Ext.new hu))).wrNew hO, ?_, upd_same, papp (Paired.mapP pv fun _ _ z => (w15 _ _).barge ((fH.trans (Ext.new hu)).barge z)) ⟨u, rfl, (w15 _ _).sqT sqT_new⟩, by rw [List.length_append, hl]; rfl, fun b' hb' => ?_⟩
          · exact (w15 _ _).dice (by simp [nDO]) ((Ext.new (ex := []) hu).dice (by simp) dH)
          · rcases List.mem_append.mp hb' with hb' | hb'
            · exact okb b' hb'
            · rw [List.mem_singleton.mp hb']
              exact okB
        · have okB : (⟨bn, (bn : Int) + 1 + g, dr, 99, 199⟩ : Barge).Ok rv.length := ⟨by show 0 ≤ (bn : Int); omega, by show (bn : Int) < (bn : Int) + 1 + g; omega, hgl, by show 1 ≤ dr; omega, by show dr ≤ 99; omega, by show (0 : Int) ≤ 99; omega, by show (99 : Int) ≤ 99; omega, by show (0 : Int) ≤ 199; omega, by show (199 : Int) ≤ 199; omega⟩
          refine ⟨_, rfl, .inl ⟨q4, _, 1, .ref q2, rfl, rfl, .inl (.inl upd_same), atI_nat (j := 1) rfl, q2, _, rfl, t2q, rfl, _, _, rfl, _, _, rfl, _, _, rfl, rfl, ?_⟩⟩
          have hO14 := fH.lst O _ (by simp [nDO.symm]) hO1
          refine ⟨_, rfl, .inl ⟨rfl, _, .inl (.inl hO14)⟩, ?_⟩
          refine ⟨_, rfl, _, rfl, _, rfl, _, rfl, _, rfl, by show 5 ≤ sizeLine; decide, fun u hu => ?_⟩
          have hO15 := fun o => (Ext.new (ex := []) (o := o) hu).lst O _ (by simp) hO14
          refine ⟨O, _, _, rfl, rfl, hO15 _, small1000 (by omega), ?_⟩
          have w15 := fun o ys => Ext.wr (ex := [O]) (ys := ys) (by simp) (hO15 o)
          refine ⟨_, _, _, _, _, _, _, _, vs ++ [.ref u], bs ++ [⟨bn, (bn : Int) + 1 + g, dr, 99, 199⟩], rfl, (e1.trans (fH.trans (Ext.new hu))).wrNew hO, ?_, upd_same, papp (Paired.mapP pv fun _ _ z => (w15 _ _).barge ((fH.trans (Ext.new hu)).barge z)) ⟨u, rfl, (w15 _ _).sqT sqT_new⟩, by rw [List.length_append, hl]; rfl, fun b' hb' => ?_⟩
          · exact (w15 _ _).dice (by simp [nDO]) ((Ext.new (ex := []) hu).dice (by simp) dH)
          · rcases List.mem_append.mp hb' with hb' | hb'
            · exact okb b' hb'
            · rw [List.mem_singleton.mp hb']
              exact okB
        · have okB : (⟨bn, (bn : Int) + 1 + g, dr, rd, 0⟩ : Barge).Ok rv.length := ⟨by show 0 ≤ (bn : Int); omega, by show (bn : Int) < (bn : Int) + 1 + g; omega, hgl, by show 1 ≤ dr; omega, by show dr ≤ 99; omega, hrd.1, hrd.2, by show (0 : Int) ≤ 0; omega, by show (0 : Int) ≤ 199; omega⟩
          refine ⟨_, rfl, .inl ⟨q4, _, 2, .ref q3, rfl, rfl, .inl (.inl upd_same), atI_nat (j := 2) rfl, q3, _, rfl, t3q, rfl, _, _, rfl, _, _, rfl, _, _, rfl, rfl, ?_⟩⟩
          have hO14 := fH.lst O _ (by simp [nDO.symm]) hO1
          refine ⟨_, rfl, .inl ⟨rfl, _, .inl (.inl hO14)⟩, ?_⟩
          refine ⟨_, rfl, _, rfl, _, rfl, _, rfl, _, rfl, by show 5 ≤ sizeLine; decide, fun u hu => ?_⟩
          have hO15 := fun o => (Ext.new (ex := []) (o := o) hu).lst O _ (by simp) hO14
          refine ⟨O, _, _, rfl, rfl, hO15 _, small1000 (by omega), ?_⟩
          have w15 := fun o ys => Ext.wr (ex := [O]) (ys := ys) (by simp) (hO15 o)
          refine ⟨_, _, _, _, _, _, _, _, vs ++ [.ref u], bs ++ [⟨bn, (bn : Int) + 1 + g, dr, rd, 0⟩], rfl, (e1.trans (fH.trans (Ext.new hu))).wrNew hO, ?_, upd_same, papp (Paired.mapP pv fun _ _ z => (w15 _ _).barge ((fH.trans (Ext.new hu)).barge z)) ⟨u, rfl, (w15 _ _).sqT sqT_new⟩, by rw [List.length_append, hl]; rfl, fun b' hb' => ?_⟩
          · exact (w15 _ _).dice (by simp [nDO]) ((Ext.new (ex := []) hu).dice (by simp) dH)
          · rcases List.mem_append.mp hb' with hb' | hb'
            · exact okb b' hb'
            · rw [List.mem_singleton.mp hb']
              exact okB
      · have fH := f13
        have dH := d13
        have okB : (⟨bn, (bn : Int) + 1 + g, dr, rd, h + hsum rv gn + s2⟩ : Barge).Ok rv.length := ⟨by show 0 ≤ (bn : Int); omega, by show (bn : Int) < (bn : Int) + 1 + g; omega, hgl, by show 1 ≤ dr; omega, by show dr ≤ 99; omega, hrd.1, hrd.2, by show 0 ≤ h + hsum rv gn + s2; omega, by show h + hsum rv gn + s2 ≤ 199; omega⟩
        have hO14 := fH.lst O _ (by simp [nDO.symm]) hO1
        refine ⟨_, rfl, .inl ⟨rfl, _, .inl (.inl hO14)⟩, ?_⟩
        refine ⟨_, rfl, _, rfl, _, rfl, _, rfl, _, rfl, by show 5 ≤ sizeLine; decide, fun u hu => ?_⟩
        have hO15 := fun o => (Ext.new (ex := []) (o := o) hu).lst O _ (by simp) hO14
        refine ⟨O, _, _, rfl, rfl, hO15 _, small1000 (by omega), ?_⟩
        have w15 := fun o ys => Ext.wr (ex := [O]) (ys := ys) (by simp) (hO15 o)
        refine ⟨_, _, _, _, _, _, _, _, vs ++ [.ref u], bs ++ [⟨bn, (bn : Int) + 1 + g, dr, rd, h + hsum rv gn + s2⟩], rfl, (e1.trans (fH.trans (Ext.new hu))).wrNew hO, ?_, upd_same, papp (Paired.mapP pv fun _ _ z => (w15 _ _).barge ((fH.trans (Ext.new hu)).barge z)) ⟨u, rfl, (w15 _ _).sqT sqT_new⟩, by rw [List.length_append, hl]; rfl, fun b' hb' => ?_⟩
        · exact (w15 _ _).dice (by simp [nDO]) ((Ext.new (ex := []) hu).dice (by simp) dH)
        · rcases List.mem_append.mp hb' with hb' | hb'
          · exact okb b' hb'
          · rw [List.mem_singleton.mp hb']
            exact okB
    · rintro σ H1 ⟨y5, y6, y7, y8, y9, y10, y11, y12, vs, bs, rfl, e1, d1, hO1, pv, hl, okb⟩
      refine ⟨_, rfl, O, _, rfl, .inl ⟨.inl (.inl hO1), fun t ht => ?_⟩⟩
      exact q (.ref t) bs _ hl okb (e1.trans (Ext.new ht)) ((Ext.new (ex := []) ht).dice (by simp) d1) ⟨t, vs, rfl, sqT_new, Paired.mapP pv fun _ _ z => (Ext.new (ex := []) ht).barge z⟩

def spBook (K : PySem.W.Frag) : Sp := fun vs H Q _ => ∃ (a : Addr) (ns : List Int) (m : Nat), vs = [.ref a, .int (m : Int)] ∧ SqL K H a (ns.map V.int) ∧ m ≤ 7 ∧ ∀ (v : V) (k : Book) (H' : Hp), k.Ok → k.bs.length ≤ m → Ext [] H H' → IsBook K H' v k → Q v H'
theorem ok__law_book (T : Facts A K mg base) : FnOk P w K mg base CX0 3 A.a__law_book A.d__law_book ["_law_script", "_law_most"] (spBook K) := by
  refine T.F__law_book.ok sc__law_book (fun vs H Q E h => ?_) (fun cdv A1 outer s H vs Q E hr h => ?_)
  · obtain ⟨a, ns, m, rfl, _⟩ := h
    rfl
  · obtain ⟨a, ns, m, rfl, hS, m7, q⟩ := h
    refine ⟨_, PSs.nox (pss_cons (ps_set (i := 2) sc__law_book.nd rfl (Or.inl rfl) (pe_call (ok__law_dice T) (hr.mono (by decide)) (by rfl) T.g__law_dice T.F__law_dice.kp T.b__law_dice .nil pass0 (pa_cons (pe_call (ok__law_cell_at T) (hr.mono (by decide)) (by rfl) T.g__law_cell_at T.F__law_cell_at.kp T.b__law_cell_at .nil pass0 (pa_cons (pv 0) (pa_cons pe_int pa_nil))) pa_nil)))
      (pss_cons (ps_set (i := 3) sc__law_book.nd rfl (Or.inl rfl) (pe_call (ok__law_cell_at T) (hr.mono (by decide)) (by rfl) T.g__law_cell_at T.F__law_cell_at.kp T.b__law_cell_at .nil pass0 (pa_cons (pv 0) (pa_cons pe_int pa_nil))))
      (pss_cons (ps_set (i := 4) sc__law_book.nd rfl (Or.inl rfl) (pe_call (ok__law_river T) (hr.mono (by decide)) (by rfl) T.g__law_river T.F__law_river.kp T.b__law_river .nil pass0 (pa_cons (pv 2) (pa_cons (pe_ix ix_seq (pe_lst (pa_cons (pe_op op_add pe_int (pe_op op_modN (pv 3) pe_int)) (pa_cons (pe_op op_add pe_int (pe_op op_modN (pv 3) pe_int)) pa_nil))) (pe_callTy call_int1 (by rfl) T.n_int (by decide +kernel) (pa_cons (pe_cmpR op_eq (pe_op op_modN (pe_op op_fdivN (pv 3) pe_int) pe_int) pe_int (nomark _)) pa_nil)) (fun _ _ => rfl)) pa_nil))))
      (pss_one (ps_ret (pe_tup (pa_cons (pv 4) (pa_cons (pe_call (ok__law_barges T) (hr.mono (by decide)) (by rfl) T.g__law_barges T.F__law_barges.kp T.b__law_barges .nil pass0 (pa_cons (pv 2) (pa_cons (pv 4) (pa_cons (pe_op op_modN (pe_call (ok__law_cell_at T) (hr.mono (by decide)) (by rfl) T.g__law_cell_at T.F__law_cell_at.kp T.b__law_cell_at .nil pass0 (pa_cons (pv 0) (pa_cons pe_int pa_nil))) (pe_op op_add (pv 1) pe_int)) pa_nil)))) pa_nil)))))))), ?_⟩
    have keep : ∀ {H1}, Ext [] H H1 → SqL K H1 a (ns.map V.int) := fun e => e.sqL (by simp) hS
    refine ⟨_, rfl, a, ns, 0, rfl, hS, fun c => ⟨c, rfl, fun D H1 hD e1 d1 => ?_⟩⟩
    refine ⟨_, rfl, a, ns, 1, rfl, keep e1, fun c1 => ?_⟩
    have nD : ∀ {H2}, Ext [D] H1 H2 → Ext [] H H2 := fun e => ⟨fun b xs z => e.tup b xs (e1.tup b xs z), fun b o u z => e.frz b o u (e1.frz b o u z), fun b ps z t => let ⟨ps', z', t'⟩ := e1.tbl b ps z t; e.tbl b ps' z' t', fun b xs n z => e.lst b xs (by simp; exact ne_of_none z hD) (e1.lst b xs (by simp) z), fun b u n t z => e.oth b u (by simp; exact ne_of_none z hD) t (e1.oth b u (by simp) t z), fun b z => e1.dom b (e.dom b z)⟩
    -- river
    have m40 : 0 ≤ c1.fmod 4 := Int.fmod_nonneg_of_pos _ (by decide)
    have m41 : c1.fmod 4 < 4 := Int.fmod_lt_of_pos _ (by decide)
    refine ⟨_, rfl, _, rfl, _, _, rfl, rfl, (by show (4 : Int) ≠ 0; decide), _, _, rfl, rfl, _, rfl, _, _, rfl, rfl, (by show (4 : Int) ≠ 0; decide), _, _, rfl, rfl, (by show 2 ≤ sizeLine; decide), fun p hp => ?_⟩
    refine ⟨_, rfl, _, _, rfl, rfl, ⟨by decide, by decide⟩, _, _, rfl, rfl, (by show (6 : Int) ≠ 0; decide), rfl, .inr ⟨_, rfl, ?_⟩⟩
    have hsl := b01 (decide (V.int ((c1.fdiv 4).fmod 6) = V.int 1))
    generalize (if decide (V.int ((c1.fdiv 4).fmod 6) = V.int 1) = true then (1 : Int) else 0) = sl at hsl ⊢
    obtain ⟨z, hz, hz2⟩ := pick2 (x := 1 + c1.fmod 4) (y := 5 + c1.fmod 4) hsl
    obtain ⟨n, rfl⟩ : ∃ n : Nat, z = (n : Int) := ⟨z.toNat, by omega⟩
    have e2 : Ext [D] H1 (upd H1 p (.lst [.int (1 + c1.fmod 4), .int (5 + c1.fmod 4)])) := Ext.new hp
    refine .inl ⟨p, _, sl, .int (n : Int), rfl, rfl, .inl (.inl upd_same), hz, D, n, rfl, (Ext.new (ex := []) hp).dice (by simp) d1, by omega, by omega, fun v rv H3 hn okr e3 d3 ir => ?_⟩
    -- the pair
    have f3 := e2.trans e3
    refine ⟨_, rfl, _, rfl, _, rfl, _, rfl, a, ns, 2, rfl, keep (nD f3), fun c2 => ⟨_, rfl, _, _, rfl, rfl, _, _, rfl, rfl, by omega, ?_⟩⟩
    have b0 : 0 ≤ c2.fmod ((m : Int) + 1) := Int.fmod_nonneg_of_pos _ (by omega)
    have b1 : c2.fmod ((m : Int) + 1) < (m : Int) + 1 := Int.fmod_lt_of_pos _ (by omega)
    obtain ⟨q1, hq1⟩ : ∃ n : Nat, c2.fmod ((m : Int) + 1) = (n : Int) := ⟨(c2.fmod ((m : Int) + 1)).toNat, by omega⟩
    refine ⟨D, v, rv, q1, by rw [← hq1]; rfl, d3, ir, okr, by omega, fun u bs H4 hb okb e4 d4 ib => ⟨by show 2 ≤ sizeLine; decide, fun t ht => ?_⟩⟩
    exact q (.ref t) ⟨rv, bs⟩ _ ⟨okr, by show bs.length ≤ 7; omega, okb⟩ (by show bs.length ≤ m; omega) (nD (f3.trans (e4.trans (Ext.new ht)))) ⟨t, v, u, rfl, sqT_new, (Ext.new (ex := []) ht).river (e4.river ir), (Ext.new (ex := []) ht).barges ib⟩

def spLDepth (K : PySem.W.Frag) : Sp := fun vs H Q _ => ∃ (v : V) (rv : List Stretch) (k : Nat) (t : Int) (s : Stretch), vs = [v, .int (k : Int), .int t] ∧ IsRiver K H v rv ∧ rv[k]? = some s ∧ 0 < s.ds.length ∧ Q (.int (depthAt s t)) H
theorem ok__law_depth (T : Facts A K mg base) : FnOk P w K mg base CX0 1 A.a__law_depth A.d__law_depth ["_law_river_here", "_law_stretch", "_law_time_here"] (spLDepth K) := by
  refine T.F__law_depth.ok sc__law_depth (fun vs H Q E h => ?_) (fun cdv A1 outer s H vs Q E hr h => ?_)
  · obtain ⟨v, rv, k, t, s, rfl, _⟩ := h
    rfl
  · obtain ⟨v, rv, k, t, s1, rfl, ⟨ra, rs, rfl, t1, pr⟩, hk, hd, q⟩ := h
    refine ⟨_, PSs.nox (pss_cons (ps_set (i := 3) sc__law_depth.nd rfl (Or.inl rfl) (pe_ix ix_seq (pe_ix ix_seq (pv 0) (pv 1) (fun _ _ => rfl)) pe_int (fun _ _ => rfl)))
      (pss_one (ps_ret (pe_ix ix_seq (pv 3) (pe_op op_modN (pv 2) (pe_callB call_len_seq (by rfl) T.n_len PySem.boot_len (pa_cons (pv 3) pa_nil))) (fun _ _ => rfl))))), ?_⟩
    obtain ⟨x, hx, sa, sd, rfl, u1, u2⟩ := pgetR pr hk
    refine ⟨.ref ra, rfl, _, rfl, .inr (.inl ⟨ra, _, _, _, rfl, rfl, t1, atI_nat hx, .inr (.inl ⟨sa, _, 2, _, rfl, rfl, u1, atI_nat (j := 2) rfl, ?_⟩)⟩)⟩
    refine ⟨_, rfl, _, rfl, _, rfl, sd, _, rfl, .inr u2, _, _, rfl, rfl, ?_, .inr (.inl ⟨sd, _, _, _, rfl, rfl, u2, depth_item hd, q⟩)⟩
    rw [List.length_map]
    omega

def spLAlone (K : PySem.W.Frag) : Sp := fun vs H Q _ => ∃ (v : V) (k : Book) (i : Nat) (b : Barge) (h : Int), vs = [v, .int (i : Int), .int h] ∧ IsBook K H v k ∧ k.Ok ∧ k.bs[i]? = some b ∧ ∀ H' p, Ext [] H H' → H p = none → IsList K H' p (aloneR k i b h) → Q (.ref p) H'
theorem ok__law_alone (T : Facts A K mg base) : FnOk P w K mg base CX0 2 A.a__law_alone A.d__law_alone ["_law_book_here", "_law_k", "_law_hour"] (spLAlone K) := by
  refine T.F__law_alone.ok sc__law_alone (fun vs H Q E h => ?_) (fun cdv A1 outer s H vs Q E hr h => ?_)
  · obtain ⟨v, k, i, b, h, rfl, _⟩ := h
    rfl
  · obtain ⟨v, k, i, b, h, rfl, ⟨a, r, bb, rfl, t0, ir, ⟨ba, bs, rfl, t2, pb⟩⟩, ok, hb, q⟩ := h
    refine ⟨_, PSs.nox (pss_cons (ps_set (i := 3) sc__law_alone.nd rfl (Or.inl rfl) (pe_ix ix_seq (pv 0) pe_int (fun _ _ => rfl)))
      (pss_cons (ps_asg (pe_ix ix_seq (pe_ix ix_seq (pv 0) pe_int (fun _ _ => rfl)) (pv 1) (fun _ _ => rfl)) (pg_tup (by rfl) (pgs_cons (pg_name (i := 4) sc__law_alone.nd rfl (Or.inl rfl)) (pgs_cons (pg_name (i := 5) sc__law_alone.nd rfl (Or.inl rfl)) (pgs_cons (pg_name (i := 6) sc__law_alone.nd rfl (Or.inl rfl)) (pgs_cons (pg_name (i := 7) sc__law_alone.nd rfl (Or.inl rfl)) (pgs_cons (pg_name (i := 8) sc__law_alone.nd rfl (Or.inl rfl)) pgs_nil)))))))
      (pss_cons (ps_set (i := 9) sc__law_alone.nd rfl (Or.inl rfl) (pe_lst pa_nil))
      (pss_cons (ps_if (pt_cmpR op_lt (pe_call (ok__law_time T) (hr.mono (by decide)) (by rfl) T.g__law_time T.F__law_time.kp T.b__law_time .nil pass0 (pa_cons (pv 3) (pa_cons (pv 4) (pa_cons (pv 2) pa_nil)))) (pv 7) (nomark _)) (pss_one (ps_expr (pe_bm PySem.F.plainAttrs_list PySem.F.slot_list_append PySem.F.type_list_append mt_append (pv 9) (pa_cons (pe_tup (pa_cons pe_str (pa_cons (pv 1) (pa_cons (pe_call (ok__law_time T) (hr.mono (by decide)) (by rfl) T.g__law_time T.F__law_time.kp T.b__law_time .nil pass0 (pa_cons (pv 3) (pa_cons (pv 4) (pa_cons (pv 2) pa_nil)))) pa_nil)))) pa_nil)))) pss_nil)
      (pss_cons (ps_if (pt_cmpR op_gt (pe_call (ok__law_time T) (hr.mono (by decide)) (by rfl) T.g__law_time T.F__law_time.kp T.b__law_time .nil pass0 (pa_cons (pv 3) (pa_cons (pv 5) (pa_cons (pv 2) pa_nil)))) (pv 8) (nomark _)) (pss_one (ps_expr (pe_bm PySem.F.plainAttrs_list PySem.F.slot_list_append PySem.F.type_list_append mt_append (pv 9) (pa_cons (pe_tup (pa_cons pe_str (pa_cons (pv 1) (pa_cons (pe_call (ok__law_time T) (hr.mono (by decide)) (by rfl) T.g__law_time T.F__law_time.kp T.b__law_time .nil pass0 (pa_cons (pv 3) (pa_cons (pv 5) (pa_cons (pv 2) pa_nil)))) pa_nil)))) pa_nil)))) pss_nil)
      (pss_cons (ps_for PassesOwn.never rfl (pi_range2 (by rfl) T.n_range (pa_cons (pv 4) (pa_cons (pv 5) pa_nil))) (pg_name (i := 10) sc__law_alone.nd rfl (Or.inl rfl)) (pss_cons (ps_set (i := 11) sc__law_alone.nd rfl (Or.inl rfl) (pe_call (ok__law_time T) (hr.mono (by decide)) (by rfl) T.g__law_time T.F__law_time.kp T.b__law_time .nil pass0 (pa_cons (pv 3) (pa_cons (pv 10) (pa_cons (pv 2) pa_nil)))))
      (pss_one (ps_if (pt_cmpR op_lt (pe_call (ok__law_depth T) (hr.mono (by decide)) (by rfl) T.g__law_depth T.F__law_depth.kp T.b__law_depth .nil pass0 (pa_cons (pv 3) (pa_cons (pv 10) (pa_cons (pv 11) pa_nil)))) (pv 6) (nomark _)) (pss_one (ps_expr (pe_bm PySem.F.plainAttrs_list PySem.F.slot_list_append PySem.F.type_list_append mt_append (pv 9) (pa_cons (pe_tup (pa_cons pe_str (pa_cons (pv 1) (pa_cons (pv 10) (pa_cons (pv 11) (pa_cons (pe_call (ok__law_depth T) (hr.mono (by decide)) (by rfl) T.g__law_depth T.F__law_depth.kp T.b__law_depth .nil pass0 (pa_cons (pv 3) (pa_cons (pv 10) (pa_cons (pv 11) pa_nil)))) pa_nil)))))) pa_nil)))) pss_nil))))
      (pss_one (ps_ret (pv 9))))))))), ?_⟩
    obtain ⟨xb, hxb, ibb⟩ := pgetR pb hb
    obtain ⟨xa, rfl, tx⟩ := id ibb
    have okb := ok.ok b (List.mem_of_getElem? hb)
    have b0 := okb.b0
    have bg := okb.bg
    have gn := okb.gn
    have n8 := ok.rv.n8
    refine ⟨_, rfl, .inr (.inl ⟨a, _, 0, _, rfl, rfl, t0, atI_nat (j := 0) rfl, ?_⟩)⟩
    refine ⟨_, rfl, .inr (.inl ⟨a, _, 1, _, rfl, rfl, t0, atI_nat (j := 1) rfl, _, rfl, .inr (.inl ⟨ba, bs, _, _, rfl, rfl, t2, atI_nat hxb, ?_⟩)⟩)⟩
    refine ⟨xa, _, rfl, tx, rfl, _, _, rfl, _, _, rfl, _, _, rfl, _, _, rfl, _, _, rfl, rfl, ?_⟩
    refine ⟨Nat.zero_le _, fun L hL => ?_⟩
    have e0 : Ext [] H (upd H L (.lst [])) := Ext.new hL
    have hp : ((b.b.toNat : Nat) : Int) = b.b := Int.toNat_of_nonneg b0
    have hg : ((b.g.toNat : Nat) : Int) = b.g := Int.toNat_of_nonneg (by omega)
    refine ⟨_, rfl, _, rfl, _, rfl, _, k.rv, b.b.toNat, h, by rw [hp]; rfl, e0.river ir, ok.rv, fun H2 e2 => ?_⟩
    have hL2 := e2.lst L _ (by simp) upd_same
    refine ⟨_, rfl, _, _, rfl, rfl, _, rfl, joinIf H2 (fun H3 => Ext [] H H3 ∧ IsList K H3 L (if comesAt k b.b h < b.r then [[f_early, .i i, .i (comesAt k b.b h)]] else [])) (fun c => ⟨e0.trans e2, ?_⟩) (fun c rest => ?_) (fun H3 z => ?_)⟩
    · rw [if_neg (c := comesAt k b.b h < b.r) (fun z => c (decide_eq_true z))]
      exact ⟨[], hL2, .nil⟩
    · refine ⟨_, rfl, .inl ⟨rfl, _, .inl (.inl hL2)⟩, _, rfl, _, rfl, _, rfl, _, rfl, _, k.rv, b.b.toNat, h, by rw [hp]; rfl, (e0.trans e2).river ir, ok.rv, fun H2' e2' => ⟨by show 3 ≤ sizeLine; decide, fun t ht => ?_⟩⟩
      have e3 := Ext.new (ex := []) (o := .tup [.str "early", .int (i : Int), .int (h + hsum k.rv b.b.toNat)]) ht
      have hL3 := e3.lst L _ (by simp) (e2'.lst L _ (by simp) hL2)
      refine ⟨L, _, _, rfl, rfl, hL3, small1000 (by simp), rest _ ⟨(e0.trans (e2.trans (e2'.trans e3))).wrNew hL, ?_⟩⟩
      rw [if_pos (c := comesAt k b.b h < b.r) (of_decide_eq_true c)]
      exact rows_push hL3 .nil (isRow_new rfl)
    obtain ⟨e3, vs, hL3, pv⟩ := z
    have lv : vs.length ≤ 1 := by
      rw [plen pv]
      split <;> simp
    refine ⟨_, rfl, _, rfl, _, rfl, _, k.rv, b.g.toNat, h, by rw [hg]; rfl, e3.river ir, ok.rv, fun H4 e4 => ?_⟩
    have hL4 := e4.lst L _ (by simp) hL3
    have pv4 := Paired.mapP pv fun _ _ z => e4.row z
    refine ⟨_, rfl, _, _, rfl, rfl, _, rfl, joinIf H4 (fun H5 => Ext [] H H5 ∧ IsList K H5 L (endsR k i b h)) (fun c => ⟨e3.trans e4, ?_⟩) (fun c rest => ?_) (fun H5 z => ?_)⟩
    · unfold endsR
      rw [if_neg (c := b.u < comesAt k b.g h) (fun z => c (decide_eq_true z)), List.append_nil]
      exact ⟨vs, hL4, pv4⟩
    · refine ⟨_, rfl, .inl ⟨rfl, _, .inl (.inl hL4)⟩, _, rfl, _, rfl, _, rfl, _, rfl, _, k.rv, b.g.toNat, h, by rw [hg]; rfl, (e3.trans e4).river ir, ok.rv, fun H4' e4' => ⟨by show 3 ≤ sizeLine; decide, fun t ht => ?_⟩⟩
      have e5 := Ext.new (ex := []) (o := .tup [.str "late", .int (i : Int), .int (h + hsum k.rv b.g.toNat)]) ht
      have hL5 := e5.lst L _ (by simp) (e4'.lst L _ (by simp) hL4)
      refine ⟨L, _, _, rfl, rfl, hL5, small1000 (by omega), rest _ ⟨(e3.trans (e4.trans (e4'.trans e5))).wrNew hL, ?_⟩⟩
      unfold endsR
      rw [if_pos (c := b.u < comesAt k b.g h) (of_decide_eq_true c)]
      exact rows_push hL5 (Paired.mapP pv4 fun _ _ z => (e4'.trans e5).row z) (isRow_new rfl)
    obtain ⟨e5, hl5⟩ := z
    refine ⟨_, rfl, _, rfl, b.b, b.g, rfl, ⟨by omega, by omega, by omega, by omega⟩, for_range (lo := b.b) (n := (b.g - b.b).toNat) (fun j σ H7 => ∃ y10 y11, σ = [some (.ref a), some (.int (i : Int)), some (.int h), some r, some (.int b.b), some (.int b.g), some (.int b.d), some (.int b.r), some (.int b.u), some (.ref L), y10, y11] ∧ Ext [] H H7 ∧ IsList K H7 L (endsR k i b h ++ cat (shalR k i b h) j))
      ⟨none, none, rfl, e5, by rw [cat_zero, List.append_nil]; exact hl5⟩ (fun j σ H7 hj z => ?_) (fun σ H7 z => ?_)⟩
    · obtain ⟨y10, y11, rfl, f, us, hL7, pu⟩ := z
      obtain ⟨st, hst⟩ : ∃ st, k.rv[b.b.toNat + j]? = some st := ⟨k.rv[b.b.toNat + j], List.getElem?_eq_getElem (by omega)⟩
      have hd := (ok.rv.ok st (List.mem_of_getElem? hst)).d1
      have hpj : (((b.b.toNat + j : Nat)) : Int) = b.b + j := by omega
      have hc : h + hsum k.rv (b.b.toNat + j) = comesAt k (b.b + j) h := by rw [← hpj, comesAt_nat]
      have lu := plen pu
      have hbnd : us.length ≤ 100 := by
        rw [lu, List.length_append]
        have := endsR_le k i b h
        have := cat_le (shalR_le k i b h) j
        omega
      refine ⟨_, rfl, _, rfl, _, rfl, _, k.rv, b.b.toNat + j, h, by rw [hpj]; rfl, f.river ir, ok.rv, fun H8 e8 => ?_⟩
      have f8 := f.trans e8
      refine ⟨_, rfl, _, rfl, _, rfl, _, k.rv, b.b.toNat + j, _, st, by rw [hpj]; rfl, f8.river ir, hst, hd, ?_⟩
      have hL8 := e8.lst L _ (by simp) hL7
      have es : shalR k i b h j = if depthAt st (h + hsum k.rv (b.b.toNat + j)) < b.d then [[f_shallow, .i i, .i (b.b + j), .i (h + hsum k.rv (b.b.toNat + j)), .i (depthAt st (h + hsum k.rv (b.b.toNat + j)))]] else [] := by
        unfold shalR
        rw [strN_of hst, hc]
      refine ⟨_, rfl, _, _, rfl, rfl, _, rfl, ite2 (fun c => ?_) (fun c => ?_)⟩
      · refine ⟨_, rfl, .inl ⟨rfl, _, .inl (.inl hL8)⟩, _, rfl, _, rfl, _, rfl, _, rfl, _, rfl, _, rfl, _, k.rv, b.b.toNat + j, _, st, by rw [hpj]; rfl, f8.river ir, hst, hd, by show 5 ≤ sizeLine; decide, fun t5 ht5 => ?_⟩
        have e9 := Ext.new (ex := []) (o := .tup [.str "shallow", .int (i : Int), .int (b.b + j), .int (h + hsum k.rv (b.b.toNat + j)), .int (depthAt st (h + hsum k.rv (b.b.toNat + j)))]) ht5
        have hL9 := e9.lst L _ (by simp) hL8
        refine ⟨L, _, _, rfl, rfl, hL9, small1000 (by omega), ?_⟩
        refine ⟨_, _, rfl, (f8.trans (Ext.new ht5)).wrNew hL, ?_⟩
        rw [cat_succ, ← List.append_assoc, es, if_pos (of_decide_eq_true c)]
        exact rows_push hL9 (Paired.mapP pu fun _ _ z => (e8.trans e9).row z) (isRow_new rfl)
      · refine ⟨_, _, rfl, f8, ?_⟩
        rw [cat_succ, es, if_neg (fun z => c (decide_eq_true z)), List.append_nil]
        exact ⟨us, hL8, Paired.mapP pu fun _ _ z => e8.row z⟩
    · obtain ⟨y10, y11, rfl, f, hl⟩ := z
      exact ⟨_, rfl, q _ L f hL hl⟩

def spLHours (K : PySem.W.Frag) : Sp := fun vs H Q _ => ∃ (u : V) (n : Nat) (pl : List (Option Int)), vs = [u] ∧ IsPlan K H u pl ∧ PlOk n pl ∧ ∀ H' p, Ext [] H H' → H p = none → H' p = some (.lst ((hoursL pl).map V.int)) → Q (.ref p) H'
theorem ok__law_hours (T : Facts A K mg base) : FnOk P w K mg base CX0 1 A.a__law_hours A.d__law_hours ["_law_plan"] (spLHours K) := by
  refine T.F__law_hours.ok sc__law_hours (fun vs H Q E h => ?_) (fun cdv A1 outer s H vs Q E hr h => ?_)
  · obtain ⟨u, n, pl, rfl, _⟩ := h
    rfl
  · obtain ⟨u, n, pl, rfl, ⟨pa, rfl, tp⟩, okp, q⟩ := h
    refine ⟨_, PSs.nox (pss_one (ps_ret (pe_lc (own := [("_law_hour", 1)]) (g := (gName 1)) rfl sc__law_hours.nd (pi_range1 (by rfl) T.n_range (pa_cons pe_int pa_nil)) (blkOk_by (own := [("_law_hour", 1)]) (N := ["_law_plan", "_law_hour"]) (sc := defScope s__law_hours) (by decide +kernel)) (fun _ _ _ _ _ => (pg_name (i := 1) sc__law_hours.nd rfl (Or.inl rfl))) (fun _ _ _ _ _ => (pts_one (pt_cmpR (GD.inK K rfl) (pv 1) (pv 0) (by rfl)))) (fun _ _ _ _ _ => (pv 1))))), ?_⟩
    refine ⟨12, rfl, by omega, by omega, fun D hD => lc_range (lo := 0) (n := 12) (fun i H3 => Ext [] H H3 ∧ i ≤ 12 ∧ H3 D = some (.lst ((hoursN pl i).map V.int))) ⟨Ext.new hD, Nat.zero_le _, upd_same⟩ (fun i H3 hi z => ?_) (fun H3 z => q H3 D z.1 hD z.2.2)⟩
    obtain ⟨e, hi12, hL⟩ := z
    rw [show (0 : Int) + (i : Int) = (i : Int) from Int.zero_add _]
    refine ⟨rfl, _, rfl, _, rfl, pa, _, rfl, .inr (e.sqT tp), rfl, flat_plan pl, _, rfl, ?_⟩
    rw [if_neg Bool.false_ne_true, inV_plan]
    have hlen : (hoursN pl i).length ≤ 12 := by
      unfold hoursN
      refine Nat.le_trans (List.length_filter_le _ _) ?_
      rw [List.length_map, List.length_range]
      omega
    by_cases hm : some (i : Int) ∈ pl
    · rw [decide_eq_true hm]
      refine iteT ⟨_, rfl, _, hL, small1000 (by rw [List.length_map]; omega), e.wrNew hD, by omega, ?_⟩
      rw [upd_same, hoursN_succ, if_pos hm, List.map_append]
      rfl
    · rw [decide_eq_false hm]
      refine iteF ⟨e, by omega, ?_⟩
      rw [hoursN_succ, if_neg hm, List.append_nil]
      exact hL

def spLFull (K : PySem.W.Frag) : Sp := fun vs H Q _ => ∃ (v u : V) (k : Book) (pl : List (Option Int)), vs = [v, u] ∧ IsBook K H v k ∧ k.Ok ∧ IsPlan K H u pl ∧ PlOk k.bs.length pl ∧ ∀ H' p, Ext [] H H' → H p = none → IsList K H' p (fullA k pl) → Q (.ref p) H'
theorem ok__law_full (T : Facts A K mg base) : FnOk P w K mg base CX0 2 A.a__law_full A.d__law_full ["_law_book_here", "_law_plan"] (spLFull K) := by
  refine T.F__law_full.ok sc__law_full (fun vs H Q E h => ?_) (fun cdv A1 outer s H vs Q E hr h => ?_)
  · obtain ⟨v, u, k, pl, rfl, _⟩ := h
    rfl
  · obtain ⟨v, u, k, pl, rfl, ⟨a, r, bb, rfl, t0, ir, ⟨ba, bs, rfl, t2, pb⟩⟩, ok, ⟨pa, rfl, tp⟩, okp, q⟩ := h
    refine ⟨_, PSs.nox (pss_cons (ps_set (i := 2) sc__law_full.nd rfl (Or.inl rfl) (pe_lst pa_nil))
      (pss_cons (ps_for PassesOwn.never rfl (pi_list (pe_call (ok__law_hours T) (hr.mono (by decide)) (by rfl) T.g__law_hours T.F__law_hours.kp T.b__law_hours .nil pass0 (pa_cons (pv 1) pa_nil))) (pg_name (i := 3) sc__law_full.nd rfl (by first | exact Or.inr rfl | exact Or.inl rfl)) (pss_one (ps_for PassesOwn.never rfl (pi_range1 (by rfl) T.n_range (pa_cons (pe_callB call_len_seq (by rfl) T.n_len PySem.boot_len (pa_cons (pe_ix ix_seq (pv 0) pe_int (fun _ _ => rfl)) pa_nil)) pa_nil)) (pg_name (i := 4) sc__law_full.nd rfl (by first | exact Or.inr rfl | exact Or.inl rfl)) (pss_cons (ps_setLc (i := 5) (own := [("_law_k", 6)]) (g := (gName 6)) rfl sc__law_full.nd rfl rfl (sw_true rfl rfl rfl (by decide +kernel)) (pi_range1 (by rfl) T.n_range (pa_cons (pe_callB call_len_seq (by rfl) T.n_len PySem.boot_len (pa_cons (pv 1) pa_nil)) pa_nil)) (blkOk_by (own := [("_law_k", 6)]) (N := ["_law_book_here", "_law_plan", "_law_out", "_law_hour", "_law_stretch", "_law_over", "_law_k"]) (sc := defScope s__law_full) (by decide +kernel)) (fun _ _ _ _ _ => (pg_name (i := 6) sc__law_full.nd rfl (Or.inl rfl))) (fun _ _ _ _ _ => (pts_one (pt_cmpR op_eq (pe_ix (ixK K rfl) (pv 1) (pv 6) (fun _ _ => rfl)) (pv 3) (nomark _)))) (fun _ _ _ _ _ => (pv 6)))
      (pss_cons (ps_setLc (i := 5) (own := [("_law_k", 6)]) (g := (gName 6)) rfl sc__law_full.nd rfl rfl (sw_true rfl rfl rfl (by decide +kernel)) (pi_list (pv 5)) (blkOk_by (own := [("_law_k", 6)]) (N := ["_law_book_here", "_law_plan", "_law_out", "_law_hour", "_law_stretch", "_law_over", "_law_k"]) (sc := defScope s__law_full) (by decide +kernel)) (fun _ _ _ _ _ => (pg_name (i := 6) sc__law_full.nd rfl (Or.inl rfl))) (fun _ _ _ _ _ => (pts_one (pt_chain op_le op_lt (pe_ix (ixK K rfl) (pe_ix (ixK K rfl) (pe_ix (ixK K rfl) (pv 0) pe_int (fun _ _ => rfl)) (pv 6) (fun _ _ => rfl)) pe_int (fun _ _ => rfl)) (pv 4) (pe_ix (ixK K rfl) (pe_ix (ixK K rfl) (pe_ix (ixK K rfl) (pv 0) pe_int (fun _ _ => rfl)) (pv 6) (fun _ _ => rfl)) pe_int (fun _ _ => rfl))))) (fun _ _ _ _ _ => (pv 6)))
      (pss_one (ps_if (pt_cmpR op_gt (pe_callB call_len_seq (by rfl) T.n_len PySem.boot_len (pa_cons (pv 5) pa_nil)) (pe_ix ix_seq (pe_ix ix_seq (pe_ix ix_seq (pv 0) pe_int (fun _ _ => rfl)) (pv 4) (fun _ _ => rfl)) pe_int (fun _ _ => rfl)) (nomark _)) (pss_one (ps_expr (pe_bm PySem.F.plainAttrs_list PySem.F.slot_list_append PySem.F.type_list_append mt_append (pv 2) (pa_cons (pe_tup (pa_cons pe_str (pa_cons (pv 3) (pa_cons (pv 4) (pa_cons (pe_callB call_len_seq (by rfl) T.n_len PySem.boot_len (pa_cons (pv 5) pa_nil)) pa_nil))))) pa_nil)))) pss_nil)))))))
      (pss_one (ps_ret (pv 2))))), ?_⟩
    obtain ⟨ra, rs, rfl, t1, pr⟩ := id ir
    have hz : ∀ i : Nat, (0 : Int) + (i : Int) = (i : Int) := fun i => Int.zero_add _
    have lr := plen pr
    have lp := okp.len
    have n7 := ok.n7
    have n8 := ok.rv.n8
    refine ⟨Nat.zero_le _, fun L hL => ?_⟩
    have e0 : Ext [] H (upd H L (.lst [])) := Ext.new hL
    refine ⟨_, rfl, _, k.bs.length, pl, rfl, ⟨pa, rfl, e0.sqT tp⟩, okp, fun H1 W e1 hW hW1 => ?_⟩
    have nWL : W ≠ L := (ne_of_none upd_same hW).symm
    have e01 := e0.trans e1
    refine ⟨W, rfl, ⟨_, .inl (.inl hW1)⟩, for_list (xs := (hoursL pl).map V.int) (fun i σ H2 => ∃ y3 y4 y5 y6, σ = [some (.ref a), some (.ref pa), some (.ref L), y3, y4, y5, y6] ∧ i ≤ (hoursL pl).length ∧ Ext [L] H1 H2 ∧ IsList K H2 L (((hoursL pl).take i).flatMap (fullH k pl)))
      ⟨none, none, none, none, rfl, Nat.zero_le _, Ext.refl, e1.rows (by simp) IsList.new⟩ (fun i σ H2 _ z => ?_) (fun i x σ H2 hx z => ?_) (fun σ H2 z => ?_)⟩
    · obtain ⟨_, _, _, _, _, _, f, _⟩ := z
      exact .inl (.inl (f.lst W _ (by simp [nWL]) hW1))
    · obtain ⟨h, hh, rfl⟩ := map_int hx
      obtain ⟨y3, y4, y5, y6, rfl, _, f2, hl2⟩ := z
      have hi : i < (hoursL pl).length := (List.getElem?_eq_some_iff.mp hh).1
      have g2 := e01.born hL f2
      have bnd : (((hoursL pl).take i).flatMap (fullH k pl)).length ≤ 96 := fullT_le ok pl i
      refine ⟨_, rfl, .inr (.inl ⟨a, _, 0, _, rfl, rfl, g2.sqT t0, atI_nat (j := 0) rfl, ra, rs, rfl, .inr (g2.sqT t1), (rs.length : Int), rfl, by omega, by omega, for_range (n := rs.length) (fun j σ H4 => ∃ y4 y5 y6, σ = [some (.ref a), some (.ref pa), some (.ref L), some (.int h), y4, y5, y6] ∧ Ext [L] H2 H4 ∧ IsList K H4 L (((hoursL pl).take i).flatMap (fullH k pl) ++ cat (fullR k pl h) j))
        ⟨y4, y5, y6, rfl, Ext.refl, by rw [cat_zero, List.append_nil]; exact hl2⟩ (fun j σ H4 hj z => ?_) (fun σ H4 z => ?_)⟩)⟩
      · obtain ⟨y4, y5, y6, rfl, f4, us, hL4, pu⟩ := z
        rw [hz j]
        obtain ⟨st, hst⟩ : ∃ st, k.rv[j]? = some st := ⟨k.rv[j], List.getElem?_eq_getElem (by omega)⟩
        obtain ⟨xs, hxs, sa, sd, rfl, u1, u2⟩ := pgetR pr hst
        have g4 := g2.born hL f4
        have lu := plen pu
        have bu : us.length ≤ 200 := by
          rw [lu, List.length_append]
          have := cat_le (fullR_le k pl h) j
          omega
        -- over = [k for k in range(len(plan)) if plan[k] == hour]
        refine ⟨_, rfl, pa, _, rfl, .inr (g4.sqT tp), ((pl.map oV).length : Int), rfl, by rw [List.length_map]; omega, by rw [List.length_map]; omega, fun D hD => lc_range (lo := 0) (n := (pl.map oV).length) (fun m H5 => Ext [] H4 H5 ∧ m ≤ pl.length ∧ H5 D = some (.lst (natsV (memN pl h m)))) ⟨Ext.new hD, Nat.zero_le _, upd_same⟩ (fun m H5 hm z => ?_) (fun H5 z => ?_)⟩
        · rw [List.length_map] at hm
          obtain ⟨e5, _, hD5⟩ := z
          rw [hz m]
          obtain ⟨o, ho⟩ : ∃ o, pl[m]? = some o := ⟨pl[m], List.getElem?_eq_getElem hm⟩
          have hoV : (pl.map oV)[m]? = some (oV o) := by rw [List.getElem?_map, ho]; rfl
          refine ⟨rfl, _, rfl, _, rfl, .inr (.inl ⟨pa, _, _, _, rfl, rfl, (g4.trans e5).sqT tp, atI_nat hoV, _, rfl, scal_oV o h, _, rfl, ?_⟩)⟩
          by_cases c : o = some h
          · rw [decide_eq_true (oV_int.mpr c)]
            refine iteT ⟨_, rfl, _, hD5, small1000 (by have := memN_le pl h m; rw [natsV_len]; omega), e5.wrNew hD, by omega, ?_⟩
            rw [upd_same, memN_succ, getD_of ho, if_pos c, natsV_app]
          · rw [decide_eq_false (fun z => c (oV_int.mp z))]
            refine iteF ⟨e5, by omega, ?_⟩
            rw [memN_succ, getD_of ho, if_neg c, List.append_nil]
            exact hD5
        rw [List.length_map] at z
        obtain ⟨e5, _, hD5⟩ := z
        have g5 := g4.trans e5
        have ml := memN_le pl h pl.length
        -- over = [k for k in over if ..]
        refine ⟨.ref D, rfl, D, rfl, ⟨_, .inl (.inl hD5)⟩, fun D2 hD2 => lc_list (xs := natsV (memN pl h pl.length)) (fun m H6 => Ext [] H5 H6 ∧ m ≤ pl.length ∧ H6 D2 = some (.lst (natsV (((memN pl h pl.length).take m).filter (onS k j))))) ⟨Ext.new hD2, Nat.zero_le _, upd_same⟩ (fun _ _ _ z => .inl (.inl (z.1.lst D _ (by simp) hD5))) (fun m x H6 hx z => ?_) (fun H6 z => ?_)⟩
        · obtain ⟨n, hn, rfl⟩ := map_nat hx
          obtain ⟨e6, _, hL6⟩ := z
          have hm2 : m < (memN pl h pl.length).length := (List.getElem?_eq_some_iff.mp hn).1
          have hnl := memN_lt (List.mem_of_getElem? hn)
          obtain ⟨b, hb⟩ : ∃ b, k.bs[n]? = some b := ⟨k.bs[n], List.getElem?_eq_getElem (by omega)⟩
          obtain ⟨xb, hxb, xa, rfl, tx⟩ := pgetR pb hb
          have e := filter_next (f := onS k j) hn
          have hon := onS_of hb j
          have hlen : (((memN pl h pl.length).take m).filter (onS k j)).length ≤ 7 := by
            have h1 := List.length_filter_le (onS k j) ((memN pl h pl.length).take m)
            rw [List.length_take] at h1
            omega
          have g6 := g5.trans e6
          refine ⟨rfl, ?_⟩
          refine ⟨_, rfl, .inr (.inl ⟨a, _, 1, _, rfl, rfl, g6.sqT t0, atI_nat (j := 1) rfl, _, rfl, .inr (.inl ⟨ba, bs, _, _, rfl, rfl, g6.sqT t2, atI_nat hxb, .inr (.inl ⟨xa, _, 0, _, rfl, rfl, g6.sqT tx, atI_nat (j := 0) rfl, _, rfl, _, _, rfl, rfl, _, rfl, ?_⟩)⟩)⟩)⟩
          by_cases c1 : b.b ≤ (j : Int)
          · rw [decide_eq_true c1]
            refine iteT ⟨_, rfl, .inr (.inl ⟨a, _, 1, _, rfl, rfl, g6.sqT t0, atI_nat (j := 1) rfl, _, rfl, .inr (.inl ⟨ba, bs, _, _, rfl, rfl, g6.sqT t2, atI_nat hxb, .inr (.inl ⟨xa, _, 1, _, rfl, rfl, g6.sqT tx, atI_nat (j := 1) rfl, _, _, rfl, rfl, _, rfl, ?_⟩)⟩)⟩)⟩
            by_cases c2 : (j : Int) < b.g
            · rw [decide_eq_true c2]
              refine iteT ⟨_, rfl, _, hL6, small1000 (by rw [natsV_len]; omega), e6.wrNew hD2, by omega, ?_⟩
              rw [upd_same, e, if_pos (by rw [hon]; simp [c1, c2]), natsV_app]
            · rw [decide_eq_false c2]
              refine iteF ⟨e6, by omega, ?_⟩
              rw [e, if_neg (by rw [hon]; simp [c2]), List.append_nil]
              exact hL6
          · rw [decide_eq_false c1]
            refine iteF ⟨_, rfl, iteF ⟨e6, by omega, ?_⟩⟩
            rw [e, if_neg (by rw [hon]; simp [c1]), List.append_nil]
            exact hL6
        rw [natsV_len, List.take_length] at z
        obtain ⟨e6, _, hD6⟩ := z
        have hD6 : H6 D2 = some (.lst (natsV (onL k pl h j))) := hD6
        have g6 := g5.trans e6
        have e46 := e5.trans e6
        have hL6 := e46.lst L _ (by simp) hL4
        have pu6 := Paired.mapP pu fun _ _ z => e46.row z
        refine ⟨_, rfl, D2, _, rfl, .inl (.inl (.inl hD6)), ?_⟩
        rw [natsV_len]
        refine ⟨_, rfl, .inr (.inl ⟨a, _, 0, _, rfl, rfl, g6.sqT t0, atI_nat (j := 0) rfl, _, rfl, .inr (.inl ⟨ra, rs, _, _, rfl, rfl, g6.sqT t1, atI_nat hxs, .inr (.inl ⟨sa, _, 1, _, rfl, rfl, g6.sqT u1, atI_nat (j := 1) rfl, _, _, rfl, rfl, _, rfl, ite2 (fun c => ?_) (fun c => ?_)⟩)⟩)⟩)⟩
        · refine ⟨_, rfl, .inl ⟨rfl, _, .inl (.inl hL6)⟩, _, rfl, _, rfl, _, rfl, D2, _, rfl, .inl (.inl (.inl hD6)), ?_⟩
          rw [natsV_len]
          refine ⟨by show 4 ≤ sizeLine; decide, fun t ht => ?_⟩
          have e7 := Ext.new (ex := []) (o := .tup [.str "full", .int h, .int (j : Int), .int ((onL k pl h j).length : Int)]) ht
          have hL7 := e7.lst L _ (by simp) hL6
          refine ⟨L, _, _, rfl, rfl, hL7, small1000 (by omega), ?_⟩
          refine ⟨_, _, _, rfl, (f4.trans (e46.mono (by simp))).trans ((Ext.new ht).trans (Ext.wr (by simp) hL7)), ?_⟩
          rw [cat_succ, ← List.append_assoc]
          have es : fullR k pl h j = [[f_full, .i h, .i j, .i ((onL k pl h j).length : Int)]] := by
            unfold fullR
            rw [if_pos (by rw [strN_of hst]; exact of_decide_eq_true c)]
          rw [es]
          exact rows_push hL7 (Paired.mapP pu6 fun _ _ z => e7.row z) (isRow_new rfl)
        · refine ⟨_, _, _, rfl, f4.trans (e46.mono (by simp)), ?_⟩
          have es : fullR k pl h j = [] := by
            unfold fullR
            rw [if_neg (fun z => c (by rw [strN_of hst] at z; exact decide_eq_true z))]
          rw [cat_succ, es, List.append_nil]
          exact ⟨us, hL6, pu6⟩
      · obtain ⟨y4, y5, y6, rfl, f4, hl4⟩ := z
        refine ⟨_, _, _, _, rfl, by omega, f2.trans f4, ?_⟩
        rw [flat_take hh]
        rw [lr] at hl4
        exact hl4
    · obtain ⟨y3, y4, y5, y6, rfl, _, f2, hl2⟩ := z
      rw [List.length_map, List.take_length] at hl2
      exact ⟨_, rfl, q _ L (e01.born hL f2) hL hl2⟩

def spLCrossed (K : PySem.W.Frag) : Sp := fun vs H Q _ => ∃ (v u : V) (k : Book) (pl : List (Option Int)), vs = [v, u] ∧ IsBook K H v k ∧ k.Ok ∧ IsPlan K H u pl ∧ PlOk k.bs.length pl ∧ ∀ H' p, Ext [] H H' → H p = none → IsList K H' p (crossA k pl) → Q (.ref p) H'
theorem ok__law_crossed (T : Facts A K mg base) : FnOk P w K mg base CX0 1 A.a__law_crossed A.d__law_crossed ["_law_book_here", "_law_plan"] (spLCrossed K) := by
  refine T.F__law_crossed.ok sc__law_crossed (fun vs H Q E h => ?_) (fun cdv A1 outer s H vs Q E hr h => ?_)
  · obtain ⟨v, u, k, pl, rfl, _⟩ := h
    rfl
  · obtain ⟨v, u, k, pl, rfl, ⟨a, r, bb, rfl, t0, ir, ⟨ba, bs, rfl, t2, pb⟩⟩, ok, ⟨pa, rfl, tp⟩, okp, q⟩ := h
    refine ⟨_, PSs.nox (pss_cons (ps_set (i := 2) sc__law_crossed.nd rfl (Or.inl rfl) (pe_lst pa_nil))
      (pss_cons (ps_for PassesOwn.never rfl (pi_range1 (by rfl) T.n_range (pa_cons (pe_callB call_len_seq (by rfl) T.n_len PySem.boot_len (pa_cons (pv 1) pa_nil)) pa_nil)) (pg_name (i := 3) sc__law_crossed.nd rfl (Or.inl rfl)) (pss_one (ps_for PassesOwn.never rfl (pi_range1 (by rfl) T.n_range (pa_cons (pe_callB call_len_seq (by rfl) T.n_len PySem.boot_len (pa_cons (pv 1) pa_nil)) pa_nil)) (pg_name (i := 4) sc__law_crossed.nd rfl (Or.inl rfl)) (pss_one (ps_if (PW.pt (pw_and (pt_cmpR op_notN (pe_ix ix_seq (pv 1) (pv 3) (fun _ _ => rfl)) pe_non (nomark _)) (pw_and1 (pt_cmpR op_eq (pe_ix ix_seq (pv 1) (pv 3) (fun _ _ => rfl)) (pe_ix ix_seq (pv 1) (pv 4) (fun _ _ => rfl)) (nomark _))))) (pss_cons (ps_set (i := 5) sc__law_crossed.nd rfl (Or.inl rfl) (pe_tup (pa_cons (pe_ix ix_seq (pe_ix ix_seq (pe_ix ix_seq (pv 0) pe_int (fun _ _ => rfl)) (pv 3) (fun _ _ => rfl)) pe_int (fun _ _ => rfl)) (pa_cons (pe_ix ix_seq (pe_ix ix_seq (pe_ix ix_seq (pv 0) pe_int (fun _ _ => rfl)) (pv 4) (fun _ _ => rfl)) pe_int (fun _ _ => rfl)) (pa_cons (pe_ix ix_seq (pe_ix ix_seq (pe_ix ix_seq (pv 0) pe_int (fun _ _ => rfl)) (pv 3) (fun _ _ => rfl)) pe_int (fun _ _ => rfl)) (pa_cons (pe_ix ix_seq (pe_ix ix_seq (pe_ix ix_seq (pv 0) pe_int (fun _ _ => rfl)) (pv 4) (fun _ _ => rfl)) pe_int (fun _ _ => rfl)) pa_nil))))))
      (pss_one (ps_if (GC.pt_ch3 op_lt op_lt op_lt (pe_ix ix_seq (pv 5) pe_int (fun _ _ => rfl)) (pe_ix ix_seq (pv 5) pe_int (fun _ _ => rfl)) (pe_ix ix_seq (pv 5) pe_int (fun _ _ => rfl)) (pe_ix ix_seq (pv 5) pe_int (fun _ _ => rfl))) (pss_one (ps_expr (pe_bm PySem.F.plainAttrs_list PySem.F.slot_list_append PySem.F.type_list_append mt_append (pv 2) (pa_cons (pe_tup (pa_cons pe_str (pa_cons (pv 3) (pa_cons (pv 4) pa_nil)))) pa_nil)))) pss_nil))) pss_nil)))))
      (pss_one (ps_ret (pv 2))))), ?_⟩
    have hz : ∀ i : Nat, (0 : Int) + (i : Int) = (i : Int) := fun i => Int.zero_add _
    have lp := okp.len
    have n7 := ok.n7
    refine ⟨Nat.zero_le _, fun L hL => ?_⟩
    have e0 : Ext [] H (upd H L (.lst [])) := Ext.new hL
    refine ⟨_, rfl, pa, _, rfl, .inr (e0.sqT tp), ((pl.map oV).length : Int), rfl, by rw [List.length_map]; omega, by rw [List.length_map]; omega, for_range (n := (pl.map oV).length) (fun i σ H1 => ∃ y3 y4 y5, σ = [some (.ref a), some (.ref pa), some (.ref L), y3, y4, y5] ∧ Ext [] H H1 ∧ IsList K H1 L (cat (crossR k pl) i))
      ⟨none, none, none, rfl, e0, IsList.new⟩ (fun i σ H1 hi z => ?_) (fun σ H1 z => ?_)⟩
    · rw [List.length_map] at hi
      rw [hz i]
      obtain ⟨y3, y4, y5, rfl, e1, hl1⟩ := z
      obtain ⟨o, ho⟩ : ∃ o, pl[i]? = some o := ⟨pl[i], List.getElem?_eq_getElem hi⟩
      have hoV : (pl.map oV)[i]? = some (oV o) := by rw [List.getElem?_map, ho]; rfl
      have bnd := cat_le (crossR_le k pl (by omega)) i
      refine ⟨_, rfl, pa, _, rfl, .inr (e1.sqT tp), ((pl.map oV).length : Int), rfl, by rw [List.length_map]; omega, by rw [List.length_map]; omega, for_range (n := (pl.map oV).length) (fun j σ H2 => ∃ y4 y5, σ = [some (.ref a), some (.ref pa), some (.ref L), some (.int (i : Int)), y4, y5] ∧ Ext [] H H2 ∧ IsList K H2 L (cat (crossR k pl) i ++ crossF k pl i j))
        ⟨y4, y5, rfl, e1, by rw [crossF_zero, List.append_nil]; exact hl1⟩ (fun j σ H2 hj z => ?_) (fun σ H2 z => ?_)⟩
      · rw [List.length_map] at hj
        rw [hz j]
        obtain ⟨y4, y5, rfl, e2, us, hL2, pu⟩ := z
        obtain ⟨o2, ho2⟩ : ∃ o, pl[j]? = some o := ⟨pl[j], List.getElem?_eq_getElem hj⟩
        have hoV2 : (pl.map oV)[j]? = some (oV o2) := by rw [List.getElem?_map, ho2]; rfl
        have lu := plen pu
        have bu : us.length ≤ 100 := by
          rw [lu, List.length_append]
          have := crossF_le k pl i j
          omega
        refine ⟨_, rfl, _, rfl, .inr (.inl ⟨pa, _, _, _, rfl, rfl, e2.sqT tp, atI_nat hoV, rfl, _, rfl, ?_⟩)⟩
        cases o with
        | none =>
          refine iteNS rfl (iteF ⟨_, _, rfl, e2, ?_⟩)
          rw [crossF_none ho]
          rw [crossF_none ho] at pu
          exact ⟨us, hL2, pu⟩
        | some h =>
          refine iteN (by simp [oV]) ?_
          refine ⟨_, rfl, _, rfl, .inr (.inl ⟨pa, _, _, _, rfl, rfl, e2.sqT tp, atI_nat hoV, _, rfl, _, rfl, .inr (.inl ⟨pa, _, _, _, rfl, rfl, e2.sqT tp, atI_nat hoV2, scal_oo _ _, _, rfl, ?_⟩)⟩)⟩
          by_cases c : o2 = some h
          · subst c
            rw [decide_eq_true (show oV (some h) = oV (some h) from rfl)]
            refine iteT ?_
            obtain ⟨b1, hb1⟩ : ∃ bb, k.bs[i]? = some bb := ⟨k.bs[i], List.getElem?_eq_getElem (by omega)⟩
            obtain ⟨x1, hx1, xa1, rfl, tx1⟩ := pgetR pb hb1
            obtain ⟨b2, hb2⟩ : ∃ bb, k.bs[j]? = some bb := ⟨k.bs[j], List.getElem?_eq_getElem (by omega)⟩
            obtain ⟨x2, hx2, xa2, rfl, tx2⟩ := pgetR pb hb2
            have d0 := e2.sqT t0
            have d2 := e2.sqT t2
            refine ⟨_, rfl, .inr (.inl ⟨a, _, 1, _, rfl, rfl, d0, atI_nat (j := 1) rfl, _, rfl, .inr (.inl ⟨ba, bs, _, _, rfl, rfl, d2, atI_nat hx1, .inr (.inl ⟨xa1, _, 0, _, rfl, rfl, e2.sqT tx1, atI_nat (j := 0) rfl, ?_⟩)⟩)⟩)⟩
            refine ⟨_, rfl, .inr (.inl ⟨a, _, 1, _, rfl, rfl, d0, atI_nat (j := 1) rfl, _, rfl, .inr (.inl ⟨ba, bs, _, _, rfl, rfl, d2, atI_nat hx2, .inr (.inl ⟨xa2, _, 0, _, rfl, rfl, e2.sqT tx2, atI_nat (j := 0) rfl, ?_⟩)⟩)⟩)⟩
            refine ⟨_, rfl, .inr (.inl ⟨a, _, 1, _, rfl, rfl, d0, atI_nat (j := 1) rfl, _, rfl, .inr (.inl ⟨ba, bs, _, _, rfl, rfl, d2, atI_nat hx1, .inr (.inl ⟨xa1, _, 1, _, rfl, rfl, e2.sqT tx1, atI_nat (j := 1) rfl, ?_⟩)⟩)⟩)⟩
            refine ⟨_, rfl, .inr (.inl ⟨a, _, 1, _, rfl, rfl, d0, atI_nat (j := 1) rfl, _, rfl, .inr (.inl ⟨ba, bs, _, _, rfl, rfl, d2, atI_nat hx2, .inr (.inl ⟨xa2, _, 1, _, rfl, rfl, e2.sqT tx2, atI_nat (j := 1) rfl, ?_⟩)⟩)⟩)⟩
            refine ⟨by show 4 ≤ sizeLine; decide, fun E0 hE0 => ?_⟩
            have eE : Ext [] H2 (upd H2 E0 (.tup [.int b1.b, .int b2.b, .int b1.g, .int b2.g])) := Ext.new hE0
            have tE : SqT K (upd H2 E0 (.tup [.int b1.b, .int b2.b, .int b1.g, .int b2.g])) E0 [.int b1.b, .int b2.b, .int b1.g, .int b2.g] := sqT_new
            have hL3 := eE.lst L _ (by simp) hL2
            have no : ¬ crossed b1 b2 → IsList K (upd H2 E0 (.tup [.int b1.b, .int b2.b, .int b1.g, .int b2.g])) L (cat (crossR k pl) i ++ crossF k pl i (j + 1)) := fun nc => by
              rw [crossF_some ho ho2, if_pos rfl, crossO_of hb1 hb2, if_neg nc, List.append_nil]
              exact ⟨us, hL3, Paired.mapP pu fun _ _ z => eE.row z⟩
            refine ⟨_, rfl, .inr (.inl ⟨E0, _, 0, _, rfl, rfl, tE, atI_nat (j := 0) rfl, _, rfl, .inr (.inl ⟨E0, _, 1, _, rfl, rfl, tE, atI_nat (j := 1) rfl, ?_⟩)⟩)⟩
            refine ⟨_, _, rfl, rfl, _, rfl, ite2 (fun c1 => ?_) (fun c1 => ?_)⟩
            · refine ⟨_, rfl, .inr (.inl ⟨E0, _, 2, _, rfl, rfl, tE, atI_nat (j := 2) rfl, _, _, rfl, rfl, _, rfl, ite2 (fun c2 => ?_) (fun c2 => ?_)⟩)⟩
              · refine ⟨_, rfl, .inr (.inl ⟨E0, _, 3, _, rfl, rfl, tE, atI_nat (j := 3) rfl, _, _, rfl, rfl, _, rfl, ite2 (fun c3 => ?_) (fun c3 => ?_)⟩)⟩
                · refine ⟨_, rfl, .inl ⟨rfl, _, .inl (.inl hL3)⟩, _, rfl, _, rfl, by show 3 ≤ sizeLine; decide, fun t ht => ?_⟩
                  have e7 := Ext.new (ex := []) (o := .tup [.str "crossed", .int (i : Int), .int (j : Int)]) ht
                  have hL7 := e7.lst L _ (by simp) hL3
                  refine ⟨L, _, _, rfl, rfl, hL7, small1000 (by omega), ?_⟩
                  refine ⟨_, _, rfl, (e2.trans (eE.trans e7)).wrNew hL, ?_⟩
                  rw [crossF_some ho ho2, if_pos rfl, crossO_of hb1 hb2, if_pos (show crossed b1 b2 from ⟨of_decide_eq_true c1, of_decide_eq_true c2, of_decide_eq_true c3⟩), ← List.append_assoc]
                  exact rows_push hL7 (Paired.mapP pu fun _ _ z => (eE.trans e7).row z) (isRow_new rfl)
                · exact ⟨_, _, rfl, e2.trans eE, no fun z => c3 (decide_eq_true z.2.2)⟩
              · exact ⟨_, rfl, iteF ⟨_, _, rfl, e2.trans eE, no fun z => c2 (decide_eq_true z.2.1)⟩⟩
            · exact ⟨_, rfl, iteF ⟨_, _, rfl, e2.trans eE, no fun z => c1 (decide_eq_true z.1)⟩⟩
          · rw [decide_eq_false (fun z => c (oV_eq.mp z).symm)]
            refine iteF ⟨_, _, rfl, e2, ?_⟩
            rw [crossF_some ho ho2, if_neg c, List.append_nil]
            exact ⟨us, hL2, pu⟩
      · obtain ⟨y4, y5, rfl, e2, hl2⟩ := z
        rw [List.length_map] at hl2
        refine ⟨_, _, _, rfl, e2, ?_⟩
        rw [cat_succ, crossF_all]
        exact hl2
    · obtain ⟨y3, y4, y5, rfl, e1, hl⟩ := z
      rw [List.length_map] at hl
      exact ⟨_, rfl, q _ L e1 hL hl⟩

def spLRefusals (K : PySem.W.Frag) : Sp := fun vs H Q _ => ∃ (v u : V) (k : Book) (pl : List (Option Int)), vs = [v, u] ∧ IsBook K H v k ∧ k.Ok ∧ IsPlan K H u pl ∧ PlOk k.bs.length pl ∧ ∀ H' p, Ext [] H H' → H p = none → IsList K H' p (allR k pl) → Q (.ref p) H'
theorem ok__law_refusals (T : Facts A K mg base) : FnOk P w K mg base CX0 3 A.a__law_refusals A.d__law_refusals ["_law_book_here", "_law_plan"] (spLRefusals K) := by
  refine T.F__law_refusals.ok sc__law_refusals (fun vs H Q E h => ?_) (fun cdv A1 outer s H vs Q E hr h => ?_)
  · obtain ⟨v, u, k, pl, rfl, _⟩ := h
    rfl
  · obtain ⟨v, u, k, pl, rfl, ib, ok, ⟨pa, rfl, tp⟩, okp, q⟩ := h
    refine ⟨_, PSs.nox (pss_cons (ps_set (i := 2) sc__law_refusals.nd rfl (Or.inl rfl) (pe_lst pa_nil))
      (pss_cons (ps_for PassesOwn.never rfl (pi_range1 (by rfl) T.n_range (pa_cons (pe_callB call_len_seq (by rfl) T.n_len PySem.boot_len (pa_cons (pv 1) pa_nil)) pa_nil)) (pg_name (i := 3) sc__law_refusals.nd rfl (Or.inl rfl)) (pss_one (ps_if (pt_cmpR op_notN (pe_ix ix_seq (pv 1) (pv 3) (fun _ _ => rfl)) pe_non (nomark _)) (pss_one (ps_set (i := 2) sc__law_refusals.nd rfl (Or.inl rfl) (pe_op op_cat (pv 2) (pe_call (ok__law_alone T) (hr.mono (by decide)) (by rfl) T.g__law_alone T.F__law_alone.kp T.b__law_alone .nil pass0 (pa_cons (pv 0) (pa_cons (pv 3) (pa_cons (pe_ix ix_seq (pv 1) (pv 3) (fun _ _ => rfl)) pa_nil))))))) pss_nil)))
      (pss_one (ps_ret (pe_op op_cat (pe_op op_cat (pv 2) (pe_call (ok__law_full T) (hr.mono (by decide)) (by rfl) T.g__law_full T.F__law_full.kp T.b__law_full .nil pass0 (pa_cons (pv 0) (pa_cons (pv 1) pa_nil)))) (pe_call (ok__law_crossed T) (hr.mono (by decide)) (by rfl) T.g__law_crossed T.F__law_crossed.kp T.b__law_crossed .nil pass0 (pa_cons (pv 0) (pa_cons (pv 1) pa_nil)))))))), ?_⟩
    have hz : ∀ i : Nat, (0 : Int) + (i : Int) = (i : Int) := fun i => Int.zero_add _
    have lp := okp.len
    have n7 := ok.n7
    have b1 := bargesA_le ok pl (by omega)
    have b2 := fullA_le ok pl
    have b3 := crossA_le (k := k) pl (by omega)
    refine ⟨Nat.zero_le _, fun L hL => ?_⟩
    have e0 : Ext [] H (upd H L (.lst [])) := Ext.new hL
    refine ⟨_, rfl, pa, _, rfl, .inr (e0.sqT tp), ((pl.map oV).length : Int), rfl, by rw [List.length_map]; omega, by rw [List.length_map]; omega, for_range (n := (pl.map oV).length) (fun i σ H1 => ∃ O y3, σ = [some v, some (.ref pa), some (.ref O), y3] ∧ Ext [] H H1 ∧ IsList K H1 O (cat (bargeR k pl) i))
      ⟨L, none, rfl, e0, IsList.new⟩ (fun i σ H1 hi z => ?_) (fun σ H1 z => ?_)⟩
    · rw [List.length_map] at hi
      rw [hz i]
      obtain ⟨O, y3, rfl, e1, us, hO1, pu⟩ := z
      obtain ⟨o, ho⟩ : ∃ o, pl[i]? = some o := ⟨pl[i], List.getElem?_eq_getElem hi⟩
      have hoV : (pl.map oV)[i]? = some (oV o) := by rw [List.getElem?_map, ho]; rfl
      refine ⟨_, rfl, _, rfl, .inr (.inl ⟨pa, _, _, _, rfl, rfl, e1.sqT tp, atI_nat hoV, rfl, _, rfl, ?_⟩)⟩
      cases o with
      | none =>
        refine iteNS rfl ⟨O, _, rfl, e1, ?_⟩
        rw [cat_succ, bargeR_none ho, List.append_nil]
        exact ⟨us, hO1, pu⟩
      | some h =>
        obtain ⟨bb, hbb⟩ : ∃ bb, k.bs[i]? = some bb := ⟨k.bs[i], List.getElem?_eq_getElem (by omega)⟩
        refine iteN (by simp [oV]) ?_
        refine ⟨_, rfl, _, rfl, _, rfl, _, rfl, _, rfl, .inr (.inl ⟨pa, _, _, _, rfl, rfl, e1.sqT tp, atI_nat hoV, _, k, i, bb, h, rfl, e1.book ib, ok, hbb, fun H2 W e2 hW hlw => ?_⟩)⟩
        obtain ⟨ws, hW2, pw⟩ := hlw
        have hO2 := e2.lst O _ (by simp) hO1
        have lu := plen pu
        have lw := plen pw
        have c1 := cat_le (bargeR_le ok pl) i
        have c2 := aloneR_le (ok.ok bb (List.mem_of_getElem? hbb)) ok.rv.n8 i h
        refine ⟨O, W, _, _, rfl, rfl, hO2, hW2, Nat.le_of_lt (small1000 (by omega)), fun p hp => ?_⟩
        refine ⟨p, _, rfl, e1.trans (e2.trans (Ext.new hp)), ?_⟩
        rw [cat_succ, bargeR_some ho hbb]
        exact rows_new hp (Paired.mapP pu fun _ _ z => e2.row z) pw
    · obtain ⟨O, y3, rfl, e1, us, hO1, pu⟩ := z
      rw [List.length_map] at pu
      have lu := plen pu
      have pu' : Paired (IsRow K H1) us (bargesA k pl) := pu
      have lu' := plen pu'
      refine ⟨_, rfl, _, rfl, _, rfl, _, _, k, pl, rfl, e1.book ib, ok, ⟨pa, rfl, e1.sqT tp⟩, okp, fun H2 p2 e2 hp2 ⟨ws, h2, v2⟩ => ?_⟩
      have hO2 := e2.lst O _ (by simp) hO1
      have v12 := Paired.mapP pu' fun _ _ z => e2.row z
      have l2 := plen v2
      refine ⟨O, p2, _, _, rfl, rfl, hO2, h2, Nat.le_of_lt (small1000 (by omega)), fun p3 hp3 => ?_⟩
      have r3 := rows_new hp3 v12 v2
      have e3 : Ext [] H2 (upd H2 p3 (.lst (us ++ ws))) := Ext.new hp3
      have f3 := e1.trans (e2.trans e3)
      refine ⟨_, rfl, _, rfl, _, _, k, pl, rfl, f3.book ib, ok, ⟨pa, rfl, f3.sqT tp⟩, okp, fun H4 p4 e4 hp4 ⟨xs, h4, v4⟩ => ?_⟩
      obtain ⟨ys, h34, v34⟩ := e4.rows (by simp) r3
      have l3 := plen v34
      have l4 := plen v4
      rw [List.length_append] at l3
      refine ⟨p3, p4, _, _, rfl, rfl, h34, h4, Nat.le_of_lt (small1000 (by omega)), fun p5 hp5 => ?_⟩
      have f4 := f3.trans e4
      exact q _ p5 (f4.trans (Ext.new hp5)) (f4.dom p5 hp5) (rows_new hp5 v34 v4)

def spLPrice (K : PySem.W.Frag) : Sp := fun vs H Q _ => ∃ (v u : V) (k : Book) (pl : List (Option Int)), vs = [v, u] ∧ IsBook K H v k ∧ k.Ok ∧ IsPlan K H u pl ∧ PlOk k.bs.length pl ∧
  ∀ H' p, Ext [] H H' → SqT K H' p [.int ((hoursL pl).length : Int), .int (waitsN k pl pl.length).sum] → Q (.ref p) H'
theorem ok__law_price (T : Facts A K mg base) : FnOk P w K mg base CX0 2 A.a__law_price A.d__law_price ["_law_book_here", "_law_plan"] (spLPrice K) := by
  refine T.F__law_price.ok sc__law_price (fun vs H Q E h => ?_) (fun cdv A1 outer s H vs Q E hr h => ?_)
  · obtain ⟨v, u, k, pl, rfl, _⟩ := h
    rfl
  · obtain ⟨v, u, k, pl, rfl, ⟨a, r, b, rfl, t0, ir, ⟨ba, bs, rfl, t2, pb⟩⟩, ok, ⟨pa, rfl, tp⟩, okp, q⟩ := h
    refine ⟨_, PSs.nox (pss_cons (ps_set (i := 2) sc__law_price.nd rfl (Or.inl rfl) pe_int)
      (pss_cons (ps_for PassesOwn.never rfl (pi_range1 (by rfl) T.n_range (pa_cons (pe_callB call_len_seq (by rfl) T.n_len PySem.boot_len (pa_cons (pv 1) pa_nil)) pa_nil)) (pg_name (i := 3) sc__law_price.nd rfl (Or.inl rfl)) (pss_one (ps_if (pt_cmpR op_notN (pe_ix ix_seq (pv 1) (pv 3) (fun _ _ => rfl)) pe_non (nomark _)) (pss_one (ps_set (i := 2) sc__law_price.nd rfl (Or.inl rfl) (pe_op op_sub (pe_op op_add (pv 2) (pe_call (ok__law_time T) (hr.mono (by decide)) (by rfl) T.g__law_time T.F__law_time.kp T.b__law_time .nil pass0 (pa_cons (pe_ix ix_seq (pv 0) pe_int (fun _ _ => rfl)) (pa_cons (pe_ix ix_seq (pe_ix ix_seq (pe_ix ix_seq (pv 0) pe_int (fun _ _ => rfl)) (pv 3) (fun _ _ => rfl)) pe_int (fun _ _ => rfl)) (pa_cons (pe_ix ix_seq (pv 1) (pv 3) (fun _ _ => rfl)) pa_nil))))) (pe_ix ix_seq (pe_ix ix_seq (pe_ix ix_seq (pv 0) pe_int (fun _ _ => rfl)) (pv 3) (fun _ _ => rfl)) pe_int (fun _ _ => rfl))))) pss_nil)))
      (pss_one (ps_ret (pe_tup (pa_cons (pe_callB call_len_seq (by rfl) T.n_len PySem.boot_len (pa_cons (pe_call (ok__law_hours T) (hr.mono (by decide)) (by rfl) T.g__law_hours T.F__law_hours.kp T.b__law_hours .nil pass0 (pa_cons (pv 1) pa_nil)) pa_nil)) (pa_cons (pv 2) pa_nil))))))), ?_⟩
    have lp := okp.len
    have n7 := ok.n7
    have l2 := plen pb
    have hz : ∀ i : Nat, (0 : Int) + (i : Int) = (i : Int) := fun i => Int.zero_add _
    refine ⟨_, rfl, pa, _, rfl, .inr tp, ((pl.map oV).length : Int), rfl, by rw [List.length_map]; omega, by rw [List.length_map]; omega, for_range (n := (pl.map oV).length) (fun i σ H1 => ∃ y3, σ = [some (.ref a), some (.ref pa), some (.int (waitsN k pl i).sum), y3] ∧ Ext [] H H1 ∧ i ≤ pl.length)
      ⟨none, rfl, Ext.refl, Nat.zero_le _⟩ ?_ ?_⟩
    · rintro i σ H1 hi ⟨y3, rfl, e1, _⟩
      rw [List.length_map] at hi
      rw [hz i]
      obtain ⟨o, ho⟩ : ∃ o, pl[i]? = some o := ⟨pl[i], List.getElem?_eq_getElem hi⟩
      have hoV : (pl.map oV)[i]? = some (oV o) := by rw [List.getElem?_map, ho]; rfl
      refine ⟨_, rfl, _, rfl, .inr (.inl ⟨pa, _, _, _, rfl, rfl, e1.sqT tp, atI_nat hoV, rfl, _, rfl, ?_⟩)⟩
      cases o with
      | none =>
        refine iteNS rfl ⟨some (.int (i : Int)), ?_, e1, by omega⟩
        rw [waitsN_succ, getD_of ho, waitOf_none, List.append_nil]
        rfl
      | some h =>
        obtain ⟨bb, hbb⟩ : ∃ bb, k.bs[i]? = some bb := ⟨k.bs[i], List.getElem?_eq_getElem (by omega)⟩
        obtain ⟨x, hx2, ibb⟩ := pgetR pb hbb
        obtain ⟨xa, rfl, tx⟩ := e1.barge ibb
        have okb := ok.ok bb (List.mem_of_getElem? hbb)
        refine iteN (by simp [oV]) ?_
        refine ⟨_, rfl, _, rfl, .inr (.inl ⟨a, _, 0, _, rfl, rfl, e1.sqT t0, atI_nat (j := 0) rfl, ?_⟩)⟩
        refine ⟨_, rfl, .inr (.inl ⟨a, _, 1, _, rfl, rfl, e1.sqT t0, atI_nat (j := 1) rfl, _, rfl, .inr (.inl ⟨ba, bs, _, _, rfl, rfl, e1.sqT t2, atI_nat hx2, .inr (.inl ⟨xa, _, 0, _, rfl, rfl, tx, atI_nat (j := 0) rfl, ?_⟩)⟩)⟩)⟩
        refine ⟨_, rfl, _, rfl, .inr (.inl ⟨pa, _, _, _, rfl, rfl, e1.sqT tp, atI_nat hoV, _, k.rv, bb.b.toNat, h, by rw [Int.toNat_of_nonneg okb.b0]; rfl, e1.river ir, ok.rv, fun H2 e2 => ⟨_, _, rfl, rfl, ?_⟩⟩)⟩
        have f2 := e1.trans e2
        refine ⟨_, rfl, .inr (.inl ⟨a, _, 1, _, rfl, rfl, f2.sqT t0, atI_nat (j := 1) rfl, _, rfl, .inr (.inl ⟨ba, bs, _, _, rfl, rfl, f2.sqT t2, atI_nat hx2, .inr (.inl ⟨xa, _, 3, _, rfl, rfl, e2.sqT tx, atI_nat (j := 3) rfl, _, _, rfl, rfl, ?_⟩)⟩)⟩)⟩
        refine ⟨some (.int (i : Int)), ?_, f2, by omega⟩
        rw [waitsN_succ, getD_of ho, waitOf_some hbb, List.sum_append]
        have e : (waitsN k pl i).sum + (h + hsum k.rv bb.b.toNat) - bb.r = (waitsN k pl i).sum + [h + hsum k.rv bb.b.toNat - bb.r].sum := by simp; omega
        rw [← e]
        rfl
    · rintro σ H1 ⟨y3, rfl, e1, _⟩
      rw [List.length_map]
      refine ⟨_, rfl, _, k.bs.length, pl, rfl, ⟨pa, rfl, e1.sqT tp⟩, okp, fun H4 hp e4 hnp hHp => ?_⟩
      refine ⟨hp, _, rfl, .inl (.inl (.inl hHp)), ?_⟩
      refine ⟨_, rfl, by show 2 ≤ sizeLine; decide, fun t ht => ?_⟩
      have z := sqT_new (K := K) (H := H4) (p := t) (xs := [.int (((hoursL pl).map V.int).length : Int), .int (waitsN k pl pl.length).sum])
      rw [List.length_map] at z ⊢
      exact q _ t (e1.trans (e4.trans (Ext.new ht))) z

def spPut (K : PySem.W.Frag) : Sp := fun vs H Q _ => ∃ (u : V) (pl : List (Option Int)) (i : Nat) (h : Int), vs = [u, .int (i : Int), .int h] ∧ IsPlan K H u pl ∧ i < pl.length ∧ pl.length ≤ 7 ∧ ∀ H' v, Ext [] H H' → IsPlan K H' v (putP pl i h) → Q v H'
theorem ok__law_put (T : Facts A K mg base) : FnOk P w K mg base CX0 1 A.a__law_put A.d__law_put ["_law_plan", "_law_k", "_law_hour"] (spPut K) := by
  refine T.F__law_put.ok sc__law_put (fun vs H Q E h => ?_) (fun cdv A1 outer s H vs Q E hr h => ?_)
  · obtain ⟨u, pl, i, h, rfl, _⟩ := h
    rfl
  · obtain ⟨u, pl, i, h, rfl, ⟨pa, rfl, tp⟩, hi, n7, q⟩ := h
    refine ⟨_, PSs.nox (pss_one (ps_ret (pe_op op_catA (pe_op op_catA (pe_slice GX.sl_tupA (pv 0) po_none (po_some (pv 1))) (pe_tup (pa_cons (pv 2) pa_nil))) (pe_slice GX.sl_tupA (pv 0) (po_some (pe_op op_add (pv 1) pe_int)) po_none)))), ?_⟩
    refine ⟨.ref pa, rfl, .int (i : Int), rfl, (i : Int), rfl, slTA_any tp (fun c1 H1 e1 t1 => ?_)⟩
    rw [cut_take] at t1
    refine ⟨_, rfl, by show 1 ≤ sizeLine; decide, fun t ht => ?_⟩
    have e2 : Ext [] H1 (upd H1 t (.tup [.int h])) := Ext.new ht
    refine catA_any (e2.sqT t1) sqT_new (by rw [List.length_take, List.length_map]; simp; omega) (fun c2 H2 e3 t2 => ?_)
    have f2 := e1.trans (e2.trans e3)
    refine ⟨.ref pa, rfl, _, rfl, _, _, rfl, rfl, ((i + 1 : Nat) : Int), by rw [show ((i + 1 : Nat) : Int) = (i : Int) + 1 by omega], ?_⟩
    unfold tNoPart
    dsimp only
    refine slTA_any (K := K) (lo := some ((i + 1 : Nat) : Int)) (hi := none) (f2.sqT tp) (fun c3 H3 e4 t3 => ?_)
    rw [cut_drop _ _ (by rw [List.length_map]; omega)] at t3
    refine catA_any (e4.sqT t2) t3 (by simp only [List.length_append, List.length_take, List.length_drop, List.length_map, List.length_singleton]; omega) (fun c4 H4 e5 t4 => ?_)
    refine q H4 (.ref c4) (f2.trans (e4.trans e5)) ⟨c4, rfl, ?_⟩
    have e : (putP pl i h).map oV = (pl.map oV).take i ++ [V.int h] ++ (pl.map oV).drop (i + 1) := by
      unfold putP
      rw [List.map_append, List.map_append, List.map_take, List.map_drop]
      rfl
    rw [e]
    exact t4

def spGood (K : PySem.W.Frag) : Sp := fun vs H Q _ => ∃ (D : Addr) (v : V) (k : Book) (le re : Int), vs = [.ref D, v, .int le, .int re] ∧ DiceAt H D ∧ IsBook K H v k ∧ k.Ok ∧ ∀ (u : V) (pl : List (Option Int)) (H' : Hp), PlOk k.bs.length pl → Ext [D] H H' → DiceAt H' D → IsPlan K H' u pl → allR k pl = [] → Q u H'
theorem ok__law_good (T : Facts A K mg base) : FnOk P w K mg base CX0 4 A.a__law_good A.d__law_good ["_law_dice_here", "_law_book_here", "_law_least", "_law_rest"] (spGood K) := by
  refine T.F__law_good.ok sc__law_good (fun vs H Q E h => ?_) (fun cdv A1 outer s H vs Q E hr h => ?_)
  · obtain ⟨D, v, k, le, re, rfl, _⟩ := h
    rfl
  · obtain ⟨D, v, k, le, re, rfl, dD, ib, ok, q⟩ := h
    refine ⟨_, PSs.nox (pss_cons (ps_set (i := 4) sc__law_good.nd rfl (Or.inl rfl) (pe_op GT.op_repTA (pe_tup (pa_cons pe_non pa_nil)) (pe_callB call_len_seq (by rfl) T.n_len PySem.boot_len (pa_cons (pe_ix ix_seq (pv 1) pe_int (fun _ _ => rfl)) pa_nil))))
      (pss_cons (ps_for PassesOwn.never rfl (pi_range1 (by rfl) T.n_range (pa_cons (pe_callB call_len_seq (by rfl) T.n_len PySem.boot_len (pa_cons (pv 4) pa_nil)) pa_nil)) (pg_name (i := 5) sc__law_good.nd rfl (Or.inl rfl)) (pss_cons (ps_set (i := 6) sc__law_good.nd rfl (Or.inl rfl) (pe_call (ok__law_roll T) (hr.mono (by decide)) (by rfl) T.g__law_roll T.F__law_roll.kp T.b__law_roll .nil pass0 (pa_cons (pv 0) (pa_cons pe_int pa_nil))))
      (pss_one (ps_if (pt_cmpR op_ge (pe_call (ok__law_roll T) (hr.mono (by decide)) (by rfl) T.g__law_roll T.F__law_roll.kp T.b__law_roll .nil pass0 (pa_cons (pv 0) (pa_cons pe_int pa_nil))) (pv 3) (nomark _)) (pss_one (ps_for PassesOwn.never rfl (pi_range1 (by rfl) T.n_range (pa_cons pe_int pa_nil)) (pg_name (i := 7) sc__law_good.nd rfl (Or.inl rfl)) (pss_cons (ps_set (i := 8) sc__law_good.nd rfl (Or.inl rfl) (pe_op op_modN (pe_op op_add (pv 6) (pv 7)) pe_int))
      (pss_one (ps_if (PW.pt (pw_and (pt_cmpR op_isN (pe_ix ix_seq (pv 4) (pv 5) (fun _ _ => rfl)) pe_non (nomark _)) (pw_and (pt_cmpR op_ge (pv 8) (pv 2) (nomark _)) (pw_and1 (pt_cmpR (op_eqD hr.units) (pe_call (ok__law_refusals T) (hr.mono (by decide)) (by rfl) T.g__law_refusals T.F__law_refusals.kp T.b__law_refusals .nil pass0 (pa_cons (pv 1) (pa_cons (pe_call (ok__law_put T) (hr.mono (by decide)) (by rfl) T.g__law_put T.F__law_put.kp T.b__law_put .nil pass0 (pa_cons (pv 4) (pa_cons (pv 5) (pa_cons (pv 8) pa_nil)))) pa_nil))) (pe_lst pa_nil) (nomark _)))))) (pss_one (ps_set (i := 4) sc__law_good.nd rfl (Or.inl rfl) (pe_call (ok__law_put T) (hr.mono (by decide)) (by rfl) T.g__law_put T.F__law_put.kp T.b__law_put .nil pass0 (pa_cons (pv 4) (pa_cons (pv 5) (pa_cons (pv 8) pa_nil)))))) pss_nil))))) pss_nil))))
      (pss_one (ps_ret (pv 4))))), ?_⟩
    obtain ⟨a, r, bb, rfl, t0, ir, ⟨ba, bs, rfl, t2, pb⟩⟩ := id ib
    have hz : ∀ i : Nat, (0 : Int) + (i : Int) = (i : Int) := fun i => Int.zero_add _
    have l2 := plen pb
    have n7 := ok.n7
    refine ⟨by show 1 ≤ sizeLine; decide, fun t ht => ?_⟩
    have eT := Ext.new (ex := []) (o := .tup [.non]) ht
    refine ⟨_, rfl, .inr (.inl ⟨a, _, 1, _, rfl, rfl, eT.sqT t0, atI_nat (j := 1) rfl, ba, bs, rfl, .inr (eT.sqT t2), ?_⟩)⟩
    refine repNone_any sqT_new (by omega) (fun c H1 e1 t1 => ?_)
    have ex1 : Ext [D] H H1 := (Ext.new ht).trans (e1.mono (by simp))
    have dT : DiceAt H1 D := e1.dice (by simp) (eT.dice (by simp) dD)
    refine ⟨_, rfl, c, _, rfl, .inr t1, (((List.replicate bs.length (none : Option Int)).map oV).length : Int), rfl, by rw [List.length_map, List.length_replicate]; omega, by rw [List.length_map, List.length_replicate]; omega, for_range (n := ((List.replicate bs.length (none : Option Int)).map oV).length) (fun i σ H2 => ∃ u pl y5 y6 y7 y8, σ = [some (.ref D), some (.ref a), some (.int le), some (.int re), some u, y5, y6, y7, y8] ∧ Ext [D] H H2 ∧ DiceAt H2 D ∧ IsPlan K H2 u pl ∧ PlOk k.bs.length pl ∧ allR k pl = [])
      ⟨.ref c, List.replicate bs.length none, none, none, none, none, rfl, ex1, dT, ⟨c, rfl, t1⟩, ⟨by simp [l2], fun h hh => absurd hh (by simp)⟩, allR_open k _⟩ ?_ ?_⟩
    · rintro i σ H2 hi ⟨u, pl, y5, y6, y7, y8, rfl, e2, d2, ip, okp, gd⟩
      rw [List.length_map, List.length_replicate] at hi
      rw [hz i]
      refine ⟨_, rfl, D, 12, rfl, d2, by omega, by omega, fun w1 H3 w10 w11 e3 d3 => ?_⟩
      refine ⟨_, rfl, D, 9, rfl, d3, by omega, by omega, fun w2 H4 w20 w21 e4 d4 => ?_⟩
      have f4 : Ext [D] H H4 := e2.trans (e3.trans e4)
      have ip4 := (e3.trans e4).plan ip
      refine ⟨_, rfl, _, _, rfl, rfl, _, rfl, ite2 (fun c1 => ?_) (fun c1 => ?_)⟩
      · refine ⟨12, rfl, by omega, by omega, for_range (n := 12) (fun j σ H5 => ∃ u pl y7 y8, σ = [some (.ref D), some (.ref a), some (.int le), some (.int re), some u, some (.int (i : Int)), some (.int w1), y7, y8] ∧ Ext [D] H H5 ∧ DiceAt H5 D ∧ IsPlan K H5 u pl ∧ PlOk k.bs.length pl ∧ allR k pl = [])
          ⟨u, pl, y7, y8, rfl, f4, d4, ip4, okp, gd⟩ ?_ ?_⟩
        · rintro j σ H5 hj ⟨u, pl, y7, y8, rfl, e5, d5, ⟨pa, rfl, tp⟩, okp, gd⟩
          have lp := okp.len
          refine ⟨_, rfl, _, rfl, _, _, rfl, rfl, _, _, rfl, rfl, by show (12 : Int) ≠ 0; decide, ?_⟩
          have hm0 : 0 ≤ (w1 + (0 + (j : Int))).fmod 12 := Int.fmod_nonneg_of_pos _ (by decide)
          have hm1 : (w1 + (0 + (j : Int))).fmod 12 < 12 := Int.fmod_lt_of_pos _ (by decide)
          obtain ⟨hh, ehh⟩ : ∃ hh : Int, hh = (w1 + (0 + (j : Int))).fmod 12 := ⟨_, rfl⟩
          rw [← ehh] at hm0 hm1
          obtain ⟨o, ho⟩ : ∃ o, pl[i]? = some o := ⟨pl[i]'(by omega), List.getElem?_eq_getElem (by omega)⟩
          have hoV : (pl.map oV)[i]? = some (oV o) := by rw [List.getElem?_map, ho]; rfl
          refine ⟨_, rfl, _, rfl, .inr (.inl ⟨pa, _, _, _, rfl, rfl, tp, atI_nat hoV, rfl, _, rfl, ite2 (fun c2 => ?_) (fun c2 => ?_)⟩)⟩
          · refine ⟨_, rfl, _, rfl, _, _, rfl, rfl, _, rfl, ite2 (fun c3 => ?_) (fun c3 => ?_)⟩
            · refine ⟨_, rfl, _, rfl, _, rfl, _, rfl, _, pl, i, hh, by rw [ehh]; rfl, ⟨pa, rfl, tp⟩, by omega, by omega, fun H6 u2 e6 ip2 => ?_⟩
              have ok2 := putP_ok okp (i := i) (h := hh) (by omega) hm0 (by omega)
              have f6 : Ext [D] H H6 := e5.trans (e6.mono (by simp))
              refine ⟨_, _, k, putP pl i hh, rfl, f6.book ib, ok, ip2, ok2, fun H7 p7 e7 hp7 hl7 => ?_⟩
              refine ⟨Nat.zero_le _, fun E0 hE0 => ⟨_, _, ((Ext.new (ex := []) hE0).rows (by simp) hl7).dp, .lst (.inl (.inl upd_same)) .nil, shaped_rows _, rfl, _, rfl, ?_⟩⟩
              have e8 : Ext [] H7 (upd H7 E0 (.lst [])) := Ext.new hE0
              have f8 : Ext [D] H (upd H7 E0 (.lst [])) := f6.trans ((e7.trans e8).mono (by simp))
              have d8 := (e6.trans (e7.trans e8)).dice (by simp) d5
              refine ite2 (fun c4 => ?_) (fun c4 => ?_)
              · refine ⟨_, rfl, _, rfl, _, rfl, _, pl, i, hh, by rw [ehh]; rfl, ⟨pa, rfl, (e6.trans (e7.trans e8)).sqT tp⟩, by omega, by omega, fun H9 u9 e9 ip9 => ?_⟩
                exact ⟨u9, putP pl i hh, _, _, rfl, f8.trans (e9.mono (by simp)), e9.dice (by simp) d8, ip9, ok2, eqv_nil c4⟩
              · exact ⟨.ref pa, pl, _, _, rfl, f8, d8, ⟨pa, rfl, (e6.trans (e7.trans e8)).sqT tp⟩, okp, gd⟩
            · exact iteF ⟨.ref pa, pl, _, _, rfl, e5, d5, ⟨pa, rfl, tp⟩, okp, gd⟩
          · exact iteF ⟨.ref pa, pl, _, _, rfl, e5, d5, ⟨pa, rfl, tp⟩, okp, gd⟩
        · rintro σ H5 ⟨u, pl, y7, y8, rfl, e5, d5, ip, okp, gd⟩
          exact ⟨u, pl, _, _, _, _, rfl, e5, d5, ip, okp, gd⟩
      · exact ⟨u, pl, _, _, _, _, rfl, f4, d4, ip4, okp, gd⟩
    · rintro σ H2 ⟨u, pl, y5, y6, y7, y8, rfl, e2, d2, ip, okp, gd⟩
      exact ⟨_, rfl, q u pl H2 okp e2 d2 ip gd⟩

def spEvery (K : PySem.W.Frag) : Sp := fun vs H Q _ => ∃ (v u : V) (k : Book) (now : Int) (st : List (Option Int)), vs = [v, u, .int now] ∧ IsBook K H v k ∧ k.Ok ∧ IsPlan K H u st ∧ PlOk k.bs.length st ∧ allR k st = [] ∧ k.bs.length ≤ 6 ∧ (0 ≤ now ∧ now ≤ 12) ∧
  ∀ H' p, Ext [] H H' → H p = none → IsPlans K H' p (everyN k now st st.length) → Q (.ref p) H'
theorem ok__law_every (T : Facts A K mg base) : FnOk P w K mg base CX0 4 A.a__law_every A.d__law_every ["_law_book_here", "_law_start", "_law_now"] (spEvery K) := by
  refine T.F__law_every.ok sc__law_every (fun vs H Q E h => ?_) (fun cdv A1 outer s H vs Q E hr h => ?_)
  · obtain ⟨v, u, k, now, st, rfl, _⟩ := h
    rfl
  · obtain ⟨v, u, k, now, st, rfl, ib, ok, ip, oks, good, n6, hnow, q⟩ := h
    refine ⟨_, PSs.nox (pss_cons (ps_set (i := 3) sc__law_every.nd rfl (Or.inl rfl) (pe_lst (pa_cons (pv 1) pa_nil)))
      (pss_cons (ps_for PassesOwn.never rfl (pi_range1 (by rfl) T.n_range (pa_cons (pe_callB call_len_seq (by rfl) T.n_len PySem.boot_len (pa_cons (pv 1) pa_nil)) pa_nil)) (pg_name (i := 4) sc__law_every.nd rfl (Or.inl rfl)) (pss_one (ps_if (pt_cmpR op_isN (pe_ix ix_seq (pv 1) (pv 4) (fun _ _ => rfl)) pe_non (nomark _)) (pss_cons (ps_set (i := 5) sc__law_every.nd rfl (Or.inl rfl) (pe_lst pa_nil))
      (pss_cons (ps_for PassesOwn.never rfl (pi_list (pv 3)) (pg_name (i := 6) sc__law_every.nd rfl (Or.inl rfl)) (pss_one (ps_for PassesOwn.never rfl (pi_range2 (by rfl) T.n_range (pa_cons (pv 2) (pa_cons pe_int pa_nil))) (pg_name (i := 7) sc__law_every.nd rfl (Or.inl rfl)) (pss_one (ps_if (pt_cmpR (op_eqD hr.units) (pe_call (ok__law_refusals T) (hr.mono (by decide)) (by rfl) T.g__law_refusals T.F__law_refusals.kp T.b__law_refusals .nil pass0 (pa_cons (pv 0) (pa_cons (pe_call (ok__law_put T) (hr.mono (by decide)) (by rfl) T.g__law_put T.F__law_put.kp T.b__law_put .nil pass0 (pa_cons (pv 6) (pa_cons (pv 4) (pa_cons (pv 7) pa_nil)))) pa_nil))) (pe_lst pa_nil) (nomark _)) (pss_one (ps_expr (pe_bm PySem.F.plainAttrs_list PySem.F.slot_list_append PySem.F.type_list_append mt_append (pv 5) (pa_cons (pe_call (ok__law_put T) (hr.mono (by decide)) (by rfl) T.g__law_put T.F__law_put.kp T.b__law_put .nil pass0 (pa_cons (pv 6) (pa_cons (pv 4) (pa_cons (pv 7) pa_nil)))) pa_nil)))) pss_nil)))))
      (pss_one (ps_set (i := 3) sc__law_every.nd rfl (Or.inl rfl) (pv 5))))) pss_nil)))
      (pss_one (ps_ret (pv 3))))), ?_⟩
    obtain ⟨sa, rfl, ts⟩ := id ip
    have ls := oks.len
    refine ⟨_, rfl, by show 1 ≤ sizeLine; decide, fun L0 hL0 => ?_⟩
    have e0 := Ext.new (ex := []) (o := .lst [.ref sa]) hL0
    refine ⟨_, rfl, sa, _, rfl, .inr (e0.sqT ts), ((st.map oV).length : Int), rfl, by rw [List.length_map]; omega, by rw [List.length_map]; omega, for_range (n := (st.map oV).length) (fun i σ Hx => ∃ (L : Addr) (y4 y5 y6 y7 : Option V), σ = [some v, some (.ref sa), some (.int now), some (.ref L), y4, y5, y6, y7] ∧ Ext [] H Hx ∧ H L = none ∧ IsPlans K Hx L (everyN k now st i))
      ⟨L0, _, _, _, _, rfl, e0, hL0, [.ref sa], upd_same, .cons (e0.plan ip) .nil⟩ (fun i σ Hx hi z => ?_) (fun σ Hx z => ?_)⟩
    · obtain ⟨L, y4, y5, y6, y7, rfl, ex, hLn, us, hLx, pus⟩ := z
      rw [List.length_map] at hi
      rw [show (0 : Int) + (i : Int) = (i : Int) from Int.zero_add _]
      obtain ⟨o, ho⟩ : ∃ o, st[i]? = some o := ⟨st[i], List.getElem?_eq_getElem hi⟩
      have hoV : (st.map oV)[i]? = some (oV o) := by rw [List.getElem?_map, ho]; rfl
      refine ⟨_, rfl, _, rfl, .inr (.inl ⟨sa, _, _, _, rfl, rfl, ex.sqT ts, atI_nat hoV, rfl, _, rfl, ?_⟩)⟩
      cases o with
      | some h0 =>
        refine iteDn (by simp [oV]) ?_
        refine ⟨L, _, _, _, _, rfl, ex, hLn, us, hLx, ?_⟩
        have e : everyN k now st (i + 1) = everyN k now st i := by
          show everyS k now st i _ = _
          unfold everyS
          rw [getD_of ho, if_neg (by simp)]
        rw [e]
        exact pus
      | none =>
        have est := everyN_take (k := k) (now := now) (getD_of ho)
        have emem := everyN_mem ok hnow.1 oks good i (by omega)
        have elen := everyN_len (k := k) (now := now) hnow.1 (st := st) (i + 1)
        refine iteD rfl ?_
        refine ⟨Nat.zero_le _, fun M hM => ?_⟩
        have eM := Ext.new (ex := []) (o := .lst []) hM
        have nML : M ≠ L := (ne_of_none hLx hM).symm
        have hMn : H M = none := ex.dom M hM
        -- over the plans
        refine ⟨_, rfl, L, rfl, ⟨_, .inl (.inl (eM.lst L _ (by simp) hLx))⟩, for_list (xs := us) (fun j σ Hy => ∃ (y6 y7 : Option V), σ = [some v, some (.ref sa), some (.int now), some (.ref L), some (.int (i : Int)), some (.ref M), y6, y7] ∧ Ext [M] Hx Hy ∧ IsPlans K Hy M (((everyN k now st i).take j).flatMap fun pl => ((rgI now 12).filter fun h => decide (allR k (putP pl i h) = [])).map fun h => putP pl i h))
          ⟨_, _, rfl, eM.any, [], upd_same, .nil⟩ (fun j σ Hy _ z => ?_) (fun j x σ Hy hx z => ?_) (fun σ Hy z => ?_)⟩
        · obtain ⟨_, _, _, z, _⟩ := z
          exact .inl (.inl (z.lst L _ (by simpa using nML.symm) hLx))
        · obtain ⟨y6, y7, rfl, ey, ws, hMy, pws⟩ := z
          obtain ⟨pl, hpl, ipl⟩ := pget pus hx
          have opl := (emem pl).mp (List.mem_of_getElem? hpl)
          have lpl := opl.ok.len
          have ftk := flat_take (f := fun pl => ((rgI now 12).filter fun h => decide (allR k (putP pl i h) = [])).map fun h => putP pl i h) hpl
          -- over the hours
          refine ⟨_, rfl, now, 12, rfl, ⟨by omega, by omega, by omega, by omega⟩, for_range (n := (12 - now).toNat) (fun m σ Hz => ∃ (y7 : Option V), σ = [some v, some (.ref sa), some (.int now), some (.ref L), some (.int (i : Int)), some (.ref M), some x, y7] ∧ Ext [M] Hx Hz ∧ IsPlans K Hz M ((((everyN k now st i).take j).flatMap fun pl => ((rgI now 12).filter fun h => decide (allR k (putP pl i h) = [])).map fun h => putP pl i h) ++ ((((rgI now 12).take m).filter fun h => decide (allR k (putP pl i h) = [])).map fun h => putP pl i h)))
            ⟨_, rfl, ey, by rw [List.take_zero, List.filter_nil, List.map_nil, List.append_nil]; exact ⟨ws, hMy, pws⟩⟩ (fun m σ Hz hm z => ?_) (fun σ Hz z => ?_)⟩
          · obtain ⟨y7, rfl, ez, vs, hMz, pvs⟩ := z
            have hg : (rgI now 12)[m]? = some (now + (m : Int)) := by
              unfold rgI
              rw [List.getElem?_map, List.getElem?_range (by omega)]
              rfl
            generalize hh : now + (m : Int) = h at hg ⊢
            have ezx := ex.any.trans ez
            refine ⟨_, rfl, _, rfl, _, rfl, _, rfl, x, pl, i, h, rfl, ez.plan ipl, by omega, by omega, fun H6 u2 e6 ip2 => ?_⟩
            have ok2 := putP_ok opl.ok (i := i) (h := h) (by omega) (by omega) (by omega)
            have f6 : Ext [M] H H6 := ezx.trans (e6.mono (by simp))
            refine ⟨_, _, k, putP pl i h, rfl, f6.book ib, ok, ip2, ok2, fun H7 p7 e7 hp7 hl7 => ?_⟩
            refine ⟨Nat.zero_le _, fun E0 hE0 => ⟨_, _, ((Ext.new (ex := []) hE0).rows (by simp) hl7).dp, .lst (.inl (.inl upd_same)) .nil, shaped_rows _, rfl, _, rfl, ?_⟩⟩
            have e8 : Ext [] H7 (upd H7 E0 (.lst [])) := Ext.new hE0
            have e68 := e6.trans (e7.trans e8)
            have hM8 := e68.lst M _ (by simp) hMz
            have stp := filter_take (f := fun h => decide (allR k (putP pl i h) = [])) hg
            refine ite2 (fun c4 => ?_) (fun c4 => ?_)
            · have c4 := eqv_nil c4
              refine ⟨_, rfl, .inl ⟨rfl, _, .inl (.inl hM8)⟩, _, rfl, _, rfl, _, rfl, _, pl, i, h, rfl, (ez.trans e68.any).plan ipl, by omega, by omega, fun H9 u9 e9 ip9 => ?_⟩
              have lvs := plen pvs
              have hlen : vs.length < sizeLine := by
                rw [sizeLine_eq]
                have b1 : vs.length ≤ (everyN k now st (i + 1)).length := by
                  rw [lvs, est, List.length_append, ← List.take_append_drop j (everyN k now st i), List.flatMap_append, List.length_append]
                  have i2 : j < (everyN k now st i).length := (List.getElem?_eq_some_iff.mp hpl).1
                  rw [List.drop_eq_getElem_cons i2, List.flatMap_cons, List.length_append, (List.getElem?_eq_some_iff.mp hpl).2]
                  have : ((((rgI now 12).take m).filter fun h => decide (allR k (putP pl i h) = [])).map fun h => putP pl i h).length ≤ (((rgI now 12).filter fun h => decide (allR k (putP pl i h) = [])).map fun h => putP pl i h).length := by
                    rw [List.length_map, List.length_map]
                    exact ((List.take_sublist m _).filter _).length_le
                  rw [List.take_append_of_le_length (by rw [List.length_take]; omega), List.take_of_length_le (by rw [List.length_take]; omega)]
                  omega
                have := small_pow (Nat.le_trans b1 elen) (by omega)
                omega
              have hM9 := e9.lst M _ (by simp) hM8
              have w : Ext [M] H9 (upd H9 M (.lst (vs ++ [u9]))) := Ext.wr (xs := vs) (by simp) hM9
              refine ⟨M, _, _, rfl, rfl, hM9, hlen, ?_⟩
              refine ⟨_, rfl, ez.trans ((e68.trans e9).any.trans w), _, upd_same, ?_⟩
              rw [stp, if_pos (decide_eq_true c4), List.map_append, ← List.append_assoc]
              exact papp (Paired.mapP pvs fun _ _ z => w.plan ((e68.trans e9).plan z)) (w.plan ip9)
            · refine ⟨_, rfl, ez.trans e68.any, vs, hM8, ?_⟩
              rw [stp, if_neg (fun z => c4 (by rw [of_decide_eq_true z]; rfl)), List.append_nil]
              exact Paired.mapP pvs fun _ _ z => e68.plan z
          · obtain ⟨y7, rfl, ez, hMz⟩ := z
            have el : (rgI now 12).length ≤ (12 - now).toNat := by rw [rgI_len]; exact Nat.le_refl _
            rw [List.take_of_length_le el, ← ftk] at hMz
            exact ⟨_, _, rfl, ez, hMz⟩
        · obtain ⟨y6, y7, rfl, ey, hMy⟩ := z
          rw [plen pus, List.take_length, ← est] at hMy
          exact ⟨_, rfl, M, _, _, _, _, rfl, (ex.any.trans ey).forget hMn, hMn, hMy⟩
    · obtain ⟨L, y4, y5, y6, y7, rfl, ex, hLn, hL⟩ := z
      rw [List.length_map] at hL
      exact ⟨_, rfl, q _ L ex hLn hL⟩

def spIsMended (A : Ad) (K : PySem.W.Frag) : Sp := fun vs H Q _ => ∃ (v u m : V) (k : Book) (now : Int) (pl : List (Option Int)), vs = [v, u, .int now, m] ∧ IsBook K H v k ∧ k.Ok ∧ IsPlan K H u pl ∧ PlOk k.bs.length pl ∧ allR k pl = [] ∧ k.bs.length ≤ 6 ∧ (0 ≤ now ∧ now ≤ 12) ∧ Tabs A H ∧ LTabs A H ∧
  (m = .non ∨ ∃ t fl, m = .ref t ∧ fl ∈ everyN k now pl pl.length ∧ SqT K H t [.int ((hoursL fl).length : Int), .int (waitsN k fl fl.length).sum]) ∧
  ∀ H', Ext [A.k_best.2, A.k_table_for.2] H H' → LTabs A H' → Q (.bl true) H'
theorem ok__law_is_mended (T : Facts A K mg base) : FnOk P w K mg base CX0 15 A.a__law_is_mended A.d__law_is_mended ["_law_made", "_law_start", "_law_now", "_law_most"] (spIsMended A K) := by
  refine T.F__law_is_mended.ok sc__law_is_mended (fun vs H Q E h => ?_) (fun cdv A1 outer s H vs Q E hr h => ?_)
  · obtain ⟨v, u, m, k, now, pl, rfl, _⟩ := h
    rfl
  · obtain ⟨v, u, m, k, now, pl, rfl, ib, ok, ip, okp, good, n6, hnow, tb, lt, hm, q⟩ := h
    refine ⟨_, PSs.nox (pss_cons (ps_set (i := 4) sc__law_is_mended.nd rfl (Or.inl rfl) (pe_call (ok__law_every T) (hr.mono (by decide)) (by rfl) T.g__law_every T.F__law_every.kp T.b__law_every .nil pass0 (pa_cons (pv 0) (pa_cons (pv 1) (pa_cons (pv 2) pa_nil)))))
      (pss_cons (ps_try_only (Wout := fun _ _ _ _ => False) rfl rfl ⟨rfl, by decide, Or.inl T.g_NoPlan⟩ takes0
        (fun W pn xe tk _ => (by exact (pss_one (ps_set (i := 5) sc__law_is_mended.nd rfl (Or.inl rfl) (pe_ix (ixK K rfl) (by exact (pe_callS (ok_best T) (hr.mono (by decide)) (by rfl) T.g_best T.F_best.kp T.b_best (fun σ => passAt tk σ) (pa_cons (pv 0) (pa_cons (pv 1) (pa_cons (pv 2) pa_nil))))) pe_int (fun _ _ => rfl))))))
        (fun a oe cls d pn hz hf => (by exact (pss_one (ps_ret (pe_and (pe_cmpR (GD.eqDK K hr.units rfl) (pv 4) (pe_lst pa_nil) (nomark _)) (pe_one (pe_cmpR op_isN (pv 3) pe_non (nomark _)))))))))
      (pss_cons (ps_if (pt_cmpR (op_notInD (GD.room65 hr)) (pv 5) (pv 4) (by rfl)) (pss_one (ps_ret pe_bl)) pss_nil)
      (pss_cons (ps_set (i := 6) sc__law_is_mended.nd rfl (by first | exact Or.inr rfl | exact Or.inl rfl) (pe_call (ok__law_price T) (hr.mono (by decide)) (by rfl) T.g__law_price T.F__law_price.kp T.b__law_price .nil pass0 (pa_cons (pv 0) (pa_cons (pv 5) pa_nil))))
      (pss_cons (ps_if (pt_cmpR (op_neD hr.units) (pe_lc (own := [("_law_one", 7)]) (g := (gName 7)) rfl sc__law_is_mended.nd (pi_list (pv 4)) (blkOk_by (own := [("_law_one", 7)]) (N := ["_law_made", "_law_start", "_law_now", "_law_most", "_law_plans", "_law_plan", "_law_price_here", "_law_one"]) (sc := defScope s__law_is_mended) (by decide +kernel)) (fun _ _ _ _ _ => (pg_name (i := 7) sc__law_is_mended.nd rfl (Or.inl rfl))) (fun _ _ _ _ _ => (pts_one (pt_cmpR (GD.ltTK K hr.units0 rfl) (pe_call (ok__law_price T) (hr.mono (by decide)) (by rfl) T.g__law_price T.F__law_price.kp T.b__law_price .nil pass0 (pa_cons (pv 0) (pa_cons (pv 7) pa_nil))) (pv 6) (nomark _)))) (fun _ _ _ _ _ => (pv 7))) (pe_lst pa_nil) (nomark _)) (pss_one (ps_ret pe_bl)) pss_nil)
      (pss_one (ps_ret (pe_or (pe_cmpR op_isN (pv 3) pe_non (nomark _)) (pe_one (pe_cmpR (L2.op_leT (Nat.lt_of_le_of_lt (Nat.le_add_right _ 64) hr.units)) (pv 6) (pv 3) (nomark _))))))))))), ?_⟩
    have em := every_iff ok hnow.1 okp good
    have full : ∀ c ∈ everyN k now pl pl.length, none ∉ c := fun c hc => opens_full.mp ((em c).mp hc).2
    have evo : ∀ c ∈ everyN k now pl pl.length, EvOk k now pl pl.length c := fun c hc => (everyN_mem ok hnow.1 okp good _ (Nat.le_refl _) c).mp hc
    have elen := everyN_len (k := k) (now := now) hnow.1 (st := pl) pl.length
    have lpl := okp.len
    have esm := small_pow elen (by omega)
    refine ⟨_, rfl, _, rfl, _, rfl, v, u, k, now, pl, rfl, ib, ok, ip, okp, good, n6, hnow, fun H2 p e2 hp hpl => ?_⟩
    have tb2 := tb.ext e2
    have lt2 := lt.ext e2
    have npE : ∀ {Hx : Hp}, LTabs A Hx → Hx p = some (.lst (Classical.choose hpl)) → p ∉ [A.k_best.2, A.k_table_for.2] := fun {Hx} l hpx => by
      obtain ⟨p1, y1, _⟩ := l.best
      obtain ⟨p2, y2, _⟩ := l.table_for
      simp
      exact ⟨fun w => (by rw [← w, hpx] at y1; cases y1), fun w => (by rw [← w, hpx] at y2; cases y2)⟩
    have npN := npE lt2 (Classical.choose_spec hpl).1
    have hm2 : m = .non ∨ ∃ t fl, m = .ref t ∧ fl ∈ everyN k now pl pl.length ∧ SqT K H2 t [.int ((hoursL fl).length : Int), .int (waitsN k fl fl.length).sum] := hm.imp id fun ⟨t, fl, z1, z2, z3⟩ => ⟨t, fl, z1, z2, e2.sqT z3⟩
    refine ⟨_, rfl, _, rfl, _, rfl, v, u, k, now, pl, rfl, e2.book ib, ok, e2.plan ip, okp, good, ⟨hnow.1, by omega⟩, tb2, lt2, fun H3 t3 v1 v2 p0 d e3 lt3 st3 ipp hin hop hmin td gr lay sh => ?_, fun H3 dd vt d e3 lt3 hdn hdd td gr lay hno sh => ?_⟩
    · have hp0 := (em p0).mpr ⟨hin, hop⟩
      have hpl3 := e3.plans npN hpl
      have g3 := e2.any.trans e3
      refine .inr (.inl ⟨t3, _, 0, _, rfl, rfl, st3, atI_nat (j := 0) rfl, ?_⟩)
      refine ⟨_, rfl, _, rfl, planD p0, (everyN k now pl pl.length).map planD, ipp.td.dp, plans_dp hpl3, shaped_at (lay_plan _) (by decide), shaped_at (lay_plans _) (by decide), ?_⟩
      have hany : (((everyN k now pl pl.length).map planD).any fun z => PyData.eqv z (planD p0)) = true := List.any_eq_true.mpr ⟨planD p0, List.mem_map.mpr ⟨p0, hp0, rfl⟩, eqv_same (lay_plan _).1⟩
      rw [hany]
      refine ⟨_, rfl, iteF ?_⟩
      have okp0 := (evo p0 hp0).ok
      refine ⟨_, rfl, _, rfl, _, _, k, p0, rfl, g3.book ib, ok, ipp, okp0, fun H4 w4 e4 t4 => ?_⟩
      have hpl4 := e4.plans (by simp) hpl3
      obtain ⟨us, hus, pus⟩ := id hpl4
      have lus := plen pus
      have g4 := g3.trans e4.any
      have ib4 := g4.book ib
      have hmin2 : ∀ c ∈ everyN k now pl pl.length, HT.lexLt [((hoursL c).length : Int), (waitsN k c c.length).sum] [((hoursL p0).length : Int), (waitsN k p0 p0.length).sum] = false := fun c hc => hmin c ((em c).mp hc).1 ((em c).mp hc).2
      have hm4 : m = .non ∨ ∃ t fl, m = .ref t ∧ fl ∈ everyN k now pl pl.length ∧ SqT K H4 t [.int ((hoursL fl).length : Int), .int (waitsN k fl fl.length).sum] := hm2.imp id fun ⟨t, fl, z1, z2, z3⟩ => ⟨t, fl, z1, z2, (e3.trans e4.any).sqT z3⟩
      have lt4 := lt3.ext e4
      generalize hes : everyN k now pl pl.length = es at *
      refine ⟨_, rfl, p, rfl, ⟨_, .inl (.inl hus)⟩, fun P hP => lc_list (xs := us) (fun i H5 => Ext [] H4 H5 ∧ H5 P = some (.lst [])) ⟨Ext.new hP, upd_same⟩ (fun _ _ _ z => .inl (.inl (z.1.lst p _ (by simp) hus))) (fun i x H5 hx z => ?_) (fun H5 z => ?_)⟩
      · obtain ⟨e5, hL⟩ := z
        obtain ⟨c, hc, ipc⟩ := pget pus hx
        have hcm := List.mem_of_getElem? hc
        have okc := (evo c hcm).ok
        refine ⟨rfl, ?_⟩
        refine ⟨_, rfl, _, rfl, _, _, k, c, rfl, e5.book ib4, ok, e5.plan ipc, okc, fun H6 w6 e6 t6 => ?_⟩
        refine ⟨_, rfl, w6, w4, [_, _], [_, _], rfl, rfl, t6, (e5.trans e6).sqT t4, _, rfl, ?_⟩
        rw [hmin2 c hcm]
        refine iteF ⟨e5.trans e6, e6.lst P _ (by simp) hL⟩
      · obtain ⟨e5, hP5⟩ := z
        refine ⟨Nat.zero_le _, fun E0 hE0 => ?_⟩
        have e6 := Ext.new (ex := []) (o := .lst []) hE0
        refine ⟨.list [], .list [], .lst (.inl (.inl (e6.lst P _ (by simp) hP5))) .nil, .lst (.inl (.inl upd_same)) .nil, rfl, rfl, _, rfl, iteF ?_⟩
        have f6 := e5.trans e6
        have fin := q _ (g4.trans f6.any) (lt4.ext f6)
        refine ⟨_, rfl, rfl, _, rfl, ?_⟩
        rcases hm4 with rfl | ⟨t, fl, rfl, hfl, tfl⟩
        · exact iteT fin
        · refine iteDn (by simp) ?_
          refine ⟨_, rfl, _, rfl, le_pair (f6.sqT t4) (f6.sqT tfl) ?_⟩
          rw [hmin2 fl hfl]
          exact fin
    · have hnil : everyN k now pl pl.length = [] := List.eq_nil_iff_forall_not_mem.mpr fun c hc => hno c ((em c).mp hc).1 ((em c).mp hc).2
      have hpl3 := e3.plans npN hpl
      have g3 := e2.any.trans e3
      rw [hnil] at hpl3
      obtain rfl : m = .non := by
        rcases hm with z | ⟨t, fl, _, z, _⟩
        · exact z
        · rw [hnil] at z; cases z
      refine ⟨true, NP.exm_self T.np_NoPlan.ox, fun _ ax hax => ?_, fun z => nomatch z⟩
      obtain ⟨us, hus, pus⟩ := id hpl3
      cases pus
      refine ⟨_, rfl, Nat.zero_le _, fun E0 hE0 => ?_⟩
      have e6 := Ext.new (ex := []) (o := .lst []) hE0
      refine ⟨.list [], .list [], .lst (.inl (.inl (e6.lst p _ (by simp) hus))) .nil, .lst (.inl (.inl upd_same)) .nil, rfl, rfl, _, rfl, iteT ?_⟩
      refine ⟨_, rfl, rfl, ?_⟩
      exact q _ (g3.trans e6.any) (lt3.ext e6)

def spLaw (A : Ad) (K : PySem.W.Frag) : Sp := fun vs H Q _ => ∃ (a : Addr) (ns : List Int), vs = [.ref a] ∧ SqL K H a (ns.map V.int) ∧ ns.length ≤ 63 ∧ Tabs A H ∧ LTabs A H ∧ ∀ H', LTabs A H' → Q (.bl true) H'
theorem sqL_keep {A : Ad} {K : PySem.W.Frag} {H H1 : Hp} {a : Addr} {xs : List V} (lt : LTabs A H) (e : Ext [A.k_best.2, A.k_table_for.2] H H1) (h : SqL K H a xs) : SqL K H1 a xs := by
  rcases h with (h | ⟨o, h⟩) | h
  · refine .inl (.inl (e.lst a xs ?_ h))
    obtain ⟨p1, y1, _⟩ := lt.best
    obtain ⟨p2, y2, _⟩ := lt.table_for
    simp
    exact ⟨fun w => (by rw [w, y1] at h; cases h), fun w => (by rw [w, y2] at h; cases h)⟩
  · exact .inl (.inr ⟨o, e.frz a o _ h⟩)
  · exact .inr h
theorem ok_law (T : Facts A K mg base) : FnOk P w K mg base CX0 16 A.a_law A.d_law ["_law_script"] (spLaw A K) := by
  refine T.F_law.ok sc_law (fun vs H Q E h => ?_) (fun cdv A1 outer s H vs Q E hr h => ?_)
  · obtain ⟨a, ns, rfl, _⟩ := h
    rfl
  · obtain ⟨a, ns, rfl, hS, hlen, tb, lt, q⟩ := h
    refine ⟨_, PSs.nox (pss_cons (ps_set (i := 1) sc_law.nd rfl (by first | exact Or.inr rfl | exact Or.inl rfl) (pe_call (ok__law_book T) (hr.mono (by decide)) (by rfl) T.g__law_book T.F__law_book.kp T.b__law_book .nil pass0 (pa_cons (pv 0) (pa_cons pe_int pa_nil))))
      (pss_cons (ps_set (i := 2) sc_law.nd rfl (by first | exact Or.inr rfl | exact Or.inl rfl) (pe_call (ok__law_good T) (hr.mono (by decide)) (by rfl) T.g__law_good T.F__law_good.kp T.b__law_good .nil pass0 (pa_cons (pe_call (ok__law_dice T) (hr.mono (by decide)) (by rfl) T.g__law_dice T.F__law_dice.kp T.b__law_dice .nil pass0 (pa_cons (pe_call (ok__law_cell_at T) (hr.mono (by decide)) (by rfl) T.g__law_cell_at T.F__law_cell_at.kp T.b__law_cell_at .nil pass0 (pa_cons (pv 0) (pa_cons pe_int pa_nil))) pa_nil)) (pa_cons (pv 1) (pa_cons pe_int (pa_cons pe_int pa_nil))))))
      (pss_cons (ps_setLc (i := 3) (own := [("_law_k", 4)]) (g := (gName 4)) rfl sc_law.nd rfl rfl (sw_true rfl rfl rfl (by decide +kernel)) (pi_range1 (by rfl) T.n_range (pa_cons (pe_callB call_len_seq (by rfl) T.n_len PySem.boot_len (pa_cons (pv 2) pa_nil)) pa_nil)) (blkOk_by (own := [("_law_k", 4)]) (N := ["_law_script", "_law_book_here", "_law_plan", "_law_here", "_law_k", "_law_now", "_law_made", "_law_start"]) (sc := defScope s_law) (by decide +kernel)) (fun _ _ _ _ _ => (pg_name (i := 4) sc_law.nd rfl (Or.inl rfl))) (fun _ _ _ _ _ => (pts_one (pt_cmpR op_notN (pe_ix (ixK K rfl) (pv 2) (pv 4) (fun _ _ => rfl)) pe_non (nomark _)))) (fun _ _ _ _ _ => (pv 4)))
      (pss_cons (ps_set (i := 1) sc_law.nd rfl (by first | exact Or.inr rfl | exact Or.inl rfl) (pe_tup (pa_cons (pe_ix ix_seq (pv 1) pe_int (fun _ _ => rfl)) (pa_cons (pe_callTy call_tuple_of (by rfl) T.n_tuple (by decide +kernel) (pa_cons (pe_lc (own := [("_law_k", 4)]) (g := (gName 4)) rfl sc_law.nd (pi_list (pv 3)) (blkOk_by (own := [("_law_k", 4)]) (N := ["_law_script", "_law_book_here", "_law_plan", "_law_here", "_law_k", "_law_now", "_law_made", "_law_start"]) (sc := defScope s_law) (by decide +kernel)) (fun _ _ _ _ _ => (pg_name (i := 4) sc_law.nd rfl (Or.inl rfl))) (fun _ _ _ _ _ => pts_nil) (fun _ _ _ _ _ => (pe_ix (ixK K rfl) (pe_ix (ixK K rfl) (pv 1) pe_int (fun _ _ => rfl)) (pv 4) (fun _ _ => rfl)))) pa_nil)) pa_nil))))
      (pss_cons (ps_set (i := 2) sc_law.nd rfl (by first | exact Or.inr rfl | exact Or.inl rfl) (pe_callTy call_tuple_of (by rfl) T.n_tuple (by decide +kernel) (pa_cons (pe_lc (own := [("_law_k", 4)]) (g := (gName 4)) rfl sc_law.nd (pi_list (pv 3)) (blkOk_by (own := [("_law_k", 4)]) (N := ["_law_script", "_law_book_here", "_law_plan", "_law_here", "_law_k", "_law_now", "_law_made", "_law_start"]) (sc := defScope s_law) (by decide +kernel)) (fun _ _ _ _ _ => (pg_name (i := 4) sc_law.nd rfl (Or.inl rfl))) (fun _ _ _ _ _ => pts_nil) (fun _ _ _ _ _ => (pe_ix (ixK K rfl) (pv 2) (pv 4) (fun _ _ => rfl)))) pa_nil)))
      (pss_cons (ps_set (i := 5) sc_law.nd rfl (Or.inl rfl) (pe_op op_modN (pe_call (ok__law_cell_at T) (hr.mono (by decide)) (by rfl) T.g__law_cell_at T.F__law_cell_at.kp T.b__law_cell_at .nil pass0 (pa_cons (pv 0) (pa_cons pe_int pa_nil))) pe_int))
      (pss_cons (ps_for PassesOwn.never rfl (pi_range1 (by rfl) T.n_range (pa_cons (pe_callB call_len_seq (by rfl) T.n_len PySem.boot_len (pa_cons (pv 2) pa_nil)) pa_nil)) (pg_name (i := 4) sc_law.nd rfl (Or.inl rfl)) (pss_one (ps_if (pt_cmpR op_ge (pe_ix ix_seq (pv 2) (pv 4) (fun _ _ => rfl)) (pv 5) (nomark _)) (pss_cons (ps_asg (by exact (pe_callS (okx_lost T) (hr.mono (by decide)) (by rfl) T.g_lost T.F_lost.kp T.b_lost (fun σ => GD.pass_none σ) (pa_cons (pv 1) (pa_cons (pv 2) (pa_cons (pv 5) (pa_cons (pv 4) pa_nil)))))) (pg_tup (by rfl) (pgs_cons (pg_name (i := 6) sc_law.nd rfl (Or.inl rfl)) (pgs_cons (pg_name (i := 7) sc_law.nd rfl (Or.inl rfl)) pgs_nil))))
      (pss_cons (ps_if (pt_not (pt_val (pe_call (ok__law_is_mended T) (hr.mono (by decide)) (by rfl) T.g__law_is_mended T.F__law_is_mended.kp T.b__law_is_mended .nil pass0 (pa_cons (pv 6) (pa_cons (pv 7) (pa_cons (pv 5) (pa_cons (pe_call (ok__law_price T) (hr.mono (by decide)) (by rfl) T.g__law_price T.F__law_price.kp T.b__law_price .nil pass0 (pa_cons (pv 6) (pa_cons (pe_op op_catA (pe_slice GX.sl_tupA (pv 2) po_none (po_some (pv 4))) (pe_slice GX.sl_tupA (pv 2) (po_some (pe_op op_add (pv 4) pe_int)) po_none)) pa_nil))) pa_nil))))))) (pss_one (ps_ret pe_bl)) pss_nil)
      (pss_cons (ps_asg (by exact (pe_callS (okx_late T) (hr.mono (by decide)) (by rfl) T.g_late T.F_late.kp T.b_late (fun σ => GD.pass_none σ) (pa_cons (pv 1) (pa_cons (pv 2) (pa_cons (pv 5) (pa_cons (pv 4) (pa_cons (pe_callB (call_min2 rfl) (by rfl) T.n_min (by decide +kernel) (pa_cons pe_int (pa_cons (pe_op op_add (pe_ix ix_seq (pe_ix ix_seq (pe_ix ix_seq (pv 1) pe_int (fun _ _ => rfl)) (pv 4) (fun _ _ => rfl)) pe_int (fun _ _ => rfl)) (pe_op op_modN (pe_call (ok__law_cell_at T) (hr.mono (by decide)) (by rfl) T.g__law_cell_at T.F__law_cell_at.kp T.b__law_cell_at .nil pass0 (pa_cons (pv 0) (pa_cons pe_int pa_nil))) pe_int)) pa_nil))) pa_nil))))))) (pg_tup (by rfl) (pgs_cons (pg_name (i := 6) sc_law.nd rfl (Or.inl rfl)) (pgs_cons (pg_name (i := 7) sc_law.nd rfl (Or.inl rfl)) pgs_nil))))
      (pss_one (ps_if (pt_not (pt_val (pe_call (ok__law_is_mended T) (hr.mono (by decide)) (by rfl) T.g__law_is_mended T.F__law_is_mended.kp T.b__law_is_mended .nil pass0 (pa_cons (pv 6) (pa_cons (pv 7) (pa_cons (pv 5) (pa_cons pe_non pa_nil))))))) (pss_one (ps_ret pe_bl)) pss_nil))))) pss_nil)))
      (pss_one (ps_ret pe_bl))))))))), ?_⟩
    have hz : ∀ i : Nat, (0 : Int) + (i : Int) = (i : Int) := fun i => Int.zero_add _
    refine ⟨_, rfl, a, ns, 4, rfl, hS, by omega, fun v k H0 ok hb e0 ib => ?_⟩
    refine ⟨_, rfl, a, ns, 3, rfl, e0.sqL (by simp) hS, fun c => ⟨c, rfl, fun D H1 hD e1 d1 => ?_⟩⟩
    refine ⟨_, rfl, D, v, k, 0, 0, rfl, d1, e1.book ib, ok, fun u pl H2 okp e2 d2 ip good => ?_⟩
    have f2 := e1.born hD e2
    have tb2 := tb.ext (e0.trans f2)
    have ib2 := f2.book ib
    have n7 := ok.n7
    have lp := okp.len
    obtain ⟨pa, rfl, tp⟩ := id ip
    obtain ⟨ka, r, bb, rfl, t0, ir, ⟨ba, bs, rfl, t2, pb⟩⟩ := id ib2
    have lb := plen pb
    have lt2 := lt.ext (e0.trans f2)
    have lenP : ((pl.map oV).length : Int) = (pl.length : Int) := by rw [List.length_map]
    obtain ⟨Hx, hHx⟩ : ∃ Hx, Hx = H2 := ⟨_, rfl⟩
    have ex : Ext [] H2 Hx := by rw [hHx]; exact Ext.refl
    rw [← hHx]
    -- here
    refine ⟨_, rfl, pa, _, rfl, .inr (ex.sqT tp), ((pl.map oV).length : Int), rfl, by omega, by omega, fun M hM => lc_range (lo := 0) (n := (pl.map oV).length) (fun m H5 => Ext [] Hx H5 ∧ m ≤ pl.length ∧ H5 M = some (.lst (natsV (setN pl m)))) ⟨Ext.new hM, Nat.zero_le _, upd_same⟩ (fun m H5 hm z => ?_) (fun H5 z => ?_)⟩
    · rw [List.length_map] at hm
      obtain ⟨e5, _, hD5⟩ := z
      rw [hz m]
      obtain ⟨o, ho⟩ : ∃ o, pl[m]? = some o := ⟨pl[m], List.getElem?_eq_getElem hm⟩
      have hoV : (pl.map oV)[m]? = some (oV o) := by rw [List.getElem?_map, ho]; rfl
      refine ⟨rfl, _, rfl, _, rfl, .inr (.inl ⟨pa, _, _, _, rfl, rfl, (ex.trans e5).sqT tp, atI_nat hoV, rfl, _, rfl, ?_⟩)⟩
      have sl := setN_le pl m
      cases o with
      | none =>
        refine iteNS rfl ⟨e5, by omega, ?_⟩
        rw [setN_succ, getD_of ho, if_pos rfl, List.append_nil]
        exact hD5
      | some h =>
        refine iteN (by simp [oV]) ⟨_, rfl, _, hD5, small1000 (by rw [natsV_len]; omega), e5.wrNew hM, by omega, ?_⟩
        rw [upd_same, setN_succ, getD_of ho, if_neg (by simp), natsV_app]
    rw [List.length_map] at z
    obtain ⟨e5, _, hM5⟩ := z
    have g5 := ex.trans e5
    have sl := setN_le pl pl.length
    generalize hhr : setN pl pl.length = here at *
    have hin : ∀ n ∈ here, n < pl.length := fun n hn => (mem_setN2 (hhr ▸ hn : n ∈ setN pl pl.length)).1
    have eB : hereB k pl = here.map fun i => k.bs.getD i ⟨0, 0, 0, 0, 0⟩ := by unfold hereB; rw [hhr]
    have eP : hereP pl = here.map fun i => pl.getD i none := by unfold hereP; rw [hhr]
    -- the book of those
    refine ⟨_, rfl, .inr (.inl ⟨ka, _, 0, _, rfl, rfl, g5.sqT t0, atI_nat (j := 0) rfl, ?_⟩)⟩
    refine ⟨.ref M, rfl, M, rfl, ⟨_, .inl (.inl hM5)⟩, fun N hN => lc_list (xs := natsV here) (fun m H6 => Ext [] H5 H6 ∧ m ≤ here.length ∧ ∃ us, H6 N = some (.lst us) ∧ Paired (IsBarge K H6) us ((hereB k pl).take m)) ⟨Ext.new hN, Nat.zero_le _, [], upd_same, .nil⟩ (fun _ _ _ z => .inl (.inl (z.1.lst M _ (by simp) hM5))) (fun m x H6 hx z => ?_) (fun H6 z => ?_)⟩
    · obtain ⟨n, hn, rfl⟩ := map_nat hx
      obtain ⟨e6, _, us, hL6, pu⟩ := z
      have hm2 : m < here.length := (List.getElem?_eq_some_iff.mp hn).1
      have hnl := hin n (List.mem_of_getElem? hn)
      obtain ⟨b, hb⟩ : ∃ b, k.bs[n]? = some b := ⟨k.bs[n]'(by omega), List.getElem?_eq_getElem (by omega)⟩
      obtain ⟨xb, hxb, ibb⟩ := pgetR pb hb
      have g6 := g5.trans e6
      have lu := plen pu
      rw [List.length_take] at lu
      refine ⟨rfl, yesT ?_⟩
      refine ⟨_, rfl, .inr (.inl ⟨ka, _, 1, _, rfl, rfl, g6.sqT t0, atI_nat (j := 1) rfl, _, rfl, .inr (.inl ⟨ba, bs, _, _, rfl, rfl, g6.sqT t2, atI_nat hxb, ?_⟩)⟩)⟩
      have w : Ext [N] H6 (upd H6 N (.lst (us ++ [xb]))) := Ext.wr (by simp) hL6
      refine ⟨_, hL6, small1000 (by omega), e6.wrNew hN, hm2, _, upd_same, ?_⟩
      have hget : (hereB k pl)[m]? = some b := by
        rw [eB, List.getElem?_map, hn]
        show some (k.bs.getD n _) = _
        rw [List.getD_eq_getElem?_getD, hb]
        rfl
      rw [List.take_add_one, hget]
      exact papp (Paired.mapP pu fun _ _ z => w.barge z) (w.barge (g6.barge ibb))
    obtain ⟨e6, _, us, hN6, pu⟩ := z
    have lhB : (hereB k pl).length = here.length := by rw [eB, List.length_map]
    rw [natsV_len, ← lhB, List.take_length] at pu
    refine ⟨N, _, rfl, .inl ⟨.inl (.inl hN6), fun q1 hq1 => ?_⟩⟩
    have e7 := Ext.new (ex := []) (o := .tup us) hq1
    refine ⟨by show 2 ≤ sizeLine; decide, fun q2 hq2 => ?_⟩
    have e8 := Ext.new (ex := []) (o := .tup [r, .ref q1]) hq2
    have g8 := g5.trans (e6.trans (e7.trans e8))
    have e58 := e6.trans (e7.trans e8)
    obtain ⟨ok2, okp2⟩ := here_ok ok okp
    have good2 := here_good ok okp good
    have hn2 := here_none pl
    have ib8 : IsBook K (upd (upd H6 q1 (.tup us)) q2 (.tup [r, .ref q1])) (.ref q2) ⟨k.rv, hereB k pl⟩ :=
      ⟨q2, r, .ref q1, rfl, sqT_new, g8.river ir, ⟨q1, us, rfl, e8.sqT sqT_new, Paired.mapP pu fun _ _ z => (e7.trans e8).barge z⟩⟩
    have tb8 := tb2.ext g8
    have hM8 := e58.lst M _ (by simp) hM5
    generalize upd (upd H6 q1 (.tup us)) q2 (.tup [r, .ref q1]) = H8 at ib8 tb8 g8 hM8 e58 e8 ⊢
    -- the plan of those
    refine ⟨.ref M, rfl, M, rfl, ⟨_, .inl (.inl hM8)⟩, fun N hN => lc_list (xs := natsV here) (fun m H9 => Ext [] H8 H9 ∧ m ≤ here.length ∧ H9 N = some (.lst (((hereP pl).take m).map oV))) ⟨Ext.new hN, Nat.zero_le _, upd_same⟩ (fun _ _ _ z => .inl (.inl (z.1.lst M _ (by simp) hM8))) (fun m x H9 hx z => ?_) (fun H9 z => ?_)⟩
    · obtain ⟨n, hn, rfl⟩ := map_nat hx
      obtain ⟨e9, _, hL9⟩ := z
      have hm2 : m < here.length := (List.getElem?_eq_some_iff.mp hn).1
      have hnl := hin n (List.mem_of_getElem? hn)
      obtain ⟨o, ho⟩ : ∃ o, pl[n]? = some o := ⟨pl[n], List.getElem?_eq_getElem hnl⟩
      have hoV : (pl.map oV)[n]? = some (oV o) := by rw [List.getElem?_map, ho]; rfl
      refine ⟨rfl, yesT ?_⟩
      refine ⟨_, rfl, _, rfl, .inr (.inl ⟨pa, _, _, _, rfl, rfl, (g8.trans e9).sqT tp, atI_nat hoV, ?_⟩)⟩
      refine ⟨_, hL9, small1000 (by rw [List.length_map, List.length_take]; omega), e9.wrNew hN, hm2, ?_⟩
      have hget : (hereP pl)[m]? = some o := by
        rw [eP, List.getElem?_map, hn]
        show some (pl.getD n none) = _
        rw [getD_of ho]
      rw [upd_same, map_take hget]
    obtain ⟨e9, _, hN9⟩ := z
    have lhP : (hereP pl).length = here.length := by rw [eP, List.length_map]
    rw [natsV_len, ← lhP, List.take_length] at hN9
    refine ⟨N, _, rfl, .inl ⟨.inl (.inl hN9), fun q3 hq3 => ?_⟩⟩
    have e10 := Ext.new (ex := []) (o := .tup ((hereP pl).map oV)) hq3
    have ip10 : IsPlan K (upd H9 q3 (.tup ((hereP pl).map oV))) (.ref q3) (hereP pl) := ⟨q3, rfl, sqT_new⟩
    have f10 := e9.trans e10
    have ib10 := f10.book ib8
    have tb10 := tb8.ext f10
    have sS10 := (e0.trans (f2.trans (g8.trans f10))).sqL (a := a) (by simp) hS
    have ltHA := lt.ext (e0.trans (f2.trans (g8.trans f10)))
    generalize upd H9 q3 (.tup ((hereP pl).map oV)) = HA at ip10 ib10 tb10 sS10 ltHA ⊢
    generalize hp2e : hereP pl = p2 at *
    generalize hb2e : hereB k pl = b2 at *
    obtain ⟨_, hq3e, tp2⟩ := id ip10
    cases hq3e
    have n72 := ok2.n7
    have lp2 := okp2.len
    have n73 : b2.length ≤ 7 := n72
    have lt10 : LTabs A HA := ltHA
    refine ⟨_, rfl, a, ns, 4, rfl, sS10, fun c4 => ⟨_, _, rfl, rfl, by show (13 : Int) ≠ 0; decide, ?_⟩⟩
    obtain ⟨now, hnow⟩ : ∃ now : Int, now = c4.fmod 13 := ⟨_, rfl⟩
    have hn0 : 0 ≤ now ∧ now ≤ 12 := by
      have a1 : 0 ≤ c4.fmod 13 := Int.fmod_nonneg_of_pos _ (by decide)
      have a2 : c4.fmod 13 < 13 := Int.fmod_lt_of_pos _ (by decide)
      omega
    have n72 := ok2.n7
    have lp2 := okp2.len
    have n73 : b2.length ≤ 4 := by
      rw [eB, List.length_map]
      omega
    have lp2b : p2.length = b2.length := lp2
    have lenP2 : ((p2.map oV).length : Int) = (p2.length : Int) := by rw [List.length_map]
    refine ⟨_, rfl, q3, _, rfl, .inr tp2, ((p2.map oV).length : Int), rfl, by omega, by omega, for_range (n := (p2.map oV).length) (fun i σ Hx => ∃ (y4 y6 y7 : Option V), σ = [some (.ref a), some (.ref q2), some (.ref q3), some (.ref M), y4, some (.int now), y6, y7] ∧ Ext [A.k_best.2, A.k_table_for.2] HA Hx ∧ LTabs A Hx)
      ⟨_, _, _, by rw [hnow]; rfl, Ext.refl, lt10⟩ (fun i σ Hx hi z => ?_) (fun σ Hx z => ?_)⟩
    case refine_2 =>
      obtain ⟨_, _, _, _, _, ltx⟩ := z
      exact q _ ltx
    rw [List.length_map] at hi
    rw [hz i]
    obtain ⟨y4, y6, y7, rfl, exA, ltx⟩ := z
    have tbx := tb10.ext exA
    obtain ⟨o, ho⟩ : ∃ o, p2[i]? = some o := ⟨p2[i], List.getElem?_eq_getElem hi⟩
    obtain ⟨h, rfl⟩ : ∃ h, o = some h := by
      cases o with
      | none => exact absurd (List.mem_of_getElem? ho) hn2
      | some h => exact ⟨h, rfl⟩
    have hoV : (p2.map oV)[i]? = some (.int h) := by rw [List.getElem?_map, ho]; rfl
    refine ⟨_, rfl, _, rfl, .inr (.inl ⟨q3, _, _, _, rfl, rfl, exA.sqT tp2, atI_nat hoV, ?_⟩)⟩
    refine ⟨_, rfl, _, _, rfl, rfl, _, rfl, ?_⟩
    by_cases cn : now ≤ h
    case neg =>
      refine iteDn cn ?_
      exact ⟨_, _, _, rfl, exA, ltx⟩
    refine iteD cn ?_
    have gone : ¬ (p2.getD i none).getD 0 < now := by
      rw [getD_of ho]
      show ¬ h < now
      omega
    have ev2 := stand_ev (k := ⟨k.rv, b2⟩) (now := now) okp2 good2 hn2
    -- lost
    refine ⟨_, rfl, _, rfl, _, rfl, _, rfl, _, _, ⟨k.rv, b2⟩, p2, now, i, rfl, exA.book ib10, ok2, exA.plan ip10, okp2, hi, tbx, fun _ _ _ H3 pm e3 hpm => ?_, fun z _ _ => absurd z (fun z => z.elim (fun z => z good2) hn2), fun _ _ z _ _ => absurd z gone⟩
    obtain ⟨bv, uv, st, ibm, ipm⟩ := hpm
    refine ⟨pm, _, rfl, st, rfl, _, _, rfl, _, _, rfl, rfl, ?_⟩
    have okl := lost_ok (k := ⟨k.rv, b2⟩) (i := i) ok2
    have oklp := lost_pl (k := ⟨k.rv, b2⟩) (i := i) okp2
    have lgood := lost_good (k := ⟨k.rv, b2⟩) (i := i) ok2 okp2 good2
    have lfull : none ∉ p2.eraseIdx i := fun z => hn2 (List.mem_of_mem_eraseIdx z)
    have esl : (standP p2 now).eraseIdx i = standP (p2.eraseIdx i) now := map_erase _ _ _
    rw [esl] at ipm
    have ex3 := exA.trans e3.any
    refine ⟨_, rfl, _, rfl, _, rfl, _, rfl, _, rfl, _, rfl, (i : Int), rfl, slTA_any (ex3.sqT tp2) fun c1 H4 e4 w1 => ?_⟩
    rw [cut_take] at w1
    refine ⟨_, rfl, _, rfl, _, _, rfl, rfl, ((i + 1 : Nat) : Int), by rw [show ((i + 1 : Nat) : Int) = (i : Int) + 1 by omega], ?_⟩
    first | (unfold tNoPart; dsimp only) | dsimp only
    refine slTA_any (K := K) (lo := some ((i + 1 : Nat) : Int)) (hi := none) ((ex3.trans e4.any).sqT tp2) (fun c2 H5 e5 w2 => ?_)
    rw [cut_drop _ _ (by rw [List.length_map]; omega)] at w2
    refine catA_any (e5.sqT w1) w2 (by simp only [List.length_take, List.length_drop, List.length_map]; omega) fun c3 H6 e6 w3 => ?_
    rw [cut_erase, map_erase] at w3
    have e46 := e4.trans (e5.trans e6)
    refine ⟨bv, _, ⟨k.rv, b2.eraseIdx i⟩, p2.eraseIdx i, rfl, e46.book ibm, okl, ⟨c3, rfl, w3⟩, oklp, fun H7 pw e7 tw => ?_⟩
    have e47 := e46.trans e7
    have okls := stand_ok (now := now) oklp
    have lsgood := stand_good (k := ⟨k.rv, b2.eraseIdx i⟩) (now := now) oklp lgood
    have levI := stand_ev (k := ⟨k.rv, b2.eraseIdx i⟩) (now := now) oklp lgood lfull
    have lev := (everyN_mem okl hn0.1 okls lsgood _ (Nat.le_refl _) _).mpr levI
    have tb7 := (tbx.ext e3).ext e47
    have lt7 := (ltx.ext e3).ext e47
    have len4 : (b2.eraseIdx i).length ≤ 4 := by
      have := List.length_eraseIdx_le b2 i
      omega
    refine ⟨bv, uv, .ref pw, ⟨k.rv, b2.eraseIdx i⟩, now, standP (p2.eraseIdx i) now, rfl, e47.book ibm, okl, e47.plan ipm, okls, lsgood, by show (b2.eraseIdx i).length ≤ 6; omega, hn0, tb7, lt7, .inr ⟨pw, _, rfl, lev, tw⟩, fun H8 e8 lt8 => ?_⟩
    refine ⟨_, rfl, iteF ?_⟩
    -- late
    have x8 := ex3.trans (e47.any.trans e8)
    have tb8' := tb7.ext e8
    obtain ⟨_, qr, bx, hq2e, tq0, irq, ⟨qb, usb, rfl, tqb, pbq⟩⟩ := id ib10
    cases hq2e
    obtain ⟨bg, hbg⟩ : ∃ bg, b2[i]? = some bg := ⟨b2[i]'(by omega), List.getElem?_eq_getElem (by omega)⟩
    obtain ⟨xb, hxb, xa, rfl, txb⟩ := pgetR pbq hbg
    have ob := ok2.ok bg (List.mem_of_getElem? hbg)
    refine ⟨_, rfl, _, rfl, _, rfl, _, rfl, _, rfl, .inr (.inl ⟨q2, _, 1, _, rfl, rfl, x8.sqT tq0, atI_nat (j := 1) rfl, _, rfl, .inr (.inl ⟨qb, _, _, _, rfl, rfl, x8.sqT tqb, atI_nat hxb, .inr (.inl ⟨xa, _, 3, _, rfl, rfl, x8.sqT txb, atI_nat (j := 3) rfl, ?_⟩)⟩)⟩)⟩
    refine ⟨_, rfl, a, ns, 5, rfl, sqL_keep lt10 x8 sS10, fun c5 => ⟨_, _, rfl, rfl, by show (10 : Int) ≠ 0; decide, _, _, rfl, rfl, _, _, rfl, ?_⟩⟩
    have hr : 0 ≤ (if bg.r + c5.fmod 10 < 99 then bg.r + c5.fmod 10 else 99) ∧ (if bg.r + c5.fmod 10 < 99 then bg.r + c5.fmod 10 else 99) ≤ 99 := by
      have a1 : 0 ≤ c5.fmod 10 := Int.fmod_nonneg_of_pos _ (by decide)
      have a2 := ob.r0
      split <;> omega
    generalize (if bg.r + c5.fmod 10 < 99 then bg.r + c5.fmod 10 else 99) = rr at hr ⊢
    have hnb : numB 0 99 (.int rr) = true := by
      show (decide (0 ≤ rr) && decide (rr ≤ 99)) = true
      rw [decide_eq_true hr.1, decide_eq_true hr.2]
      rfl
    refine ⟨_, _, .int rr, ⟨k.rv, b2⟩, p2, now, i, rfl, x8.book ib10, ok2, x8.plan ip10, okp2, hi, .int _, tb8', fun r' hr' _ _ _ _ H9 pm9 e9 hpm9 => ?_, fun z _ _ _ => absurd (z.symm.trans hnb) (by simp), fun z _ _ => absurd z (fun z => z.elim (fun z => z good2) hn2), fun _ _ z _ _ => absurd z gone⟩
    obtain rfl : rr = r' := by cases hr'; rfl
    obtain ⟨bv9, uv9, st9, ibm9, ipm9⟩ := hpm9
    refine ⟨pm9, _, rfl, st9, rfl, _, _, rfl, _, _, rfl, rfl, ?_⟩
    have lbp := lateB_put (k := ⟨k.rv, b2⟩) (r := rr) hbg
    have obn : ({ bg with r := rr } : Barge).Ok k.rv.length := ⟨ob.b0, ob.bg, ob.gn, ob.d1, ob.d99, hr.1, hr.2, ob.u0, ob.u199⟩
    have okt := putB_ok (k := ⟨k.rv, b2⟩) ok2 hbg obn
    have hnone : (standP p2 now).getD i none = none := by
      rw [standP_at, getD_of ho]
      show (if h < now then some h else none) = none
      rw [if_neg (by omega)]
    have okts := stand_ok (now := now) okp2
    have tgood := late_good (k := ⟨k.rv, b2⟩) ok2 okts (stand_good (k := ⟨k.rv, b2⟩) okp2 good2) hbg hnone obn
    have ltl : (putL b2 i { bg with r := rr }).length = b2.length := putL_len (by omega)
    rw [lbp] at ibm9
    have okts' : PlOk (Book.mk k.rv (putL b2 i { bg with r := rr })).bs.length (standP p2 now) := by
      show PlOk (putL b2 i { bg with r := rr }).length _
      rw [ltl]
      exact okts
    refine ⟨_, rfl, _, rfl, _, rfl, bv9, uv9, .non, ⟨k.rv, putL b2 i { bg with r := rr }⟩, now, standP p2 now, rfl, ibm9, okt, ipm9, okts', tgood, by show (putL b2 i { bg with r := rr }).length ≤ 6; omega, hn0, tb8'.ext e9, lt8.ext e9, .inl rfl, fun HZ eZ ltZ => ?_⟩
    refine ⟨_, rfl, iteF ?_⟩
    exact ⟨_, _, _, rfl, x8.trans (e9.any.trans eZ), ltZ⟩

end
/-! ### the head -/
def dd_NoPlan___init__ : He.DefD := ⟨("NoPlan", some "__init__"), "__init__", "NoPlan.__init__", defArgs s_NoPlan___init__, defBody s_NoPlan___init__, defScope s_NoPlan___init__, [], []⟩
def dd_is_number : He.DefD := ⟨("is_number", none), "is_number", "is_number", defArgs s_is_number, defBody s_is_number, defScope s_is_number, [], []⟩
def dd_is_row : He.DefD := ⟨("is_row", none), "is_row", "is_row", defArgs s_is_row, defBody s_is_row, defScope s_is_row, [], []⟩
def dd_is_stretch : He.DefD := ⟨("is_stretch", none), "is_stretch", "is_stretch", defArgs s_is_stretch, defBody s_is_stretch, defScope s_is_stretch, [], []⟩
def dd_is_ready : He.DefD := ⟨("is_ready", none), "is_ready", "is_ready", defArgs s_is_ready, defBody s_is_ready, defScope s_is_ready, [], []⟩
def dd_is_barge : He.DefD := ⟨("is_barge", none), "is_barge", "is_barge", defArgs s_is_barge, defBody s_is_barge, defScope s_is_barge, [], []⟩
def dd_check_book : He.DefD := ⟨("check_book", none), "check_book", "check_book", defArgs s_check_book, defBody s_check_book, defScope s_check_book, [], []⟩
def dd_check_plan : He.DefD := ⟨("check_plan", none), "check_plan", "check_plan", defArgs s_check_plan, defBody s_check_plan, defScope s_check_plan, [], []⟩
def dd_arrival : He.DefD := ⟨("arrival", none), "arrival", "arrival", defArgs s_arrival, defBody s_arrival, defScope s_arrival, [], []⟩
def dd_depth_then : He.DefD := ⟨("depth_then", none), "depth_then", "depth_then", defArgs s_depth_then, defBody s_depth_then, defScope s_depth_then, [], []⟩
def dd_hours_of : He.DefD := ⟨("hours_of", none), "hours_of", "hours_of", defArgs s_hours_of, defBody s_hours_of, defScope s_hours_of, [], []⟩
def dd_members : He.DefD := ⟨("members", none), "members", "members", defArgs s_members, defBody s_members, defScope s_members, [], []⟩
def dd_waiting : He.DefD := ⟨("waiting", none), "waiting", "waiting", defArgs s_waiting, defBody s_waiting, defScope s_waiting, [], []⟩
def dd_depths_on_way : He.DefD := ⟨("depths_on_way", none), "depths_on_way", "depths_on_way", defArgs s_depths_on_way, defBody s_depths_on_way, defScope s_depths_on_way, [], []⟩
def dd_against_barge : He.DefD := ⟨("against_barge", none), "against_barge", "against_barge", defArgs s_against_barge, defBody s_against_barge, defScope s_against_barge, [], []⟩
def dd_against_barges : He.DefD := ⟨("against_barges", none), "against_barges", "against_barges", defArgs s_against_barges, defBody s_against_barges, defScope s_against_barges, [], []⟩
def dd_many_on : He.DefD := ⟨("many_on", none), "many_on", "many_on", defArgs s_many_on, defBody s_many_on, defScope s_many_on, [], []⟩
def dd_full_stretches : He.DefD := ⟨("full_stretches", none), "full_stretches", "full_stretches", defArgs s_full_stretches, defBody s_full_stretches, defScope s_full_stretches, [], []⟩
def dd_is_crossed : He.DefD := ⟨("is_crossed", none), "is_crossed", "is_crossed", defArgs s_is_crossed, defBody s_is_crossed, defScope s_is_crossed, [], []⟩
def dd_crossed_barges : He.DefD := ⟨("crossed_barges", none), "crossed_barges", "crossed_barges", defArgs s_crossed_barges, defBody s_crossed_barges, defScope s_crossed_barges, [], []⟩
def dd_all_against : He.DefD := ⟨("all_against", none), "all_against", "all_against", defArgs s_all_against, defBody s_all_against, defScope s_all_against, [], []⟩
def dd_check_good : He.DefD := ⟨("check_good", none), "check_good", "check_good", defArgs s_check_good, defBody s_check_good, defScope s_check_good, [], []⟩
def dd_check_mending : He.DefD := ⟨("check_mending", none), "check_mending", "check_mending", defArgs s_check_mending, defBody s_check_mending, defScope s_check_mending, [], []⟩
def dd_standing : He.DefD := ⟨("standing", none), "standing", "standing", defArgs s_standing, defBody s_standing, defScope s_standing, [], []⟩
def dd_late : He.DefD := ⟨("late", none), "late", "late", defArgs s_late, defBody s_late, defScope s_late, [], []⟩
def dd_without : He.DefD := ⟨("without", none), "without", "without", defArgs s_without, defBody s_without, defScope s_without, [], []⟩
def dd_lost : He.DefD := ⟨("lost", none), "lost", "lost", defArgs s_lost, defBody s_lost, defScope s_lost, [], []⟩
def dd_hours_from : He.DefD := ⟨("hours_from", none), "hours_from", "hours_from", defArgs s_hours_from, defBody s_hours_from, defScope s_hours_from, [], []⟩
def dd_open_barges : He.DefD := ⟨("open_barges", none), "open_barges", "open_barges", defArgs s_open_barges, defBody s_open_barges, defScope s_open_barges, [], []⟩
def dd_with_hour : He.DefD := ⟨("with_hour", none), "with_hour", "with_hour", defArgs s_with_hour, defBody s_with_hour, defScope s_with_hour, [], []⟩
def dd_Choices___init__ : He.DefD := ⟨("Choices", some "__init__"), "__init__", "Choices.__init__", defArgs s_Choices___init__, defBody s_Choices___init__, defScope s_Choices___init__, [], []⟩
def dd_Choices_share : He.DefD := ⟨("Choices", some "share"), "share", "Choices.share", defArgs s_Choices_share, defBody s_Choices_share, defScope s_Choices_share, [], []⟩
def dd_Choices_worth_of : He.DefD := ⟨("Choices", some "worth_of"), "worth_of", "Choices.worth_of", defArgs s_Choices_worth_of, defBody s_Choices_worth_of, defScope s_Choices_worth_of, [], []⟩
def dd_Choices_better_hours : He.DefD := ⟨("Choices", some "better_hours"), "better_hours", "Choices.better_hours", defArgs s_Choices_better_hours, defBody s_Choices_better_hours, defScope s_Choices_better_hours, [], []⟩
def dd_table_for : He.DefD := ⟨("table_for", none), "table_for", "table_for", defArgs s_table_for, defBody s_table_for, defScope s_table_for, [], []⟩
def dd_groups : He.DefD := ⟨("groups", none), "groups", "groups", defArgs s_groups, defBody s_groups, defScope s_groups, [], []⟩
def dd_taken : He.DefD := ⟨("taken", none), "taken", "taken", defArgs s_taken, defBody s_taken, defScope s_taken, [], []⟩
def dd_joined : He.DefD := ⟨("joined", none), "joined", "joined", defArgs s_joined, defBody s_joined, defScope s_joined, [], []⟩
def dd_least : He.DefD := ⟨("least", none), "least", "least", defArgs s_least, defBody s_least, defScope s_least, [], []⟩
def dd_best : He.DefD := ⟨("best", none), "best", "best", defArgs s_best, defBody s_best, defScope s_best, [], []⟩
def dd__law_cell_at : He.DefD := ⟨("_law_cell_at", none), "_law_cell_at", "_law_cell_at", defArgs s__law_cell_at, defBody s__law_cell_at, defScope s__law_cell_at, [], []⟩
def dd__law_dice : He.DefD := ⟨("_law_dice", none), "_law_dice", "_law_dice", defArgs s__law_dice, defBody s__law_dice, defScope s__law_dice, [], []⟩
def dd__law_roll : He.DefD := ⟨("_law_roll", none), "_law_roll", "_law_roll", defArgs s__law_roll, defBody s__law_roll, defScope s__law_roll, [], []⟩
def dd__law_river : He.DefD := ⟨("_law_river", none), "_law_river", "_law_river", defArgs s__law_river, defBody s__law_river, defScope s__law_river, [], []⟩
def dd__law_time : He.DefD := ⟨("_law_time", none), "_law_time", "_law_time", defArgs s__law_time, defBody s__law_time, defScope s__law_time, [], []⟩
def dd__law_barges : He.DefD := ⟨("_law_barges", none), "_law_barges", "_law_barges", defArgs s__law_barges, defBody s__law_barges, defScope s__law_barges, [], []⟩
def dd__law_book : He.DefD := ⟨("_law_book", none), "_law_book", "_law_book", defArgs s__law_book, defBody s__law_book, defScope s__law_book, [], []⟩
def dd__law_depth : He.DefD := ⟨("_law_depth", none), "_law_depth", "_law_depth", defArgs s__law_depth, defBody s__law_depth, defScope s__law_depth, [], []⟩
def dd__law_alone : He.DefD := ⟨("_law_alone", none), "_law_alone", "_law_alone", defArgs s__law_alone, defBody s__law_alone, defScope s__law_alone, [], []⟩
def dd__law_hours : He.DefD := ⟨("_law_hours", none), "_law_hours", "_law_hours", defArgs s__law_hours, defBody s__law_hours, defScope s__law_hours, [], []⟩
def dd__law_full : He.DefD := ⟨("_law_full", none), "_law_full", "_law_full", defArgs s__law_full, defBody s__law_full, defScope s__law_full, [], []⟩
def dd__law_crossed : He.DefD := ⟨("_law_crossed", none), "_law_crossed", "_law_crossed", defArgs s__law_crossed, defBody s__law_crossed, defScope s__law_crossed, [], []⟩
def dd__law_refusals : He.DefD := ⟨("_law_refusals", none), "_law_refusals", "_law_refusals", defArgs s__law_refusals, defBody s__law_refusals, defScope s__law_refusals, [], []⟩
def dd__law_price : He.DefD := ⟨("_law_price", none), "_law_price", "_law_price", defArgs s__law_price, defBody s__law_price, defScope s__law_price, [], []⟩
def dd__law_put : He.DefD := ⟨("_law_put", none), "_law_put", "_law_put", defArgs s__law_put, defBody s__law_put, defScope s__law_put, [], []⟩
def dd__law_good : He.DefD := ⟨("_law_good", none), "_law_good", "_law_good", defArgs s__law_good, defBody s__law_good, defScope s__law_good, [], []⟩
def dd__law_every : He.DefD := ⟨("_law_every", none), "_law_every", "_law_every", defArgs s__law_every, defBody s__law_every, defScope s__law_every, [], []⟩
def dd__law_is_mended : He.DefD := ⟨("_law_is_mended", none), "_law_is_mended", "_law_is_mended", defArgs s__law_is_mended, defBody s__law_is_mended, defScope s__law_is_mended, [], []⟩
def dd_law : He.DefD := ⟨("law", none), "law", "law", defArgs s_law, defBody s_law, defScope s_law, [], []⟩
def hfn : List He.DefD := dd_NoPlan___init__ :: dd_is_number :: dd_is_row :: dd_is_stretch :: dd_is_ready :: dd_is_barge :: dd_check_book :: dd_check_plan :: dd_arrival :: dd_depth_then :: dd_hours_of :: dd_members :: dd_waiting :: dd_depths_on_way :: dd_against_barge :: dd_against_barges :: dd_many_on :: dd_full_stretches :: dd_is_crossed :: dd_crossed_barges :: dd_all_against :: dd_check_good :: dd_check_mending :: dd_standing :: dd_late :: dd_without :: dd_lost :: dd_hours_from :: dd_open_barges :: dd_with_hour :: dd_Choices___init__ :: dd_Choices_share :: dd_Choices_worth_of :: dd_Choices_better_hours :: dd_table_for :: dd_groups :: dd_taken :: dd_joined :: dd_least :: dd_best :: dd__law_cell_at :: dd__law_dice :: dd__law_roll :: dd__law_river :: dd__law_time :: dd__law_barges :: dd__law_book :: dd__law_depth :: dd__law_alone :: dd__law_hours :: dd__law_full :: dd__law_crossed :: dd__law_refusals :: dd__law_price :: dd__law_put :: dd__law_good :: dd__law_every :: dd__law_is_mended :: dd_law :: []
def hfa : List He.Fa := (.glo "is_number" : He.Fa) :: (.glo "is_row" : He.Fa) :: (.glo "is_stretch" : He.Fa) :: (.glo "is_ready" : He.Fa) :: (.glo "is_barge" : He.Fa) :: (.glo "check_book" : He.Fa) :: (.glo "check_plan" : He.Fa) :: (.glo "arrival" : He.Fa) :: (.glo "depth_then" : He.Fa) :: (.glo "hours_of" : He.Fa) :: (.glo "members" : He.Fa) :: (.glo "waiting" : He.Fa) :: (.glo "depths_on_way" : He.Fa) :: (.glo "against_barge" : He.Fa) :: (.glo "against_barges" : He.Fa) :: (.glo "many_on" : He.Fa) :: (.glo "full_stretches" : He.Fa) :: (.glo "is_crossed" : He.Fa) :: (.glo "crossed_barges" : He.Fa) :: (.glo "all_against" : He.Fa) :: (.glo "check_good" : He.Fa) :: (.glo "check_mending" : He.Fa) :: (.glo "standing" : He.Fa) :: (.glo "late" : He.Fa) :: (.glo "without" : He.Fa) :: (.glo "lost" : He.Fa) :: (.glo "hours_from" : He.Fa) :: (.glo "open_barges" : He.Fa) :: (.glo "with_hour" : He.Fa) :: (.glo "table_for" : He.Fa) :: (.glo "groups" : He.Fa) :: (.glo "taken" : He.Fa) :: (.glo "joined" : He.Fa) :: (.glo "least" : He.Fa) :: (.glo "best" : He.Fa) :: (.glo "_law_cell_at" : He.Fa) :: (.glo "_law_dice" : He.Fa) :: (.glo "_law_roll" : He.Fa) :: (.glo "_law_river" : He.Fa) :: (.glo "_law_time" : He.Fa) :: (.glo "_law_barges" : He.Fa) :: (.glo "_law_book" : He.Fa) :: (.glo "_law_depth" : He.Fa) :: (.glo "_law_alone" : He.Fa) :: (.glo "_law_hours" : He.Fa) :: (.glo "_law_full" : He.Fa) :: (.glo "_law_crossed" : He.Fa) :: (.glo "_law_refusals" : He.Fa) :: (.glo "_law_price" : He.Fa) :: (.glo "_law_put" : He.Fa) :: (.glo "_law_good" : He.Fa) :: (.glo "_law_every" : He.Fa) :: (.glo "_law_is_mended" : He.Fa) :: (.glo "law" : He.Fa) :: (.free "all" : He.Fa) :: (.free "bool" : He.Fa) :: (.free "case" : He.Fa) :: (.free "enumerate" : He.Fa) :: (.free "found" : He.Fa) :: (.free "int" : He.Fa) :: (.free "isinstance" : He.Fa) :: (.free "len" : He.Fa) :: (.free "list" : He.Fa) :: (.free "max" : He.Fa) :: (.free "min" : He.Fa) :: (.free "range" : He.Fa) :: (.free "sorted" : He.Fa) :: (.free "sum" : He.Fa) :: (.free "tuple" : He.Fa) :: (.int "HOURS" 12 : He.Fa) :: (.glo "TowError" : He.Fa) :: (.glo "BadBook" : He.Fa) :: (.glo "BadPlan" : He.Fa) :: (.glo "NoPlan" : He.Fa) :: (.glo "Gone" : He.Fa) :: (.exm "BadBook" "TowError" true : He.Fa) :: (.exm "BadPlan" "TowError" true : He.Fa) :: (.exm "NoPlan" "TowError" true : He.Fa) :: (.exm "Gone" "TowError" true : He.Fa) :: (.exc "BadBook" : He.Fa) :: (.exc "BadPlan" : He.Fa) :: (.exc "Gone" : He.Fa) :: (.glo "WORST" : He.Fa) :: (.glo "Choices" : He.Fa) :: (.cls "Choices" : He.Fa) :: (.mkr "Choices" : He.Fa) :: (.noat "Choices" "book" : He.Fa) :: (.noat "Choices" "waits" : He.Fa) :: (.noat "Choices" "alone" : He.Fa) :: (.noat "Choices" "sharing" : He.Fa) :: (.meth "Choices" "share" : He.Fa) :: (.meth "Choices" "worth_of" : He.Fa) :: (.meth "Choices" "better_hours" : He.Fa) :: []
def htf : List He.Defn := (("is_stretch", none) : He.Defn) :: (("check_book", none) : He.Defn) :: (("check_plan", none) : He.Defn) :: (("arrival", none) : He.Defn) :: (("standing", none) : He.Defn) :: (("without", none) : He.Defn) :: (("Choices", some "share") : He.Defn) :: (("taken", none) : He.Defn) :: (("table_for", none) : He.Defn) :: (("best", none) : He.Defn) :: []
def hgf : List He.Defn := (("is_stretch", none) : He.Defn) :: (("check_book", none) : He.Defn) :: (("check_plan", none) : He.Defn) :: (("arrival", none) : He.Defn) :: (("standing", none) : He.Defn) :: (("without", none) : He.Defn) :: (("Choices", some "share") : He.Defn) :: (("taken", none) : He.Defn) :: []
def hlf : List He.Defn := (("table_for", none) : He.Defn) :: (("best", none) : He.Defn) :: []
abbrev RR : PySem.W.OpenRow := PySem.W.OpenLaw.row PySem.Challenge.rw_towbarges_k14_whole_mended
def hex : PySem.W.Frag → Bool := (fun K => (fun K => (GXC.exAll (("BadBook" : PySem.Str) :: ("BadPlan" : PySem.Str) :: ("NoPlan" : PySem.Str) :: ("Gone" : PySem.Str) :: [])) K && (NP.npB K (He.ga K "NoPlan") (He.ga K "TowError") (He.fAd K ("NoPlan", some "__init__")) && (NP.tupB K (He.ga K "WORST") [13, 0]))) K && LM.apartB hgf hlf K)
abbrev hk : PySem.W.Hook := HY.hook 5 hfa hfn [] htf hex
def hob (s : PySem.W.SharedT) : He.AlX := HY.seen hfa hfn [] htf hex 5 (HandSHeadRun.getT s)
theorem hob_eq (s : PySem.W.SharedT) : hob s = hk.obs s.abs := HY.seen_eq (HandSHeadRun.getT_eq s)
def hloose : List PySem.Str := ("is_number" : PySem.Str) :: ("is_row" : PySem.Str) :: ("is_stretch" : PySem.Str) :: ("is_ready" : PySem.Str) :: ("is_barge" : PySem.Str) :: ("check_book" : PySem.Str) :: ("check_plan" : PySem.Str) :: ("arrival" : PySem.Str) :: ("depth_then" : PySem.Str) :: ("hours_of" : PySem.Str) :: ("members" : PySem.Str) :: ("waiting" : PySem.Str) :: ("depths_on_way" : PySem.Str) :: ("against_barge" : PySem.Str) :: ("against_barges" : PySem.Str) :: ("many_on" : PySem.Str) :: ("full_stretches" : PySem.Str) :: ("is_crossed" : PySem.Str) :: ("crossed_barges" : PySem.Str) :: ("all_against" : PySem.Str) :: ("check_good" : PySem.Str) :: ("check_mending" : PySem.Str) :: ("standing" : PySem.Str) :: ("late" : PySem.Str) :: ("without" : PySem.Str) :: ("lost" : PySem.Str) :: ("hours_from" : PySem.Str) :: ("open_barges" : PySem.Str) :: ("with_hour" : PySem.Str) :: ("table_for" : PySem.Str) :: ("groups" : PySem.Str) :: ("taken" : PySem.Str) :: ("joined" : PySem.Str) :: ("least" : PySem.Str) :: ("best" : PySem.Str) :: ("_law_cell_at" : PySem.Str) :: ("_law_dice" : PySem.Str) :: ("_law_roll" : PySem.Str) :: ("_law_river" : PySem.Str) :: ("_law_time" : PySem.Str) :: ("_law_barges" : PySem.Str) :: ("_law_book" : PySem.Str) :: ("_law_depth" : PySem.Str) :: ("_law_alone" : PySem.Str) :: ("_law_hours" : PySem.Str) :: ("_law_full" : PySem.Str) :: ("_law_crossed" : PySem.Str) :: ("_law_refusals" : PySem.Str) :: ("_law_price" : PySem.Str) :: ("_law_put" : PySem.Str) :: ("_law_good" : PySem.Str) :: ("_law_every" : PySem.Str) :: ("_law_is_mended" : PySem.Str) :: ("TowError" : PySem.Str) :: ("BadBook" : PySem.Str) :: ("BadPlan" : PySem.Str) :: ("NoPlan" : PySem.Str) :: ("Gone" : PySem.Str) :: ("Choices" : PySem.Str) :: ("HOURS" : PySem.Str) :: ("WORST" : PySem.Str) :: []
set_option maxHeartbeats 0 in
theorem hrun (w : World) : HandSHeadRun.RunEq RR (PySem.W.view RR.prog [69]) hk hob 6000 hloose w := by
  intro os
  kernel_rfl
theorem code_of {K : PySem.W.Frag} {x q : Str} {pa : Arguments} {bd : List Stmt} {sc : Scope} {p : He.Defn} {fd : FuncData} (F : FunD K x q pa bd sc [] [] (He.fAd K p) fd) : fd.code = .ref (He.cT K p).1 := by
  obtain ⟨oc, od, dV, kV, doc, pm, an, cdv, ct, osl, rfl, lk, hcd, _, _⟩ := F.ex
  obtain ⟨c, rfl⟩ := He.codeIn_ref hcd
  show Value.ref c = .ref (He.codeOf K p)
  rw [He.codeOf_eq lk rfl]
theorem hfacts {w : World} {K : PySem.W.Frag} {h : Heap} {mg : Str → Option Value} (X : K.In h) (G : h.Ns mainGlobals mg) (c : He.SaysX hfa hfn [] htf hex w h K) :
    ∃ A : Ad, A.a_law = He.ga K "law" ∧ (A.k_is_stretch = He.cT K ("is_stretch", none) ∧ A.k_check_book = He.cT K ("check_book", none) ∧ A.k_check_plan = He.cT K ("check_plan", none) ∧ A.k_arrival = He.cT K ("arrival", none) ∧ A.k_standing = He.cT K ("standing", none) ∧ A.k_without = He.cT K ("without", none) ∧ A.k_Choices_share = He.cT K ("Choices", some "share") ∧ A.k_taken = He.cT K ("taken", none) ∧ A.k_table_for = He.cT K ("table_for", none) ∧ A.k_best = He.cT K ("best", none)) ∧ (∀ (s : Shared) (v : Value), BindsTo s A.d_law ⟨[v], []⟩ [("_law_script", v)]) ∧ ∀ base : Heap, GxR.TabB base mg (He.cT K ("is_stretch", none)).1 (He.cT K ("is_stretch", none)).2 → GxR.TabB base mg (He.cT K ("check_book", none)).1 (He.cT K ("check_book", none)).2 → GxR.TabB base mg (He.cT K ("check_plan", none)).1 (He.cT K ("check_plan", none)).2 → GxR.TabB base mg (He.cT K ("arrival", none)).1 (He.cT K ("arrival", none)).2 → GxR.TabB base mg (He.cT K ("standing", none)).1 (He.cT K ("standing", none)).2 → GxR.TabB base mg (He.cT K ("without", none)).1 (He.cT K ("without", none)).2 → GxR.TabB base mg (He.cT K ("Choices", some "share")).1 (He.cT K ("Choices", some "share")).2 → GxR.TabB base mg (He.cT K ("taken", none)).1 (He.cT K ("taken", none)).2 → GxR.TabB base mg (He.cT K ("table_for", none)).1 (He.cT K ("table_for", none)).2 → GxR.TabB base mg (He.cT K ("best", none)).1 (He.cT K ("best", none)).2 → Facts A K mg base := by
  have cd : He.SaysD hfa hfn K := congrArg (fun z : He.AlT => z.1) c.t
  have cm0 : (fun K => (GXC.exAll (("BadBook" : PySem.Str) :: ("BadPlan" : PySem.Str) :: ("NoPlan" : PySem.Str) :: ("Gone" : PySem.Str) :: [])) K && (NP.npB K (He.ga K "NoPlan") (He.ga K "TowError") (He.fAd K ("NoPlan", some "__init__")) && (NP.tupB K (He.ga K "WORST") [13, 0]))) K = true := (Bool.and_eq_true_iff.mp c.more).1
  have cme : (GXC.exAll (("BadBook" : PySem.Str) :: ("BadPlan" : PySem.Str) :: ("NoPlan" : PySem.Str) :: ("Gone" : PySem.Str) :: [])) K = true := (Bool.and_eq_true_iff.mp cm0).1
  have cnp : (NP.npB K (He.ga K "NoPlan") (He.ga K "TowError") (He.fAd K ("NoPlan", some "__init__")) && (NP.tupB K (He.ga K "WORST") [13, 0])) = true := (Bool.and_eq_true_iff.mp cm0).2
  obtain ⟨fd_NoPlan___init__, F_NoPlan___init__⟩ := cd.defs (d := dd_NoPlan___init__) (by unfold hfn; simp)
  obtain ⟨fd_is_number, F_is_number⟩ := cd.defs (d := dd_is_number) (by unfold hfn; simp)
  obtain ⟨fd_is_row, F_is_row⟩ := cd.defs (d := dd_is_row) (by unfold hfn; simp)
  obtain ⟨fd_is_stretch, F_is_stretch⟩ := cd.defs (d := dd_is_stretch) (by unfold hfn; simp)
  obtain ⟨fd_is_ready, F_is_ready⟩ := cd.defs (d := dd_is_ready) (by unfold hfn; simp)
  obtain ⟨fd_is_barge, F_is_barge⟩ := cd.defs (d := dd_is_barge) (by unfold hfn; simp)
  obtain ⟨fd_check_book, F_check_book⟩ := cd.defs (d := dd_check_book) (by unfold hfn; simp)
  obtain ⟨fd_check_plan, F_check_plan⟩ := cd.defs (d := dd_check_plan) (by unfold hfn; simp)
  obtain ⟨fd_arrival, F_arrival⟩ := cd.defs (d := dd_arrival) (by unfold hfn; simp)
  obtain ⟨fd_depth_then, F_depth_then⟩ := cd.defs (d := dd_depth_then) (by unfold hfn; simp)
  obtain ⟨fd_hours_of, F_hours_of⟩ := cd.defs (d := dd_hours_of) (by unfold hfn; simp)
  obtain ⟨fd_members, F_members⟩ := cd.defs (d := dd_members) (by unfold hfn; simp)
  obtain ⟨fd_waiting, F_waiting⟩ := cd.defs (d := dd_waiting) (by unfold hfn; simp)
  obtain ⟨fd_depths_on_way, F_depths_on_way⟩ := cd.defs (d := dd_depths_on_way) (by unfold hfn; simp)
  obtain ⟨fd_against_barge, F_against_barge⟩ := cd.defs (d := dd_against_barge) (by unfold hfn; simp)
  obtain ⟨fd_against_barges, F_against_barges⟩ := cd.defs (d := dd_against_barges) (by unfold hfn; simp)
  obtain ⟨fd_many_on, F_many_on⟩ := cd.defs (d := dd_many_on) (by unfold hfn; simp)
  obtain ⟨fd_full_stretches, F_full_stretches⟩ := cd.defs (d := dd_full_stretches) (by unfold hfn; simp)
  obtain ⟨fd_is_crossed, F_is_crossed⟩ := cd.defs (d := dd_is_crossed) (by unfold hfn; simp)
  obtain ⟨fd_crossed_barges, F_crossed_barges⟩ := cd.defs (d := dd_crossed_barges) (by unfold hfn; simp)
  obtain ⟨fd_all_against, F_all_against⟩ := cd.defs (d := dd_all_against) (by unfold hfn; simp)
  obtain ⟨fd_check_good, F_check_good⟩ := cd.defs (d := dd_check_good) (by unfold hfn; simp)
  obtain ⟨fd_check_mending, F_check_mending⟩ := cd.defs (d := dd_check_mending) (by unfold hfn; simp)
  obtain ⟨fd_standing, F_standing⟩ := cd.defs (d := dd_standing) (by unfold hfn; simp)
  obtain ⟨fd_late, F_late⟩ := cd.defs (d := dd_late) (by unfold hfn; simp)
  obtain ⟨fd_without, F_without⟩ := cd.defs (d := dd_without) (by unfold hfn; simp)
  obtain ⟨fd_lost, F_lost⟩ := cd.defs (d := dd_lost) (by unfold hfn; simp)
  obtain ⟨fd_hours_from, F_hours_from⟩ := cd.defs (d := dd_hours_from) (by unfold hfn; simp)
  obtain ⟨fd_open_barges, F_open_barges⟩ := cd.defs (d := dd_open_barges) (by unfold hfn; simp)
  obtain ⟨fd_with_hour, F_with_hour⟩ := cd.defs (d := dd_with_hour) (by unfold hfn; simp)
  obtain ⟨fd_Choices___init__, F_Choices___init__⟩ := cd.defs (d := dd_Choices___init__) (by unfold hfn; simp)
  obtain ⟨fd_Choices_share, F_Choices_share⟩ := cd.defs (d := dd_Choices_share) (by unfold hfn; simp)
  obtain ⟨fd_Choices_worth_of, F_Choices_worth_of⟩ := cd.defs (d := dd_Choices_worth_of) (by unfold hfn; simp)
  obtain ⟨fd_Choices_better_hours, F_Choices_better_hours⟩ := cd.defs (d := dd_Choices_better_hours) (by unfold hfn; simp)
  obtain ⟨fd_table_for, F_table_for⟩ := cd.defs (d := dd_table_for) (by unfold hfn; simp)
  obtain ⟨fd_groups, F_groups⟩ := cd.defs (d := dd_groups) (by unfold hfn; simp)
  obtain ⟨fd_taken, F_taken⟩ := cd.defs (d := dd_taken) (by unfold hfn; simp)
  obtain ⟨fd_joined, F_joined⟩ := cd.defs (d := dd_joined) (by unfold hfn; simp)
  obtain ⟨fd_least, F_least⟩ := cd.defs (d := dd_least) (by unfold hfn; simp)
  obtain ⟨fd_best, F_best⟩ := cd.defs (d := dd_best) (by unfold hfn; simp)
  obtain ⟨fd__law_cell_at, F__law_cell_at⟩ := cd.defs (d := dd__law_cell_at) (by unfold hfn; simp)
  obtain ⟨fd__law_dice, F__law_dice⟩ := cd.defs (d := dd__law_dice) (by unfold hfn; simp)
  obtain ⟨fd__law_roll, F__law_roll⟩ := cd.defs (d := dd__law_roll) (by unfold hfn; simp)
  obtain ⟨fd__law_river, F__law_river⟩ := cd.defs (d := dd__law_river) (by unfold hfn; simp)
  obtain ⟨fd__law_time, F__law_time⟩ := cd.defs (d := dd__law_time) (by unfold hfn; simp)
  obtain ⟨fd__law_barges, F__law_barges⟩ := cd.defs (d := dd__law_barges) (by unfold hfn; simp)
  obtain ⟨fd__law_book, F__law_book⟩ := cd.defs (d := dd__law_book) (by unfold hfn; simp)
  obtain ⟨fd__law_depth, F__law_depth⟩ := cd.defs (d := dd__law_depth) (by unfold hfn; simp)
  obtain ⟨fd__law_alone, F__law_alone⟩ := cd.defs (d := dd__law_alone) (by unfold hfn; simp)
  obtain ⟨fd__law_hours, F__law_hours⟩ := cd.defs (d := dd__law_hours) (by unfold hfn; simp)
  obtain ⟨fd__law_full, F__law_full⟩ := cd.defs (d := dd__law_full) (by unfold hfn; simp)
  obtain ⟨fd__law_crossed, F__law_crossed⟩ := cd.defs (d := dd__law_crossed) (by unfold hfn; simp)
  obtain ⟨fd__law_refusals, F__law_refusals⟩ := cd.defs (d := dd__law_refusals) (by unfold hfn; simp)
  obtain ⟨fd__law_price, F__law_price⟩ := cd.defs (d := dd__law_price) (by unfold hfn; simp)
  obtain ⟨fd__law_put, F__law_put⟩ := cd.defs (d := dd__law_put) (by unfold hfn; simp)
  obtain ⟨fd__law_good, F__law_good⟩ := cd.defs (d := dd__law_good) (by unfold hfn; simp)
  obtain ⟨fd__law_every, F__law_every⟩ := cd.defs (d := dd__law_every) (by unfold hfn; simp)
  obtain ⟨fd__law_is_mended, F__law_is_mended⟩ := cd.defs (d := dd__law_is_mended) (by unfold hfn; simp)
  obtain ⟨fd_law, F_law⟩ := cd.defs (d := dd_law) (by unfold hfn; simp)
  refine ⟨⟨He.fAd K ("NoPlan", some "__init__"), fd_NoPlan___init__, He.ga K "is_number", fd_is_number, He.ga K "is_row", fd_is_row, He.ga K "is_stretch", fd_is_stretch, He.cT K ("is_stretch", none), He.ga K "is_ready", fd_is_ready, He.ga K "is_barge", fd_is_barge, He.ga K "check_book", fd_check_book, He.cT K ("check_book", none), He.ga K "check_plan", fd_check_plan, He.cT K ("check_plan", none), He.ga K "arrival", fd_arrival, He.cT K ("arrival", none), He.ga K "depth_then", fd_depth_then, He.ga K "hours_of", fd_hours_of, He.ga K "members", fd_members, He.ga K "waiting", fd_waiting, He.ga K "depths_on_way", fd_depths_on_way, He.ga K "against_barge", fd_against_barge, He.ga K "against_barges", fd_against_barges, He.ga K "many_on", fd_many_on, He.ga K "full_stretches", fd_full_stretches, He.ga K "is_crossed", fd_is_crossed, He.ga K "crossed_barges", fd_crossed_barges, He.ga K "all_against", fd_all_against, He.ga K "check_good", fd_check_good, He.ga K "check_mending", fd_check_mending, He.ga K "standing", fd_standing, He.cT K ("standing", none), He.ga K "late", fd_late, He.ga K "without", fd_without, He.cT K ("without", none), He.ga K "lost", fd_lost, He.ga K "hours_from", fd_hours_from, He.ga K "open_barges", fd_open_barges, He.ga K "with_hour", fd_with_hour, He.fAd K ("Choices", some "__init__"), fd_Choices___init__, He.fAd K ("Choices", some "share"), fd_Choices_share, He.cT K ("Choices", some "share"), He.fAd K ("Choices", some "worth_of"), fd_Choices_worth_of, He.fAd K ("Choices", some "better_hours"), fd_Choices_better_hours, He.ga K "table_for", fd_table_for, He.cT K ("table_for", none), He.ga K "groups", fd_groups, He.ga K "taken", fd_taken, He.cT K ("taken", none), He.ga K "joined", fd_joined, He.ga K "least", fd_least, He.ga K "best", fd_best, He.cT K ("best", none), He.ga K "_law_cell_at", fd__law_cell_at, He.ga K "_law_dice", fd__law_dice, He.ga K "_law_roll", fd__law_roll, He.ga K "_law_river", fd__law_river, He.ga K "_law_time", fd__law_time, He.ga K "_law_barges", fd__law_barges, He.ga K "_law_book", fd__law_book, He.ga K "_law_depth", fd__law_depth, He.ga K "_law_alone", fd__law_alone, He.ga K "_law_hours", fd__law_hours, He.ga K "_law_full", fd__law_full, He.ga K "_law_crossed", fd__law_crossed, He.ga K "_law_refusals", fd__law_refusals, He.ga K "_law_price", fd__law_price, He.ga K "_law_put", fd__law_put, He.ga K "_law_good", fd__law_good, He.ga K "_law_every", fd__law_every, He.ga K "_law_is_mended", fd__law_is_mended, He.ga K "law", fd_law, He.ga K "TowError", He.ga K "BadBook", He.ga K "BadPlan", He.ga K "NoPlan", He.ga K "Gone", He.ga K "Choices", He.ga K "WORST"⟩, rfl, ⟨rfl, rfl, rfl, rfl, rfl, rfl, rfl, rfl, rfl, rfl⟩, fun s v => FunD.bindsA (ps := ["_law_script"]) F_law (fun _ _ _ _ _ _ us hl => match us, hl with | [_], _ => rfl) s [v] rfl, fun base t_is_stretch t_check_book t_check_plan t_arrival t_standing t_without t_Choices_share t_taken t_table_for t_best => ?_⟩
  exact {
    F_NoPlan___init__ := F_NoPlan___init__
    b_NoPlan___init__ := F_NoPlan___init__.bindsN fun _ _ _ _ _ _ us hl => match us, hl with | [_, _], _ => rfl
    F_is_number := F_is_number
    g_is_number := He.glo_ok X G (cd.facts (f := .glo "is_number") (by unfold hfa; simp))
    b_is_number := F_is_number.bindsN fun _ _ _ _ _ _ us hl => match us, hl with | [_, _, _], _ => rfl
    F_is_row := F_is_row
    g_is_row := He.glo_ok X G (cd.facts (f := .glo "is_row") (by unfold hfa; simp))
    b_is_row := F_is_row.bindsN fun _ _ _ _ _ _ us hl => match us, hl with | [_, _, _], _ => rfl
    F_is_stretch := F_is_stretch
    g_is_stretch := He.glo_ok X G (cd.facts (f := .glo "is_stretch") (by unfold hfa; simp))
    b_is_stretch := F_is_stretch.bindsN fun _ _ _ _ _ _ us hl => match us, hl with | [_], _ => rfl
    h_is_stretch := code_of (p := ("is_stretch", none)) F_is_stretch
    t_is_stretch := t_is_stretch
    F_is_ready := F_is_ready
    g_is_ready := He.glo_ok X G (cd.facts (f := .glo "is_ready") (by unfold hfa; simp))
    b_is_ready := F_is_ready.bindsN fun _ _ _ _ _ _ us hl => match us, hl with | [_], _ => rfl
    F_is_barge := F_is_barge
    g_is_barge := He.glo_ok X G (cd.facts (f := .glo "is_barge") (by unfold hfa; simp))
    b_is_barge := F_is_barge.bindsN fun _ _ _ _ _ _ us hl => match us, hl with | [_, _], _ => rfl
    F_check_book := F_check_book
    g_check_book := He.glo_ok X G (cd.facts (f := .glo "check_book") (by unfold hfa; simp))
    b_check_book := F_check_book.bindsN fun _ _ _ _ _ _ us hl => match us, hl with | [_], _ => rfl
    h_check_book := code_of (p := ("check_book", none)) F_check_book
    t_check_book := t_check_book
    F_check_plan := F_check_plan
    g_check_plan := He.glo_ok X G (cd.facts (f := .glo "check_plan") (by unfold hfa; simp))
    b_check_plan := F_check_plan.bindsN fun _ _ _ _ _ _ us hl => match us, hl with | [_, _], _ => rfl
    h_check_plan := code_of (p := ("check_plan", none)) F_check_plan
    t_check_plan := t_check_plan
    F_arrival := F_arrival
    g_arrival := He.glo_ok X G (cd.facts (f := .glo "arrival") (by unfold hfa; simp))
    b_arrival := F_arrival.bindsN fun _ _ _ _ _ _ us hl => match us, hl with | [_, _, _], _ => rfl
    h_arrival := code_of (p := ("arrival", none)) F_arrival
    t_arrival := t_arrival
    F_depth_then := F_depth_then
    g_depth_then := He.glo_ok X G (cd.facts (f := .glo "depth_then") (by unfold hfa; simp))
    b_depth_then := F_depth_then.bindsN fun _ _ _ _ _ _ us hl => match us, hl with | [_, _, _], _ => rfl
    F_hours_of := F_hours_of
    g_hours_of := He.glo_ok X G (cd.facts (f := .glo "hours_of") (by unfold hfa; simp))
    b_hours_of := F_hours_of.bindsN fun _ _ _ _ _ _ us hl => match us, hl with | [_], _ => rfl
    F_members := F_members
    g_members := He.glo_ok X G (cd.facts (f := .glo "members") (by unfold hfa; simp))
    b_members := F_members.bindsN fun _ _ _ _ _ _ us hl => match us, hl with | [_, _], _ => rfl
    F_waiting := F_waiting
    g_waiting := He.glo_ok X G (cd.facts (f := .glo "waiting") (by unfold hfa; simp))
    b_waiting := F_waiting.bindsN fun _ _ _ _ _ _ us hl => match us, hl with | [_, _, _], _ => rfl
    F_depths_on_way := F_depths_on_way
    g_depths_on_way := He.glo_ok X G (cd.facts (f := .glo "depths_on_way") (by unfold hfa; simp))
    b_depths_on_way := F_depths_on_way.bindsN fun _ _ _ _ _ _ us hl => match us, hl with | [_, _, _], _ => rfl
    F_against_barge := F_against_barge
    g_against_barge := He.glo_ok X G (cd.facts (f := .glo "against_barge") (by unfold hfa; simp))
    b_against_barge := F_against_barge.bindsN fun _ _ _ _ _ _ us hl => match us, hl with | [_, _, _], _ => rfl
    F_against_barges := F_against_barges
    g_against_barges := He.glo_ok X G (cd.facts (f := .glo "against_barges") (by unfold hfa; simp))
    b_against_barges := F_against_barges.bindsN fun _ _ _ _ _ _ us hl => match us, hl with | [_, _], _ => rfl
    F_many_on := F_many_on
    g_many_on := He.glo_ok X G (cd.facts (f := .glo "many_on") (by unfold hfa; simp))
    b_many_on := F_many_on.bindsN fun _ _ _ _ _ _ us hl => match us, hl with | [_, _, _], _ => rfl
    F_full_stretches := F_full_stretches
    g_full_stretches := He.glo_ok X G (cd.facts (f := .glo "full_stretches") (by unfold hfa; simp))
    b_full_stretches := F_full_stretches.bindsN fun _ _ _ _ _ _ us hl => match us, hl with | [_, _], _ => rfl
    F_is_crossed := F_is_crossed
    g_is_crossed := He.glo_ok X G (cd.facts (f := .glo "is_crossed") (by unfold hfa; simp))
    b_is_crossed := F_is_crossed.bindsN fun _ _ _ _ _ _ us hl => match us, hl with | [_, _], _ => rfl
    F_crossed_barges := F_crossed_barges
    g_crossed_barges := He.glo_ok X G (cd.facts (f := .glo "crossed_barges") (by unfold hfa; simp))
    b_crossed_barges := F_crossed_barges.bindsN fun _ _ _ _ _ _ us hl => match us, hl with | [_, _], _ => rfl
    F_all_against := F_all_against
    g_all_against := He.glo_ok X G (cd.facts (f := .glo "all_against") (by unfold hfa; simp))
    b_all_against := F_all_against.bindsN fun _ _ _ _ _ _ us hl => match us, hl with | [_, _], _ => rfl
    F_check_good := F_check_good
    g_check_good := He.glo_ok X G (cd.facts (f := .glo "check_good") (by unfold hfa; simp))
    b_check_good := F_check_good.bindsN fun _ _ _ _ _ _ us hl => match us, hl with | [_, _], _ => rfl
    F_check_mending := F_check_mending
    g_check_mending := He.glo_ok X G (cd.facts (f := .glo "check_mending") (by unfold hfa; simp))
    b_check_mending := F_check_mending.bindsN fun _ _ _ _ _ _ us hl => match us, hl with | [_, _, _, _], _ => rfl
    F_standing := F_standing
    g_standing := He.glo_ok X G (cd.facts (f := .glo "standing") (by unfold hfa; simp))
    b_standing := F_standing.bindsN fun _ _ _ _ _ _ us hl => match us, hl with | [_, _], _ => rfl
    h_standing := code_of (p := ("standing", none)) F_standing
    t_standing := t_standing
    F_late := F_late
    g_late := He.glo_ok X G (cd.facts (f := .glo "late") (by unfold hfa; simp))
    b_late := F_late.bindsN fun _ _ _ _ _ _ us hl => match us, hl with | [_, _, _, _, _], _ => rfl
    F_without := F_without
    g_without := He.glo_ok X G (cd.facts (f := .glo "without") (by unfold hfa; simp))
    b_without := F_without.bindsN fun _ _ _ _ _ _ us hl => match us, hl with | [_, _], _ => rfl
    h_without := code_of (p := ("without", none)) F_without
    t_without := t_without
    F_lost := F_lost
    g_lost := He.glo_ok X G (cd.facts (f := .glo "lost") (by unfold hfa; simp))
    b_lost := F_lost.bindsN fun _ _ _ _ _ _ us hl => match us, hl with | [_, _, _, _], _ => rfl
    F_hours_from := F_hours_from
    g_hours_from := He.glo_ok X G (cd.facts (f := .glo "hours_from") (by unfold hfa; simp))
    b_hours_from := F_hours_from.bindsN fun _ _ _ _ _ _ us hl => match us, hl with | [_], _ => rfl
    F_open_barges := F_open_barges
    g_open_barges := He.glo_ok X G (cd.facts (f := .glo "open_barges") (by unfold hfa; simp))
    b_open_barges := F_open_barges.bindsN fun _ _ _ _ _ _ us hl => match us, hl with | [_], _ => rfl
    F_with_hour := F_with_hour
    g_with_hour := He.glo_ok X G (cd.facts (f := .glo "with_hour") (by unfold hfa; simp))
    b_with_hour := F_with_hour.bindsN fun _ _ _ _ _ _ us hl => match us, hl with | [_, _, _], _ => rfl
    F_Choices___init__ := F_Choices___init__
    b_Choices___init__ := F_Choices___init__.bindsN fun _ _ _ _ _ _ us hl => match us, hl with | [_, _, _], _ => rfl
    F_Choices_share := F_Choices_share
    m_Choices_share := He.meth_ok (cd.facts (f := .meth "Choices" "share") (by unfold hfa; simp))
    b_Choices_share := F_Choices_share.bindsN fun _ _ _ _ _ _ us hl => match us, hl with | [_, _], _ => rfl
    h_Choices_share := code_of (p := ("Choices", some "share")) F_Choices_share
    t_Choices_share := t_Choices_share
    F_Choices_worth_of := F_Choices_worth_of
    m_Choices_worth_of := He.meth_ok (cd.facts (f := .meth "Choices" "worth_of") (by unfold hfa; simp))
    b_Choices_worth_of := F_Choices_worth_of.bindsN fun _ _ _ _ _ _ us hl => match us, hl with | [_, _], _ => rfl
    F_Choices_better_hours := F_Choices_better_hours
    m_Choices_better_hours := He.meth_ok (cd.facts (f := .meth "Choices" "better_hours") (by unfold hfa; simp))
    b_Choices_better_hours := F_Choices_better_hours.bindsN fun _ _ _ _ _ _ us hl => match us, hl with | [_, _, _, _], _ => rfl
    F_table_for := F_table_for
    g_table_for := He.glo_ok X G (cd.facts (f := .glo "table_for") (by unfold hfa; simp))
    b_table_for := F_table_for.bindsN fun _ _ _ _ _ _ us hl => match us, hl with | [_, _, _], _ => rfl
    h_table_for := code_of (p := ("table_for", none)) F_table_for
    t_table_for := t_table_for
    F_groups := F_groups
    g_groups := He.glo_ok X G (cd.facts (f := .glo "groups") (by unfold hfa; simp))
    b_groups := F_groups.bindsN fun _ _ _ _ _ _ us hl => match us, hl with | [_, _, _], _ => rfl
    F_taken := F_taken
    g_taken := He.glo_ok X G (cd.facts (f := .glo "taken") (by unfold hfa; simp))
    b_taken := F_taken.bindsN fun _ _ _ _ _ _ us hl => match us, hl with | [_, _], _ => rfl
    h_taken := code_of (p := ("taken", none)) F_taken
    t_taken := t_taken
    F_joined := F_joined
    g_joined := He.glo_ok X G (cd.facts (f := .glo "joined") (by unfold hfa; simp))
    b_joined := F_joined.bindsN fun _ _ _ _ _ _ us hl => match us, hl with | [_, _, _], _ => rfl
    F_least := F_least
    g_least := He.glo_ok X G (cd.facts (f := .glo "least") (by unfold hfa; simp))
    b_least := F_least.bindsN fun _ _ _ _ _ _ us hl => match us, hl with | [_, _, _, _], _ => rfl
    F_best := F_best
    g_best := He.glo_ok X G (cd.facts (f := .glo "best") (by unfold hfa; simp))
    b_best := F_best.bindsN fun _ _ _ _ _ _ us hl => match us, hl with | [_, _, _], _ => rfl
    h_best := code_of (p := ("best", none)) F_best
    t_best := t_best
    F__law_cell_at := F__law_cell_at
    g__law_cell_at := He.glo_ok X G (cd.facts (f := .glo "_law_cell_at") (by unfold hfa; simp))
    b__law_cell_at := F__law_cell_at.bindsN fun _ _ _ _ _ _ us hl => match us, hl with | [_, _], _ => rfl
    F__law_dice := F__law_dice
    g__law_dice := He.glo_ok X G (cd.facts (f := .glo "_law_dice") (by unfold hfa; simp))
    b__law_dice := F__law_dice.bindsN fun _ _ _ _ _ _ us hl => match us, hl with | [_], _ => rfl
    F__law_roll := F__law_roll
    g__law_roll := He.glo_ok X G (cd.facts (f := .glo "_law_roll") (by unfold hfa; simp))
    b__law_roll := F__law_roll.bindsN fun _ _ _ _ _ _ us hl => match us, hl with | [_, _], _ => rfl
    F__law_river := F__law_river
    g__law_river := He.glo_ok X G (cd.facts (f := .glo "_law_river") (by unfold hfa; simp))
    b__law_river := F__law_river.bindsN fun _ _ _ _ _ _ us hl => match us, hl with | [_, _], _ => rfl
    F__law_time := F__law_time
    g__law_time := He.glo_ok X G (cd.facts (f := .glo "_law_time") (by unfold hfa; simp))
    b__law_time := F__law_time.bindsN fun _ _ _ _ _ _ us hl => match us, hl with | [_, _, _], _ => rfl
    F__law_barges := F__law_barges
    g__law_barges := He.glo_ok X G (cd.facts (f := .glo "_law_barges") (by unfold hfa; simp))
    b__law_barges := F__law_barges.bindsN fun _ _ _ _ _ _ us hl => match us, hl with | [_, _, _], _ => rfl
    F__law_book := F__law_book
    g__law_book := He.glo_ok X G (cd.facts (f := .glo "_law_book") (by unfold hfa; simp))
    b__law_book := F__law_book.bindsN fun _ _ _ _ _ _ us hl => match us, hl with | [_, _], _ => rfl
    F__law_depth := F__law_depth
    g__law_depth := He.glo_ok X G (cd.facts (f := .glo "_law_depth") (by unfold hfa; simp))
    b__law_depth := F__law_depth.bindsN fun _ _ _ _ _ _ us hl => match us, hl with | [_, _, _], _ => rfl
    F__law_alone := F__law_alone
    g__law_alone := He.glo_ok X G (cd.facts (f := .glo "_law_alone") (by unfold hfa; simp))
    b__law_alone := F__law_alone.bindsN fun _ _ _ _ _ _ us hl => match us, hl with | [_, _, _], _ => rfl
    F__law_hours := F__law_hours
    g__law_hours := He.glo_ok X G (cd.facts (f := .glo "_law_hours") (by unfold hfa; simp))
    b__law_hours := F__law_hours.bindsN fun _ _ _ _ _ _ us hl => match us, hl with | [_], _ => rfl
    F__law_full := F__law_full
    g__law_full := He.glo_ok X G (cd.facts (f := .glo "_law_full") (by unfold hfa; simp))
    b__law_full := F__law_full.bindsN fun _ _ _ _ _ _ us hl => match us, hl with | [_, _], _ => rfl
    F__law_crossed := F__law_crossed
    g__law_crossed := He.glo_ok X G (cd.facts (f := .glo "_law_crossed") (by unfold hfa; simp))
    b__law_crossed := F__law_crossed.bindsN fun _ _ _ _ _ _ us hl => match us, hl with | [_, _], _ => rfl
    F__law_refusals := F__law_refusals
    g__law_refusals := He.glo_ok X G (cd.facts (f := .glo "_law_refusals") (by unfold hfa; simp))
    b__law_refusals := F__law_refusals.bindsN fun _ _ _ _ _ _ us hl => match us, hl with | [_, _], _ => rfl
    F__law_price := F__law_price
    g__law_price := He.glo_ok X G (cd.facts (f := .glo "_law_price") (by unfold hfa; simp))
    b__law_price := F__law_price.bindsN fun _ _ _ _ _ _ us hl => match us, hl with | [_, _], _ => rfl
    F__law_put := F__law_put
    g__law_put := He.glo_ok X G (cd.facts (f := .glo "_law_put") (by unfold hfa; simp))
    b__law_put := F__law_put.bindsN fun _ _ _ _ _ _ us hl => match us, hl with | [_, _, _], _ => rfl
    F__law_good := F__law_good
    g__law_good := He.glo_ok X G (cd.facts (f := .glo "_law_good") (by unfold hfa; simp))
    b__law_good := F__law_good.bindsN fun _ _ _ _ _ _ us hl => match us, hl with | [_, _, _, _], _ => rfl
    F__law_every := F__law_every
    g__law_every := He.glo_ok X G (cd.facts (f := .glo "_law_every") (by unfold hfa; simp))
    b__law_every := F__law_every.bindsN fun _ _ _ _ _ _ us hl => match us, hl with | [_, _, _], _ => rfl
    F__law_is_mended := F__law_is_mended
    g__law_is_mended := He.glo_ok X G (cd.facts (f := .glo "_law_is_mended") (by unfold hfa; simp))
    b__law_is_mended := F__law_is_mended.bindsN fun _ _ _ _ _ _ us hl => match us, hl with | [_, _, _, _], _ => rfl
    F_law := F_law
    g_TowError := He.glo_ok X G (cd.facts (f := .glo "TowError") (by unfold hfa; simp))
    g_BadBook := He.glo_ok X G (cd.facts (f := .glo "BadBook") (by unfold hfa; simp))
    e_BadBook := He.exm_ok (cd.facts (f := .exm "BadBook" "TowError" true) (by unfold hfa; simp))
    cc_BadBook := (GXC.exAll_c cme (c := "BadBook") (by simp)).1
    kv_BadBook := (GXC.exAll_c cme (c := "BadBook") (by simp)).2
    k_BadBook_BadBook := (GXC.exAll_k cme (c := "BadBook") (d := "BadBook") (by simp) (by simp)).trans (by decide +kernel)
    k_BadBook_BadPlan := (GXC.exAll_k cme (c := "BadBook") (d := "BadPlan") (by simp) (by simp)).trans (by decide +kernel)
    k_BadBook_NoPlan := (GXC.exAll_k cme (c := "BadBook") (d := "NoPlan") (by simp) (by simp)).trans (by decide +kernel)
    k_BadBook_Gone := (GXC.exAll_k cme (c := "BadBook") (d := "Gone") (by simp) (by simp)).trans (by decide +kernel)
    x_BadBook := (He.exc_ok (cd.facts (f := .exc "BadBook") (by unfold hfa; simp))).1
    kp_BadBook := (He.exc_ok (cd.facts (f := .exc "BadBook") (by unfold hfa; simp))).2.1
    sb_BadBook := (He.exc_ok (cd.facts (f := .exc "BadBook") (by unfold hfa; simp))).2.2.1
    tp_BadBook := (He.exc_ok (cd.facts (f := .exc "BadBook") (by unfold hfa; simp))).2.2.2
    g_BadPlan := He.glo_ok X G (cd.facts (f := .glo "BadPlan") (by unfold hfa; simp))
    e_BadPlan := He.exm_ok (cd.facts (f := .exm "BadPlan" "TowError" true) (by unfold hfa; simp))
    cc_BadPlan := (GXC.exAll_c cme (c := "BadPlan") (by simp)).1
    kv_BadPlan := (GXC.exAll_c cme (c := "BadPlan") (by simp)).2
    k_BadPlan_BadBook := (GXC.exAll_k cme (c := "BadPlan") (d := "BadBook") (by simp) (by simp)).trans (by decide +kernel)
    k_BadPlan_BadPlan := (GXC.exAll_k cme (c := "BadPlan") (d := "BadPlan") (by simp) (by simp)).trans (by decide +kernel)
    k_BadPlan_NoPlan := (GXC.exAll_k cme (c := "BadPlan") (d := "NoPlan") (by simp) (by simp)).trans (by decide +kernel)
    k_BadPlan_Gone := (GXC.exAll_k cme (c := "BadPlan") (d := "Gone") (by simp) (by simp)).trans (by decide +kernel)
    x_BadPlan := (He.exc_ok (cd.facts (f := .exc "BadPlan") (by unfold hfa; simp))).1
    kp_BadPlan := (He.exc_ok (cd.facts (f := .exc "BadPlan") (by unfold hfa; simp))).2.1
    sb_BadPlan := (He.exc_ok (cd.facts (f := .exc "BadPlan") (by unfold hfa; simp))).2.2.1
    tp_BadPlan := (He.exc_ok (cd.facts (f := .exc "BadPlan") (by unfold hfa; simp))).2.2.2
    g_NoPlan := He.glo_ok X G (cd.facts (f := .glo "NoPlan") (by unfold hfa; simp))
    e_NoPlan := He.exm_ok (cd.facts (f := .exm "NoPlan" "TowError" true) (by unfold hfa; simp))
    cc_NoPlan := (GXC.exAll_c cme (c := "NoPlan") (by simp)).1
    kv_NoPlan := (GXC.exAll_c cme (c := "NoPlan") (by simp)).2
    k_NoPlan_BadBook := (GXC.exAll_k cme (c := "NoPlan") (d := "BadBook") (by simp) (by simp)).trans (by decide +kernel)
    k_NoPlan_BadPlan := (GXC.exAll_k cme (c := "NoPlan") (d := "BadPlan") (by simp) (by simp)).trans (by decide +kernel)
    k_NoPlan_NoPlan := (GXC.exAll_k cme (c := "NoPlan") (d := "NoPlan") (by simp) (by simp)).trans (by decide +kernel)
    k_NoPlan_Gone := (GXC.exAll_k cme (c := "NoPlan") (d := "Gone") (by simp) (by simp)).trans (by decide +kernel)
    g_Gone := He.glo_ok X G (cd.facts (f := .glo "Gone") (by unfold hfa; simp))
    e_Gone := He.exm_ok (cd.facts (f := .exm "Gone" "TowError" true) (by unfold hfa; simp))
    cc_Gone := (GXC.exAll_c cme (c := "Gone") (by simp)).1
    kv_Gone := (GXC.exAll_c cme (c := "Gone") (by simp)).2
    k_Gone_BadBook := (GXC.exAll_k cme (c := "Gone") (d := "BadBook") (by simp) (by simp)).trans (by decide +kernel)
    k_Gone_BadPlan := (GXC.exAll_k cme (c := "Gone") (d := "BadPlan") (by simp) (by simp)).trans (by decide +kernel)
    k_Gone_NoPlan := (GXC.exAll_k cme (c := "Gone") (d := "NoPlan") (by simp) (by simp)).trans (by decide +kernel)
    k_Gone_Gone := (GXC.exAll_k cme (c := "Gone") (d := "Gone") (by simp) (by simp)).trans (by decide +kernel)
    x_Gone := (He.exc_ok (cd.facts (f := .exc "Gone") (by unfold hfa; simp))).1
    kp_Gone := (He.exc_ok (cd.facts (f := .exc "Gone") (by unfold hfa; simp))).2.1
    sb_Gone := (He.exc_ok (cd.facts (f := .exc "Gone") (by unfold hfa; simp))).2.2.1
    tp_Gone := (He.exc_ok (cd.facts (f := .exc "Gone") (by unfold hfa; simp))).2.2.2
    np_NoPlan := NP.npB_ok (He.ba cnp).1
    g_WORST := He.glo_ok X G (cd.facts (f := .glo "WORST") (by unfold hfa; simp))
    t_WORST := NP.tupB_ok (He.ba cnp).2
    g_Choices := He.glo_ok X G (cd.facts (f := .glo "Choices") (by unfold hfa; simp))
    cls_Choices := He.cls_ok (cd.facts (f := .cls "Choices") (by unfold hfa; simp))
    mk_Choices := He.mkr_ok (cd.facts (f := .mkr "Choices") (by unfold hfa; simp))
    na_Choices_book := He.noat_ok (cd.facts (f := .noat "Choices" "book") (by unfold hfa; simp))
    na_Choices_waits := He.noat_ok (cd.facts (f := .noat "Choices" "waits") (by unfold hfa; simp))
    na_Choices_alone := He.noat_ok (cd.facts (f := .noat "Choices" "alone") (by unfold hfa; simp))
    na_Choices_sharing := He.noat_ok (cd.facts (f := .noat "Choices" "sharing") (by unfold hfa; simp))
    c_HOURS := He.int_ok X G (cd.facts (f := .int "HOURS" 12) (by unfold hfa; simp))
    n_all := He.free_ok X G (cd.facts (f := .free "all") (by unfold hfa; simp))
    n_bool := He.free_ok X G (cd.facts (f := .free "bool") (by unfold hfa; simp))
    n_case := He.free_ok X G (cd.facts (f := .free "case") (by unfold hfa; simp))
    n_enumerate := He.free_ok X G (cd.facts (f := .free "enumerate") (by unfold hfa; simp))
    n_found := He.free_ok X G (cd.facts (f := .free "found") (by unfold hfa; simp))
    n_int := He.free_ok X G (cd.facts (f := .free "int") (by unfold hfa; simp))
    n_isinstance := He.free_ok X G (cd.facts (f := .free "isinstance") (by unfold hfa; simp))
    n_len := He.free_ok X G (cd.facts (f := .free "len") (by unfold hfa; simp))
    n_list := He.free_ok X G (cd.facts (f := .free "list") (by unfold hfa; simp))
    n_max := He.free_ok X G (cd.facts (f := .free "max") (by unfold hfa; simp))
    n_min := He.free_ok X G (cd.facts (f := .free "min") (by unfold hfa; simp))
    n_range := He.free_ok X G (cd.facts (f := .free "range") (by unfold hfa; simp))
    n_sorted := He.free_ok X G (cd.facts (f := .free "sorted") (by unfold hfa; simp))
    n_sum := He.free_ok X G (cd.facts (f := .free "sum") (by unfold hfa; simp))
    n_tuple := He.free_ok X G (cd.facts (f := .free "tuple") (by unfold hfa; simp))
  }
end TB
open PySem PySem.W PySem.Calls PyProof.Rows
set_option maxRecDepth 100000 in
set_option maxHeartbeats 0 in
theorem PySem.Challenge.cw_towbarges_k14_whole_mended_holds : PySem.Challenge.rw_towbarges_k14_whole_mended.Holds := by
  w_on; o_law
  refine HandSHeadRun.head_any (r := OpenLaw.row PySem.Challenge.rw_towbarges_k14_whole_mended) (q := view (OpenLaw.row PySem.Challenge.rw_towbarges_k14_whole_mended).prog [69]) (H := TB.hk) (ob := TB.hob) (M := 6000) (loose := TB.hloose) (d := HandSHeadRun.topDef (OpenLaw.row PySem.Challenge.rw_towbarges_k14_whole_mended).prog 69) (kwd := []) TB.hob_eq
    (by kernel_rfl) (fun s => by kernel_rfl) TB.hrun (by kernel_rfl) (by kernel_rfl) (by kernel_rfl) (by rfl) (by first | assumption | decide +kernel) (by decide +kernel) ⟨rfl, rfl, rfl, rfl, rfl, by decide +kernel⟩ ?hw ?hc
  case hw => w_witness2
  case hc =>
    refine LamX.walk_ofTsE (l := PySem.Challenge.rw_towbarges_k14_whole_mended) (n := 63) (k := 16) (x := "_law_script") (CX := fun _ => L2.CX0) rfl (by decide) (by kernel_rfl) ⟨rfl, by decide, by decide⟩ ?F (fun _ _ _ _ _ z => z)
    intro w mg fa h Y G hmg0
    obtain ⟨K, KX, c⟩ := Y
    have hmg : mg ("law" : PySem.Str) = some (.ref fa) := by
      have e : (HandSHeadRun.topDef (OpenLaw.row PySem.Challenge.rw_towbarges_k14_whole_mended).prog 69).name = ("law" : PySem.Str) := by kernel_rfl
      rw [← e]
      exact hmg0
    obtain ⟨A, ea, ek, hb, hF⟩ := TB.hfacts KX G c
    have cd : He.SaysD TB.hfa TB.hfn K := congrArg (fun z : He.AlT => z.1) c.t
    have el := hmg.symm.trans (He.glo_ok KX G (cd.facts (f := .glo "law") (by unfold TB.hfa; simp)))
    rw [← ea] at el
    cases el
    have ca : LM.apartB TB.hgf TB.hlf K = true := (Bool.and_eq_true_iff.mp c.more).2
    have nd := LM.apart_nodup ca
    refine ⟨K, KX, A.d_law, TB.htf.map (He.cT K), (LM.reTab (TB.hlf.map fun l => (He.cT K l).2) (TB.spLaw A K)), fun p hp => ?e1, fun p hp => ?e2, fun p hp => ?e3, hb, fun H a ns hl _ hT hS => ⟨?lt, a, ns, rfl, LM.sqL_extT ?lt hS, hl, ?tb, ?lb, fun H1 lb => ⟨?bk, fun _ => rfl⟩⟩, fun base _ _ hTB => ?e4⟩
    case e1 =>
      obtain ⟨p0, hp0, rfl⟩ := List.mem_map.mp hp
      exact c.empty p0 hp0
    case e2 =>
      obtain ⟨p0, hp0, rfl⟩ := List.mem_map.mp hp
      exact c.out p0 hp0
    case e3 =>
      obtain ⟨p0, hp0, rfl⟩ := List.mem_map.mp hp
      exact PySem.W.codeHd_of_K KX (c.hd p0 hp0)
    case lt =>
      intro b hb
      obtain ⟨l, hl, rfl⟩ := List.mem_map.mp hb
      refine hT _ (List.mem_map.mpr ⟨l, ?_, rfl⟩)
      unfold TB.hlf at hl
      unfold TB.htf
      simp only [List.mem_cons, List.not_mem_nil, or_false] at hl ⊢
      rcases hl with rfl | rfl <;> simp
    case tb =>
      unfold TB.Tabs
      obtain ⟨ek0, ek1, ek2, ek3, ek4, ek5, ek6, ek7, ek8, ek9⟩ := ek
      rw [ek0, ek1, ek2, ek3, ek4, ek5, ek6, ek7]
      exact ⟨⟨#[], (LM.extT_out (LM.apart_out ca (g := ("is_stretch", none)) (by unfold TB.hgf; simp))).trans (hT _ (List.mem_map.mpr ⟨("is_stretch", none), by unfold TB.htf; simp, rfl⟩)), trivial⟩, ⟨#[], (LM.extT_out (LM.apart_out ca (g := ("check_book", none)) (by unfold TB.hgf; simp))).trans (hT _ (List.mem_map.mpr ⟨("check_book", none), by unfold TB.htf; simp, rfl⟩)), trivial⟩, ⟨#[], (LM.extT_out (LM.apart_out ca (g := ("check_plan", none)) (by unfold TB.hgf; simp))).trans (hT _ (List.mem_map.mpr ⟨("check_plan", none), by unfold TB.htf; simp, rfl⟩)), trivial⟩, ⟨#[], (LM.extT_out (LM.apart_out ca (g := ("arrival", none)) (by unfold TB.hgf; simp))).trans (hT _ (List.mem_map.mpr ⟨("arrival", none), by unfold TB.htf; simp, rfl⟩)), trivial⟩, ⟨#[], (LM.extT_out (LM.apart_out ca (g := ("standing", none)) (by unfold TB.hgf; simp))).trans (hT _ (List.mem_map.mpr ⟨("standing", none), by unfold TB.htf; simp, rfl⟩)), trivial⟩, ⟨#[], (LM.extT_out (LM.apart_out ca (g := ("without", none)) (by unfold TB.hgf; simp))).trans (hT _ (List.mem_map.mpr ⟨("without", none), by unfold TB.htf; simp, rfl⟩)), trivial⟩, ⟨#[], (LM.extT_out (LM.apart_out ca (g := ("Choices", some "share")) (by unfold TB.hgf; simp))).trans (hT _ (List.mem_map.mpr ⟨("Choices", some "share"), by unfold TB.htf; simp, rfl⟩)), trivial⟩, ⟨#[], (LM.extT_out (LM.apart_out ca (g := ("taken", none)) (by unfold TB.hgf; simp))).trans (hT _ (List.mem_map.mpr ⟨("taken", none), by unfold TB.htf; simp, rfl⟩)), trivial⟩⟩
    case lb =>
      obtain ⟨ek0, ek1, ek2, ek3, ek4, ek5, ek6, ek7, ek8, ek9⟩ := ek
      refine ⟨?_, ?_, ?_⟩
      · have z := LM.TabL.nil (q := (("table_for" : Str) ++ ".<locals>." ++ "<lambda>")) (LM.extT_in (H := H) (ps := TB.hlf.map fun l => (He.cT K l).2) (b := (He.cT K ("table_for", none)).2) (List.mem_map.mpr ⟨("table_for", none), by unfold TB.hlf; simp, rfl⟩))
        rw [← ek8] at z
        exact z
      · have z := LM.TabL.nil (q := (("best" : Str) ++ ".<locals>." ++ "<lambda>")) (LM.extT_in (H := H) (ps := TB.hlf.map fun l => (He.cT K l).2) (b := (He.cT K ("best", none)).2) (List.mem_map.mpr ⟨("best", none), by unfold TB.hlf; simp, rfl⟩))
        rw [← ek9] at z
        exact z
      · rw [ek8, ek9]
        unfold TB.hlf at nd
        simp only [List.map_cons, List.map_nil, List.nodup_cons, List.mem_cons, List.not_mem_nil, or_false, not_or] at nd
        exact nd.1
    case bk =>
      intro b hb
      obtain ⟨l, hl, rfl⟩ := List.mem_map.mp hb
      unfold TB.hlf at hl
      simp only [List.mem_cons, List.not_mem_nil, or_false] at hl
      obtain ⟨ek0, ek1, ek2, ek3, ek4, ek5, ek6, ek7, ek8, ek9⟩ := ek
      rcases hl with rfl | rfl
      · obtain ⟨more, z, _⟩ := lb.table_for
        rw [ek8] at z
        exact ⟨more, z⟩
      · obtain ⟨more, z, _⟩ := lb.best
        rw [ek9] at z
        exact ⟨more, z⟩
    case e4 =>
      have tb : ∀ p ∈ TB.htf, GxR.TabB base mg (He.cT K p).1 (He.cT K p).2 := fun p hp => let z := hTB _ (List.mem_map.mpr ⟨p, hp, rfl⟩); ⟨z.code, z.bm, z.gP⟩
      exact LM.retab (TB.ok_law (hF base (tb ("is_stretch", none) (by unfold TB.htf; simp)) (tb ("check_book", none) (by unfold TB.htf; simp)) (tb ("check_plan", none) (by unfold TB.htf; simp)) (tb ("arrival", none) (by unfold TB.htf; simp)) (tb ("standing", none) (by unfold TB.htf; simp)) (tb ("without", none) (by unfold TB.htf; simp)) (tb ("Choices", some "share") (by unfold TB.htf; simp)) (tb ("taken", none) (by unfold TB.htf; simp)) (tb ("table_for", none) (by unfold TB.htf; simp)) (tb ("best", none) (by unfold TB.htf; simp))))
#print axioms PySem.Challenge.cw_towbarges_k14_whole_mended_holds
