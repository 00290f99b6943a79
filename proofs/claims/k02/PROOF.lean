import PyProof.Rows.All
import Wide.All
import OpenK.AllK
import Wide.FinOn
import HandS.ForMost
import HandS.GenList
import HandS.AnyAll
import HandS.Lambda
import KE.DataAny
import HandS.ForExc
import HandS.IsInst
import HandS.TupAny
import HandS.Sort
import HandS.Deep
import HandS.ExcIs
import KE.DataCmp
import KE.DataEq
import KE.DataFind
import KE.DataMinMax
import KE.SortData
import HandS.TupMul
import HandS.Conv
import HandS.Wide
import HandS.TupSets
import HandS.Zip
import HandS.ExcValue
import HandS.Style
import HandS.CallLocal
import HandS.Defaults
import KE.KEqNest
import HandS.EndTab
import HandS.SetBool
import HandS.Strs
import HandS.Dict
import HandS.Iter
import KE.KIndexOf
import HandS.SetFor
import HandS.SetKeys
import PyProof.TupleOfSeq
import KE.KDictZip
import KE.KDictList
import HandS.Base
import HandS.HeadHook4
import HandS.HeadWalk
import HandS.Head0
import HandS.Head1
import HandS.Head2
import HandS.HeadEnd
import PySem.Challenge.RW_coverjoin_k02_the_plain_answers
set_option Elab.async false
set_option linter.all false
set_option maxRecDepth 100000
set_option maxHeartbeats 4100000
/-! all, any of a generator expression whose element may call defs: the generator's frame as a context of its own. -/
namespace Gx
open L2 GenW PySem PySem.Spec PyProof.Rows

/-- the frame of a generator expression: made at s (its locals are the next address), fp: its iterator's objects, pn: the generator's own object -/
abbrev gCx (X : Cx) (A' : Around) (s : Shared) (H : Hp) (cenv : Env) (fp : List Addr) (pn : List (Addr × Obj)) : Cx :=
  { X with A := A', s_0 := s, H_0 := H, env := cenv, outer := X.stack, stack := cenv :: X.stack, ex := fp, fn := fun _ => false, calm := true, pn := pn, xe := fun _ _ => False }

structure GOk (N : List Str) (sc gsc : Scope) (own : List (Str × Nat)) : Prop where
  blk : BlkOk N sc gsc own
  co : gsc.isCoroutine = false
  cell : ∀ p ∈ gsc.names, p.2 ≠ .cell
  dot : gsc.names.lookup (".0" : Str) = some NameKind.local
def gokC (N : List Str) (sc scope : Scope) (own : List (Str × Nat)) : Bool :=
  blkC N sc scope own && !scope.isCoroutine && (scope.names.all fun y => y.2 != .cell) && (scope.names.lookup (".0" : Str) == some NameKind.local)
theorem gok_by {N : List Str} {sc scope : Scope} {own : List (Str × Nat)} (h : gokC N sc scope own = true) : GOk N sc scope own := by
  unfold gokC at h
  simp only [Bool.and_eq_true, List.all_eq_true, Bool.not_eq_true', bne_iff_ne, beq_iff_eq] at h
  exact ⟨blkOk_by h.1.1.1, h.1.1.2, h.1.2, h.2⟩

section
variable {X : Cx} {pins : List (Addr × Obj)} {σ : L2.St} {H : Hp} {s s1 : Shared} {gsc : Scope} {own : List (Str × Nat)}

theorem frees (I : L2.Inv X pins σ H s) (ok : GOk X.N X.env.scope gsc own) : ∀ p ∈ gsc.names, p.2 = .free → ∃ c, X.env.cells.lookup p.1 = some c := fun p hp hf =>
  I.ok.has _ (ok.blk.free p hp hf)
/-- the cells of a generator expression's frame: those of the frame around it that it asks for, and no others -/
theorem cloOk (I : L2.Inv X pins σ H s) (ok : GOk X.N X.env.scope gsc own) :
    (∀ y c, (cloFrom X.env.cells gsc.names []).lookup y = some c → X.env.cells.lookup y = some c ∧ c < s.heap.objs.size) ∧ ∀ y, gsc.names.lookup y = some .free → ∃ c, (cloFrom X.env.cells gsc.names []).lookup y = some c := by
  constructor
  · intro y c e
    cases cloFrom_mem (PySem.mem_of_lookup e) with
    | inl z => cases z
    | inr z =>
      obtain ⟨d, hd⟩ := frees I ok _ z.1 rfl
      have : c = d := by
        rw [z.2, show X.env.cells.lookup y = some d from hd]
        rfl
      subst this
      exact ⟨hd, (I.cell _ _ hd).elim fun _ q => q.lt⟩
  · exact fun y e => mem_lookup (cloFrom_has (PySem.mem_of_lookup e))
/-- a name of the def that a generator expression sees and doesn't write: it is free there -/
theorem seen (ok : GOk X.N X.env.scope gsc own) (hN : X.N.Nodup) {i : Nat} {y : Str} (hi : X.N[i]? = some y) (hne : i ∉ own.map (·.2)) (v : Vis gsc y) : gsc.names.lookup y = some .free := by
  have out : ∀ kd, gsc.names.lookup y = some kd → (kd = .local ∨ kd = .cell) → False := fun kd hk hl =>
    (ok.blk.own _ (PySem.mem_of_lookup hk) hl).elim (fun z => by
      obtain ⟨q, hq, e⟩ := List.mem_map.mp z
      have e : q.1 = y := e
      subst e
      exact hne (List.mem_map.mpr ⟨q, hq, nodup_ix hN (ok.blk.ix q hq) hi⟩)) fun z => z (List.mem_of_getElem? hi)
  have v : gsc.names.lookup y = some .local ∨ gsc.names.lookup y = some .cell ∨ gsc.names.lookup y = some .free := v
  rcases v with v | v | v
  · exact (out _ v (.inl rfl)).elim
  · exact (out _ v (.inr rfl)).elim
  · exact v

theorem gen_start {A' : Around} {fp : List Addr} {code : Value} {pn : List (Addr × Obj)} {m : Str → Option Value}
    (I : L2.Inv X pins σ H s) (ok : GOk X.N X.env.scope gsc own) (hN : X.N.Nodup) (hfp : ∀ b ∈ fp, FpOk X pins H b ∧ b < s.heap.objs.size)
    (hA : A'.handled = none) (hF : A'.frames = some (genEnv gsc (cloFrom X.env.cells gsc.names []) s.heap.objs.size code builtinsNs X.env :: X.stack))
    (hos : s1.os = s.os) (hb : AllBare s1.gens) (kp : ∀ b o, s.heap.get? b = some o → s1.heap.get? b = some o) (hns : s1.heap.Ns s.heap.objs.size m)
    (hpn : ∀ p ∈ pn, s1.heap.get? p.1 = some p.2 ∧ s.heap.objs.size < p.1 ∧ ∀ v, p.2.data ≠ .cell v) :
    L2.Inv (gCx X A' s H (genEnv gsc (cloFrom X.env.cells gsc.names []) s.heap.objs.size code builtinsNs X.env) fp pn) [] (wipe σ (own.map (·.2))) H s1 := by
  obtain ⟨cb, cf⟩ := cloOk I ok
  refine {
    ok := {
      mod := I.ok.mod
      kind := ok.blk.kind
      glob := I.ok.glob
      blt := rfl
      above := Nat.le_refl _
      inj := fun y z c e1 e2 => I.ok.inj y z c (cb _ _ e1).1 (cb _ _ e2).1
      has := fun y hy => hy.elim (fun z => absurd rfl (ok.cell (y, .cell) (PySem.mem_of_lookup z))) (cf y)
      cab := fun _ _ z => nomatch z
      hd := fun _ => hA
      frames := hF
      stk := .inr ⟨rfl, rfl⟩
      exf := fun b hb => ⟨fun z => ?_, fun y c e => (hfp b hb).1.2.2.2.2.1 y c (cb _ _ e).1⟩
      bs := I.bs
      bsz := Nat.le_trans I.ok.bsz I.sz
      noex := fun b o e hb => (hfp b hb).1.2.2.2.1.elim (I.ok.noex b o e) fun z => ?_
      exfs := fun b hb z => (List.mem_cons.mp (I.stkSub b z)).elim (hfp b hb).1.2.1 (hfp b hb).1.2.2.1
      funs := I.stack
      frf := I.stkFree }
    os := hos
    bare := hb
    base := Un.kept kp
    loc := ⟨m, hns, fun i y av hi hv vis => ?_⟩
    cell := fun y c e => (I.cell y c (cb _ _ e).1).imp fun _ z => z.keeps kp
    free := I.hok.fresh (Nat.le_refl _)
    freeC := fun y c e => I.freeC y c (cb _ _ e).1
    pin := fun p hp => ?_
    hok := I.hok.kept kp
    len := (wipe_length ..).trans I.len }
  · exact Nat.ne_of_lt (hfp b hb).2 z
  · exact Nat.not_le_of_lt (Heap.lt_size e) (Nat.le_trans I.ok.bsz z)
  · have ⟨e, hne⟩ := wipe_some hv
    have fr := seen ok hN hi hne vis
    have fx := ok.blk.free _ (PySem.mem_of_lookup fr) rfl
    obtain ⟨m1, _, lk⟩ := I.loc
    obtain ⟨w, r, q⟩ := lk i y av hi e (.inr fx)
    obtain ⟨c, hc⟩ := cf y fr
    refine ⟨w, r, .inr ⟨.inr fr, ?_⟩⟩
    match q with
    | .inl ⟨k, _⟩ => exact fx.elim (fun z => nomatch (show some NameKind.cell = some .local from z.symm.trans k)) (fun z => nomatch (show some NameKind.free = some .local from z.symm.trans k))
    | .inr ⟨_, d, e', z⟩ =>
      have : d = c := Option.some.inj (e'.symm.trans (cb _ _ hc).1)
      subst this
      exact ⟨d, hc, z.keeps kp⟩
  · have ⟨h1, h2, h3⟩ := hpn p (by simpa using hp)
    refine ⟨h1, I.hok.fresh (Nat.le_of_lt h2), Nat.ne_of_gt h2, fun z => ?_, h3⟩
    match List.mem_cons.mp (I.stkSub p.1 z) with
    | .inl z => exact Nat.lt_asymm h2 (z ▸ I.lt)
    | .inr z => exact I.nofs (Nat.le_of_lt h2) z
end

/-! ### the protocol -/
/-- what the consumer knows of a state that the generator's frame has come to -/
structure GFacts (X : Cx) (fp : List Addr) (H0 H : Hp) (s0 s : Shared) : Prop where
  os : s.os = s0.os
  bare : AllBare s.gens
  un : Un (frs X.stack) fp H0 H s0.heap s.heap
  hok : HOk X.prog X.w H s.heap

def YB (X : Cx) (fp : List Addr) (H0 : Hp) (s0 : Shared) (a : Addr) (g : Nat) (stop : Bool) (Qs : Hp → Prop) : Protocol := fun n s₀ v s kap =>
  ∃ b H', v = .bool b ∧ GFacts X fp H0 H' s0 s ∧ s.heap.NoLimit ∧ s.heap.IsGen a g ∧ (b = stop → Qs H') ∧
    (b = !stop → ∀ s' : Shared, s'.os = s.os → AllBare s'.gens → s'.heap = s.heap → kap (.send .none) s')
def RB (X : Cx) (fp : List Addr) (H0 : Hp) (s0 : Shared) (Qd : Hp → Prop) : GenEnd := fun n s₀ r s1 =>
  ((r = .ok (.ret .none) ∨ r = .ok .next) ∧ (∃ H', GFacts X fp H0 H' s0 s1 ∧ Qd H')) ∨ ∃ e, r = .error e ∧ (fun _ _ => False : Value → Shared → Prop) e s1

/-- one turn of the walk: what is wanted -/
def TurnB (J : It) (g : TG) (tt : TT) (te : TE) (vs : List Nat) (σ : L2.St) (stop : Bool) (Qs Qd : Hp → Prop) (W : Nat → Nat → Hp → Prop) : Prop :=
  ∀ i m H, W i m H → (J.stop i H ∧ Qd H) ∨ (J.go i H ∧ ∃ Nx : Hp → Prop, (∀ H', Nx H' → ∃ m', m' < m ∧ W (i + 1) m' H') ∧ ∀ x H', J.yld i H x H' → g x (wipe σ vs) H' fun σ2 H2 => wipe σ2 vs = wipe σ vs ∧ tt σ2 H2 fun b H3 =>
    if b = true then te σ2 H3 fun y H4 => ∃ c, y = .bl c ∧ (c = stop → Qs H4) ∧ (c = !stop → Nx H4) else Nx H3)

theorem seg_loopB {X : Cx} {Aw : Around} {s0 : Shared} {H0 : Hp} {σ : L2.St} {elt tg iter : Expr} {ifs : List Expr} {scope : Scope} {own : List (Str × Nat)} {pos : Pos} {it a : Addr} {g : Nat} {go : Obj} {cenv : Env} {fp : List Addr} {tn : Nat → Heap → Prop} {J : It}
    {gg : TG} {tt : TT} {te : TE} {stop : Bool} {Qs Qd : Hp → Prop} {W : Nat → Nat → Hp → Prop} (hco : cenv.scope.isCoroutine = false) (hgo : ∀ h : Heap, h.get? a = some go → h.IsGen a g) (hafp : a ∉ fp)
    (T : Turn X.prog X.w X.K tg J fp it tn)
    (pg : PG (gCx X (Aw.over (.compLoop (.GeneratorExp elt [⟨tg, iter, ifs, 0⟩] scope pos) 0 (.ref it) .none cenv) []) s0 H0 cenv fp [(a, go)]) tg gg)
    (pt : PTs (gCx X (Aw.over (.compLoop (.GeneratorExp elt [⟨tg, iter, ifs, 0⟩] scope pos) 0 (.ref it) .none cenv) []) s0 H0 cenv fp [(a, go)]) ifs tt)
    (pe : PE (gCx X (Aw.over (.compLoop (.GeneratorExp elt [⟨tg, iter, ifs, 0⟩] scope pos) 0 (.ref it) .none cenv) []) s0 H0 cenv fp [(a, go)]) elt te)
    (turn : TurnB J gg tt te (own.map (·.2)) σ stop Qs Qd W) :
    ∀ (m n : Nat) (s₀ s : Shared) (i : Nat) (H' : Hp), m < n → L2.Inv (gCx X (Aw.over (.compLoop (.GeneratorExp elt [⟨tg, iter, ifs, 0⟩] scope pos) 0 (.ref it) .none cenv) []) s0 H0 cenv fp [(a, go)]) [] (wipe σ (own.map (·.2))) H' s → tn i s.heap → (∀ b ∈ fp, H' b = none) → W i m H' →
      Seg (model X.prog X.w) Aw (RB X fp H0 s0 Qd) (YB X fp H0 s0 a g stop Qs) n s₀ (.compLoop (.GeneratorExp elt [⟨tg, iter, ifs, 0⟩] scope pos) 0 (.ref it) .none cenv)
        ((model X.prog X.w).den (.compLoop (.GeneratorExp elt [⟨tg, iter, ifs, 0⟩] scope pos) 0 (.ref it) .none cenv)) [] s := by
  generalize hA' : Aw.over (.compLoop (.GeneratorExp elt [⟨tg, iter, ifs, 0⟩] scope pos) 0 (.ref it) .none cenv) [] = A' at pg pt pe ⊢
  have stat : ∀ {σ' : L2.St} {H' : Hp} {s' : Shared}, L2.Inv (gCx X A' s0 H0 cenv fp [(a, go)]) [] σ' H' s' → (∀ b ∈ fp, H' b = none) → ∀ b ∈ fp, FpOk (gCx X A' s0 H0 cenv fp [(a, go)]) [] H' b := fun {σ' H' s'} I' hn b hb =>
    ⟨hn b hb, (I'.ok.exf b hb).1, I'.ok.exfs b hb, .inl hb, fun x c e => (I'.ok.exf b hb).2 x c e, fun p hp => by
      have hp : p ∈ [(a, go)] ++ ([] : List (Addr × Obj)) := hp
      rw [List.append_nil] at hp
      rw [List.mem_singleton.mp hp]
      exact fun e => hafp (by rw [show a = b from e]; exact hb)⟩
  have again : ∀ {σ8 : L2.St} {sb sc : Shared} {i m : Nat} {Hc : Hp} {Nx : Hp → Prop}, tn (i + 1) sb.heap → wipe σ8 (own.map (·.2)) = wipe σ (own.map (·.2)) → L2.Inv (gCx X A' s0 H0 cenv fp [(a, go)]) ([] ++ pinsAt fp sb.heap) σ8 Hc sc →
      (∀ Hd, Nx Hd → ∃ k, k < m ∧ W (i + 1) k Hd) → Nx Hc → ∃ k, k < m ∧ L2.Inv (gCx X A' s0 H0 cenv fp [(a, go)]) [] (wipe σ (own.map (·.2))) Hc sc ∧ tn (i + 1) sc.heap ∧ (∀ b ∈ fp, Hc b = none) ∧ W (i + 1) k Hc := fun {σ8 sb sc i m Hc Nx} turned hw J less nx => by
    obtain ⟨k, lt, go_on⟩ := less Hc nx
    have still : ∀ b ∈ fp, ∀ o, sb.heap.get? b = some o → sc.heap.get? b = some o ∧ Hc b = none := fun b hb o e => by
      have z := J.pin (b, o) (by simp [mem_pinsAt hb e])
      exact ⟨z.1, z.2.1⟩
    refine ⟨k, lt, J.unpinned (pins := []) |>.weak (by rw [← hw, wipe_length]) (fun j v e => ?_), T.keep _ _ _ turned fun b hb o e => (still b hb o e).1, fun b hb => ?_, go_on⟩
    · exact (wipe_some (hw ▸ e)).1
    · exact (T.obj _ _ turned b hb).elim fun o q => (still b hb o q.1).2
  refine fun m => Nat.strongRecOn m fun m ih n s₀ s i H' hmn I st hn0 w => ?_
  show Seg _ Aw _ _ _ s₀ _ ((compTurn (.GeneratorExp elt [⟨tg, iter, ifs, 0⟩] scope pos) 0 (.ref it) .none cenv).onRaise (leaving cenv)) [] s
  rw [Sem.onRaise_eq_wrap, compTurn_gen]
  refine seg_bind_wrap (wpAny_standAt (seg_bind_wrap ?_))
  rw [hA']
  rcases turn i m H' w with ⟨ended, qd⟩ | ⟨going, Nx, less, step⟩
  · refine thnF (T.done (gCx X A' s0 H0 cenv fp [(a, go)]) rfl rfl rfl rfl i [] s _ H' (fun _ _ => False) I (stat I hn0) st ended) fun r sa z => ?_
    rw [z.1]
    exact seg_end (.ok .next) (.inl ⟨.inr rfl, H', ⟨z.2.os, z.2.bare, z.2.base, z.2.hok⟩, qd⟩)
  · refine thnF (T.item (gCx X A' s0 H0 cenv fp [(a, go)]) rfl rfl rfl rfl i [] s _ H' (fun _ _ => False) I (stat I hn0) st going) fun r sa ⟨u, hr, item⟩ => ?_
    rw [hr]
    refine seg_bind_wrap ?_
    rw [hA']
    refine thnF item fun _ sb ⟨x, Hb, J, rx, yx, turned, none_⟩ => seg_bind_wrap ?_
    rw [hA']
    have J := J.pinned (stat J none_) (T.obj _ _ turned)
    refine thnF (pg.run _ sb _ Hb x u _ J rx (step x Hb yx)) fun _ sc ⟨σ8, Hc, Jc, hw, asked⟩ => seg_bind_wrap ?_
    rw [hA']
    refine thnF (pt.run _ sc σ8 Hc _ Jc asked) fun b sd ⟨Hd, Jd, told⟩ => ?_
    cases b with
    | false =>
      obtain ⟨k, lt, z1, z2, z3, z4⟩ := again turned hw Jd less (by simpa using told)
      exact seg_again rfl (ih k lt n s₀ sd (i + 1) Hd (by omega) z1 z2 z3 z4)
    | true =>
      have plain : ∀ v, yieldOut cenv v = yieldValue v := fun v => by unfold yieldOut; rw [hco]; rfl
      simp only [if_true, plain] at told ⊢
      rw [Sem.bind_eq_wrap', Sem.bind_eq_wrap']
      rw [Sem.wrap_wrap, Sem.wrap_wrap]
      refine seg_wrap ?_
      rw [hA']
      refine thnF (pe.run _ sd σ8 Hd _ Jd told) fun z se ⟨yv, He, Je, re, c, hc, hs1, hs2⟩ => ?_
      subst hc
      cases (show z = .bool c from re)
      match n, hmn with
      | n + 1, hmn =>
        have self := Je.pin (a, go) (List.mem_append_left _ List.mem_cons_self)
        refine seg_at (seg_yield rfl rfl rfl ⟨c, He, rfl, ⟨Je.os, Je.bare, Je.base, Je.hok⟩, Je.nolimit, hgo _ self.1, hs1, fun hcn sf e1 e2 e3 => ?_⟩)
        have Jf : L2.Inv (gCx X A' s0 H0 cenv fp [(a, go)]) ([] ++ pinsAt fp sb.heap) σ8 He sf :=
          Je.call' (ch := []) e1 (e3 ▸ Un.refl) (e3 ▸ Je.hok) e2 fun b hb => nomatch hb
        obtain ⟨k, lt, z1, z2, z3, z4⟩ := again turned hw Jf less (hs2 hcn)
        exact seg_again rfl (ih k lt n sf sf (i + 1) He (by omega) z1 z2 z3 z4)

/-- .. from its start -/
theorem seg_startB {X : Cx} {Aw : Around} {s0 : Shared} {H0 : Hp} {σ : L2.St} {elt tg iter : Expr} {ifs : List Expr} {scope : Scope} {own : List (Str × Nat)} {pos : Pos} {it a : Addr} {g : Nat} {go : Obj} {cenv : Env} {fp : List Addr} {tn : Nat → Heap → Prop} {J : It}
    {gg : TG} {tt : TT} {te : TE} {stop : Bool} {Qs Qd : Hp → Prop} {W : Nat → Nat → Hp → Prop} (hco : cenv.scope.isCoroutine = false) (hgo : ∀ h : Heap, h.get? a = some go → h.IsGen a g) (hafp : a ∉ fp)
    (T : Turn X.prog X.w X.K tg J fp it tn)
    (pg : PG (gCx X (Aw.over (.compLoop (.GeneratorExp elt [⟨tg, iter, ifs, 0⟩] scope pos) 0 (.ref it) .none cenv) []) s0 H0 cenv fp [(a, go)]) tg gg)
    (pt : PTs (gCx X (Aw.over (.compLoop (.GeneratorExp elt [⟨tg, iter, ifs, 0⟩] scope pos) 0 (.ref it) .none cenv) []) s0 H0 cenv fp [(a, go)]) ifs tt)
    (pe : PE (gCx X (Aw.over (.compLoop (.GeneratorExp elt [⟨tg, iter, ifs, 0⟩] scope pos) 0 (.ref it) .none cenv) []) s0 H0 cenv fp [(a, go)]) elt te)
    (turn : TurnB J gg tt te (own.map (·.2)) σ stop Qs Qd W) (m n : Nat) (s₀ s : Shared) (H' : Hp) (hmn : m < n)
    (I : L2.Inv (gCx X (Aw.over (.compLoop (.GeneratorExp elt [⟨tg, iter, ifs, 0⟩] scope pos) 0 (.ref it) .none cenv) []) s0 H0 cenv fp [(a, go)]) [] (wipe σ (own.map (·.2))) H' s) (st : tn 0 s.heap) (hn0 : ∀ b ∈ fp, H' b = none) (w : W 0 m H') :
      Seg (model X.prog X.w) Aw (RB X fp H0 s0 Qd) (YB X fp H0 s0 a g stop Qs) n s₀ (.compStart (.GeneratorExp elt [⟨tg, iter, ifs, 0⟩] scope pos) 0 (.ref it) .none cenv)
        ((model X.prog X.w).den (.compStart (.GeneratorExp elt [⟨tg, iter, ifs, 0⟩] scope pos) 0 (.ref it) .none cenv)) [] s := by
  have loop := seg_loopB hco hgo hafp T pg pt pe turn m n s₀ s 0 H' hmn I st hn0 w
  show Seg _ Aw _ _ _ s₀ _ ((compStart (.GeneratorExp elt [⟨tg, iter, ifs, 0⟩] scope pos) 0 (.ref it) .none cenv).onRaise (leaving cenv)) [] s
  unfold compStart
  rw [Sem.onRaise_eq_wrap]
  show Seg _ Aw _ _ _ s₀ _ ((ask >>= _).wrap _ _ _ _) [] s
  refine seg_bind_wrap <| wpAny_askSetting ?_
  split
  · exact seg_again rfl loop
  · first
      | exact seg_bind_wrap (wpAny_rule (seg_bind_wrap (wpAny_standAt (seg_bind_wrap (T.self _ 0 s _ _ st (seg_again rfl loop))))))
      | (refine seg_bind_wrap (wpAny_rule ?_); show Seg _ Aw _ _ _ s₀ _ ((standAt iter.pos >>= _).wrap _ _ _ _) [] s; exact seg_bind_wrap (wpAny_standAt (seg_bind_wrap (T.self _ 0 s _ _ st (seg_again rfl loop)))))

/-! ### the consumers all, any -/
section
variable {X : Cx} {A : Around} {fp : List Addr} {H0 : Hp} {s0 : Shared} {a : Addr} {g : Nat} {stop : Bool} {Qs Qd : Hp → Prop} {R : Result → Shared → Prop}

theorem setGen_heap (s : Shared) (g : Nat) (x : GenState) : (s.setGen g x).heap = s.heap := rfl
theorem setGen_os (s : Shared) (g : Nat) (x : GenState) : (s.setGen g x).os = s.os := rfl

theorem GFacts.gens {H' : Hp} {s s' : Shared} (f : GFacts X fp H0 H' s0 s) (ho : s'.os = s.os) (hk : ∀ b o, s.heap.get? b = some o → s'.heap.get? b = some o) (hb : AllBare s'.gens) : GFacts X fp H0 H' s0 s' :=
  ⟨ho.trans f.os, hb, f.un.trans (Un.kept hk), f.hok.kept hk⟩

/-- one item asked for -/
theorem ask_B {T : Type} {K : Option Value → Sem T} {Q : T → Shared → Prop} {E : Value → Shared → Prop} (hh : A.handled = none) (hd : A.depth < recursionLimit) {n : Nat} {s : Shared} (hg : s.heap.IsGen a g) (hl : s.heap.NoLimit) {gs : GenState}
    (hgs : s.gens[g]? = some gs) (hgo : gs.Goes (model X.prog X.w) A.in1 (RB X fp H0 s0 Qd) (YB X fp H0 s0 a g stop Qs) n (.send .none) (s.setGen g .running))
    (more : ∀ b H' s', GFacts X fp H0 H' s0 s' → (b = stop → Qs H') → (b = !stop → ∃ k, k < n ∧ s'.heap.IsGen a g ∧ s'.heap.NoLimit ∧ ∃ gs', s'.gens[g]? = some gs' ∧
        gs'.Goes (model X.prog X.w) A.in1 (RB X fp H0 s0 Qd) (YB X fp H0 s0 a g stop Qs) k (.send .none) (s'.setGen g .running)) → wpAny (model X.prog X.w) A (K (some (.bool b))) Q E s')
    (done : ∀ H' s', GFacts X fp H0 H' s0 s' → Qd H' → wpAny (model X.prog X.w) A (K none) Q E s') : wpAny (model X.prog X.w) A (pyNext (.ref a) >>= K) Q E s := by
  have here : g + 1 ≤ s.gens.size := Array.getElem?_eq_some_iff.mp hgs |>.1
  refine wpAny_bind (wpAny_gsz here (next_genG (F := fun _ _ s1 => ∃ H', GFacts X fp H0 H' s0 s1 ∧ Qd H') (Er := fun _ _ => False) hh hl hd hg hgs hgo (fun v s1 g1 b1 y sz => ?_) (fun s1 f h k _ => ?_) fun _ _ z => z.elim))
  · obtain ⟨b, H', rfl, f, l1, i1, st, cn⟩ := y
    have f' := f.gens (s' := s1.setGen g g1) rfl (fun _ _ e => e) (allBare_setGen f.bare b1)
    refine more b H' _ f' st fun e => ?_
    cases n with
    | zero => exact (cn e _ rfl f.bare rfl).elim
    | succ k =>
      have lt : g < s1.gens.size := by
        rw [setGen_size] at sz
        omega
      exact ⟨k, Nat.lt_succ_self k, i1, l1, g1, setGen_at lt, cn e _ rfl (allBare_setGen f'.bare rfl) rfl⟩
  · exact f.elim fun H' q => done H' _ (q.1.gens rfl k (allBare_setGen q.1.bare rfl)) q.2

theorem loop_all (hh : A.handled = none) (hd : A.depth < recursionLimit)
    (hs : ∀ s' H', GFacts X fp H0 H' s0 s' → Qs H' → R (.ok (.ret (.bool false))) s') (hdn : ∀ s' H', GFacts X fp H0 H' s0 s' → Qd H' → R (.ok (.ret (.bool true))) s') :
    ∀ (n : Nat) (s : Shared), s.heap.IsGen a g → s.heap.NoLimit →
      (∃ gs, s.gens[g]? = some gs ∧ gs.Goes (model X.prog X.w) A.in1.in1 (RB X fp H0 s0 Qd) (YB X fp H0 s0 a g false Qs) n (.send .none) (s.setGen g .running)) →
      codeAny (model X.prog X.w) A (.builtin "all.loop" ⟨[.ref a], []⟩) R s := fun n =>
  Nat.strongRecOn n fun n ih s hg hl ⟨gs, h1, h2⟩ => by
    refine codeAny_builtin F.entry_all_loop (by
      rw [(Around.under_plainId F.plain_all_loop _ :)]
      refine ask_B (A := A.in1) hh hd hg hl h1 h2 (fun b H' s' f st cn => ?_) fun H' s' f q => wpAny_bind (wpAny_rule (wpAny_pure (hdn s' H' f q)))
      refine wpAny_bind (wpAny_holding (wpAny_truthy_bool (wpAny_bind (wpAny_letGo ?_))))
      match b, st, cn with
      | false, st, _ => exact wpAny_bind (wpAny_rule (wpAny_pure (hs s' H' f (st rfl))))
      | true, _, cn =>
        obtain ⟨k, lt, i, l, more⟩ := cn rfl
        exact wpAny_pure ⟨plainId_quiet F.plain_all_loop _, ih k lt s' i l more⟩)

theorem loop_any (hh : A.handled = none) (hd : A.depth < recursionLimit)
    (hs : ∀ s' H', GFacts X fp H0 H' s0 s' → Qs H' → R (.ok (.ret (.bool true))) s') (hdn : ∀ s' H', GFacts X fp H0 H' s0 s' → Qd H' → R (.ok (.ret (.bool false))) s') :
    ∀ (n : Nat) (s : Shared), s.heap.IsGen a g → s.heap.NoLimit →
      (∃ gs, s.gens[g]? = some gs ∧ gs.Goes (model X.prog X.w) A.in1.in1 (RB X fp H0 s0 Qd) (YB X fp H0 s0 a g true Qs) n (.send .none) (s.setGen g .running)) →
      codeAny (model X.prog X.w) A (.builtin "any.loop" ⟨[.ref a], []⟩) R s := fun n =>
  Nat.strongRecOn n fun n ih s hg hl ⟨gs, h1, h2⟩ => by
    refine codeAny_builtin F.entry_any_loop (by
      rw [(Around.under_plainId F.plain_any_loop _ :)]
      refine ask_B (A := A.in1) hh hd hg hl h1 h2 (fun b H' s' f st cn => ?_) fun H' s' f q => wpAny_bind (wpAny_rule (wpAny_pure (hdn s' H' f q)))
      refine wpAny_bind (wpAny_holding (wpAny_truthy_bool (wpAny_bind (wpAny_letGo ?_))))
      match b, st, cn with
      | true, st, _ => exact wpAny_bind (wpAny_rule (wpAny_pure (hs s' H' f (st rfl))))
      | false, _, cn =>
        obtain ⟨k, lt, i, l, more⟩ := cn rfl
        exact wpAny_pure ⟨plainId_quiet F.plain_any_loop _, ih k lt s' i l more⟩)
end

/-! ### the rules -/
section
variable {X : Cx}
open GxR
/-- the table at P has grown, all else stays -/
def TabN (P : Addr) (q : Str) (H H' : Hp) : Prop := LamX.TabS H' P q ∧ ∀ b o, b ≠ P → H b = some o → H' b = some o
/-- all (stop = false), any (stop = true) of a generator expression: TabS, TabN: its def's table of code objects may grow -/
def tQG (stop : Bool) (P : Addr) (q : Str) (wi : TI) (g : TG) (tt : TT) (te : TE) (vs : List Nat) : TE := fun σ H Q => wi σ H fun J H1 => LamX.TabS H1 P q ∧ ∀ H2, TabN P q H1 H2 →
  ∃ W : Nat → Nat → Hp → Prop, (∃ m, W 0 m H2) ∧ TurnB J g tt te vs σ stop (fun H' => Q (.bl stop) H') (fun H' => Q (.bl (!stop)) H') W

theorem over_gen {A : Around} {elt tg iter : Expr} {ifs : List Expr} {scope : Scope} {pos : Pos} {v : Value} {cenv : Env} {l : List Env} (hf : A.frames = some l) :
    (A.over (.compLoop (.GeneratorExp elt [⟨tg, iter, ifs, 0⟩] scope pos) 0 v .none cenv) []).frames = some (cenv :: l) := by
  show pushEnvs [cenv] (pushEnvs [] A.frames) = some (cenv :: l)
  rw [hf]
  rfl
theorem over_room {A : Around} {k : Nat} {elt tg iter : Expr} {ifs : List Expr} {scope : Scope} {pos : Pos} {v : Value} {cenv : Env} (hr : Room (k + 1) A) :
    Room k (A.in1.in1.over (.compLoop (.GeneratorExp elt [⟨tg, iter, ifs, 0⟩] scope pos) 0 v .none cenv) []) :=
  ⟨hr.hd, by have := hr.dp; show A.depth + 0 + 1 + 3 * k + 5 < _; omega, by have := hr.un; show A.units + 1 + 1 + 0 + 3 + 16 * k + 200 < _; omega⟩

theorem gen_made {c P : Addr} {elt tg iter : Expr} {ifs : List Expr} {gpos : Pos} {scope : Scope} {own : List (Str × Nat)} {k : Nat} {wi : TI} {g : TG} {tt : TT} {te : TE} {stop : Bool} {Q : VK} {Q' : Value → Shared → Prop}
    {pins : List (Addr × Obj)} {σ : L2.St} {H : Hp} {s : Shared}
    (hr : Room (k + 1) X.A) (TB : TabB X.base X.mg c P) (hcode : X.env.code = .ref c) (hN : X.N.Nodup) (ok : GOk X.N X.env.scope scope own) (hi : PI X tg iter wi)
    (hg : ∀ (A' : Around) (s : Shared) (H : Hp) (C : Addr) (cl : List (Str × Addr)) (code : Value) (fp : List Addr) (pn : List (Addr × Obj)), Room k A' → PG (gCx X A' s H (genEnv scope cl C code builtinsNs X.env) fp pn) tg g)
    (ht : ∀ (A' : Around) (s : Shared) (H : Hp) (C : Addr) (cl : List (Str × Addr)) (code : Value) (fp : List Addr) (pn : List (Addr × Obj)), Room k A' → PTs (gCx X A' s H (genEnv scope cl C code builtinsNs X.env) fp pn) ifs tt)
    (he : ∀ (A' : Around) (s : Shared) (H : Hp) (C : Addr) (cl : List (Str × Addr)) (code : Value) (fp : List Addr) (pn : List (Addr × Obj)), Room k A' → PE (gCx X A' s H (genEnv scope cl C code builtinsNs X.env) fp pn) elt te)
    (hs : ∀ v, genFold iter X.env v = pure v) (I : L2.Inv X pins σ H s) (h : tQG stop P (X.env.qual ++ "<genexpr>") wi g tt te (own.map (·.2)) σ H Q)
    (hQ : ∀ (a gn n : Nat) (fp : List Addr) (H2 : Hp) (s4 s5 : Shared), L2.Inv X pins σ H2 s4 → (∀ b ∈ fp, FpOk X pins H2 b) → s5.os = s4.os → AllBare s5.gens → s5.heap.IsGen a gn → s5.heap.NoLimit → (∀ b o, s4.heap.get? b = some o → s5.heap.get? b = some o) →
      (∃ gs, s5.gens[gn]? = some gs ∧ ∀ s6 : Shared, s6.os = s5.os → AllBare s6.gens → s6.heap = s5.heap →
        gs.Goes (model X.prog X.w) X.A.in1.in1 (RB X fp H2 s4 (fun H' => Q (.bl (!stop)) H')) (YB X fp H2 s4 a gn stop (fun H' => Q (.bl stop) H')) n (.send .none) s6) → Q' (.ref a) s5) :
    wpAny (model X.prog X.w) X.A (eval (.GeneratorExp elt [⟨tg, iter, ifs, 0⟩] scope gpos) X.env) Q' X.xe s := by
  refine wpAny_GeneratorExp_make ok.co (closure_ok (frees I ok)) ok.cell ok.dot ok.blk.kind (by have := hr.dp; omega) (thn (hi.run pins s σ H _ I h) fun xv s1 hx => thn hx fun itv s2 h2 => ?_) hs
  obtain ⟨it, fp, tn, J, H1, e, I2, T, st2, f2, ⟨ps, hP, trs, hnm⟩, q⟩ := h2
  subst e
  have hPs : s2.heap.get? P = some { cls := .none, data := .fields ps } := I2.hok P _ hP
  have hPlt : P < s2.heap.objs.size := Heap.lt_size hPs
  have cd : PySem.W.CodeHd s2.heap c P := TB.code.keeps fun b u e => I2.bk b u e
  refine ⟨I2.nolimit, ?_⟩
  have cont : ∀ (code : Value) (h3 : Heap) (tk : Nat) (H3 : Hp), Heap.ExtBut P s2.heap h3 → s2.heap.objs.size ≤ h3.objs.size → L2.Inv X pins σ H3 { s2 with heap := h3, toks := tk } → TabN P (X.env.qual ++ "<genexpr>") H1 H3 → (∀ b, b ≠ P → b < s2.heap.objs.size → H3 b = H1 b) →
      wpAny (model X.prog X.w) X.A (builtinsFor X.env.globals X.env.builtins) (fun bi s₄ => ∀ h',
        h'.Ns s₄.heap.objs.size (fun y => if y = ".0" then some (Value.ref it) else none) → Heap.SameBut s₄.heap.objs.size (s₄.heap.push { cls := .type "frame", data := .dict #[] }) h' →
          Q' (.ref h'.objs.size) { s₄ with
            gens := s₄.gens.push (.fresh (.compStart (.GeneratorExp elt [⟨tg, iter, ifs, 0⟩] scope gpos) 0 (.ref it) .none (genEnv scope (cloFrom X.env.cells scope.names []) s₄.heap.objs.size code bi X.env))),
            toks := s₄.toks + 1 + 1 + 1,
            heap := h'.push { cls := .type "generator", data := .fields #[.int s₄.gens.size 0, .str "<genexpr>" (s₄.toks + 1), .str (X.env.qual ++ "<genexpr>") (s₄.toks + 1 + 1)] } }) X.xe { s2 with heap := h3, toks := tk } := by
    intro code h3 tk H3 hx hsz I3 hTN hold
    obtain ⟨bm, ob, e1, e2, _, _, e5, e6, e7, e8⟩ := TB.bm
    refine wpAny_builtinsFor (m := X.mg) (by rw [I3.ok.glob]; exact I3.ok.mod.glob.keeps I3.bk) e1 e2 (I3.bk _ _ e5) e6 e7 e8 ?_
    intro h' hns hsb
    generalize hs4 : ({ s2 with heap := h3, toks := tk } : Shared) = s4 at I3 hns hsb ⊢
    have h4 : s4.heap = h3 := by rw [← hs4]
    have fpP : ∀ b ∈ fp, b ≠ P := fun b hb z => by
      have := (f2 b hb).1
      rw [z, hP] at this
      cases this
    have sz2 : ∀ b ∈ fp, b < s2.heap.objs.size := fun b hb => by
      exact (T.obj _ _ st2 b hb).elim fun o q => Heap.lt_size q.1
    have f4 : ∀ b ∈ fp, FpOk X pins H3 b ∧ b < s4.heap.objs.size := fun b hb => by
      refine ⟨⟨?_, (f2 b hb).2⟩, by rw [h4]; exact Nat.lt_of_lt_of_le (sz2 b hb) hsz⟩
      rw [hold b (fpP b hb) (sz2 b hb)]
      exact (f2 b hb).1
    have st4 : tn 0 s4.heap := T.keep _ _ _ st2 fun b hb o e => by rw [h4]; exact hx b o (fpP b hb) e
    have kp' : ∀ b o, s4.heap.get? b = some o → h'.get? b = some o := fun b o e => hsb.extBut b o (Nat.ne_of_lt (Heap.lt_size e)) (Heap.get?_push_of_some _ e)
    have hsz' : h'.objs.size = s4.heap.objs.size + 1 := by rw [hsb.1, Heap.size_push]
    generalize hgo : ({ cls := .type "generator", data := .fields #[.int s4.gens.size 0, .str "<genexpr>" (s4.toks + 1), .str (X.env.qual ++ "<genexpr>") (s4.toks + 1 + 1)] } : Obj) = go
    have hgen : ∀ h : Heap, h.get? h'.objs.size = some go → h.IsGen h'.objs.size s4.gens.size := fun h e => ⟨go, _, _, e, by rw [← hgo], by rw [← hgo], by rw [← hgo]⟩
    have hpushed : (h'.push go).get? h'.objs.size = some go := by rw [← hgo]; exact Heap.get?_push_size _ rfl
    obtain ⟨W, ⟨m, w0⟩, turn⟩ := q H3 hTN
    have bare5 : ∀ x : GenState, x.bare = true → AllBare (s4.gens.push x) := fun x hx => AllBare.push I3.bare hx
    have kp5 : ∀ b o, s4.heap.get? b = some o → (h'.push go).get? b = some o := fun b o e => Heap.get?_push_of_some _ (kp' b o e)
    refine hQ h'.objs.size s4.gens.size (m + 1) fp (H3) s4 _ I3 (fun b hb => (f4 b hb).1) rfl (bare5 _ rfl) (hgen _ hpushed) (I3.nolimit.keeps kp5) kp5 ⟨_, Array.getElem?_push_size .., fun s6 o6 b6 k6 => ?_⟩
    refine ⟨rfl, ?_⟩
    have hA' : ((X.A.in1.in1).over (.compLoop (.GeneratorExp elt [⟨tg, iter, ifs, 0⟩] scope gpos) 0 (.ref it) .none (genEnv scope (cloFrom X.env.cells scope.names []) s4.heap.objs.size code builtinsNs X.env)) []).handled = none := hr.hd
    have hroom : Room k ((X.A.in1.in1).over (.compLoop (.GeneratorExp elt [⟨tg, iter, ifs, 0⟩] scope gpos) 0 (.ref it) .none (genEnv scope (cloFrom X.env.cells scope.names []) s4.heap.objs.size code builtinsNs X.env)) []) := over_room hr
    have k6' : s6.heap = h'.push go := k6
    refine seg_startB (own := own) (tt := tt) (te := te) (gg := g) (cenv := genEnv scope (cloFrom X.env.cells scope.names []) s4.heap.objs.size code builtinsNs X.env) (by exact ok.co) hgen (fun hm => ?_) T (hg _ _ _ _ _ _ _ _ hroom) (ht _ _ _ _ _ _ _ _ hroom) (he _ _ _ _ _ _ _ _ hroom) turn m (m + 1) s6 s6 (H3) (Nat.lt_succ_self _) ?_ ?_ (fun b hb => (f4 b hb).1.1) w0
    · have h9 : h'.objs.size < s4.heap.objs.size := (f4 _ hm).2
      exact absurd h9 (by rw [hsz']; exact Nat.not_lt.mpr (Nat.le_succ _))
    · refine gen_start (m := fun y => if y = ".0" then some (Value.ref it) else none) I3 ok hN f4 hA' (over_gen I3.ok.frames) o6 b6 (fun b o e => by rw [k6']; exact kp5 b o e) (by rw [k6']; exact hns.push _) fun p hp => ?_
      rw [List.mem_singleton.mp hp]
      exact ⟨by rw [k6']; exact hpushed, by show s4.heap.objs.size < h'.objs.size; omega, fun v z => by rw [← hgo] at z; cases z⟩
    · exact T.keep _ _ _ st4 fun b _ o e => by rw [k6']; exact kp5 b o e
  cases hit : codeAmong gpos ps.toList with
  | none =>
    refine wpAny_genexprCodeX hcode (cd.code hPs trs) (cd.tab hPs) hit fun c' h' tk hx hge hlt hco' hrec htab' _ => ?_
    obtain ⟨o1, vs, f1, tf, fl, tg', inF, tx, tt', op, _, _, _, _, _, _, _, _, _, htr, _⟩ := hco'
    obtain ⟨c2, oc, vs2, t2, e2, hoc, hd2, hv2⟩ := hrec
    cases e2
    have hn : H1 c' = none := I2.hok.fresh hge
    have hPc : P ≠ c' := ne_of_none hP hn
    refine cont _ h' tk _ hx (by omega) (LamX.inv_table (q := X.env.qual ++ "<genexpr>") (more := #[rawInt gpos.line, rawInt gpos.col, .ref c']) (h' := h') (t' := tk) I2 hP (fun b o hb e => hx b o hb e) htab'.2 hge ⟨oc, vs2, t2, hoc, hd2, hv2⟩) ?_ (fun b hb hlt2 => ?_)
    · refine ⟨⟨ps ++ #[rawInt gpos.line, rawInt gpos.col, .ref c'], by rw [upd_ne hPc, upd_same], htr, fun p' cv hcv => ?_⟩, fun b o hb e => by rw [upd_ne (ne_of_none e hn), upd_ne hb]; exact e⟩
      rw [Array.toList_append] at hcv
      rcases LamX.among_app _ trs hcv with z | z
      · obtain ⟨c0, z1, z2⟩ := hnm p' cv z
        have zP : c0 ≠ P := fun z3 => by
          rw [z3, hP] at z2
          exact LamX.codeO_ne ps (Option.some.inj z2).symm
        exact ⟨c0, z1, by rw [upd_ne (ne_of_none z2 hn), upd_ne zP]; exact z2⟩
      · exact ⟨c', z, upd_same⟩
    · rw [upd_ne (Nat.ne_of_lt (Nat.lt_of_lt_of_le hlt2 hge)), upd_ne hb]
  | some cv =>
    refine wpAny_genexprCode_hit hcode (cd.code hPs trs) hit ?_
    exact cont cv s2.heap s2.toks H1 (Heap.ExtBut.refl _ _) (Nat.le_refl _) (I2.kept (t' := s2.toks) fun _ _ e => e) ⟨⟨ps, hP, trs, hnm⟩, fun _ _ _ e => e⟩ fun _ _ _ => rfl

/-- the consumer's end, in the def's context -/
theorem GFacts.inv {pins : List (Addr × Obj)} {σ : L2.St} {fp : List Addr} {H2 H' : Hp} {s4 s' : Shared} (I : L2.Inv X pins σ H2 s4) (f : ∀ b ∈ fp, FpOk X pins H2 b) (h : GFacts X fp H2 H' s4 s') : L2.Inv X pins σ H' s' :=
  I.call' (ch := fp) h.os h.un h.hok h.bare fun b hb => ⟨(f b hb).2.2.2.1, (f b hb).2.1, (f b hb).2.2.2.2.1, (f b hb).2.2.2.2.2⟩

theorem pe_allG {c P : Addr} {elt tg iter : Expr} {ifs : List Expr} {p pos gpos : Pos} {scope : Scope} {own : List (Str × Nat)} {k : Nat} {wi : TI} {g : TG} {tt : TT} {te : TE}
    (hr : Room (k + 1) X.A) (hgl : Gl X "all") (hm : X.mg "all" = none) (TB : TabB X.base X.mg c P) (hcode : X.env.code = .ref c) (hN : X.N.Nodup) (ok : GOk X.N X.env.scope scope own) (hi : PI X tg iter wi)
    (hg : ∀ (A' : Around) (s : Shared) (H : Hp) (C : Addr) (cl : List (Str × Addr)) (code : Value) (fp : List Addr) (pn : List (Addr × Obj)), Room k A' → PG (gCx X A' s H (genEnv scope cl C code builtinsNs X.env) fp pn) tg g)
    (ht : ∀ (A' : Around) (s : Shared) (H : Hp) (C : Addr) (cl : List (Str × Addr)) (code : Value) (fp : List Addr) (pn : List (Addr × Obj)), Room k A' → PTs (gCx X A' s H (genEnv scope cl C code builtinsNs X.env) fp pn) ifs tt)
    (he : ∀ (A' : Around) (s : Shared) (H : Hp) (C : Addr) (cl : List (Str × Addr)) (code : Value) (fp : List Addr) (pn : List (Addr × Obj)), Room k A' → PE (gCx X A' s H (genEnv scope cl C code builtinsNs X.env) fp pn) elt te)
    (hs : ∀ v, genFold iter X.env v = pure v := by intro _; rfl)
    (hb : bootBuiltins "all" = some (.builtin "all") := by decide +kernel)
    (hst : starEach [.GeneratorExp elt [⟨tg, iter, ifs, 0⟩] scope gpos] X.env = (false, eval (.GeneratorExp elt [⟨tg, iter, ifs, 0⟩] scope gpos) X.env) :: starEach [] X.env := by rfl) :
    PE X (.Call (.Name "all" p) [.GeneratorExp elt [⟨tg, iter, ifs, 0⟩] scope gpos] [] pos) (tQG false P (X.env.qual ++ "<genexpr>") wi g tt te (own.map (·.2))) := by
  constructor
  intro pins s σ H Q I h
  refine wpAny_Call_Name_kw (ld_blt I hgl hm hb ?_)
  refine PyProof.Rows.callWith_builtin1 ?_ hst (by rfl)
  rw [hst]
  show wpAny _ _ (spliced ((false, eval (.GeneratorExp elt [⟨tg, iter, ifs, 0⟩] scope gpos) X.env) :: backTo pos (starEach [] X.env))) _ _ s
  refine Calls.spliced_cons (gen_made (Q := Q) hr TB hcode hN ok hi hg ht he hs I h fun a gn n fp H2 s4 s5 I4 f4 hos hba hge hli hkp hgs => ?_)
  refine Calls.spliced_nil ?_
  obtain ⟨gs, hgs, hgo⟩ := hgs
  refine call_function_tree F.kind_all F.plain_all F.entry_all
    (F.args_all1 _) ?_
  unfold Builtin.«all»
  refine wpAny_bind (m := oneArg "all" _) (wpAny_pure (wpAny_bind (wpAny_pyIter_gen hge ?_)))
  refine wpAny_pure ⟨plainId_quiet F.plain_all_loop _, loop_all (fp := fp) (H0 := H2) (s0 := s4) (g := gn) (Qs := fun H' => Q (.bl false) H') (Qd := fun H' => Q (.bl (!false)) H') hr.hd (by have := hr.dp; omega) (fun s' H' hf hq => ?_) (fun s' H' hf hq => ?_) n s5 hge hli ⟨gs, hgs, hgo _ rfl (allBare_setGen hba rfl) rfl⟩⟩
  · exact ⟨.bl false, H', hf.inv I4 f4, rfl, hq⟩
  · exact ⟨.bl true, H', hf.inv I4 f4, rfl, hq⟩

theorem pe_anyG {c P : Addr} {elt tg iter : Expr} {ifs : List Expr} {p pos gpos : Pos} {scope : Scope} {own : List (Str × Nat)} {k : Nat} {wi : TI} {g : TG} {tt : TT} {te : TE}
    (hr : Room (k + 1) X.A) (hgl : Gl X "any") (hm : X.mg "any" = none) (TB : TabB X.base X.mg c P) (hcode : X.env.code = .ref c) (hN : X.N.Nodup) (ok : GOk X.N X.env.scope scope own) (hi : PI X tg iter wi)
    (hg : ∀ (A' : Around) (s : Shared) (H : Hp) (C : Addr) (cl : List (Str × Addr)) (code : Value) (fp : List Addr) (pn : List (Addr × Obj)), Room k A' → PG (gCx X A' s H (genEnv scope cl C code builtinsNs X.env) fp pn) tg g)
    (ht : ∀ (A' : Around) (s : Shared) (H : Hp) (C : Addr) (cl : List (Str × Addr)) (code : Value) (fp : List Addr) (pn : List (Addr × Obj)), Room k A' → PTs (gCx X A' s H (genEnv scope cl C code builtinsNs X.env) fp pn) ifs tt)
    (he : ∀ (A' : Around) (s : Shared) (H : Hp) (C : Addr) (cl : List (Str × Addr)) (code : Value) (fp : List Addr) (pn : List (Addr × Obj)), Room k A' → PE (gCx X A' s H (genEnv scope cl C code builtinsNs X.env) fp pn) elt te)
    (hs : ∀ v, genFold iter X.env v = pure v := by intro _; rfl)
    (hst : starEach [.GeneratorExp elt [⟨tg, iter, ifs, 0⟩] scope gpos] X.env = (false, eval (.GeneratorExp elt [⟨tg, iter, ifs, 0⟩] scope gpos) X.env) :: starEach [] X.env := by rfl) :
    PE X (.Call (.Name "any" p) [.GeneratorExp elt [⟨tg, iter, ifs, 0⟩] scope gpos] [] pos) (tQG true P (X.env.qual ++ "<genexpr>") wi g tt te (own.map (·.2))) := by
  constructor
  intro pins s σ H Q I h
  refine wpAny_Call_Name_kw (ld_blt I hgl hm boot_any ?_)
  refine PyProof.Rows.callWith_builtin1 ?_ hst (by rfl)
  rw [hst]
  show wpAny _ _ (spliced ((false, eval (.GeneratorExp elt [⟨tg, iter, ifs, 0⟩] scope gpos) X.env) :: backTo pos (starEach [] X.env))) _ _ s
  refine Calls.spliced_cons (gen_made (Q := Q) hr TB hcode hN ok hi hg ht he hs I h fun a gn n fp H2 s4 s5 I4 f4 hos hba hge hli hkp hgs => ?_)
  refine Calls.spliced_nil ?_
  obtain ⟨gs, hgs, hgo⟩ := hgs
  refine call_function_tree F.kind_any F.plain_any F.entry_any
    (F.args_any1 _) ?_
  unfold Builtin.«any»
  refine wpAny_bind (m := oneArg "any" _) (wpAny_pure (wpAny_bind (wpAny_pyIter_gen hge ?_)))
  refine wpAny_pure ⟨plainId_quiet F.plain_any_loop _, loop_any (fp := fp) (H0 := H2) (s0 := s4) (g := gn) (Qs := fun H' => Q (.bl true) H') (Qd := fun H' => Q (.bl (!true)) H') hr.hd (by have := hr.dp; omega) (fun s' H' hf hq => ?_) (fun s' H' hf hq => ?_) n s5 hge hli ⟨gs, hgs, hgo _ rfl (allBare_setGen hba rfl) rfl⟩⟩
  · exact ⟨.bl true, H', hf.inv I4 f4, rfl, hq⟩
  · exact ⟨.bl false, H', hf.inv I4 f4, rfl, hq⟩
end
end Gx

set_option maxRecDepth 100000
set_option maxHeartbeats 4100000
/-! Data without a heap: what expressions and statements do to plain values; each reading of the hand layer once, lifted. -/
namespace Dl
open L2 PySem PySem.Spec PyProof.Rows

/-! ### the data -/
inductive D where
  | non | bl (b : Bool) | int (i : Int) | str (x : Str) | tup (xs : List D) | lst (xs : List D) | emp | dii (kvs : List (Int × Int)) | ob (v : V) | pr (x y : D) | dil (ks : List Int) (vs : List D) | exn (c : Addr)
/-- a dict of ints to ints, as the hand layer holds it -/
def kvI (kvs : List (Int × Int)) : List (L2.Key × V) := kvs.map fun p => (Sum.inl p.1, V.int p.2)
/-- .. of ints to anything -/
def kvZ (ks : List Int) (ws : List V) : List (L2.Key × V) := (ks.map Sum.inl).zip ws

/-- a list that is never written again -/
def FzL (K : PySem.W.Frag) (H : Hp) (a : Addr) (vs : List V) : Prop := ∃ o, H a = some (.frz o (.lst vs))
theorem FzL.sq {K : PySem.W.Frag} {H : Hp} {a : Addr} {vs : List V} (h : FzL K H a vs) : SqL K H a vs := by
  obtain ⟨o, h⟩ := h
  exact .inl (.inr ⟨o, h⟩)
/-- a tuple made here: it has no attributes of its own -/
def SqX (H : Hp) (a : Addr) (vs : List V) : Prop := ∃ o : Obj, H a = some (.frz o (.tup vs)) ∧ o.dict = none
theorem SqX.sq {K : PySem.W.Frag} {H : Hp} {a : Addr} {vs : List V} (h : SqX H a vs) : SqT K H a vs := by
  obtain ⟨o, h, _⟩ := h
  exact .inl (.inr ⟨o, h⟩)
/-- an exception of the class cls -/
def ExK (cls : Value) (a : Addr) : HO := .ext fun h => ∃ (oe : Obj) (vs : Array Value), h.get? a = some oe ∧ Zc cls none oe ∧ oe.data = .fields vs
mutual
def Rep (K : PySem.W.Frag) (H : Hp) : D → V → Prop
  | .non, v => v = .non
  | .bl b, v => v = .bl b
  | .int i, v => v = .int i
  | .str x, v => v = .str x
  | .tup xs, v => ∃ a vs, v = .ref a ∧ SqX H a vs ∧ RepL K H xs vs
  | .lst xs, v => ∃ a vs, v = .ref a ∧ FzL K H a vs ∧ RepL K H xs vs
  | .emp, v => ∃ a o, v = .ref a ∧ H a = some (.frz o (.dK []))
  | .dii kvs, v => ∃ a o, v = .ref a ∧ H a = some (.frz o (.dK (kvI kvs)))
  | .ob u, v => v = u
  | .pr x y, v => ∃ a u w, v = .ref a ∧ SqT K H a [u, w] ∧ Rep K H x u ∧ Rep K H y w
  | .dil ks vs, v => ∃ a o ws, v = .ref a ∧ H a = some (.frz o (.dK (kvZ ks ws))) ∧ ws.length = ks.length ∧ RepL K H vs ws
  | .exn c, v => ∃ a o, v = .ref a ∧ H a = some (.frz o (ExK (.ref c) a))
def RepL (K : PySem.W.Frag) (H : Hp) : List D → List V → Prop
  | [], vs => vs = []
  | x :: xs, vs => ∃ v ws, vs = v :: ws ∧ Rep K H x v ∧ RepL K H xs ws
end

/-! ### the world of a law: what is written, what may change (tables of code objects, the state of the draws), what holds of it -/
/-- a hidden state that goes along with the run: data that the text itself doesn't hold as data -/
abbrev Gh := List D
/-- what is never written: told by a reading of its own, locked, a tuple -/
def Fx (o : HO) : Prop := (∃ c q, o = LamX.CodeO c q) ∨ (∃ ob u, o = .frz ob u) ∨ ∃ xs, o = .tup xs
theorem fx_lst {vs : List V} : ¬ Fx (.lst vs) := by
  rintro (⟨c, q, e⟩ | ⟨ob, u, e⟩ | ⟨xs, e⟩)
  · unfold LamX.CodeO at e
    cases e
  all_goals cases e
theorem fx_dK {vs : List (L2.Key × V)} : ¬ Fx (.dK vs) := by
  rintro (⟨c, q, e⟩ | ⟨ob, u, e⟩ | ⟨xs, e⟩)
  · unfold LamX.CodeO at e
    cases e
  all_goals cases e
theorem fx_tbl {ps : Array Value} : ¬ Fx (.tbl ps) := by
  rintro (⟨c, q, e⟩ | ⟨ob, u, e⟩ | ⟨xs, e⟩)
  · unfold LamX.CodeO at e
    cases e
  all_goals cases e
structure Wd where
  K : PySem.W.Frag
  S : Addr → Prop
  Tb : Addr → Str → Prop
  G : Gh → Hp → Prop
  gS : ∀ γ H b, G γ H → S b → ∃ o, H b = some o ∧ (∀ xs, o ≠ .tup xs) ∧ (∀ ob u, o ≠ .frz ob u)
  gK : ∀ γ H H', G γ H → (∀ b o, (S b ∨ Fx o) → H b = some o → H' b = some o) → G γ H'
  tS : ∀ P q, Tb P q → S P
  tG : ∀ γ H P q, G γ H → Tb P q → LamX.TabS H P q
  tU : ∀ γ H H' P q, G γ H → Tb P q → Gx.TabN P q H H' → G γ H'

/-- as Rep, a list may be one's own at the top -/
def Rep1 (W : Wd) (H : Hp) : D → V → Prop
  | .lst xs, v => ∃ a vs, v = .ref a ∧ (FzL W.K H a vs ∨ (H a = some (.lst vs) ∧ ¬ W.S a)) ∧ RepL W.K H xs vs
  | d, v => Rep W.K H d v
theorem Rep.one {W : Wd} {H : Hp} {d : D} {v : V} (h : Rep W.K H d v) : Rep1 W H d v := by
  cases d with
  | lst xs =>
    simp only [Rep] at h
    obtain ⟨a, vs, e, f, r⟩ := h
    exact ⟨a, vs, e, .inl f, r⟩
  | _ => exact h
theorem Rep1.sq {W : Wd} {H : Hp} {xs : List D} {v : V} (h : Rep1 W H (.lst xs) v) : ∃ a vs, v = .ref a ∧ SqL W.K H a vs ∧ RepL W.K H xs vs := by
  obtain ⟨a, vs, e, f, r⟩ := h
  refine ⟨a, vs, e, ?_, r⟩
  rcases f with f | ⟨f, _⟩
  · exact f.sq
  · exact .inl (.inl f)
def Keep (W : Wd) (H H' : Hp) : Prop := ∀ b o, H b = some o → ¬ W.S b → H' b = some o
theorem Keep.refl {W : Wd} (H : Hp) : Keep W H H := fun _ _ h _ => h
theorem Keep.trans {W : Wd} {H H1 H2 : Hp} (a : Keep W H H1) (b : Keep W H1 H2) : Keep W H H2 := fun c o h n => b c o (a c o h n) n
section
variable {W : Wd} {H H' : Hp}
theorem Keep.rd {a : Addr} {u : HO} {γ : Gh} (g : W.G γ H) (k : Keep W H H') (hu : (∃ xs, u = .tup xs) ∨ (∃ o w, u = .frz o w)) (h : H a = some u) : H' a = some u := by
  refine k a u h fun s => ?_
  obtain ⟨o, e, n1, n2⟩ := W.gS _ H a g s
  rw [h] at e
  cases e
  rcases hu with ⟨xs, rfl⟩ | ⟨o, w, rfl⟩
  · exact n1 _ rfl
  · exact n2 _ _ rfl
theorem Keep.sqT {a : Addr} {vs : List V} {γ : Gh} (g : W.G γ H) (k : Keep W H H') (h : SqT W.K H a vs) : SqT W.K H' a vs := by
  rcases h with (h | ⟨ob, h⟩) | h
  · exact .inl (.inl (k.rd g (.inl ⟨_, rfl⟩) h))
  · exact .inl (.inr ⟨ob, k.rd g (.inr ⟨_, _, rfl⟩) h⟩)
  · exact .inr h
theorem Keep.sqX {a : Addr} {vs : List V} {γ : Gh} (g : W.G γ H) (k : Keep W H H') (h : SqX H a vs) : SqX H' a vs := by
  obtain ⟨o, h, n⟩ := h
  exact ⟨o, k.rd g (.inr ⟨_, _, rfl⟩) h, n⟩
theorem Keep.fzL {a : Addr} {vs : List V} {γ : Gh} (g : W.G γ H) (k : Keep W H H') (h : FzL W.K H a vs) : FzL W.K H' a vs := by
  obtain ⟨o, h⟩ := h
  exact ⟨o, k.rd g (.inr ⟨_, _, rfl⟩) h⟩
mutual
theorem Rep.keep {γ : Gh} (g : W.G γ H) (k : Keep W H H') : ∀ (d : D) (v : V), Rep W.K H d v → Rep W.K H' d v
  | .non, v, h => by simpa only [Rep] using h
  | .bl b, v, h => by simpa only [Rep] using h
  | .int i, v, h => by simpa only [Rep] using h
  | .str x, v, h => by simpa only [Rep] using h
  | .tup xs, v, h => by
    simp only [Rep] at h ⊢
    obtain ⟨a, vs, e, q, r⟩ := h
    exact ⟨a, vs, e, k.sqX g q, RepL.keep g k xs vs r⟩
  | .lst xs, v, h => by
    simp only [Rep] at h ⊢
    obtain ⟨a, vs, e, q, r⟩ := h
    exact ⟨a, vs, e, k.fzL g q, RepL.keep g k xs vs r⟩
  | .emp, v, h => by
    simp only [Rep] at h ⊢
    obtain ⟨a, o, e, q⟩ := h
    exact ⟨a, o, e, k.rd g (.inr ⟨_, _, rfl⟩) q⟩
  | .dii kvs, v, h => by
    simp only [Rep] at h ⊢
    obtain ⟨a, o, e, q⟩ := h
    exact ⟨a, o, e, k.rd g (.inr ⟨_, _, rfl⟩) q⟩
  | .ob u, v, h => by simpa only [Rep] using h
  | .pr x y, v, h => by
    simp only [Rep] at h ⊢
    obtain ⟨a, u, w, e, q, r1, r2⟩ := h
    exact ⟨a, u, w, e, k.sqT g q, Rep.keep g k x u r1, Rep.keep g k y w r2⟩
  | .dil ks vs, v, h => by
    simp only [Rep] at h ⊢
    obtain ⟨a, o, ws, e, q, l, r⟩ := h
    exact ⟨a, o, ws, e, k.rd g (.inr ⟨_, _, rfl⟩) q, l, RepL.keep g k vs ws r⟩
  | .exn c, v, h => by
    simp only [Rep] at h ⊢
    obtain ⟨a, o, e, q⟩ := h
    exact ⟨a, o, e, k.rd g (.inr ⟨_, _, rfl⟩) q⟩
theorem RepL.keep {γ : Gh} (g : W.G γ H) (k : Keep W H H') : ∀ (xs : List D) (vs : List V), RepL W.K H xs vs → RepL W.K H' xs vs
  | [], vs, h => by simpa only [RepL] using h
  | x :: xs, vs, h => by
    simp only [RepL] at h ⊢
    obtain ⟨v, ws, e, a, b⟩ := h
    exact ⟨v, ws, e, Rep.keep g k x v a, RepL.keep g k xs ws b⟩
end
theorem Rep1.keep {γ : Gh} (g : W.G γ H) (k : Keep W H H') : ∀ (d : D) (v : V), Rep1 W H d v → Rep1 W H' d v := fun d v h => by
  cases d with
  | lst xs =>
    obtain ⟨a, vs, e, f, r⟩ := h
    refine ⟨a, vs, e, ?_, RepL.keep g k _ _ r⟩
    rcases f with f | ⟨f, n⟩
    · exact .inl (k.fzL g f)
    · exact .inr ⟨k a _ f n, n⟩
  | _ => exact Rep.keep g k _ v h
theorem Keep.freed (k : Keep W H H') {p : Addr} (h : H' p = none) {γ : Gh} (g : W.G γ H) {γ' : Gh} (g' : W.G γ' H') : H p = none := by
  cases q : H p with
  | none => rfl
  | some o =>
    by_cases hs : W.S p
    · obtain ⟨o', e, _⟩ := W.gS _ H' p g' hs
      rw [h] at e; cases e
    · rw [k p o q hs] at h; cases h
/-- a new object -/
theorem Keep.new {p : Addr} {o : HO} (hp : H p = Option.none) : Keep W H (upd H p o) := fun b u h _ => by rw [upd_ne (ne_of_none h hp)]; exact h
theorem gnew {γ : Gh} (g : W.G γ H) {p : Addr} {o : HO} (hp : H p = Option.none) : W.G γ (upd H p o) := W.gK _ H _ g fun b u _ h => by rw [upd_ne (ne_of_none h hp)]; exact h
end
theorem RepL.len {K : PySem.W.Frag} {H : Hp} : ∀ {xs : List D} {vs : List V}, RepL K H xs vs → vs.length = xs.length
  | [], vs, h => by simp only [RepL] at h; rw [h]; rfl
  | x :: xs, vs, h => by
    simp only [RepL] at h
    obtain ⟨v, ws, rfl, _, b⟩ := h
    rw [List.length_cons, List.length_cons, RepL.len b]
theorem RepL.app {K : PySem.W.Frag} {H : Hp} : ∀ {xs ys : List D} {vs ws : List V}, RepL K H xs vs → RepL K H ys ws → RepL K H (xs ++ ys) (vs ++ ws)
  | [], ys, vs, ws, h, h' => by simp only [RepL] at h; rw [h]; exact h'
  | x :: xs, ys, vs, ws, h, h' => by
    simp only [RepL] at h
    obtain ⟨v, us, rfl, a, b⟩ := h
    show RepL K H (x :: (xs ++ ys)) (v :: (us ++ ws))
    simp only [RepL]
    exact ⟨v, us ++ ws, rfl, a, RepL.app b h'⟩
theorem RepL.get {K : PySem.W.Frag} {H : Hp} : ∀ {xs : List D} {vs : List V} {i : Nat} {v : V}, RepL K H xs vs → vs[i]? = some v → ∃ d, xs[i]? = some d ∧ Rep K H d v
  | [], vs, i, v, h, e => by simp only [RepL] at h; rw [h] at e; simp at e
  | x :: xs, vs, i, v, h, e => by
    simp only [RepL] at h
    obtain ⟨u, us, rfl, a, b⟩ := h
    cases i with
    | zero => simp at e; subst e; exact ⟨x, by simp, a⟩
    | succ i => obtain ⟨d, h1, h2⟩ := RepL.get (i := i) b (by simpa using e); exact ⟨d, by simpa using h1, h2⟩
theorem RepL.get' {K : PySem.W.Frag} {H : Hp} : ∀ {xs : List D} {vs : List V} {i : Nat} {d : D}, RepL K H xs vs → xs[i]? = some d → ∃ v, vs[i]? = some v ∧ Rep K H d v
  | [], vs, i, d, h, e => by simp at e
  | x :: xs, vs, i, d, h, e => by
    simp only [RepL] at h
    obtain ⟨u, us, rfl, a, b⟩ := h
    cases i with
    | zero => simp at e; subst e; exact ⟨u, by simp, a⟩
    | succ i => obtain ⟨d, h1, h2⟩ := RepL.get' (i := i) b (by simpa using e); exact ⟨d, by simpa using h1, h2⟩
theorem RepL.take {K : PySem.W.Frag} {H : Hp} : ∀ {xs : List D} {vs : List V} (n : Nat), RepL K H xs vs → RepL K H (xs.take n) (vs.take n)
  | _, _, 0, _ => by simp only [List.take_zero, RepL]
  | [], vs, n + 1, h => by simp only [RepL] at h; rw [h]; simp only [List.take_nil, RepL]
  | x :: xs, vs, n + 1, h => by
    simp only [RepL] at h
    obtain ⟨u, us, rfl, a, b⟩ := h
    simp only [List.take_succ_cons, RepL]
    exact ⟨u, _, rfl, a, RepL.take n b⟩
theorem RepL.drop {K : PySem.W.Frag} {H : Hp} : ∀ {xs : List D} {vs : List V} (n : Nat), RepL K H xs vs → RepL K H (xs.drop n) (vs.drop n)
  | _, _, 0, h => by simpa only [List.drop_zero] using h
  | [], vs, n + 1, h => by simp only [RepL] at h; rw [h]; simp only [List.drop_nil, RepL]
  | x :: xs, vs, n + 1, h => by
    simp only [RepL] at h
    obtain ⟨u, us, rfl, a, b⟩ := h
    simp only [List.drop_succ_cons]
    exact RepL.drop n b

/-! ### what is wanted: of the data, of an exception's class -/
structure M (α : Type) where
  run : Gh → (α → Gh → Prop) → (Addr → Gh → Prop) → Prop
  mono : ∀ {γ : Gh} {P P' : α → Gh → Prop} {X X' : Addr → Gh → Prop}, (∀ a γ, P a γ → P' a γ) → (∀ c γ, X c γ → X' c γ) → run γ P X → run γ P' X'
namespace M
def pur {α : Type} (a : α) : M α := ⟨fun γ P _ => P a γ, fun h _ q => h a _ q⟩
def bnd {α β : Type} (m : M α) (k : α → M β) : M β := ⟨fun γ P X => m.run γ (fun a γ' => (k a).run γ' P X) X, fun h hx q => m.mono (fun a _ z => (k a).mono h hx z) hx q⟩
instance : Monad M where
  pure := pur
  bind := bnd
def fail {α : Type} : M α := ⟨fun _ _ _ => False, fun _ _ q => q⟩
def need (p : Prop) : M Unit := ⟨fun γ P _ => p ∧ P () γ, fun h _ q => ⟨q.1, h () _ q.2⟩⟩
def raise {α : Type} (c : Addr) : M α := ⟨fun γ _ X => X c γ, fun _ hx q => hx c _ q⟩
def noX {α : Type} (m : M α) : M α := ⟨fun γ P _ => m.run γ P (fun _ _ => False), fun h _ q => m.mono h (fun _ _ z => z) q⟩
def any {α : Type} (S : α → Prop) : M α := ⟨fun γ P _ => ∀ a, S a → P a γ, fun h _ q a s => h a _ (q a s)⟩
/-- any value, the hidden state moved on by a relation -/
def move {α : Type} (S : Gh → α → Gh → Prop) : M α := ⟨fun γ P _ => ∀ a γ', S γ a γ' → P a γ', fun h _ q a γ' s => h a γ' (q a γ' s)⟩
def ask : M Gh := ⟨fun γ P _ => P γ γ, fun h _ q => h _ _ q⟩
section
variable {α β : Type} {γ : Gh} {X : Addr → Gh → Prop}
@[simp] theorem run_pure (a : α) (P : α → Gh → Prop) : (pure a : M α).run γ P X = P a γ := rfl
@[simp] theorem run_bind (m : M α) (k : α → M β) (P : β → Gh → Prop) : (m >>= k).run γ P X = m.run γ (fun a γ' => (k a).run γ' P X) X := rfl
@[simp] theorem run_ite {c : Prop} [Decidable c] (a b : M α) (P : α → Gh → Prop) : (if c then a else b).run γ P X = if c then a.run γ P X else b.run γ P X := by split <;> rfl
@[simp] theorem run_fail (P : α → Gh → Prop) : (fail : M α).run γ P X = False := rfl
@[simp] theorem run_need (p : Prop) (P : Unit → Gh → Prop) : (need p).run γ P X = (p ∧ P () γ) := rfl
@[simp] theorem run_raise (c : Addr) (P : α → Gh → Prop) : (raise c : M α).run γ P X = X c γ := rfl
@[simp] theorem run_noX (m : M α) (P : α → Gh → Prop) : (noX m).run γ P X = m.run γ P (fun _ _ => False) := rfl
@[simp] theorem run_any (S : α → Prop) (P : α → Gh → Prop) : (any S).run γ P X = ∀ a, S a → P a γ := rfl
@[simp] theorem run_move (S : Gh → α → Gh → Prop) (P : α → Gh → Prop) : (move S).run γ P X = ∀ a γ', S γ a γ' → P a γ' := rfl
@[simp] theorem run_ask (P : Gh → Gh → Prop) : ask.run γ P X = P γ γ := rfl
end
end M

/-! ### slots -/
/-- an object of one's own: a list, a dict of ints to ints -/
inductive OD where
  | lst (xs : List D) | dii (kvs : List (Int × Int))
inductive SD where
  | sh (d : D) | ow (o : OD)
abbrev SD.own (xs : List D) : SD := .ow (.lst xs)
def OD.rep (K : PySem.W.Frag) (H : Hp) : OD → HO → Prop
  | .lst xs, u => ∃ vs, u = .lst vs ∧ RepL K H xs vs
  | .dii kvs, u => u = .dK (kvI kvs)
theorem OD.rep.keep {W : Wd} {H H' : Hp} {o : OD} {u : HO} {γ : Gh} (g : W.G γ H) (k : Keep W H H') (h : o.rep W.K H u) : o.rep W.K H' u := by
  cases o with
  | lst xs =>
    obtain ⟨vs, e, r⟩ := h
    exact ⟨vs, e, r.keep g k⟩
  | dii kvs => exact h
/-- one's own objects are written: no tuple, nothing locked, nothing told by a reading of its own -/
theorem OD.rep.mut {K : PySem.W.Frag} {H : Hp} {o : OD} {u : HO} (h : o.rep K H u) : (∀ xs, u ≠ .tup xs) ∧ (∀ ob w, u ≠ .frz ob w) ∧ (∀ φ, u ≠ .ext φ) ∧ Mut (some u) := by
  cases o with
  | lst xs =>
    obtain ⟨vs, rfl, r⟩ := h
    exact ⟨fun _ z => (nomatch z), fun _ _ z => (nomatch z), fun _ z => (nomatch z), True.intro⟩
  | dii kvs =>
    have h : u = .dK (kvI kvs) := h
    subst h
    exact ⟨fun _ z => (nomatch z), fun _ _ z => (nomatch z), fun _ z => (nomatch z), True.intro⟩
abbrev DE := List (Option SD)
structure StOk (W : Wd) (H0 H : Hp) (σ : L2.St) (e : DE) : Prop where
  len : e.length = σ.length
  sh : ∀ (i : Nat) (d : D), e[i]? = some (some (SD.sh d)) → ∃ v : V, σ[i]? = some (some v) ∧ Rep W.K H d v
  owo : ∀ (i : Nat) (o : OD), e[i]? = some (some (SD.ow o)) → ∃ (a : Addr) (u : HO), σ[i]? = some (some (V.ref a)) ∧ H a = some u ∧ o.rep W.K H u ∧ H0 a = none ∧ ¬ W.S a
  diso : ∀ (i j : Nat) (o o' : OD) (a : Addr), e[i]? = some (some (SD.ow o)) → e[j]? = some (some (SD.ow o')) → σ[i]? = some (some (V.ref a)) → σ[j]? = some (some (V.ref a)) → i = j
theorem StOk.own {W : Wd} {H0 H : Hp} {σ : L2.St} {e : DE} (h : StOk W H0 H σ e) (i : Nat) (xs : List D) (q : e[i]? = some (some (SD.own xs))) : ∃ (a : Addr) (vs : List V), σ[i]? = some (some (V.ref a)) ∧ H a = some (.lst vs) ∧ RepL W.K H xs vs ∧ H0 a = none ∧ ¬ W.S a := by
  obtain ⟨a, u, h1, h2, ⟨vs, rfl, h3⟩, h4, h5⟩ := h.owo i _ q
  exact ⟨a, vs, h1, h2, h3, h4, h5⟩
theorem StOk.dic {W : Wd} {H0 H : Hp} {σ : L2.St} {e : DE} (h : StOk W H0 H σ e) (i : Nat) (kvs : List (Int × Int)) (q : e[i]? = some (some (SD.ow (.dii kvs)))) : ∃ a : Addr, σ[i]? = some (some (V.ref a)) ∧ H a = some (.dK (kvI kvs)) ∧ H0 a = none ∧ ¬ W.S a := by
  obtain ⟨a, u, h1, h2, h3, h4, h5⟩ := h.owo i _ q
  have h3 : u = .dK (kvI kvs) := h3
  subst h3
  exact ⟨a, h1, h2, h4, h5⟩
theorem StOk.keep {W : Wd} {H0 H H' : Hp} {σ : L2.St} {e : DE} {γ : Gh} (g : W.G γ H) (k : Keep W H H') (h : StOk W H0 H σ e) : StOk W H0 H' σ e where
  len := h.len
  sh := fun i d q => by obtain ⟨v, a, b⟩ := h.sh i d q; exact ⟨v, a, b.keep g k⟩
  owo := fun i o q => by
    obtain ⟨a, u, h1, h2, h3, h4, h5⟩ := h.owo i o q
    exact ⟨a, u, h1, k a _ h2 h5, h3.keep g k, h4, h5⟩
  diso := h.diso

/-- how an exception leaves -/
def XD (W : Wd) (H0 : Hp) (E : XK) : Addr → Gh → Prop := fun c γ' => ∀ H', Keep W H0 H' → W.G γ' H' → E (.ref c) none H'
def lift (W : Wd) (H0 : Hp) (E : XK) (m : DE → M D) : TE := fun σ H Q => ∃ e, StOk W H0 H σ e ∧ Keep W H0 H ∧ ∃ γ, W.G γ H ∧
  (m e).run γ (fun d γ' => ∀ v H', Keep W H H' → W.G γ' H' → Rep W.K H' d v → Q v H') (XD W H0 E)
def lift1 (W : Wd) (H0 : Hp) (E : XK) (m : DE → M D) : TE := fun σ H Q => ∃ e, StOk W H0 H σ e ∧ Keep W H0 H ∧ ∃ γ, W.G γ H ∧
  (m e).run γ (fun d γ' => ∀ v H', Keep W H H' → W.G γ' H' → Rep1 W H' d v → Q v H') (XD W H0 E)
def liftA (W : Wd) (H0 : Hp) (E : XK) (m : DE → M (List D)) : TA := fun σ H Q => ∃ e, StOk W H0 H σ e ∧ Keep W H0 H ∧ ∃ γ, W.G γ H ∧
  (m e).run γ (fun ds γ' => ∀ vs H', Keep W H H' → W.G γ' H' → RepL W.K H' ds vs → Q vs H') (XD W H0 E)
def liftA1 (W : Wd) (H0 : Hp) (E : XK) (m : DE → M D) : TA := fun σ H Q => ∃ e, StOk W H0 H σ e ∧ Keep W H0 H ∧ ∃ γ, W.G γ H ∧
  (m e).run γ (fun d γ' => ∀ v H', Keep W H H' → W.G γ' H' → Rep1 W H' d v → Q [v] H') (XD W H0 E)
def liftT (W : Wd) (H0 : Hp) (E : XK) (m : DE → M Bool) : TT := fun σ H Q => ∃ e, StOk W H0 H σ e ∧ Keep W H0 H ∧ ∃ γ, W.G γ H ∧
  (m e).run γ (fun b γ' => ∀ H', Keep W H H' → W.G γ' H' → Q b H') (XD W H0 E)

theorem PE.imp {X : Cx} {e : Expr} {t t' : TE} (h : PE X e t) (q : ∀ σ H Q, t' σ H Q → t σ H Q) : PE X e t' := ⟨fun pins s σ H Q I z => h.run pins s σ H Q I (q σ H Q z)⟩
theorem PT.imp {X : Cx} {e : Expr} {t t' : TT} (h : PT X e t) (q : ∀ σ H Q, t' σ H Q → t σ H Q) : PT X e t' := ⟨fun pins s σ H Q I z => h.run pins s σ H Q I (q σ H Q z)⟩
theorem PA.imp {X : Cx} {e : List Expr} {t t' : TA} (h : PA X e t) (q : ∀ σ H Q, t' σ H Q → t σ H Q) : PA X e t' := ⟨fun p pins s σ H Q I z => h.run p pins s σ H Q I (q σ H Q z)⟩
theorem PS.imp {X : Cx} {e : Stmt} {t t' : TS} (h : PS X e t) (q : ∀ D σ H, t' D σ H → t D σ H) : PS X e t' := ⟨fun pins s σ H D I z => h.run pins s σ H D I (q D σ H z)⟩
theorem PSs.imp {X : Cx} {e : List Stmt} {t t' : TS} (h : PSs X e t) (q : ∀ D σ H, t' D σ H → t D σ H) : PSs X e t' := ⟨fun pins s σ H D I z => h.run pins s σ H D I (q D σ H z)⟩

section
variable {W : Wd} {H0 H : Hp} {E : XK} {σ : L2.St}
theorem lift1_of {m : DE → M D} {Q : VK} (h : lift1 W H0 E m σ H Q) : lift W H0 E m σ H Q := by
  obtain ⟨e, a, b, _, c, q⟩ := h
  exact ⟨e, a, b, _, c, (m e).mono (fun d _ z v H' k g r => z v H' k g r.one) (fun _ _ z => z) q⟩
/-- the step from one part's end to what comes next -/
theorem lift_imp {m : DE → M D} {Q Q' : VK} (h : lift W H0 E m σ H Q) (q : ∀ v H', Q v H' → Q' v H') : lift W H0 E m σ H Q' := by
  obtain ⟨e, a, b, _, c, z⟩ := h
  exact ⟨e, a, b, _, c, (m e).mono (fun d _ z v H' k g r => q _ _ (z v H' k g r)) (fun _ _ z => z) z⟩
end

/-! ### parts of expressions -/
section
variable {X : Cx} {W : Wd} {H0 : Hp} {E : XK} {pos : Pos} {a b c : Expr} {ma mb mc : DE → M D}

theorem dp_1 (h : PE X a (lift W H0 E ma)) : PE X a (lift1 W H0 E ma) := PE.imp h fun σ H Q z => lift1_of z
theorem dp_const {e : Expr} {v : V} {d : D} (h : PE X e (tC v)) (r : ∀ H, Rep W.K H d v) : PE X e (lift W H0 E fun _ => pure d) :=
  PE.imp h fun σ H Q ⟨_, _, _, _, g, q⟩ => q v H (Keep.refl H) g (r H)
theorem dp_int {i : Int} {j : Nat} : PE X (.Constant (.int i) j pos) (lift W H0 E fun _ => pure (.int i)) := dp_const pe_int fun _ => by simp only [Rep]
theorem dp_bl {i : Bool} {j : Nat} : PE X (.Constant (.bool i) j pos) (lift W H0 E fun _ => pure (.bl i)) := dp_const pe_bl fun _ => by simp only [Rep]
theorem dp_non {j : Nat} : PE X (.Constant .none j pos) (lift W H0 E fun _ => pure .non) := dp_const pe_non fun _ => by simp only [Rep]
theorem dp_str {i : Str} {j : Nat} : PE X (.Constant (.str i) j pos) (lift W H0 E fun _ => pure (.str i)) := dp_const pe_str fun _ => by simp only [Rep]
/-- a name of the module that stands for an object: a def, a class -/
theorem dp_obj {x : Str} {v : V} {u : Value} (hg : Gl X x) (hm : X.mg x = some u) (r : RelV v u) (hd : (x == ("__debug__" : Str)) = false := by decide) : PE X (.Name x pos) (lift W H0 E fun _ => pure (.ob v)) :=
  dp_const (pe_glob hg hm r hd) fun _ => by simp only [Rep]
theorem dp_gint {x : Str} {i : Int} {u : Value} (hg : Gl X x) (hm : X.mg x = some u) (r : RelV (.int i) u) (hd : (x == ("__debug__" : Str)) = false := by decide) : PE X (.Name x pos) (lift W H0 E fun _ => pure (.int i)) :=
  dp_const (pe_glob hg hm r hd) fun _ => by simp only [Rep]

/-- a name of the def -/
@[simp] def vS (i : Nat) (e : DE) : M D := match (e[i]? : Option (Option SD)) with
  | some (some (.sh d)) => pure d
  | _ => M.fail
@[simp] def vA (i : Nat) (e : DE) : M D := match (e[i]? : Option (Option SD)) with
  | some (some (.sh d)) => pure d
  | some (some (.ow (.lst xs))) => pure (.lst xs)
  | _ => M.fail
theorem dv (i : Nat) {x : Str} (hN : X.N[i]? = some x := by rfl) (hv : Vis X.env.scope x := by first | exact Or.inl rfl | exact Or.inr (Or.inl rfl) | exact Or.inr (Or.inr rfl)) (hd : (x == ("__debug__" : Str)) = false := by decide)
    (hcd : (x == ("__classdict__" : Str)) = false := by decide) : PE X (.Name x pos) (lift W H0 E (vS i)) := by
  refine PE.imp (pe_var hN hv hd hcd) fun σ H Q ⟨e, st, _, _, g, q⟩ => ?_
  unfold vS at q
  split at q
  · rename_i d hd
    obtain ⟨v, h1, h2⟩ := st.sh i d hd
    exact ⟨v, h1, q v H (Keep.refl H) g h2⟩
  · exact q.elim
theorem dv1 (i : Nat) {x : Str} (hN : X.N[i]? = some x := by rfl) (hv : Vis X.env.scope x := by first | exact Or.inl rfl | exact Or.inr (Or.inl rfl) | exact Or.inr (Or.inr rfl)) (hd : (x == ("__debug__" : Str)) = false := by decide)
    (hcd : (x == ("__classdict__" : Str)) = false := by decide) : PE X (.Name x pos) (lift1 W H0 E (vA i)) := by
  refine PE.imp (pe_var hN hv hd hcd) fun σ H Q ⟨e, st, _, _, g, q⟩ => ?_
  unfold vA at q
  split at q
  · rename_i d hd
    obtain ⟨v, h1, h2⟩ := st.sh i d hd
    exact ⟨v, h1, q v H (Keep.refl H) g h2.one⟩
  · rename_i xs hd
    obtain ⟨p, vs, h1, h2, h3, h4, h5⟩ := st.own i xs hd
    exact ⟨_, h1, q _ H (Keep.refl H) g ⟨p, vs, rfl, .inr ⟨h2, h5⟩, h3⟩⟩
  · exact q.elim

/-- two parts, one behind the other; then f -/
theorem two {f : D → D → M D} {r : V → V → Hp → VK → Prop} {σ : L2.St} {H : Hp} {Q : VK}
    (hf : ∀ x y dx dy H Q γ, W.G γ H → Rep1 W H dx x → Rep1 W H dy y → (f dx dy).run γ (fun d γ' => ∀ v H', Keep W H H' → W.G γ' H' → Rep W.K H' d v → Q v H') (fun c γ' => ∀ H', Keep W H H' → W.G γ' H' → E (.ref c) none H') → r x y H Q)
    (h : lift W H0 E (fun e => do let x ← ma e; let y ← mb e; f x y) σ H Q) : lift1 W H0 E ma σ H fun x H1 => lift1 W H0 E mb σ H1 fun y H2 => r x y H2 Q := by
  obtain ⟨e, st, k0, _, g, q⟩ := h
  refine ⟨e, st, k0, _, g, (ma e).mono (fun dx _ z v1 H1 k1 g1 r1 => ?_) (fun _ _ z => z) q⟩
  refine ⟨e, st.keep g k1, k0.trans k1, _, g1, (mb e).mono (fun dy _ z2 v2 H2 k2 g2 r2 => ?_) (fun _ _ z => z) z⟩
  refine hf v1 v2 dx dy H2 Q _ g2 (r1.keep g1 k2) r2 ((f dx dy).mono (fun d _ z3 v3 H3 k3 g3 r3 => z3 v3 H3 ((k1.trans k2).trans k3) g3 r3) (fun c _ z3 H3 k3 g3 => z3 H3 (((k0.trans k1).trans k2).trans k3) g3) z2)
/-- what an operator's rule asks, of data -/
def OpD (W : Wd) (r : R2) (f : D → D → M D) : Prop := ∀ (E : XK) (x y : V) (dx dy : D) (H : Hp) (Q : VK) (γ : Gh), W.G γ H → Rep1 W H dx x → Rep1 W H dy y →
  (f dx dy).run γ (fun d γ' => ∀ v H', Keep W H H' → W.G γ' H' → Rep W.K H' d v → Q v H') (fun c γ' => ∀ H', Keep W H H' → W.G γ' H' → E (.ref c) none H') → r x y H Q
@[simp] def bin (f : D → D → M D) (ma mb : DE → M D) : DE → M D := fun e => do let x ← ma e; let y ← mb e; f x y
theorem dp_op {op : Operator} {r : R2} {f : D → D → M D} (ho : OpR X (binaryOp op) r) (hf : OpD W r f) (ha : PE X a (lift1 W H0 E ma)) (hb : PE X b (lift1 W H0 E mb)) : PE X (.BinOp a op b pos) (lift W H0 E (bin f ma mb)) :=
  PE.imp (pe_op ho ha hb) fun σ H Q h => two (fun x y dx dy H Q γ g r1 r2 z => hf E x y dx dy H Q γ g r1 r2 z) h
theorem dp_cmp {op : CmpOp} {r : R2} {f : D → D → M D} (ho : OpR X (compareOp op) r) (hf : OpD W r f) (ha : PE X a (lift1 W H0 E ma)) (hb : PE X b (lift1 W H0 E mb)) (hm : behindInMarks op b = false := by rfl) : PE X (.Compare a [op] [b] pos) (lift W H0 E (bin f ma mb)) :=
  PE.imp (pe_cmpR ho ha hb hm) fun σ H Q h => two (fun x y dx dy H Q γ g r1 r2 z => hf E x y dx dy H Q γ g r1 r2 z) h
/-- two ints -/
@[simp] def onI (g : Int → Int → D) : D → D → M D
  | .int i, .int j => pure (g i j)
  | _, _ => M.fail
def flatV : D → V
  | .non => .non
  | .bl b => .bl b
  | .int i => .int i
  | .str x => .str x
  | .ob v => v
  | _ => .non
theorem opD_I {g : Int → Int → V} {f : Int → Int → D} (hr : ∀ i j H, Rep W.K H (f i j) (g i j)) : OpD W (rI0 g) (onI f) := by
  intro E x y dx dy H Q γ hg r1 r2 z
  unfold onI at z
  split at z
  · rename_i i j
    simp only [Rep1, Rep] at r1 r2
    exact ⟨i, j, r1, r2, z _ H (Keep.refl H) hg (hr i j H)⟩
  · exact z.elim
end

/-! ### truth, classes, chains -/
/-- the name of a datum's class -/
@[simp] def tyN : D → Option String
  | .non => some "NoneType"
  | .bl _ => some "bool"
  | .int _ => some "int"
  | .str _ => some "str"
  | .tup _ => some "tuple"
  | .lst _ => some "list"
  | .emp => some "dict"
  | .dii _ => some "dict"
  | .ob _ => none
  | .pr _ _ => none
  | .dil _ _ => none
  | .exn _ => none
theorem sqT_ty {K : PySem.W.Frag} {H : Hp} {a : Addr} {vs : List V} (h : SqT K H a vs) : TyX K H (.ref a) (.type "tuple") := by
  rcases h with (h | ⟨o, h⟩) | ⟨o, its, n, h1, h2, _⟩
  · exact .base (.tup h)
  · exact .fTuple h
  · exact .kTuple h1 h2
theorem rep1_ty {W : Wd} {H : Hp} {d : D} {v : V} {t : String} (r : Rep1 W H d v) (h : tyN d = some t) : TyX W.K H v (.type t) := by
  cases d with
  | non => cases h; simp only [Rep1, Rep] at r; subst r; exact .base .non
  | bl b => cases h; simp only [Rep1, Rep] at r; subst r; exact .base (.bl b)
  | int b => cases h; simp only [Rep1, Rep] at r; subst r; exact .base (.int b)
  | str b => cases h; simp only [Rep1, Rep] at r; subst r; exact .base (.str b)
  | tup xs => cases h; simp only [Rep1, Rep] at r; obtain ⟨a, vs, rfl, q, _⟩ := r; exact sqT_ty q.sq
  | lst xs =>
    cases h
    obtain ⟨a, vs, rfl, q, _⟩ := r
    rcases q with ⟨o, h⟩ | ⟨h, _⟩
    · exact .base (.frz h)
    · exact .base (.lst h)
  | emp => cases h; simp only [Rep1, Rep] at r; obtain ⟨a, o, rfl, q⟩ := r; exact .fDict q
  | dii kvs => cases h; simp only [Rep1, Rep] at r; obtain ⟨a, o, rfl, q⟩ := r; exact .fDict q
  | ob u => cases h
  | pr x y => cases h
  | dil x y => cases h
  | exn c => cases h
/-- isinstance, by the names of the classes -/
def kitD : List (String × String × Bool) := Id.run do
  let mut l := []
  for t in ["NoneType", "bool", "int", "str", "tuple", "list", "dict"] do
    for c in ["int", "bool", "tuple", "list", "str"] do
      l := l ++ [(t, c, t == c || (t == "bool" && c == "int"))]
  return l
@[simp] def isT (c : String) (t : String) : Bool := t == c || (t == "bool" && c == "int")
theorem kit_all (K : PySem.W.Frag) {t c : String} (ht : t ∈ ["NoneType", "bool", "int", "str", "tuple", "list", "dict"]) (hc : c ∈ ["int", "bool", "tuple", "list", "str"]) : PySem.W.kitOne K (.type t) (.type c) = some (isT c t) := by
  simp only [List.mem_cons, List.not_mem_nil, or_false] at ht hc
  rcases ht with rfl | rfl | rfl | rfl | rfl | rfl | rfl <;> rcases hc with rfl | rfl | rfl | rfl | rfl <;> exact kit_ty (by decide +kernel)
theorem tyN_in {d : D} {t : String} (h : tyN d = some t) : t ∈ ["NoneType", "bool", "int", "str", "tuple", "list", "dict"] := by
  cases d <;> cases h <;> decide
@[simp] def isD (c : String) (d : D) : M D := match tyN d with
  | some t => pure (.bl (isT c t))
  | none => M.fail
section
variable {X : Cx} {W : Wd} {H0 : Hp} {E : XK} {pos p p2 : Pos} {a b c : Expr} {ma mb mc : DE → M D}
theorem dp_isi {T : Str} {c : String} (hK : X.K = W.K) (hi : X.mg "isinstance" = none) (hT : X.mg T = none) (ha : PE X a (lift1 W H0 E ma)) (hgi : Gl X "isinstance" := by rfl) (hgT : Gl X T := by rfl)
    (hc : c ∈ ["int", "bool", "tuple", "list", "str"] := by decide) (hv : bootBuiltins T = some (.type c) := by decide +kernel) (hn : T ≠ "__name__" := by decide) (hdb : (T == ("__debug__" : Str)) = false := by decide)
    (hbi : bootBuiltins "isinstance" = some (.builtin "isinstance") := by decide +kernel)
    (he : starEach [a, .Name T p2] X.env = (false, eval a X.env) :: starEach [.Name T p2] X.env := by rfl) (hpl : (backTo pos (starEach [.Name T p2] X.env)).any (·.1) = false := by rfl) (he2 : starEach [.Name T p2] X.env = (false, eval (.Name T p2) X.env) :: starEach [] X.env := by rfl) :
    PE X (.Call (.Name "isinstance" p) [a, .Name T p2] [] pos) (lift W H0 E (fun e => do let x ← ma e; isD c x)) := by
  refine PE.imp (pe_callB call_isi hgi hi hbi (pa_cons ha (pa_cons (pe_bltn (v := .ty c) hgT hT hv rfl hn hdb) pa_nil he2) he) (he := he) (hpl := hpl)) fun σ H Q ⟨e, st, k0, _, g, q⟩ => ?_
  refine ⟨e, st, k0, _, g, (ma e).mono (fun d _ z v H' k g' r => ?_) (fun _ _ z => z) q⟩
  simp only at z
  unfold isD at z
  split at z
  · rename_i t ht
    refine ⟨v, .ty c, .type t, .type c, _, rfl, .ty c, ?_, kit_all X.K (tyN_in ht) hc, z _ H' k g' (by simp only [Rep])⟩
    rw [hK]
    exact rep1_ty r ht
  · exact z.elim
@[simp] def asB : D → M Bool
  | .bl b => pure b
  | _ => M.fail
theorem dp_not (ha : PE X a (lift W H0 E ma)) : PE X (.UnaryOp .Not a pos) (lift W H0 E (fun e => do let x ← ma e; let b ← asB x; pure (.bl (!b)))) :=
  PE.imp (pe_not ha) fun σ H Q ⟨e, st, k0, _, g, q⟩ => ⟨e, st, k0, _, g, (ma e).mono (fun d _ z v H' k g' r => by
    cases d <;> first | exact z.elim | skip
    rename_i b
    simp only [Rep] at r
    exact ⟨b, r, z _ H' k g' (by simp only [Rep])⟩) (fun _ _ z => z) q⟩
@[simp] def andM (ma mb : DE → M D) : DE → M D := fun e => do let x ← ma e; let b ← asB x; if b then mb e else pure (.bl false)
@[simp] def orM (ma mb : DE → M D) : DE → M D := fun e => do let x ← ma e; let b ← asB x; if b then pure (.bl true) else mb e
theorem dp_and {rest : List Expr} (ha : PE X a (lift W H0 E ma)) (hb : PE X (.BoolOp .And (b :: rest) pos) (lift W H0 E mb)) : PE X (.BoolOp .And (a :: b :: rest) pos) (lift W H0 E (andM ma mb)) :=
  PE.imp (pe_and ha hb) fun σ H Q ⟨e, st, k0, _, g, q⟩ => ⟨e, st, k0, _, g, (ma e).mono (fun d _ z v H' k g' r => by
    cases d <;> first | exact z.elim | skip
    rename_i b
    simp only [Rep] at r
    refine ⟨b, r, ?_⟩
    cases b with
    | false => exact iteF (z _ H' k g' (by simp only [Rep]))
    | true => exact iteT ⟨e, st.keep g k, k0.trans k, _, g', (mb e).mono (fun d _ z v H2 k2 g2 r2 => z v H2 (k.trans k2) g2 r2) (fun _ _ z => z) z⟩) (fun _ _ z => z) q⟩
theorem dp_or {rest : List Expr} (ha : PE X a (lift W H0 E ma)) (hb : PE X (.BoolOp .Or (b :: rest) pos) (lift W H0 E mb)) : PE X (.BoolOp .Or (a :: b :: rest) pos) (lift W H0 E (orM ma mb)) :=
  PE.imp (pe_or ha hb) fun σ H Q ⟨e, st, k0, _, g, q⟩ => ⟨e, st, k0, _, g, (ma e).mono (fun d _ z v H' k g' r => by
    cases d <;> first | exact z.elim | skip
    rename_i b
    simp only [Rep] at r
    refine ⟨b, r, ?_⟩
    cases b with
    | true => exact iteT (z _ H' k g' (by simp only [Rep]))
    | false => exact iteF ⟨e, st.keep g k, k0.trans k, _, g', (mb e).mono (fun d _ z v H2 k2 g2 r2 => z v H2 (k.trans k2) g2 r2) (fun _ _ z => z) z⟩) (fun _ _ z => z) q⟩
theorem dp_one {op : BoolOp} (ha : PE X a (lift W H0 E ma)) : PE X (.BoolOp op [a] pos) (lift W H0 E ma) := pe_one ha
/-- a < b < c, over ints -/
@[simp] def chainM (g g' : Int → Int → Bool) (ma mb mc : DE → M D) : DE → M D := fun e => do
  let x ← ma e
  let y ← mb e
  match x, y with
  | .int i, .int j => if g i j then (do let z ← mc e; onI (fun i j => .bl (g' i j)) (.int j) z) else pure (.bl false)
  | _, _ => M.fail
theorem dp_chain {op op' : CmpOp} {g g' : Int → Int → Bool} (ho : OpR X (compareOp op) (rI0 fun i j => V.bl (g i j))) (ho' : OpR X (compareOp op') (rI0 fun i j => V.bl (g' i j)))
    (ha : PE X a (lift1 W H0 E ma)) (hb : PE X b (lift1 W H0 E mb)) (hc : PE X c (lift1 W H0 E mc)) (hm : lastMarks [op, op'] [b, c] = false := by with_unfolding_all rfl) :
    PE X (.Compare a [op, op'] [b, c] pos) (lift W H0 E (chainM g g' ma mb mc)) := by
  refine PE.imp (pe_chain ho ho' ha hb hc hm) fun σ H Q ⟨e, st, k0, _, g0, q⟩ => ?_
  refine ⟨e, st, k0, _, g0, (ma e).mono (fun dx _ z v1 H1 k1 g1 r1 => ?_) (fun _ _ z => z) q⟩
  refine ⟨e, st.keep g0 k1, k0.trans k1, _, g1, (mb e).mono (fun dy _ z2 v2 H2 k2 g2 r2 => ?_) (fun _ _ z => z) z⟩
  simp only at z2
  split at z2
  · rename_i i j
    simp only [Rep1, Rep] at r1 r2
    refine ⟨i, j, r1, r2, g i j, rfl, ?_⟩
    cases hb : g i j with
    | false =>
      rw [hb] at z2
      simp only [Bool.false_eq_true, if_false] at z2 ⊢
      exact z2 _ H2 (k1.trans k2) g2 (by simp only [Rep])
    | true =>
      rw [hb] at z2
      simp only [if_true] at z2 ⊢
      refine ⟨e, (st.keep g0 k1).keep g1 k2, (k0.trans k1).trans k2, _, g2, (mc e).mono (fun dz _ z3 v3 H3 k3 g3 r3 => ?_) (fun _ _ z => z) z2⟩
      simp only at z3
      unfold onI at z3
      split at z3
      · rename_i j' l h1
        cases h1
        simp only [Rep1, Rep] at r3
        exact ⟨_, l, r2, r3, z3 _ H3 ((k1.trans k2).trans k3) g3 (by simp only [Rep])⟩
      · exact z3.elim
  · exact z2.elim
/-- x is None, x is not None -/
@[simp] def isNon : D → Bool
  | .non => true
  | _ => false
theorem rep1_non {H : Hp} {d : D} {v : V} (h : Rep1 W H d v) (hd : ∀ u, d ≠ .ob u) : decide (v = .non) = isNon d := by
  cases d <;> simp only [Rep1, Rep] at h
  · subst h; rfl
  · subst h; rfl
  · subst h; rfl
  · subst h; rfl
  · obtain ⟨a, vs, rfl, _⟩ := h; rfl
  · obtain ⟨a, vs, rfl, _⟩ := h; rfl
  · obtain ⟨a, vs, rfl, _⟩ := h; rfl
  · obtain ⟨a, vs, rfl, _⟩ := h; rfl
  · exact absurd rfl (hd _)
  · obtain ⟨a, u, w, rfl, _⟩ := h; rfl
  · obtain ⟨a, o, ws, rfl, _⟩ := h; rfl
  · obtain ⟨a, o, rfl, _⟩ := h; rfl
@[simp] def isN (n : Bool) : D → M D
  | .ob _ => M.fail
  | d => pure (.bl (if n then isNon d else !isNon d))
theorem dp_isN {j : Nat} (ha : PE X a (lift1 W H0 E ma)) : PE X (.Compare a [.Is] [.Constant .none j p] pos) (lift W H0 E fun e => do let x ← ma e; isN true x) :=
  PE.imp (pe_cmp (pc_isN ha) rfl) fun σ H Q ⟨e, st, k0, _, g, q⟩ => ⟨e, st, k0, _, g, (ma e).mono (fun d _ z v H' k g' r => by
    show Q (.bl (decide (v = .non))) H'
    by_cases hd : ∃ u, d = .ob u
    · obtain ⟨u, rfl⟩ := hd; exact z.elim
    · rw [rep1_non r fun u h => hd ⟨u, h⟩]
      cases d <;> first | exact z _ H' k g' (by simp only [Rep]; rfl) | exact (hd ⟨_, rfl⟩).elim) (fun _ _ z => z) q⟩
theorem dp_notN {j : Nat} (ha : PE X a (lift1 W H0 E ma)) : PE X (.Compare a [.IsNot] [.Constant .none j p] pos) (lift W H0 E fun e => do let x ← ma e; isN false x) :=
  PE.imp (pe_cmp (pc_notN ha) rfl) fun σ H Q ⟨e, st, k0, _, g, q⟩ => ⟨e, st, k0, _, g, (ma e).mono (fun d _ z v H' k g' r => by
    show Q (.bl (!decide (v = .non))) H'
    by_cases hd : ∃ u, d = .ob u
    · obtain ⟨u, rfl⟩ := hd; exact z.elim
    · rw [rep1_non r fun u h => hd ⟨u, h⟩]
      cases d <;> first | exact z _ H' k g' (by simp only [Rep]; rfl) | exact (hd ⟨_, rfl⟩).elim) (fun _ _ z => z) q⟩
/-- a value as a test -/
theorem dt_val (ha : PE X a (lift W H0 E ma)) (he : ∀ (whole : Sem Value), PySem.isTrue a X.env whole = (do let v ← whole; standAt a.pos; holding [v] (truthy v)) := by intro _; rfl) :
    PT X a (liftT W H0 E fun e => do let x ← ma e; asB x) :=
  PT.imp (pt_val ha he) fun σ H Q ⟨e, st, k0, _, g, q⟩ => ⟨e, st, k0, _, g, (ma e).mono (fun d _ z v H' k g' r => by
    cases d <;> first | exact z.elim | skip
    rename_i b
    simp only [Rep] at r
    exact ⟨b, r, z H' k g'⟩) (fun _ _ z => z) q⟩
theorem dt_cmp {op : CmpOp} {r : R2} {f : D → D → M D} (ho : OpR X (compareOp op) r) (hf : OpD W r f) (ha : PE X a (lift1 W H0 E ma)) (hb : PE X b (lift1 W H0 E mb)) (hm : behindInMarks op b = false := by rfl) : PT X (.Compare a [op] [b] pos) (liftT W H0 E fun e => do let x ← bin f ma mb e; asB x) :=
  PT.imp (pt_cmpR ho ha hb hm) fun σ H Q h => by
    obtain ⟨e, st, k0, _, g, q⟩ := h
    refine two (ma := ma) (mb := mb) (f := f) (E := E) (H0 := H0) (Q := fun x H' => ∃ k, x = .bl k ∧ Q k H') (fun x y dx dy H Q γ g r1 r2 z => hf E x y dx dy H Q γ g r1 r2 z) ⟨e, st, k0, _, g, (bin f ma mb e).mono (fun d _ z v H' k g' r => ?_) (fun _ _ z => z) q⟩
    cases d <;> first | exact z.elim | skip
    rename_i b
    simp only [Rep] at r
    exact ⟨b, r, z H' k g'⟩
@[simp] def tnot (m : DE → M Bool) : DE → M Bool := fun e => do let b ← m e; pure (!b)
@[simp] def tand (m n : DE → M Bool) : DE → M Bool := fun e => do let b ← m e; if b then n e else pure false
@[simp] def tor (m n : DE → M Bool) : DE → M Bool := fun e => do let b ← m e; if b then pure true else n e
variable {m n : DE → M Bool}
theorem dt_not (ha : PT X a (liftT W H0 E m)) : PT X (.UnaryOp .Not a pos) (liftT W H0 E (tnot m)) :=
  PT.imp (pt_not ha) fun σ H Q ⟨e, st, k0, _, g, q⟩ => ⟨e, st, k0, _, g, (m e).mono (fun d _ z H' k g' => z H' k g') (fun _ _ z => z) q⟩
theorem dw_and {rest : List Expr} (ha : PT X a (liftT W H0 E m)) (hb : PW X (.BoolOp .And (b :: rest) pos) (liftT W H0 E n)) : PW X (.BoolOp .And (a :: b :: rest) pos) (liftT W H0 E (tand m n)) :=
  ⟨fun wh pins s σ H Q I h => (pw_and ha hb).run wh pins s σ H Q I (by
    obtain ⟨e, st, k0, _, g, q⟩ := h
    refine ⟨e, st, k0, _, g, (m e).mono (fun b _ z H' k g' => ?_) (fun _ _ z => z) q⟩
    cases b with
    | false => exact iteF (z H' k g')
    | true => exact iteT ⟨e, st.keep g k, k0.trans k, _, g', (n e).mono (fun b _ z H2 k2 g2 => z H2 (k.trans k2) g2) (fun _ _ z => z) z⟩)⟩
theorem dw_or {rest : List Expr} (ha : PT X a (liftT W H0 E m)) (hb : PW X (.BoolOp .Or (b :: rest) pos) (liftT W H0 E n)) : PW X (.BoolOp .Or (a :: b :: rest) pos) (liftT W H0 E (tor m n)) :=
  ⟨fun wh pins s σ H Q I h => (pw_or ha hb).run wh pins s σ H Q I (by
    obtain ⟨e, st, k0, _, g, q⟩ := h
    refine ⟨e, st, k0, _, g, (m e).mono (fun b _ z H' k g' => ?_) (fun _ _ z => z) q⟩
    cases b with
    | true => exact iteT (z H' k g')
    | false => exact iteF ⟨e, st.keep g k, k0.trans k, _, g', (n e).mono (fun b _ z H2 k2 g2 => z H2 (k.trans k2) g2) (fun _ _ z => z) z⟩)⟩
theorem dw_and1 (ha : PT X a (liftT W H0 E m)) : PW X (.BoolOp .And [a] pos) (liftT W H0 E m) := pw_and1 ha
theorem dw_or1 (ha : PT X a (liftT W H0 E m)) : PW X (.BoolOp .Or [a] pos) (liftT W H0 E m) := pw_or1 ha
theorem dp_if (hc : PT X c (liftT W H0 E m)) (ha : PE X a (lift W H0 E ma)) (hb : PE X b (lift W H0 E mb)) : PE X (.IfExp c a b pos) (lift W H0 E fun e => do let t ← m e; if t then ma e else mb e) :=
  PE.imp (pe_ifExp hc ha hb) fun σ H Q ⟨e, st, k0, _, g, q⟩ => ⟨e, st, k0, _, g, (m e).mono (fun t _ z H' k g' => by
    cases t with
    | true => exact iteT ⟨e, st.keep g k, k0.trans k, _, g', (ma e).mono (fun b _ z v H2 k2 g2 => z v H2 (k.trans k2) g2) (fun _ _ z => z) z⟩
    | false => exact iteF ⟨e, st.keep g k, k0.trans k, _, g', (mb e).mono (fun b _ z v H2 k2 g2 => z v H2 (k.trans k2) g2) (fun _ _ z => z) z⟩) (fun _ _ z => z) q⟩
end

/-! ### arguments, tuples, calls -/
section
variable {X : Cx} {W : Wd} {H0 : Hp} {E : XK} {pos p p2 : Pos} {a b c : Expr} {es : List Expr} {ma mb mc : DE → M D} {ms : DE → M (List D)}
theorem dpa_nil : PA X [] (liftA W H0 E fun _ => pure []) := PA.imp pa_nil fun σ H Q ⟨e, st, k0, _, g, q⟩ => q [] H (Keep.refl H) g (by simp only [RepL])
@[simp] def consM (ma : DE → M D) (ms : DE → M (List D)) : DE → M (List D) := fun e => do let x ← ma e; let xs ← ms e; pure (x :: xs)
theorem dpa_cons (ha : PE X a (lift W H0 E ma)) (hs : PA X es (liftA W H0 E ms)) (he : starEach (a :: es) X.env = (false, eval a X.env) :: starEach es X.env := by rfl) : PA X (a :: es) (liftA W H0 E (consM ma ms)) :=
  PA.imp (pa_cons ha hs he) fun σ H Q ⟨e, st, k0, _, g, q⟩ => ⟨e, st, k0, _, g, (ma e).mono (fun dx _ z v H1 k1 g1 r1 => ⟨e, st.keep g k1, k0.trans k1, _, g1, (ms e).mono (fun ds _ z2 vs H2 k2 g2 r2 =>
    z2 (v :: vs) H2 (k1.trans k2) g2 (by simp only [RepL]; exact ⟨v, vs, rfl, r1.keep g1 k2, r2⟩)) (fun _ _ z => z) z⟩) (fun _ _ z => z) q⟩
@[simp] def tupM (ms : DE → M (List D)) : DE → M D := fun e => do let xs ← ms e; M.need (xs.length ≤ sizeLine); pure (.tup xs)
/-- (e, ..): a new tuple, without attributes -/
def tTupX (t : TA) : TE := fun σ H Q => t σ H fun xs H1 => xs.length ≤ sizeLine ∧ ∀ p, H1 p = none → ∀ o : Obj, o.dict = none → Q (.ref p) (upd H1 p (.frz o (.tup xs)))
theorem pe_tupX {x1 : Nat} {t : TA} (h : PA X es t) : PE X (.Tuple es x1 pos) (tTupX t) := ⟨fun pins s σ H Q I hq =>
  wpAny_Tuple_spliced (thn (h.run pos pins s σ H _ I hq) fun us s1 ⟨xs, H1, I1, r, few, q⟩ => ⟨r.length ▸ few,
    ⟨.ref s1.heap.objs.size, _, I1.laid (t' := s1.toks) (o := .frz _ (.tup xs)) (fun _ _ y => Heap.get?_push_of_some _ y) (Nat.le_refl _) ⟨Heap.get?_push_size _ rfl, few, us, r, _, Heap.get?_push_size _ rfl, rfl, _, rfl⟩, rfl, q _ (I1.hok.fresh (Nat.le_refl _)) _ rfl⟩⟩)⟩
theorem dp_tup {x1 : Nat} (h : PA X es (liftA W H0 E ms)) : PE X (.Tuple es x1 pos) (lift W H0 E (tupM ms)) :=
  PE.imp (pe_tupX h) fun σ H Q ⟨e, st, k0, _, g, q⟩ => ⟨e, st, k0, _, g, (ms e).mono (fun ds _ z vs H1 k1 g1 r1 => by
    obtain ⟨z1, z2⟩ := z
    refine ⟨by rw [r1.len]; exact z1, fun p hp o ho => z2 (.ref p) _ (k1.trans (Keep.new hp)) (gnew g1 hp) ?_⟩
    simp only [Rep]
    exact ⟨p, vs, rfl, ⟨o, upd_same, ho⟩, r1.keep g1 (Keep.new hp)⟩) (fun _ _ z => z) q⟩

/-- a def's promise, of data -/
def spD (W : Wd) (n : Nat) (F : List D → M D) : Sp := fun vs H Q E => ∃ ds, RepL W.K H ds vs ∧ ds.length = n ∧ ∃ γ, W.G γ H ∧
  (F ds).run γ (fun d γ' => ∀ v H', Keep W H H' → W.G γ' H' → Rep W.K H' d v → Q v H') (fun c γ' => ∀ H', Keep W H H' → W.G γ' H' → E (.ref c) none H')
theorem dp_call {k n : Nat} {f : Addr} {fd : FuncData} {ps : List Str} {F : List D → M D} {x : Str} (hF : FnOk X.prog X.w X.K X.mg X.base (L2.CX X.prog X.w) k f fd ps (spD W n F)) (hr : Room k X.A) (hm : X.mg x = some (.ref f))
    (hk : PySem.W.keepIn X.K (.ref f) = true) (hb : Binds X.K fd ps []) (hx : Passes (L2.CX X.prog X.w) X E) (ha : PA X (a :: es) (liftA W H0 E ms)) (hg : Gl X x := by rfl)
    (hdb : (x == ("__debug__" : Str)) = false := by decide) (he : starEach (a :: es) X.env = (false, eval a X.env) :: starEach es X.env := by rfl) (hpl : (backTo pos (starEach es X.env)).any (·.1) = false := by rfl) :
    PE X (.Call (.Name x p) (a :: es) [] pos) (lift W H0 E fun e => do let xs ← ms e; M.need (xs.length = n); F xs) :=
  PE.imp (pe_call hF hr hg hm hk hb .nil hx ha hdb he hpl) fun σ H Q ⟨e, st, k0, _, g, q⟩ => ⟨e, st, k0, _, g, (ms e).mono (fun ds _ z vs H1 k1 g1 r1 => by
    obtain ⟨z1, z2⟩ := z
    refine ⟨ds, by rw [List.append_nil]; exact r1, z1, _, g1, (F ds).mono (fun d _ y v H2 k2 g2 r2 => y v H2 (k1.trans k2) g2 r2) (fun c _ y H2 k2 g2 => y H2 ((k0.trans k1).trans k2) g2) z2⟩) (fun _ _ z => z) q⟩

/-- len of a tuple, a list, a text -/
@[simp] def lenD : D → M D
  | .tup xs => pure (.int xs.length)
  | .lst xs => pure (.int xs.length)
  | _ => M.fail
theorem dp_len (hK : X.K = W.K) (hm : X.mg "len" = none) (ha : PE X a (lift1 W H0 E ma)) (hg : Gl X "len" := by rfl) (he : starEach [a] X.env = (false, eval a X.env) :: starEach [] X.env := by rfl) :
    PE X (.Call (.Name "len" p) [a] [] pos) (lift W H0 E fun e => do let x ← ma e; lenD x) :=
  PE.imp (pe_callB call_len_seq hg hm PySem.boot_len (pa_cons ha pa_nil he) (he := he)) fun σ H Q ⟨e, st, k0, _, g, q⟩ => ⟨e, st, k0, _, g, (ma e).mono (fun d _ z v H1 k1 g1 r1 => by
    cases d <;> first | exact z.elim | skip
    · simp only [Rep1, Rep] at r1
      obtain ⟨p, vs, rfl, sq, rl⟩ := r1
      refine ⟨p, vs, rfl, .inr (by rw [hK]; exact sq.sq), z _ H1 k1 g1 (by simp only [Rep]; rw [rl.len])⟩
    · obtain ⟨p, vs, rfl, sq, rl⟩ := r1.sq
      refine ⟨p, vs, rfl, .inl (by rw [hK]; exact sq), z _ H1 k1 g1 (by simp only [Rep]; rw [rl.len])⟩) (fun _ _ z => z) q⟩
/-- x[i] of a tuple, a list -/
@[simp] def ixD : D → D → M D
  | .tup xs, .int i => match atI xs i with
    | some d => pure d
    | none => M.fail
  | .lst xs, .int i => match atI xs i with
    | some d => pure d
    | none => M.fail
  | _, _ => M.fail
theorem RepL.atI {K : PySem.W.Frag} {H : Hp} {xs : List D} {vs : List V} {i : Int} {d : D} (h : RepL K H xs vs) (e : L2.atI xs i = some d) : ∃ v, L2.atI vs i = some v ∧ Rep K H d v := by
  unfold L2.atI at e ⊢
  rw [h.len]
  cases hi : ixN xs.length i with
  | none => rw [hi] at e; cases e
  | some j =>
    rw [hi] at e
    exact h.get' e
theorem ixD_ok (hK : X.K = W.K) : OpD W (rIx X.K) ixD := by
  intro E x y dx dy H Q γ hg r1 r2 z
  unfold ixD at z
  split at z
  · rename_i xs i
    split at z
    · rename_i d hd
      simp only [Rep1, Rep] at r1 r2
      obtain ⟨p, vs, rfl, sq, rl⟩ := r1
      obtain ⟨v, h1, h2⟩ := rl.atI hd
      exact .inr (.inl ⟨p, vs, i, v, rfl, r2, by rw [hK]; exact sq.sq, h1, z v H (Keep.refl H) hg h2⟩)
    · exact z.elim
  · rename_i xs i
    split at z
    · rename_i d hd
      obtain ⟨p, vs, rfl, sq, rl⟩ := r1.sq
      simp only [Rep1, Rep] at r2
      obtain ⟨v, h1, h2⟩ := rl.atI hd
      exact .inl ⟨p, vs, i, v, rfl, r2, by rw [hK]; exact sq, h1, z v H (Keep.refl H) hg h2⟩
    · exact z.elim
  · exact z.elim
theorem dp_ix (hK : X.K = W.K) (ha : PE X a (lift1 W H0 E ma)) (hb : PE X b (lift1 W H0 E mb)) (hs : PlainIx b := by exact fun _ _ => rfl) : PE X (.Subscript a b pos) (lift W H0 E (bin ixD ma mb)) :=
  PE.imp (pe_ix ix_seq ha hb hs) fun σ H Q h => two (fun x y dx dy H Q γ g r1 r2 z => ixD_ok hK E x y dx dy H Q γ g r1 r2 z) h
end

/-! ### what is walked -/
def KeepF (H H' : Hp) : Prop := ∀ b o, H b = some o → ((∃ xs, o = .tup xs) ∨ ∃ ob u, o = .frz ob u) → H' b = some o
theorem KeepF.refl (H : Hp) : KeepF H H := fun _ _ h _ => h
theorem KeepF.trans {H H1 H2 : Hp} (a : KeepF H H1) (b : KeepF H1 H2) : KeepF H H2 := fun c o h n => b c o (a c o h n) n
theorem Keep.toF {W : Wd} {H H' : Hp} {γ : Gh} (g : W.G γ H) (k : Keep W H H') : KeepF H H' := fun b o h n => k.rd g n h
theorem KeepF.sqT {K : PySem.W.Frag} {H H' : Hp} {a : Addr} {vs : List V} (k : KeepF H H') (h : SqT K H a vs) : SqT K H' a vs := by
  rcases h with (h | ⟨ob, h⟩) | h
  · exact .inl (.inl (k _ _ h (.inl ⟨_, rfl⟩)))
  · exact .inl (.inr ⟨ob, k _ _ h (.inr ⟨_, _, rfl⟩)⟩)
  · exact .inr h
theorem KeepF.sqX {H H' : Hp} {a : Addr} {vs : List V} (k : KeepF H H') (h : SqX H a vs) : SqX H' a vs := by
  obtain ⟨o, h, n⟩ := h
  exact ⟨o, k _ _ h (.inr ⟨_, _, rfl⟩), n⟩
theorem KeepF.fzL {K : PySem.W.Frag} {H H' : Hp} {a : Addr} {vs : List V} (k : KeepF H H') (h : FzL K H a vs) : FzL K H' a vs := by
  obtain ⟨o, h⟩ := h
  exact ⟨o, k _ _ h (.inr ⟨_, _, rfl⟩)⟩
mutual
theorem Rep.keepF {K : PySem.W.Frag} {H H' : Hp} (k : KeepF H H') : ∀ (d : D) (v : V), Rep K H d v → Rep K H' d v
  | .non, v, h => by simpa only [Rep] using h
  | .bl b, v, h => by simpa only [Rep] using h
  | .int i, v, h => by simpa only [Rep] using h
  | .str x, v, h => by simpa only [Rep] using h
  | .tup xs, v, h => by
    simp only [Rep] at h ⊢
    obtain ⟨a, vs, e, q, r⟩ := h
    exact ⟨a, vs, e, k.sqX q, RepL.keepF k xs vs r⟩
  | .lst xs, v, h => by
    simp only [Rep] at h ⊢
    obtain ⟨a, vs, e, q, r⟩ := h
    exact ⟨a, vs, e, k.fzL q, RepL.keepF k xs vs r⟩
  | .emp, v, h => by
    simp only [Rep] at h ⊢
    obtain ⟨a, o, e, q⟩ := h
    exact ⟨a, o, e, k _ _ q (.inr ⟨_, _, rfl⟩)⟩
  | .dii kvs, v, h => by
    simp only [Rep] at h ⊢
    obtain ⟨a, o, e, q⟩ := h
    exact ⟨a, o, e, k _ _ q (.inr ⟨_, _, rfl⟩)⟩
  | .ob u, v, h => by simpa only [Rep] using h
  | .pr x y, v, h => by
    simp only [Rep] at h ⊢
    obtain ⟨a, u, w, e, q, r1, r2⟩ := h
    exact ⟨a, u, w, e, k.sqT q, Rep.keepF k x u r1, Rep.keepF k y w r2⟩
  | .dil ks vs, v, h => by
    simp only [Rep] at h ⊢
    obtain ⟨a, o, ws, e, q, l, r⟩ := h
    exact ⟨a, o, ws, e, k _ _ q (.inr ⟨_, _, rfl⟩), l, RepL.keepF k vs ws r⟩
  | .exn c, v, h => by
    simp only [Rep] at h ⊢
    obtain ⟨a, o, e, q⟩ := h
    exact ⟨a, o, e, k _ _ q (.inr ⟨_, _, rfl⟩)⟩
theorem RepL.keepF {K : PySem.W.Frag} {H H' : Hp} (k : KeepF H H') : ∀ (xs : List D) (vs : List V), RepL K H xs vs → RepL K H' xs vs
  | [], vs, h => by simpa only [RepL] using h
  | x :: xs, vs, h => by
    simp only [RepL] at h ⊢
    obtain ⟨v, ws, e, a, b⟩ := h
    exact ⟨v, ws, e, Rep.keepF k x v a, RepL.keepF k xs ws b⟩
end
/-- J walks xs, as long as what is kept by R is kept -/
def Walk (W : Wd) (R : Hp → Hp → Prop) (xs : List D) (J : It) (H : Hp) : Prop := ∀ (γ : Gh) H2, R H H2 → W.G γ H2 → (∀ i, i < xs.length → J.go i H2) ∧ J.stop xs.length H2 ∧
  ∀ i x Hx, i < xs.length → J.yld i H2 x Hx → Keep W H2 Hx ∧ W.G γ Hx ∧ ∃ d, xs[i]? = some d ∧ Rep W.K Hx d x
/-- .. within expressions; .. by a statement -/
def liftI (W : Wd) (H0 : Hp) (E : XK) (mi : DE → M (List D)) : TI := fun σ H R => ∃ e, StOk W H0 H σ e ∧ Keep W H0 H ∧ ∃ γ, W.G γ H ∧
  (mi e).run γ (fun xs γ' => ∀ J H', Keep W H H' → W.G γ' H' → Walk W (Keep W) xs J H' → R J H') (XD W H0 E)
def liftF (W : Wd) (H0 : Hp) (E : XK) (mi : DE → M (List D)) : TI := fun σ H R => ∃ e, StOk W H0 H σ e ∧ Keep W H0 H ∧ ∃ γ, W.G γ H ∧
  (mi e).run γ (fun xs γ' => ∀ J H', Keep W H H' → W.G γ' H' → Walk W (fun A B => KeepF A B) xs J H' → R J H') (XD W H0 E)
theorem PI.imp {X : Cx} {tg e : Expr} {t t' : TI} (h : PI X tg e t) (q : ∀ σ H Q, t' σ H Q → t σ H Q) : PI X tg e t' := ⟨fun pins s σ H Q I z => h.run pins s σ H Q I (q σ H Q z)⟩
theorem PI.or {X : Cx} {tg e : Expr} {t : TE} {u : (V → Hp → (It → Hp → Prop) → Prop)} (h : PE X e t)
    (hu : ∀ (pins : List (Addr × Obj)) (s : Shared) (σ : L2.St) (H : Hp) (R : It → Hp → Prop) (x : V) (v : Value), L2.Inv X pins σ H s → RelV x v → u x H R → wpAny (model X.prog X.w) X.A (pyIter v) (PIE X pins σ tg R) X.xe s) :
    PI X tg e (fun σ H R => t σ H fun x H1 => u x H1 R) :=
  ⟨fun pins s σ H R I z => thn (h.run pins s σ H _ I z) fun v s1 ⟨x, H1, I1, r1, q1⟩ => hu pins s1 σ H1 R x v I1 r1 q1⟩
section
variable {X : Cx} {W : Wd} {H0 : Hp} {E : XK} {pos p p2 : Pos} {a b c tg : Expr} {ma mb mc : DE → M D}
/-- a tuple or a list, walked -/
@[simp] def itD : D → M (List D)
  | .tup xs => pure xs
  | .lst xs => pure xs
  | _ => M.fail
theorem iter_seq {pins : List (Addr × Obj)} {s : Shared} {σ : L2.St} {H : Hp} {R : It → Hp → Prop} {x : V} {v : Value} (I : L2.Inv X pins σ H s) (rx : RelV x v)
    (h : (∃ a xs, x = .ref a ∧ SqT X.K H a xs ∧ R (Itt X.K a) H) ∨ (∃ a xs, x = .ref a ∧ SqL X.K H a xs ∧ R (Itl X.K a) H)) : wpAny (model X.prog X.w) X.A (pyIter v) (PIE X pins σ tg R) X.xe s := by
  have fpo : ∀ (s1 : Shared) (H : Hp), L2.Inv X pins σ H s1 → ∀ b ∈ [s1.heap.objs.size], FpOk X pins H b := fun s1 H I1 b hb => by
    have e := List.mem_singleton.mp hb
    subst e
    exact I1.fpOk (Nat.le_refl _) <| I1.hok.fresh (Nat.le_refl _)
  rcases h with ⟨a, xs, rfl, hq, q⟩ | ⟨a, xs, rfl, hq, q⟩
  · cases rx
    obtain ⟨its, rv, pp, hz⟩ := I.tuple hq
    refine wpAny_pyIter_tuple (show s.heap.IsTuple a its.toArray from pp) ?_
    exact ⟨s.heap.objs.size, [s.heap.objs.size], _, _, H, rfl, I.kept (t' := s.toks) fun b o e => Heap.get?_push_of_some _ e, turn_tuple a _, ⟨_, Heap.get?_push_size _ rfl, rfl, rfl⟩, fpo s H I, q⟩
  · cases rx
    obtain ⟨its, rv, pp, hz⟩ := I.list hq
    refine wpAny_pyIter_list pp.isList ?_
    exact ⟨s.heap.objs.size, [s.heap.objs.size], _, _, H, rfl, I.kept (t' := s.toks) fun b o e => Heap.get?_push_of_some _ e, turn_list a _, ⟨_, Heap.get?_push_size _ rfl, rfl, rfl⟩, fpo s H I, q⟩
theorem walk_tup {R : Hp → Hp → Prop} {H : Hp} {p : Addr} {vs : List V} {xs : List D} (h : SqT W.K H p vs) (r : RepL W.K H xs vs) (hR : ∀ H2, R H H2 → KeepF H H2) : Walk W R xs (Itt W.K p) H := fun γ H2 k g => by
  have h2 := (hR H2 k).sqT h
  have r2 := RepL.keepF (hR H2 k) _ _ r
  have hl := r2.len
  refine ⟨fun i hi => ⟨vs, vs[i]'(by omega), h2, by simp⟩, ⟨vs, h2, by omega⟩, fun i x Hx hi y => ?_⟩
  obtain ⟨rfl, y⟩ := y
  obtain ⟨d, e1, e2⟩ := r2.get (y vs h2)
  exact ⟨Keep.refl _, g, d, e1, e2⟩
theorem walk_list {R : Hp → Hp → Prop} {H : Hp} {p : Addr} {vs : List V} {xs : List D} (r : RepL W.K H xs vs) (hR : ∀ H2, R H H2 → SqL W.K H2 p vs ∧ RepL W.K H2 xs vs) : Walk W R xs (Itl W.K p) H := fun γ H2 k g => by
  obtain ⟨h2, r2⟩ := hR H2 k
  have hl := r2.len
  refine ⟨fun i hi => ⟨vs, vs[i]'(by omega), h2, by simp⟩, ⟨vs, h2, by omega⟩, fun i x Hx hi y => ?_⟩
  obtain ⟨rfl, y⟩ := y
  obtain ⟨d, e1, e2⟩ := r2.get (y vs h2)
  exact ⟨Keep.refl _, g, d, e1, e2⟩
/-- over a tuple, a list: within an expression -/
theorem di_seq (hK : X.K = W.K) (ha : PE X a (lift1 W H0 E ma)) : PI X tg a (liftI W H0 E fun e => do let x ← ma e; itD x) := by
  refine PI.imp (PI.or ha fun pins s σ H R x v I rx h => iter_seq I rx h) fun σ H R ⟨e, st, k0, _, g, q⟩ => ⟨e, st, k0, _, g, (ma e).mono (fun d _ z v H1 k1 g1 r1 => ?_) (fun _ _ z => z) q⟩
  cases d <;> first | exact z.elim | skip
  · simp only [Rep1, Rep] at r1
    obtain ⟨p, vs, rfl, sq, rl⟩ := r1
    refine .inl ⟨p, vs, rfl, by rw [hK]; exact sq.sq, ?_⟩
    rw [hK]
    exact z _ H1 k1 g1 (walk_tup sq.sq rl fun H2 k => k.toF g1)
  · have r1' := r1
    obtain ⟨p, vs, rfl, f, rl⟩ := r1
    refine .inr ⟨p, vs, rfl, ?_, ?_⟩
    · rw [hK]
      rcases f with f | ⟨f, _⟩
      · exact f.sq
      · exact .inl (.inl f)
    · rw [hK]
      refine z _ H1 k1 g1 (walk_list rl fun H2 k => ⟨?_, rl.keep g1 k⟩)
      rcases f with f | ⟨f, n⟩
      · exact (k.fzL g1 f).sq
      · exact .inl (.inl (k p _ f n))
/-- .. by a statement: a list must be one that is never written again -/
theorem df_seq (hK : X.K = W.K) (ha : PE X a (lift W H0 E ma)) : PI X tg a (liftF W H0 E fun e => do let x ← ma e; itD x) := by
  refine PI.imp (PI.or ha fun pins s σ H R x v I rx h => iter_seq I rx h) fun σ H R ⟨e, st, k0, _, g, q⟩ => ⟨e, st, k0, _, g, (ma e).mono (fun d _ z v H1 k1 g1 r1 => ?_) (fun _ _ z => z) q⟩
  cases d <;> first | exact z.elim | skip
  · simp only [Rep] at r1
    obtain ⟨p, vs, rfl, sq, rl⟩ := r1
    refine .inl ⟨p, vs, rfl, by rw [hK]; exact sq.sq, ?_⟩
    rw [hK]
    exact z _ H1 k1 g1 (walk_tup sq.sq rl fun H2 k => k)
  · simp only [Rep] at r1
    obtain ⟨p, vs, rfl, f, rl⟩ := r1
    refine .inr ⟨p, vs, rfl, ?_, ?_⟩
    · rw [hK]; exact f.sq
    · rw [hK]
      exact z _ H1 k1 g1 (walk_list rl fun H2 k => ⟨(KeepF.fzL k f).sq, RepL.keepF k _ _ rl⟩)
/-- 0, 1, .. -/
def rangeD (lo hi : Int) : List D := (List.range (hi - lo).toNat).map fun (k : Nat) => D.int (lo + k)
theorem rangeD_get {lo hi : Int} {i : Nat} (h : i < (hi - lo).toNat) : (rangeD lo hi)[i]? = some (.int (lo + i)) := by
  unfold rangeD
  rw [List.getElem?_map, List.getElem?_range h]
  rfl
theorem rangeD_len {lo hi : Int} : (rangeD lo hi).length = (hi - lo).toNat := by unfold rangeD; simp
theorem walk_range {R : Hp → Hp → Prop} {H : Hp} {lo hi : Int} : Walk W R (rangeD lo hi) (Itr lo (hi - lo).toNat) H := fun γ H2 k g => by
  refine ⟨fun i h => by rw [rangeD_len] at h; exact h, by rw [rangeD_len]; exact Nat.le_refl _, fun i x Hx h y => ?_⟩
  obtain ⟨rfl, rfl⟩ := y
  rw [rangeD_len] at h
  exact ⟨Keep.refl _, g, _, rangeD_get h, by simp only [Rep]⟩
@[simp] def rng1M (ma : DE → M D) : DE → M (List D) := fun e => do
  let x ← ma e
  match x with
  | .int j => do M.need (-(2 ^ 62) ≤ j ∧ j < 2 ^ 62); pure (rangeD 0 j)
  | _ => M.fail
theorem d_rng1 {T : (DE → M (List D)) → TI} (hT : T = liftI W H0 E ∨ T = liftF W H0 E) (hm : X.mg "range" = none) (ha : PE X a (lift1 W H0 E ma)) (hg : Gl X "range" := by rfl) (hs : starEach [a] X.env = [(false, eval a X.env)] := by rfl) (hs2 : starEach [a] X.env = (false, eval a X.env) :: starEach [] X.env := by rfl) :
    PI X tg (.Call (.Name "range" p) [a] [] pos) (T (rng1M ma)) := by
  have key : ∀ (RR : Hp → Hp → Prop) (σ : L2.St) (H : Hp) (R : It → Hp → Prop), (∃ e, StOk W H0 H σ e ∧ Keep W H0 H ∧ ∃ γ, W.G γ H ∧ (rng1M ma e).run γ (fun xs γ' => ∀ J H', Keep W H H' → W.G γ' H' → Walk W RR xs J H' → R J H') (XD W H0 E)) →
      iRng1 (tCons (lift1 W H0 E ma) tNil) σ H R := fun RR σ H R ⟨e, st, k0, _, g, q⟩ => ⟨e, st, k0, _, g, (ma e).mono (fun d _ z v H1 k1 g1 r1 => by
    cases d <;> first | exact z.elim | skip
    rename_i j
    obtain ⟨⟨z1, z2⟩, z3⟩ := z
    simp only [Rep1, Rep] at r1
    refine ⟨j, by rw [r1], z1, z2, ?_⟩
    have e9 : j.toNat = (j - 0).toNat := by rw [Int.sub_zero]
    rw [e9]
    exact z3 _ H1 k1 g1 walk_range) (fun _ _ z => z) q⟩
  rcases hT with rfl | rfl
  · exact PI.imp (pi_range1 hg hm (pa_cons ha pa_nil hs2) hs) fun σ H R h => key _ σ H R h
  · exact PI.imp (pi_range1 hg hm (pa_cons ha pa_nil hs2) hs) fun σ H R h => key _ σ H R h
end

/-! ### comprehensions -/
/-- a target -/
def GD (W : Wd) (g' : TG) (gd : D → DE → M DE) : Prop := ∀ (H0 : Hp) (E : XK) (x : V) (d : D) (σ : L2.St) (e : DE) (H : Hp) (Q : L2.St → Hp → Prop) (γ : Gh), W.G γ H → StOk W H0 H σ e → Rep W.K H d x →
  (gd d e).run γ (fun e' γ' => W.G γ' H → ∀ σ', StOk W H0 H σ' e' → Q σ' H) (XD W H0 E) → g' x σ H Q
/-- .. that stores in the slots vs alone -/
def GW (g' : TG) (vs : List Nat) : Prop := ∀ (x : V) (σ : L2.St) (H : Hp) (Q : L2.St → Hp → Prop), g' x (wipe σ vs) H Q → g' x (wipe σ vs) H fun σ' H' => wipe σ' vs = wipe σ vs ∧ Q σ' H'
@[simp] def setS (i : Nat) (d : D) (e : DE) : DE := e.set i (some (SD.sh d))
theorem StOk.set {W : Wd} {H0 H : Hp} {σ : L2.St} {e : DE} {i : Nat} {d : D} {x : V} (st : StOk W H0 H σ e) (r : Rep W.K H d x) : StOk W H0 H (σ.set i (some x)) (setS i d e) where
  len := by unfold setS; rw [List.length_set, List.length_set]; exact st.len
  sh := fun j f q => by
    unfold setS at q
    by_cases h : i = j
    · subst h
      by_cases hi : i < e.length
      · rw [List.getElem?_set_self hi] at q
        cases q
        exact ⟨x, by rw [List.getElem?_set_self (by rw [← st.len]; exact hi)], r⟩
      · rw [List.getElem?_eq_none (by rw [List.length_set]; omega)] at q; cases q
    · rw [List.getElem?_set_ne h] at q
      rw [List.getElem?_set_ne h]
      exact st.sh j f q
  owo := fun j f q => by
    unfold setS at q
    by_cases h : i = j
    · subst h
      by_cases hi : i < e.length
      · rw [List.getElem?_set_self hi] at q
        cases q
      · rw [List.getElem?_eq_none (by rw [List.length_set]; omega)] at q; cases q
    · rw [List.getElem?_set_ne h] at q
      rw [List.getElem?_set_ne h]
      exact st.owo j f q
  diso := fun j l xs ys p q1 q2 q3 q4 => by
    unfold setS at q1 q2
    have nh : ∀ {j : Nat} {xs : OD}, (e.set i (some (SD.sh d)))[j]? = some (some (SD.ow xs)) → i ≠ j := fun {j xs} q h => by
      subst h
      by_cases hi : i < e.length
      · rw [List.getElem?_set_self hi] at q; cases q
      · rw [List.getElem?_eq_none (by rw [List.length_set]; omega)] at q; cases q
    have h1 := nh q1
    have h2 := nh q2
    rw [List.getElem?_set_ne h1] at q1 q3
    rw [List.getElem?_set_ne h2] at q2 q4
    exact st.diso j l xs ys p q1 q2 q3 q4
theorem gd_name {W : Wd} {i : Nat} : GD W (gName i) (fun d e => pure (setS i d e)) := fun H0 E x d σ e H Q γ g st r q => q g _ (st.set r)
theorem wipe_set (σ : L2.St) (i : Nat) (x : Option V) : ∀ (vs : List Nat), i ∈ vs → wipe (σ.set i x) vs = wipe σ vs
  | v :: vs, h => by
    unfold wipe
    obtain rfl | h := List.mem_cons.mp h
    · have key : ∀ (vs : List Nat) (σ : L2.St), (wipe (σ.set i x) vs).set i none = (wipe σ vs).set i none := fun vs => by
        induction vs with
        | nil => intro σ; show (σ.set i x).set i none = _; rw [List.set_set]; rfl
        | cons v vs ih =>
          intro σ
          show ((wipe (σ.set i x) vs).set v none).set i none = ((wipe σ vs).set v none).set i none
          by_cases hv : v = i
          · subst hv
            rw [List.set_set, List.set_set]
            exact ih σ
          · rw [List.set_comm _ _ hv, List.set_comm _ _ hv, ih σ]
      exact key vs σ
    · rw [wipe_set σ i x vs h]
theorem wipe_sub (σ : L2.St) (vs : List Nat) : ∀ (us : List Nat), (∀ u ∈ us, u ∈ vs) → wipe (wipe σ us) vs = wipe σ vs
  | [], _ => rfl
  | u :: us, h => by
    show wipe ((wipe σ us).set u none) vs = wipe σ vs
    rw [wipe_set _ u none vs (h u List.mem_cons_self), wipe_sub σ vs us fun x hx => h x (List.mem_cons_of_mem _ hx)]
theorem wipe_wipe (σ : L2.St) (vs : List Nat) : wipe (wipe σ vs) vs = wipe σ vs := wipe_sub σ vs vs fun _ h => h
theorem gw_name {i : Nat} {vs : List Nat} (h : i ∈ vs) : GW (gName i) vs := fun x σ H Q q => ⟨(wipe_set _ i _ vs h).trans (wipe_wipe σ vs), q⟩
@[simp] def wipeE (e : DE) : List Nat → DE
  | [] => e
  | v :: vs => (wipeE e vs).set v none
theorem StOk.wipe1 {W : Wd} {H0 H : Hp} {σ : L2.St} {e : DE} {v : Nat} (st : StOk W H0 H σ e) : StOk W H0 H (σ.set v none) (e.set v none) := by
  have nh : ∀ {j : Nat} {x : SD}, (e.set v none)[j]? = some (some x) → v ≠ j ∧ e[j]? = some (some x) := fun {j x} q => by
    by_cases h : v = j
    · subst h
      by_cases hi : v < e.length
      · rw [List.getElem?_set_self hi] at q; cases q
      · rw [List.getElem?_eq_none (by rw [List.length_set]; omega)] at q; cases q
    · rw [List.getElem?_set_ne h] at q
      exact ⟨h, q⟩
  refine ⟨by rw [List.length_set, List.length_set]; exact st.len, fun i d q => ?_, fun i xs q => ?_, fun i j xs ys a q1 q2 q3 q4 => ?_⟩
  · obtain ⟨h, q⟩ := nh q
    rw [List.getElem?_set_ne h]
    exact st.sh i d q
  · obtain ⟨h, q⟩ := nh q
    rw [List.getElem?_set_ne h]
    exact st.owo i xs q
  · obtain ⟨h1, q1⟩ := nh q1
    obtain ⟨h2, q2⟩ := nh q2
    rw [List.getElem?_set_ne h1] at q3
    rw [List.getElem?_set_ne h2] at q4
    exact st.diso i j xs ys a q1 q2 q3 q4
theorem StOk.wipe {W : Wd} {H0 H : Hp} {σ : L2.St} {e : DE} (st : StOk W H0 H σ e) : ∀ vs, StOk W H0 H (L2.wipe σ vs) (wipeE e vs)
  | [] => st
  | v :: vs => (st.wipe vs).wipe1

/-- all (stop = false), any (stop = true) -/
def allM (stop : Bool) (gd : D → DE → M DE) (t : DE → M Bool) (f : DE → M D) (e : DE) : List D → M Bool
  | [] => pure (!stop)
  | x :: xs => do
    let e' ← gd x e
    let b ← M.noX (t e')
    if b then (do let y ← M.noX (f e'); let c ← asB y; if c = stop then pure stop else allM stop gd t f e xs) else allM stop gd t f e xs
/-- [f x for x in xs if ..] -/
def compM (gd : D → DE → M DE) (t : DE → M Bool) (f : DE → M D) (e : DE) : List D → M (List D)
  | [] => pure []
  | x :: xs => do
    let e' ← gd x e
    let b ← M.noX (t e')
    if b then (do let y ← M.noX (f e'); let ys ← compM gd t f e xs; pure (y :: ys)) else compM gd t f e xs

theorem drop_cons {xs : List D} {i : Nat} {d : D} (h : xs[i]? = some d) : xs.drop i = d :: xs.drop (i + 1) := by
  have ⟨hi, e⟩ := List.getElem?_eq_some_iff.mp h
  rw [List.drop_eq_getElem_cons hi, e]
section
variable {X : Cx} {W : Wd} {H0 : Hp} {E : XK} {pos p gpos : Pos} {a b c elt tg iter : Expr} {ifs : List Expr} {scope : Scope} {own : List (Str × Nat)} {mi : DE → M (List D)} {g : TG} {gd : D → DE → M DE} {t : DE → M Bool} {f : DE → M D} {k : Nat} {cc P : Addr}
theorem quant_lift {σ : L2.St} {H : Hp} {Q : VK} {stop : Bool} {vs : List Nat} {qn : Str} (hP : W.Tb P qn) (hg : GD W g gd) (hw : GW g vs)
    (h : lift W H0 E (fun e => do let xs ← mi e; let r ← allM stop gd t f (wipeE e vs) xs; pure (.bl r)) σ H Q) : Gx.tQG stop P qn (liftI W H0 E mi) g (liftT W H0 E0 t) (lift W H0 E0 f) vs σ H Q := by
  obtain ⟨e, st, k0, _, g0, q⟩ := h
  refine ⟨e, st, k0, _, g0, (mi e).mono (fun xs γ1 z J H1 k1 g1 wk => ⟨W.tG _ H1 P qn g1 hP, fun H2 tb => ?_⟩) (fun _ _ z => z) q⟩
  have k2 : Keep W H1 H2 := fun b o hb hs => tb.2 b o (fun e => hs (by rw [e]; exact W.tS P qn hP)) hb
  have g2 : W.G γ1 H2 := W.tU _ H1 H2 P qn g1 hP tb
  have z : (allM stop gd t f (wipeE e vs) xs).run γ1 (fun r γ' => ∀ v H', Keep W H H' → W.G γ' H' → Rep W.K H' (.bl r) v → Q v H') (XD W H0 E) := z
  refine ⟨fun i m H' => m = xs.length - i ∧ i ≤ xs.length ∧ Keep W H2 H' ∧ ∃ γ, W.G γ H' ∧ (allM stop gd t f (wipeE e vs) (xs.drop i)).run γ (fun r γ' => ∀ v H', Keep W H H' → W.G γ' H' → Rep W.K H' (.bl r) v → Q v H') (XD W H0 E),
    ⟨xs.length, by simp, Nat.zero_le _, Keep.refl _, γ1, g2, by rw [List.drop_zero]; exact z⟩, ?_⟩
  rintro i m H' ⟨rfl, hi, k3, γ3, g3, z⟩
  obtain ⟨w1, w2, w3⟩ := wk _ H' (k2.trans k3) g3
  by_cases hlt : i < xs.length
  · refine .inr ⟨w1 i hlt, fun H'' => Keep W H2 H'' ∧ ∃ γ, W.G γ H'' ∧ (allM stop gd t f (wipeE e vs) (xs.drop (i + 1))).run γ (fun r γ' => ∀ v H', Keep W H H' → W.G γ' H' → Rep W.K H' (.bl r) v → Q v H') (XD W H0 E), fun H'' ⟨q1, q2, q3⟩ => ⟨xs.length - (i + 1), by omega, rfl, hlt, q1, q2, q3⟩, fun x Hx y => ?_⟩
    obtain ⟨k4, g4, d, hd, rd⟩ := w3 i x Hx hlt y
    have kx : Keep W H Hx := ((k1.trans k2).trans k3).trans k4
    rw [drop_cons hd] at z
    simp only [allM, M.run_bind, M.run_noX] at z
    refine hw x _ Hx _ (hg H0 E x d _ _ Hx _ _ g4 ((st.keep g0 kx).wipe vs) rd ((gd d (wipeE e vs)).mono (fun e' _ z2 g4' σ' st' => ?_) (fun _ _ z => z) z))
    refine ⟨e', st', k0.trans kx, _, g4', (t e').mono (fun b _ z3 H5 k5 g5 => ?_) (fun _ _ z => z.elim) z2⟩
    cases b with
    | false =>
      simp only [Bool.false_eq_true, if_false] at z3 ⊢
      exact ⟨(k3.trans k4).trans k5, _, g5, z3⟩
    | true =>
      simp only [if_true] at z3 ⊢
      refine ⟨e', st'.keep g4 k5, (k0.trans kx).trans k5, _, g5, (f e').mono (fun dy _ z4 v H6 k6 g6 r6 => ?_) (fun _ _ z => z.elim) z3⟩
      cases dy <;> first | exact z4.elim | skip
      rename_i c
      simp only [Rep] at r6
      refine ⟨c, r6, fun hc => ?_, fun hc => ?_⟩
      · have z4 : (if c = stop then (pure stop : M Bool) else allM stop gd t f (wipeE e vs) (xs.drop (i + 1))).run _ _ _ := z4
        rw [if_pos hc] at z4
        exact z4 _ H6 ((kx.trans k5).trans k6) g6 (by simp only [Rep])
      · have z4 : (if c = stop then (pure stop : M Bool) else allM stop gd t f (wipeE e vs) (xs.drop (i + 1))).run _ _ _ := z4
        rw [if_neg (by rw [hc]; cases stop <;> decide)] at z4
        exact ⟨((k3.trans k4).trans k5).trans k6, _, g6, z4⟩
  · have e1 : i = xs.length := by omega
    subst e1
    refine .inl ⟨w2, ?_⟩
    rw [List.drop_of_length_le (Nat.le_refl _)] at z
    exact z _ H' ((k1.trans k2).trans k3) g3 (by simp only [Rep])

theorem dp_all (hP : W.Tb P (X.env.qual ++ "<genexpr>")) (hr : Room (k + 1) X.A) (hm : X.mg "all" = none) (TB : GxR.TabB X.base X.mg cc P) (hcode : X.env.code = .ref cc) (hN : X.N.Nodup) (ok : Gx.GOk X.N X.env.scope scope own) (hi : PI X tg iter (liftI W H0 E mi)) (hgd : GD W g gd) (hgw : GW g (own.map (·.2)))
    (hg : ∀ (A' : Around) (s : Shared) (H : Hp) (C : Addr) (cl : List (Str × Addr)) (code : Value) (fp : List Addr) (pn : List (Addr × Obj)), Room k A' → PG (Gx.gCx X A' s H (genEnv scope cl C code builtinsNs X.env) fp pn) tg g)
    (ht : ∀ (A' : Around) (s : Shared) (H : Hp) (C : Addr) (cl : List (Str × Addr)) (code : Value) (fp : List Addr) (pn : List (Addr × Obj)), Room k A' → PTs (Gx.gCx X A' s H (genEnv scope cl C code builtinsNs X.env) fp pn) ifs (liftT W H0 E0 t))
    (he : ∀ (A' : Around) (s : Shared) (H : Hp) (C : Addr) (cl : List (Str × Addr)) (code : Value) (fp : List Addr) (pn : List (Addr × Obj)), Room k A' → PE (Gx.gCx X A' s H (genEnv scope cl C code builtinsNs X.env) fp pn) elt (lift W H0 E0 f))
    (hgl : Gl X "all" := by rfl) (hs : ∀ v, genFold iter X.env v = pure v := by intro _; rfl)
    (hst : starEach [.GeneratorExp elt [⟨tg, iter, ifs, 0⟩] scope gpos] X.env = (false, eval (.GeneratorExp elt [⟨tg, iter, ifs, 0⟩] scope gpos) X.env) :: starEach [] X.env := by rfl) :
    PE X (.Call (.Name "all" p) [.GeneratorExp elt [⟨tg, iter, ifs, 0⟩] scope gpos] [] pos) (lift W H0 E fun e => do let xs ← mi e; let r ← allM false gd t f (wipeE e (own.map (·.2))) xs; pure (.bl r)) :=
  PE.imp (Gx.pe_allG hr hgl hm TB hcode hN ok hi hg ht he hs (hst := hst)) fun σ H Q h => quant_lift hP hgd hgw h
theorem dp_any (hP : W.Tb P (X.env.qual ++ "<genexpr>")) (hr : Room (k + 1) X.A) (hm : X.mg "any" = none) (TB : GxR.TabB X.base X.mg cc P) (hcode : X.env.code = .ref cc) (hN : X.N.Nodup) (ok : Gx.GOk X.N X.env.scope scope own) (hi : PI X tg iter (liftI W H0 E mi)) (hgd : GD W g gd) (hgw : GW g (own.map (·.2)))
    (hg : ∀ (A' : Around) (s : Shared) (H : Hp) (C : Addr) (cl : List (Str × Addr)) (code : Value) (fp : List Addr) (pn : List (Addr × Obj)), Room k A' → PG (Gx.gCx X A' s H (genEnv scope cl C code builtinsNs X.env) fp pn) tg g)
    (ht : ∀ (A' : Around) (s : Shared) (H : Hp) (C : Addr) (cl : List (Str × Addr)) (code : Value) (fp : List Addr) (pn : List (Addr × Obj)), Room k A' → PTs (Gx.gCx X A' s H (genEnv scope cl C code builtinsNs X.env) fp pn) ifs (liftT W H0 E0 t))
    (he : ∀ (A' : Around) (s : Shared) (H : Hp) (C : Addr) (cl : List (Str × Addr)) (code : Value) (fp : List Addr) (pn : List (Addr × Obj)), Room k A' → PE (Gx.gCx X A' s H (genEnv scope cl C code builtinsNs X.env) fp pn) elt (lift W H0 E0 f))
    (hgl : Gl X "any" := by rfl) (hs : ∀ v, genFold iter X.env v = pure v := by intro _; rfl)
    (hst : starEach [.GeneratorExp elt [⟨tg, iter, ifs, 0⟩] scope gpos] X.env = (false, eval (.GeneratorExp elt [⟨tg, iter, ifs, 0⟩] scope gpos) X.env) :: starEach [] X.env := by rfl) :
    PE X (.Call (.Name "any" p) [.GeneratorExp elt [⟨tg, iter, ifs, 0⟩] scope gpos] [] pos) (lift W H0 E fun e => do let xs ← mi e; let r ← allM true gd t f (wipeE e (own.map (·.2))) xs; pure (.bl r)) :=
  PE.imp (Gx.pe_anyG hr hgl hm TB hcode hN ok hi hg ht he hs (hst := hst)) fun σ H Q h => quant_lift hP hgd hgw h
theorem dts_nil : PTs X [] (liftT W H0 E fun _ => pure true) := ⟨fun pins s σ H Q I ⟨e, st, k0, _, g, q⟩ => pts_nil.run pins s σ H Q I (q H (Keep.refl H) g)⟩
theorem dts_one (h : PT X a (liftT W H0 E t)) : PTs X [a] (liftT W H0 E t) := pts_one h

/-! ### new lists -/
/-- a new list that no one else holds -/
def liftO (W : Wd) (H0 : Hp) (E : XK) (m : DE → M (List D)) : TE := fun σ H Q => ∃ e, StOk W H0 H σ e ∧ Keep W H0 H ∧ ∃ γ, W.G γ H ∧
  (m e).run γ (fun xs γ' => ∀ a vs H', H a = none → Keep W H H' → W.G γ' H' → H' a = some (.lst vs) → RepL W.K H' xs vs → ¬ W.S a → Q (.ref a) H') (XD W H0 E)
theorem nS {W : Wd} {H : Hp} {a : Addr} {γ : Gh} (g : W.G γ H) (h : H a = none) : ¬ W.S a := fun s => by
  obtain ⟨o, e, _⟩ := W.gS _ H a g s
  rw [h] at e; cases e
theorem pe_lockV {e : Expr} {t : TE} (h : PE X e t) : PE X e (fun σ H Q => t σ H fun v H' => ∃ a u, v = .ref a ∧ H' a = some u ∧ Mut (some u) ∧ ∀ o, Q v (upd H' a (.frz o u))) :=
  ⟨fun pins s σ H Q I z => thn (h.run pins s σ H _ I z) fun v s1 ⟨x, H1, I1, r1, a, u, hx, ha, mu, q⟩ => by
    obtain ⟨o, I2⟩ := I1.lock ha mu
    exact ⟨x, _, I2, r1, q o⟩⟩
theorem keep_lock {H H' : Hp} {a : Addr} {o : HO} (k : Keep W H H') (hn : H a = none) : Keep W H (upd H' a o) := fun b u h n => by rw [upd_ne (ne_of_none h hn)]; exact k b u h n
theorem g_lock {H H' : Hp} {a : Addr} {o : HO} {vs : List V} {γ : Gh} (g : W.G γ H) {γ' : Gh} (g' : W.G γ' H') (hn : H a = none) (ha : H' a = some (.lst vs)) : W.G γ' (upd H' a o) := W.gK _ H' _ g' fun b u hs h => by
  rw [upd_ne (fun e => ?_)]
  · exact h
  · rcases hs with hs | hs
    · exact nS g hn (by rw [← e]; exact hs)
    · rw [e, ha] at h
      cases h
      exact fx_lst hs
theorem repL_upd {K : PySem.W.Frag} {H : Hp} {a : Addr} {o : HO} {vs ws : List V} {xs : List D} (ha : H a = some (.lst ws)) (r : RepL K H xs vs) : RepL K (upd H a o) xs vs :=
  RepL.keepF (fun b u h n => by rw [upd_ne (fun e => by rw [e, ha] at h; cases h; rcases n with ⟨_, n⟩ | ⟨_, _, n⟩ <;> cases n)]; exact h) _ _ r
theorem dp_lock {m : DE → M (List D)} (h : PE X a (liftO W H0 E m)) : PE X a (lift W H0 E fun e => do let xs ← m e; pure (.lst xs)) :=
  PE.imp (pe_lockV h) fun σ H Q ⟨e, st, k0, _, g, q⟩ => ⟨e, st, k0, _, g, (m e).mono (fun xs _ z a vs H' hn k g' ha r ns => ⟨a, .lst vs, rfl, ha, True.intro, fun o => z _ _ (keep_lock k hn) (g_lock g g' hn ha) (by
    simp only [Rep]
    exact ⟨a, vs, rfl, ⟨o, upd_same⟩, repL_upd ha r⟩)⟩) (fun _ _ z => z) q⟩
theorem do_lst {es : List Expr} {ms : DE → M (List D)} (h : PA X es (liftA W H0 E ms)) : PE X (.List es pos) (liftO W H0 E fun e => do let xs ← ms e; M.need (xs.length ≤ sizeLine); pure xs) :=
  PE.imp (pe_lst h) fun σ H Q ⟨e, st, k0, _, g, q⟩ => ⟨e, st, k0, _, g, (ms e).mono (fun ds _ z vs H1 k1 g1 r1 => by
    obtain ⟨z1, z2⟩ := z
    refine ⟨by rw [r1.len]; exact z1, fun p hp => z2 p vs _ (k1.freed hp g g1) (k1.trans (Keep.new hp)) (gnew g1 hp) upd_same (r1.keep g1 (Keep.new hp)) (nS g1 hp)⟩) (fun _ _ z => z) q⟩
/-- [elt for tg in iter if ..] -/
theorem comp_lift {σ : L2.St} {H : Hp} {Q : VK} {vs : List Nat} (hg : GD W g gd) (hw : GW g vs)
    (h : liftO W H0 E (fun e => do let xs ← mi e; M.need (xs.length ≤ sizeLine); compM gd t f (wipeE e vs) xs) σ H Q) : tLc (liftI W H0 E mi) g (liftT W H0 E0 t) (lift W H0 E0 f) vs σ H Q := by
  obtain ⟨e, st, k0, _, g0, q⟩ := h
  refine ⟨e, st, k0, _, g0, (mi e).mono (fun xs γ1 z J H1 k1 g1 wk D hD => ?_) (fun _ _ z => z) q⟩
  obtain ⟨zl, z⟩ := z
  have z : (compM gd t f (wipeE e vs) xs).run γ1 (fun ys γ' => ∀ a vs H', H a = none → Keep W H H' → W.G γ' H' → H' a = some (.lst vs) → RepL W.K H' ys vs → ¬ W.S a → Q (.ref a) H') (XD W H0 E) := z
  have nD : H D = none := k1.freed hD g0 g1
  have sD : ¬ W.S D := nS g1 hD
  refine ⟨fun i m H' => m = xs.length - i ∧ i ≤ xs.length ∧ Keep W H1 H' ∧ ∃ γ, W.G γ H' ∧ ∃ acc ad, H' D = some (.lst acc) ∧ RepL W.K H' ad acc ∧ ad.length ≤ i ∧
    (compM gd t f (wipeE e vs) (xs.drop i)).run γ (fun ys γ' => ∀ a vs H', H a = none → Keep W H H' → W.G γ' H' → H' a = some (.lst vs) → RepL W.K H' (ad ++ ys) vs → ¬ W.S a → Q (.ref a) H') (XD W H0 E),
    ⟨xs.length, by simp, Nat.zero_le _, Keep.new hD, γ1, gnew g1 hD, [], [], upd_same, by simp only [RepL], Nat.zero_le _, by rw [List.drop_zero]; exact z⟩, ?_⟩
  rintro i m H' ⟨rfl, hi, k3, γ3, g3, acc, ad, hacc, racc, hl, z⟩
  obtain ⟨w1, w2, w3⟩ := wk _ H' k3 g3
  by_cases hlt : i < xs.length
  · refine .inr ⟨w1 i hlt, fun H'' => Keep W H1 H'' ∧ ∃ γ, W.G γ H'' ∧ ∃ acc ad, H'' D = some (.lst acc) ∧ RepL W.K H'' ad acc ∧ ad.length ≤ i + 1 ∧
      (compM gd t f (wipeE e vs) (xs.drop (i + 1))).run γ (fun ys γ' => ∀ a vs H', H a = none → Keep W H H' → W.G γ' H' → H' a = some (.lst vs) → RepL W.K H' (ad ++ ys) vs → ¬ W.S a → Q (.ref a) H') (XD W H0 E),
      fun H'' ⟨q1, q2, q3⟩ => ⟨xs.length - (i + 1), by omega, rfl, hlt, q1, q2, q3⟩, fun x Hx y => ?_⟩
    obtain ⟨k4, g4, d, hd, rd⟩ := w3 i x Hx hlt y
    have kx : Keep W H Hx := (k1.trans k3).trans k4
    rw [drop_cons hd] at z
    simp only [compM, M.run_bind, M.run_noX] at z
    refine hw x _ Hx _ (hg H0 E x d _ _ Hx _ _ g4 ((st.keep g0 kx).wipe vs) rd ((gd d (wipeE e vs)).mono (fun e' _ z2 g4' σ' st' => ?_) (fun _ _ z => z) z))
    refine ⟨e', st', k0.trans kx, _, g4', (t e').mono (fun b _ z3 H5 k5 g5 => ?_) (fun _ _ z => z.elim) z2⟩
    have h5 : Keep W H' H5 := k4.trans k5
    cases b with
    | false =>
      simp only [Bool.false_eq_true, if_false] at z3 ⊢
      exact ⟨k3.trans h5, _, g5, acc, ad, h5 D _ hacc sD, racc.keep g3 h5, Nat.le_succ_of_le hl, z3⟩
    | true =>
      simp only [if_true] at z3 ⊢
      refine ⟨e', st'.keep g4 k5, (k0.trans kx).trans k5, _, g5, (f e').mono (fun dy _ z4 v H6 k6 g6 r6 => ?_) (fun _ _ z => z.elim) z3⟩
      have h6 : Keep W H' H6 := h5.trans k6
      have hD6 := h6 D _ hacc sD
      refine ⟨acc, hD6, by rw [racc.len]; omega, keep_lock (k3.trans h6) hD, _, g_lock g1 g6 hD hD6, acc ++ [v], ad ++ [dy], upd_same, repL_upd hD6 ((racc.keep g3 h6).app (by simp only [RepL]; exact ⟨v, [], rfl, r6, rfl⟩)), by rw [List.length_append]; show ad.length + 1 ≤ _; omega, ?_⟩
      refine (compM gd t f (wipeE e vs) (xs.drop (i + 1))).mono (fun ys _ z5 a vs H' h1 h2 h3 h4 h5 h6 => z5 a vs H' h1 h2 h3 h4 ?_ h6) (fun _ _ z => z) z4
      rw [List.append_assoc] at h5
      exact h5
  · have e1 : i = xs.length := by omega
    subst e1
    refine .inl ⟨w2, ?_⟩
    rw [List.drop_of_length_le (Nat.le_refl _)] at z
    have z := z D acc H' nD (k1.trans k3) g3 hacc (by rw [List.append_nil]; exact racc) sD
    exact z
theorem do_lc (hc : X.calm = true) (hN : X.N.Nodup) (hi : PI X tg iter (liftI W H0 E mi)) (ok : BlkOk X.N X.env.scope scope own) (hgd : GD W g gd) (hgw : GW g (own.map (·.2)))
    (hg : ∀ (s : Shared) (H : Hp) (C : Addr) (cl : List (Str × Addr)) (fp : List Addr), PG (X.blk s H scope (compEnvC scope cl C X.env) fp) tg g) (ht : ∀ (s : Shared) (H : Hp) (C : Addr) (cl : List (Str × Addr)) (fp : List Addr), PTs (X.blk s H scope (compEnvC scope cl C X.env) fp) ifs (liftT W H0 E0 t))
    (he : ∀ (s : Shared) (H : Hp) (C : Addr) (cl : List (Str × Addr)) (fp : List Addr), PE (X.blk s H scope (compEnvC scope cl C X.env) fp) elt (lift W H0 E0 f)) (hs : ∀ x, foldedSetIterable iter X.env x = pure x := by intro _; rfl) :
    PE X (.ListComp elt [⟨tg, iter, ifs, 0⟩] scope pos) (liftO W H0 E fun e => do let xs ← mi e; M.need (xs.length ≤ sizeLine); compM gd t f (wipeE e (own.map (·.2))) xs) :=
  PE.imp (pe_lc hc hN hi ok hg ht he hs) fun σ H Q h => comp_lift hgd hgw h
end
end Dl

set_option maxRecDepth 100000
set_option maxHeartbeats 4100000
namespace Dl
open L2 PySem PySem.Spec PyProof.Rows

/-! ### statements -/
inductive R where
  | nx (e : DE) | rt (d : D) | bk (e : DE) | ct (e : DE)
def RQ (W : Wd) (H0 H : Hp) (Dn : Ends) : R → Gh → Prop
  | .nx e', γ' => ∀ σ' H', StOk W H0 H' σ' e' → Keep W H0 H' → KeepF H H' → W.G γ' H' → Dn.nx σ' H'
  | .rt d, γ' => ∀ v H', Keep W H0 H' → W.G γ' H' → Rep W.K H' d v → Dn.rt v H'
  | .bk e', γ' => ∀ σ' H', StOk W H0 H' σ' e' → Keep W H0 H' → KeepF H H' → W.G γ' H' → Dn.bk σ' H'
  | .ct e', γ' => ∀ σ' H', StOk W H0 H' σ' e' → Keep W H0 H' → KeepF H H' → W.G γ' H' → Dn.ct σ' H'
def liftS (W : Wd) (H0 : Hp) (E : XK) (m : DE → M R) : TS := fun Dn σ H => ∃ e, StOk W H0 H σ e ∧ Keep W H0 H ∧ ∃ γ, W.G γ H ∧ (m e).run γ (RQ W H0 H Dn) (XD W H0 E)
@[simp] def seqM (m n : DE → M R) : DE → M R := fun e => do
  let r ← m e
  match r with
  | .nx e' => n e'
  | .rt d => pure (.rt d)
  | .bk e' => pure (.bk e')
  | .ct e' => pure (.ct e')
section
variable {X : Cx} {W : Wd} {H0 : Hp} {E : XK} {pos p : Pos} {a b c : Expr} {st : Stmt} {rest ss ts : List Stmt} {m n : DE → M R} {ma mb : DE → M D} {t : DE → M Bool}
theorem ds_nil : PSs X [] (liftS W H0 E fun e => pure (.nx e)) := PSs.imp pss_nil fun Dn σ H ⟨e, s, k0, _, g, q⟩ => q σ H s k0 (KeepF.refl H) g
theorem RQ.later {H H1 : Hp} {Dn : Ends} (kf : KeepF H H1) : ∀ r γ, RQ W H0 H Dn r γ → RQ W H0 H1 Dn r γ
  | .nx e, _, q => fun σ' H' s k f g => q σ' H' s k (kf.trans f) g
  | .rt d, _, q => q
  | .bk e, _, q => fun σ' H' s k f g => q σ' H' s k (kf.trans f) g
  | .ct e, _, q => fun σ' H' s k f g => q σ' H' s k (kf.trans f) g
theorem ds_cons (h : PS X st (liftS W H0 E m)) (h' : PSs X rest (liftS W H0 E n)) : PSs X (st :: rest) (liftS W H0 E (seqM m n)) :=
  PSs.imp (pss_cons h h') fun Dn σ H ⟨e, s, k0, _, g, q⟩ => ⟨e, s, k0, _, g, (m e).mono (fun r _ z => by
    cases r with
    | nx e' => exact fun σ' H' s' k' f' g' => ⟨e', s', k', _, g', (n e').mono (fun r _ z => RQ.later f' r _ z) (fun _ _ z => z) z⟩
    | rt d => exact z
    | bk e' => exact z
    | ct e' => exact z) (fun _ _ z => z) q⟩
theorem ds_one (h : PS X st (liftS W H0 E m)) : PSs X [st] (liftS W H0 E m) := PSs.imp (pss_one h) fun Dn σ H z => z
/-- return -/
theorem ds_ret (h : PE X a (lift W H0 E ma)) : PS X (.Return (some a) pos) (liftS W H0 E fun e => do let d ← ma e; pure (.rt d)) :=
  PS.imp (ps_ret h) fun Dn σ H ⟨e, s, k0, _, g, q⟩ => ⟨e, s, k0, _, g, (ma e).mono (fun d _ z v H' k g' r => z v H' (k0.trans k) g' r) (fun _ _ z => z) q⟩
theorem ds_retN : PS X (.Return none pos) (liftS W H0 E fun e => pure (.rt .non)) :=
  PS.imp ps_retN fun Dn σ H ⟨e, s, k0, _, g, q⟩ => q .non H k0 g (by simp only [Rep])
theorem ds_if (hc : PT X c (liftT W H0 E t)) (ha : PSs X ss (liftS W H0 E m)) (hb : PSs X ts (liftS W H0 E n)) : PS X (.If c ss ts pos) (liftS W H0 E fun e => do let b ← t e; if b then m e else n e) :=
  PS.imp (ps_if hc ha hb) fun Dn σ H ⟨e, s, k0, _, g, q⟩ => ⟨e, s, k0, _, g, (t e).mono (fun b _ z H' k g' => by
    cases b with
    | true => exact iteT ⟨e, s.keep g k, k0.trans k, _, g', (m e).mono (fun r _ z => RQ.later (k.toF g) r _ z) (fun _ _ z => z) z⟩
    | false => exact iteF ⟨e, s.keep g k, k0.trans k, _, g', (n e).mono (fun r _ z => RQ.later (k.toF g) r _ z) (fun _ _ z => z) z⟩) (fun _ _ z => z) q⟩
/-- an expression alone -/
theorem ds_expr (h : PE X a (lift1 W H0 E ma)) (hw : swapsWith a none pos.line X.env = pure false := by rfl) : PS X (.Expr a pos) (liftS W H0 E fun e => do let _ ← ma e; pure (.nx e)) :=
  PS.imp (ps_expr h hw) fun Dn σ H ⟨e, s, k0, _, g, q⟩ => ⟨e, s, k0, _, g, (ma e).mono (fun d _ z v H' k g' r => z σ H' (s.keep g k) (k0.trans k) (k.toF g) g') (fun _ _ z => z) q⟩
/-- tg = e -/
theorem ds_asg {tg : Expr} {gg : TG} {gd : D → DE → M DE} (h : PE X a (lift W H0 E ma)) (hg : PG X tg gg) (hd : GD W gg gd) (h1 : swapsWithSole [tg] a pos.line X.env = pure false := by rfl) (h2 : swappedStores [tg] a X.env = pure none := by rfl)
    (h3 : (assignEach [tg] X.env).map (fun x => x.snd) = [assign tg X.env] := by rfl) : PS X (.Assign [tg] a pos) (liftS W H0 E fun e => do let d ← ma e; let e' ← gd d e; pure (.nx e')) :=
  PS.imp (ps_asg h hg h1 h2 h3) fun Dn σ H ⟨e, s, k0, _, g, q⟩ => ⟨e, s, k0, _, g, (ma e).mono (fun d _ z v H' k g' r =>
    hd H0 E v d σ e H' Dn.nx _ g' (s.keep g k) r ((gd d e).mono (fun e' _ z g2 σ' s' => z σ' H' s' (k0.trans k) (k.toF g) g2) (fun _ _ z => z) z)) (fun _ _ z => z) q⟩
theorem ds_set (i : Nat) {x : Str} (hN : X.N.Nodup) (hi : X.N[i]? = some x) (h : PE X a (lift W H0 E ma)) (hl : Loc X.env.scope x := by first | exact Or.inl rfl | exact Or.inr rfl) (hw : swapsWith a (some (.Name x p)) pos.line X.env = pure false := by rfl)
    (hf : X.fn x = true ∨ X.env.scope.names.lookup x = some NameKind.local := by first | exact Or.inr rfl | exact Or.inl rfl) : PS X (.Assign [.Name x p] a pos) (liftS W H0 E fun e => do let d ← ma e; pure (.nx (setS i d e))) :=
  PS.imp (ps_set hN hi hl h hw hf) fun Dn σ H ⟨e, s, k0, _, g, q⟩ => ⟨e, s, k0, _, g, (ma e).mono (fun d _ z v H' k g' r =>
    z _ H' ((s.keep g k).set r) (k0.trans k) (k.toF g) g') (fun _ _ z => z) q⟩
/-- x = a new list that stays one's own -/
@[simp] def setO (i : Nat) (xs : List D) (e : DE) : DE := e.set i (some (SD.own xs))
theorem StOk.setow {H : Hp} {σ : L2.St} {e : DE} {i : Nat} {o : OD} {a : Addr} {u : HO} (st : StOk W H0 H σ e) (ha : H a = some u) (r : o.rep W.K H u) (hn : H0 a = none) (hs : ¬ W.S a)
    (hne : ∀ (j : Nat) (ys : OD), j ≠ i → e[j]? = some (some (SD.ow ys)) → σ[j]? ≠ some (some (V.ref a))) : StOk W H0 H (σ.set i (some (.ref a))) (e.set i (some (SD.ow o))) := by
  have at_ : ∀ {j : Nat} {x : SD}, (e.set i (some (SD.ow o)))[j]? = some (some x) → (i = j ∧ x = SD.ow o ∧ i < e.length) ∨ (i ≠ j ∧ e[j]? = some (some x)) := fun {j x} q => by
    by_cases h : i = j
    · subst h
      by_cases hi : i < e.length
      · rw [List.getElem?_set_self hi] at q
        cases q
        exact .inl ⟨rfl, rfl, hi⟩
      · rw [List.getElem?_eq_none (by rw [List.length_set]; omega)] at q; cases q
    · rw [List.getElem?_set_ne h] at q
      exact .inr ⟨h, q⟩
  refine ⟨by rw [List.length_set, List.length_set]; exact st.len, fun j d q => ?_, fun j ys q => ?_, fun j l ys zs p q1 q2 q3 q4 => ?_⟩
  · rcases at_ q with ⟨_, h, _⟩ | ⟨h, q⟩
    · cases h
    · rw [List.getElem?_set_ne h]; exact st.sh j d q
  · rcases at_ q with ⟨rfl, h, hi⟩ | ⟨h, q⟩
    · cases h
      exact ⟨a, u, by rw [List.getElem?_set_self (by rw [← st.len]; exact hi)], ha, r, hn, hs⟩
    · rw [List.getElem?_set_ne h]; exact st.owo j ys q
  · rcases at_ q1 with ⟨rfl, _, hi⟩ | ⟨h1, q1⟩
    · rcases at_ q2 with ⟨rfl, _, _⟩ | ⟨h2, q2⟩
      · rfl
      · rw [List.getElem?_set_self (by rw [← st.len]; exact hi)] at q3
        rw [List.getElem?_set_ne h2] at q4
        cases q3
        exact absurd q4 (hne l zs (Ne.symm h2) q2)
    · rcases at_ q2 with ⟨rfl, _, hi⟩ | ⟨h2, q2⟩
      · rw [List.getElem?_set_self (by rw [← st.len]; exact hi)] at q4
        rw [List.getElem?_set_ne h1] at q3
        cases q4
        exact absurd q3 (hne j ys (Ne.symm h1) q1)
      · rw [List.getElem?_set_ne h1] at q3
        rw [List.getElem?_set_ne h2] at q4
        exact st.diso j l ys zs p q1 q2 q3 q4
theorem StOk.seto {H : Hp} {σ : L2.St} {e : DE} {i : Nat} {xs : List D} {a : Addr} {vs : List V} (st : StOk W H0 H σ e) (ha : H a = some (.lst vs)) (r : RepL W.K H xs vs) (hn : H0 a = none) (hs : ¬ W.S a)
    (hne : ∀ (j : Nat) (ys : OD), j ≠ i → e[j]? = some (some (SD.ow ys)) → σ[j]? ≠ some (some (V.ref a))) : StOk W H0 H (σ.set i (some (.ref a))) (setO i xs e) := st.setow ha ⟨vs, rfl, r⟩ hn hs hne
/-- a new object is in no slot -/
theorem StOk.newne {H : Hp} {σ : L2.St} {e : DE} {a : Addr} (st : StOk W H0 H σ e) (hn : H a = none) (j : Nat) (ys : OD) (q1 : e[j]? = some (some (SD.ow ys))) : σ[j]? ≠ some (some (V.ref a)) := fun q2 => by
  obtain ⟨p, ws, e1, e2, _⟩ := st.owo j ys q1
  rw [q2] at e1
  cases e1
  rw [hn] at e2; cases e2
theorem ds_seto (i : Nat) {x : Str} {mo : DE → M (List D)} (hN : X.N.Nodup) (hi : X.N[i]? = some x) (h : PE X a (liftO W H0 E mo)) (hl : Loc X.env.scope x := by first | exact Or.inl rfl | exact Or.inr rfl) (hw : swapsWith a (some (.Name x p)) pos.line X.env = pure false := by rfl)
    (hf : X.fn x = true ∨ X.env.scope.names.lookup x = some NameKind.local := by first | exact Or.inr rfl | exact Or.inl rfl) : PS X (.Assign [.Name x p] a pos) (liftS W H0 E fun e => do let xs ← mo e; pure (.nx (setO i xs e))) :=
  PS.imp (ps_set hN hi hl h hw hf) fun Dn σ H ⟨e, s, k0, _, g, q⟩ => ⟨e, s, k0, _, g, (mo e).mono (fun xs _ z a vs H' hn k g' ha r hs =>
    z _ H' ((s.keep g k).seto ha r (by
      cases q : H0 a with
      | none => rfl
      | some o =>
        by_cases hS : W.S a
        · exact absurd hS hs
        · rw [k0 a o q hS] at hn; cases hn) hs fun j ys hj q1 q2 => by
      obtain ⟨p, ws, e1, e2, _⟩ := s.owo j ys q1
      rw [q2] at e1
      cases e1
      rw [hn] at e2; cases e2) (k0.trans k) (k.toF g) g') (fun _ _ z => z) q⟩
/-- x is never written from here on -/
@[simp] def frz (i : Nat) (e : DE) : DE := match (e[i]? : Option (Option SD)) with
  | some (some (.ow (.lst xs))) => setS i (.lst xs) e
  | some (some (.ow (.dii kvs))) => setS i (.dii kvs) e
  | _ => e
theorem OD.rep.keepF {K : PySem.W.Frag} {H H' : Hp} {o : OD} {u : HO} (k : KeepF H H') (h : o.rep K H u) : o.rep K H' u := by
  cases o with
  | lst xs =>
    obtain ⟨vs, e, r⟩ := h
    exact ⟨vs, e, RepL.keepF k _ _ r⟩
  | dii kvs => exact h
theorem kf_mut {H : Hp} {a : Addr} {u o : HO} (ha : H a = some u) (hm : (∀ xs, u ≠ .tup xs) ∧ (∀ ob w, u ≠ .frz ob w)) : KeepF H (upd H a o) := fun b v h n => by
  rw [upd_ne (fun e => ?_)]
  · exact h
  · rw [e, ha] at h
    cases h
    rcases n with ⟨_, n⟩ | ⟨_, _, n⟩
    · exact hm.1 _ n
    · exact hm.2 _ _ n
/-- the object at slot i locked -/
theorem StOk.lockd {H : Hp} {σ : L2.St} {e : DE} {i : Nat} {od : OD} {d : D} {a : Addr} {u : HO} {o : Obj} (st : StOk W H0 H σ e) (hx : e[i]? = some (some (SD.ow od))) (e1 : σ[i]? = some (some (V.ref a))) (e2 : H a = some u) (e3 : od.rep W.K H u)
    (rr : Rep W.K (upd H a (.frz o u)) d (.ref a)) : StOk W H0 (upd H a (.frz o u)) σ (setS i d e) := by
  have kf : KeepF H (upd H a (.frz o u)) := kf_mut e2 ⟨e3.mut.1, e3.mut.2.1⟩
  have hi : i < e.length := (List.getElem?_eq_some_iff.mp hx).1
  have at_ : ∀ {j : Nat} {x : SD}, (setS i d e)[j]? = some (some x) → (i = j ∧ x = SD.sh d) ∨ (i ≠ j ∧ e[j]? = some (some x)) := fun {j x} q => by
    unfold setS at q
    by_cases h : i = j
    · subst h
      rw [List.getElem?_set_self hi] at q
      cases q
      exact .inl ⟨rfl, rfl⟩
    · rw [List.getElem?_set_ne h] at q
      exact .inr ⟨h, q⟩
  refine ⟨by unfold setS; rw [List.length_set]; exact st.len, fun j f q => ?_, fun j ys q => ?_, fun j l ys zs p q1 q2 q3 q4 => ?_⟩
  · rcases at_ q with ⟨rfl, h⟩ | ⟨h, q⟩
    · cases h
      exact ⟨_, e1, rr⟩
    · obtain ⟨v, h1, h2⟩ := st.sh j f q
      exact ⟨v, h1, Rep.keepF kf _ _ h2⟩
  · rcases at_ q with ⟨_, h⟩ | ⟨h, q⟩
    · cases h
    · obtain ⟨p, ws, h1, h2, h3, h4, h5⟩ := st.owo j ys q
      have hne : p ≠ a := fun z => h (st.diso i j od ys a hx q e1 (by rw [h1, z]))
      exact ⟨p, ws, h1, by rw [upd_ne hne]; exact h2, h3.keepF kf, h4, h5⟩
  · rcases at_ q1 with ⟨_, h⟩ | ⟨_, q1⟩
    · cases h
    · rcases at_ q2 with ⟨_, h⟩ | ⟨_, q2⟩
      · cases h
      · exact st.diso j l ys zs p q1 q2 q3 q4
theorem g_ownM {H : Hp} {a : Addr} {o u : HO} {γ : Gh} (g : W.G γ H) (hs : ¬ W.S a) (ha : H a = some u) (hu : ¬ Fx u) : W.G γ (upd H a o) := W.gK _ H _ g fun b v s h => by
  rw [upd_ne (fun e => ?_)]
  · exact h
  · rcases s with s | s
    · exact hs (by rw [← e]; exact s)
    · rw [e, ha] at h
      cases h
      exact hu s
theorem OD.rep.nfx {K : PySem.W.Frag} {H : Hp} {o : OD} {u : HO} (h : o.rep K H u) : ¬ Fx u := by
  rintro (⟨c, q, e⟩ | ⟨ob, w, e⟩ | ⟨xs, e⟩)
  · exact h.mut.2.2.1 _ e
  · exact h.mut.2.1 _ _ e
  · exact h.mut.1 _ e
theorem g_own {H : Hp} {a : Addr} {o : HO} {vs : List V} {γ : Gh} (g : W.G γ H) (hs : ¬ W.S a) (ha : H a = some (.lst vs)) : W.G γ (upd H a o) := g_ownM g hs ha fx_lst
theorem ds_frz (i : Nat) (h : PSs X ss (liftS W H0 E m)) : PSs X ss (liftS W H0 E fun e => m (frz i e)) := by
  refine ⟨fun pins s σ H Dn I hq => ?_⟩
  obtain ⟨e, st, k0, γ0, g, q⟩ := hq
  have q : (m (frz i e)).run γ0 (RQ W H0 H Dn) (XD W H0 E) := q
  unfold frz at q
  have key : ∀ {od : OD} {d : D} {a : Addr} {u : HO}, e[i]? = some (some (SD.ow od)) → σ[i]? = some (some (V.ref a)) → H a = some u → od.rep W.K H u → H0 a = none → ¬ W.S a → (∀ o, Rep W.K (upd H a (.frz o u)) d (.ref a)) → (m (setS i d e)).run γ0 (RQ W H0 H Dn) (XD W H0 E) →
      wpAny (model X.prog X.w) X.A (execs ss X.env) (SP X pins Dn) X.xe s := fun {od d a u} hx e1 e2 e3 e4 e5 rr q => by
    obtain ⟨o, I2⟩ := I.lock e2 e3.mut.2.2.2
    have kf : KeepF H (upd H a (.frz o u)) := kf_mut e2 ⟨e3.mut.1, e3.mut.2.1⟩
    exact h.run pins s σ _ Dn I2 ⟨setS i d e, st.lockd hx e1 e2 e3 (rr o), keep_lock k0 e4, _, g_ownM g e5 e2 e3.nfx, (m _).mono (fun r _ z => RQ.later kf r _ z) (fun _ _ z => z) q⟩
  split at q
  · rename_i xs hx
    obtain ⟨a, vs, e1, e2, e3, e4, e5⟩ := st.own i xs hx
    refine key hx e1 e2 ⟨vs, rfl, e3⟩ e4 e5 (fun o => ?_) q
    simp only [Rep]
    exact ⟨a, vs, rfl, ⟨o, upd_same⟩, RepL.keepF (kf_mut e2 ⟨fun _ z => (nomatch z), fun _ _ z => (nomatch z)⟩) _ _ e3⟩
  · rename_i kvs hx
    obtain ⟨a, e1, e2, e4, e5⟩ := st.dic i kvs hx
    refine key hx e1 e2 rfl e4 e5 (fun o => ?_) q
    simp only [Rep]
    exact ⟨a, o, rfl, upd_same⟩
  · exact h.run pins s σ H Dn I ⟨e, st, k0, _, g, q⟩
/-- x.append(e), x one's own -/
@[simp] def appM (i : Nat) (ma : DE → M D) : DE → M R := fun e => match (e[i]? : Option (Option SD)) with
  | some (some (.ow (.lst xs))) => do let d ← ma e; M.need (xs.length < sizeLine); pure (.nx (setO i (xs ++ [d]) e))
  | _ => M.fail
theorem StOk.updo {H : Hp} {σ : L2.St} {e : DE} {i : Nat} {o o' : OD} {a : Addr} {u u' : HO} (st : StOk W H0 H σ e) (hx : e[i]? = some (some (SD.ow o))) (h1 : σ[i]? = some (some (V.ref a))) (ha : H a = some u) (hr : o.rep W.K H u) (hn : H0 a = none) (hs : ¬ W.S a) (r : o'.rep W.K H u') :
    StOk W H0 (upd H a u') σ (e.set i (some (SD.ow o'))) := by
  have kf : KeepF H (L2.upd H a u') := kf_mut ha ⟨hr.mut.1, hr.mut.2.1⟩
  have hi : i < e.length := (List.getElem?_eq_some_iff.mp hx).1
  have at_ : ∀ {j : Nat} {x : SD}, (e.set i (some (SD.ow o')))[j]? = some (some x) → (i = j ∧ x = SD.ow o') ∨ (i ≠ j ∧ e[j]? = some (some x)) := fun {j x} q => by
    by_cases h : i = j
    · subst h
      rw [List.getElem?_set_self hi] at q
      cases q
      exact .inl ⟨rfl, rfl⟩
    · rw [List.getElem?_set_ne h] at q
      exact .inr ⟨h, q⟩
  refine ⟨by rw [List.length_set]; exact st.len, fun j d q => ?_, fun j zs q => ?_, fun j l zs us p q1 q2 q3 q4 => ?_⟩
  · rcases at_ q with ⟨_, h⟩ | ⟨h, q⟩
    · cases h
    · obtain ⟨v, h1, h2⟩ := st.sh j d q
      exact ⟨v, h1, Rep.keepF kf _ _ h2⟩
  · rcases at_ q with ⟨rfl, h⟩ | ⟨h, q⟩
    · cases h
      exact ⟨a, u', h1, upd_same, r.keepF kf, hn, hs⟩
    · obtain ⟨p, us, g1, g2, g3, g4, g5⟩ := st.owo j zs q
      have hne : p ≠ a := fun z => h (st.diso i j o zs a hx q h1 (by rw [g1, z]))
      exact ⟨p, us, g1, by rw [upd_ne hne]; exact g2, g3.keepF kf, g4, g5⟩
  · rcases at_ q1 with ⟨rfl, _⟩ | ⟨n1, q1⟩
    · rcases at_ q2 with ⟨rfl, _⟩ | ⟨n2, q2⟩
      · rfl
      · exact st.diso i l o us p hx q2 q3 q4
    · rcases at_ q2 with ⟨rfl, _⟩ | ⟨n2, q2⟩
      · exact st.diso j i zs o p q1 hx q3 q4
      · exact st.diso j l zs us p q1 q2 q3 q4
theorem StOk.upd {H : Hp} {σ : L2.St} {e : DE} {i : Nat} {xs ys : List D} {a : Addr} {vs ws : List V} (st : StOk W H0 H σ e) (hx : e[i]? = some (some (SD.own xs))) (h1 : σ[i]? = some (some (V.ref a))) (ha : H a = some (.lst vs)) (hn : H0 a = none) (hs : ¬ W.S a) (r0 : RepL W.K H xs vs) (r : RepL W.K H ys ws) :
    StOk W H0 (upd H a (.lst ws)) σ (setO i ys e) := st.updo hx h1 ha ⟨vs, rfl, r0⟩ hn hs ⟨ws, rfl, r⟩
theorem keep_own {H : Hp} {a : Addr} {o : HO} (k : Keep W H0 H) (hn : H0 a = none) : Keep W H0 (upd H a o) := keep_lock k hn
theorem kf_own {H : Hp} {a : Addr} {vs : List V} {o : HO} (ha : H a = some (.lst vs)) : KeepF H (upd H a o) := fun b u h n => by rw [upd_ne (fun e => by rw [e, ha] at h; cases h; rcases n with ⟨_, n⟩ | ⟨_, _, n⟩ <;> cases n)]; exact h
theorem ds_append (i : Nat) {x : Str} {cpos apos : Pos} (h : PE X a (lift W H0 E ma)) (hN : X.N[i]? = some x := by rfl) (hv : Vis X.env.scope x := by first | exact Or.inl rfl | exact Or.inr (Or.inl rfl) | exact Or.inr (Or.inr rfl)) (hd : (x == ("__debug__" : Str)) = false := by decide)
    (hcd : (x == ("__classdict__" : Str)) = false := by decide) (hw : swapsWith (.Call (.Attribute (.Name x p) "append" apos) [a] [] cpos) none pos.line X.env = pure false := by rfl)
    (hbase : attributeBase (.Name x p) "append" X.env (eval (.Name x p) X.env) = eval (.Name x p) X.env := by rfl)
    (hfew : ((backTo cpos (starEach [a] X.env)).all (fun x => !x.1) && (backToKw cpos (keywordEach [] X.env)).all (fun x => x.1.isSome)
      && decide ([a].length + ([] : List Keyword).length + (if ([] : List Keyword).isEmpty then 0 else 1) < 30)) = true := by rfl)
    (hline : (apos.endLine == cpos.line) = true := by rfl) (hs : starEach [a] X.env = (false, eval a X.env) :: starEach [] X.env := by rfl) :
    PS X (.Expr (.Call (.Attribute (.Name x p) "append" apos) [a] [] cpos) pos) (liftS W H0 E (appM i ma)) := by
  refine PS.imp (ps_expr (pe_bm PySem.F.plainAttrs_list PySem.F.slot_list_append PySem.F.type_list_append mt_append (pe_var hN hv hd hcd) (pa_cons h pa_nil hs) hbase hfew hline hs (by rfl)) hw) fun Dn σ H ⟨e, s, k0, _, g, q⟩ => ?_
  unfold appM at q
  split at q
  · rename_i xs hx
    obtain ⟨l, vs, e1, e2, e3, e4, e5⟩ := s.own i xs hx
    refine ⟨_, e1, .inl ⟨rfl, _, .inl (.inl e2)⟩, e, s, k0, _, g, (ma e).mono (fun d _ z v H' k g' r => ?_) (fun _ _ z => z) q⟩
    obtain ⟨z1, z2⟩ := z
    have e2' := k l _ e2 e5
    refine ⟨l, vs, v, rfl, rfl, e2', by rw [e3.len]; exact z1, z2 σ _ ((s.keep g k).upd hx e1 e2' e4 e5 (e3.keep g k) ((e3.keep g k).app (by simp only [RepL]; exact ⟨v, [], rfl, r, rfl⟩))) (keep_own (k0.trans k) e4) ((k.toF g).trans (kf_own e2')) (g_own g' e5 e2')⟩
  · exact q.elim
/-! ### loops -/
def forM (gd : D → DE → M DE) (body : DE → M R) : List D → DE → M R
  | [], e => pure (.nx e)
  | x :: xs, e => do
    let e1 ← gd x e
    let r ← body e1
    match r with
    | .nx e' => forM gd body xs e'
    | .ct e' => forM gd body xs e'
    | .bk e' => pure (.nx e')
    | .rt d => pure (.rt d)
theorem ds_for {tg iter : Expr} {mi : DE → M (List D)} {gg : TG} {gd : D → DE → M DE} {body : List Stmt} (hp : PassesOwn (model X.prog X.w) X.A X.env X.xe) (hc : X.calm = true) (hi : PI X tg iter (liftF W H0 E mi)) (hg : PG X tg gg) (hd : GD W gg gd) (hb : PSs X body (liftS W H0 E m))
    (hs : ∀ x, foldedSetIterable iter X.env x = pure x := by intro _; rfl) : PS X (.For tg iter body [] pos) (liftS W H0 E fun e => do let xs ← mi e; forM gd m xs e) :=
  PS.imp (ps_for hp hc hi hg hb hs) fun Dn σ H ⟨e, st, k0, _, g, q⟩ => ⟨e, st, k0, _, g, (mi e).mono (fun xs _ z J H1 k1 g1 wk => by
    refine ⟨fun i m' σ' H' => m' = xs.length - i ∧ i ≤ xs.length ∧ ∃ e', StOk W H0 H' σ' e' ∧ Keep W H0 H' ∧ KeepF H1 H' ∧ ∃ γ, W.G γ H' ∧ (forM gd m (xs.drop i) e').run γ (RQ W H0 H Dn) (XD W H0 E),
      ⟨xs.length, by simp, Nat.zero_le _, e, st.keep g k1, k0.trans k1, KeepF.refl _, _, g1, by rw [List.drop_zero]; exact z⟩, ?_⟩
    rintro i m' σ' H' ⟨rfl, hi, e', st', k', f', γ1, g', z⟩
    obtain ⟨w1, w2, w3⟩ := wk _ H' f' g'
    have fH : KeepF H H' := (k1.toF g).trans f'
    by_cases hlt : i < xs.length
    · refine .inr ⟨w1 i hlt, fun σ2 H2 => ∃ e2, StOk W H0 H2 σ2 e2 ∧ Keep W H0 H2 ∧ KeepF H1 H2 ∧ ∃ γ, W.G γ H2 ∧ (forM gd m (xs.drop (i + 1)) e2).run γ (RQ W H0 H Dn) (XD W H0 E), fun σ2 H2 q => ⟨xs.length - (i + 1), by omega, rfl, hlt, q⟩, fun x Hx y => ?_⟩
      obtain ⟨k4, g4, d, hdx, rd⟩ := w3 i x Hx hlt y
      rw [drop_cons hdx] at z
      have fx := f'.trans (k4.toF g')
      refine hd H0 E x d σ' e' Hx _ _ g4 (st'.keep g' k4) rd ((gd d e').mono (fun e1 _ z2 g4' σ1 st1 => ⟨e1, st1, k'.trans k4, _, g4', (m e1).mono (fun r _ z3 => ?_) (fun _ _ z => z) z2⟩) (fun _ _ z => z) z)
      cases r with
      | nx e5 => exact fun σ5 H5 s5 k5 f5 g5 => ⟨e5, s5, k5, fx.trans f5, _, g5, z3⟩
      | ct e5 => exact fun σ5 H5 s5 k5 f5 g5 => ⟨e5, s5, k5, fx.trans f5, _, g5, z3⟩
      | bk e5 => exact fun σ5 H5 s5 k5 f5 g5 => z3 σ5 H5 s5 k5 ((fH.trans (k4.toF g')).trans f5) g5
      | rt d => exact z3
    · have e1 : i = xs.length := by omega
      subst e1
      rw [List.drop_of_length_le (Nat.le_refl _)] at z
      exact .inl ⟨w2, z σ' H' st' k' fH g'⟩) (fun _ _ z => z) q⟩
/-- while: an invariant and a measure, over the slots -/
def whileM (t : DE → M Bool) (body : DE → M R) (e : DE) : M R where
  run γ P Xx := ∃ I : Nat → DE → Gh → Prop, (∃ k, I k e γ) ∧ ∀ k e γ, I k e γ → (t e).run γ (fun b γ' => if b = true then (body e).run γ' (fun r γ' => match r with
    | .nx e' => ∃ k', k' < k ∧ I k' e' γ'
    | .ct e' => ∃ k', k' < k ∧ I k' e' γ'
    | .bk e' => P (.nx e') γ'
    | .rt d => P (.rt d) γ') Xx else P (.nx e) γ') Xx
  mono := fun h hx ⟨I, h0, hs⟩ => ⟨I, h0, fun k e γ hi => (t e).mono (fun b _ z => by
    cases b with
    | false => exact h _ _ z
    | true => exact (body e).mono (fun r _ z => by cases r <;> first | exact z | exact h _ _ z) hx z) hx (hs k e γ hi)⟩
theorem ds_while {body : List Stmt} (hp : PassesOwn (model X.prog X.w) X.A X.env X.xe) (hc : PT X c (liftT W H0 E t)) (hb : PSs X body (liftS W H0 E m)) : PS X (.While c body [] pos) (liftS W H0 E (whileM t m)) :=
  PS.imp (ps_while hp hc hb) fun Dn σ H ⟨e, st, k0, _, g, I, ⟨k, hk⟩, hs⟩ => by
    refine ⟨fun k σ' H' => ∃ e', StOk W H0 H' σ' e' ∧ Keep W H0 H' ∧ KeepF H H' ∧ ∃ γ, W.G γ H' ∧ I k e' γ, ⟨k, e, st, k0, KeepF.refl _, _, g, hk⟩, ?_⟩
    rintro k σ' H' ⟨e', st', k', f', γ1, g', hi⟩
    refine ⟨e', st', k', _, g', (t e').mono (fun b _ z H2 k2 g2 => ?_) (fun _ _ z => z) (hs k e' γ1 hi)⟩
    cases b with
    | false => exact iteF (z σ' H2 (st'.keep g' k2) (k'.trans k2) (f'.trans (k2.toF g')) g2)
    | true =>
      refine iteT ⟨fun σ3 H3 => ∃ k'', k'' < k ∧ ∃ e3, StOk W H0 H3 σ3 e3 ∧ Keep W H0 H3 ∧ KeepF H H3 ∧ ∃ γ, W.G γ H3 ∧ I k'' e3 γ, fun σ3 H3 q => q, e', st'.keep g' k2, k'.trans k2, _, g2, (m e').mono (fun r _ z3 => ?_) (fun _ _ z => z) z⟩
      have fx := f'.trans (k2.toF g')
      cases r with
      | nx e5 => obtain ⟨k5, l5, i5⟩ := z3; exact fun σ5 H5 s5 kk f5 g5 => ⟨k5, l5, e5, s5, kk, fx.trans f5, _, g5, i5⟩
      | ct e5 => obtain ⟨k5, l5, i5⟩ := z3; exact fun σ5 H5 s5 kk f5 g5 => ⟨k5, l5, e5, s5, kk, fx.trans f5, _, g5, i5⟩
      | bk e5 => exact fun σ5 H5 s5 kk f5 g5 => z3 σ5 H5 s5 kk (fx.trans f5) g5
      | rt d => exact z3
theorem ds_pass : PS X (.Pass pos) (liftS W H0 E fun e => pure (.nx e)) := PS.imp ps_pass fun Dn σ H ⟨e, s, k0, _, g, q⟩ => q σ H s k0 (KeepF.refl H) g
theorem ds_brk : PS X (.Break pos) (liftS W H0 E fun e => pure (.bk e)) := PS.imp ps_break fun Dn σ H ⟨e, s, k0, _, g, q⟩ => q σ H s k0 (KeepF.refl H) g
theorem ds_cont : PS X (.Continue pos) (liftS W H0 E fun e => pure (.ct e)) := PS.imp ps_continue fun Dn σ H ⟨e, s, k0, _, g, q⟩ => q σ H s k0 (KeepF.refl H) g
/-- raise X('..') -/
theorem ds_raise {C : Addr} {x s : Str} {j : Nat} {p2 : Pos} {bmB : List Value} {B newId initId : String} (hc : X.calm = true) (tk : Takes X fun cls d _ H => E cls d H) (bf : ExcBaseFacts B newId initId bmB) (hx : PySem.W.excIn X.K C bmB newId = true) (hm : X.mg x = some (.ref C)) (hk : PySem.W.keepIn X.K (.ref C) = true)
    {rpos : Pos} (hr : Raises X (.ref C)) (hg : Gl X x := by rfl) (hdb : (x == ("__debug__" : Str)) = false := by decide) : PS X (.Raise (some (.Call (.Name x p) [.Constant (.str s) j p2] [] pos)) none rpos) (liftS W H0 E fun _ => M.raise C) :=
  PS.imp (ps_raise hc tk (pmk_own bf hx hm hk hr hg hdb)) fun Dn σ H ⟨e, s, k0, _, g, q⟩ => q H k0 g
/-- a tuple of names as a target -/
@[simp] def unpM : List Nat → List D → DE → M DE
  | [], [], e => pure e
  | i :: is, d :: ds, e => unpM is ds (setS i d e)
  | _, _, _ => M.fail
@[simp] def unpT (is : List Nat) : D → DE → M DE
  | .tup ds, e => unpM is ds e
  | .pr x y, e => unpM is [x, y] e
  | _, _ => M.fail
def gNames : List Nat → TGs
  | [] => gNil
  | i :: is => gCons (gName i) (gNames is)
theorem gd_names {H0 : Hp} {E : XK} {H : Hp} {Q : L2.St → Hp → Prop} {γ : Gh} (g : W.G γ H) : ∀ (is : List Nat) (ds : List D) (vs : List V) (σ : L2.St) (e : DE), StOk W H0 H σ e → RepL W.K H ds vs →
    (unpM is ds e).run γ (fun e' γ' => W.G γ' H → ∀ σ', StOk W H0 H σ' e' → Q σ' H) (XD W H0 E) → gNames is vs σ H Q ∧ is.length = ds.length
  | [], [], vs, σ, e, st, r, q => by
    simp only [RepL] at r
    exact ⟨⟨r, q g σ st⟩, rfl⟩
  | i :: is, d :: ds, vs, σ, e, st, r, q => by
    simp only [RepL] at r
    obtain ⟨v, ws, rfl, r1, r2⟩ := r
    obtain ⟨h1, h2⟩ := gd_names g is ds ws _ _ (st.set r1) r2 q
    exact ⟨⟨v, ws, rfl, h1⟩, by rw [List.length_cons, List.length_cons, h2]⟩
  | [], d :: ds, vs, σ, e, st, r, q => q.elim
  | i :: is, [], vs, σ, e, st, r, q => q.elim
theorem gd_tup {K : PySem.W.Frag} (hK : K = W.K) (is : List Nat) : GD W (gTup K is.length (gNames is)) (unpT is) := fun H0 E x d σ e H Q γ g st r q => by
  unfold unpT at q
  split at q
  · rename_i ds
    simp only [Rep] at r
    obtain ⟨a, vs, rfl, sq, rl⟩ := r
    obtain ⟨h1, h2⟩ := gd_names g is ds vs σ e st rl q
    exact ⟨a, vs, rfl, by rw [hK]; exact sq.sq, by rw [rl.len, h2], h1⟩
  · rename_i d1 d2
    simp only [Rep] at r
    obtain ⟨a, u, w, rfl, sq, ru, rw_⟩ := r
    have rl : RepL W.K H [d1, d2] [u, w] := by
      simp only [RepL]
      exact ⟨u, [w], rfl, ru, w, [], rfl, rw_, rfl⟩
    obtain ⟨h1, h2⟩ := gd_names g is [d1, d2] [u, w] σ e st rl q
    exact ⟨a, [u, w], rfl, by rw [hK]; exact sq, by rw [h2]; rfl, h1⟩
  · exact q.elim
theorem gnames_wipe {vs : List Nat} {σ0 : L2.St} : ∀ (is : List Nat), (∀ i ∈ is, i ∈ vs) → ∀ (xs : List V) (σ : L2.St) (H : Hp) (Q : L2.St → Hp → Prop), wipe σ vs = wipe σ0 vs → gNames is xs σ H Q → gNames is xs σ H fun σ' H' => wipe σ' vs = wipe σ0 vs ∧ Q σ' H'
  | [], _, xs, σ, H, Q, hw, ⟨h1, h2⟩ => ⟨h1, hw, h2⟩
  | i :: is, hv, xs, σ, H, Q, hw, ⟨v, r, e, q⟩ => ⟨v, r, e, gnames_wipe is (fun j hj => hv j (List.mem_cons_of_mem _ hj)) r (σ.set i (some v)) H Q ((wipe_set σ i _ vs (hv i List.mem_cons_self)).trans hw) q⟩
theorem gw_tup {K : PySem.W.Frag} {is vs : List Nat} (h : ∀ i ∈ is, i ∈ vs) : GW (gTup K is.length (gNames is)) vs := fun x σ H Q ⟨a, xs, e, sq, hl, q⟩ => ⟨a, xs, e, sq, hl, gnames_wipe is h xs _ H Q (wipe_wipe σ vs) q⟩
/-- x += e, ints -/
@[simp] def augM (i : Nat) (f : D → D → M D) (ma : DE → M D) : DE → M R := fun e => match (e[i]? : Option (Option SD)) with
  | some (some (.sh x)) => do let y ← ma e; let z ← f x y; pure (.nx (setS i z e))
  | _ => M.fail
theorem ds_aug (i : Nat) {x : Str} {op : Operator} {ti : TIp} {f : D → D → M D} (ho : PIp X op ti) (hf : ∀ (E : XK) (x y : V) (dx dy : D) (H : Hp) (Q : VK) (γ : Gh), W.G γ H → Rep1 W H dx x → Rep1 W H dy y →
      (f dx dy).run γ (fun d γ' => ∀ v H', Keep W H H' → W.G γ' H' → Rep W.K H' d v → Q v H') (fun c γ' => ∀ H', Keep W H H' → W.G γ' H' → E (.ref c) none H') → ti x y H Q) (h : PE X a (lift1 W H0 E ma)) (hN : X.N.Nodup) (hi : X.N[i]? = some x) (hl : Loc X.env.scope x := by first | exact Or.inl rfl | exact Or.inr rfl)
    (hff : X.fn x = true ∨ X.env.scope.names.lookup x = some NameKind.local := by first | exact Or.inr rfl | exact Or.inl rfl) : PS X (.AugAssign (.Name x p) op a pos) (liftS W H0 E (augM i f ma)) :=
  PS.imp (ps_aug hN hi hl h ho hff) fun Dn σ H ⟨e, st, k0, _, g, q⟩ => by
    unfold augM at q
    split at q
    · rename_i d hd
      obtain ⟨v, h1, h2⟩ := st.sh i d hd
      exact ⟨v, h1, e, st, k0, _, g, (ma e).mono (fun dy _ z u H' k g' r => hf E v u d dy H' _ _ g' (h2.keep g k).one r ((f d dy).mono (fun d _ z v H2 k2 g2 r2 => z _ H2 ((st.keep g (k.trans k2)).set r2) (k0.trans (k.trans k2)) ((k.trans k2).toF g) g2) (fun c _ z H2 k2 g2 => z H2 ((k0.trans k).trans k2) g2) z)) (fun _ _ z => z) q⟩
    · exact q.elim
end

/-! ### a def -/
@[simp] def startE (N : List Str) (ds : List D) : DE := ds.map (fun d => some (SD.sh d)) ++ List.replicate (N.length - ds.length) none
theorem start_ok {W : Wd} {H : Hp} {N : List Str} {ds : List D} {vs : List V} (r : RepL W.K H ds vs) (hl : ds.length ≤ N.length) : StOk W H H (L2.start N vs) (startE N ds) := by
  have hv := r.len
  have at_ : ∀ {i : Nat} {x : SD}, (startE N ds)[i]? = some (some x) → ∃ d, ds[i]? = some d ∧ x = .sh d := fun {i x} q => by
    unfold startE at q
    by_cases hi : i < ds.length
    · rw [List.getElem?_append_left (by simpa using hi), List.getElem?_map] at q
      cases e : ds[i]? with
      | none => rw [e] at q; cases q
      | some d => rw [e] at q; cases q; exact ⟨d, rfl, rfl⟩
    · rw [List.getElem?_append_right (by simpa using hi), List.getElem?_replicate] at q
      split at q <;> cases q
  refine ⟨?_, fun i d q => ?_, fun i xs q => ?_, fun i j xs ys a q => ?_⟩
  · unfold startE L2.start
    simp only [List.length_append, List.length_map, List.length_replicate, hv]
  · obtain ⟨d', e1, e2⟩ := at_ q
    cases e2
    obtain ⟨v, h1, h2⟩ := r.get' e1
    refine ⟨v, ?_, h2⟩
    unfold L2.start
    have hi : i < vs.length := (List.getElem?_eq_some_iff.mp h1).1
    rw [List.getElem?_append_left (by simpa using hi), List.getElem?_map, h1]
    rfl
  · obtain ⟨d', _, e2⟩ := at_ q; cases e2
  · obtain ⟨d', _, e2⟩ := at_ q; cases e2
/-- what a body's end is to a caller -/
@[simp] def rtP (P : D → Gh → Prop) : R → Gh → Prop
  | .rt d, γ => P d γ
  | .nx _, γ => P .non γ
  | _, _ => False
section
variable {P : Program} {w : World} {base : Heap} {mg : Str → Option Value}
theorem okD {W : Wd} {x qual : Str} {st : Stmt} {f : Addr} {fd : FuncData} {N ps : List Str} {k : Nat} {F : List D → M D} (Fn : Fun W.K x qual st f fd) (S : FnScope N ps (defScope st)) (hps : ps.length ≤ N.length)
    (hbody : ∀ (cdv : Value) (A : Around) (outer : List PySem.Env) (s : Shared) (H : Hp) (vs : List V) (Q : VK) (E : XK), Room k (A.deeper (envOfC qual (defScope st) s.heap.objs.size f cdv)) →
      ∃ m : DE → M R, PSs (cxOf (L2.CX P w) P w W.K mg base N qual (defScope st) f cdv A outer s H E) (defBody st) (liftS W H E m) ∧
        ∀ ds, ds.length = ps.length → ∀ (γ : Gh) (PP : D → Gh → Prop) (XX : Addr → Gh → Prop), (F ds).run γ PP XX → (m (startE N ds)).run γ (rtP PP) XX) :
    FnOk P w W.K mg base (L2.CX P w) (k + 1) f fd ps (spD W ps.length F) := by
  refine Fn.okX S (fun vs H Q E h => ?_) fun cdv A outer s H vs Q E hr h => ?_
  · obtain ⟨ds, r, hl, _⟩ := h
    rw [r.len, hl]
  · obtain ⟨m, hm, hq⟩ := hbody cdv A outer s H vs Q E hr
    obtain ⟨ds, r, hl, _, g, q⟩ := h
    refine ⟨_, hm, startE N ds, start_ok r (by omega), Keep.refl _, _, g, (m _).mono (fun rr _ z => ?_) (fun _ _ z => z) (hq ds hl _ _ _ q)⟩
    cases rr with
    | nx e => exact fun σ' H' _ k _ g' => z .non H' k g' (by simp only [Rep])
    | rt d => exact z
    | bk e => exact z.elim
    | ct e => exact z.elim
end
end Dl

set_option maxRecDepth 100000
set_option maxHeartbeats 4100000
namespace Dl
open L2 PySem PySem.Spec PyProof.Rows

/-- a def of the text as it stands behind the top, its code object at cc -/
structure FunC (K : PySem.W.Frag) (x qual : Str) (st : Stmt) (f cc : Addr) (fd : FuncData) : Prop where
  ex : ∃ (oc : Value) (od : Option Addr) (kV doc pm : Value) (an : Option Addr) (ct : Value) (osl : Array (Option Value)),
    fd = PySem.W.fnOf x qual (defArgs st) (defBody st) (defScope st) .none kV doc pm an (.ref cc) ct ∧ K.lookup f = some ⟨oc, od, .func fd, osl⟩ ∧ PySem.W.codeIn K (.ref cc) qual = true
  kp : PySem.W.keepIn K (Value.ref f) = true
section
variable {P : Program} {w : World} {base : Heap} {mg : Str → Option Value}
theorem okC {W : Wd} {x qual : Str} {st : Stmt} {f cc : Addr} {fd : FuncData} {N ps : List Str} {k : Nat} {F : List D → M D} (Fn : FunC W.K x qual st f cc fd) (S : FnScope N ps (defScope st)) (hps : ps.length ≤ N.length)
    (hbody : ∀ (A : Around) (outer : List PySem.Env) (s : Shared) (H : Hp) (E : XK), Room k (A.deeper (envOfC qual (defScope st) s.heap.objs.size f (.ref cc))) →
      ∃ m : DE → M R, PSs (cxOf (L2.CX P w) P w W.K mg base N qual (defScope st) f (.ref cc) A outer s H E) (defBody st) (liftS W H E m) ∧
        ∀ ds, ds.length = ps.length → ∀ (γ : Gh) (PP : D → Gh → Prop) (XX : Addr → Gh → Prop), (F ds).run γ PP XX → (m (startE N ds)).run γ (rtP PP) XX) :
    FnOk P w W.K mg base (L2.CX P w) (k + 1) f fd ps (spD W ps.length F) := by
  obtain ⟨oc, od, kV, doc, pm, an, ct, osl, rfl, lk, hcd⟩ := Fn.ex
  refine fn_of lk hcd S (fun vs H Q E h => ?_) fun A outer s H vs Q E hr h => ?_
  · obtain ⟨ds, r, hl, _⟩ := h
    rw [r.len, hl]
  · obtain ⟨m, hm, hq⟩ := hbody A outer s H E hr
    obtain ⟨ds, r, hl, _, g, q⟩ := h
    refine ⟨_, hm, startE N ds, start_ok r (by omega), Keep.refl _, _, g, (m _).mono (fun rr _ z => ?_) (fun _ _ z => z) (hq ds hl _ _ _ q)⟩
    cases rr with
    | nx e => exact fun σ' H' _ k _ g' => z .non H' k g' (by simp only [Rep])
    | rt d => exact z
    | bk e => exact z.elim
    | ct e => exact z.elim
theorem FunC.binds {K : PySem.W.Frag} {x qual : Str} {st : Stmt} {f cc : Addr} {fd : FuncData} {ps : List Str} (F : FunC K x qual st f cc fd)
    (h : ∀ (kV doc pm : Value) (an : Option Addr) (cv ct : Value) (us : List Value), us.length = ps.length → bindArgs (PySem.W.fnOf x qual (defArgs st) (defBody st) (defScope st) .none kV doc pm an cv ct) ⟨us, []⟩ = pure (ps.zip us)) : Binds K fd ps [] := by
  obtain ⟨oc, od, kV, doc, pm, an, ct, osl, rfl, lk, hcd⟩ := F.ex
  exact .all (h kV doc pm an (.ref cc) ct)
end
/-- in a def that may raise, what a callee raises goes out -/
theorem pass_cx {P : Program} {w : World} {K : PySem.W.Frag} {mg : Str → Option Value} {base : Heap} {N : List Str} {qual : Str} {scope : Scope} {f : Addr} {cd : Value} {A : Around} {outer : List PySem.Env} {s : Shared} {H : Hp} {E : XK} :
    Passes (L2.CX P w) (cxOf (L2.CX P w) P w K mg base N qual scope f cd A outer s H E) E := passes_call (takes_of rfl rfl rfl rfl) (fun _ _ _ _ h => h)
theorem takes_cx {P : Program} {w : World} {K : PySem.W.Frag} {mg : Str → Option Value} {base : Heap} {N : List Str} {qual : Str} {scope : Scope} {f : Addr} {cd : Value} {A : Around} {outer : List PySem.Env} {s : Shared} {H : Hp} {E : XK} :
    Takes (cxOf (L2.CX P w) P w K mg base N qual scope f cd A outer s H E) (fun cls d _ H => E cls d H) := takes_of rfl rfl rfl rfl

/-! ### operators -/
section
variable {X : Cx} {W : Wd}
theorem opD_lt : OpD W (rI0 fun i j => V.bl (decide (i < j))) (onI fun i j => .bl (decide (i < j))) := opD_I fun _ _ _ => by simp only [Rep]
theorem opD_le : OpD W (rI0 fun i j => V.bl (decide (i ≤ j))) (onI fun i j => .bl (decide (i ≤ j))) := opD_I fun _ _ _ => by simp only [Rep]
theorem opD_gt : OpD W (rI0 fun i j => V.bl (decide (j < i))) (onI fun i j => .bl (decide (j < i))) := opD_I fun _ _ _ => by simp only [Rep]
theorem opD_ge : OpD W (rI0 fun i j => V.bl (decide (j ≤ i))) (onI fun i j => .bl (decide (j ≤ i))) := opD_I fun _ _ _ => by simp only [Rep]
theorem opD_add : OpD W (rI0 fun i j => V.int (i + j)) (onI fun i j => .int (i + j)) := opD_I fun _ _ _ => by simp only [Rep]
theorem opD_sub : OpD W (rI0 fun i j => V.int (i - j)) (onI fun i j => .int (i - j)) := opD_I fun _ _ _ => by simp only [Rep]
end
end Dl

set_option maxRecDepth 100000
set_option maxHeartbeats 4100000
namespace Dl
open L2 PySem PySem.Spec PyProof.Rows

mutual
@[simp] def toPy : D → Option PyData
  | .non => some .none
  | .bl b => some (.bool b)
  | .int i => some (.int i)
  | .str x => some (.str x)
  | .tup xs => (toPyL xs).map .tuple
  | .lst xs => (toPyL xs).map .list
  | .emp => none
  | .dii _ => none
  | .ob _ => none
  | .pr _ _ => none
  | .dil _ _ => none
  | .exn _ => none
@[simp] def toPyL : List D → Option (List PyData)
  | [] => some []
  | x :: xs => (toPy x).bind fun a => (toPyL xs).map fun b => a :: b
end
mutual
theorem rep_dp {K : PySem.W.Frag} {H : Hp} : ∀ (d : D) (v : V) (p : PyData), toPy d = some p → Rep K H d v → Dp K H v p
  | .non, v, p, h, r => by simp only [toPy, Option.some.injEq] at h; simp only [Rep] at r; subst h r; exact .non
  | .bl b, v, p, h, r => by simp only [toPy, Option.some.injEq] at h; simp only [Rep] at r; subst h r; exact .bl b
  | .int b, v, p, h, r => by simp only [toPy, Option.some.injEq] at h; simp only [Rep] at r; subst h r; exact .int b
  | .str b, v, p, h, r => by simp only [toPy, Option.some.injEq] at h; simp only [Rep] at r; subst h r; exact .str b
  | .tup xs, v, p, h, r => by
    simp only [toPy, Option.map_eq_some_iff] at h
    simp only [Rep] at r
    obtain ⟨q, h1, rfl⟩ := h
    obtain ⟨a, vs, rfl, sq, rl⟩ := r
    exact .tup sq.sq (repL_dp xs vs q h1 rl)
  | .lst xs, v, p, h, r => by
    simp only [toPy, Option.map_eq_some_iff] at h
    simp only [Rep] at r
    obtain ⟨q, h1, rfl⟩ := h
    obtain ⟨a, vs, rfl, sq, rl⟩ := r
    exact .lst sq.sq (repL_dp xs vs q h1 rl)
  | .emp, v, p, h, r => by simp only [toPy] at h; cases h
  | .dii _, v, p, h, r => by simp only [toPy] at h; cases h
  | .ob u, v, p, h, r => by simp only [toPy] at h; cases h
  | .pr _ _, v, p, h, r => by simp only [toPy] at h; cases h
  | .dil _ _, v, p, h, r => by simp only [toPy] at h; cases h
  | .exn _, v, p, h, r => by simp only [toPy] at h; cases h
theorem repL_dp {K : PySem.W.Frag} {H : Hp} : ∀ (xs : List D) (vs : List V) (ps : List PyData), toPyL xs = some ps → RepL K H xs vs → DpAll K H vs ps
  | [], vs, ps, h, r => by simp only [toPyL, Option.some.injEq] at h; simp only [RepL] at r; subst h r; exact .nil
  | x :: xs, vs, ps, h, r => by
    simp only [toPyL, Option.bind_eq_some_iff, Option.map_eq_some_iff] at h
    simp only [RepL] at r
    obtain ⟨a, h1, b, h2, rfl⟩ := h
    obtain ⟨v, ws, rfl, r1, r2⟩ := r
    exact .cons (rep_dp x v a h1 r1) (repL_dp xs ws b h2 r2)
end
theorem rep1_dp {W : Wd} {H : Hp} {d : D} {v : V} {p : PyData} (h : toPy d = some p) (r : Rep1 W H d v) : Dp W.K H v p := by
  cases d with
  | lst xs =>
    simp only [toPy, Option.map_eq_some_iff] at h
    obtain ⟨q, h1, rfl⟩ := h
    obtain ⟨a, vs, rfl, sq, rl⟩ := r.sq
    exact .lst sq (repL_dp xs vs q h1 rl)
  | _ => exact rep_dp _ v p h r
mutual
theorem toPy_plain : ∀ (d : D) (p : PyData), toPy d = some p → p.plain = true
  | .non, p, h => by simp only [toPy, Option.some.injEq] at h; subst h; rfl
  | .bl b, p, h => by simp only [toPy, Option.some.injEq] at h; subst h; rfl
  | .int b, p, h => by simp only [toPy, Option.some.injEq] at h; subst h; rfl
  | .str b, p, h => by simp only [toPy, Option.some.injEq] at h; subst h; rfl
  | .tup xs, p, h => by
    simp only [toPy, Option.map_eq_some_iff] at h
    obtain ⟨q, h1, rfl⟩ := h
    rw [PyData.plain]
    exact toPyL_plain xs q h1
  | .lst xs, p, h => by
    simp only [toPy, Option.map_eq_some_iff] at h
    obtain ⟨q, h1, rfl⟩ := h
    rw [PyData.plain]
    exact toPyL_plain xs q h1
  | .emp, p, h => by simp only [toPy] at h; cases h
  | .dii _, p, h => by simp only [toPy] at h; cases h
  | .ob u, p, h => by simp only [toPy] at h; cases h
  | .pr _ _, p, h => by simp only [toPy] at h; cases h
  | .dil _ _, p, h => by simp only [toPy] at h; cases h
  | .exn _, p, h => by simp only [toPy] at h; cases h
theorem toPyL_plain : ∀ (xs : List D) (ps : List PyData), toPyL xs = some ps → PyData.plainAll ps = true
  | [], ps, h => by simp only [toPyL, Option.some.injEq] at h; subst h; rfl
  | x :: xs, ps, h => by
    simp only [toPyL, Option.bind_eq_some_iff, Option.map_eq_some_iff] at h
    obtain ⟨a, h1, b, h2, rfl⟩ := h
    rw [PyData.plainAll, toPy_plain x a h1, toPyL_plain xs b h2]
    rfl
end
/-- two data compared -/
@[simp] def onP (g : PyData → PyData → Prop) (f : PyData → PyData → Bool) (d e : D) : M D := match toPy d, toPy e with
  | some a, some b => do M.need (min a.depth b.depth ≤ 100 ∧ g a b); pure (.bl (f a b))
  | _, _ => M.fail
def rP (K : PySem.W.Frag) (g : PyData → PyData → Prop) (f : PyData → PyData → Bool) : R2 := fun x y H Q => ∃ a b, Dp K H x a ∧ Dp K H y b ∧ a.plain = true ∧ b.plain = true ∧ min a.depth b.depth ≤ 100 ∧ g a b ∧ Q (.bl (f a b)) H
section
variable {X : Cx} {W : Wd}
theorem opD_P {K : PySem.W.Frag} {g : PyData → PyData → Prop} {f : PyData → PyData → Bool} (hK : K = W.K) : OpD W (rP K g f) (onP g f) := by
  intro E x y dx dy H Q γ hg r1 r2 z
  unfold onP at z
  split at z
  · rename_i a b ha hb
    obtain ⟨⟨z1, z2⟩, z3⟩ := z
    exact ⟨a, b, by rw [hK]; exact rep1_dp ha r1, by rw [hK]; exact rep1_dp hb r2, toPy_plain _ _ ha, toPy_plain _ _ hb, z1, z2, z3 _ H (Keep.refl H) hg (by simp only [Rep])⟩
  · exact z.elim
theorem op_eqP (hu : X.A.units + 100 < cLine) : OpR X (compareOp .Eq) (rP X.K (fun _ _ => True) PyData.eqv) := by
  intro pins s σ H x y v u Q I rx ry ⟨a, b, ha, hb, pa, pb, hd, _, q⟩
  obtain ⟨as, r1⟩ := Dp.reads I a x v ha rx
  obtain ⟨bs, r2⟩ := Dp.reads I b y u hb ry
  exact SeqAt.eq_plain r1 r2 pa pb (by omega) ⟨.bl _, H, I, rfl, q⟩
theorem op_neP (hu : X.A.units + 100 < cLine) : OpR X (compareOp .NotEq) (rP X.K (fun _ _ => True) fun a b => !PyData.eqv a b) := by
  intro pins s σ H x y v u Q I rx ry ⟨a, b, ha, hb, pa, pb, hd, _, q⟩
  obtain ⟨as, r1⟩ := Dp.reads I a x v ha rx
  obtain ⟨bs, r2⟩ := Dp.reads I b y u hb ry
  exact SeqAt.ne_plain r1 r2 pa pb (by omega) ⟨.bl _, H, I, rfl, q⟩
theorem op_ltP (hu : X.A.units + 100 < cLine) : OpR X (compareOp .Lt) (rP X.K (fun a b => PySem.W.alike a b = true ∧ a ≠ .none) PySem.W.dataLt) := by
  intro pins s σ H x y v u Q I rx ry ⟨a, b, ha, hb, pa, pb, hd, ⟨ga, gb⟩, q⟩
  obtain ⟨as, r1⟩ := Dp.reads I a x v ha rx
  obtain ⟨bs, r2⟩ := Dp.reads I b y u hb ry
  exact PySem.W.lt_data r1 r2 ga gb (by omega) ⟨.bl _, H, I, rfl, q⟩
theorem op_gtP (hu : X.A.units + 100 < cLine) : OpR X (compareOp .Gt) (rP X.K (fun a b => PySem.W.alike a b = true ∧ a ≠ .none) fun a b => PySem.W.dataLt b a) := by
  intro pins s σ H x y v u Q I rx ry ⟨a, b, ha, hb, pa, pb, hd, ⟨ga, gb⟩, q⟩
  obtain ⟨as, r1⟩ := Dp.reads I a x v ha rx
  obtain ⟨bs, r2⟩ := Dp.reads I b y u hb ry
  exact PySem.W.gt_data r1 r2 ga gb (by omega) ⟨.bl _, H, I, rfl, q⟩
/-- x in c -/
@[simp] def itemsP : PyData → Option (List PyData)
  | .tuple xs => some xs
  | .list xs => some xs
  | _ => none
def inG (d c : PyData) : Prop := ∃ xs, itemsP c = some xs ∧ min (PyData.depthAll xs) d.depth ≤ 99
def inF (d c : PyData) : Bool := ((itemsP c).getD []).any fun y => PyData.eqv y d
theorem op_inP (hu : X.A.units + 100 < cLine) : OpR X (compareOp .In) (rP X.K inG inF) := by
  intro pins s σ H x y v u Q I rx ry ⟨a, b, ha, hb, pa, pb, hd, ⟨xs, gx, gd⟩, q⟩
  obtain ⟨as, r1⟩ := Dp.reads I a x v ha rx
  obtain ⟨bs, r2⟩ := Dp.reads I b y u hb ry
  unfold inF at q
  rw [gx] at q
  cases b <;> simp only [itemsP] at gx <;> first | cases gx | skip
  · exact SeqAt.in_list_data r2 r1 pb pa (by omega) ⟨.bl _, H, I, rfl, q⟩
  · exact SeqAt.in_tuple_data r2 r1 pb pa (by omega) ⟨.bl _, H, I, rfl, q⟩
theorem op_notInP (hu : X.A.units + 100 < cLine) : OpR X (compareOp .NotIn) (rP X.K inG fun a b => !inF a b) := by
  intro pins s σ H x y v u Q I rx ry ⟨a, b, ha, hb, pa, pb, hd, ⟨xs, gx, gd⟩, q⟩
  obtain ⟨as, r1⟩ := Dp.reads I a x v ha rx
  obtain ⟨bs, r2⟩ := Dp.reads I b y u hb ry
  simp only [inF, gx] at q
  cases b <;> simp only [itemsP] at gx <;> first | cases gx | skip
  · exact SeqAt.notIn_list_data r2 r1 pb pa (by omega) ⟨.bl _, H, I, rfl, q⟩
  · exact SeqAt.notIn_tuple_data r2 r1 pb pa (by omega) ⟨.bl _, H, I, rfl, q⟩
end
end Dl

set_option maxRecDepth 100000
set_option maxHeartbeats 4100000
/-! Tuples made by t[lo:hi], t + u, t * k, tuple(l): each without attributes of its own. -/
namespace Dl
open L2 PySem PySem.Spec PyProof.Rows HT
/-- what is known where a new tuple of vs has been made -/
def Made (H : Hp) (Q : VK) (vs : List V) : Prop := ∀ p, H p = none → ∀ o : Obj, o.dict = none → Q (.ref p) (upd H p (.frz o (.tup vs)))
section
variable {X : Cx}
theorem made {pins : List (Addr × Obj)} {σ : L2.St} {H : Hp} {s : Shared} {Q : VK} {vs : List V} {its : List Value} {t' : Nat} (I : L2.Inv X pins σ H s) (r : Vals vs its) (few : vs.length ≤ sizeLine) (q : Made H Q vs) :
    EP X pins σ Q (.ref s.heap.objs.size) { s with heap := s.heap.push { cls := .type "tuple", data := .seq its.toArray }, toks := s.toks } :=
  ⟨.ref s.heap.objs.size, _, I.laid (t' := s.toks) (o := .frz _ (.tup vs)) (fun _ _ y => Heap.get?_push_of_some _ y) (Nat.le_refl _) ⟨Heap.get?_push_size _ rfl, few, its, r, _, Heap.get?_push_size _ rfl, rfl, _, rfl⟩, rfl, q _ (I.hok.fresh (Nat.le_refl _)) _ rfl⟩
/-- t[lo:hi] -/
def rSlX (K : PySem.W.Frag) : V → Option Int → Option Int → Hp → VK → Prop := fun x lo hi H Q => ∃ a xs, x = .ref a ∧ SqT K H a xs ∧
  ((sIx xs.length 0 lo = 0 ∧ sIx xs.length xs.length hi = xs.length) → Q (.ref a) H) ∧ (¬ (sIx xs.length 0 lo = 0 ∧ sIx xs.length xs.length hi = xs.length) → Made H Q (cutV xs lo hi))
theorem sl_tupX : SlR X (rSlX X.K) := fun pins s σ H x v vl vu lo hi sl Q I rx hs pl pu ⟨a, xs, ex, hx, qw, qn⟩ => by
  subst ex
  cases rx
  obtain ⟨its, r, T, few⟩ := I.tuple hx
  have len : its.toArray.size = xs.length := r.length.symm
  refine ⟨"tuple", _, slot_tuple_getitem.lookup, T.typeIs, ?_⟩
  by_cases w : sIx xs.length 0 lo = 0 ∧ sIx xs.length xs.length hi = xs.length
  · exact getItem_tuple_whole T hs pl pu (len ▸ w) ⟨.ref a, H, I, rfl, qw w⟩
  · refine getItem_tuple_cut T hs pl pu (len ▸ w) ?_ (len ▸ few)
    rw [len]
    exact made (t' := 0) I ((r.drop _).take _) (Nat.le_trans (cutV_length xs lo hi) few) (qn w)
/-- t + u -/
def rCatX (K : PySem.W.Frag) : R2 := fun x y H Q => ∃ a b xs ys, x = .ref a ∧ y = .ref b ∧ SqT K H a xs ∧ SqT K H b ys ∧ xs.length + ys.length ≤ sizeLine ∧
  (xs = [] → Q (.ref b) H) ∧ (xs ≠ [] → ys = [] → Q (.ref a) H) ∧ (xs ≠ [] → ys ≠ [] → Made H Q (xs ++ ys))
theorem op_catX : OpR X (binaryOp .Add) (rCatX X.K) := fun pins s σ H x y v u Q I rx ry ⟨a, b, xs, ys, ex, ey, ha, hb, few, q0, q1, q2⟩ => by
  subst ex ey
  cases rx
  cases ry
  obtain ⟨us, ru, tu, _⟩ := I.tuple ha
  obtain ⟨ws, rw_, tw, _⟩ := I.tuple hb
  by_cases e : xs = []
  · subst e
    cases ru
    exact cat_tup0 tu tw ⟨.ref b, H, I, rfl, q0 rfl⟩
  · refine cat_tup tu tw (fun z => e (ru.nil_iff.mp z)) (fun z => ⟨.ref a, H, I, rfl, q1 e (rw_.nil_iff.mp z)⟩) (fun z => ?_) (by rw [← ru.length, ← rw_.length]; exact few)
    exact made (t' := 0) I (ru.append rw_) (by rw [List.length_append]; exact few) (q2 e fun n => z (rw_.nil_iff.mpr n))
/-- tuple(l), tuple(t) -/
def kTupX (K : PySem.W.Frag) (x : V) (H : Hp) (Q : VK) : Prop := (∃ p xs, x = .ref p ∧ SqL K H p xs ∧ Made H Q xs) ∨ ∃ p xs, x = .ref p ∧ SqT K H p xs ∧ Q (.ref p) H
theorem call_tupX (pins : List (Addr × Obj)) (s : Shared) (σ : L2.St) (H : Hp) (x : V) (v : Value) (Q : VK) (I : L2.Inv X pins σ H s) (r : RelV x v) : kTupX X.K x H Q → wpAny (model X.prog X.w) X.A (call (.type "tuple") [v]) (EP X pins σ Q) X.xe s
  | .inl ⟨p, xs, ex, hl, q⟩ => by
    subst ex
    cases r
    obtain ⟨its, rv, pl, few⟩ := I.list hl
    exact call_tuple_list pl.isList (fun h' grown => made (t' := 0) (I.kept (h' := h') (t' := s.toks) grown) rv few q) (by rw [List.size_toArray, ← rv.length]; exact few)
  | .inr ⟨p, xs, ex, ht, q⟩ => by
    subst ex
    cases r
    obtain ⟨its, rv, pt, _⟩ := I.tuple ht
    exact call_tuple_tup pt ⟨.ref p, H, I, rfl, q⟩
theorem pe_tupOfX {a : Expr} {ta : TE} {p pos : Pos} (hg : Gl X "tuple") (hm : X.mg "tuple" = none) (ha : PE X a ta) (na : starEach [a] X.env = (false, eval a X.env) :: starEach [] X.env := by rfl) : PE X (.Call (.Name "tuple" p) [a] [] pos) (fun σ H Q => ta σ H fun x H1 => kTupX X.K x H1 Q) :=
  ⟨fun pins s σ H Q I h => Call_ (ld_blt I hg hm boot_tuple (callWith_type1 (one_arg ha I h (fun v s2 x H2 I2 r q => call_tupX pins s2 σ H2 x v Q I2 r q) na) na))⟩
/-- t * k -/
def rRepX (K : PySem.W.Frag) : R2 := fun x y H Q => ∃ l k xs, x = .ref l ∧ y = .int k ∧ SqT K H l xs ∧ xs ≠ [] ∧ 2 ≤ k ∧ k ≤ 1000 ∧ xs.length ≤ 1000 ∧ Made H Q (List.replicate k.toNat xs).flatten
theorem op_repX : OpR X (binaryOp .Mult) (rRepX X.K) := fun pins s σ H x y v u Q I rx ry ⟨l, k, xs, ex, ey, ht, some_, k2, kM, xM, q⟩ => by
  subst ex ey
  cases rx
  obtain ⟨tk, eu⟩ := ry
  subst eu
  obtain ⟨its, r, ⟨⟨cl, di, da, sl⟩, at_, e1, n, e2⟩, _⟩ := I.tuple ht
  dsimp only at e1 e2
  subst e1 e2
  have len := r.length
  have sz : its.toArray.size = xs.length := len.symm
  have full : its.toArray.isEmpty = false := by
    cases its with
    | nil => exact absurd (List.eq_nil_of_length_eq_zero len) some_
    | cons _ _ => rfl
  have bound : k.toNat * xs.length ≤ 1000 * 1000 := Nat.mul_le_mul (by omega) xM
  have prod : ((its.toArray.size : Nat) : Int) * k ≤ 1000 * 1000 := by
    rw [sz]
    exact Int.mul_le_mul (by omega) kM (by omega) (by omega)
  have room : (List.replicate k.toNat its).flatten.toArray.size ≤ sizeLine := by
    rw [List.size_toArray, lm_len_rep_flat, ← len, sizeLine_eq]
    omega
  have b0 : (decide (k < -(2 ^ 63)) || decide (k ≥ 2 ^ 63)) = false := by simp only [Bool.or_eq_false_iff, decide_eq_false_iff_not]; omega
  have b1 : (its.toArray.isEmpty || k == 1) = false := by
    rw [full]
    simp only [Bool.false_or, beq_eq_false_iff_ne]
    omega
  have b2 : (decide (k ≤ 0) || its.toArray.isEmpty) = false := by
    rw [full]
    simp only [Bool.or_false, decide_eq_false_iff_not]
    omega
  have b3 : Builtin.Tuple.tupleTooMany (((its.toArray.size : Nat) : Int) * k) = false := by
    simp only [Builtin.Tuple.tupleTooMany, sizeLine_eq, decide_eq_false_iff_not]
    omega
  have go := tuple_mulW l its.toArray n di sl k tk b0 b1 b2 (by omega) b3 (size_rep its k.toNat ▸ room)
  have ty : s.TypeIs (.ref l) "tuple" := ⟨_, at_, rfl⟩
  refine wpAny_binaryOp_repeat_ref (T := "tuple") (U := "int") (by decide) ty (fun s' => typeIs_int s' k tk) noFill_tuple_mul F.fills_int_mul F.slot_int_rmul repeat_tuple F.slot_int_index.lookup ?_
  refine call_meets F.slot_int_rmul (typeIs_int s k tk) F.entry_int_rmul (F.args_int_rmul_2 _ _) (int_rmul_tuple k tk l its.toArray n di sl) ⟨at_, rfl, ty, ?_⟩
  refine call_meets F.slot_tuple_mul ty F.entry_tuple_mul (F.args_tuple_mul_2 _ _) go ⟨at_, ?_⟩
  rw [size_rep]
  exact made (t' := 0) I (r.rep k.toNat) (by rw [lm_len_rep_flat, sizeLine_eq]; omega) q
end
end Dl

set_option maxRecDepth 100000
set_option maxHeartbeats 4100000
namespace Dl
open L2 PySem PySem.Spec PyProof.Rows

section
variable {X : Cx} {W : Wd} {H0 : Hp} {E : XK} {pos p p2 : Pos} {a b c : Expr} {ma mb mc : DE → M D}
/-! ### slices -/
/-- a new list is locked, anything else stays -/
theorem pe_lockC {e : Expr} {t : TE} (h : PE X e t) : PE X e (fun σ H Q => t σ H fun v H' => Q v H' ∨ ∃ a u, v = .ref a ∧ H' a = some u ∧ Mut (some u) ∧ ∀ o, Q v (upd H' a (.frz o u))) :=
  ⟨fun pins s σ H Q I z => thn (h.run pins s σ H _ I z) fun v s1 ⟨x, H1, I1, r1, q⟩ => by
    rcases q with q | ⟨a, u, hx, ha, mu, q⟩
    · exact ⟨x, _, I1, r1, q⟩
    · obtain ⟨o, I2⟩ := I1.lock ha mu
      exact ⟨x, _, I2, r1, q o⟩⟩
theorem SlR.or {r r' : V → Option Int → Option Int → Hp → VK → Prop} (h : SlR X r) (h' : SlR X r') : SlR X (fun x l u H Q => r x l u H Q ∨ r' x l u H Q) := by
  intro _ _ _ _ _ _ _ _ _ _ _ _ I rx hs pl pu q
  exact q.elim (h _ _ _ _ _ _ _ _ _ _ _ _ I rx hs pl pu) (h' _ _ _ _ _ _ _ _ _ _ _ _ I rx hs pl pu)
def cutD (xs : List D) (lo hi : Option Int) : List D := (xs.drop (HT.sIx xs.length 0 lo)).take (HT.sIx xs.length xs.length hi - HT.sIx xs.length 0 lo)
theorem RepL.cut {K : PySem.W.Frag} {H : Hp} {xs : List D} {vs : List V} (r : RepL K H xs vs) (lo hi : Option Int) : RepL K H (cutD xs lo hi) (cutV vs lo hi) := by
  unfold cutD cutV
  rw [r.len]
  exact (r.drop _).take _
@[simp] def sliceD (lo hi : Option Int) : D → M D
  | .tup xs => pure (.tup (cutD xs lo hi))
  | .lst xs => pure (.lst (cutD xs lo hi))
  | _ => M.fail
@[simp] def partM (m : Option (DE → M D)) (e : DE) : M (Option Int) := match m with
  | none => pure none
  | some m => do
    let d ← m e
    match d with
    | .int i => pure (some i)
    | _ => M.fail
def liftP (W : Wd) (H0 : Hp) (E : XK) (m : Option (DE → M D)) : TO := fun σ H Q => ∃ e, StOk W H0 H σ e ∧ Keep W H0 H ∧ ∃ γ, W.G γ H ∧
  (partM m e).run γ (fun o γ' => ∀ H', Keep W H H' → W.G γ' H' → Q o H') (XD W H0 E)
theorem PO.imp {e : Option Expr} {t t' : TO} (h : PO X e t) (q : ∀ σ H Q, t' σ H Q → t σ H Q) : PO X e t' := ⟨fun pins s σ H Q I z => h.run pins s σ H Q I (q σ H Q z)⟩
theorem dpo_none : PO X none (liftP W H0 E none) := PO.imp po_none fun σ H Q ⟨e, st, k0, _, g, q⟩ => q H (Keep.refl H) g
theorem dpo_some (ha : PE X a (lift1 W H0 E ma)) : PO X (some a) (liftP W H0 E (some ma)) := PO.imp (po_some ha) fun σ H Q ⟨e, st, k0, _, g, q⟩ => ⟨e, st, k0, _, g, (ma e).mono (fun d _ z v H' k g' r => by
  cases d <;> first | exact z.elim | skip
  rename_i i
  simp only [Rep1, Rep] at r
  exact ⟨i, r, z H' k g'⟩) (fun _ _ z => z) q⟩
theorem keep_new2 {H H1 H' : Hp} {γ : Gh} (g : W.G γ H) (k : Keep W H H1) {p : Addr} (hp : H1 p = none) {o : HO} : Keep W H (upd H1 p o) := k.trans (Keep.new hp)
theorem dp_slice {lo hi : Option Expr} {ml mh : Option (DE → M D)} (hK : X.K = W.K) (ha : PE X a (lift1 W H0 E ma)) (hl : PO X lo (liftP W H0 E ml)) (hh : PO X hi (liftP W H0 E mh)) :
    PE X (.Subscript a (.Slice lo hi none p2) pos) (lift W H0 E fun e => do let x ← ma e; let l ← partM ml e; let h ← partM mh e; sliceD l h x) :=
  PE.imp (pe_lockC (pe_slice (SlR.or sl_tupX sl_list) ha hl hh)) fun σ H Q ⟨e, st, k0, _, g, q⟩ => by
    refine ⟨e, st, k0, _, g, (ma e).mono (fun d _ z v H1 k1 g1 r1 => ?_) (fun _ _ z => z) q⟩
    refine ⟨e, st.keep g k1, k0.trans k1, _, g1, (partM ml e).mono (fun l _ z2 H2 k2 g2 => ?_) (fun _ _ z => z) z⟩
    refine ⟨e, (st.keep g k1).keep g1 k2, (k0.trans k1).trans k2, _, g2, (partM mh e).mono (fun h _ z3 H3 k3 g3 => ?_) (fun _ _ z => z) z2⟩
    have kk : Keep W H H3 := (k1.trans k2).trans k3
    have r3 := r1.keep g1 (k2.trans k3)
    cases d <;> first | exact z3.elim | skip
    · simp only [Rep1, Rep] at r3
      obtain ⟨t, vs, rfl, sq, rl⟩ := r3
      refine .inl ⟨t, vs, rfl, by rw [hK]; exact sq.sq, fun hw => ?_, fun hw p hp o ho => ?_⟩
      · refine .inl (z3 _ H3 kk g3 ?_)
        simp only [Rep]
        refine ⟨t, vs, rfl, sq, ?_⟩
        have e1 : cutV vs l h = vs := by unfold cutV; rw [hw.1, hw.2]; simp
        have := rl.cut l h
        rw [e1] at this
        exact this
      · refine .inl (z3 _ _ (kk.trans (Keep.new hp)) (gnew g3 hp) ?_)
        simp only [Rep]
        exact ⟨p, _, rfl, ⟨o, upd_same, ho⟩, (rl.cut l h).keep g3 (Keep.new hp)⟩
    · obtain ⟨t, vs, rfl, sq, rl⟩ := r3.sq
      refine .inr ⟨t, vs, rfl, by rw [hK]; exact sq, fun p hp => .inr ⟨p, _, rfl, upd_same, True.intro, fun o => z3 _ _ ?_ ?_ ?_⟩⟩
      · rw [upd_upd]; exact kk.trans (Keep.new hp)
      · rw [upd_upd]; exact gnew g3 hp
      · rw [upd_upd]
        simp only [Rep]
        exact ⟨p, _, rfl, ⟨o, upd_same⟩, (rl.cut l h).keep g3 (Keep.new hp)⟩

/-! ### + and * -/
theorem OpR.or {f : Value → Value → Sem Value} {r1 r2 : R2} (h1 : OpR X f r1) (h2 : OpR X f r2) : OpR X f fun x y H Q => r1 x y H Q ∨ r2 x y H Q := fun _ _ _ _ _ _ _ _ _ I rx ry q =>
  q.elim (h1 _ _ _ _ _ _ _ _ _ I rx ry) (h2 _ _ _ _ _ _ _ _ _ I rx ry)
/-- two lists joined: a new one, locked -/
def LsT (H : Hp) (a : Addr) (xs : List V) : Prop := H a = some (.lst xs) ∨ ∃ o, H a = some (.frz o (.lst xs))
theorem LsT.get {pins : List (Addr × Obj)} {s : Shared} {σ : L2.St} {H : Hp} {l : Addr} {xs : List V} (I : L2.Inv X pins σ H s) (h : LsT H l xs) : xs.length ≤ sizeLine ∧ ∃ (its : List Value) (n : Nat), Vals xs its ∧ s.heap.get? l = some { cls := .type "list", data := .seq its.toArray n } := by
  rcases h with h | ⟨o, h⟩
  · exact I.hok l _ h
  · obtain ⟨_, q⟩ := I.hok l _ h
    exact q
theorem Rep1.lsT {H : Hp} {xs : List D} {v : V} (h : Rep1 W H (.lst xs) v) : ∃ a vs, v = .ref a ∧ LsT H a vs ∧ RepL W.K H xs vs := by
  obtain ⟨a, vs, e, f, r⟩ := h
  refine ⟨a, vs, e, ?_, r⟩
  rcases f with ⟨o, f⟩ | ⟨f, _⟩
  · exact .inr ⟨o, f⟩
  · exact .inl f
def rCatF : R2 := fun x y H Q => ∃ l b xs zs, x = .ref l ∧ y = .ref b ∧ LsT H l xs ∧ LsT H b zs ∧ xs.length + zs.length ≤ sizeLine ∧ ∀ p o, H p = none → Q (.ref p) (upd H p (.frz o (.lst (xs ++ zs))))
theorem op_catF : OpR X (binaryOp .Add) rCatF := by
  intro _ s σ H _ _ _ _ Q I rx ry ⟨l, b, xs, zs, ex, ey, hH, hB, room, q⟩
  subst ex ey
  cases rx
  cases ry
  obtain ⟨hl, its, n, r, e⟩ := hH.get I
  obtain ⟨hl2, its2, n2, r2, e2⟩ := hB.get I
  have h1 := r.length
  have h2 := r2.length
  refine PySem.P.add_list e e2 ?_ (by simp only [List.size_toArray]; omega)
  have ea : its.toArray ++ its2.toArray = (its ++ its2).toArray := by
    simp
  rw [ea]
  have I2 := I.lnew (t' := s.toks) (r.append r2) (by rw [List.length_append]; omega)
  obtain ⟨o, I3⟩ := I2.lock upd_same True.intro
  rw [upd_upd] at I3
  exact ⟨.ref _, _, I3, rfl, q _ o I.fresh⟩
@[simp] def addD : D → D → M D
  | .int i, .int j => pure (.int (i + j))
  | .tup xs, .tup ys => do M.need (xs.length + ys.length ≤ sizeLine); pure (.tup (xs ++ ys))
  | .lst xs, .lst ys => do M.need (xs.length + ys.length ≤ sizeLine); pure (.lst (xs ++ ys))
  | _, _ => M.fail
theorem op_addU : OpR X (binaryOp .Add) (fun x y H Q => rI0 (fun i j => V.int (i + j)) x y H Q ∨ (fun x y H Q => rCatX X.K x y H Q ∨ rCatF x y H Q) x y H Q) := OpR.or op_add (OpR.or op_catX op_catF)
theorem opD_addU (K : PySem.W.Frag) (hK : K = W.K) : OpD W (fun x y H Q => rI0 (fun i j => V.int (i + j)) x y H Q ∨ (fun x y H Q => rCatX K x y H Q ∨ rCatF x y H Q) x y H Q) addD := by
  intro E x y dx dy H Q γ hg r1 r2 z
  unfold addD at z
  split at z
  · rename_i i j
    simp only [Rep1, Rep] at r1 r2
    exact .inl ⟨i, j, r1, r2, z _ H (Keep.refl H) hg (by simp only [Rep])⟩
  · rename_i xs ys
    simp only [Rep1, Rep] at r1 r2
    obtain ⟨a, vs, rfl, sa, ra⟩ := r1
    obtain ⟨b, us, rfl, sb, rb⟩ := r2
    obtain ⟨z1, z2⟩ := z
    have z2 : ∀ v H', Keep W H H' → W.G γ H' → Rep W.K H' (.tup (xs ++ ys)) v → Q v H' := z2
    refine .inr (.inl ⟨a, b, vs, us, rfl, rfl, by rw [hK]; exact sa.sq, by rw [hK]; exact sb.sq, by rw [ra.len, rb.len]; exact z1, fun h => ?_, fun h h' => ?_, fun h h' p hp o ho => ?_⟩)
    · refine z2 _ H (Keep.refl H) hg ?_
      simp only [Rep]
      refine ⟨b, us, rfl, sb, ?_⟩
      have := ra.app rb
      rw [h] at this
      exact this
    · refine z2 _ H (Keep.refl H) hg ?_
      simp only [Rep]
      refine ⟨a, vs, rfl, sa, ?_⟩
      have := ra.app rb
      rw [h', List.append_nil] at this
      exact this
    · refine z2 _ _ (Keep.new hp) (gnew hg hp) ?_
      simp only [Rep]
      exact ⟨p, _, rfl, ⟨o, upd_same, ho⟩, (ra.app rb).keep hg (Keep.new hp)⟩
  · rename_i xs ys
    obtain ⟨a, vs, rfl, sa, ra⟩ := r1.lsT
    obtain ⟨b, us, rfl, sb, rb⟩ := r2.lsT
    obtain ⟨z1, z2⟩ := z
    have z2 : ∀ v H', Keep W H H' → W.G γ H' → Rep W.K H' (.lst (xs ++ ys)) v → Q v H' := z2
    refine .inr (.inr ⟨a, b, vs, us, rfl, rfl, sa, sb, by rw [ra.len, rb.len]; exact z1, fun p o hp => ?_⟩)
    refine z2 _ _ (Keep.new hp) (gnew hg hp) ?_
    simp only [Rep]
    exact ⟨p, _, rfl, ⟨o, upd_same⟩, (ra.app rb).keep hg (Keep.new hp)⟩
  · exact z.elim
/-- ints multiplied, divided -/
@[simp] def onIg (c : Int → Int → Prop) (g : Int → Int → D) : D → D → M D
  | .int i, .int j => do M.need (c i j); pure (g i j)
  | _, _ => M.fail
theorem opD_Ig {c : Int → Int → Prop} {g : Int → Int → V} {f : Int → Int → D} (hr : ∀ i j H, Rep W.K H (f i j) (g i j)) : OpD W (rI c g) (onIg c f) := by
  intro E x y dx dy H Q γ hg r1 r2 z
  unfold onIg at z
  split at z
  · rename_i i j
    obtain ⟨z1, z2⟩ := z
    simp only [Rep1, Rep] at r1 r2
    exact ⟨i, j, r1, r2, z1, z2 _ H (Keep.refl H) hg (hr i j H)⟩
  · exact z.elim
end
section
variable {X : Cx} {W : Wd} {H0 : Hp} {E : XK} {pos : Pos} {a b c : Expr} {ma mb mc : DE → M D}
theorem dt_chain {op op' : CmpOp} {g g' : Int → Int → Bool} (ho : OpR X (compareOp op) (rI0 fun i j => V.bl (g i j))) (ho' : OpR X (compareOp op') (rI0 fun i j => V.bl (g' i j)))
    (ha : PE X a (lift1 W H0 E ma)) (hb : PE X b (lift1 W H0 E mb)) (hc : PE X c (lift1 W H0 E mc)) (hm : lastMarks [op, op'] [b, c] = false := by with_unfolding_all rfl) :
    PT X (.Compare a [op, op'] [b, c] pos) (liftT W H0 E fun e => do let x ← chainM g g' ma mb mc e; asB x) := by
  refine PT.imp (pt_chain ho ho' ha hb hc hm) fun σ H Q ⟨e, st, k0, _, g0, q⟩ => ?_
  refine ⟨e, st, k0, _, g0, (ma e).mono (fun dx _ z v1 H1 k1 g1 r1 => ?_) (fun _ _ z => z) q⟩
  refine ⟨e, st.keep g0 k1, k0.trans k1, _, g1, (mb e).mono (fun dy _ z2 v2 H2 k2 g2 r2 => ?_) (fun _ _ z => z) z⟩
  simp only at z2
  split at z2
  · rename_i i j
    simp only [Rep1, Rep] at r1 r2
    refine ⟨i, j, r1, r2, g i j, rfl, ?_⟩
    cases hb : g i j with
    | false =>
      rw [hb] at z2
      simp only [Bool.false_eq_true, if_false] at z2 ⊢
      first
        | exact z2 H2 (k1.trans k2) g2
        | exact ⟨_, rfl, z2 H2 (k1.trans k2) g2⟩
    | true =>
      rw [hb] at z2
      simp only [if_true] at z2 ⊢
      refine ⟨e, (st.keep g0 k1).keep g1 k2, (k0.trans k1).trans k2, _, g2, (mc e).mono (fun dz _ z3 v3 H3 k3 g3 r3 => ?_) (fun _ _ z => z) z2⟩
      simp only at z3
      unfold onI at z3
      split at z3
      · rename_i j' l h1
        cases h1
        simp only [Rep1, Rep] at r3
        exact ⟨_, l, r2, r3, _, rfl, z3 H3 ((k1.trans k2).trans k3) g3⟩
      · exact z3.elim
  · exact z2.elim
end
/-! ### a comprehension of two clauses -/
/-- the slots without one's own lists -/
@[simp] def shO : Option SD → Option SD
  | some (.ow _) => none
  | x => x
@[simp] def shE (e : DE) : DE := e.map shO
theorem shE_at {e : DE} {i : Nat} {x : SD} (h : (shE e)[i]? = some (some x)) : e[i]? = some (some x) ∧ ∀ o, x ≠ .ow o := by
  unfold shE at h
  rw [List.getElem?_map] at h
  cases q : (e[i]? : Option (Option SD)) with
  | none => rw [q] at h; cases h
  | some o =>
    rw [q] at h
    have h : some (shO o) = some (some x) := h
    cases o with
    | none => cases h
    | some s =>
      cases s with
      | sh d => cases h; exact ⟨rfl, fun xs z => nomatch z⟩
      | ow o => cases h
theorem StOk.shE {W : Wd} {H0 H H' : Hp} {σ : L2.St} {e : DE} (st : StOk W H0 H σ e) (k : KeepF H H') : StOk W H0 H' σ (shE e) where
  len := by unfold Dl.shE; rw [List.length_map]; exact st.len
  sh := fun i d q => by
    obtain ⟨v, h1, h2⟩ := st.sh i d (shE_at q).1
    exact ⟨v, h1, Rep.keepF k _ _ h2⟩
  owo := fun i o q => ((shE_at q).2 o rfl).elim
  diso := fun i j o o' a q => ((shE_at q).2 o rfl).elim
theorem shE_shE (e : DE) : shE (shE e) = shE e := by
  unfold shE
  rw [List.map_map]
  congr 1
  funext o
  cases o with
  | none => rfl
  | some s => cases s <;> rfl
/-- n: how many items are made so far -/
def comp2M (gd : D → DE → M DE) (t : DE → M Bool) (mi1 : DE → M (List D)) (gd1 : D → DE → M DE) (t1 : DE → M Bool) (f : DE → M D) (vs1 : List Nat) (e : DE) : Nat → List D → M (List D)
  | _, [] => pure []
  | n, x :: xs => do
    let e' ← gd x e
    let b ← M.noX (t e')
    if b then (do
      let ys ← M.noX (mi1 (shE e'))
      M.need (n + ys.length ≤ sizeLine)
      let zs ← compM gd1 t1 f (wipeE (shE e') vs1) ys
      let r ← comp2M gd t mi1 gd1 t1 f vs1 e (n + zs.length) xs
      pure (zs ++ r)) else comp2M gd t mi1 gd1 t1 f vs1 e n xs
section
variable {X : Cx} {W : Wd} {H0 : Hp} {E : XK} {pos : Pos} {elt tg iter tg1 iter1 : Expr} {ifs ifs1 : List Expr} {scope : Scope} {own : List (Str × Nat)} {mi mi1 : DE → M (List D)} {g g1 : TG} {gd gd1 : D → DE → M DE} {t t1 : DE → M Bool} {f : DE → M D} {vs1 : List Nat}
def Post2 (W : Wd) (H : Hp) (Q : VK) (ad ys : List D) (γ' : Gh) : Prop := ∀ a vs H', H a = none → Keep W H H' → W.G γ' H' → H' a = some (.lst vs) → RepL W.K H' (ad ++ ys) vs → ¬ W.S a → Q (.ref a) H'
theorem comp2_lift {σ : L2.St} {H : Hp} {Q : VK} {vs : List Nat} (hg : GD W g gd) (hw : GW g vs) (hg1 : GD W g1 gd1) (hw1 : GW g1 vs1)
    (h : liftO W H0 E (fun e => do let xs ← mi e; comp2M gd t mi1 gd1 t1 f vs1 (wipeE e vs) 0 xs) σ H Q) :
    tLc2 (liftI W H0 E mi) g (liftT W H0 E0 t) (liftF W H0 E0 mi1) g1 (liftT W H0 E0 t1) (lift W H0 E0 f) vs vs1 σ H Q := by
  obtain ⟨e, st, k0, _, g0, q⟩ := h
  refine ⟨e, st, k0, _, g0, (mi e).mono (fun xs γ1 z J H1 k1 g1' wk A hA => ?_) (fun _ _ z => z) q⟩
  have z : (comp2M gd t mi1 gd1 t1 f vs1 (wipeE e vs) 0 xs).run γ1 (Post2 W H Q []) (XD W H0 E) := z
  have nA : H A = none := k1.freed hA g0 g1'
  have sA : ¬ W.S A := nS g1' hA
  refine ⟨fun i m H' => m = xs.length - i ∧ i ≤ xs.length ∧ Keep W H1 H' ∧ ∃ γ, W.G γ H' ∧ ∃ acc ad, H' A = some (.lst acc) ∧ RepL W.K H' ad acc ∧
    (comp2M gd t mi1 gd1 t1 f vs1 (wipeE e vs) ad.length (xs.drop i)).run γ (Post2 W H Q ad) (XD W H0 E),
    ⟨xs.length, by simp, Nat.zero_le _, Keep.new hA, _, gnew g1' hA, [], [], upd_same, by simp only [RepL], by rw [List.drop_zero]; exact z⟩, ?_⟩
  rintro i m H' ⟨rfl, hi, k3, γ3, g3, acc, ad, hacc, racc, z⟩
  obtain ⟨w1, w2, w3⟩ := wk _ H' k3 g3
  by_cases hlt : i < xs.length
  · refine .inr ⟨w1 i hlt, fun H'' => Keep W H1 H'' ∧ ∃ γ, W.G γ H'' ∧ ∃ acc ad, H'' A = some (.lst acc) ∧ RepL W.K H'' ad acc ∧
      (comp2M gd t mi1 gd1 t1 f vs1 (wipeE e vs) ad.length (xs.drop (i + 1))).run γ (Post2 W H Q ad) (XD W H0 E),
      fun H'' ⟨q1, q2, q3⟩ => ⟨xs.length - (i + 1), by omega, rfl, hlt, q1, q2, q3⟩, fun x Hx y => ?_⟩
    obtain ⟨k4, g4, d, hd, rd⟩ := w3 i x Hx hlt y
    have kx : Keep W H Hx := (k1.trans k3).trans k4
    rw [drop_cons hd] at z
    simp only [comp2M, M.run_bind, M.run_noX] at z
    refine hw x _ Hx _ (hg H0 E x d _ _ Hx _ _ g4 ((st.keep g0 kx).wipe vs) rd ((gd d (wipeE e vs)).mono (fun e' _ z2 g4' σ' st' => ?_) (fun _ _ z => z) z))
    refine ⟨e', st', k0.trans kx, _, g4', (t e').mono (fun b _ z3 H5 k5 g5 => ?_) (fun _ _ z => z.elim) z2⟩
    have h5 : Keep W H' H5 := k4.trans k5
    cases b with
    | false =>
      simp only [Bool.false_eq_true, if_false] at z3 ⊢
      exact ⟨k3.trans h5, _, g5, acc, ad, h5 A _ hacc sA, racc.keep g3 h5, z3⟩
    | true =>
      simp only [if_true, M.run_bind, M.run_noX, M.run_need] at z3 ⊢
      refine ⟨shE e', st'.shE (k5.toF g4), (k0.trans kx).trans k5, _, g5, (mi1 (shE e')).mono (fun ys _ z4 J1 H6 k6 g6 wk1 => ?_) (fun _ _ z => z.elim) z3⟩
      obtain ⟨zl, z4⟩ := z4
      have h6 : Keep W H' H6 := h5.trans k6
      have st6 : StOk W H0 H6 σ' (shE e') := st'.shE ((k5.trans k6).toF g4)
      refine ⟨fun j k H7 => k = ys.length - j ∧ j ≤ ys.length ∧ Keep W H1 H7 ∧ KeepF H6 H7 ∧ ∃ γ, W.G γ H7 ∧ ∃ acc' ad', H7 A = some (.lst acc') ∧ RepL W.K H7 (ad ++ ad') acc' ∧ ad'.length ≤ j ∧
        (compM gd1 t1 f (wipeE (shE e') vs1) (ys.drop j)).run γ (fun zs γ' => (comp2M gd t mi1 gd1 t1 f vs1 (wipeE e vs) (ad.length + (ad' ++ zs).length) (xs.drop (i + 1))).run γ' (fun r γ' => Post2 W H Q ad ((ad' ++ zs) ++ r) γ') (XD W H0 E)) (XD W H0 E),
        ⟨ys.length, by simp, Nat.zero_le _, k3.trans h6, KeepF.refl _, _, g6, acc, [], h6 A _ hacc sA, by rw [List.append_nil]; exact racc.keep g3 h6, Nat.zero_le _, by rw [List.drop_zero]; exact z4⟩, ?_⟩
      rintro j k H7 ⟨rfl, hj, k7, f7, γ7, g7, acc', ad', hacc', racc', hl', z5⟩
      obtain ⟨v1, v2, v3⟩ := wk1 _ H7 f7 g7
      by_cases hlt' : j < ys.length
      · refine .inr ⟨v1 j hlt', fun H8 => Keep W H1 H8 ∧ KeepF H6 H8 ∧ ∃ γ, W.G γ H8 ∧ ∃ acc' ad', H8 A = some (.lst acc') ∧ RepL W.K H8 (ad ++ ad') acc' ∧ ad'.length ≤ j + 1 ∧
          (compM gd1 t1 f (wipeE (shE e') vs1) (ys.drop (j + 1))).run γ (fun zs γ' => (comp2M gd t mi1 gd1 t1 f vs1 (wipeE e vs) (ad.length + (ad' ++ zs).length) (xs.drop (i + 1))).run γ' (fun r γ' => Post2 W H Q ad ((ad' ++ zs) ++ r) γ') (XD W H0 E)) (XD W H0 E),
          fun H8 ⟨q1, q2⟩ => ⟨ys.length - (j + 1), by omega, rfl, hlt', q1, q2⟩, fun x1 Hy y1 => ?_⟩
        obtain ⟨k8, g8, d1, hd1, rd1⟩ := v3 j x1 Hy hlt' y1
        rw [drop_cons hd1] at z5
        simp only [compM, M.run_bind, M.run_noX] at z5
        have st8 : StOk W H0 Hy σ' (shE e') := by
          have := st6.shE (f7.trans (k8.toF g7))
          rw [shE_shE] at this
          exact this
        have ky : Keep W H0 Hy := (((k0.trans k1)).trans k7).trans k8
        refine hw1 x1 σ' Hy _ (hg1 H0 E x1 d1 _ _ Hy _ _ g8 (st8.wipe vs1) rd1 ((gd1 d1 (wipeE (shE e') vs1)).mono (fun e2 _ z6 g8' σ2 st2 => ?_) (fun _ _ z => z) z5))
        refine ⟨e2, st2, ky, _, g8', (t1 e2).mono (fun b _ z7 H9 k9 g9 => ?_) (fun _ _ z => z.elim) z6⟩
        have h9 : Keep W H7 H9 := k8.trans k9
        cases b with
        | false =>
          simp only [Bool.false_eq_true, if_false] at z7 ⊢
          exact ⟨k7.trans h9, f7.trans (h9.toF g7), _, g9, acc', ad', h9 A _ hacc' sA, racc'.keep g7 h9, Nat.le_succ_of_le hl', z7⟩
        | true =>
          simp only [if_true, M.run_bind, M.run_noX] at z7 ⊢
          refine ⟨e2, st2.keep g8 k9, ky.trans k9, _, g9, (f e2).mono (fun dy _ z8 v Ha ka ga ra => ?_) (fun _ _ z => z.elim) z7⟩
          have ha : Keep W H7 Ha := h9.trans ka
          have hAa := ha A _ hacc' sA
          have lacc := racc'.len
          rw [List.length_append] at lacc
          refine ⟨acc', hAa, by omega, keep_lock (k7.trans ha) hA, (f7.trans (ha.toF g7)).trans (kf_own hAa), _, g_lock g1' ga hA hAa, acc' ++ [v], ad' ++ [dy], upd_same, repL_upd hAa ?_, by rw [List.length_append]; show ad'.length + 1 ≤ _; omega, ?_⟩
          · rw [← List.append_assoc]
            exact (racc'.keep g7 ha).app (by simp only [RepL]; exact ⟨v, [], rfl, ra, rfl⟩)
          · refine (compM gd1 t1 f (wipeE (shE e') vs1) (ys.drop (j + 1))).mono (fun zs _ z9 => ?_) (fun _ _ z => z) z8
            have e9 : ad' ++ [dy] ++ zs = ad' ++ (dy :: zs) := by simp
            rw [e9]
            exact z9
      · have e1 : j = ys.length := by omega
        subst e1
        rw [List.drop_of_length_le (Nat.le_refl _)] at z5
        have z5 : (comp2M gd t mi1 gd1 t1 f vs1 (wipeE e vs) (ad.length + (ad' ++ []).length) (xs.drop (i + 1))).run γ7 (fun r γ' => Post2 W H Q ad ((ad' ++ []) ++ r) γ') (XD W H0 E) := z5
        rw [List.append_nil] at z5
        refine .inl ⟨v2, k7, _, g7, acc', ad ++ ad', hacc', racc', ?_⟩
        rw [List.length_append]
        refine (comp2M gd t mi1 gd1 t1 f vs1 (wipeE e vs) (ad.length + ad'.length) (xs.drop (i + 1))).mono (fun r _ z => ?_) (fun _ _ z => z) z5
        unfold Post2 at z ⊢
        rw [List.append_assoc]
        exact z
  · have e1 : i = xs.length := by omega
    subst e1
    refine .inl ⟨w2, ?_⟩
    rw [List.drop_of_length_le (Nat.le_refl _)] at z
    have z : Post2 W H Q ad [] γ3 := z
    exact z A acc H' nA (k1.trans k3) g3 hacc (by rw [List.append_nil]; exact racc) sA
theorem do_lc2 (hc : X.calm = true) (hN : X.N.Nodup) (hi : PI X tg iter (liftI W H0 E mi)) (ok : BlkOk X.N X.env.scope scope own) (hv : ∀ i ∈ vs1, i ∈ own.map (·.2)) (hgd : GD W g gd) (hgw : GW g (own.map (·.2))) (hgd1 : GD W g1 gd1) (hgw1 : GW g1 vs1)
    (hg : ∀ (s : Shared) (H : Hp) (C : Addr) (cl : List (Str × Addr)) (fp : List Addr), PG (X.blk s H scope (compEnvC scope cl C X.env) fp) tg g) (ht : ∀ (s : Shared) (H : Hp) (C : Addr) (cl : List (Str × Addr)) (fp : List Addr), PTs (X.blk s H scope (compEnvC scope cl C X.env) fp) ifs (liftT W H0 E0 t))
    (hi1 : ∀ (s : Shared) (H : Hp) (C : Addr) (cl : List (Str × Addr)) (fp : List Addr), PI (X.blk s H scope (compEnvC scope cl C X.env) fp) tg1 iter1 (liftF W H0 E0 mi1))
    (hg1 : ∀ (s : Shared) (H : Hp) (C : Addr) (cl : List (Str × Addr)) (fp : List Addr), PG (X.blk s H scope (compEnvC scope cl C X.env) fp) tg1 g1) (ht1 : ∀ (s : Shared) (H : Hp) (C : Addr) (cl : List (Str × Addr)) (fp : List Addr), PTs (X.blk s H scope (compEnvC scope cl C X.env) fp) ifs1 (liftT W H0 E0 t1))
    (he : ∀ (s : Shared) (H : Hp) (C : Addr) (cl : List (Str × Addr)) (fp : List Addr), PE (X.blk s H scope (compEnvC scope cl C X.env) fp) elt (lift W H0 E0 f)) (hs : ∀ x, foldedSetIterable iter X.env x = pure x := by intro _; rfl) (hs1 : ∀ env x, foldedSetIterable iter1 env x = pure x := by intro _ _; rfl) :
    PE X (.ListComp elt [⟨tg, iter, ifs, 0⟩, ⟨tg1, iter1, ifs1, 0⟩] scope pos) (liftO W H0 E fun e => do let xs ← mi e; comp2M gd t mi1 gd1 t1 f vs1 (wipeE e (own.map (·.2))) 0 xs) :=
  PE.imp (pe_lc2 hc hN hi ok hv hg ht hi1 hg1 ht1 he hs hs1) fun σ H Q h => comp2_lift hgd hgw hgd1 hgw1 h
end
end Dl

set_option maxRecDepth 100000
set_option maxHeartbeats 4100000
namespace Dl
open L2 PySem PySem.Spec PyProof.Rows

/-- a def that may be called -/
structure Cal (P : Program) (w : World) (W : Wd) (mg : Str → Option Value) (base : Heap) (x : Str) (k n : Nat) (F : List D → M D) where
  f : Addr
  fd : FuncData
  ps : List Str
  ok : FnOk P w W.K mg base (L2.CX P w) k f fd ps (spD W n F)
  mg : mg x = some (.ref f)
  kp : PySem.W.keepIn W.K (.ref f) = true
  bd : Binds W.K fd ps []
theorem u100 {A : Around} {k : Nat} (hr : Room k A) : A.units + 100 < cLine := by have := hr.un; omega
/-- a law's text, as far as the defs of the package ask -/
structure Txt (W : Wd) (mg : Str → Option Value) : Prop where
  b_isinstance : mg "isinstance" = none
  b_int : mg "int" = none
  b_bool : mg "bool" = none
  b_tuple : mg "tuple" = none
  b_len : mg "len" = none
  b_all : mg "all" = none
  b_range : mg "range" = none
  b_sorted : mg "sorted" = none
  b_list : mg "list" = none
  b_any : mg "any" = none
  b_min : mg "min" = none
  b_abs : mg "abs" = none
  b_set : mg "set" = none
  b_zip : mg "zip" = none
  g_LIMIT : ∃ t, mg "LIMIT" = some (.int (10 ^ 18) t)
/-- an error class of the text -/
structure Exn (W : Wd) (mg : Str → Option Value) (x : Str) (C : Addr) : Prop where
  mg : mg x = some (.ref C)
  kp : PySem.W.keepIn W.K (.ref C) = true
  ex : PySem.W.excIn W.K C [.type "ValueError", .type "Exception", .type "BaseException", .type "object"] "ValueError.__new__" = true
  sub : PySem.W.subIn W.K (.ref C) (.type "BaseException") = some true
  ty : PySem.W.typeIn W.K (.ref C) = some (.type "type")
section
variable {X : Cx} {W : Wd} {H0 : Hp} {E : XK} {pos : Pos} {a : Expr} {ma : DE → M D}
@[simp] def negD : D → M D
  | .int i => pure (.int (-i))
  | _ => M.fail
theorem dp_neg (ha : PE X a (lift1 W H0 E ma)) : PE X (.UnaryOp .USub a pos) (lift W H0 E fun e => do let x ← ma e; negD x) :=
  PE.imp (pe_un un_neg ha) fun σ H Q ⟨e, st, k0, _, g, q⟩ => ⟨e, st, k0, _, g, (ma e).mono (fun d _ z v H' k g' r => by
    cases d <;> first | exact z.elim | skip
    rename_i i
    simp only [Rep1, Rep] at r
    exact ⟨i, r, z _ H' k g' (by simp only [Rep])⟩) (fun _ _ z => z) q⟩
end
theorem pass_own {P : Program} {w : World} {K : PySem.W.Frag} {mg : Str → Option Value} {base : Heap} {N : List Str} {qual : Str} {scope : Scope} {f : Addr} {cd : Value} {A : Around} {outer : List PySem.Env} {s : Shared} {H : Hp} {E : XK} :
    PassesOwn (model (cxOf (L2.CX P w) P w K mg base N qual scope f cd A outer s H E).prog (cxOf (L2.CX P w) P w K mg base N qual scope f cd A outer s H E).w) (cxOf (L2.CX P w) P w K mg base N qual scope f cd A outer s H E).A (cxOf (L2.CX P w) P w K mg base N qual scope f cd A outer s H E).env (cxOf (L2.CX P w) P w K mg base N qual scope f cd A outer s H E).xe :=
  passes_of rfl

/-! ### the mirrors: plain functions of plain data -/
mutual
/-- no object within; no length beyond the line -/
def pureD : D → Prop
  | .ob _ => False
  | .pr _ _ => False
  | .dil _ _ => False
  | .exn _ => False
  | .tup xs => xs.length ≤ sizeLine ∧ pureL xs
  | .lst xs => xs.length ≤ sizeLine ∧ pureL xs
  | _ => True
def pureL : List D → Prop
  | [] => True
  | x :: xs => pureD x ∧ pureL xs
end
theorem pureL_mem : ∀ {xs : List D} {x : D}, pureL xs → x ∈ xs → pureD x
  | y :: ys, x, h, hx => by
    simp only [pureL] at h
    obtain rfl | hx := List.mem_cons.mp hx
    · exact h.1
    · exact pureL_mem h.2 hx
def isNum : D → Bool
  | .int i => decide (-(10 ^ 18) < i) && decide (i < 10 ^ 18)
  | _ => false
def fromB (low : Int) : D → Bool
  | .int i => isNum (.int i) && decide (low ≤ i)
  | _ => false
def belowB (many : Int) : D → Bool
  | .int i => isNum (.int i) && (decide (0 ≤ i) && decide (i < many))
  | _ => false
def areFrom (n low : Int) : D → Bool
  | .tup xs => decide ((xs.length : Int) = n) && xs.all (fromB low)
  | _ => false
def isPair : D → Bool
  | .tup [_, _] => true
  | _ => false
def F_is_number : List D → M D
  | [d] => do M.need (pureD d); pure (.bl (isNum d))
  | _ => M.fail
def F_is_from : List D → M D
  | [d, .int low] => do M.need (pureD d); pure (.bl (fromB low d))
  | _ => M.fail
def F_is_below : List D → M D
  | [d, .int many] => do M.need (pureD d); pure (.bl (belowB many d))
  | _ => M.fail
def F_are_from : List D → M D
  | [d, .int n, .int low] => do M.need (pureD d); pure (.bl (areFrom n low d))
  | _ => M.fail
def F_is_pair : List D → M D
  | [d] => do M.need (pureD d); pure (.bl (isPair d))
  | _ => M.fail
/-- all, where each test comes out -/
theorem allM_pure {stop : Bool} {gd : D → DE → M DE} {t : DE → M Bool} {f : DE → M D} {e : DE} {i : Nat} {p : D → Bool} {P : Bool → Gh → Prop} {X : Addr → Gh → Prop} {γ : Gh} (hg : gd = fun d e => pure (setS i d e)) (ht : t = fun _ => pure true) : ∀ {xs : List D},
    (∀ x ∈ xs, ∀ (γ : Gh) (PP : D → Gh → Prop), PP (.bl (p x)) γ → (f (setS i x e)).run γ PP (fun _ _ => False)) → P (if stop then xs.any p else xs.all p) γ → (allM stop gd t f e xs).run γ P X := by
  subst hg ht
  intro xs
  induction xs with
  | nil => intro _ h; cases stop <;> exact h
  | cons x xs ih =>
    intro h q
    have h1 := h x List.mem_cons_self
    have ih := fun q => ih (fun y hy => h y (List.mem_cons_of_mem _ hy)) q
    simp only [allM, M.run_bind, M.run_pure, M.run_noX, if_true]
    refine h1 _ _ ?_
    simp only [asB, M.run_pure]
    cases stop with
    | true =>
      simp only [if_true, List.any_cons] at q ih ⊢
      cases hp : p x with
      | true => rw [hp] at q; simp only [if_true, Bool.true_or, M.run_pure] at q ⊢; exact q
      | false => rw [hp] at q; simp only [Bool.false_eq_true, if_false, Bool.false_or] at q ⊢; exact ih q
    | false =>
      simp only [Bool.false_eq_true, if_false, List.all_cons] at q ih ⊢
      cases hp : p x with
      | true => rw [hp] at q; simp only [Bool.true_and, Bool.true_eq_false, if_false] at q ⊢; exact ih q
      | false => rw [hp] at q; simp only [Bool.false_and, if_true, M.run_pure] at q ⊢; exact q
/-- a list of ints; of rows of ints -/
def intsD : List D → Option (List Int)
  | [] => some []
  | .int i :: xs => (intsD xs).map fun ns => i :: ns
  | _ => none
def rowsD : List D → Option (List (List Int))
  | [] => some []
  | .tup x :: xs => (intsD x).bind fun r => (rowsD xs).map fun rs => r :: rs
  | _ => none
/-- each item is less than the next one -/
def chainB {α : Type} (lt : α → α → Bool) : List α → Bool
  | x :: y :: r => lt x y && chainB lt (y :: r)
  | _ => true
def ascD (xs : List D) : Option Bool := match intsD xs with
  | some ns => some (chainB (fun i j => decide (i < j)) ns)
  | none => (rowsD xs).map fun rs => chainB (fun (a b : List Int) => decide (a < b)) rs
def F_is_ascending : List D → M D
  | [.tup xs] => match ascD xs with
    | some b => do M.need (xs.length ≤ sizeLine); pure (.bl b)
    | none => M.fail
  | _ => M.fail
theorem atN {α : Type} {xs : List α} {i : Nat} {d : α} (h : xs[i]? = some d) : L2.atI xs (i : Int) = some d := by
  have hi : i < xs.length := (List.getElem?_eq_some_iff.mp h).1
  unfold L2.atI ixN
  rw [if_pos (by omega)]
  rw [if_pos (by omega)]
  simpa using h
theorem atN1 {α : Type} {xs : List α} {i : Nat} {d : α} (h : xs[i + 1]? = some d) : L2.atI xs ((i : Int) + 1) = some d := by
  have := atN h
  rwa [show ((i + 1 : Nat) : Int) = (i : Int) + 1 by omega] at this
@[simp] theorem at2_0 {α : Type} (a b : α) : L2.atI [a, b] 0 = some a := rfl
@[simp] theorem at2_1 {α : Type} (a b : α) : L2.atI [a, b] 1 = some b := rfl
@[simp] theorem eqv_int (a b : Int) : PyData.eqv (.int a) (.int b) = (a == b) := by simp [PyData.eqv]
@[simp] theorem depth_int (a : Int) : (PyData.int a).depth = 0 := rfl
/-- neighbours, place by place -/
theorem chainB_range {α : Type} (lt : α → α → Bool) (d0 : α) : ∀ (xs : List α), chainB lt xs = (List.range (xs.length - 1)).all fun k => lt (xs.getD k d0) (xs.getD (k + 1) d0)
  | [] => rfl
  | [_] => rfl
  | x :: y :: r => by
    have ih := chainB_range lt d0 (y :: r)
    show (lt x y && chainB lt (y :: r)) = _
    rw [ih]
    simp only [List.length_cons, Nat.add_sub_cancel]
    rw [List.range_succ_eq_map]
    rw [List.all_cons, List.all_map]
    rfl
theorem intsD_get : ∀ {xs : List D} {ns : List Int} {i : Nat} {d : D}, intsD xs = some ns → xs[i]? = some d → ∃ n, ns[i]? = some n ∧ d = .int n
  | [], ns, i, d, _, h => by simp at h
  | x :: xs, ns, i, d, h, e => by
    cases x <;> simp only [intsD, Option.map_eq_some_iff] at h <;> try contradiction
    obtain ⟨ms, h1, rfl⟩ := h
    cases i with
    | zero => simp at e; exact ⟨_, rfl, e.symm⟩
    | succ i => obtain ⟨n, a, b⟩ := intsD_get (i := i) h1 (by simpa using e); exact ⟨n, by simpa using a, b⟩
theorem intsD_len : ∀ {xs : List D} {ns : List Int}, intsD xs = some ns → ns.length = xs.length
  | [], ns, h => by simp only [intsD, Option.some.injEq] at h; subst h; rfl
  | x :: xs, ns, h => by
    cases x <;> simp only [intsD, Option.map_eq_some_iff] at h <;> try contradiction
    obtain ⟨ms, h1, rfl⟩ := h
    rw [List.length_cons, List.length_cons, intsD_len h1]
theorem rowsD_get : ∀ {xs : List D} {ns : List (List Int)} {i : Nat} {d : D}, rowsD xs = some ns → xs[i]? = some d → ∃ n r, ns[i]? = some n ∧ d = .tup r ∧ intsD r = some n
  | [], ns, i, d, _, h => by simp at h
  | x :: xs, ns, i, d, h, e => by
    cases x <;> simp only [rowsD, Option.bind_eq_some_iff, Option.map_eq_some_iff] at h <;> try contradiction
    obtain ⟨r, h0, ms, h1, rfl⟩ := h
    cases i with
    | zero => simp at e; exact ⟨_, _, rfl, e.symm, h0⟩
    | succ i => obtain ⟨n, r', a, b, c⟩ := rowsD_get (i := i) h1 (by simpa using e); exact ⟨n, r', by simpa using a, b, c⟩
theorem rowsD_len : ∀ {xs : List D} {ns : List (List Int)}, rowsD xs = some ns → ns.length = xs.length
  | [], ns, h => by simp only [rowsD, Option.some.injEq] at h; subst h; rfl
  | x :: xs, ns, h => by
    cases x <;> simp only [rowsD, Option.bind_eq_some_iff, Option.map_eq_some_iff] at h <;> try contradiction
    obtain ⟨r, h0, ms, h1, rfl⟩ := h
    rw [List.length_cons, List.length_cons, rowsD_len h1]
theorem toPyL_ints : ∀ {xs : List D} {ns : List Int}, intsD xs = some ns → toPyL xs = some (ns.map .int)
  | [], ns, h => by simp only [intsD, Option.some.injEq] at h; subst h; rfl
  | x :: xs, ns, h => by
    cases x <;> simp only [intsD, Option.map_eq_some_iff] at h <;> try contradiction
    obtain ⟨ms, h1, rfl⟩ := h
    simp [toPyL, toPy, toPyL_ints h1]
theorem rangeD_mem {lo hi : Int} {x : D} (h : x ∈ rangeD lo hi) : ∃ k : Nat, k < (hi - lo).toNat ∧ x = .int (lo + k) := by
  unfold rangeD at h
  obtain ⟨k, hk, rfl⟩ := List.mem_map.mp h
  exact ⟨k, List.mem_range.mp hk, rfl⟩
theorem alike_rows (a b : List Int) : PySem.W.alike (.tuple (a.map .int)) (.tuple (b.map .int)) = true := by
  rw [PySem.W.alike]
  exact PySem.W.alike_ints a b
theorem depth_ints : ∀ (a : List Int), PyData.depthAll (a.map .int) ≤ 1
  | [] => Nat.zero_le _
  | x :: xs => by
    have := depth_ints xs
    simp only [PyData.depthAll, PyData.depth, List.map_cons]
    omega
theorem lt_rows (a b : List Int) : PySem.W.dataLt (.tuple (a.map .int)) (.tuple (b.map .int)) = decide (a < b) := by
  rw [PySem.W.dataLt_tuple]
  exact PySem.W.dataLt_ints a b
/-! ### queries and stores, as data -/
def asc1 (xs : List D) : Bool := (ascD xs).getD false
def areBelow (many : Int) : D → Bool
  | .tup xs => xs.all (belowB many) && asc1 xs
  | _ => false
def F_are_below : List D → M D
  | [d, .int many] => do M.need (pureD d); pure (.bl (areBelow many d))
  | _ => M.fail
theorem intsD_of {p : D → Bool} (hp : ∀ d, p d = true → ∃ i, d = .int i) : ∀ {xs : List D}, xs.all p = true → ∃ ns, intsD xs = some ns
  | [], _ => ⟨[], rfl⟩
  | x :: xs, h => by
    rw [List.all_cons] at h
    rw [Bool.and_eq_true] at h
    obtain ⟨i, rfl⟩ := hp x h.1
    obtain ⟨ns, e⟩ := intsD_of hp h.2
    exact ⟨i :: ns, by simp [intsD, e]⟩
theorem belowB_int {many : Int} (d : D) (h : belowB many d = true) : ∃ i, d = .int i := by
  cases d <;> first | exact ⟨_, rfl⟩ | cases h
theorem fromB_int {low : Int} (d : D) (h : fromB low d = true) : ∃ i, d = .int i := by
  cases d <;> first | exact ⟨_, rfl⟩ | cases h
/-- the ints of rows, one behind the other -/
def flatI : List D → List Int
  | [] => []
  | .tup xs :: r => (intsD xs).getD [] ++ flatI r
  | _ :: r => flatI r
def lenPos : D → Bool
  | .tup xs => decide (0 < xs.length)
  | _ => false
def isQuery : D → Bool
  | .tup [.int many, .tup atoms] => isNum (.int many) && (decide (1 ≤ many) && decide (many ≤ 8)) && (decide (1 ≤ atoms.length) && decide (atoms.length ≤ 8)) && atoms.all (fun a => areBelow many a && lenPos a) &&
      (List.range many.toNat).all (fun k => (flatI atoms).contains (k : Int))
  | _ => false
theorem isPair_shape {d : D} (h : isPair d = true) : ∃ a b, d = .tup [a, b] := by
  unfold isPair at h
  split at h
  · exact ⟨_, _, rfl⟩
  · cases h
theorem isNum_int (d : D) (h : isNum d = true) : ∃ i, d = .int i := by
  cases d <;> first | exact ⟨_, rfl⟩ | cases h
theorem isQuery_pair {d : D} (h : isPair d = false) : isQuery d = false := by
  unfold isQuery
  split
  · cases h
  · rfl
theorem isQuery_num {m a : D} (h : isNum m = false) : isQuery (.tup [m, a]) = false := by
  cases m <;> cases a <;> first | rfl | simp [isQuery, h]
theorem isQuery_lo {i : Int} {a : D} (h : ¬ 1 ≤ i) : isQuery (.tup [.int i, a]) = false := by
  cases a <;> first | rfl | simp [isQuery, h]
theorem isQuery_hi {i : Int} {a : D} (h : ¬ i ≤ 8) : isQuery (.tup [.int i, a]) = false := by
  cases a <;> first | rfl | simp [isQuery, h]
theorem isQuery_shape {q : D} (h : isQuery q = true) : ∃ many atoms, q = .tup [.int many, .tup atoms] ∧ 1 ≤ many ∧ many ≤ 8 ∧ 1 ≤ atoms.length ∧ atoms.length ≤ 8 ∧ (∀ a ∈ atoms, areBelow many a = true ∧ lenPos a = true) ∧
    ∀ k : Nat, (k : Int) < many → (flatI atoms).contains (k : Int) = true := by
  unfold isQuery at h
  split at h
  · rename_i many atoms
    simp only [Bool.and_eq_true, decide_eq_true_eq, List.all_eq_true, List.mem_range] at h
    obtain ⟨⟨⟨⟨h0, h1, h2⟩, h3, h4⟩, h5⟩, h6⟩ := h
    exact ⟨many, atoms, rfl, h1, h2, h3, h4, h5, fun k hk => h6 k (by omega)⟩
  · cases h
def F_is_query : List D → M D
  | [d] => do M.need (pureD d); pure (.bl (isQuery d))
  | _ => M.fail
def F_check_query (cq : Addr) : List D → M D
  | [d] => do M.need (pureD d); if isQuery d then pure .non else M.raise cq
  | _ => M.fail
def isTable (n : Int) : D → Bool
  | .tup rows => rows.all (areFrom n 0) && asc1 rows
  | _ => false
theorem rowsD_of {n low : Int} : ∀ {xs : List D}, xs.all (areFrom n low) = true → ∃ rs, rowsD xs = some rs
  | [], _ => ⟨[], rfl⟩
  | x :: xs, h => by
    rw [List.all_cons] at h
    obtain ⟨h1, h2⟩ := (Bool.and_eq_true _ _).mp h
    obtain ⟨rs, e⟩ := rowsD_of h2
    cases x with
    | tup r =>
      simp only [areFrom, Bool.and_eq_true] at h1
      obtain ⟨ns, e1⟩ := intsD_of (fun d h => fromB_int d h) h1.2
      exact ⟨ns :: rs, by simp [rowsD, e, e1]⟩
    | _ => cases h1
theorem ascD_rows {n low : Int} {xs : List D} (h : xs.all (areFrom n low) = true) : ∃ b, ascD xs = some b := by
  obtain ⟨rs, e⟩ := rowsD_of h
  unfold ascD
  split
  · exact ⟨_, rfl⟩
  · rw [e]
    exact ⟨_, rfl⟩
def F_is_table : List D → M D
  | [.int n, d] => do M.need (pureD d); pure (.bl (isTable n d))
  | _ => M.fail
def atomsOf : D → List D
  | .tup [_, .tup atoms] => atoms
  | _ => []
def manyOf : D → Int
  | .tup [.int many, _] => many
  | _ => 0
def lenOf : D → Nat
  | .tup xs => xs.length
  | _ => 0
def isStore (q : D) : D → Bool
  | .tup tabs => decide (tabs.length = (atomsOf q).length) && (List.range tabs.length).all (fun k => isTable (lenOf ((atomsOf q).getD k .non)) (tabs.getD k .non))
  | _ => false
def F_is_store (cq : Addr) : List D → M D
  | [q, d] => do M.need (pureD q ∧ pureD d); if isQuery q then pure (.bl (isStore q d)) else M.raise cq
  | _ => M.fail
def F_check_store (cq cs : Addr) : List D → M D
  | [q, d] => do M.need (pureD q ∧ pureD d); if isQuery q then (if isStore q d then pure .non else M.raise cs) else M.raise cq
  | _ => M.fail
def F_check_attribute (ca : Addr) : List D → M D
  | [.tup [.int many, _], d] => do M.need (pureD d); if belowB many d then pure .non else M.raise ca
  | _ => M.fail
def sizesD : D → D
  | .tup tabs => .tup (tabs.map fun t => .int (lenOf t))
  | _ => .non
def F_sizes (cq cs : Addr) : List D → M D
  | [q, d] => do M.need (pureD q ∧ pureD d); if isQuery q then (if isStore q d then pure (sizesD d) else M.raise cs) else M.raise cq
  | _ => M.fail
theorem isTable_shape {n : Int} {t : D} (h : isTable n t = true) : ∃ rows, t = .tup rows ∧ rows.all (areFrom n 0) = true ∧ asc1 rows = true := by
  cases t with
  | tup rows =>
    simp only [isTable, Bool.and_eq_true] at h
    exact ⟨rows, rfl, h.1, h.2⟩
  | _ => cases h
theorem isStore_shape {q d : D} (h : isStore q d = true) : ∃ tabs, d = .tup tabs ∧ tabs.length = (atomsOf q).length ∧ ∀ t ∈ tabs, ∃ rows, t = .tup rows := by
  cases d with
  | tup tabs =>
    simp only [isStore, Bool.and_eq_true, decide_eq_true_eq, List.all_eq_true, List.mem_range] at h
    refine ⟨tabs, rfl, h.1, fun t ht => ?_⟩
    obtain ⟨k, hk, rfl⟩ := List.getElem_of_mem ht
    obtain ⟨rows, e, _⟩ := isTable_shape (h.2 k hk)
    refine ⟨rows, ?_⟩
    rwa [List.getD_eq_getElem?_getD, List.getElem?_eq_getElem hk] at e
  | _ => cases h
/-- a rising row below many is no longer than many -/
theorem chain_len {lo hi : Int} : ∀ {ns : List Int}, chainB (fun i j => decide (i < j)) ns = true → (∀ n ∈ ns, lo ≤ n ∧ n < hi) → (ns.length : Int) ≤ max 0 (hi - lo)
  | [], _, _ => by simp; omega
  | [x], _, h => by have := h x (by simp); simp; omega
  | x :: y :: r, hc, h => by
    have hx := h x (by simp)
    rw [chainB, Bool.and_eq_true, decide_eq_true_eq] at hc
    have hy : ∀ n ∈ y :: r, x + 1 ≤ n ∧ n < hi := by
      have key : ∀ (r : List Int) (y : Int), chainB (fun i j => decide (i < j)) (y :: r) = true → x < y → ∀ n ∈ y :: r, x + 1 ≤ n := fun r => by
        induction r with
        | nil => intro y _ h1 n hn; simp at hn; omega
        | cons z r ih =>
          intro y h1 h2 n hn
          rw [chainB, Bool.and_eq_true, decide_eq_true_eq] at h1
          rcases List.mem_cons.mp hn with rfl | hn
          · omega
          · exact ih z h1.2 (by omega) n hn
      exact fun n hn => ⟨key r y hc.2 hc.1 n hn, (h n (List.mem_cons_of_mem _ hn)).2⟩
    have := chain_len (lo := x + 1) (hi := hi) hc.2 hy
    simp only [List.length_cons] at this ⊢
    omega
/-! ### comprehensions that come out -/
theorem compM_filter {gd : D → DE → M DE} {t : DE → M Bool} {f : DE → M D} {e : DE} {i : Nat} {q : D → Bool} {p : D → D} {X : Addr → Gh → Prop} {γ : Gh} (hg : gd = fun d e => pure (setS i d e)) : ∀ {xs : List D} {P : List D → Gh → Prop},
    (∀ x ∈ xs, ∀ (γ : Gh) (PP : Bool → Gh → Prop), PP (q x) γ → (t (setS i x e)).run γ PP (fun _ _ => False)) → (∀ x ∈ xs, q x = true → ∀ (γ : Gh) (PP : D → Gh → Prop), PP (p x) γ → (f (setS i x e)).run γ PP (fun _ _ => False)) →
    P ((xs.filter q).map p) γ → (compM gd t f e xs).run γ P X := by
  subst hg
  intro xs
  induction xs with
  | nil => intro P _ _ h; exact h
  | cons x xs ih =>
    intro P h1 h2 h
    simp only [compM, M.run_bind, M.run_pure, M.run_noX]
    refine h1 x List.mem_cons_self _ _ ?_
    cases hq : q x with
    | false =>
      refine (if_neg Bool.false_ne_true).symm ▸ ?_
      rw [List.filter_cons_of_neg (by simp [hq])] at h
      exact ih (fun y hy => h1 y (List.mem_cons_of_mem _ hy)) (fun y hy => h2 y (List.mem_cons_of_mem _ hy)) h
    | true =>
      simp only [if_true, M.run_bind, M.run_noX]
      refine h2 x List.mem_cons_self hq _ _ ?_
      rw [List.filter_cons_of_pos (by simp [hq]), List.map_cons] at h
      exact ih (P := fun ys => P (p x :: ys)) (fun y hy => h1 y (List.mem_cons_of_mem _ hy)) (fun y hy => h2 y (List.mem_cons_of_mem _ hy)) h
theorem compM_map {gd : D → DE → M DE} {t : DE → M Bool} {f : DE → M D} {e : DE} {i : Nat} {p : D → D} {X : Addr → Gh → Prop} {γ : Gh} (hg : gd = fun d e => pure (setS i d e)) (ht : t = fun _ => pure true) {xs : List D} {P : List D → Gh → Prop}
    (h2 : ∀ x ∈ xs, ∀ (γ : Gh) (PP : D → Gh → Prop), PP (p x) γ → (f (setS i x e)).run γ PP (fun _ _ => False)) (h : P (xs.map p) γ) : (compM gd t f e xs).run γ P X := by
  refine compM_filter (q := fun _ => true) (p := p) hg (fun x hx γ PP h => by subst ht; exact h) (fun x hx _ γ PP h => h2 x hx γ PP h) ?_
  have e : xs.filter (fun _ => true) = xs := by simp
  rw [e]
  exact h
theorem comp2_map {gd gd1 : D → DE → M DE} {t t1 : DE → M Bool} {mi1 : DE → M (List D)} {f : DE → M D} {vs1 : List Nat} {e : DE} {i : Nat} {rows : D → List D} {X : Addr → Gh → Prop} {γ : Gh} (hg : gd = fun d e => pure (setS i d e)) (ht : t = fun _ => pure true) :
    ∀ {xs : List D} {n : Nat} {P : List D → Gh → Prop}, (∀ x ∈ xs, ∀ (γ : Gh) (PP : List D → Gh → Prop), PP (rows x) γ → (mi1 (shE (setS i x e))).run γ PP (fun _ _ => False)) →
    (∀ x ∈ xs, ∀ (γ : Gh) (PP : List D → Gh → Prop), PP (rows x) γ → (compM gd1 t1 f (wipeE (shE (setS i x e)) vs1) (rows x)).run γ PP X) → n + (xs.flatMap rows).length ≤ sizeLine →
    P (xs.flatMap rows) γ → (comp2M gd t mi1 gd1 t1 f vs1 e n xs).run γ P X := by
  subst hg ht
  intro xs
  induction xs with
  | nil => intro n P _ _ _ h; exact h
  | cons x xs ih =>
    intro n P h1 h2 hn h
    rw [List.flatMap_cons, List.length_append] at hn
    rw [List.flatMap_cons] at h
    simp only [comp2M, M.run_bind, M.run_pure, M.run_noX, if_true, M.run_need]
    refine h1 x List.mem_cons_self _ _ ⟨by omega, ?_⟩
    refine h2 x List.mem_cons_self _ _ ?_
    exact ih (P := fun r => P (rows x ++ r)) (fun y hy => h1 y (List.mem_cons_of_mem _ hy)) (fun y hy => h2 y (List.mem_cons_of_mem _ hy)) (by omega) h
theorem inF_ints (k : Int) (ns : List Int) : inF (.int k) (.list (ns.map .int)) = ns.contains k := by
  unfold inF itemsP
  simp only [Option.getD_some, List.any_map]
  rw [List.contains_eq_any_beq]
  congr 1
  funext n
  simp [Function.comp, PyData.eqv]
  exact Bool.eq_iff_iff.mpr ⟨fun h => by simp at h ⊢; exact h.symm, fun h => by simp at h ⊢; exact h.symm⟩
theorem inF_intsT (k : Int) (ns : List Int) : inF (.int k) (.tuple (ns.map .int)) = ns.contains k := inF_ints k ns
theorem toPyL_int : ∀ (ns : List Int), toPyL (ns.map .int) = some (ns.map .int)
  | [] => rfl
  | x :: xs => by simp [toPyL, toPy, toPyL_int xs]
theorem intsD_eq : ∀ {xs : List D} {ns : List Int}, intsD xs = some ns → xs = ns.map .int
  | [], ns, h => by simp only [intsD, Option.some.injEq] at h; subst h; rfl
  | x :: xs, ns, h => by
    cases x <;> simp only [intsD, Option.map_eq_some_iff] at h <;> try contradiction
    obtain ⟨ms, h1, rfl⟩ := h
    rw [List.map_cons, ← intsD_eq h1]
theorem areBelow_shape {many : Int} {d : D} (h : areBelow many d = true) : ∃ ns : List Int, d = .tup (ns.map .int) ∧ chainB (fun i j => decide (i < j)) ns = true ∧ ∀ n ∈ ns, 0 ≤ n ∧ n < many := by
  cases d with
  | tup xs =>
    simp only [areBelow, Bool.and_eq_true] at h
    obtain ⟨ns, hns⟩ := intsD_of (fun d h => belowB_int d h) h.1
    have e := intsD_eq hns
    subst e
    refine ⟨ns, rfl, ?_, fun n hn => ?_⟩
    · have := h.2
      simp [asc1, ascD, hns] at this
      exact this
    · have := List.all_eq_true.mp h.1 (.int n) (List.mem_map.mpr ⟨n, hn, rfl⟩)
      simp [belowB] at this
      exact this.2
  | _ => cases h
end Dl

set_option maxRecDepth 100000
set_option maxHeartbeats 4100000
namespace Dl
open L2 PySem PySem.Spec PyProof.Rows
section
variable {X : Cx} {W : Wd} {H0 : Hp} {E : XK} {pos p : Pos} {a : Expr} {ma : DE → M D}
/-- tuple(x) of a list, of a tuple -/
@[simp] def tupD : D → M D
  | .lst xs => pure (.tup xs)
  | .tup xs => pure (.tup xs)
  | _ => M.fail
theorem dp_tupOf (hK : X.K = W.K) (hm : X.mg "tuple" = none) (ha : PE X a (lift1 W H0 E ma)) (hg : Gl X "tuple" := by rfl) (na : starEach [a] X.env = (false, eval a X.env) :: starEach [] X.env := by rfl) :
    PE X (.Call (.Name "tuple" p) [a] [] pos) (lift W H0 E fun e => do let x ← ma e; tupD x) :=
  PE.imp (pe_tupOfX hg hm ha na) fun σ H Q ⟨e, st, k0, _, g, q⟩ => ⟨e, st, k0, _, g, (ma e).mono (fun d _ z v H' k g' r => by
    unfold kTupX
    rw [hK]
    cases d with
    | lst xs =>
      obtain ⟨b, vs, rfl, sq, rl⟩ := r.sq
      refine .inl ⟨b, vs, rfl, sq, fun q hq o ho => z _ _ (k.trans (Keep.new hq)) (gnew g' hq) ?_⟩
      simp only [Rep]
      exact ⟨q, vs, rfl, ⟨o, upd_same, ho⟩, rl.keep g' (Keep.new hq)⟩
    | tup xs =>
      simp only [Rep1, Rep] at r
      obtain ⟨b, vs, rfl, sq, rl⟩ := r
      refine .inr ⟨b, vs, rfl, sq.sq, z _ _ k g' ?_⟩
      simp only [Rep]
      exact ⟨b, vs, rfl, sq, rl⟩
    | _ => exact z.elim) (fun _ _ z => z) q⟩
end
end Dl

set_option maxRecDepth 100000
set_option maxHeartbeats 4100000
/-! Fields of a dict of the law's own that is written (the state of the draws): its items stand in the hidden state. -/
namespace Dl
open L2 PySem PySem.Spec PyProof.Rows
namespace M
def fldI (i : Nat) : M D := ⟨fun γ P _ => ∃ k, γ[i]? = some (.int k) ∧ P (.int k) γ, fun h _ ⟨k, a, q⟩ => ⟨k, a, h _ _ q⟩⟩
def putI (i : Nat) (d : D) : M Unit := ⟨fun γ P _ => ∃ k, d = .int k ∧ P () (γ.set i (.int k)), fun h _ ⟨k, a, q⟩ => ⟨k, a, h _ _ q⟩⟩
def fldL (i : Nat) : M (List D) := ⟨fun γ P _ => ∃ xs, γ[i]? = some (.lst xs) ∧ P xs γ, fun h _ ⟨k, a, q⟩ => ⟨k, a, h _ _ q⟩⟩
def popL (i : Nat) : M D := ⟨fun γ P _ => ∃ x xs, γ[i]? = some (.lst (x :: xs)) ∧ P x (γ.set i (.lst xs)), fun h _ ⟨x, xs, a, q⟩ => ⟨x, xs, a, h _ _ q⟩⟩
def isSt (st : Addr) (d : D) : M Unit := M.need (d = .ob (.ref st))
section
variable {γ : Gh} {X : Addr → Gh → Prop}
@[simp] theorem run_fldI (i : Nat) (P : D → Gh → Prop) : (fldI i).run γ P X = ∃ k, γ[i]? = some (.int k) ∧ P (.int k) γ := rfl
@[simp] theorem run_putI (i : Nat) (d : D) (P : Unit → Gh → Prop) : (putI i d).run γ P X = ∃ k, d = .int k ∧ P () (γ.set i (.int k)) := rfl
@[simp] theorem run_fldL (i : Nat) (P : List D → Gh → Prop) : (fldL i).run γ P X = ∃ xs, γ[i]? = some (.lst xs) ∧ P xs γ := rfl
@[simp] theorem run_popL (i : Nat) (P : D → Gh → Prop) : (popL i).run γ P X = ∃ x xs, γ[i]? = some (.lst (x :: xs)) ∧ P x (γ.set i (.lst xs)) := rfl
@[simp] theorem run_isSt (st : Addr) (d : D) (P : Unit → Gh → Prop) : (isSt st d).run γ P X = (d = .ob (.ref st) ∧ P () γ) := rfl
end
end M
/-- an item that is an int -/
structure FldI (W : Wd) (st : Addr) (key : Str) (i : Nat) : Prop where
  get : ∀ γ H k, W.G γ H → γ[i]? = some (.int k) → ∃ kvs, H st = some (.dK kvs) ∧ valV kvs (.inr key) = some (.int k)
  put : ∀ γ H k, W.G γ H → ∃ kvs, H st = some (.dK kvs) ∧ kvs.length < sizeLine ∧ W.G (γ.set i (.int k)) (upd H st (.dK (putK kvs (.inr key) (.int k))))
  S : W.S st
/-- .. a list of ints that is written -/
structure FldL (W : Wd) (st l : Addr) (key : Str) (i : Nat) : Prop where
  get : ∀ γ H, W.G γ H → ∃ kvs, H st = some (.dK kvs) ∧ valV kvs (.inr key) = some (.ref l)
  lst : ∀ γ H xs, W.G γ H → γ[i]? = some (.lst xs) → ∃ ns : List Int, xs = ns.map .int ∧ H l = some (.lst (ns.map V.int)) ∧ ns.length < 2 ^ 20
  put : ∀ γ H (ns : List Int), ns.length < 2 ^ 20 → W.G γ H → W.G (γ.set i (.lst (ns.map .int))) (upd H l (.lst (ns.map V.int)))
  S : W.S l
/-- .. a list that is never written -/
structure FldC (W : Wd) (st c : Addr) (key : Str) (ds : List D) : Prop where
  get : ∀ γ H, W.G γ H → ∃ kvs, H st = some (.dK kvs) ∧ valV kvs (.inr key) = some (.ref c)
  lst : ∀ γ H, W.G γ H → ∃ vs, H c = some (.lst vs) ∧ RepL W.K H ds vs
theorem ints_dp {K : PySem.W.Frag} {H : Hp} : ∀ ns : List Int, DpAll K H (ns.map V.int) (ns.map PyData.int)
  | [] => .nil
  | n :: ns => .cons (.int n) (ints_dp ns)
theorem ints_plain : ∀ ns : List Int, PyData.plainAll (ns.map PyData.int) = true
  | [] => rfl
  | n :: ns => by
    show PyData.plainAll (.int n :: ns.map PyData.int) = true
    rw [PyData.plainAll, ints_plain ns]
    rfl
section
variable {X : Cx} {W : Wd} {H0 : Hp} {E : XK} {pos p kp pos' : Pos} {o v a tg : Expr} {mo mv ma : DE → M D} {st l c : Addr} {key : Str} {i j : Nat} {ds : List D}
theorem keep_S {H H' : Hp} {b : Addr} {u : HO} (k : Keep W H H') (hb : W.S b) : Keep W H (upd H' b u) := fun x y e n => by
  rw [upd_ne (fun z => n (by rw [z]; exact hb))]
  exact k x y e n
theorem dp_fldI (F : FldI W st key i) (hu : X.A.units + 100 < cLine) (ho : PE X o (lift W H0 E mo)) (hs : NoSl (.Constant (.str key) j kp) := by exact fun _ _ => rfl) :
    PE X (.Subscript o (.Constant (.str key) j kp) pos) (lift W H0 E fun e => do let x ← mo e; M.isSt st x; M.fldI i) :=
  PE.imp (pe_dget (by omega) ho pe_str hs) fun σ H Q ⟨e, s0, k0, _, g, q⟩ => ⟨e, s0, k0, _, g, (mo e).mono (fun d _ z v H' k g' r => by
    obtain ⟨hd, n, hn, z⟩ := z
    subst hd
    simp only [Rep] at r
    obtain ⟨kvs, h1, h2⟩ := F.get _ H' n g' hn
    have dg := DGet.k (k := .inr key) h1
    rw [h2] at dg
    exact ⟨st, .int n, r, dg, z _ H' k g' (by simp only [Rep])⟩) (fun _ _ z => z) q⟩
theorem ds_putI (F : FldI W st key i) (hu : X.A.units + 100 < cLine) (ho : PE X o (lift W H0 E mo)) (hv : PE X v (lift W H0 E mv)) (hs : swapsWith v (some (.Subscript o (.Constant (.str key) j kp) pos')) pos.line X.env = pure false := by rfl) :
    PS X (.Assign [.Subscript o (.Constant (.str key) j kp) pos'] v pos) (liftS W H0 E fun e => do let d ← mv e; let x ← mo e; M.isSt st x; M.putI i d; pure (.nx e)) :=
  PS.imp (ps_dput (by omega) ho pe_str hv hs) fun Dn σ H ⟨e, s0, k0, _, g, q⟩ => ⟨e, s0, k0, _, g, (mv e).mono (fun d _ z v1 H1 k1 g1 r1 =>
    ⟨e, s0.keep g k1, k0.trans k1, _, g1, (mo e).mono (fun x γ2 z v2 H2 k2 g2 r2 => by
      obtain ⟨hd, n, hn, z9⟩ := z
      subst hd hn
      have r1 := r1.keep g1 k2
      simp only [Rep] at r1 r2
      obtain ⟨kvs, h1, h2, h3⟩ := F.put _ H2 n g2
      have kk : Keep W H (upd H2 st (.dK (putK kvs (.inr key) (.int n)))) := keep_S (k1.trans k2) F.S
      refine ⟨st, _, r2, by rw [r1]; exact DPut.k (k := .inr key) h1 h2, ?_⟩
      exact z9 σ _ (s0.keep g kk) (k0.trans kk) (kk.toF g) h3) (fun _ _ z => z) z⟩) (fun _ _ z => z) q⟩
/-- a, b = x, y -/
@[simp] def parM (i j : Nat) (ms : DE → M (List D)) : DE → M R := fun e => do
  let ds ← ms e
  match ds with
  | [d1, d2] => pure (.nx (setS j d2 (setS i d1 e)))
  | _ => M.fail
theorem ds_par {i j : Nat} {x y : Str} {a b : Expr} {ms : DE → M (List D)} {px py pt : Pos} {kt k2 pt2} (hc : X.calm = true) (hN : X.N.Nodup) (ha : PA X [a, b] (liftA W H0 E ms)) (hi : X.N[i]? = some x := by rfl) (hj : X.N[j]? = some y := by rfl) (hij : i ≠ j := by decide)
    (hx : X.env.scope.names.lookup x = some .local := by rfl) (hy : X.env.scope.names.lookup y = some .local := by rfl)
    (hw : swappedStores [.Tuple [.Name x px, .Name y py] kt pt] (.Tuple [a, b] k2 pt2) X.env = pure (some [x, y]) := by rfl)
    (hsw : swapsWithSole [.Tuple [.Name x px, .Name y py] kt pt] (.Tuple [a, b] k2 pt2) pos.line X.env = pure false := by rfl) :
    PS X (.Assign [.Tuple [.Name x px, .Name y py] kt pt] (.Tuple [a, b] k2 pt2) pos) (liftS W H0 E (parM i j ms)) :=
  PS.imp (ps_par hc hN hi hj hij hx hy ha hw hsw) fun Dn σ H ⟨e, s0, k0, _, g, q⟩ => ⟨e, s0, k0, _, g, (ms e).mono (fun ds _ z vs H1 k1 g1 r1 => by
    match ds, z with
    | [d1, d2], z =>
      simp only [RepL] at r1
      obtain ⟨v, _, rfl, rv, w, _, rfl, rw_, rfl⟩ := r1
      exact ⟨v, w, rfl, z _ H1 (((s0.keep g k1).set rv).set rw_) (k0.trans k1) (k1.toF g) g1⟩) (fun _ _ z => z) q⟩
/-- x[key] != [] -/
theorem dt_neL (F : FldL W st l key i) (hu : X.A.units + 100 < cLine) (ho : PE X o (lift W H0 E mo)) (hs : NoSl (.Constant (.str key) j kp) := by exact fun _ _ => rfl) (hm : behindInMarks .NotEq (.List [] p) = false := by rfl) :
    PT X (.Compare (.Subscript o (.Constant (.str key) j kp) pos') [.NotEq] [.List [] p] pos) (liftT W H0 E fun e => do let x ← mo e; M.isSt st x; let xs ← M.fldL i; pure (!xs.isEmpty)) :=
  PT.imp (pt_cmpR (op_neP hu) (pe_dget (by omega) ho pe_str hs) (pe_lst pa_nil) hm) fun σ H Q ⟨e, s0, k0, _, g, q⟩ => ⟨e, s0, k0, _, g, (mo e).mono (fun d _ z v H' k g' r => by
    obtain ⟨hd, xs, hn, z⟩ := z
    subst hd
    simp only [Rep] at r
    obtain ⟨kvs, h1, h2⟩ := F.get _ H' g'
    obtain ⟨ns, rfl, h3, _⟩ := F.lst _ H' _ g' hn
    have dg := DGet.k (k := .inr key) h1
    rw [h2] at dg
    refine ⟨st, .ref l, r, dg, Nat.zero_le _, fun b hb => ?_⟩
    have hl : L2.upd H' b (.lst []) l = some (.lst (ns.map V.int)) := by rw [upd_ne (ne_of_none h3 hb)]; exact h3
    refine ⟨.list (ns.map .int), .list [], .lst (.inl (.inl hl)) (ints_dp ns), .lst (.inl (.inl upd_same)) .nil, ints_plain ns, rfl, Nat.le_trans (Nat.min_le_right _ _) (by decide), True.intro, _, rfl, ?_⟩
    have e9 : (!PyData.eqv (.list (ns.map .int)) (.list [])) = (!(ns.map D.int).isEmpty) := by
      cases ns <;> simp [PyData.eqv, PyData.eqvAll]
    show Q (!PyData.eqv (.list (ns.map .int)) (.list [])) _
    rw [e9]
    exact z _ (k.trans (Keep.new hb)) (gnew g' hb)) (fun _ _ z => z) q⟩
/-- x[key].pop(0) -/
theorem dp_popL {apos cpos zp : Pos} {jz : Nat} (F : FldL W st l key i) (hu : X.A.units + 100 < cLine) (ho : PE X o (lift W H0 E mo)) (hs : NoSl (.Constant (.str key) j kp) := by exact fun _ _ => rfl)
    (hbase : attributeBase (.Subscript o (.Constant (.str key) j kp) pos') "pop" X.env (eval (.Subscript o (.Constant (.str key) j kp) pos') X.env) = eval (.Subscript o (.Constant (.str key) j kp) pos') X.env := by rfl)
    (hline : (apos.endLine == cpos.line) = true := by rfl) :
    PE X (.Call (.Attribute (.Subscript o (.Constant (.str key) j kp) pos') "pop" apos) [.Constant (.int 0) jz zp] [] cpos) (lift W H0 E fun e => do let x ← mo e; M.isSt st x; M.popL i) :=
  PE.imp (pe_bm PySem.F.plainAttrs_list PySem.F.slot_list_pop PySem.F.type_list_pop mt_popAt (pe_dget (by omega) ho pe_str hs) (pa_cons pe_int pa_nil) hbase (by rfl) hline) fun σ H Q ⟨e, s0, k0, _, g, q⟩ => ⟨e, s0, k0, _, g, (mo e).mono (fun d _ z v H' k g' r => by
    obtain ⟨hd, x, xs, hn, z⟩ := z
    subst hd
    simp only [Rep] at r
    obtain ⟨kvs, h1, h2⟩ := F.get _ H' g'
    obtain ⟨ns, e1, h3, hb⟩ := F.lst _ H' _ g' hn
    cases ns with
    | nil => cases e1
    | cons n ns =>
      cases e1
      have dg := DGet.k (k := .inr key) h1
      rw [h2] at dg
      have hb1 : ns.length + 1 < 2 ^ 20 := hb
      refine ⟨st, .ref l, r, dg, .inl ⟨rfl, _, .inl (.inl h3)⟩, l, _, 0, 0, .int n, rfl, rfl, h3, by omega, by omega, ?_, rfl, ?_⟩
      · simp [seqIndex?]
      · exact z _ _ (keep_S k F.S) (F.put _ H' ns (by omega) g') (by simp only [Rep])) (fun _ _ z => z) q⟩
/-- for .. in x[key] -/
theorem df_fldC (F : FldC W st c key ds) (hK : X.K = W.K) (hu : X.A.units + 100 < cLine) (ho : PE X o (lift W H0 E mo)) (hs : NoSl (.Constant (.str key) j kp) := by exact fun _ _ => rfl) :
    PI X tg (.Subscript o (.Constant (.str key) j kp) pos) (liftF W H0 E fun e => do let x ← mo e; M.isSt st x; pure ds) := by
  refine PI.imp (PI.or (pe_dget (by omega) ho pe_str hs) fun pins s σ H R x v I rx h => iter_seq I rx h) fun σ H R ⟨e, s0, k0, _, g, q⟩ => ⟨e, s0, k0, _, g, (mo e).mono (fun d _ z v H1 k1 g1 r1 => ?_) (fun _ _ z => z) q⟩
  obtain ⟨hd, z⟩ := z
  subst hd
  simp only [Rep] at r1
  obtain ⟨kvs, h1, h2⟩ := F.get _ H1 g1
  obtain ⟨vs, h3, rl⟩ := F.lst _ H1 g1
  have dg := DGet.k (k := .inr key) h1
  rw [h2] at dg
  refine ⟨st, .ref c, r1, dg, .inr ⟨c, vs, rfl, .inl (.inl h3), ?_⟩⟩
  rw [hK]
  refine z _ H1 k1 g1 fun γ2 H2 kf g2 => ?_
  obtain ⟨vs2, h4, rl2⟩ := F.lst _ H2 g2
  exact walk_list (R := fun A B => A = B) rl2 (fun H3 e => by cases e; exact ⟨.inl (.inl h4), rl2⟩) γ2 H2 rfl g2
/-- int(x) of an int -/
@[simp] def toInt : D → M D
  | .int i => pure (.int i)
  | _ => M.fail
theorem dp_intOf (hm : X.mg "int" = none) (ha : PE X a (lift1 W H0 E ma)) (hg : Gl X "int" := by rfl) (he : starEach [a] X.env = (false, eval a X.env) :: starEach [] X.env := by rfl) :
    PE X (.Call (.Name "int" p) [a] [] pos) (lift W H0 E fun e => do let x ← ma e; toInt x) :=
  PE.imp (pe_callTy call_int1 hg hm (by decide +kernel) (pa_cons ha pa_nil he) (he := he)) fun σ H Q ⟨e, s0, k0, _, g, q⟩ => ⟨e, s0, k0, _, g, (ma e).mono (fun d _ z v H1 k1 g1 r1 => by
    cases d <;> first | exact z.elim | skip
    rename_i n
    simp only [Rep1, Rep] at r1
    exact .inl ⟨n, by rw [r1], z _ H1 k1 g1 (by simp only [Rep])⟩) (fun _ _ z => z) q⟩
end
section
variable {X : Cx} {W : Wd}
/-- a loop, by an invariant -/
theorem forM_inv {gd : D → DE → M DE} {m : DE → M R} {P : R → Gh → Prop} {X : Addr → Gh → Prop} (I : DE → Gh → Prop) : ∀ {xs : List D} {e : DE} {γ : Gh},
    (∀ x ∈ xs, ∀ e γ, I e γ → (gd x e).run γ (fun e1 γ1 => (m e1).run γ1 (fun r γ2 => match r with | .nx e' => I e' γ2 | .ct e' => I e' γ2 | .bk e' => P (.nx e') γ2 | .rt d => P (.rt d) γ2) X) X) → I e γ → (∀ e γ, I e γ → P (.nx e) γ) → (forM gd m xs e).run γ P X := by
  intro xs
  induction xs with
  | nil => intro e γ _ hi he; exact he e γ hi
  | cons x xs ih =>
    intro e γ h hi he
    have h1 := h x List.mem_cons_self e γ hi
    have ih := fun {e γ} => ih (e := e) (γ := γ) fun y hy => h y (List.mem_cons_of_mem _ hy)
    refine (gd x e).mono (fun e1 γ1 z => ?_) (fun _ _ z => z) h1
    refine (m e1).mono (fun r γ2 z => ?_) (fun _ _ z => z) z
    cases r with
    | nx e' => exact ih z he
    | ct e' => exact ih z he
    | bk e' => exact z
    | rt d => exact z
/-- the state of the draws: what was great, what is left, how many blends -/
def Dr (k : Int) (γ : Gh) : Prop := ∃ (gs : List Int) (l t : Int), γ = [.lst (gs.map .int), .int l, .int t] ∧ (∀ g ∈ gs, 0 ≤ g) ∧ 0 ≤ l ∧ 0 ≤ t ∧ t ≤ k
def blendM : M D := ⟨fun γ P _ => ∃ k, k < 2 ^ 40 ∧ Dr k γ ∧ ∀ a γ', 0 ≤ a → Dr (k + 1) γ' → γ'[0]? = γ[0]? → γ'[1]? = γ[1]? → P (.int a) γ', fun h _ ⟨k, a, b, q⟩ => ⟨k, a, b, fun x γ' h1 h2 h3 h4 => h _ _ (q x γ' h1 h2 h3 h4)⟩⟩
def drawM (n : Int) : M D := ⟨fun γ P _ => 0 < n ∧ n < 2 ^ 64 ∧ ∃ k, k < 2 ^ 40 ∧ Dr k γ ∧ ∀ a γ', 0 ≤ a → a < n → Dr (k + 1) γ' → P (.int a) γ', fun h _ ⟨n1, n2, k, a, b, q⟩ => ⟨n1, n2, k, a, b, fun x γ' h1 h2 h3 => h _ _ (q x γ' h1 h2 h3)⟩⟩
@[simp] theorem run_blendM {γ : Gh} {X : Addr → Gh → Prop} (P : D → Gh → Prop) : blendM.run γ P X = ∃ k, k < 2 ^ 40 ∧ Dr k γ ∧ ∀ a γ', 0 ≤ a → Dr (k + 1) γ' → γ'[0]? = γ[0]? → γ'[1]? = γ[1]? → P (.int a) γ' := rfl
@[simp] theorem run_drawM {γ : Gh} {X : Addr → Gh → Prop} (n : Int) (P : D → Gh → Prop) : (drawM n).run γ P X = (0 < n ∧ n < 2 ^ 64 ∧ ∃ k, k < 2 ^ 40 ∧ Dr k γ ∧ ∀ a γ', 0 ≤ a → a < n → Dr (k + 1) γ' → P (.int a) γ') := rfl
def F_blended (st : Addr) : List D → M D
  | [d] => do M.isSt st d; blendM
  | _ => M.fail
def F_draw (st : Addr) : List D → M D
  | [d, .int n] => do M.isSt st d; drawM n
  | _ => M.fail
@[simp] def mulD : D → D → M D := onIg CMul fun i j => .int (i * j)
@[simp] def divD : D → D → M D := onIg CDivW fun i j => .int (i / j)
@[simp] def modD : D → D → M D := onIg (fun _ j => 0 < j) fun i j => .int (i % j)
@[simp] def powD : D → D → M D := onIg CPow fun i j => .int (i ^ j.toNat)
theorem opD_mul : OpD W (rI CMul fun i j => .int (i * j)) mulD := opD_Ig fun _ _ _ => by simp only [Rep]
theorem opD_div : OpD W (rI CDivW fun i j => .int (i / j)) divD := opD_Ig fun _ _ _ => by simp only [Rep]
theorem opD_mod : OpD W (rI (fun _ j => 0 < j) fun i j => .int (i % j)) modD := opD_Ig fun _ _ _ => by simp only [Rep]
theorem opD_pow : OpD W (rI CPow fun i j => .int (i ^ j.toNat)) powD := opD_Ig fun _ _ _ => by simp only [Rep]
end
end Dl

set_option maxRecDepth 100000
set_option maxHeartbeats 4100000
/-! sorted, list, pop: lists of data -/
namespace Dl
open L2 PySem PySem.Spec PyProof.Rows
theorem erase_perm {α : Type} : ∀ (l : List α) (m : Nat) (h : m < l.length), (l[m] :: l.eraseIdx m).Perm l
  | x :: l, 0, h => by simp
  | x :: l, m + 1, h => by
    have ih := erase_perm l m (by simpa using h)
    simp only [List.getElem_cons_succ, List.eraseIdx_cons_succ]
    exact (List.Perm.swap _ _ _).trans (ih.cons x)
/-- one of several -/
def pickM (xs : List D) : M D := ⟨fun γ P _ => xs ≠ [] ∧ xs.length < 2 ^ 60 ∧ ∃ k, k < 2 ^ 40 ∧ Dr k γ ∧ ∀ x γ', x ∈ xs → Dr (k + 1) γ' → P x γ', fun h _ ⟨n1, n2, k, a, b, q⟩ => ⟨n1, n2, k, a, b, fun x γ' h1 h2 => h _ _ (q x γ' h1 h2)⟩⟩
@[simp] theorem run_pickM {γ : Gh} {X : Addr → Gh → Prop} (xs : List D) (P : D → Gh → Prop) : (pickM xs).run γ P X = (xs ≠ [] ∧ xs.length < 2 ^ 60 ∧ ∃ k, k < 2 ^ 40 ∧ Dr k γ ∧ ∀ x γ', x ∈ xs → Dr (k + 1) γ' → P x γ') := rfl
def F_pick (st : Addr) : List D → M D
  | [d, .lst xs] => do M.isSt st d; pickM xs
  | [d, .tup xs] => do M.isSt st d; pickM xs
  | _ => M.fail
/-- all in a drawn sequence -/
def mixM (xs : List D) : M D := ⟨fun γ P _ => (∃ ps, toPyL xs = some ps) ∧ xs.length < 2 ^ 20 ∧ ∃ k : Int, k + xs.length < 2 ^ 40 ∧ Dr k γ ∧ ∀ ys γ', ys.Perm xs → Dr (k + xs.length) γ' → P (.lst ys) γ',
  fun h _ ⟨n0, n2, k, a, b, q⟩ => ⟨n0, n2, k, a, b, fun x γ' h1 h2 => h _ _ (q x γ' h1 h2)⟩⟩
@[simp] theorem run_mixM {γ : Gh} {X : Addr → Gh → Prop} (xs : List D) (P : D → Gh → Prop) : (mixM xs).run γ P X = ((∃ ps, toPyL xs = some ps) ∧ xs.length < 2 ^ 20 ∧ ∃ k : Int, k + xs.length < 2 ^ 40 ∧ Dr k γ ∧ ∀ ys γ', ys.Perm xs → Dr (k + xs.length) γ' → P (.lst ys) γ') := rfl
def F_mixed (st : Addr) : List D → M D
  | [d, .lst xs] => do M.isSt st d; mixM xs
  | [d, .tup xs] => do M.isSt st d; mixM xs
  | _ => M.fail
/-- a rising row of numbers below many -/
def RowB (many : Int) (ns : List Int) : Prop := chainB (fun i j => decide (i < j)) ns = true ∧ ∀ n ∈ ns, 0 ≤ n ∧ n < many
def someM (many : Int) : M D := ⟨fun γ P _ => 1 ≤ many ∧ many ≤ 8 ∧ ∃ k : Int, k + 20 < 2 ^ 40 ∧ Dr k γ ∧ ∀ ns γ', RowB many ns → 1 ≤ ns.length → ns.length ≤ 3 → Dr (k + 20) γ' → P (.tup (ns.map .int)) γ',
  fun h _ ⟨n0, n2, k, a, b, q⟩ => ⟨n0, n2, k, a, b, fun x γ' h1 h2 h3 h4 => h _ _ (q x γ' h1 h2 h3 h4)⟩⟩
@[simp] theorem run_someM {γ : Gh} {X : Addr → Gh → Prop} (many : Int) (P : D → Gh → Prop) : (someM many).run γ P X = (1 ≤ many ∧ many ≤ 8 ∧ ∃ k : Int, k + 20 < 2 ^ 40 ∧ Dr k γ ∧ ∀ ns γ', RowB many ns → 1 ≤ ns.length → ns.length ≤ 3 → Dr (k + 20) γ' → P (.tup (ns.map .int)) γ') := rfl
def F_some (st : Addr) : List D → M D
  | [d, .int many] => do M.isSt st d; someM many
  | _ => M.fail
theorem Dr.le {k k' : Int} {γ : Gh} (h : Dr k γ) (l : k ≤ k') : Dr k' γ := by
  obtain ⟨gs, l', t, e, a, b, c, d⟩ := h
  exact ⟨gs, l', t, e, a, b, c, by omega⟩
/-- a datum as what is compared -/
def pyD (d : D) : PyData := (toPy d).getD .none
def leD (a b : D) : Bool := PySem.W.dataLe false pyD a b
def sortDs (xs : List D) : List D := xs.mergeSort leD
theorem toPyL_map : ∀ {xs : List D} {ps : List PyData}, toPyL xs = some ps → ps = xs.map pyD ∧ ∀ x ∈ xs, toPy x = some (pyD x)
  | [], ps, h => by simp only [toPyL, Option.some.injEq] at h; subst h; exact ⟨rfl, fun x hx => nomatch hx⟩
  | x :: xs, ps, h => by
    simp only [toPyL, Option.bind_eq_some_iff, Option.map_eq_some_iff] at h
    obtain ⟨a, h1, b, h2, rfl⟩ := h
    obtain ⟨e1, e2⟩ := toPyL_map h2
    have e : toPy x = some (pyD x) := by unfold pyD; rw [h1]; rfl
    have ea : a = pyD x := by rw [h1] at e; exact Option.some.inj e
    refine ⟨by rw [List.map_cons, ← e1, ← ea], fun y hy => ?_⟩
    obtain rfl | hy := List.mem_cons.mp hy
    · exact e
    · exact e2 y hy
theorem toPyL_mem : ∀ {xs : List D}, (∀ x ∈ xs, ∃ p, toPy x = some p) → ∃ ps, toPyL xs = some ps
  | [], _ => ⟨[], rfl⟩
  | x :: xs, h => by
    obtain ⟨p, h1⟩ := h x List.mem_cons_self
    obtain ⟨ps, h2⟩ := toPyL_mem fun y hy => h y (List.mem_cons_of_mem _ hy)
    exact ⟨p :: ps, by simp [h1, h2]⟩
@[simp] theorem depth_nilL : (PyData.list []).depth = 1 := rfl
@[simp] theorem eqv_nilL (ls : List PyData) : PyData.eqv (.list ls) (.list []) = ls.isEmpty := by cases ls <;> simp [PyData.eqv, PyData.eqvAll]
theorem each_rep {K : PySem.W.Frag} {H : Hp} : ∀ {xs : List D} {ws : List V} {us : List Value}, RepL K H xs ws → Vals ws us → PySem.W.EachIs (fun (v : Value) (b : D × V) => RelV b.2 v ∧ Rep K H b.1 b.2) us (xs.zip ws)
  | [], ws, us, h, r => by
    simp only [RepL] at h
    subst h
    cases r
    exact .nil
  | x :: xs, ws, us, h, r => by
    simp only [RepL] at h
    obtain ⟨v, vs, rfl, h1, h2⟩ := h
    cases r with
    | cons r1 r2 => exact .cons ⟨r1, h1⟩ (each_rep h2 r2)
theorem each_out {K : PySem.W.Frag} {H : Hp} : ∀ {us : List Value} {bs : List (D × V)}, PySem.W.EachIs (fun (v : Value) (b : D × V) => RelV b.2 v ∧ Rep K H b.1 b.2) us bs → Vals (bs.map (·.2)) us ∧ RepL K H (bs.map (·.1)) (bs.map (·.2))
  | _, _, .nil => ⟨.nil, by simp only [List.map_nil, RepL]⟩
  | _, _, .cons h t => by
    obtain ⟨t1, t2⟩ := each_out t
    exact ⟨.cons h.1 t1, by simp only [List.map_cons, RepL]; exact ⟨_, _, rfl, h.2, t2⟩⟩
theorem each_of {α β : Type} {R R' : α → β → Prop} : ∀ {as : List α} {bs : List β}, PySem.W.EachIs R as bs → (∀ a b, b ∈ bs → R a b → R' a b) → PySem.W.EachIs R' as bs
  | _, _, .nil, _ => .nil
  | _, _, .cons h t, q => .cons (q _ _ List.mem_cons_self h) (each_of t fun a b hb => q a b (List.mem_cons_of_mem _ hb))
theorem zip_fst {xs : List D} {ws : List V} (h : ws.length = xs.length) : (xs.zip ws).map (·.1) = xs := List.map_fst_zip (by omega)
def SortOk (xs : List D) : Prop := ∃ ps, toPyL xs = some ps ∧ PySem.W.AllAlike ps ∧ PySem.W.Sortable ps ∧ xs.length ≤ sizeLine ∧ ∀ p ∈ ps, p.depth ≤ 10
def rSortedD (K : PySem.W.Frag) : List V → Hp → VK → Prop := fun vs H Q => ∃ a ws xs, vs = [.ref a] ∧ SqL K H a ws ∧ RepL K H xs ws ∧ SortOk xs ∧ ∀ p ys, H p = none → RepL K H (sortDs xs) ys → Q (.ref p) (upd H p (.lst ys))
theorem call_sortedD {X : Cx} (hu : X.A.units + 100 < cLine) : CallR X (.builtin "sorted") (rSortedD X.K) := by
  intro pins s σ H vs us Q I r ⟨a, ws, xs, e, sq, rl, ⟨ps, hp, hal, hso, hlen, hde⟩, q⟩
  subst e
  rw [Vals.ref1 r]
  obtain ⟨its, rv, pl, hz⟩ := I.list sq
  obtain ⟨ep, hx⟩ := toPyL_map hp
  have hl := rl.len
  have e := each_rep rl rv
  have em : (xs.zip ws).map (fun b => pyD b.1) = ps := by
    have := List.map_map (g := pyD) (f := fun b : D × V => b.1) (l := xs.zip ws)
    rw [zip_fst hl] at this
    rw [ep, this]
    rfl
  have mem : ∀ b ∈ xs.zip ws, toPy b.1 = some (pyD b.1) := fun b hb => hx b.1 (by
    have := List.mem_map_of_mem (f := fun b : D × V => b.1) hb
    rwa [zip_fst hl] at this)
  refine PySem.W.sorted_data (enc := fun b : D × V => pyD b.1) (bs := xs.zip ws) pl.isList e (each_of e fun v b hb ⟨h1, h2⟩ => Dp.reads I _ _ _ (rep_dp _ _ _ (mem b hb) h2) h1) (by rw [em]; exact hal) (by rw [em]; exact hso) (by rw [List.length_zip]; omega)
    (fun b hb => by
      have := hde (pyD b.1) (by rw [← em]; exact List.mem_map_of_mem (f := fun b : D × V => pyD b.1) hb)
      omega) fun out ho eo => ?_
  obtain ⟨o1, o2⟩ := each_out eo
  have em2 : ((xs.zip ws).mergeSort (PySem.W.dataLe false fun b : D × V => pyD b.1)).map (·.1) = sortDs xs := by
    unfold sortDs
    have := List.map_mergeSort (r := PySem.W.dataLe false fun b : D × V => pyD b.1) (s := leD) (f := fun b : D × V => b.1) (l := xs.zip ws) (fun a _ b _ => rfl)
    rw [zip_fst hl] at this
    exact this
  rw [em2] at o2
  have hlo := o2.len
  have hlo2 : (sortDs xs).length = xs.length := List.length_mergeSort _
  obtain ⟨c, hc⟩ := sortedAll_at s.heap its out.toArray
  have k : ∀ b o, s.heap.get? b = some o → (sortedAll s.heap its out.toArray).get? b = some o := fun b o e => sortedAll_old e
  have hn : H (s.heap.objs.size + 1) = none := I.hok.fresh (Nat.le_succ _)
  refine ⟨.ref (s.heap.objs.size + 1), L2.upd H (s.heap.objs.size + 1) (.lst ((List.mergeSort (xs.zip ws) (PySem.W.dataLe false fun b : D × V => pyD b.1)).map (·.2))), I.call (ch := []) (d' := s.drawn) (t' := s.toks) (g' := s.gens) (Un.laid k (Nat.le_succ _) hn) (I.hok.laid k (Nat.le_succ _) ⟨by rw [hlo, hlo2]; exact hlen, out, c, o1, hc⟩) I.bare (fun _ z => nomatch z), rfl, q _ _ hn o2⟩
section
variable {X : Cx} {W : Wd} {H0 : Hp} {E : XK} {pos p : Pos} {a : Expr} {ma : DE → M D}
@[simp] def sortedM : D → M (List D)
  | .lst xs => do M.need (SortOk xs); pure (sortDs xs)
  | _ => M.fail
theorem do_sorted (hK : X.K = W.K) (hu : X.A.units + 100 < cLine) (hm : X.mg "sorted" = none) (ha : PE X a (lift1 W H0 E ma)) (hg : Gl X "sorted" := by rfl) (he : starEach [a] X.env = (false, eval a X.env) :: starEach [] X.env := by rfl) :
    PE X (.Call (.Name "sorted" p) [a] [] pos) (liftO W H0 E fun e => do let x ← ma e; sortedM x) :=
  PE.imp (pe_callB (call_sortedD hu) hg hm (by decide +kernel) (pa_cons ha pa_nil he) (he := he)) fun σ H Q ⟨e, s0, k0, _, g, q⟩ => ⟨e, s0, k0, _, g, (ma e).mono (fun d _ z v H1 k1 g1 r1 => by
    cases d <;> first | exact z.elim | skip
    obtain ⟨z1, z2⟩ := z
    obtain ⟨b, vs, rfl, sq, rl⟩ := r1.sq
    refine ⟨b, vs, _, rfl, by rw [hK]; exact sq, by rw [hK]; exact rl, z1, fun q ys hq ry => ?_⟩
    rw [hK] at ry
    exact z2 q ys _ (k1.freed hq g g1) (k1.trans (Keep.new hq)) (gnew g1 hq) upd_same (ry.keep g1 (Keep.new hq)) (nS g1 hq)) (fun _ _ z => z) q⟩
/-- list(x), a new list -/
theorem do_listOf (hK : X.K = W.K) (hm : X.mg "list" = none) (ha : PE X a (lift1 W H0 E ma)) (hg : Gl X "list" := by rfl) (he : starEach [a] X.env = (false, eval a X.env) :: starEach [] X.env := by rfl) :
    PE X (.Call (.Name "list" p) [a] [] pos) (liftO W H0 E fun e => do let x ← ma e; itD x) :=
  PE.imp (pe_callTy call_list_of hg hm (by decide +kernel) (pa_cons ha pa_nil he) (he := he)) fun σ H Q ⟨e, s0, k0, _, g, q⟩ => ⟨e, s0, k0, _, g, (ma e).mono (fun d _ z v H1 k1 g1 r1 => by
    cases d <;> first | exact z.elim | skip
    · simp only [Rep1, Rep] at r1
      obtain ⟨b, vs, rfl, sq, rl⟩ := r1
      exact ⟨b, vs, rfl, .inr (by rw [hK]; exact sq.sq), fun q hq => z q vs _ (k1.freed hq g g1) (k1.trans (Keep.new hq)) (gnew g1 hq) upd_same (rl.keep g1 (Keep.new hq)) (nS g1 hq)⟩
    · obtain ⟨b, vs, rfl, sq, rl⟩ := r1.sq
      exact ⟨b, vs, rfl, .inl (by rw [hK]; exact sq), fun q hq => z q vs _ (k1.freed hq g g1) (k1.trans (Keep.new hq)) (gnew g1 hq) upd_same (rl.keep g1 (Keep.new hq)) (nS g1 hq)⟩) (fun _ _ z => z) q⟩
theorem rgV_rep {K : PySem.W.Frag} {H : Hp} (n : Int) : RepL K H (rangeD 0 n) (rgV 0 n) := by
  have key : ∀ (l : List Nat), RepL K H (l.map fun (k : Nat) => D.int (0 + k)) (l.map fun i => V.int (0 + (i : Nat))) := fun l => by
    induction l with
    | nil => simp only [List.map_nil, RepL]
    | cons x l ih => simp only [List.map_cons, RepL]; exact ⟨_, _, rfl, by simp only [Rep], ih⟩
  exact key _
/-- list(range(n)) -/
theorem do_listRg {rp rpos : Pos} (hc : X.calm = true) (hl : X.mg "list" = none) (hm : X.mg "range" = none) (ha : PE X a (lift1 W H0 E ma)) (hgl : Gl X "list" := by rfl) (hg : Gl X "range" := by rfl)
    (na : starEach [a] X.env = (false, eval a X.env) :: starEach [] X.env := by rfl) (nb : starEach [.Call (.Name "range" rp) [a] [] rpos] X.env = (false, eval (.Call (.Name "range" rp) [a] [] rpos) X.env) :: starEach [] X.env := by rfl) :
    PE X (.Call (.Name "list" p) [.Call (.Name "range" rp) [a] [] rpos] [] pos) (liftO W H0 E fun e => do
      let x ← ma e
      match x with
      | .int n => do M.need (0 ≤ n ∧ n ≤ 16777216); pure (rangeD 0 n)
      | _ => M.fail) :=
  PE.imp (pe_listRg hc hgl hl (prg_1 hg hm ha na) nb) fun σ H Q ⟨e, s0, k0, _, g, q⟩ => ⟨e, s0, k0, _, g, (ma e).mono (fun d _ z v H1 k1 g1 r1 => by
    cases d <;> first | exact z.elim | skip
    rename_i n
    obtain ⟨⟨n0, n1⟩, z⟩ := z
    simp only [Rep1, Rep] at r1
    exact ⟨n, r1, RgOk.of_le (by omega) n1 (by omega) n0, fun q hq => z q _ _ (k1.freed hq g g1) (k1.trans (Keep.new hq)) (gnew g1 hq) upd_same (rgV_rep n) (nS g1 hq)⟩) (fun _ _ z => z) q⟩
theorem h0_none {H : Hp} {b : Addr} (k0 : Keep W H0 H) (hn : H b = none) (hs : ¬ W.S b) : H0 b = none := by
  cases q : H0 b with
  | none => rfl
  | some o => rw [k0 b o q hs] at hn; cases hn
/-- x, y = two new lists -/
theorem ds_parO {i j : Nat} {x y : Str} {b : Expr} {m1 m2 : DE → M (List D)} {px py pt : Pos} {kt k2 pt2} (hc : X.calm = true) (hN : X.N.Nodup) (h1 : PE X a (liftO W H0 E m1)) (h2 : PE X b (liftO W H0 E m2)) (hi : X.N[i]? = some x := by rfl) (hj : X.N[j]? = some y := by rfl) (hij : i ≠ j := by decide)
    (hx : X.env.scope.names.lookup x = some .local := by rfl) (hy : X.env.scope.names.lookup y = some .local := by rfl)
    (hw : swappedStores [.Tuple [.Name x px, .Name y py] kt pt] (.Tuple [a, b] k2 pt2) X.env = pure (some [x, y]) := by rfl)
    (hsw : swapsWithSole [.Tuple [.Name x px, .Name y py] kt pt] (.Tuple [a, b] k2 pt2) pos.line X.env = pure false := by rfl)
    (he1 : starEach [a, b] X.env = (false, eval a X.env) :: starEach [b] X.env := by rfl) (he2 : starEach [b] X.env = (false, eval b X.env) :: starEach [] X.env := by rfl) :
    PS X (.Assign [.Tuple [.Name x px, .Name y py] kt pt] (.Tuple [a, b] k2 pt2) pos) (liftS W H0 E fun e => do let xs ← m1 e; let ys ← m2 e; pure (.nx (setO j ys (setO i xs e)))) :=
  PS.imp (ps_par hc hN hi hj hij hx hy (pa_cons h1 (pa_cons h2 pa_nil he2) he1) hw hsw) fun Dn σ H ⟨e, s0, k0, _, g, q⟩ => ⟨e, s0, k0, _, g, (m1 e).mono (fun xs _ z a1 vs H1 hn k1 g1 ha1 r1 hs1 => by
    have st1 : StOk W H0 H1 (σ.set i (some (.ref a1))) (setO i xs e) := (s0.keep g k1).seto ha1 r1 (h0_none k0 hn hs1) hs1 fun j ys hj q1 q2 => by
      obtain ⟨p, ws, e1, e2, _⟩ := s0.owo j ys q1
      rw [q2] at e1
      cases e1
      rw [hn] at e2; cases e2
    refine ⟨e, s0.keep g k1, k0.trans k1, _, g1, (m2 e).mono (fun ys _ z2 a2 ws H2 hn2 k2 g2 ha2 r2 hs2 => ?_) (fun _ _ z => z) z⟩
    refine ⟨.ref a1, .ref a2, rfl, z2 _ H2 ((st1.keep g1 k2).seto ha2 r2 (h0_none (k0.trans k1) hn2 hs2) hs2 fun l zs hl q1 q2 => ?_) ((k0.trans k1).trans k2) ((k1.trans k2).toF g) g2⟩
    obtain ⟨p, us, e1, e2, _⟩ := st1.owo l zs q1
    rw [q2] at e1
    cases e1
    rw [hn2] at e2; cases e2) (fun _ _ z => z) q⟩
theorem RepL.erase {K : PySem.W.Frag} {H : Hp} {xs : List D} {vs : List V} (r : RepL K H xs vs) (n : Nat) : RepL K H (xs.eraseIdx n) (vs.eraseIdx n) := by
  rw [List.eraseIdx_eq_take_drop_succ, List.eraseIdx_eq_take_drop_succ]
  exact (r.take n).app (r.drop (n + 1))
/-- x.append(y.pop(e)), both one's own -/
@[simp] def appPopM (i j : Nat) (ma : DE → M D) : DE → M R := fun e => match (e[i]? : Option (Option SD)), (e[j]? : Option (Option SD)) with
  | some (some (.ow (.lst ys))), some (some (.ow (.lst xs))) => do
    let d ← ma e
    match d with
    | .int n => match (if 0 ≤ n ∧ n < xs.length then xs[n.toNat]? else none) with
      | some y => do M.need (ys.length < sizeLine ∧ xs.length < 2 ^ 60); pure (.nx (setO i (ys ++ [y]) (setO j (xs.eraseIdx n.toNat) e)))
      | none => M.fail
    | _ => M.fail
  | _, _ => M.fail
theorem ds_appPop (i j : Nat) {x y : Str} {cpos apos cpos2 apos2 p2 : Pos} (ha : PE X a (lift W H0 E ma)) (hij : i ≠ j := by decide) (hN : X.N[i]? = some x := by rfl) (hN2 : X.N[j]? = some y := by rfl) (hv : Vis X.env.scope x := by first | exact Or.inl rfl | exact Or.inr (Or.inl rfl) | exact Or.inr (Or.inr rfl))
    (hv2 : Vis X.env.scope y := by first | exact Or.inl rfl | exact Or.inr (Or.inl rfl) | exact Or.inr (Or.inr rfl)) (hd : (x == ("__debug__" : Str)) = false := by decide) (hcd : (x == ("__classdict__" : Str)) = false := by decide) (hd2 : (y == ("__debug__" : Str)) = false := by decide) (hcd2 : (y == ("__classdict__" : Str)) = false := by decide)
    (hw : swapsWith (.Call (.Attribute (.Name x p) "append" apos) [.Call (.Attribute (.Name y p2) "pop" apos2) [a] [] cpos2] [] cpos) none pos.line X.env = pure false := by rfl)
    (hbase : attributeBase (.Name x p) "append" X.env (eval (.Name x p) X.env) = eval (.Name x p) X.env := by rfl) (hbase2 : attributeBase (.Name y p2) "pop" X.env (eval (.Name y p2) X.env) = eval (.Name y p2) X.env := by rfl)
    (hline : (apos.endLine == cpos.line) = true := by rfl) (hline2 : (apos2.endLine == cpos2.line) = true := by rfl) (na : starEach [a] X.env = (false, eval a X.env) :: starEach [] X.env := by rfl)
    (hfew : ((backTo cpos2 (starEach [a] X.env)).all (fun x => !x.1) && (backToKw cpos2 (keywordEach [] X.env)).all (fun x => x.1.isSome)
      && decide ([a].length + ([] : List Keyword).length + (if ([] : List Keyword).isEmpty then 0 else 1) < 30)) = true := by rfl) :
    PS X (.Expr (.Call (.Attribute (.Name x p) "append" apos) [.Call (.Attribute (.Name y p2) "pop" apos2) [a] [] cpos2] [] cpos) pos) (liftS W H0 E (appPopM i j ma)) := by
  refine PS.imp (ps_expr (pe_bm PySem.F.plainAttrs_list PySem.F.slot_list_append PySem.F.type_list_append mt_append (pe_var hN hv hd hcd)
    (pa_cons (pe_bm PySem.F.plainAttrs_list PySem.F.slot_list_pop PySem.F.type_list_pop mt_popAt (pe_var hN2 hv2 hd2 hcd2) (pa_cons ha pa_nil na) hbase2 hfew hline2 na (by rfl)) pa_nil (by rfl)) hbase (by rfl) hline (by rfl) (by rfl)) hw) fun Dn σ H ⟨e, s, k0, _, g, q⟩ => ?_
  unfold appPopM at q
  split at q
  · rename_i ys xs hy hx
    obtain ⟨l, vs, e1, e2, e3, e4, e5⟩ := s.own i ys hy
    obtain ⟨m, us, f1, f2, f3, f4, f5⟩ := s.own j xs hx
    have hlm : l ≠ m := fun z => hij (s.diso i j _ _ l hy hx e1 (by rw [f1, z]))
    refine ⟨_, e1, .inl ⟨rfl, _, .inl (.inl e2)⟩, _, f1, .inl ⟨rfl, _, .inl (.inl f2)⟩, e, s, k0, _, g, (ma e).mono (fun d _ z v H' k g' r => ?_) (fun _ _ z => z) q⟩
    cases d <;> first | exact z.elim | skip
    rename_i n
    simp only at z
    split at z
    · rename_i w hw
      split at hw
      · rename_i hn
        obtain ⟨z1, z2⟩ := z
        simp only [Rep] at r
        have f2' := k m _ f2 f5
        have e2' := k l _ e2 e5
        have rx := f3.keep g k
        obtain ⟨wv, g1, g2⟩ := rx.get' hw
        have kf := kf_own (o := .lst (us.eraseIdx n.toNat)) f2'
        have e2'' : L2.upd H' m (.lst (us.eraseIdx n.toNat)) l = some (.lst vs) := by rw [upd_ne hlm]; exact e2'
        refine ⟨m, us, n, n.toNat, wv, rfl, by rw [r], f2', by omega, by omega, ?_, g1, ?_⟩
        · rw [rx.len]
          unfold seqIndex?
          have : ¬ n < 0 := by omega
          simp [this, hn.1, hn.2]
        · have st1 := (s.keep g k).upd hx f1 f2' f4 f5 rx (rx.erase n.toNat)
          have hy1 : (setO j (xs.eraseIdx n.toNat) e)[i]? = some (some (SD.own ys)) := by
            unfold setO
            rw [List.getElem?_set_ne (Ne.symm hij)]
            exact hy
          have ry := RepL.keepF kf _ _ (e3.keep g k)
          have rw1 : Rep W.K _ w wv := Rep.keepF kf _ _ g2
          refine ⟨l, vs, wv, rfl, rfl, e2'', by rw [e3.len]; exact z1.1, z2 σ _ (st1.upd hy1 e1 e2'' e4 e5 ry (ry.app (by simp only [RepL]; exact ⟨wv, [], rfl, rw1, rfl⟩))) (keep_own (keep_own (k0.trans k) f4) e4) (((k.toF g).trans kf).trans (kf_own e2'')) (g_own (g_own g' f5 f2') e5 e2'')⟩
      · cases hw
    · exact z.elim
  · exact q.elim
/-- min(a, b), max(a, b) -/
@[simp] def minD : D → D → M D
  | .int i, .int j => pure (.int (if j < i then j else i))
  | _, _ => M.fail
theorem dp_min {b : Expr} {mb : DE → M D} (hc : X.calm = true) (hm : X.mg "min" = none) (ha : PE X a (lift W H0 E ma)) (hb : PE X b (lift W H0 E mb)) (hg : Gl X "min" := by rfl) (he : starEach [a, b] X.env = (false, eval a X.env) :: starEach [b] X.env := by rfl) (he2 : starEach [b] X.env = (false, eval b X.env) :: starEach [] X.env := by rfl)
    (hpl : (backTo pos (starEach [b] X.env)).any (·.1) = false := by rfl) :
    PE X (.Call (.Name "min" p) [a, b] [] pos) (lift W H0 E (bin minD ma mb)) :=
  PE.imp (pe_callB (call_min2 hc) hg hm (by decide +kernel) (pa_cons ha (pa_cons hb pa_nil he2) he) (he := he) (hpl := hpl)) fun σ H Q ⟨e, s0, k0, _, g, q⟩ => ⟨e, s0, k0, _, g, (ma e).mono (fun d _ zo v H1 k1 g1 r1 =>
    ⟨e, s0.keep g k1, k0.trans k1, _, g1, (mb e).mono (fun d2 _ z v2 H2 k2 g2 r2 => by
      cases d <;> first | exact z.elim | skip
      rename_i i
      cases d2 <;> first | exact z.elim | skip
      rename_i j
      have r1 := r1.keep g1 k2
      simp only [Rep] at r1 r2
      exact ⟨i, j, by rw [r1, r2], z _ H2 (k1.trans k2) g2 (by simp only [Rep])⟩) (fun _ _ z => z) zo⟩) (fun _ _ z => z) q⟩
end
theorem pyD_int (i : Int) : pyD (.int i) = .int i := rfl
theorem leD_int (i j : Int) : leD (.int i) (.int j) = decide (i ≤ j) := by
  show (!PySem.W.dataLt (.int j) (.int i)) = _
  rw [PySem.W.dataLt_int]
  exact PySem.W.not_lt_int i j
theorem sort_ints (ns : List Int) : sortDs (ns.map .int) = (ns.mergeSort (fun i j => decide (i ≤ j))).map .int := by
  unfold sortDs
  rw [List.map_mergeSort (s := leD) (f := D.int) (fun a _ b _ => (leD_int a b).symm)]
theorem sortOk_ints {ns : List Int} (h : ns.length ≤ sizeLine) : SortOk (ns.map .int) := by
  refine ⟨ns.map .int, toPyL_int ns, PySem.W.AllAlike.of (enc := PyData.int) (fun _ _ => by simp [PySem.W.alike]), PySem.W.Sortable.others (enc := PyData.int) (fun b => ⟨by simp, by simp⟩), by simpa using h, fun p hp => ?_⟩
  obtain ⟨i, _, rfl⟩ := List.mem_map.mp hp
  exact Nat.zero_le _
/-- distinct ints, sorted: a rising row -/
theorem chain_of_sorted : ∀ {ns : List Int}, ns.Pairwise (fun i j => i ≤ j) → ns.Nodup → chainB (fun i j => decide (i < j)) ns = true
  | [], _, _ => rfl
  | [_], _, _ => rfl
  | x :: y :: r, h, hn => by
    rw [List.pairwise_cons] at h
    rw [List.nodup_cons] at hn
    rw [chainB, chain_of_sorted h.2 hn.2, Bool.and_true, decide_eq_true_eq]
    have h1 := h.1 y List.mem_cons_self
    have h2 : x ≠ y := fun e => hn.1 (by rw [e]; exact List.mem_cons_self)
    omega
theorem row_sorted {many : Int} {ns : List Int} (hn : ns.Nodup) (hb : ∀ n ∈ ns, 0 ≤ n ∧ n < many) : RowB many (ns.mergeSort (fun i j => decide (i ≤ j))) := by
  have p := List.mergeSort_perm ns (fun i j => decide (i ≤ j))
  refine ⟨chain_of_sorted ?_ (p.nodup_iff.mpr hn), fun n hm => hb n (p.subset hm)⟩
  have := List.pairwise_mergeSort (le := fun (i j : Int) => decide (i ≤ j)) (fun a b c h1 h2 => by simp at h1 h2 ⊢; omega) (fun a b => by simp; omega) ns
  exact this.imp fun h => by simpa using h
/-- 0, 1, .. n - 1 -/
def rngI (n : Int) : List Int := (List.range n.toNat).map fun (k : Nat) => (k : Int)
theorem rangeD_rng (n : Int) : rangeD 0 n = (rngI n).map .int := by
  unfold rangeD rngI
  rw [List.map_map, Int.sub_zero]
  apply List.map_congr_left
  intro k _
  show D.int (0 + (k : Int)) = D.int k
  rw [Int.zero_add]
theorem rng_len (n : Int) : (rngI n).length = n.toNat := by unfold rngI; simp
theorem rng_mem {n k : Int} : k ∈ rngI n ↔ 0 ≤ k ∧ k < n := by
  unfold rngI
  simp only [List.mem_range, List.mem_map]
  exact ⟨fun ⟨m, h, e⟩ => by omega, fun h => ⟨k.toNat, by omega, by omega⟩⟩
theorem rng_nodup (n : Int) : (rngI n).Nodup := by
  unfold rngI
  exact List.Pairwise.map (S := (· ≠ ·)) _ (fun (a b : Nat) (h : a ≠ b) (e : (a : Int) = b) => h (by omega)) List.nodup_range
def toI : D → Int
  | .int i => i
  | _ => 0
theorem ints_back : ∀ {xs : List D}, (∀ x ∈ xs, ∃ i, x = .int i) → xs = (xs.map toI).map .int
  | [], _ => rfl
  | x :: xs, h => by
    obtain ⟨i, rfl⟩ := h x List.mem_cons_self
    rw [List.map_cons, List.map_cons, ← ints_back fun y hy => h y (List.mem_cons_of_mem _ hy)]
    rfl
theorem perm_ints {ys : List D} {ms : List Int} (h : ys.Perm (ms.map .int)) : ∃ ns : List Int, ys = ns.map .int ∧ ns.Perm ms := by
  refine ⟨ys.map toI, ints_back fun x hx => ?_, ?_⟩
  · obtain ⟨i, _, e⟩ := List.mem_map.mp (h.subset hx)
    exact ⟨i, e.symm⟩
  · have := h.map toI
    rw [List.map_map] at this
    have e : ms.map (toI ∘ D.int) = ms := by
      show ms.map (fun i => i) = ms
      simp
    rwa [e] at this
theorem cut_to {xs : List D} {j : Int} (h0 : 0 ≤ j) (h1 : j ≤ xs.length) : cutD xs none (some j) = xs.take j.toNat := by
  obtain ⟨m, rfl⟩ : ∃ m : Nat, j = m := ⟨j.toNat, by omega⟩
  unfold cutD
  rw [HT.sIx_nat, HT.sIx_none, Nat.sub_zero, List.drop_zero, Nat.min_eq_left (by omega)]
  rfl
section
variable {X : Cx} {W : Wd} {H0 : Hp} {E : XK}
/-- x = [..] on one line, x a local that no block captures -/
theorem ds_setLc (i : Nat) {y : Str} {py : Pos} {elt tg iter : Expr} {ifs : List Expr} {scope : Scope} {own : List (Str × Nat)} {pos spos : Pos} {mi : DE → M (List D)} {g : TG} {gd : D → DE → M DE} {t : DE → M Bool} {f : DE → M D} (hc : X.calm = true) (hN : X.N.Nodup) (hi : PI X tg iter (liftI W H0 E mi)) (ok : BlkOk X.N X.env.scope scope own) (hgd : GD W g gd) (hgw : GW g (own.map (·.2)))
    (hg : ∀ (s : Shared) (H : Hp) (C : Addr) (cl : List (Str × Addr)) (fp : List Addr), PG (X.blk s H scope (compEnvC scope cl C X.env) fp) tg g) (ht : ∀ (s : Shared) (H : Hp) (C : Addr) (cl : List (Str × Addr)) (fp : List Addr), PTs (X.blk s H scope (compEnvC scope cl C X.env) fp) ifs (liftT W H0 E0 t))
    (he : ∀ (s : Shared) (H : Hp) (C : Addr) (cl : List (Str × Addr)) (fp : List Addr), PE (X.blk s H scope (compEnvC scope cl C X.env) fp) elt (lift W H0 E0 f)) (hy : X.N[i]? = some y := by rfl) (hyl : X.env.scope.names.lookup y = some .local := by rfl)
    (hsw : swapsWith (.ListComp elt [⟨tg, iter, ifs, 0⟩] scope pos) (some (.Name y py)) spos.line X.env = pure true := by rfl) (hs : ∀ x, foldedSetIterable iter X.env x = pure x := by intro _; rfl) :
    PS X (.Assign [.Name y py] (.ListComp elt [⟨tg, iter, ifs, 0⟩] scope pos) spos) (liftS W H0 E fun e => do let xs ← (do let xs ← mi e; M.need (xs.length ≤ sizeLine); compM gd t f (wipeE e (own.map (·.2))) xs); pure (.nx (setO i xs e))) :=
  PS.imp (ps_setLc hc hN hy hyl hsw hi ok hg ht he hs) fun Dn σ H ⟨e, s, k0, γ, g0, q⟩ => by
    have q : (do let xs ← mi e; M.need (xs.length ≤ sizeLine); compM gd t f (wipeE e (own.map (·.2))) xs : M (List D)).run γ (fun xs γ' => RQ W H0 H Dn (.nx (setO i xs e)) γ') (XD W H0 E) := q
    refine comp_lift (E := E) (H0 := H0) hgd hgw ⟨e, s, k0, γ, g0, M.mono _ (fun xs γ' z a vs H' hn k g' ha r hs1 => ?_) (fun _ _ z => z) q⟩
    refine z _ H' ((s.keep g0 k).seto ha r (h0_none k0 hn hs1) hs1 fun j ys hj q1 q2 => ?_) (k0.trans k) (k.toF g0) g'
    obtain ⟨p, ws, e1, e2, _⟩ := s.owo j ys q1
    rw [q2] at e1
    cases e1
    rw [hn] at e2; cases e2
end
/-- the scope of a comprehension; what a statement works out -/
def scLc : Expr → Scope → Scope
  | .ListComp _ _ sc _, _ => sc
  | .GeneratorExp _ _ sc _, _ => sc
  | _, s => s
def valOf : Stmt → Expr
  | .Assign _ v _ => v
  | .Return (some v) _ => v
  | .Expr v _ => v
  | .If c _ _ _ => c
  | _ => .Name "x" ⟨0, 0, 0, 0⟩
def rowD (ns : List Int) : D := .tup (ns.map .int)
theorem intsD_map : ∀ ns : List Int, intsD (ns.map .int) = some ns
  | [] => rfl
  | n :: ns => by simp [intsD, intsD_map ns]
theorem areBelow_row {many : Int} {ns : List Int} (hm : many ≤ 10 ^ 18) (h : RowB many ns) : areBelow many (rowD ns) = true := by
  unfold rowD
  simp only [areBelow, Bool.and_eq_true, List.all_eq_true]
  refine ⟨fun x hx => ?_, ?_⟩
  · obtain ⟨n, hn, rfl⟩ := List.mem_map.mp hx
    have := h.2 n hn
    simp [belowB, isNum]
    omega
  · unfold asc1 ascD
    rw [intsD_map]
    exact h.1
theorem flat_mem {rows : List (List Int)} {k : Int} : (flatI (rows.map rowD)).contains k = true ↔ ∃ ns ∈ rows, k ∈ ns := by
  induction rows with
  | nil => simp [flatI]
  | cons r rows ih =>
    simp only [List.map_cons, rowD, flatI, intsD_map, Option.getD_some]
    simp only [List.contains_eq_mem, List.mem_append, decide_eq_true_eq] at ih ⊢
    rw [show flatI (List.map rowD rows) = flatI (List.map rowD rows) from rfl]
    simp only [List.mem_cons, exists_eq_or_imp]
    rw [← ih]
/-- a query as it is drawn -/
structure GoodQ (many : Int) (rows : List (List Int)) : Prop where
  lo : 1 ≤ many
  hi : many ≤ 4
  len : 1 ≤ rows.length
  len2 : rows.length ≤ 5
  row : ∀ ns ∈ rows, RowB many ns ∧ 1 ≤ ns.length ∧ ns.length ≤ 4
  all : ∀ k, 0 ≤ k → k < many → ∃ ns ∈ rows, k ∈ ns
def qD (many : Int) (rows : List (List Int)) : D := .tup [.int many, .tup (rows.map rowD)]
theorem GoodQ.query {many : Int} {rows : List (List Int)} (h : GoodQ many rows) : isQuery (qD many rows) = true := by
  have h1 := h.lo
  have h2 := h.hi
  have h3 := h.len
  have h4 := h.len2
  unfold qD
  simp only [isQuery, Bool.and_eq_true, decide_eq_true_eq, List.all_eq_true, List.mem_range, List.length_map]
  refine ⟨⟨⟨⟨?_, by omega, by omega⟩, by omega, by omega⟩, fun x hx => ?_⟩, fun k hk => flat_mem.mpr (h.all k (by omega) (by omega))⟩
  · simp [isNum]; omega
  · obtain ⟨ns, hn, rfl⟩ := List.mem_map.mp hx
    obtain ⟨a, b, c⟩ := h.row ns hn
    refine ⟨areBelow_row (by omega) a, ?_⟩
    unfold rowD
    simp [lenPos]
    omega
/-- a loop, by an invariant that counts -/
theorem forM_ix {gd : D → DE → M DE} {m : DE → M R} {P : R → Gh → Prop} {X : Addr → Gh → Prop} : ∀ {xs : List D} {e : DE} {γ : Gh} (I : Nat → DE → Gh → Prop),
    (∀ i x, xs[i]? = some x → ∀ e γ, I i e γ → (gd x e).run γ (fun e1 γ1 => (m e1).run γ1 (fun r γ2 => match r with | .nx e' => I (i + 1) e' γ2 | .ct e' => I (i + 1) e' γ2 | .bk e' => P (.nx e') γ2 | .rt d => P (.rt d) γ2) X) X) → I 0 e γ → (∀ e γ, I xs.length e γ → P (.nx e) γ) → (forM gd m xs e).run γ P X := by
  intro xs
  induction xs with
  | nil => intro e γ I _ hi he; exact he e γ hi
  | cons x xs ih =>
    intro e γ I h hi he
    have h1 := h 0 x rfl e γ hi
    have ih := fun {e γ} hi => ih (e := e) (γ := γ) (fun i => I (i + 1)) (fun i y hy => h (i + 1) y (by simpa using hy)) hi he
    refine (gd x e).mono (fun e1 γ1 z => ?_) (fun _ _ z => z) h1
    refine (m e1).mono (fun r γ2 z => ?_) (fun _ _ z => z) z
    cases r with
    | nx e' => exact ih z
    | ct e' => exact ih z
    | bk e' => exact z
    | rt d => exact z
def rowBB (many : Int) (ns : List Int) : Bool := chainB (fun i j => decide (i < j)) ns && ns.all fun n => decide (0 ≤ n) && decide (n < many)
theorem rowBB_of {many : Int} {ns : List Int} (h : rowBB many ns = true) : RowB many ns := by
  simp only [rowBB, Bool.and_eq_true, List.all_eq_true, decide_eq_true_eq] at h
  exact h
def goodB (many : Int) (rows : List (List Int)) : Bool := decide (1 ≤ many) && decide (many ≤ 4) && decide (1 ≤ rows.length) && decide (rows.length ≤ 5) && (rows.all fun ns => rowBB many ns && decide (1 ≤ ns.length) && decide (ns.length ≤ 4)) &&
  (List.range many.toNat).all fun k => rows.any fun ns => ns.contains (k : Int)
theorem goodB_of {many : Int} {rows : List (List Int)} (h : goodB many rows = true) : GoodQ many rows := by
  simp only [goodB, Bool.and_eq_true, decide_eq_true_eq, List.all_eq_true, List.mem_range, List.any_eq_true, List.contains_eq_mem] at h
  obtain ⟨⟨⟨⟨⟨h1, h2⟩, h3⟩, h4⟩, h5⟩, h6⟩ := h
  refine ⟨h1, h2, h3, h4, fun ns hn => ⟨rowBB_of (h5 ns hn).1.1, (h5 ns hn).1.2, (h5 ns hn).2⟩, fun k k0 k1 => ?_⟩
  obtain ⟨ns, hn, hk⟩ := h6 k.toNat (by omega)
  exact ⟨ns, hn, by rwa [show ((k.toNat : Nat) : Int) = k by omega] at hk⟩
theorem toPyL_ones : ∀ L : List D, toPyL (L.map fun _ => D.int 1) = some (L.map fun _ => PyData.int 1)
  | [] => rfl
  | x :: L => by simp [toPyL_ones L]
theorem holds_empty {f : D → Bool} {k : Int} (hf : ∀ ns, f (rowD ns) = ns.contains k) : ∀ rows : List (List Int), (((rows.map rowD).filter f).map fun _ => PyData.int 1).isEmpty = !(rows.any fun ns => ns.contains k)
  | [] => rfl
  | ns :: rows => by
    have ih := holds_empty hf rows
    rw [List.map_cons, List.any_cons]
    cases h : ns.contains k with
    | true => rw [List.filter_cons_of_pos (by rw [hf]; exact h)]; rfl
    | false => rw [List.filter_cons_of_neg (by rw [hf, h]; decide), Bool.false_or]; exact ih
theorem rng_pair (n : Int) : (rngI n).Pairwise fun i j => i ≤ j := by
  unfold rngI
  exact List.Pairwise.map (S := fun (i j : Int) => i ≤ j) _ (fun (a b : Nat) (h : a < b) => by show (a : Int) ≤ b; omega) List.pairwise_lt_range
/-- the numbers that no row holds -/
def lackI (n : Int) (rows : List (List Int)) : List Int := (rngI n).filter fun k => !(rows.any fun ns => ns.contains k)
theorem lack_row (n : Int) (rows : List (List Int)) : RowB n (lackI n rows) := by
  unfold lackI
  exact ⟨chain_of_sorted ((rng_pair n).sublist List.filter_sublist) ((rng_nodup n).sublist List.filter_sublist), fun k hk => rng_mem.mp (List.mem_filter.mp hk).1⟩
theorem lack_len (n : Int) (rows : List (List Int)) : (lackI n rows).length ≤ n.toNat := by
  unfold lackI
  exact Nat.le_trans (List.length_filter_le ..) (by rw [rng_len]; exact Nat.le_refl _)
theorem lack_all {n : Int} {rows : List (List Int)} {k : Int} (h0 : 0 ≤ k) (h1 : k < n) : (∃ ns ∈ rows, k ∈ ns) ∨ k ∈ lackI n rows := by
  by_cases h : ∃ ns ∈ rows, k ∈ ns
  · exact .inl h
  · refine .inr (List.mem_filter.mpr ⟨rng_mem.mpr ⟨h0, h1⟩, ?_⟩)
    simp only [Bool.not_eq_true', List.any_eq_false, List.contains_eq_mem, decide_eq_true_eq]
    exact fun ns hn hk => h ⟨ns, hn, hk⟩
def lackQ (rows : List (List Int)) : D → Bool
  | .int kk => !(rows.any fun ns => ns.contains kk)
  | _ => false
def holdsQ (k : Int) : D → Bool
  | .tup xs => ((intsD xs).getD []).contains k
  | _ => false
theorem holdsQ_row (k : Int) (ns : List Int) : holdsQ k (rowD ns) = ns.contains k := by
  show ((intsD (ns.map .int)).getD []).contains k = _
  rw [intsD_map]
  rfl
theorem lack_D (n : Int) (rows : List (List Int)) : (rangeD 0 n).filter (lackQ rows) = (lackI n rows).map .int := by
  rw [rangeD_rng, List.filter_map]
  rfl
def queryM : M D := ⟨fun γ P _ => ∃ k : Int, k + 200 < 2 ^ 40 ∧ Dr k γ ∧ ∀ many rows γ', GoodQ many rows → Dr (k + 200) γ' → P (qD many rows) γ',
  fun h _ ⟨k, a, b, q⟩ => ⟨k, a, b, fun m r γ' h1 h2 => h _ _ (q m r γ' h1 h2)⟩⟩
@[simp] theorem run_queryM {γ : Gh} {X : Addr → Gh → Prop} (P : D → Gh → Prop) : queryM.run γ P X = (∃ k : Int, k + 200 < 2 ^ 40 ∧ Dr k γ ∧ ∀ many rows γ', GoodQ many rows → Dr (k + 200) γ' → P (qD many rows) γ') := rfl
def F_query (st : Addr) : List D → M D
  | [d] => do M.isSt st d; queryM
  | _ => M.fail
end Dl

set_option maxRecDepth 100000
set_option maxHeartbeats 4100000
/-! sorted(set(xs)) of rows -/
namespace Dl
open L2 PySem PySem.Spec PyProof.Rows
theorem lex_code {B : Int} : ∀ {r q : List Int}, r.length = q.length → TS.Bd B r → TS.Bd B q → TS.code B r ≤ TS.code B q → r ≠ q → r < q
  | [], [], _, _, _, _, h => absurd rfl h
  | a :: r, b :: q, hl, h1, h2, hc, hn => by
    have hl2 : r.length = q.length := by simpa using hl
    clear hl
    rw [List.cons_lt_cons_iff]
    rcases Int.lt_trichotomy a b with c | c | c
    · exact .inl c
    · subst c
      refine .inr ⟨rfl, lex_code hl2 h1.tail h2.tail ?_ fun e => hn (by rw [e])⟩
      rcases Int.lt_or_le (TS.code B q) (TS.code B r) with d | d
      · have := (TS.code_same (B := B) (d := a) hl2.symm).mpr d
        omega
      · exact d
    · have := TS.code_lt hl2.symm h2.tail h1.tail c
      omega
theorem repL_ints {K : PySem.W.Frag} {H : Hp} : ∀ {ns : List Int} {vs : List V}, RepL K H (ns.map .int) vs → vs = ns.map V.int
  | [], vs, h => by simpa only [List.map_nil, RepL] using h
  | n :: ns, vs, h => by
    simp only [List.map_cons, RepL, Rep] at h
    obtain ⟨v, ws, rfl, rfl, h2⟩ := h
    rw [repL_ints h2]
    rfl
theorem ints_repL {K : PySem.W.Frag} {H : Hp} : ∀ ns : List Int, RepL K H (ns.map .int) (ns.map V.int)
  | [] => by simp only [List.map_nil, RepL]
  | n :: ns => by
    simp only [List.map_cons, RepL, Rep]
    exact ⟨_, _, rfl, rfl, ints_repL ns⟩
theorem rows_at {K : PySem.W.Frag} {H : Hp} : ∀ {rows : List (List Int)} {vs : List V}, RepL K H (rows.map rowD) vs → ∃ ks : List (Addr × List Int), vs = ks.map (fun p => V.ref p.1) ∧ ks.map (·.2) = rows ∧ ∀ p ∈ ks, SqX H p.1 (p.2.map V.int)
  | [], vs, h => by
    simp only [List.map_nil, RepL] at h
    exact ⟨[], h, rfl, fun p hp => nomatch hp⟩
  | r :: rows, vs, h => by
    simp only [List.map_cons, RepL, rowD, Rep] at h
    obtain ⟨v, ws, rfl, ⟨a, us, rfl, sq, rl⟩, h2⟩ := h
    obtain ⟨ks, rfl, rfl, hk⟩ := rows_at (rows := rows) h2
    refine ⟨(a, r) :: ks, rfl, rfl, fun p hp => ?_⟩
    obtain rfl | hp := List.mem_cons.mp hp
    · rw [repL_ints rl] at sq
      exact sq
    · exact hk p hp
theorem at_rows {K : PySem.W.Frag} {H : Hp} : ∀ {ks : List (Addr × List Int)}, (∀ p ∈ ks, SqX H p.1 (p.2.map V.int)) → RepL K H (ks.map fun p => rowD p.2) (ks.map fun p => V.ref p.1)
  | [], _ => by simp only [List.map_nil, RepL]
  | p :: ks, h => by
    simp only [List.map_cons, RepL, rowD, Rep]
    exact ⟨_, _, rfl, ⟨p.1, _, rfl, h p List.mem_cons_self, ints_repL p.2⟩, at_rows fun q hq => h q (List.mem_cons_of_mem _ hq)⟩
/-- rows of one length, of numbers in [0, B) -/
structure SetOk (rows : List (List Int)) : Prop where
  few : rows.length < 64
  same : ∃ (d : Nat) (B : Int), 1 ≤ d ∧ ∀ r ∈ rows, r.length = d ∧ ∀ m ∈ r, 0 ≤ m ∧ m < B
def sortSet (rows : List (List Int)) : M (List D) := ⟨fun γ P _ => SetOk rows ∧ ∀ rows' : List (List Int), rows'.Pairwise (fun r q => r < q) → (∀ r, r ∈ rows' ↔ r ∈ rows) → P (rows'.map rowD) γ, fun h _ ⟨a, q⟩ => ⟨a, fun r h1 h2 => h _ _ (q r h1 h2)⟩⟩
@[simp] theorem run_sortSet {γ : Gh} {X : Addr → Gh → Prop} (rows : List (List Int)) (P : List D → Gh → Prop) : (sortSet rows).run γ P X = (SetOk rows ∧ ∀ rows' : List (List Int), rows'.Pairwise (fun r q => r < q) → (∀ r, r ∈ rows' ↔ r ∈ rows) → P (rows'.map rowD) γ) := rfl
@[simp] def sortSetM : D → M (List D)
  | .lst xs => match rowsD xs with
    | some rows => sortSet rows
    | none => M.fail
  | _ => M.fail
theorem rowsD_eq : ∀ {xs : List D} {rows : List (List Int)}, rowsD xs = some rows → xs = rows.map rowD
  | [], rows, h => by simp only [rowsD, Option.some.injEq] at h; subst h; rfl
  | x :: xs, rows, h => by
    cases x <;> simp only [rowsD, Option.bind_eq_some_iff, Option.map_eq_some_iff] at h <;> try contradiction
    obtain ⟨r, h1, rs, h2, rfl⟩ := h
    rw [List.map_cons, ← rowsD_eq h2, intsD_eq h1]
    rfl
section
variable {X : Cx} {W : Wd} {H0 : Hp} {E : XK} {pos p spos sp : Pos} {a : Expr} {ma : DE → M D}
theorem do_sortedSet (hK : X.K = W.K) (hc : X.calm = true) (hu : X.A.units + 100 < cLine) (hm : X.mg "sorted" = none) (hm2 : X.mg "set" = none) (ha : PE X a (lift1 W H0 E ma)) (hg : Gl X "sorted" := by rfl) (hg2 : Gl X "set" := by rfl)
    (he2 : starEach [a] X.env = (false, eval a X.env) :: starEach [] X.env := by rfl) (he : starEach [.Call (.Name "set" sp) [a] [] spos] X.env = (false, eval (.Call (.Name "set" sp) [a] [] spos) X.env) :: starEach [] X.env := by rfl) :
    PE X (.Call (.Name "sorted" p) [.Call (.Name "set" sp) [a] [] spos] [] pos) (liftO W H0 E fun e => do let x ← ma e; sortSetM x) :=
  PE.imp (pe_callB (cr_sortedT hc) hg hm (by decide +kernel) (pa_cons (pe_callTy (cr_setOfT hc (by omega)) hg2 hm2 (by decide +kernel) (pa_cons ha pa_nil he2) (he := he2)) pa_nil he) (he := he)) fun σ H Q ⟨e, s0, k0, _, g, q⟩ => ⟨e, s0, k0, _, g, (ma e).mono (fun d _ z v H1 k1 g1 r1 => by
    cases d <;> first | exact z.elim | skip
    rename_i xs
    simp only [sortSetM] at z
    split at z
    · rename_i rows hr
      have ex := rowsD_eq hr
      subst ex
      obtain ⟨⟨few, dd, B, d1, hB⟩, q2⟩ := z
      obtain ⟨b, vs, rfl, sq, rl⟩ := r1.sq
      obtain ⟨ks, rfl, rfl, hk⟩ := rows_at rl
      refine ⟨b, ks, rfl, by rw [hK]; exact sq, fun p hp => (hk p hp).sq, by simpa using few, fun c L hc' hL1 hL2 => ?_⟩
      have k2 : Keep W H1 (L2.upd H1 c (SetTO X.prog X.w c L)) := Keep.new hc'
      have g2 : W.G _ (L2.upd H1 c (SetTO X.prog X.w c L)) := gnew g1 hc'
      refine ⟨c, L, dd, B, rfl, upd_same, fun p hp => ?_, d1, fun p hp => ?_, fun L' w pm nd few' pw hw => ?_⟩
      · exact (k2.sqX g1 (hk p (hL1 p hp))).sq
      · exact hB p.2 (List.mem_map_of_mem (f := fun p : Addr × List Int => p.2) (hL1 p hp))
      · have k3 := (k1.trans k2).trans (Keep.new hw (o := .lst (L'.map fun q => V.ref q.1)))
        have hin : ∀ p ∈ L', p ∈ ks := fun p hp => hL1 p (pm.subset hp)
        have rep : RepL W.K (L2.upd H1 c (SetTO X.prog X.w c L)) (L'.map fun p => rowD p.2) (L'.map fun p => V.ref p.1) := at_rows fun p hp => k2.sqX g1 (hk p (hin p hp))
        have q3 := q2 (L'.map (·.2)) ?_ ?_ w _ _ (k1.freed (k2.freed hw g1 g2) g g1) k3 (gnew g2 hw) upd_same (by rw [List.map_map]; exact rep.keep g2 (Keep.new hw)) (nS g2 hw)
        · exact q3
        · rw [List.pairwise_map]
          have nd2 : L'.Pairwise (fun p q => p.2 ≠ q.2) := List.pairwise_map.mp nd
          refine (List.pairwise_and_iff.mpr ⟨pw, nd2⟩).imp_of_mem fun {p q} hp hq h => ?_
          obtain ⟨l1, b1⟩ := hB p.2 (List.mem_map_of_mem (f := fun p : Addr × List Int => p.2) (hin p hp))
          obtain ⟨l2, b2⟩ := hB q.2 (List.mem_map_of_mem (f := fun p : Addr × List Int => p.2) (hin q hq))
          exact lex_code (by rw [l1, l2]) b1 b2 h.1 h.2
        · intro r
          constructor
          · intro hr2
            obtain ⟨p, hp, rfl⟩ := List.mem_map.mp hr2
            exact List.mem_map_of_mem (f := fun p : Addr × List Int => p.2) (hin p hp)
          · intro hr2
            obtain ⟨p, hp, rfl⟩ := List.mem_map.mp hr2
            obtain ⟨p2, hp2, e2⟩ := List.mem_map.mp (hL2 p hp)
            rw [← e2]
            exact List.mem_map_of_mem (f := fun p : Addr × List Int => p.2) (pm.symm.subset hp2)
    · exact z.elim) (fun _ _ z => z) q⟩
end
theorem compM_inv {gd : D → DE → M DE} {t : DE → M Bool} {f : DE → M D} {e : DE} {i : Nat} {X : Addr → Gh → Prop} (N : Nat) (J : List D → Gh → Prop) (hg : gd = fun d e => pure (setS i d e)) (ht : t = fun _ => pure true) : ∀ {xs done : List D} {γ : Gh} {P : List D → Gh → Prop}, done.length + xs.length = N → J done γ →
    (∀ x ∈ xs, ∀ done γ, done.length < N → J done γ → ∀ PP : D → Gh → Prop, (∀ y γ', J (done ++ [y]) γ' → PP y γ') → (f (setS i x e)).run γ PP (fun _ _ => False)) → (∀ ys γ', J (done ++ ys) γ' → ys.length = xs.length → P ys γ') → (compM gd t f e xs).run γ P X := by
  subst hg ht
  intro xs
  induction xs with
  | nil => intro done γ P _ hj _ h; exact h [] γ (by rw [List.append_nil]; exact hj) rfl
  | cons x xs ih =>
    intro done γ P hN hj h1 h2
    rw [List.length_cons] at hN
    simp only [compM, M.run_bind, M.run_pure, M.run_noX, if_true]
    refine h1 x List.mem_cons_self done γ (by omega) hj _ fun y γ' hy => ?_
    refine ih (by rw [List.length_append, List.length_singleton]; omega) hy (fun z hz => h1 z (List.mem_cons_of_mem _ hz)) fun ys γ2 hq hl => ?_
    rw [List.append_assoc] at hq
    exact h2 (y :: ys) γ2 hq (by rw [List.length_cons, List.length_cons, hl])
theorem nodup_le : ∀ {l m : List (List Int)}, l.Nodup → (∀ x ∈ l, x ∈ m) → l.length ≤ m.length
  | [], m, _, _ => Nat.zero_le _
  | x :: l, m, h, hs => by
    rw [List.nodup_cons] at h
    have hx := hs x List.mem_cons_self
    have := nodup_le (m := m.erase x) h.2 fun y hy => (List.mem_erase_of_ne fun e => h.1 (by rw [← e]; exact hy)).mpr (hs y (List.mem_cons_of_mem _ hy))
    rw [List.length_erase_of_mem hx] at this
    have := List.length_pos_of_mem hx
    rw [List.length_cons]
    omega
theorem lt_nodup {l : List (List Int)} (h : l.Pairwise fun r q => r < q) : l.Nodup := h.imp fun {a b} h e => by
  subst e
  exact List.lt_irrefl _ h
theorem rowsD_map : ∀ rows : List (List Int), rowsD (rows.map rowD) = some rows
  | [] => rfl
  | r :: rows => by simp [rowsD, rowD, intsD_map, rowsD_map rows]
section
variable {X : Cx} {W : Wd} {H0 : Hp} {E : XK} {pos : Pos}
/-- {} that nobody writes -/
theorem dp_emp : PE X (.Dict [] [] pos) (lift W H0 E fun _ => pure .emp) :=
  PE.imp (pe_lockV pe_dnewK) fun σ H Q ⟨e, s0, k0, _, g, q⟩ => fun b hb => ⟨b, .dK [], rfl, upd_same, True.intro, fun o => q _ _ (by rw [upd_upd]; exact Keep.new hb) (by rw [upd_upd]; exact gnew g hb) (by
    simp only [Rep]
    exact ⟨b, o, rfl, upd_same⟩)⟩
end
/-- is the value an int that is no bool -/
def isInt : D → Bool
  | .int _ => true
  | _ => false
def F_whole : List D → M D
  | [d] => do M.need (pureD d); pure (.bl (isInt d))
  | _ => M.fail
/-- a value of another kind -/
def oddL : List D := [.non, .int 0, .int (-1), .bl true, .str "1", .tup [], .lst [], .emp, .tup [.int 1], .tup [.tup [.int 0]], .tup [.int 2, .tup [.tup [.int 0]]], .tup [.int 0, .tup []], .int (10 ^ 18)]
def F_odd (st : Addr) : List D → M D
  | [d] => do M.isSt st d; pickM oddL
  | _ => M.fail
/-- b is True, b is False, b a bool -/
def rIsB : R2 := fun x y H Q => ∃ c d, x = .bl c ∧ y = .bl d ∧ Q (.bl (c == d)) H
theorem op_isBl {X : Cx} : OpR X (compareOp .Is) rIsB := by
  intro _ s σ H _ _ _ _ Q I rx ry ⟨c, d, ex, ey, q⟩
  subst ex ey
  cases rx
  cases ry
  exact is_bool ⟨.bl (c == d), H, I, rfl, q⟩
@[simp] def onB : D → D → M D
  | .bl c, .bl d => pure (.bl (c == d))
  | _, _ => M.fail
theorem opD_isB {W : Wd} : OpD W rIsB onB := by
  intro E x y dx dy H Q γ hg r1 r2 z
  unfold onB at z
  split at z
  · rename_i c d
    simp only [Rep1, Rep] at r1 r2
    exact ⟨c, d, r1, r2, z _ H (Keep.refl H) hg (by simp only [Rep])⟩
  · exact z.elim
def F_truth : List D → M D
  | [.bl f, .bl due] => pure (.bl (f == due))
  | _ => M.fail
/-! ### drawn stores -/
def tabD (tab : List (List Int)) : D := .tup (tab.map rowD)
/-- tables for the atoms: rising rows of numbers below hi, at most most of them -/
structure GoodT (n : Nat) (most hi : Int) (tab : List (List Int)) : Prop where
  asc : tab.Pairwise fun r q => r < q
  len : (tab.length : Int) ≤ most
  row : ∀ r ∈ tab, r.length = n ∧ ∀ m ∈ r, 0 ≤ m ∧ m < hi
inductive GoodS (most hi : Int) : List (List Int) → List (List (List Int)) → Prop where
  | nil : GoodS most hi [] []
  | cons {r : List Int} {tab : List (List Int)} {rows : List (List Int)} {tabs : List (List (List Int))} : GoodT r.length most hi tab → GoodS most hi rows tabs → GoodS most hi (r :: rows) (tab :: tabs)
theorem GoodS.snoc {most hi : Int} {r : List Int} {tab : List (List Int)} (h : GoodT r.length most hi tab) : ∀ {rows : List (List Int)} {tabs : List (List (List Int))}, GoodS most hi rows tabs → GoodS most hi (rows ++ [r]) (tabs ++ [tab])
  | _, _, .nil => .cons h .nil
  | _, _, .cons a b => .cons a (GoodS.snoc h b)
theorem GoodS.len {most hi : Int} : ∀ {rows : List (List Int)} {tabs : List (List (List Int))}, GoodS most hi rows tabs → tabs.length = rows.length
  | _, _, .nil => rfl
  | _, _, .cons _ b => by rw [List.length_cons, List.length_cons, GoodS.len b]
def storeM (rows : List (List Int)) (most top : Int) : M D := ⟨fun γ P _ => 0 ≤ most ∧ most ≤ 60 ∧ 1 ≤ top ∧ top ≤ 1000 ∧ (∀ r ∈ rows, 1 ≤ r.length ∧ r.length ≤ 4) ∧ rows.length ≤ 8 ∧ ∃ k : Int, k + 2100 < 2 ^ 40 ∧ Dr k γ ∧ ∀ tabs γ', GoodS most (top + 7) rows tabs → Dr (k + 2100) γ' → P (.tup (tabs.map tabD)) γ',
  fun h _ ⟨a1, a2, a3, a4, a5, a6, k, a, b, q⟩ => ⟨a1, a2, a3, a4, a5, a6, k, a, b, fun t γ' h1 h2 => h _ _ (q t γ' h1 h2)⟩⟩
@[simp] theorem run_storeM {γ : Gh} {X : Addr → Gh → Prop} (rows : List (List Int)) (most top : Int) (P : D → Gh → Prop) : (storeM rows most top).run γ P X = (0 ≤ most ∧ most ≤ 60 ∧ 1 ≤ top ∧ top ≤ 1000 ∧ (∀ r ∈ rows, 1 ≤ r.length ∧ r.length ≤ 4) ∧ rows.length ≤ 8 ∧
    ∃ k : Int, k + 2100 < 2 ^ 40 ∧ Dr k γ ∧ ∀ tabs γ', GoodS most (top + 7) rows tabs → Dr (k + 2100) γ' → P (.tup (tabs.map tabD)) γ') := rfl
def F_store (st : Addr) : List D → M D
  | [d, .tup [.int many, .tup atoms], .int most, .int top] => do
    M.isSt st d
    match rowsD atoms with
    | some rows => storeM rows most top
    | none => M.fail
  | _ => M.fail
end Dl

set_option maxRecDepth 100000
set_option maxHeartbeats 4100000
/-! zip of two tuples -/
namespace Dl
open L2 PySem PySem.Spec PyProof.Rows RZ
def zipDs (xs ys : List D) : List D := (xs.zip ys).map fun p => D.pr p.1 p.2
theorem walk_zip {W : Wd} {H : Hp} {a b : Addr} {vs ws : List V} {xs ys : List D} (h1 : SqT W.K H a vs) (h2 : SqT W.K H b ws) (r1 : RepL W.K H xs vs) (r2 : RepL W.K H ys ws) : Walk W (fun A B => KeepF A B) (zipDs xs ys) (ItzT W.K a b) H := fun γ H2 kf g => by
  have a2 := kf.sqT h1
  have b2 := kf.sqT h2
  have e1 := RepL.keepF kf _ _ r1
  have e2 := RepL.keepF kf _ _ r2
  have l1 := e1.len
  have l2 := e2.len
  have lz : (zipDs xs ys).length = min xs.length ys.length := by unfold zipDs; rw [List.length_map, List.length_zip]
  refine ⟨fun i hi => ⟨vs, ws, vs[i]'(by omega), ws[i]'(by omega), a2, b2, by simp, by simp⟩, ⟨vs, ws, a2, b2, by omega⟩, fun i x Hx hi y => ?_⟩
  obtain ⟨T, v, w, rfl, hT, rfl, y1, y2⟩ := y
  obtain ⟨d, hd, rd⟩ := e1.get (y1 vs a2)
  obtain ⟨c, hc, rc⟩ := e2.get (y2 ws b2)
  have k : Keep W H2 (L2.upd H2 T (.tup [v, w])) := Keep.new hT
  refine ⟨k, gnew g hT, .pr d c, ?_, ?_⟩
  · unfold zipDs
    rw [List.getElem?_map, List.getElem?_zip_eq_some (z := (d, c)) |>.mpr ⟨hd, hc⟩]
    rfl
  · simp only [Rep]
    exact ⟨T, v, w, rfl, .inl (.inl upd_same), rd.keep g k, rc.keep g k⟩
section
variable {X : Cx} {W : Wd} {H0 : Hp} {E : XK} {pos p tpos : Pos} {a b : Expr} {elts : List Expr} {kk : Nat} {ms : DE → M (List D)}
@[simp] def zipM : List D → M (List D)
  | [.tup xs, .tup ys] => pure (zipDs xs ys)
  | _ => M.fail
theorem df_zip (hK : X.K = W.K) (hm : X.mg "zip" = none) (ha : PA X [a, b] (liftA W H0 E ms)) (hg : Gl X "zip" := by rfl) (hs : starEach [a, b] X.env = (false, eval a X.env) :: starEach [b] X.env := by rfl) (hpl : (backTo pos (starEach [b] X.env)).any (·.1) = false := by rfl) :
    PI X (.Tuple elts kk tpos) (.Call (.Name "zip" p) [a, b] [] pos) (liftF W H0 E fun e => do let ds ← ms e; zipM ds) :=
  PI.imp (pi_zipA hg hm ha hs hpl) fun σ H R ⟨e, s0, k0, _, g, q⟩ => ⟨e, s0, k0, _, g, (ms e).mono (fun ds _ z vs H1 k1 g1 r1 => by
    match ds, z, r1 with
    | [.tup xs, .tup ys], z, r1 =>
      simp only [RepL, Rep] at r1
      obtain ⟨v, _, rfl, ⟨c, us, rfl, s1, t1⟩, w, _, rfl, ⟨d, ws, rfl, s2, t2⟩, rfl⟩ := r1
      refine ⟨c, d, us, ws, rfl, .inr ⟨by rw [hK]; exact s1.sq, by rw [hK]; exact s2.sq, ?_⟩⟩
      rw [hK]
      exact z _ H1 k1 g1 (walk_zip s1.sq s2.sq t1 t2)) (fun _ _ z => z) q⟩
end
/-- a store for a query of these rows, as the law reads it -/
def wholeB : D → Bool
  | .int i => decide (0 ≤ i) && decide (i < 10 ^ 18)
  | _ => false
def rowW (n : Nat) : D → Bool
  | .tup xs => decide (xs.length = n) && xs.all wholeB
  | _ => false
def tabW (n : Nat) : D → Bool
  | .tup rows => rows.all (rowW n) && asc1 rows
  | _ => false
def storeW : List (List Int) → List D → Bool
  | [], [] => true
  | r :: rows, t :: tabs => tabW r.length t && storeW rows tabs
  | _, _ => false
/-- tables are short -/
def fewRows : D → Prop
  | .tup tabs => ∀ t ∈ tabs, ∀ rows, t = .tup rows → rows.length < 64
  | _ => True
def F_k01 : List D → M D
  | [.tup [.int _, .tup atoms], v] => match rowsD atoms with
    | some rows => do
      M.need (pureD v ∧ fewRows v ∧ (∀ r ∈ rows, 1 ≤ r.length) ∧ rows.length ≤ 8)
      pure (.bl (match v with | .tup tabs => storeW rows tabs | _ => false))
    | none => M.fail
  | _ => M.fail
/-! ### the package's reading is the law's -/
theorem wholeB_from (d : D) : fromB 0 d = wholeB d := by
  cases d with
  | int i =>
    simp only [fromB, isNum, wholeB]
    by_cases h : 0 ≤ i
    · simp [h]
      omega
    · simp [h]
  | _ => rfl
theorem rowW_from (n : Nat) (d : D) : areFrom n 0 d = rowW n d := by
  cases d with
  | tup xs =>
    simp only [areFrom, rowW]
    have e : (xs.all (fromB 0)) = xs.all wholeB := by
      congr 1
      funext x
      exact wholeB_from x
    rw [e]
    congr 1
    apply decide_eq_decide.mpr
    omega
  | _ => rfl
theorem tabW_table (n : Nat) (d : D) : isTable n d = tabW n d := by
  cases d with
  | tup rows =>
    simp only [isTable, tabW]
    have e : (rows.all (areFrom n 0)) = rows.all (rowW n) := by
      congr 1
      funext x
      exact rowW_from n x
    rw [e]
  | _ => rfl
theorem storeW_all : ∀ (rows : List (List Int)) (tabs : List D), storeW rows tabs = (decide (tabs.length = rows.length) && (List.range tabs.length).all fun k => isTable (lenOf ((rows.map rowD).getD k .non)) (tabs.getD k .non))
  | [], [] => rfl
  | [], t :: tabs => by simp [storeW]
  | r :: rows, [] => by simp [storeW]
  | r :: rows, t :: tabs => by
    rw [storeW, storeW_all rows tabs, ← tabW_table]
    rw [List.length_cons, List.length_cons, List.range_succ_eq_map, List.all_cons]
    rw [List.all_map]
    have e1 : isTable (lenOf ((List.map rowD (r :: rows)).getD 0 .non)) ((t :: tabs).getD 0 .non) = isTable (r.length : Nat) t := by
      simp [lenOf, rowD]
    rw [e1]
    have e2 : decide (tabs.length + 1 = rows.length + 1) = decide (tabs.length = rows.length) := decide_eq_decide.mpr (by omega)
    rw [e2]
    have e3 : ((fun k => isTable (lenOf ((List.map rowD (r :: rows)).getD k .non)) ((t :: tabs).getD k .non)) ∘ Nat.succ) = fun k => isTable (lenOf ((rows.map rowD).getD k .non)) (tabs.getD k .non) := by
      funext k
      simp [Function.comp]
    rw [e3]
    cases decide (tabs.length = rows.length) <;> cases isTable (r.length : Nat) t <;> rfl
theorem isStore_law (many : Int) (rows : List (List Int)) (tabs : List D) : isStore (qD many rows) (.tup tabs) = storeW rows tabs := by
  rw [storeW_all]
  unfold qD
  simp only [isStore, atomsOf, List.length_map]
/-- what is drawn is a store -/
theorem chain_pair : ∀ {rows : List (List Int)}, rows.Pairwise (fun r q => r < q) → chainB (fun a b => decide (a < b)) rows = true
  | [], _ => rfl
  | [_], _ => rfl
  | x :: y :: r, h => by
    rw [List.pairwise_cons] at h
    rw [chainB, chain_pair h.2, Bool.and_true, decide_eq_true_eq]
    exact h.1 y List.mem_cons_self
end Dl

set_option maxRecDepth 100000
set_option maxHeartbeats 8100000
/-! set(t), t a tuple of tuples of ints -/
namespace Dl
open L2 PySem PySem.Spec PyProof.Rows PySem.Calls
/-- a new set -/
abbrev setNew (w : World) : Obj := { cls := .type "set", dict := none, data := .set #[] 0 (.fresh 0 0 (!w.params.followText "set-order")) }
section
variable {P : Program} {w : World} {s : Shared} {A : Around} {E : Value → Shared → Prop}
/-- what is known behind it -/
def SetMade (P : Program) (w : World) (s : Shared) (ks : List (Addr × List Int)) (s' : Shared) : Prop :=
  ∃ (h' : Heap) (tk : Nat) (L : List (Addr × List Int)) (es : Array (Int × Value)) (ep : Nat) (t : SetTable), s' = { s with heap := h', toks := tk } ∧ SetTR P w h' s.heap.objs.size L es ep t ∧ Got ks ks.length L ∧ ∀ b o, s.heap.get? b = some o → h'.get? b = some o
theorem old_none {b : Addr} (hb : s.heap.objs.size ≤ b) : s.heap.get? b = none := by
  cases q : s.heap.get? b with
  | none => rfl
  | some o => exact absurd (Heap.lt_size q) (Nat.not_lt_of_le hb)
/-- the update's walk over the tuple -/
theorem set_walk {l : Addr} {items : Array Value} (ks : List (Addr × List Int)) (hh : A.in1.handled = none) (hl : s.heap.IsTuple l items) (hls : l < s.heap.objs.size) (hit : items.toList = ks.map fun p => Value.ref p.1)
    (hk : ∀ p ∈ ks, IsT P w s.heap p.2 p.1) (hfew : ks.length < 64) (hu : A.in1.units < cLine) {R : Result → Shared → Prop} (hR : ∀ s', SetMade P w s ks s' → R (.ok (.ret .none)) s') :
    codeAny (model P w) A (.builtin "set.update.loop" ⟨[.ref s.heap.objs.size, .ref (s.heap.objs.size + 1)], []⟩) R { s with heap := (s.heap.push (setNew w)).push { cls := .type "tuple_iterator", data := .fields #[.ref l, .int 0 0] } } := by
  have count : items.size = ks.length := by rw [← Array.length_toList, hit, List.length_map]
  have z1 : (s.heap.push (setNew w)).objs.size = s.heap.objs.size + 1 := Heap.size_push ..
  have new : (s.heap.push (setNew w)).get? s.heap.objs.size = some (setNew w) := Heap.get?_push_size _ rfl
  refine set_update_tups ((Walks.tuple hh (s.heap.objs.size + 1) l (Nat.ne_of_lt (Nat.lt_succ_of_lt hls)) items).toS) s.heap.objs.size ?_ ks count hfew (fun i v hv => ?_) s.heap hk (old_none (Nat.le_refl _)) (fun b hb => ?_) hu
    (items.size - 0) 0 _ (by omega) (Nat.zero_le _) ⟨⟨_, by rw [← z1]; exact Heap.get?_push_size _ rfl, rfl, rfl⟩, ?_⟩ (fun b o e => Heap.get?_push_of_some _ (Heap.get?_push_of_some _ e)) ⟨[], #[], 0, _, setTR_fresh (Heap.get?_push_of_some _ new), Got.zero ks⟩ fun s' L es ep t hm r g k => ?_
  · simp only [List.mem_cons, List.not_mem_nil, or_false, not_or]
    exact ⟨Nat.ne_of_lt (Nat.lt_succ_self _), Nat.ne_of_gt hls⟩
  · have hv : items[i]? = some v := hv
    have q : items.toList[i]? = some v := by rw [Array.getElem?_toList, hv]
    rw [hit, List.getElem?_map, Option.map_eq_some_iff] at q
    exact q.imp fun p z => ⟨z.1, z.2.symm⟩
  · have e := List.mem_singleton.mp hb
    rw [e]
    exact old_none (Nat.le_succ _)
  · exact (hl.push _).push _
  · refine hR s' ⟨s'.heap, s'.toks, L, es, ep, t, ?_, r, by rw [count] at g; exact g, k⟩
    have e1 := hm.gens
    have e2 := hm.drawn
    have e3 := hm.os
    cases s'
    simp only at e1 e2 e3
    subst e1 e2 e3
    rfl
theorem call_setT {l : Addr} {items : Array Value} (ks : List (Addr × List Int)) {Q : Value → Shared → Prop} (hh : A.handled = none) (hl : s.heap.IsTuple l items) (hit : items.toList = ks.map fun p => Value.ref p.1)
    (hk : ∀ p ∈ ks, IsT P w s.heap p.2 p.1) (hfew : ks.length < 64) (hu : A.units + 8 < cLine) (h : ∀ s', SetMade P w s ks s' → Q (.ref s.heap.objs.size) s') :
    wpAny (model P w) A (call (.type "set") [Value.ref l]) Q E s := by
  have C := F.called_set
  obtain ⟨x1, x2, x3⟩ := C.mro
  have y1 := C.made
  have y2 := C.sub
  have y3 := C.notType
  have y4 := C.canCreate
  have y5 := F.typeCall_set_1 (.ref l)
  have y6 := C.init.lookup
  have y7 := C.init.bind (.ref s.heap.objs.size)
  refine wpAny_call <| codeAny_of_tree ?_
  change wpAny _ _ (callAny (.type "set") _) _ _ _
  refine wpAny_pure ⟨Code.quiet_builtin _ (by decide +kernel),
    codeAny_builtin F.entry_type_call ?_⟩
  rw [(Around.under_plain (weight_type_call_type "set" [.ref l] []) rfl :)]
  repeat any_goals first | assumption | wp_step

  refine codeAny_mono (code_set_led1 (.ref l) (E := E) (Q₁ := fun ob s₁ => ob = .ref s.heap.objs.size ∧ s₁ = { s with heap := s.heap.push (setNew w) }) ⟨rfl, rfl⟩) fun r s₁ made => ?_
  match r, made with
  | .error e, made => exact made
  | .ok (.ret ob), made =>
    obtain ⟨rfl, rfl⟩ := made
    have there : (s.heap.push (setNew w)).get? s.heap.objs.size = some (setNew w) := Heap.get?_push_size _ rfl
    have isSet : Shared.TypeIs { s with heap := s.heap.push (setNew w) } (.ref s.heap.objs.size) "set" := ⟨_, there, rfl⟩
    repeat any_goals first | assumption | wp_step

    refine codeAny_mono (codeAny_call_builtin (R := wants (fun r s₂ => r = .none ∧ SetMade P w s ks s₂) E) C.init.plain F.entry_set_init (check_set_init_1 isSet ?_)) fun r₂ s₂ z => ?_
    · have keep : ∀ {b o}, s.heap.get? b = some o → (s.heap.push (setNew w)).get? b = some o := fun e => Heap.get?_push_of_some _ e
      have hl2 := hl
      obtain ⟨⟨oc, od, dt, os⟩, g1, g2, gn, g3⟩ := hl2
      simp only at g2 g3
      subst g2 g3
      have g4 := keep g1
      have b1 := F.sub_tuple_set
      have b2 := F.sub_tuple_frozenset
      have b3 : (Value.type "tuple" == Value.type "dict") = false := by decide
      have hl3 : (s.heap.push (setNew w)).IsTuple l items := ⟨_, g4, rfl, gn, rfl⟩
      have hls : l < s.heap.objs.size := Heap.lt_size g1
      unfold Builtin.«set.__init__» Builtin.Frozenset.updateFrom noKeywords
      generalize again_ : pyIter = it
      wp_walk
      subst again_
      refine wpAny_pyIter_tuple hl3 (wpAny_bind (wpAny_runValue ?_))
      have z1 : (s.heap.push (setNew w)).objs.size = s.heap.objs.size + 1 := Heap.size_push ..
      rw [z1]
      refine set_walk ks (by simp [hh]) hl hls hit hk hfew ?_ fun s' made => ?_
      · show A.units + 1 + 1 + 1 < cLine
        omega
      · exact wpAny_pure (wpAny_pure ⟨rfl, made⟩)
    · match r₂, z with
      | .error e, z => exact z
      | .ok (.ret r), z =>
        obtain ⟨rfl, z⟩ := z
        have z2 := h s₂ z
        obtain ⟨h', tk, L, es, ep, t, rfl, z3⟩ := z
        repeat any_goals first | assumption | wp_step
end
section
variable {X : Cx} {W : Wd} {H0 : Hp} {E : XK} {pos p spos sp : Pos} {a : Expr} {ma : DE → M D}
def rSetOfU (K : PySem.W.Frag) (P : Program) (w : World) : List V → Hp → VK → Prop := fun xs H Q => ∃ (l : Addr) (ks : List (Addr × List Int)), xs = [V.ref l] ∧ SqT K H l (ks.map fun p => V.ref p.1) ∧ (∀ p ∈ ks, SqT K H p.1 (p.2.map V.int)) ∧ ks.length < 64 ∧
  ∀ c L, H c = none → (∀ p ∈ L, p ∈ ks) → (∀ p ∈ ks, p.2 ∈ L.map (·.2)) → Q (.ref c) (upd H c (SetTO P w c L))
theorem cr_setB (hc : X.calm = true) (hu : X.A.units + 64 < cLine) : CallR X (.type "set") (fun xs H Q => rSetOfT X.K X.prog X.w xs H Q ∨ rSetOfU X.K X.prog X.w xs H Q) := by
  intro pins s σ H args us Q I r h
  rcases h with h | ⟨l, ks, rfl, hl, hk, hf, q⟩
  · exact cr_setOfT hc hu pins s σ H args us Q I r h
  · rw [Vals.ref1 r]
    obtain ⟨its, rv, pl, hz⟩ := I.tuple hl
    have free_ := I.hok.fresh (Nat.le_refl s.heap.objs.size)
    refine call_setT (P := X.prog) (w := X.w) ks (I.ok.hd hc) pl (by simpa using refs_of_vals rv) (fun p hp => I.isT (hk p hp)) hf (by omega) fun s' made => ?_
    obtain ⟨h', tk, L, es, ep, t, rfl, R, g, k⟩ := made
    refine ⟨.ref s.heap.objs.size, L2.upd H s.heap.objs.size (SetTO X.prog X.w s.heap.objs.size L), I.laid (t' := tk) k (Nat.le_refl _) (setTO_new R.t0), rfl, q _ L free_ (fun p hp => List.mem_of_mem_take (g.sub p hp)) fun p hp => ?_⟩
    exact g.all p (by rw [List.take_length]; exact hp)
@[simp] def sortSetB : D → M (List D)
  | .lst xs => match rowsD xs with
    | some rows => sortSet rows
    | none => M.fail
  | .tup xs => match rowsD xs with
    | some rows => sortSet rows
    | none => M.fail
  | _ => M.fail
theorem do_sortedSetB (hK : X.K = W.K) (hc : X.calm = true) (hu : X.A.units + 100 < cLine) (hm : X.mg "sorted" = none) (hm2 : X.mg "set" = none) (ha : PE X a (lift1 W H0 E ma)) (hg : Gl X "sorted" := by rfl) (hg2 : Gl X "set" := by rfl)
    (he2 : starEach [a] X.env = (false, eval a X.env) :: starEach [] X.env := by rfl) (he : starEach [.Call (.Name "set" sp) [a] [] spos] X.env = (false, eval (.Call (.Name "set" sp) [a] [] spos) X.env) :: starEach [] X.env := by rfl) :
    PE X (.Call (.Name "sorted" p) [.Call (.Name "set" sp) [a] [] spos] [] pos) (liftO W H0 E fun e => do let x ← ma e; sortSetB x) :=
  PE.imp (pe_callB (cr_sortedT hc) hg hm (by decide +kernel) (pa_cons (pe_callTy (cr_setB hc (by omega)) hg2 hm2 (by decide +kernel) (pa_cons ha pa_nil he2) (he := he2)) pa_nil he) (he := he)) fun σ H Q ⟨e, s0, k0, _, g, q⟩ => ⟨e, s0, k0, _, g, (ma e).mono (fun d _ z v H1 k1 g1 r1 => by
    have fin : ∀ (ks : List (Addr × List Int)), (∀ p ∈ ks, SqX H1 p.1 (p.2.map V.int)) → SetOk (ks.map (·.2)) → (∀ rows' : List (List Int), rows'.Pairwise (fun r q => r < q) → (∀ r, r ∈ rows' ↔ r ∈ ks.map (·.2)) →
        ∀ a vs H', H a = none → Keep W H H' → W.G _ H' → H' a = some (.lst vs) → RepL W.K H' (rows'.map rowD) vs → ¬ W.S a → Q (.ref a) H') → ∀ (c : Addr) (L : List (Addr × List Int)), H1 c = none → (∀ p ∈ L, p ∈ ks) → (∀ p ∈ ks, p.2 ∈ L.map (·.2)) →
        rSortedT X.K X.prog X.w [.ref c] (L2.upd H1 c (SetTO X.prog X.w c L)) Q := fun ks hk ⟨few, dd, B, d1, hB⟩ q2 c L hc' hL1 hL2 => by
      have k2 : Keep W H1 (L2.upd H1 c (SetTO X.prog X.w c L)) := Keep.new hc'
      have g2 : W.G _ (L2.upd H1 c (SetTO X.prog X.w c L)) := gnew g1 hc'
      refine ⟨c, L, dd, B, rfl, upd_same, fun p hp => ?_, d1, fun p hp => ?_, fun L' w pm nd few' pw hw => ?_⟩
      · exact (k2.sqX g1 (hk p (hL1 p hp))).sq
      · exact hB p.2 (List.mem_map_of_mem (f := fun p : Addr × List Int => p.2) (hL1 p hp))
      · have k3 := (k1.trans k2).trans (Keep.new hw (o := .lst (L'.map fun q => V.ref q.1)))
        have hin : ∀ p ∈ L', p ∈ ks := fun p hp => hL1 p (pm.subset hp)
        have rep : RepL W.K (L2.upd H1 c (SetTO X.prog X.w c L)) (L'.map fun p => rowD p.2) (L'.map fun p => V.ref p.1) := at_rows fun p hp => k2.sqX g1 (hk p (hin p hp))
        have q3 := q2 (L'.map (·.2)) ?_ ?_ w _ _ (k1.freed (k2.freed hw g1 g2) g g1) k3 (gnew g2 hw) upd_same (by rw [List.map_map]; exact rep.keep g2 (Keep.new hw)) (nS g2 hw)
        · exact q3
        · rw [List.pairwise_map]
          have nd2 : L'.Pairwise (fun p q => p.2 ≠ q.2) := List.pairwise_map.mp nd
          refine (List.pairwise_and_iff.mpr ⟨pw, nd2⟩).imp_of_mem fun {p q} hp hq h => ?_
          obtain ⟨l1, b1⟩ := hB p.2 (List.mem_map_of_mem (f := fun p : Addr × List Int => p.2) (hin p hp))
          obtain ⟨l2, b2⟩ := hB q.2 (List.mem_map_of_mem (f := fun p : Addr × List Int => p.2) (hin q hq))
          exact lex_code (by rw [l1, l2]) b1 b2 h.1 h.2
        · intro r
          constructor
          · intro hr2
            obtain ⟨p, hp, rfl⟩ := List.mem_map.mp hr2
            exact List.mem_map_of_mem (f := fun p : Addr × List Int => p.2) (hin p hp)
          · intro hr2
            obtain ⟨p, hp, rfl⟩ := List.mem_map.mp hr2
            obtain ⟨p2, hp2, e2⟩ := List.mem_map.mp (hL2 p hp)
            rw [← e2]
            exact List.mem_map_of_mem (f := fun p : Addr × List Int => p.2) (pm.symm.subset hp2)
    cases d <;> first | exact z.elim | skip
    · rename_i xs
      simp only [sortSetB] at z
      split at z
      · rename_i rows hr
        have ex := rowsD_eq hr
        subst ex
        obtain ⟨ok, q2⟩ := z
        simp only [Rep1, Rep] at r1
        obtain ⟨b, vs, rfl, sq, rl⟩ := r1
        obtain ⟨ks, rfl, rfl, hk⟩ := rows_at rl
        exact .inr ⟨b, ks, rfl, by rw [hK]; exact sq.sq, fun p hp => (hk p hp).sq, by simpa using ok.few, fun c L h1 h2 h3 => fin ks hk ok q2 c L h1 h2 h3⟩
      · exact z.elim
    · rename_i xs
      simp only [sortSetB] at z
      split at z
      · rename_i rows hr
        have ex := rowsD_eq hr
        subst ex
        obtain ⟨ok, q2⟩ := z
        obtain ⟨b, vs, rfl, sq, rl⟩ := r1.sq
        obtain ⟨ks, rfl, rfl, hk⟩ := rows_at rl
        exact .inl ⟨b, ks, rfl, by rw [hK]; exact sq, fun p hp => (hk p hp).sq, by simpa using ok.few, fun c L h1 h2 h3 => fin ks hk ok q2 c L h1 h2 h3⟩
      · exact z.elim) (fun _ _ z => z) q⟩
end
/-! ### a rising list of rows is the only one with its members -/
theorem pair_of_chain : ∀ {rows : List (List Int)}, chainB (fun a b => decide (a < b)) rows = true → rows.Pairwise (fun r q => r < q)
  | [], _ => .nil
  | [x], _ => by simp
  | x :: y :: r, h => by
    rw [chainB, Bool.and_eq_true, decide_eq_true_eq] at h
    have ih := pair_of_chain h.2
    refine List.pairwise_cons.mpr ⟨fun z hz => ?_, ih⟩
    obtain rfl | hz := List.mem_cons.mp hz
    · exact h.1
    · exact List.lt_trans h.1 ((List.pairwise_cons.mp ih).1 z hz)
theorem asc_unique : ∀ {a b : List (List Int)}, a.Pairwise (fun r q => r < q) → b.Pairwise (fun r q => r < q) → (∀ r, r ∈ a ↔ r ∈ b) → a = b
  | [], [], _, _, _ => rfl
  | [], y :: b, _, _, h => absurd ((h y).mpr List.mem_cons_self) (by simp)
  | x :: a, [], _, _, h => absurd ((h x).mp List.mem_cons_self) (by simp)
  | x :: a, y :: b, ha, hb, h => by
    rw [List.pairwise_cons] at ha hb
    have e : x = y := by
      have h1 := (h x).mp List.mem_cons_self
      have h2 := (h y).mpr List.mem_cons_self
      obtain e | h1 := List.mem_cons.mp h1
      · exact e
      · obtain e | h2 := List.mem_cons.mp h2
        · exact e.symm
        · exact absurd (List.lt_trans (ha.1 y h2) (hb.1 x h1)) (List.lt_irrefl _)
    subst e
    refine congrArg _ (asc_unique ha.2 hb.2 fun r => ⟨fun hr => ?_, fun hr => ?_⟩)
    · obtain rfl | q := List.mem_cons.mp ((h r).mp (List.mem_cons_of_mem _ hr))
      · exact absurd (ha.1 r hr) (List.lt_irrefl _)
      · exact q
    · obtain rfl | q := List.mem_cons.mp ((h r).mpr (List.mem_cons_of_mem _ hr))
      · exact absurd (hb.1 r hr) (List.lt_irrefl _)
      · exact q
theorem eqvAll_ints : ∀ a b : List Int, PyData.eqvAll (a.map .int) (b.map .int) = decide (a = b)
  | .nil, .nil => by simp [PyData.eqvAll]
  | [], y :: b => by simp [PyData.eqvAll]
  | x :: a, [] => by simp [PyData.eqvAll]
  | x :: a, y :: b => by
    simp only [List.map_cons, PyData.eqvAll, eqv_int, eqvAll_ints a b]
    by_cases h : x = y <;> by_cases h2 : a = b <;> simp [h, h2]
def rowP (ns : List Int) : PyData := .tuple (ns.map .int)
theorem eqvAll_rows : ∀ a b : List (List Int), PyData.eqvAll (a.map rowP) (b.map rowP) = decide (a = b)
  | .nil, .nil => by simp [PyData.eqvAll]
  | [], y :: b => by simp [PyData.eqvAll]
  | x :: a, [] => by simp [PyData.eqvAll]
  | x :: a, y :: b => by
    have e : PyData.eqv (rowP x) (rowP y) = decide (x = y) := by
      unfold rowP
      simp only [PyData.eqv]
      exact eqvAll_ints x y
    simp only [List.map_cons, PyData.eqvAll, e, eqvAll_rows a b]
    by_cases h : x = y <;> by_cases h2 : a = b <;> simp [h, h2]
theorem toPyL_rows : ∀ rows : List (List Int), toPyL (rows.map rowD) = some (rows.map rowP)
  | [] => rfl
  | r :: rows => by simp [rowD, rowP, toPyL_int, toPyL_rows rows]
theorem asc1_rows : ∀ rws : List (List Int), asc1 (rws.map rowD) = chainB (fun a b => decide (a < b)) rws
  | [] => rfl
  | r :: rws => by
    unfold asc1 ascD
    rw [rowsD_map]
    rfl
theorem depth_rows : ∀ rws : List (List Int), PyData.depthAll (rws.map rowP) ≤ 3
  | [] => Nat.zero_le _
  | r :: rws => by
    have h1 := depth_ints r
    have h2 := depth_rows rws
    show max (PyData.depth (.tuple (r.map .int))) (PyData.depthAll (rws.map rowP)) ≤ 3
    simp only [PyData.depth]
    omega
theorem tabW_tup (n : Nat) (xs : List D) : tabW n (.tup xs) = (xs.all (rowW n) && asc1 xs) := rfl
theorem wholes_empty (ys : List D) : ((ys.filter fun d => !wholeB d).map fun _ => PyData.int 1).isEmpty = ys.all wholeB := by
  induction ys with
  | nil => rfl
  | cons y ys ih =>
    cases h : wholeB y with
    | true => rw [List.filter_cons_of_neg (by simp [h]), List.all_cons, h, Bool.true_and]; exact ih
    | false => rw [List.filter_cons_of_pos (by simp [h]), List.all_cons, h]; rfl
end Dl

set_option maxRecDepth 100000
set_option maxHeartbeats 4100000
/-! _law_caught(lambda: ..): what a work raises, caught, kept, asked for its class. -/
namespace Dl
open L2 PySem PySem.Spec PyProof.Rows

/-! ### an exception that was caught -/
theorem exK_ok {P : Program} {w : World} {H : Hp} {h : Heap} {a : Addr} {cls : Value} {oe : Obj} {vs : Array Value} (e : h.get? a = some oe) (z : Zc cls none oe) (d : oe.data = .fields vs) : ObjOk P w H h a (ExK cls a) := by
  refine ⟨⟨oe, vs, e, z, d⟩, ⟨oe, e⟩, ?_⟩
  rintro h1 h2 ⟨o, v, q, r⟩ k
  exact ⟨o, v, k o q, r⟩
section
variable {X : Cx} {pins : List (Addr × Obj)} {σ : L2.St} {H : Hp} {s : Shared}
/-- an object that came to be in this def's time is told of from here on -/
theorem told_new {a : Addr} {cls : Value} {oe : Obj} {vs : Array Value} (I : L2.Inv X pins σ H s) (e : s.heap.get? a = some oe) (z : Zc cls none oe) (d : oe.data = .fields vs) (na : H a = none) (n0 : X.s_0.heap.get? a = none)
    (nL : a ≠ X.env.locals) (np : ∀ p ∈ X.pn ++ pins, p.1 ≠ a) : L2.Inv X pins σ (upd H a (ExK cls a)) s := by
  have there : ∀ {b : Addr} {u : HO}, H b = some u → upd H a (ExK cls a) b = some u := fun q => by rw [upd_ne (ne_of_none q na)]; exact q
  have old : ∀ {b : Addr} {o : Obj}, X.s_0.heap.get? b = some o → b ≠ a := fun q y => by
    subst y
    rw [n0] at q
    cases q
  have free : ∀ {b : Addr}, b ≠ a → H b = none → upd H a (ExK cls a) b = none := fun y q => by rw [upd_ne y]; exact q
  refine ⟨I.ok, I.os, I.bare, ⟨I.base.keep, I.base.slot, fun b o q n hx => free (old q) (I.base.free b o q n hx), I.base.there, fun b xs q => there (I.base.tups b xs q), fun b o u q => there (I.base.frzs b o u q), fun b ps q => ?_⟩, I.loc, I.cell,
    free (Ne.symm nL) I.free, fun x c q => free (fun y => ?_) (I.freeC x c q), fun p hp => ?_, L2.HOk.laidN I.hok (fun _ _ q => q) na (exK_ok e z d), I.len⟩
  · obtain ⟨m, q⟩ := I.base.tbls b ps q
    exact ⟨m, there q⟩
  · obtain ⟨v, o, h1, h2⟩ := I.cell x c q
    rw [y, e] at h1
    cases h1
    rw [d] at h2
    cases h2
  · obtain ⟨h1, h2, h3⟩ := I.pin p hp
    exact ⟨h1, free (np p hp) h2, h3⟩
end
theorem no_frame {h B : Heap} {l : List PySem.Env} {a : Addr} {o : Obj} {vs : Array Value} (ff : h.FunFrames B l) (e : h.get? a = some o) (d : o.data = .fields vs) : a ∉ frs l := fun y => by
  obtain ⟨_, o', e', n⟩ := ff.mem y
  rw [e] at e'
  cases e'
  exact n _ d
/-- what the clause wishes: the suite's end, the exception told of -/
def wGot (K : PySem.W.Frag) (c : Value) (n i : Nat) (ts : TS) (D : Ends) : WX := fun cls d σ H => PySem.W.exmOne K cls c = some true ∧ d = none ∧
  ∀ a, H a = none → σ.length = n → ts { nx := fun σ' H' => D.nx (σ'.set i none) (upd H' a (ExK cls a)), rt := fun _ _ => False, bk := fun _ _ => False, ct := fun _ _ => False } (σ.set i (some (.ref a))) H
/-- try: body / except x as n: suite; behind it the exception is told of -/
theorem ps_try_got {X : Cx} {x n : Str} {c : Value} {i : Nat} {body suite : List Stmt} {b₀ : Stmt} {np_ pos pos' : Pos} {tb : WX → TS} {ts : TS} (hst : X.stack = X.env :: X.outer) (hfr : X.env.frame = some X.env.locals) (hex : X.ex = [])
    (hN : X.N.Nodup) (hi : X.N[i]? = some n) (hln : X.env.kindOf n = some .local) (hc : Names X x c)
    (hb : ∀ (W : WX) (pn : List (Addr × Obj)) (xe : Value → Shared → Prop), Takes (X.tr pn xe) W → PassesOwn (model X.prog X.w) X.A X.env xe → PSs (X.tr pn xe) body (tb W))
    (hsu : ∀ (a : Addr) (oe : Obj) (pn : List (Addr × Obj)), PSs (X.suite a ((a, oe) :: pn)) (b₀ :: suite) ts) :
    PS X (.Try body [.ExceptHandler (some (.Name x np_)) (some n) (b₀ :: suite) pos'] [] [] pos) (fun D σ H => tb (wGot X.K c X.N.length i ts D) D σ H) := by
  refine ⟨fun pins s σ H D I hgo => wpAny_Try_except (wpAny_mono ((hb (wGot X.K c X.N.length i ts D) (X.pn ++ pins) _ (fun u s' air => ?_) PassesOwn.looking).run [] s σ H D (I.toTry _) hgo) (fun f s1 fin => ?_) (fun _ _ y => y))⟩
  case refine_2 =>
    have back : ∀ {σ' : L2.St} {H' : Hp} {pn' : List (Addr × Obj)} {xe : Value → Shared → Prop}, L2.Inv (X.tr (X.pn ++ pins) xe) pn' σ' H' s1 → L2.Inv X pins σ' H' s1 := fun J => J.ofTry I.ok
    match f, fin with
    | .next, ⟨σ', H', J, q⟩ => exact wpAny_execs_nil ⟨σ', H', back J, q⟩
    | .brk, ⟨σ', H', J, q⟩ => exact ⟨σ', H', back J, q⟩
    | .cont, ⟨σ', H', J, q⟩ => exact ⟨σ', H', back J, q⟩
    | .ret u, ⟨v, σ', H', J, r, q⟩ => exact ⟨v, σ', H', back J, r, q⟩
  obtain ⟨a, B, sI, pins', σ', H', cls, d, eu, JT, nb, up, sky, na, os, ag, hm, hd, hy⟩ := air
  subst eu hd
  have ok := I.ok
  have J : L2.Inv X pins σ' H' sI := JT.ofTry ok
  have frames : X.A.frames = some (X.env :: X.outer) := by rw [ok.frames, hst]
  have sky1 : Sky B (X.env :: X.outer) a (Zc cls none) X.env.locals s'.heap := by rw [← hst]; exact sky
  show wpAny (model X.prog X.w) X.A (noteFrame (.ref a) X.env) _ _ s'
  refine Sky.land Zc.steady frames hfr sky1 fun h3 fly up3 => ?_
  obtain ⟨o3, v3, get3, z3, d3⟩ := fly.there
  have noF : a ∉ frs (X.env :: X.outer) := no_frame fly.2.2.1 get3 d3
  have nL : a ≠ X.env.locals := fun y => noF (List.mem_filterMap.mpr ⟨X.env, List.mem_cons_self, by rw [hfr, y]⟩)
  have nF : a ∉ X.fs := fun y => by
    obtain ⟨en, h1, h2⟩ := List.mem_filterMap.mp y
    exact noF (List.mem_filterMap.mpr ⟨en, List.mem_cons_of_mem _ h1, h2⟩)
  have gone : sI.heap.get? a = none := by
    cases q : sI.heap.get? a with
    | none => rfl
    | some o =>
      have y := nb a o q (by rw [show (X.tr (X.pn ++ pins) _).stack = X.stack from rfl, hst]; exact noF)
      rw [fly.2.1] at y
      cases y
  have n0 : X.s_0.heap.get? a = none := by
    cases q : X.s_0.heap.get? a with
    | none => rfl
    | some o =>
      obtain ⟨o', y⟩ := J.base.there a o q (by rw [hex]; exact fun z => nomatch z)
      rw [gone] at y
      cases y
  have np : ∀ p ∈ X.pn ++ pins, p.1 ≠ a := fun p hp y => by
    have q := (J.pin p hp).1
    rw [y, gone] at q
    cases q
  have land : ∀ {h : Heap}, B.StaysIn h → sI.heap.UpToSlots h → L2.Inv X pins σ' H' { s' with heap := h } := fun k1 k2 => J.landed nb k1 k2 os ag
  have S3 := (land fly.1 (up.trans up3)).suite get3 d3 na nL nF
  refine wpAny_handleBy_cons (codeAny_handlers_test ?_) (fun q => nomatch q)
  have asked : PySem.W.Looks (model X.prog X.w) h3 (typeOf (.ref a)) cls := fun A Q E s k q => wpAny_typeOf_ref (k _ _ get3) (by rw [z3.1]; exact q)
  have hit := PySem.W.exm_one (M := model X.prog X.w) (land fly.1 (up.trans up3)).kIn asked hm
  have named : ∀ {Q E : Value → Shared → Prop}, Q c { s' with heap := h3 } → wpAny (model X.prog X.w) (X.A.mark (some (.ref a))) (eval (.Name x np_) X.env) Q E { s' with heap := h3 } := fun {Q E} q => by
    obtain ⟨g1, g2, g3 | ⟨g3, g4, g5⟩⟩ := hc
    · exact ld_glob (X := X.suite a ((a, o3) :: (X.pn ++ pins))) S3 g1 g3 q g2
    · exact ld_blt (X := X.suite a ((a, o3) :: (X.pn ++ pins))) S3 g1 g3 g4 q g5 g2
  refine named (hit.here (codeAny_handlers_suite_as ?_))
  refine HandSPX.lands_againZ fly fun h4 fly4 up4 => ?_
  obtain ⟨o4, v4, get4, z4, d4⟩ := fly4.there
  have S4 := (land fly4.1 ((up.trans up3).trans up4)).suite get4 d4 na nL nF
  refine store_ok (X := X.suite a ((a, o4) :: (X.pn ++ pins))) (v := .ref a) S4 hN hi (.inl hln) rfl (fun s5 S5 => ?_) (.inr hln)
  refine wpAny_mono ((hsu a o4 (X.pn ++ pins)).run [] s5 _ H' _ S5 (hy a na S4.len)) (fun f s6 fin => ?_) (fun _ _ y => y.elim)
  match f, fin with
  | .next, ⟨σ6, H6, S6, q6⟩ =>
    obtain ⟨p1, p2, _⟩ := S6.pin (a, o4) (List.mem_append_left _ List.mem_cons_self)
    exact gone_ok (told_new (S6.unsuite ok) p1 z4 d4 p2 n0 nL np) hN hi hln fun s7 J7 => ⟨_, _, J7, q6⟩
  | .brk, ⟨_, _, _, y⟩ => exact y.elim
  | .cont, ⟨_, _, _, y⟩ => exact y.elim
  | .ret u, ⟨_, _, _, _, _, y⟩ => exact y.elim

/-! ### the lambda -/
section
variable {X : Cx} {pins : List (Addr × Obj)} {σ : L2.St} {H : Hp} {s : Shared}
/-- a lambda made: but for its def's table, and its code object perhaps, nothing is other -/
theorem lam_made {c P : Addr} {params : Arguments} {body : Expr} {scope : Scope} {pos : Pos} {E Q : Value → Shared → Prop} (I : L2.Inv X pins σ H s) (TB : LamX.TabB X.base X.mg c P) (hcode : X.env.code = .ref c) (hT : LamX.TabS H P (X.env.qual ++ "<lambda>"))
    (hdef : defaultsOf params X.env = ([], [])) (hfree : ∀ y ∈ scope.names, y.2 = .free → ∃ c, X.env.cells.lookup y.1 = some c)
    (h : ∀ (f c' : Addr) (pm ctv : Value) (H1 : Hp) (s' : Shared), L2.Inv X pins σ H1 s' → Gx.TabN P (X.env.qual ++ "<lambda>") H H1 → H1 c' = some (LamX.CodeO c' (X.env.qual ++ "<lambda>")) → H1 f = none → f ∉ frs X.stack →
      s'.heap.get? f = some (PySem.W.kla_obj "<lambda>" (X.env.qual ++ "<lambda>") params body scope (cloFrom X.env.cells scope.names []) pm c' ctv) → Q (.ref f) s') :
    wpAny (model X.prog X.w) X.A (eval (.Lambda params body scope pos) X.env) Q E s := by
  obtain ⟨ps, hP, tri, nam⟩ := id hT
  have getP : s.heap.get? P = some { cls := .none, data := .fields ps } := I.hok P _ hP
  have bt : s.heap.BuiltinsAt X.mg P := TB.bm.keeps I.bk
  have hd : PySem.W.CodeHd s.heap c P := TB.code.keeps I.bk
  have gl : s.heap.Ns mainGlobals X.mg := I.mod.glob.keeps I.bk
  have out : ∀ {f : Addr}, s.heap.objs.size ≤ f → f ∉ frs X.stack := fun {f} hf y => by
    rcases List.mem_cons.mp (I.stkSub _ y) with e | e
    · rw [e] at hf
      exact absurd (Nat.lt_of_lt_of_le I.lt hf) (Nat.lt_irrefl _)
    · exact I.nofs hf e
  refine PySem.W.kla_eval hdef ?_
  cases found : codeAmong pos ps.toList with
  | some cv =>
    obtain ⟨c', rfl, hco⟩ := nam pos cv found
    refine PySem.W.kla_makeFunctionHit (closure_ok hfree) I.ok.glob gl hcode hd getP tri found bt fun ctv h' tk old le => ?_
    refine h h'.objs.size c' _ ctv H _ (I.kept (t' := tk) fun b o e => Heap.get?_push_of_some _ (old b o e)) ⟨hT, fun _ _ _ e => e⟩ hco (I.hok.fresh le) (out le) (Heap.get?_push_size _ rfl)
  | none =>
    refine PySem.W.kla_makeFunction (closure_ok hfree) I.ok.glob gl hcode hd getP tri found TB.gP bt fun c' ctv h' tk old ge lt rec tab => ?_
    obtain ⟨c2, oc, vs, t, e2, g1, g2, g3⟩ := rec
    cases e2
    have le : s.heap.objs.size ≤ h'.objs.size := by omega
    have nc : H c' = none := I.hok.fresh ge
    have nPc : P ≠ c' := ne_of_none hP nc
    have J := LamX.inv_table (t' := tk) (q := X.env.qual ++ "<lambda>") (more := #[rawInt pos.line, rawInt pos.col, .ref c'])
      (h' := h'.push (PySem.W.kla_obj "<lambda>" (X.env.qual ++ "<lambda>") params body scope (cloFrom X.env.cells scope.names []) ((X.mg "__name__").getD .none) c' ctv)) I hP (fun b o hb e => Heap.get?_push_of_some _ (old b o hb e))
      (Heap.get?_push_of_some _ tab) ge ⟨oc, vs, t, Heap.get?_push_of_some _ g1, g2, g3⟩
    have nf : H h'.objs.size = none := I.hok.fresh le
    refine h h'.objs.size c' _ ctv _ _ J ?_ upd_same ?_ (out le) (Heap.get?_push_size _ rfl)
    · refine ⟨⟨_, by rw [upd_ne nPc, upd_same], by rw [Array.toList_append]; exact PySem.TriplesOk_snoc _ _ _ _ tri, fun p' cv hcv => ?_⟩, fun b o hb e => by rw [upd_ne (ne_of_none e nc), upd_ne hb]; exact e⟩
      rw [Array.toList_append] at hcv
      rcases LamX.among_app _ tri hcv with y | y
      · obtain ⟨c0, y1, y2⟩ := nam p' cv y
        have yP : c0 ≠ P := fun y3 => by
          rw [y3, hP] at y2
          exact LamX.codeO_ne ps (Option.some.inj y2).symm
        exact ⟨c0, y1, by rw [upd_ne (ne_of_none y2 nc), upd_ne yP]; exact y2⟩
      · exact ⟨c', y, upd_same⟩
    · have l1 := Heap.lt_size getP
      rw [upd_ne (Nat.ne_of_gt lt), upd_ne (Nat.ne_of_gt (Nat.lt_of_lt_of_le l1 le))]
      exact nf
end
/-- the lambda's reading, handed to TT -/
def tLamN (P : Addr) (q : Str) (TT : (XK → Hp → VK → Prop) → Hp → VK → Prop) (t : XK → TE) : TE := fun σ H Q => LamX.TabS H P q ∧ ∀ H1, Gx.TabN P q H H1 → TT (fun E H' Q' => t E σ H' Q') H1 Q
section
variable {X : Cx}
/-- x(lambda: body) -/
theorem pe_lamN {TT : (XK → Hp → VK → Prop) → Hp → VK → Prop} {x a : Str} {g c P : Addr} {k : Nat} {pg : Arguments} {bg : List Stmt} {sg : Scope} {dV kV doc pm cdv ct oc : Value} {an od : Option Addr} {osl : Array (Option Value)} {Ng : List Str}
    {params : Arguments} {body : Expr} {scope : Scope} {t : XK → TE} {p lpos pos : Pos} (hg : Gl X x) (hm : X.mg x = some (.ref g)) (hk : PySem.W.keepIn X.K (.ref g) = true) (hdb : (x == ("__debug__" : Str)) = false)
    (lk : X.K.lookup g = some ⟨oc, od, .func (PySem.W.fnOf x x pg bg sg dV kV doc pm an cdv ct), osl⟩) (hcg : PySem.W.codeIn X.K cdv x = true) (hb : L2.Binds X.K (PySem.W.fnOf x x pg bg sg dV kV doc pm an cdv ct) [a] []) (Sg : FnScope Ng [a] sg) (hNg : Ng[0]? = some a) (hva : Vis sg a)
    (hG : LamX.GivesTo X Ng x sg g cdv bg a (X.env.qual ++ "<lambda>") TT) (TB : LamX.TabB X.base X.mg c P) (hcode : X.env.code = .ref c) (hr : Room (k + 2) X.A) (L : LamX.LamS X.env.scope scope) (hdef : defaultsOf params X.env = ([], []))
    (hbind : ∀ (q : Str) (cl : List (Str × Addr)) (pm cv ctv : Value), bindArgs (PySem.W.kla_fn "<lambda>" q params body scope cl pm cv ctv) ⟨[], []⟩ = pure [])
    (hbody : ∀ (A : Around) (outer : List PySem.Env) (s : Shared) (H : Hp) (E : XK) (f c' : Addr), Room k (A.deeper (LamX.lamEnv X scope s.heap.objs.size f c')) → PE (LamX.lamCx X A outer s H E scope f c') body (t E))
    (hd : (a == ("__debug__" : Str)) = false := by decide) (hcd : (a == ("__classdict__" : Str)) = false := by decide) :
    PE X (.Call (.Name x p) [.Lambda params body scope lpos] [] pos) (tLamN P (X.env.qual ++ "<lambda>") TT t) := by
  refine ⟨fun pins s σ H Q I hh => wpAny_Call_Name_kw (ld_glob I hg hm ?_ hdb)⟩
  obtain ⟨hT, hh⟩ := hh
  refine PySem.W.callWith_K (h₀ := X.base) I.ok.mod.kin hk ?_ (by rfl) (by rfl)
  refine Calls.spliced_cons (lam_made I TB hcode hT hdef (L.has I.ok) fun f c' pm' ctv H1 s' J tn hco nf out hf => Calls.spliced_nil ⟨J.kIn, wpAny_call ?_⟩)
  have run := LamX.run_ofS (CX := C8.CX0) (E := C8.E0) (Q := Q) (N := Ng) (ps := [a]) (us := [.ref f]) (vs := [.ref f]) lk hcg Sg hr J.env0 (hb s' [.ref f] J.kIn rfl) (.cons rfl .nil) rfl fun hr' => by
    obtain ⟨t', ht', hq'⟩ := hG f c' s' H1 Q (fun E H' Q' => t E σ H' Q') (fun W pn xe E p1 p2 tk hW => LamX.pe_act (i := 0) J L hf nf out (hbind _ _ _ _ _) tk hW hr' (fun A outer s H hr2 => hbody A outer s H E f c' hr2) hNg hva hd hcd) hco (hh H1 tn)
    exact ⟨t', ht'.nox, hq'⟩
  refine codeAny_mono run fun r s2 y => ?_
  match r, y with
  | .ok (.ret u), y => exact J.after y
  | .ok .next, y => exact False.elim y
  | .ok .brk, y => exact False.elim y
  | .ok .cont, y => exact False.elim y
  | .error e, y => exact (show False from y).elim
end

/-! ### the def that calls what it got, and keeps what is raised -/
def TTc (K : PySem.W.Frag) (CJ : Addr) : (XK → Hp → VK → Prop) → Hp → VK → Prop := fun tl H Q =>
  tl (fun cls d H' => PySem.W.exmOne K cls (.ref CJ) = some true ∧ d = none ∧ ∀ a, H' a = none → Q (.ref a) (upd H' a (ExK cls a))) H fun _ H' => ∃ v, (some (some V.non) : Option (Option V)) = some (some v) ∧ Q v H'
theorem caught_gives {X : Cx} {x a y e J q : Str} {sg : Scope} {g CJ : Addr} {cdg : Value} {j0 : Nat} {p0 p1 p2 p3 p4 p5 p6 p7 p8 p9 q1 q2 q3 q4 q5 : Pos} (Sg : FnScope [a, y, e] [a] sg) (hy : sg.names.lookup y = some .local) (he : sg.names.lookup e = some .local)
    (hJ : sg.names.lookup J = some .globalImplicit) (hm : X.mg J = some (.ref CJ)) (hdJ : (J == ("__debug__" : Str)) = false) (hdy : (y == ("__debug__" : Str)) = false) (hcy : (y == ("__classdict__" : Str)) = false) (hde : (e == ("__debug__" : Str)) = false) (hce : (e == ("__classdict__" : Str)) = false)
    (hs1 : ∀ env, swapsWith (.Constant .none j0 p0) (some (.Name y p1)) p2.line env = pure false) (hs2 : ∀ env, swapsWith (.Call (.Name a p3) [] [] p4) none p5.line env = pure false) (hs3 : ∀ env, swapsWith (.Name e p7) (some (.Name y p8)) p9.line env = pure false) :
    LamX.GivesTo X [a, y, e] x sg g cdg [.Assign [.Name y p1] (.Constant .none j0 p0) p2, .Try [.Expr (.Call (.Name a p3) [] [] p4) p5] [.ExceptHandler (some (.Name J p6)) (some e) [.Assign [.Name y p8] (.Name e p7) p9] q1] [] [] q2, .Return (some (.Name y q3)) q4] a q (TTc X.K CJ) := by
  intro f c' s H Q tl act hco hh
  have gl : Gl (cxOf C8.CX0 X.prog X.w X.K X.mg X.base [a, y, e] x sg g cdg X.A X.stack s H C8.E0).nox J := hJ
  have n1 : ([a, y, e] : List Str)[1]? = some y := rfl
  have n2 : ([a, y, e] : List Str)[2]? = some e := rfl
  refine ⟨_, pss_cons (ps_set (X := (cxOf C8.CX0 X.prog X.w X.K X.mg X.base [a, y, e] x sg g cdg X.A X.stack s H C8.E0).nox) (i := 1) Sg.nd n1 (.inl hy) pe_non (hs1 _) (.inr hy))
    (pss_cons (ps_try_got (X := (cxOf C8.CX0 X.prog X.w X.K X.mg X.base [a, y, e] x sg g cdg X.A X.stack s H C8.E0).nox) (i := 2) (c := .ref CJ)
        (tb := fun W D σ H => ∃ Ech : XK, (∀ cls d σ' H', Ech cls d H' → W cls d σ' H') ∧ σ[0]? = some (some (.ref f)) ∧ H c' = some (LamX.CodeO c' q) ∧ tl Ech H fun _ H' => D.nx σ H')
        rfl rfl rfl Sg.nd n2 he ⟨gl, hdJ, .inl hm⟩ (fun W pn xe tk _ => ?_) (fun a oe pn => pss_one (ps_set (i := 1) Sg.nd n1 (.inl hy) (pe_var (i := 2) n2 (.inl he) hde hce) (hs3 _) (.inr hy))))
      (pss_one (ps_ret (pe_var (i := 1) n1 (.inl hy) hdy hcy)))), ?_⟩
  · refine ⟨fun pins s' σ H' D I hh' => ?_⟩
    obtain ⟨Ech, hW, h1, h2, h3⟩ := hh'
    exact (pss_one (ps_expr (pos := p5) (act W pn xe Ech p3 p4 tk hW) (hs2 _))).run pins s' σ H' D I ⟨h1, h2, h3⟩
  · refine ⟨fun cls d H' => PySem.W.exmOne X.K cls (.ref CJ) = some true ∧ d = none ∧ ∀ a, H' a = none → Q (.ref a) (upd H' a (ExK cls a)), fun cls d σ' H' ⟨h1, h2, h3⟩ => ⟨h1, h2, fun b hb hl => ?_⟩, rfl, hco, ?_⟩
    · have hl2 : 2 < σ'.length := by rw [hl]; exact Nat.lt_succ_self 2
      have hl1 : 1 < σ'.length := by omega
      refine ⟨.ref b, by rw [List.getElem?_set_self hl2], ?_⟩
      show ∃ v, ((((σ'.set 2 (some (V.ref b))).set 1 (some (V.ref b))).set 2 none)[1]? : Option (Option V)) = some (some v) ∧ Q v (upd H' b (ExK cls b))
      exact ⟨.ref b, by rw [List.getElem?_set_ne (by decide), List.getElem?_set_self (by simpa using hl1)], h3 b hb⟩
    · exact hh

/-! ### isinstance(caught, C) -/
def rIsX (K : PySem.W.Frag) : List V → Hp → VK → Prop := fun xs H Q => ∃ (a D : Addr) (c : V) (cv : Value) (b : Bool), xs = [.ref a, c] ∧ H a = some (ExK (.ref D) a) ∧ ExcC K D ∧ (∀ u, RelV c u → u = cv) ∧ PySem.W.kitOne K (.ref D) cv = some b ∧ Q (.bl b) H
theorem call_isX {X : Cx} : CallR X (.builtin "isinstance") (rIsX X.K) := by
  intro pins s σ H xs us Q I r hh
  obtain ⟨a, D, c, cv, b, rfl, ha, C, hcv, hb, q⟩ := hh
  match r with
  | .cons rx (.cons rt .nil) =>
    cases rx
    have ec := hcv _ rt
    subst ec
    obtain ⟨⟨oe, vs, g1, ⟨z1, z2⟩, g2⟩, _, _⟩ := I.hok a _ ha
    have at_ : PySem.W.InstAt s.heap a oe D none := by
      obtain ⟨o1, o2, o3, o4⟩ := oe
      dsimp only at z1 z2 g2
      subst z1 z2 g2
      exact ⟨g1, rfl, rfl, trivial⟩
    exact PySem.W.kia_one (PySem.W.handS_kitx_exc C.hg C.hk C.hs C.hd C.ha C.hn C.ht C.hm) I.kIn at_ hb (fun z => nomatch z) fun tk => ⟨.bl b, H, I.kept (t' := tk) fun _ _ y => y, rfl, q⟩

/-! ### isinstance(x(lambda: body), C), of data -/
/-- what a work of the lambda must do: raise an error below J; is it one below D? -/
def gotM (K : PySem.W.Frag) (CJ D : Addr) (mb : M Dl.D) : M Dl.D := ⟨fun γ P _ => mb.run γ (fun _ _ => False) fun c γ' => PySem.W.exmOne K (.ref c) (.ref CJ) = some true ∧ ExcC K c ∧ ∃ b, PySem.W.kitOne K (.ref c) (.ref D) = some b ∧ P (.bl b) γ',
  fun h _ q => mb.mono (fun _ _ z => z) (fun c γ' ⟨z1, z2, b, z3, z4⟩ => ⟨z1, z2, b, z3, h _ _ z4⟩) q⟩
@[simp] theorem run_gotM {K : PySem.W.Frag} {CJ D : Addr} {mb : M Dl.D} {γ : Gh} {P : Dl.D → Gh → Prop} {Xx : Addr → Gh → Prop} : (gotM K CJ D mb).run γ P Xx = mb.run γ (fun _ _ => False) fun c γ' => PySem.W.exmOne K (.ref c) (.ref CJ) = some true ∧ ExcC K c ∧ ∃ b, PySem.W.kitOne K (.ref c) (.ref D) = some b ∧ P (.bl b) γ' := rfl
section
variable {X : Cx} {W : Wd} {H0 : Hp} {E : XK}
theorem StOk.shEx {H1 H H' : Hp} {σ : L2.St} {e : DE} (st : StOk W H0 H σ e) (k : KeepF H H') : StOk W H1 H' σ (Dl.shE e) := ⟨(st.shE k).len, (st.shE k).sh, fun i o q => ((shE_at q).2 o rfl).elim, fun i j o o' a q => ((shE_at q).2 o rfl).elim⟩
/-- the def that catches, as it stands in the text -/
structure Cat (X : Cx) (W : Wd) (x : Str) (CJ : Addr) where
  g : Addr
  a : Str
  Ng : List Str
  pg : Arguments
  bg : List Stmt
  sg : Scope
  dV : Value
  kV : Value
  doc : Value
  pm : Value
  cdv : Value
  ct : Value
  oc : Value
  an : Option Addr
  od : Option Addr
  osl : Array (Option Value)
  m : X.mg x = some (.ref g)
  kp : PySem.W.keepIn X.K (.ref g) = true
  lk : X.K.lookup g = some ⟨oc, od, .func (PySem.W.fnOf x x pg bg sg dV kV doc pm an cdv ct), osl⟩
  cd : PySem.W.codeIn X.K cdv x = true
  bd : L2.Binds X.K (PySem.W.fnOf x x pg bg sg dV kV doc pm an cdv ct) [a] []
  sc : FnScope Ng [a] sg
  n0 : Ng[0]? = some a
  vis : Vis sg a
  dbg : (a == ("__debug__" : Str)) = false
  cld : (a == ("__classdict__" : Str)) = false
  gives : ∀ q : Str, LamX.GivesTo X Ng x sg g cdv bg a q (TTc X.K CJ)
theorem dp_caught {x cn : Str} {CJ D c P : Addr} {k : Nat} {params : Arguments} {body : Expr} {scope : Scope} {p p2 p3 pos pos2 lpos : Pos} {mb : DE → M Dl.D} (C : Cat X W x CJ) (hK : X.K = W.K) (hP : W.Tb P (X.env.qual ++ "<lambda>")) (TB : LamX.TabB X.base X.mg c P) (hcode : X.env.code = .ref c)
    (hr : Room (k + 2) X.A) (L : LamX.LamS X.env.scope scope) (hD : X.mg cn = some (.ref D)) (hkD : PySem.W.keepIn X.K (.ref D) = true) (hi : X.mg "isinstance" = none)
    (hbody : ∀ (A : Around) (outer : List PySem.Env) (s : Shared) (H : Hp) (E : XK) (f c' : Addr) (H0 : Hp), Room k (A.deeper (LamX.lamEnv X scope s.heap.objs.size f c')) → PE (LamX.lamCx X A outer s H E scope f c') body (lift W H0 E mb))
    (hg : Gl X x := by rfl) (hgi : Gl X "isinstance" := by rfl) (hgD : Gl X cn := by rfl) (hdx : (x == ("__debug__" : Str)) = false := by decide) (hdD : (cn == ("__debug__" : Str)) = false := by decide) (hdef : defaultsOf params X.env = ([], []) := by rfl)
    (hbind : ∀ (q : Str) (cl : List (Str × Addr)) (pm cv ctv : Value), bindArgs (PySem.W.kla_fn "<lambda>" q params body scope cl pm cv ctv) ⟨[], []⟩ = pure [] := by exact fun _ _ _ _ _ => rfl)
    (he : starEach [.Call (.Name x p2) [.Lambda params body scope lpos] [] pos2, .Name cn p3] X.env = (false, eval (.Call (.Name x p2) [.Lambda params body scope lpos] [] pos2) X.env) :: starEach [.Name cn p3] X.env := by rfl)
    (hpl : (backTo pos (starEach [.Name cn p3] X.env)).any (·.1) = false := by rfl) (he2 : starEach [.Name cn p3] X.env = (false, eval (.Name cn p3) X.env) :: starEach [] X.env := by rfl) :
    PE X (.Call (.Name "isinstance" p) [.Call (.Name x p2) [.Lambda params body scope lpos] [] pos2, .Name cn p3] [] pos) (lift W H0 E fun e => gotM W.K CJ D (mb (shE e))) := by
  refine PE.imp (pe_callB call_isX hgi hi (by decide +kernel) (pa_cons (pe_lamN hg C.m C.kp hdx C.lk C.cd C.bd C.sc C.n0 C.vis (C.gives _) TB hcode hr L hdef hbind (t := fun E σ H Q => lift W H E mb σ H Q) (fun A outer s H E f c' hr' => ⟨fun pins s1 σ H1 Q I h => (hbody A outer s H E f c' H1 hr').run pins s1 σ H1 Q I h⟩) C.dbg C.cld) (pa_cons (pe_glob (v := .ref D) hgD hD rfl hdD) pa_nil he2) he) (he := he) (hpl := hpl)) fun σ H Q ⟨e, st, k0, γ, g, q⟩ => ?_
  refine ⟨W.tG γ H P _ g hP, fun H1 tn => ?_⟩
  have k1 : Keep W H H1 := fun b o hb hs => tn.2 b o (fun y => hs (by rw [y]; exact W.tS P _ hP)) hb
  have g1 : W.G γ H1 := W.tU γ H H1 P _ g hP tn
  rw [run_gotM] at q
  refine ⟨shE e, st.shEx (k1.toF g), Keep.refl _, γ, g1, (mb (shE e)).mono (fun _ _ z => z.elim) (fun c γ' z => ?_) q⟩
  obtain ⟨z1, z2, b, z3, z4⟩ := z
  intro H' k2 g2
  refine ⟨by rw [hK]; exact z1, rfl, fun a ha => ?_⟩
  exact ⟨a, c, .ref D, .ref D, b, rfl, upd_same, by rw [hK]; exact z2, fun u hu => hu, by rw [hK]; exact z3, z4 _ _ ((k1.trans k2).trans (Keep.new ha)) (gnew g2 ha) (by simp only [Rep])⟩
end
end Dl

set_option maxRecDepth 100000
set_option maxHeartbeats 4100000
/-! more of expressions: t == (), t[::-1], t * n, a + b as one's own list, keywords, functions held as values -/
namespace Dl
open L2 PySem PySem.Spec PyProof.Rows

section
variable {X : Cx} {W : Wd} {H0 : Hp} {E : XK} {pos p p1 p2 p3 : Pos} {a b c : Expr} {ma mb mc : DE → M D}
/-! ### t == () -/
def rEmp (K : PySem.W.Frag) : R2 := fun x y H Q => ∃ t u xs, x = .ref t ∧ y = .ref u ∧ SqT K H t xs ∧ SqT K H u [] ∧ Q (.bl xs.isEmpty) H
theorem op_eqEmp (hu : X.A.units + 100 < cLine) : OpR X (compareOp .Eq) (rEmp X.K) := by
  intro pins s σ H x y v u Q I rx ry ⟨t, w, xs, ex, ey, h1, h2, q⟩
  subst ex ey
  cases rx
  cases ry
  obtain ⟨its, rv, t1, _⟩ := I.tuple h1
  obtain ⟨its2, rv2, t2, _⟩ := I.tuple h2
  cases rv2
  have hl := rv.length
  refine PySem.W.eq_tuplesT (n := 0) (e := fun _ => true) t1 t2 (fun j h3 h4 => absurd h4 (by simp)) (by omega) ⟨.bl xs.isEmpty, H, I, ?_, q⟩
  cases its with
  | nil => cases rv; rfl
  | cons z zs =>
    cases xs with
    | nil => cases rv
    | cons x xs => rfl
@[simp] def emptyT : D → M Bool
  | .tup xs => pure xs.isEmpty
  | _ => M.fail
theorem dt_eqEmp (hu : X.A.units + 100 < cLine) (hK : X.K = W.K) (ha : PE X a (lift1 W H0 E ma)) {k : Nat} (hm : behindInMarks .Eq (.Tuple [] k p2) = false := by rfl) : PT X (.Compare a [.Eq] [.Tuple [] k p2] pos) (liftT W H0 E fun e => do let x ← ma e; emptyT x) :=
  PT.imp (pt_cmpR (op_eqEmp hu) ha (pe_tup pa_nil) hm) fun σ H Q ⟨e, st, k0, _, g, q⟩ => ⟨e, st, k0, _, g, (ma e).mono (fun d _ z v H' k g' r => by
    cases d <;> first | exact z.elim | skip
    rename_i xs
    have z : ∀ H1, Keep W H H1 → W.G _ H1 → Q xs.isEmpty H1 := z
    simp only [Rep1, Rep] at r
    obtain ⟨t, vs, rfl, sq, rl⟩ := r
    refine ⟨by decide, fun q hq => ⟨t, q, vs, rfl, rfl, ?_, .inl (.inl upd_same), vs.isEmpty, rfl, ?_⟩⟩
    · rw [hK]
      exact (Keep.new hq).sqT g' sq.sq
    · have e9 : vs.isEmpty = xs.isEmpty := by
        have := rl.len
        cases vs <;> cases xs <;> first | rfl | cases this
      rw [e9]
      exact z _ (k.trans (Keep.new hq)) (gnew g' hq)) (fun _ _ z => z) q⟩

/-! ### t[::-1] -/
theorem fm_congr {α β : Type} {f g : α → Option β} : ∀ {l : List α}, (∀ x ∈ l, f x = g x) → l.filterMap f = l.filterMap g
  | [], _ => rfl
  | x :: l, h => by rw [List.filterMap_cons, List.filterMap_cons, h x List.mem_cons_self, fm_congr fun y hy => h y (List.mem_cons_of_mem _ hy)]
theorem pick_back (items : Array Value) : ((List.range items.size).filterMap fun (k : Nat) => items[((items.size : Int) - 1 + (k : Int) * (-1)).toNat]?) = items.toList.reverse := by
  rw [← PySem.W.krv_all items, ← List.filterMap_reverse, ← PySem.W.krv_range, List.filterMap_map]
  refine fm_congr fun k hk => ?_
  have hk := List.mem_range.mp hk
  have e : ((items.size : Int) - 1 + (k : Int) * (-1)).toNat = items.size - 1 - k := by omega
  rw [e]
  rfl
theorem getItem_back {t sl : Addr} {items : Array Value} {tok : Tok} {A : Around} {Ex : Value → Shared → Prop} {s : Shared} {Q : Value → Shared → Prop} (ht : IsTup s.heap t items) (hs : s.heap.IsSliceOf sl .none .none (.int (-1) tok)) (hsz : items.size ≤ sizeLine)
    (h : Q (.ref s.heap.objs.size) { s with heap := s.heap.push { cls := .type "tuple", data := .seq items.toList.reverse.toArray } }) : wpAny (model X.prog X.w) A (getItem (.ref t) (.ref sl)) Q Ex s := by
  have room : sizeOk (.seq items.toList.reverse.toArray) := by
    show items.toList.reverse.toArray.size ≤ sizeLine
    rw [List.size_toArray, List.length_reverse, Array.length_toList]
    exact hsz
  obtain ⟨os, hos, hcs, hds⟩ := id hs
  have isl : s.TypeIs (.ref sl) "slice" := ⟨os, hos, hcs⟩
  unfold getItem
  try with_reducible refine wpAny_holding ?_
  first
    | refine wpAny_bind (wpAny_pure ?_)
    | skip
  refine wpAny_bind (wpAny_sequenceKey ht.typeIs (by decide) (wpAny_bind (wpAny_callSpecial?_slot (name := Str.ofString "__getitem__") ht.typeIs PyProof.Rows.slot_tuple_getitem (wpAny_call_entry PyProof.Rows.slot_tuple_getitem ht.typeIs entry_tuple_getitem ?_ (args_tuple_getitem _ _)))))
  show wpAny _ _ (Builtin.Tuple.tupleItemsOf (.ref t) >>= _) _ _ s
  refine wpAny_bind (tupleItemsOf_ ht (wpAny_bind (wpAny_typeOf isl ?_)))
  rw [if_pos (by decide)]
  have cut : ∀ {Q2 : Int × Int × Nat → Shared → Prop}, Q2 ((items.size : Int) - 1, -1, items.size) s → ∀ (A : Around) (E2 : Value → Shared → Prop), wpAny (model X.prog X.w) A (Builtin.Slice.sliceApplied (.ref sl) (pure (items.size : Int))) Q2 E2 s := fun {Q2} q A E2 => by
    unfold Builtin.Slice.sliceApplied Builtin.Slice.sliceFields
    refine wpAny_bind (wpAny_bind (wpAny_field hos hds (x := .none) rfl (wpAny_bind (wpAny_field hos hds (x := .none) rfl (wpAny_bind (wpAny_field hos hds (x := .int (-1) tok) rfl (wpAny_pure ?_)))))))
    refine wpAny_bind (slicePart_int ?_)
    show wpAny _ _ (if ((-1 : Int) == 0) = true then _ else _) _ _ s
    rw [if_neg (by decide)]
    refine wpAny_bind (slicePart_none (wpAny_bind (slicePart_none (wpAny_bind (wpAny_pure (wpAny_pure ?_))))))
    have e : Builtin.Slice.slicePlaces (Builtin.Slice.sliceAdjust none none (-1) (items.size : Int)).1 (Builtin.Slice.sliceAdjust none none (-1) (items.size : Int)).2 (-1) = items.size := by
      simp only [Builtin.Slice.sliceAdjust, Builtin.Slice.slicePlaces]
      split <;> simp <;> omega
    show Q2 ((Builtin.Slice.sliceAdjust none none (-1) (items.size : Int)).1, -1, Builtin.Slice.slicePlaces (Builtin.Slice.sliceAdjust none none (-1) (items.size : Int)).1 (Builtin.Slice.sliceAdjust none none (-1) (items.size : Int)).2 (-1)) s
    rw [e]
    exact q
  refine wpAny_bind (cut ?_ _ _)
  have hno : ¬ (((items.size : Int) - 1 == 0 && (-1 : Int) == 1 && items.size == items.size) = true) := by
    intro q
    simp at q
  show wpAny _ _ (if ((items.size : Int) - 1 == 0 && (-1 : Int) == 1 && items.size == items.size) = true then _ else _) _ _ s
  rw [if_neg hno, pick_back]
  first
    | exact wpAny_bind (m := Builtin.Tuple.tupleExact _) (wpAny_newObj_type (wpAny_pure ⟨_, rfl, wpAny_pure h⟩) room)
    | exact wpAny_bind (wpAny_bind (m := Builtin.Tuple.tupleExact _) (wpAny_newObj_type (wpAny_pure ⟨_, rfl, wpAny_pure h⟩) room))

theorem pe_revT {e : Expr} {te : TE} {k : Nat} (he : PE X e te) : PE X (.Subscript e (.Slice none none (some (.UnaryOp .USub (.Constant (.int 1) k p1) p2)) p3) pos)
    (fun σ H Q => te σ H fun x H1 => ∃ t xs, x = .ref t ∧ SqT X.K H1 t xs ∧ Made H1 Q xs.reverse) := by
  refine ⟨fun pins s σ H Q I h => Subscript_ (thn (he.run pins s σ H _ I h) fun v s1 ⟨x, H1, I1, r1, q1⟩ => ?_)⟩
  obtain ⟨t, xs, rfl, hx, q⟩ := q1
  cases r1
  refine wpAny_Slice (thn (po_none.run pins s1 σ H1 (fun o H2 => o = none ∧ H2 = H1) I1 ⟨rfl, rfl⟩) fun vl s2 ⟨l, H2, I2, pl, el, e2⟩ => ?_)
  subst el e2
  refine thn (po_none.run pins s2 σ H2 (fun o H3 => o = none ∧ H3 = H2) I2 ⟨rfl, rfl⟩) fun vu s3 ⟨u, H3, I3, pu, eu, e3⟩ => ?_
  subst eu e3
  have minus : PO X (some (.UnaryOp .USub (.Constant (.int 1) k p1) p2)) (tPart (tUn (rU fun i => .int (-i)) (tC (.int 1)))) := po_some (pe_un un_neg pe_int)
  refine thn (minus.run pins s3 σ H3 (fun o H4 => o = some (-1) ∧ H4 = H3) I3 ⟨1, rfl, -1, rfl, rfl, rfl⟩) fun vs s4 ⟨o, H4, I4, ps, eo, e4⟩ => ?_
  subst eo e4
  have J : L2.Inv X pins σ H4 { s4 with heap := s4.heap.push { cls := .type "slice", data := .fields #[vl, vu, vs] } } := I4.kept (t' := s4.toks) fun b ob y => Heap.get?_push_of_some _ y
  obtain ⟨its, r, ht, hz⟩ := J.tuple hx
  have hlen := r.length
  show wpAny (model X.prog X.w) X.A (subscriptTail e (.Slice none none (some (.UnaryOp .USub (.Constant (.int 1) k p1) p2)) p3) (.ref t) (.ref s4.heap.objs.size)) (EP X pins σ Q) X.xe { s4 with heap := s4.heap.push { cls := .type "slice", data := .fields #[vl, vu, vs] } }
  have isl := Heap.IsSliceOf.new s4.heap vl vu vs
  cases pl
  cases pu
  obtain ⟨tok, evs⟩ : ∃ tok, vs = .int (-1) tok := by
    cases ps
    exact ⟨_, rfl⟩
  subst evs
  refine tail_any (ops := [.ref t, .ref s4.heap.objs.size]) ht.typeIs (PyProof.Rows.slot_tuple_getitem.lookup) ?_ (by with_unfolding_all rfl)
  refine getItem_back (X := X) ht isl (by rw [List.size_toArray]; omega) ?_
  exact made (t' := 0) J r.reverse (by rw [List.length_reverse]; exact hz) q
@[simp] def revT : D → M D
  | .tup xs => pure (.tup xs.reverse)
  | _ => M.fail
theorem RepL.rev {K : PySem.W.Frag} {H : Hp} : ∀ {xs : List D} {vs : List V}, RepL K H xs vs → RepL K H xs.reverse vs.reverse
  | [], vs, h => by simp only [RepL] at h; subst h; simp only [List.reverse_nil, RepL]
  | x :: xs, vs, h => by
    simp only [RepL] at h
    obtain ⟨v, ws, rfl, h1, h2⟩ := h
    rw [List.reverse_cons, List.reverse_cons]
    exact (RepL.rev h2).app (by simp only [RepL]; exact ⟨v, [], rfl, h1, rfl⟩)
theorem dp_revT {k : Nat} (hK : X.K = W.K) (ha : PE X a (lift1 W H0 E ma)) : PE X (.Subscript a (.Slice none none (some (.UnaryOp .USub (.Constant (.int 1) k p1) p2)) p3) pos) (lift W H0 E fun e => do let x ← ma e; revT x) :=
  PE.imp (pe_revT ha) fun σ H Q ⟨e, st, k0, _, g, q⟩ => ⟨e, st, k0, _, g, (ma e).mono (fun d _ z v H' k g' r => by
    cases d <;> first | exact z.elim | skip
    simp only [Rep1, Rep] at r
    obtain ⟨t, vs, rfl, sq, rl⟩ := r
    refine ⟨t, vs, rfl, by rw [hK]; exact sq.sq, fun q hq o ho => z _ _ (k.trans (Keep.new hq)) (gnew g' hq) ?_⟩
    simp only [Rep]
    exact ⟨q, _, rfl, ⟨o, upd_same, ho⟩, rl.rev.keep g' (Keep.new hq)⟩) (fun _ _ z => z) q⟩

/-! ### t * n -/
@[simp] def repT : D → D → M D
  | .tup xs, .int k => do M.need (xs ≠ [] ∧ 2 ≤ k ∧ k ≤ 1000 ∧ xs.length ≤ 1000); pure (.tup (List.replicate k.toNat xs).flatten)
  | _, _ => M.fail
theorem RepL.rept {K : PySem.W.Frag} {H : Hp} {xs : List D} {vs : List V} (h : RepL K H xs vs) : ∀ n, RepL K H (List.replicate n xs).flatten (List.replicate n vs).flatten
  | 0 => by simp only [List.replicate_zero, List.flatten_nil, RepL]
  | n + 1 => by
    rw [List.replicate_succ, List.replicate_succ, List.flatten_cons, List.flatten_cons]
    exact h.app (RepL.rept h n)
theorem opD_repT {K : PySem.W.Frag} (hK : K = W.K) : OpD W (rRepX K) repT := by
  intro E x y dx dy H Q γ hg r1 r2 z
  unfold repT at z
  split at z
  · rename_i xs k
    obtain ⟨⟨z1, z2, z3, z4⟩, z5⟩ := z
    simp only [Rep1, Rep] at r1 r2
    obtain ⟨t, vs, rfl, sq, rl⟩ := r1
    have hl := rl.len
    refine ⟨t, k, vs, rfl, r2, by rw [hK]; exact sq.sq, fun e => z1 (by rw [e] at hl; exact List.length_eq_zero_iff.mp hl.symm), z2, z3, by rw [hl]; exact z4, fun p hp o ho => z5 _ _ (Keep.new hp) (gnew hg hp) ?_⟩
    simp only [Rep]
    exact ⟨p, _, rfl, ⟨o, upd_same, ho⟩, (rl.rept _).keep hg (Keep.new hp)⟩
  · exact z.elim

/-! ### a + b, a new list of one's own -/
def rCatO : R2 := fun x y H Q => ∃ l b xs zs, x = .ref l ∧ y = .ref b ∧ LsT H l xs ∧ LsT H b zs ∧ xs.length + zs.length ≤ sizeLine ∧ ∀ p, H p = none → Q (.ref p) (upd H p (.lst (xs ++ zs)))
theorem op_catO : OpR X (binaryOp .Add) rCatO := by
  intro _ s σ H _ _ _ _ Q I rx ry ⟨l, b, xs, zs, ex, ey, hH, hB, room, q⟩
  subst ex ey
  cases rx
  cases ry
  obtain ⟨hl, its, n, r, e⟩ := hH.get I
  obtain ⟨hl2, its2, n2, r2, e2⟩ := hB.get I
  have h1 := r.length
  have h2 := r2.length
  refine PySem.P.add_list e e2 ?_ (by simp only [List.size_toArray]; omega)
  rw [show its.toArray ++ its2.toArray = (its ++ its2).toArray by simp]
  exact ⟨.ref _, _, I.lnew (t' := s.toks) (r.append r2) (by rw [List.length_append]; omega), rfl, q _ I.fresh⟩
@[simp] def catO : D → D → M (List D)
  | .lst xs, .lst ys => do M.need (xs.length + ys.length ≤ sizeLine); pure (xs ++ ys)
  | _, _ => M.fail
theorem do_cat (ha : PE X a (lift1 W H0 E ma)) (hb : PE X b (lift1 W H0 E mb)) : PE X (.BinOp a .Add b pos) (liftO W H0 E fun e => do let x ← ma e; let y ← mb e; catO x y) :=
  PE.imp (pe_op op_catO ha hb) fun σ H Q ⟨e, st, k0, _, g, q⟩ => ⟨e, st, k0, _, g, (ma e).mono (fun d _ z v1 H1 k1 g1 r1 => ⟨e, st.keep g k1, k0.trans k1, _, g1, (mb e).mono (fun d2 _ z2 v2 H2 k2 g2 r2 => by
    cases d <;> first | exact z2.elim | skip
    cases d2 <;> first | exact z2.elim | skip
    obtain ⟨y1, y2⟩ := z2
    have r1 := r1.keep g1 k2
    obtain ⟨l, vs, rfl, s1, t1⟩ := r1.lsT
    obtain ⟨b, us, rfl, s2, t2⟩ := r2.lsT
    exact ⟨l, b, vs, us, rfl, rfl, s1, s2, by rw [t1.len, t2.len]; exact y1, fun p hp => y2 p _ _ ((k1.trans k2).freed hp g g2) ((k1.trans k2).trans (Keep.new hp)) (gnew g2 hp) upd_same ((t1.app t2).keep g2 (Keep.new hp)) (nS g2 hp)⟩) (fun _ _ z => z) z⟩) (fun _ _ z => z) q⟩

/-! ### keywords -/
variable {kws : List Keyword} {ms mk : DE → M (List D)} {nm : Option Str} {kpos : Pos}
theorem PK.imp {t t' : TA} (h : PK X kws t) (q : ∀ σ H Q, t' σ H Q → t σ H Q) : PK X kws t' := ⟨fun p pins s σ H Q I z => h.run p pins s σ H Q I (q σ H Q z)⟩
theorem dpk_nil : PK X [] (liftA W H0 E fun _ => pure []) := PK.imp pk_nil fun σ H Q ⟨e, st, k0, _, g, q⟩ => q [] H (Keep.refl H) g (by simp only [RepL])
theorem dpk_cons (ha : PE X a (lift W H0 E ma)) (hs : PK X kws (liftA W H0 E mk)) : PK X (⟨nm, a, kpos⟩ :: kws) (liftA W H0 E (consM ma mk)) :=
  PK.imp (pk_cons ha hs) fun σ H Q ⟨e, st, k0, _, g, q⟩ => ⟨e, st, k0, _, g, (ma e).mono (fun dx _ z v H1 k1 g1 r1 => ⟨e, st.keep g k1, k0.trans k1, _, g1, (mk e).mono (fun ds _ z2 vs H2 k2 g2 r2 =>
    z2 (v :: vs) H2 (k1.trans k2) g2 (by simp only [RepL]; exact ⟨v, vs, rfl, r1.keep g1 k2, r2⟩)) (fun _ _ z => z) z⟩) (fun _ _ z => z) q⟩
abbrev KbA (K : PySem.W.Frag) (fd : FuncData) (ps : List Str) (n : Nat) (ks : List Str) : Prop := KBn K fd ps n ks (fun us ws => us ++ ws) (fun vs zs => vs ++ zs)
theorem FunC.kb {K : PySem.W.Frag} {x qual : Str} {st : Stmt} {f cc : Addr} {fd : FuncData} {ps ks : List Str} {n : Nat} (F : FunC K x qual st f cc fd)
    (h : ∀ (kV doc pm : Value) (an : Option Addr) (cv ct : Value) (us ws : List Value), us.length = n → ws.length = ks.length → bindArgs (PySem.W.fnOf x qual (defArgs st) (defBody st) (defScope st) .none kV doc pm an cv ct) ⟨us, ks.zip ws⟩ = pure (ps.zip (us ++ ws))) : KbA K fd ps n ks := by
  obtain ⟨oc, od, kV, doc, pm, an, ct, osl, rfl, lk, hcd⟩ := F.ex
  exact ⟨fun s us ws _ l1 l2 => .of_eq (h kV doc pm an (.ref cc) ct us ws l1 l2), fun r1 r2 => r1.append r2⟩
/-- f(k = v, ..) -/
theorem dp_callK0 {k n : Nat} {f : Addr} {fd : FuncData} {ps ks : List Str} {F : List D → M D} {x : Str} (hF : FnOk X.prog X.w X.K X.mg X.base (L2.CX X.prog X.w) k f fd ps (spD W n F)) (hr : Room k X.A) (hm : X.mg x = some (.ref f)) (hk : PySem.W.keepIn X.K (.ref f) = true) (hb : KbA X.K fd ps 0 ks)
    (hx : Passes (L2.CX X.prog X.w) X E) (hkw : PK X kws (liftA W H0 E mk)) (hg : Gl X x := by rfl) (hdb : (x == ("__debug__" : Str)) = false := by decide) (hall : (backToKw pos (keywordEach kws X.env)).all (·.1.isSome) = true := by rfl)
    (hks : (backToKw pos (keywordEach kws X.env)).filterMap (·.1) = ks := by rfl) (hpl : ((backTo pos (starEach [] X.env)).any (·.1) || (backToKw pos (keywordEach kws X.env)).any (·.1.isNone)) = false := by rfl) :
    PE X (.Call (.Name x p) [] kws pos) (lift W H0 E fun e => do let ys ← mk e; M.need (ys.length = n ∧ ys.length = ks.length); F ys) := by
  refine ⟨fun pins s σ H Q I ⟨e, st, k0, _, g, q⟩ => wpAny_Call_Name_kw (ld_glob I hg hm (PySem.W.callWith_KW0 (h₀ := X.base) I.ok.mod.kin hk hall (thn (hkw.run pos pins s σ H (fun vs H' => ∃ ds γ, Keep W H H' ∧ W.G γ H' ∧ RepL W.K H' ds vs ∧ (ds.length = n ∧ ds.length = ks.length) ∧
    (F ds).run γ (fun d γ' => ∀ v H', Keep W H H' → W.G γ' H' → Rep W.K H' d v → Q v H') (XD W H0 E)) I ⟨e, st, k0, _, g, (mk e).mono (fun ds γ z vs H1 k1 g1 r1 => ⟨ds, γ, k1, g1, r1, z.1, z.2⟩) (fun _ _ z => z) q⟩) fun ws s2 ⟨zs, H2, I2, rz, ds, γ, k2, g2, r2, ⟨l1, l2⟩, q2⟩ => ⟨I2.kIn, ?_⟩) hpl) hdb)⟩
  rw [hks]
  refine run_fnN (us := []) (vs := []) hF hr hb hx I2 .nil rz rfl (by rw [r2.len]; exact l2) ?_
  exact ⟨ds, r2, l1, γ, g2, (F ds).mono (fun d _ z v H3 k3 g3 r3 => z v H3 (k2.trans k3) g3 r3) (fun c _ z H3 k3 g3 => z H3 ((k0.trans k2).trans k3) g3) q2⟩
/-- f(e, .., k = v, ..) -/
theorem dp_callK {k n m : Nat} {f : Addr} {fd : FuncData} {ps ks : List Str} {F : List D → M D} {x : Str} {es : List Expr} (hF : FnOk X.prog X.w X.K X.mg X.base (L2.CX X.prog X.w) k f fd ps (spD W n F)) (hr : Room k X.A) (hm : X.mg x = some (.ref f)) (hk : PySem.W.keepIn X.K (.ref f) = true) (hb : KbA X.K fd ps m ks)
    (hx : Passes (L2.CX X.prog X.w) X E) (ha : PA X (a :: es) (liftA W H0 E ms)) (hkw : PK X kws (liftA W H0 E mk)) (hg : Gl X x := by rfl) (hdb : (x == ("__debug__" : Str)) = false := by decide) (hall : (backToKw pos (keywordEach kws X.env)).all (·.1.isSome) = true := by rfl)
    (hks : (backToKw pos (keywordEach kws X.env)).filterMap (·.1) = ks := by rfl) (he : starEach (a :: es) X.env = (false, eval a X.env) :: starEach es X.env := by rfl)
    (hpl : ((backTo pos (starEach (a :: es) X.env)).any (·.1) || (backToKw pos (keywordEach kws X.env)).any (·.1.isNone)) = false := by rfl) :
    PE X (.Call (.Name x p) (a :: es) kws pos) (lift W H0 E fun e => do let xs ← ms e; let ys ← mk e; M.need (xs.length = m ∧ ys.length = ks.length ∧ xs.length + ys.length = n); F (xs ++ ys)) :=
  PE.imp (pe_callN hF hr hg hm hk hb hx ha hkw hall hks hdb he hpl) fun σ H Q ⟨e, st, k0, _, g, q⟩ => ⟨e, st, k0, _, g, (ms e).mono (fun xs _ z vs H1 k1 g1 r1 => ⟨e, st.keep g k1, k0.trans k1, _, g1, (mk e).mono (fun ys _ z2 ws H2 k2 g2 r2 => by
    obtain ⟨⟨l1, l2, l3⟩, z2⟩ := z2
    have r1 := RepL.keep g1 k2 _ _ r1
    exact ⟨by rw [r1.len]; exact l1, by rw [r2.len]; exact l2, xs ++ ys, r1.app r2, by rw [List.length_append]; exact l3, _, g2, (F (xs ++ ys)).mono (fun d _ z v H3 k3 g3 r3 => z v H3 ((k1.trans k2).trans k3) g3 r3) (fun c _ z H3 k3 g3 => z H3 (((k0.trans k1).trans k2).trans k3) g3) z2⟩) (fun _ _ z => z) z⟩) (fun _ _ z => z) q⟩

/-! ### a function held as a value, called -/
structure CalO (P : Program) (w : World) (W : Wd) (mg : Str → Option Value) (base : Heap) (k n : Nat) (f : Addr) (F : List D → M D) : Prop where
  ex : ∃ fd ps, FnOk P w W.K mg base (L2.CX P w) k f fd ps (spD W n F) ∧ Binds W.K fd ps []
  kp : PySem.W.keepIn W.K (.ref f) = true
theorem Cal.o {P : Program} {w : World} {mg : Str → Option Value} {base : Heap} {x : Str} {k n : Nat} {F : List D → M D} (C : Cal P w W mg base x k n F) : CalO P w W mg base k n C.f F := ⟨⟨C.fd, C.ps, C.ok, C.bd⟩, C.kp⟩
/-- which functions may stand there -/
@[simp] def calO (S : Addr → Option (List D → M D)) : D → List D → M D
  | .ob (.ref f), xs => match S f with
    | some F => F xs
    | none => M.fail
  | _, _ => M.fail
theorem dp_callO (i : Nat) {k n : Nat} {x : Str} {es : List Expr} {S : Addr → Option (List D → M D)} (hS : ∀ f F, S f = some F → CalO X.prog X.w W X.mg X.base k n f F) (hK : X.K = W.K) (hr : Room k X.A) (hx : Passes (L2.CX X.prog X.w) X E) (ha : PA X (a :: es) (liftA W H0 E ms))
    (hN : X.N[i]? = some x := by rfl) (hv : Vis X.env.scope x := by first | exact Or.inl rfl | exact Or.inr (Or.inl rfl) | exact Or.inr (Or.inr rfl)) (hd : (x == ("__debug__" : Str)) = false := by decide) (hcd : (x == ("__classdict__" : Str)) = false := by decide)
    (he : starEach (a :: es) X.env = (false, eval a X.env) :: starEach es X.env := by rfl) (hpl : (backTo pos (starEach es X.env)).any (·.1) = false := by rfl) :
    PE X (.Call (.Name x p) (a :: es) [] pos) (lift W H0 E fun e => do let fo ← vS i e; M.need (∃ f F, fo = .ob (.ref f) ∧ S f = some F); let xs ← ms e; M.need (xs.length = n); calO S fo xs) := by
  refine ⟨fun pins s σ H Q I ⟨e, st, k0, γ, g, q⟩ => ?_⟩
  have q : (vS i e).run γ (fun fo γ => (∃ f F, fo = .ob (.ref f) ∧ S f = some F) ∧ ((do let xs ← ms e; M.need (xs.length = n); calO S fo xs) : M D).run γ (fun d γ' => ∀ v H', Keep W H H' → W.G γ' H' → Rep W.K H' d v → Q v H') (XD W H0 E)) (XD W H0 E) := q
  unfold vS at q
  split at q
  case h_2 => exact q.elim
  rename_i fo hfo
  obtain ⟨v, h1, h2⟩ := st.sh i fo hfo
  obtain ⟨⟨f, F, rfl, hSf⟩, q⟩ := q
  obtain ⟨⟨fd, ps, ok, bd⟩, kp⟩ := hS f F hSf
  simp only [Rep] at h2
  subst h2
  have ok' : FnOk X.prog X.w X.K X.mg X.base (L2.CX X.prog X.w) k f fd ps (spD W n F) := by rw [hK]; exact ok
  refine (pe_callL (i := i) (ds := []) (dvs := []) (p := p) (pos := pos) ok' hr hN hv (by rw [hK]; exact kp) (by rw [hK]; exact bd) .nil hx ha hd hcd he hpl).run pins s σ H Q I ⟨h1, e, st, k0, γ, g, (ms e).mono (fun xs γ2 z vs H1 k1 g1 r1 => ?_) (fun _ _ z => z) q⟩
  obtain ⟨l1, z⟩ := z
  simp only [calO, hSf] at z
  exact ⟨xs, by rw [List.append_nil]; exact r1, l1, γ2, g1, (F xs).mono (fun d _ z v H3 k3 g3 r3 => z v H3 (k1.trans k3) g3 r3) (fun c _ z H3 k3 g3 => z H3 ((k0.trans k1).trans k3) g3) z⟩
end
end Dl

set_option maxRecDepth 100000
set_option maxHeartbeats 4100000
/-! values bent in a place; a body that is never entered -/
namespace Dl
open L2 PySem PySem.Spec PyProof.Rows
theorem dead_ss {X : Cx} {W : Wd} {H0 : Hp} {E : XK} {ss : List Stmt} : PSs X ss (liftS W H0 E fun _ => M.fail) := ⟨fun pins s σ H Dn I ⟨e, st, k0, _, g, q⟩ => q.elim⟩
theorem cut_from {xs : List D} {j : Int} (h0 : 0 ≤ j) (h1 : j ≤ xs.length) : cutD xs (some j) none = xs.drop j.toNat := by
  obtain ⟨m, rfl⟩ : ∃ m : Nat, j = m := ⟨j.toNat, by omega⟩
  unfold cutD
  rw [HT.sIx_nat, HT.sIx_none, Nat.min_eq_left (by omega)]
  exact List.take_of_length_le (by rw [List.length_drop]; exact Nat.le_refl _)
theorem cut_mid {xs : List D} {j i : Int} (h0 : 0 ≤ j) (h1 : j ≤ i) (h2 : i ≤ xs.length) : cutD xs (some j) (some i) = (xs.drop j.toNat).take (i.toNat - j.toNat) := by
  obtain ⟨m, rfl⟩ : ∃ m : Nat, j = m := ⟨j.toNat, by omega⟩
  obtain ⟨l, rfl⟩ : ∃ l : Nat, i = l := ⟨i.toNat, by omega⟩
  unfold cutD
  rw [HT.sIx_nat, HT.sIx_nat, Nat.min_eq_left (by omega), Nat.min_eq_left (by omega)]
  rfl
mutual
/-- no object within, no length beyond n -/
def smD (n : Nat) : D → Prop
  | .ob _ => False
  | .pr _ _ => False
  | .dil _ _ => False
  | .exn _ => False
  | .tup xs => xs.length ≤ n ∧ smL n xs
  | .lst xs => xs.length ≤ n ∧ smL n xs
  | _ => True
def smL (n : Nat) : List D → Prop
  | [] => True
  | x :: xs => smD n x ∧ smL n xs
end
mutual
/-- how deep tuples stand in tuples -/
def tdep : D → Nat
  | .tup xs => tdepL xs + 1
  | _ => 0
def tdepL : List D → Nat
  | [] => 0
  | x :: xs => max (tdep x) (tdepL xs)
end
theorem smL_iff {n : Nat} : ∀ {xs : List D}, smL n xs ↔ ∀ x ∈ xs, smD n x
  | [] => by simp [smL]
  | x :: xs => by simp [smL, smL_iff (xs := xs)]
theorem tdepL_le {n : Nat} : ∀ {xs : List D}, tdepL xs ≤ n ↔ ∀ x ∈ xs, tdep x ≤ n
  | [] => by simp [tdepL]
  | x :: xs => by
    have := tdepL_le (n := n) (xs := xs)
    simp only [tdepL, List.mem_cons, forall_eq_or_imp, ← this]
    omega
mutual
theorem smD_le {n m : Nat} (h : n ≤ m) : ∀ (d : D), smD n d → smD m d
  | .ob _, z => by simpa only [smD] using z
  | .pr _ _, z => by simpa only [smD] using z
  | .dil _ _, z => by simpa only [smD] using z
  | .exn _, z => by simpa only [smD] using z
  | .tup xs, z => by simp only [smD] at z ⊢; exact ⟨by omega, smL_le h xs z.2⟩
  | .lst xs, z => by simp only [smD] at z ⊢; exact ⟨by omega, smL_le h xs z.2⟩
  | .non, _ | .bl _, _ | .int _, _ | .str _, _ | .emp, _ | .dii _, _ => by simp only [smD]
theorem smL_le {n m : Nat} (h : n ≤ m) : ∀ (xs : List D), smL n xs → smL m xs
  | [], _ => by simp only [smL]
  | x :: xs, z => by simp only [smL] at z ⊢; exact ⟨smD_le h x z.1, smL_le h xs z.2⟩
end
mutual
theorem smD_pure {n : Nat} (h : n ≤ sizeLine) : ∀ (d : D), smD n d → pureD d
  | .ob _, z => by simp only [smD] at z
  | .pr _ _, z => by simp only [smD] at z
  | .dil _ _, z => by simp only [smD] at z
  | .exn _, z => by simp only [smD] at z
  | .tup xs, z => by simp only [smD] at z; simp only [pureD]; exact ⟨by omega, smL_pure h xs z.2⟩
  | .lst xs, z => by simp only [smD] at z; simp only [pureD]; exact ⟨by omega, smL_pure h xs z.2⟩
  | .non, _ | .bl _, _ | .int _, _ | .str _, _ | .emp, _ | .dii _, _ => by simp only [pureD]
theorem smL_pure {n : Nat} (h : n ≤ sizeLine) : ∀ (xs : List D), smL n xs → pureL xs
  | [], _ => by simp only [pureL]
  | x :: xs, z => by simp only [smL] at z; simp only [pureL]; exact ⟨smD_pure h x z.1, smL_pure h xs z.2⟩
end
theorem odd_small : ∀ x ∈ oddL, smD 3 x ∧ tdep x ≤ 3 := by
  intro x hx
  simp only [oddL, List.mem_cons, List.not_mem_nil, or_false] at hx
  rcases hx with rfl | rfl | rfl | rfl | rfl | rfl | rfl | rfl | rfl | rfl | rfl | rfl | rfl <;> simp [smD, smL, tdep, tdepL]
/-- bent in a place: somewhat longer, somewhat deeper -/
def bentM (d : Nat) (item : D) : M D := ⟨fun γ P _ => ∃ (n : Nat) (k : Int), smD n item ∧ 1 ≤ n ∧ n ≤ 50 ∧ tdep item ≤ d ∧ k + 10 * (d + 1) < 2 ^ 40 ∧ Dr k γ ∧ ∀ x γ', smD (n + 3) x → tdep x ≤ d + 3 → Dr (k + 10 * (d + 1)) γ' → P x γ',
  fun h _ ⟨n, k, a1, a2, a3, a4, a5, a6, q⟩ => ⟨n, k, a1, a2, a3, a4, a5, a6, fun x γ' h1 h2 h3 => h _ _ (q x γ' h1 h2 h3)⟩⟩
@[simp] theorem run_bentM {γ : Gh} {X : Addr → Gh → Prop} (d : Nat) (item : D) (P : D → Gh → Prop) : (bentM d item).run γ P X = ∃ (n : Nat) (k : Int), smD n item ∧ 1 ≤ n ∧ n ≤ 50 ∧ tdep item ≤ d ∧ k + 10 * (d + 1) < 2 ^ 40 ∧ Dr k γ ∧ ∀ x γ', smD (n + 3) x → tdep x ≤ d + 3 → Dr (k + 10 * (d + 1)) γ' → P x γ' := rfl
def F_bent (st : Addr) : Nat → List D → M D
  | 0, _ => M.fail
  | d + 1, [s, item] => do M.isSt st s; bentM d item
  | _ + 1, _ => M.fail
theorem pass_lam {X : Cx} {A : Around} {outer : List PySem.Env} {s : Shared} {H : Hp} {E : XK} {scope : Scope} {f c' : Addr} : Passes (L2.CX X.prog X.w) (LamX.lamCx X A outer s H E scope f c') E := passes_call (takes_of rfl rfl rfl rfl) (fun _ _ _ _ h => h)
end Dl

set_option maxRecDepth 100000
set_option maxHeartbeats 4100000
/-! the world of a law: the state of its draws, its tables of code objects, its script -/
namespace Dl
open L2 PySem PySem.Spec PyProof.Rows
/-- a list that nobody writes: locked, or of the text's own -/
def FzS (K : PySem.W.Frag) (H : Hp) (a : Addr) (vs : List V) : Prop := (∃ o, H a = some (.frz o (.lst vs))) ∨ SqL K (fun _ => none) a vs
theorem FzS.sq {K : PySem.W.Frag} {H : Hp} {a : Addr} {vs : List V} (h : FzS K H a vs) : SqL K H a vs := by
  rcases h with ⟨o, h⟩ | (h | ⟨o, h⟩) | h
  · exact .inl (.inr ⟨o, h⟩)
  · cases h
  · cases h
  · exact .inr h
def stKV (lg lc : Addr) (l t : Int) : List (L2.Key × V) := [(.inr "great", .ref lg), (.inr "cells", .ref lc), (.inr "left", .int l), (.inr "turn", .int t)]
theorem tabS_keep {H H' : Hp} {P : Addr} {q : Str} (h : LamX.TabS H P q) (k : ∀ b o, (b = P ∨ Fx o) → H b = some o → H' b = some o) : LamX.TabS H' P q := by
  obtain ⟨ps, hP, tri, nam⟩ := h
  refine ⟨ps, k _ _ (.inl rfl) hP, tri, fun pos cv hc => ?_⟩
  obtain ⟨c, e1, e2⟩ := nam pos cv hc
  exact ⟨c, e1, k _ _ (.inr (.inl ⟨_, _, rfl⟩)) e2⟩
def GK (K : PySem.W.Frag) (T : List (Addr × Str)) (sc : Addr) (ns : List Int) (st lg lc : Addr) (cs : List Int) (γ : Gh) (H : Hp) : Prop :=
  (∃ (gs : List Int) (l t : Int), γ = [.lst (gs.map .int), .int l, .int t] ∧ gs.length < 2 ^ 20 ∧ H lg = some (.lst (gs.map V.int)) ∧ H st = some (.dK (stKV lg lc l t))) ∧ H lc = some (.lst (cs.map V.int)) ∧ FzS K H sc (ns.map V.int) ∧ ∀ P q, (P, q) ∈ T → LamX.TabS H P q
/-- each table bears one name -/
def OneName (T : List (Addr × Str)) : Prop := ∀ P q q', (P, q) ∈ T → (P, q') ∈ T → q = q'
def Wk (K : PySem.W.Frag) (T : List (Addr × Str)) (hu : OneName T) (sc : Addr) (ns : List Int) (st lg lc : Addr) (cs : List Int) : Wd where
  K := K
  S := fun b => b = st ∨ b = lg ∨ b = lc ∨ ∃ q, (b, q) ∈ T
  Tb := fun P q => (P, q) ∈ T
  G := GK K T sc ns st lg lc cs
  gS := by
    rintro γ H b ⟨⟨gs, l, t, _, _, h1, h2⟩, h3, _, h5⟩ (rfl | rfl | rfl | ⟨q, hq⟩)
    · exact ⟨_, h2, fun _ z => (nomatch z), fun _ _ z => (nomatch z)⟩
    · exact ⟨_, h1, fun _ z => (nomatch z), fun _ _ z => (nomatch z)⟩
    · exact ⟨_, h3, fun _ z => (nomatch z), fun _ _ z => (nomatch z)⟩
    · obtain ⟨ps, hP, _⟩ := h5 b q hq
      exact ⟨_, hP, fun _ z => (nomatch z), fun _ _ z => (nomatch z)⟩
  gK := by
    rintro γ H H' ⟨⟨gs, l, t, e1, e2, h1, h2⟩, h3, h4, h5⟩ k
    refine ⟨⟨gs, l, t, e1, e2, k _ _ (.inl (.inr (.inl rfl))) h1, k _ _ (.inl (.inl rfl)) h2⟩, k _ _ (.inl (.inr (.inr (.inl rfl)))) h3, ?_, fun P q hq => tabS_keep (h5 P q hq) fun b o hb e => k b o (hb.elim (fun z => .inl (.inr (.inr (.inr ⟨q, by rw [z]; exact hq⟩)))) .inr) e⟩
    rcases h4 with ⟨o, h⟩ | h
    · exact .inl ⟨o, k _ _ (.inr (.inr (.inl ⟨_, _, rfl⟩))) h⟩
    · exact .inr h
  tS := fun P q h => .inr (.inr (.inr ⟨q, h⟩))
  tG := fun γ H P q g h => g.2.2.2 P q h
  tU := by
    rintro γ H H' P q ⟨⟨gs, l, t, e1, e2, h1, h2⟩, h3, h4, h5⟩ hP ⟨tn, kk⟩
    obtain ⟨ps, hp, _⟩ := h5 P q hP
    have ne : ∀ {b : Addr} {o : HO}, H b = some o → (∀ ps, o ≠ .tbl ps) → b ≠ P := fun {b o} h n e => by
      rw [e, hp] at h
      cases h
      exact n _ rfl
    refine ⟨⟨gs, l, t, e1, e2, kk _ _ (ne h1 fun _ z => (nomatch z)) h1, kk _ _ (ne h2 fun _ z => (nomatch z)) h2⟩, kk _ _ (ne h3 fun _ z => (nomatch z)) h3, ?_, fun P' q' hq' => ?_⟩
    · rcases h4 with ⟨o, h⟩ | h
      · exact .inl ⟨o, kk _ _ (ne h fun _ z => (nomatch z)) h⟩
      · exact .inr h
    · by_cases e : P' = P
      · subst e
        rw [← hu P' q q' hP hq']
        exact tn
      · refine tabS_keep (h5 P' q' hq') fun b o hb h => kk b o ?_ h
        rcases hb with rfl | hb
        · exact e
        · refine ne h fun ps z => ?_
          subst z
          exact fx_tbl hb
section
variable {K : PySem.W.Frag} {T : List (Addr × Str)} {hu : OneName T} {sc st lg lc : Addr} {ns cs : List Int}
theorem fld_left : FldI (Wk K T hu sc ns st lg lc cs) st "left" 1 where
  get := by
    rintro γ H k ⟨⟨gs, l, t, rfl, e2, h1, h2⟩, h3, h4, h5⟩ hk
    cases hk
    exact ⟨_, h2, rfl⟩
  put := by
    rintro γ H k g
    have g0 := g
    obtain ⟨⟨gs, l, t, rfl, e2, h1, h2⟩, h3, h4, h5⟩ := g
    have ne : ∀ {b : Addr} {o : HO}, H b = some o → (∀ ps, o ≠ .dK ps) → b ≠ st := fun {b o} h n e => by
      rw [e, h2] at h
      cases h
      exact n _ rfl
    refine ⟨_, h2, (by show 4 < sizeLine; decide), ⟨gs, k, t, rfl, e2, by rw [upd_ne (ne h1 fun _ z => (nomatch z))]; exact h1, upd_same⟩, by rw [upd_ne (ne h3 fun _ z => (nomatch z))]; exact h3, ?_, fun P q hq => ?_⟩
    · rcases h4 with ⟨o, h⟩ | h
      · exact .inl ⟨o, by rw [upd_ne (ne h fun _ z => (nomatch z))]; exact h⟩
      · exact .inr h
    · refine tabS_keep (h5 P q hq) fun b o hb h => ?_
      rw [upd_ne]
      · exact h
      · obtain ⟨ps, hP, _⟩ := h5 P q hq
        rcases hb with rfl | hb
        · exact ne hP fun _ z => (nomatch z)
        · refine ne h fun ps z => ?_
          subst z
          first
            | exact fx_dK hb
            | exact fx_lst hb
  S := .inl rfl
theorem fld_turn : FldI (Wk K T hu sc ns st lg lc cs) st "turn" 2 where
  get := by
    rintro γ H k ⟨⟨gs, l, t, rfl, e2, h1, h2⟩, h3, h4, h5⟩ hk
    cases hk
    exact ⟨_, h2, rfl⟩
  put := by
    rintro γ H k ⟨⟨gs, l, t, rfl, e2, h1, h2⟩, h3, h4, h5⟩
    have ne : ∀ {b : Addr} {o : HO}, H b = some o → (∀ ps, o ≠ .dK ps) → b ≠ st := fun {b o} h n e => by
      rw [e, h2] at h
      cases h
      exact n _ rfl
    refine ⟨_, h2, (by show 4 < sizeLine; decide), ⟨gs, l, k, rfl, e2, by rw [upd_ne (ne h1 fun _ z => (nomatch z))]; exact h1, upd_same⟩, by rw [upd_ne (ne h3 fun _ z => (nomatch z))]; exact h3, ?_, fun P q hq => ?_⟩
    · rcases h4 with ⟨o, h⟩ | h
      · exact .inl ⟨o, by rw [upd_ne (ne h fun _ z => (nomatch z))]; exact h⟩
      · exact .inr h
    · refine tabS_keep (h5 P q hq) fun b o hb h => ?_
      rw [upd_ne]
      · exact h
      · obtain ⟨ps, hP, _⟩ := h5 P q hq
        rcases hb with rfl | hb
        · exact ne hP fun _ z => (nomatch z)
        · refine ne h fun ps z => ?_
          subst z
          first
            | exact fx_dK hb
            | exact fx_lst hb
  S := .inl rfl
theorem fld_great (hne : lg ≠ lc) : FldL (Wk K T hu sc ns st lg lc cs) st lg "great" 0 where
  get := by
    rintro γ H ⟨⟨gs, l, t, rfl, e2, h1, h2⟩, h3, h4, h5⟩
    exact ⟨_, h2, rfl⟩
  lst := by
    rintro γ H xs ⟨⟨gs, l, t, rfl, e2, h1, h2⟩, h3, h4, h5⟩ hk
    cases hk
    exact ⟨gs, rfl, h1, e2⟩
  put := by
    rintro γ H ms hm ⟨⟨gs, l, t, rfl, e2, h1, h2⟩, h3, h4, h5⟩
    have ne : ∀ {b : Addr} {o : HO}, H b = some o → (∀ ps, o ≠ .lst ps) → b ≠ lg := fun {b o} h n e => by
      rw [e, h1] at h
      cases h
      exact n _ rfl
    refine ⟨⟨ms, l, t, rfl, hm, upd_same, by rw [upd_ne (ne h2 fun _ z => (nomatch z))]; exact h2⟩, by rw [upd_ne (Ne.symm hne)]; exact h3, ?_, fun P q hq => ?_⟩
    · rcases h4 with ⟨o, h⟩ | h
      · exact .inl ⟨o, by rw [upd_ne (ne h fun _ z => (nomatch z))]; exact h⟩
      · exact .inr h
    · refine tabS_keep (h5 P q hq) fun b o hb h => ?_
      rw [upd_ne]
      · exact h
      · obtain ⟨ps, hP, _⟩ := h5 P q hq
        rcases hb with rfl | hb
        · exact ne hP fun _ z => (nomatch z)
        · refine ne h fun ps z => ?_
          subst z
          first
            | exact fx_dK hb
            | exact fx_lst hb
  S := .inr (.inl rfl)
theorem fld_cells : FldC (Wk K T hu sc ns st lg lc cs) st lc "cells" (cs.map .int) where
  get := by
    rintro γ H ⟨⟨gs, l, t, rfl, e2, h1, h2⟩, h3, h4, h5⟩
    exact ⟨_, h2, rfl⟩
  lst := by
    rintro γ H ⟨_, h3, _⟩
    exact ⟨_, h3, ints_repL cs⟩
end
/-! ### before the state is there: nothing is written -/
def W0 (K : PySem.W.Frag) (sc : Addr) (ns : List Int) : Wd where
  K := K
  S := fun _ => False
  Tb := fun _ _ => False
  G := fun γ H => γ = [] ∧ FzS K H sc (ns.map V.int)
  gS := fun _ _ _ _ h => h.elim
  gK := by
    rintro γ H H' ⟨e, h⟩ k
    refine ⟨e, ?_⟩
    rcases h with ⟨o, h⟩ | h
    · exact .inl ⟨o, k _ _ (.inr (.inr (.inl ⟨_, _, rfl⟩))) h⟩
    · exact .inr h
  tS := fun _ _ h => h.elim
  tG := fun _ _ _ _ _ h => h.elim
  tU := fun _ _ _ _ _ _ h => h.elim
section
variable {X : Cx} {H0 : Hp} {E : XK} {pos p : Pos} {a tg : Expr} {ma : DE → M D} {sc : Addr} {ns : List Int} {W : Wd}
/-- the script, walked -/
theorem di_scr {gg : ∀ γ H, W.G γ H → FzS W.K H sc (ns.map V.int)} (hK : X.K = W.K) (ha : PE X a (lift1 W H0 E ma)) : PI X tg a (liftI W H0 E fun e => do let x ← ma e; M.need (x = .ob (.ref sc)); pure (ns.map .int)) := by
  refine PI.imp (PI.or ha fun pins s σ H R x v I rx h => iter_seq I rx h) fun σ H R ⟨e, st, k0, _, g, q⟩ => ⟨e, st, k0, _, g, (ma e).mono (fun d _ z v H1 k1 g1 r1 => ?_) (fun _ _ z => z) q⟩
  obtain ⟨rfl, z⟩ := z
  simp only [Rep1, Rep] at r1
  refine .inr ⟨sc, ns.map V.int, r1, by rw [hK]; exact (gg _ _ g1).sq, ?_⟩
  rw [hK]
  refine z _ H1 k1 g1 fun γ2 H2 kf g2 => ?_
  exact walk_list (R := fun A B => A = B) (ints_repL ns) (fun H3 e => by cases e; exact ⟨(gg _ _ g2).sq, ints_repL ns⟩) γ2 H2 rfl g2
/-- len of the script -/
theorem dp_lenS {gg : ∀ γ H, W.G γ H → FzS W.K H sc (ns.map V.int)} (hK : X.K = W.K) (hm : X.mg "len" = none) (ha : PE X a (lift1 W H0 E ma)) (hg : Gl X "len" := by rfl) (he : starEach [a] X.env = (false, eval a X.env) :: starEach [] X.env := by rfl) :
    PE X (.Call (.Name "len" p) [a] [] pos) (lift W H0 E fun e => do let x ← ma e; M.need (x = .ob (.ref sc)); pure (.int ns.length)) :=
  PE.imp (pe_callB call_len_seq hg hm PySem.boot_len (pa_cons ha pa_nil he) (he := he)) fun σ H Q ⟨e, st, k0, _, g, q⟩ => ⟨e, st, k0, _, g, (ma e).mono (fun d _ z v H1 k1 g1 r1 => by
    obtain ⟨rfl, z⟩ := z
    simp only [Rep1, Rep] at r1
    exact ⟨sc, ns.map V.int, by rw [r1], .inl (by rw [hK]; exact (gg _ _ g1).sq), z _ H1 k1 g1 (by simp only [Rep]; rw [List.length_map])⟩) (fun _ _ z => z) q⟩
@[simp] def absD : D → M D
  | .int i => pure (.int (if i < 0 then -i else i))
  | _ => M.fail
theorem dp_abs (hm : X.mg "abs" = none) (ha : PE X a (lift W H0 E ma)) (hg : Gl X "abs" := by rfl) (he : starEach [a] X.env = (false, eval a X.env) :: starEach [] X.env := by rfl) :
    PE X (.Call (.Name "abs" p) [a] [] pos) (lift W H0 E fun e => do let x ← ma e; absD x) :=
  PE.imp (pe_callB call_abs hg hm (by decide +kernel) (pa_cons ha pa_nil he) (he := he)) fun σ H Q ⟨e, st, k0, _, g, q⟩ => ⟨e, st, k0, _, g, (ma e).mono (fun d _ z v H1 k1 g1 r1 => by
    cases d <;> first | exact z.elim | skip
    simp only [Rep] at r1
    exact ⟨_, by rw [r1], z _ H1 k1 g1 (by simp only [Rep])⟩) (fun _ _ z => z) q⟩
end
theorem PSs.ex {X : Cx} {ι : Sort _} {ss : List Stmt} {t : ι → TS} (h : ∀ i, PSs X ss (t i)) : PSs X ss fun D σ H => ∃ i, t i D σ H := ⟨fun pins s σ H D I ⟨i, q⟩ => (h i).run pins s σ H D I q⟩
end Dl

set_option maxRecDepth 100000
set_option maxHeartbeats 4100000
/-! {elt for tg in iter if ..} of ints, sorted; t.index(n) of ints; dicts of one's own -/
namespace Dl
open L2 PySem PySem.Spec PyProof.Rows PpSet
/-- a set is no code object -/
theorem set_code {w : World} {h : Heap} {D : Addr} {S : Int → Bool} {n : Nat} (R : SetR w h D S n) (c : Addr) (q : Str) : SetO w D S n ≠ LamX.CodeO c q := fun e => by
  unfold SetO LamX.CodeO at e
  have e1 : ∀ h : Heap, SetR w h D S n = ∃ (oc : Obj) (vs : Array Value) (t : Tok), h.get? c = some oc ∧ oc.data = .fields vs ∧ vs[1]? = some (.str q t) := fun h => congrFun (HO.ext.inj e) h
  obtain ⟨G, g1, g2⟩ := L2.restrict h fun b => decide (b ≠ c)
  by_cases hc : c = D
  · have z := R
    rw [e1] at z
    obtain ⟨oc, vs, t, z1, z2, _⟩ := z
    obtain ⟨o, es, ep, tb, y1, _, y2, _⟩ := R
    rw [hc, y1] at z1
    cases z1
    rw [y2] at z2
    cases z2
  · have z : SetR w G D S n := R.at fun o ho => by
      rw [g1 D (decide_eq_true (Ne.symm hc))]
      exact ho
    rw [e1] at z
    obtain ⟨oc, vs, t, z1, _⟩ := z
    rw [g2 c (decide_eq_false (fun y => y rfl))] at z1
    cases z1
/-- the reading of a set's comprehension, elt an int: D is the new set -/
def tScI (w : World) (wi : TI) (g : TG) (tt : TT) (te : TE) (vs : List Nat) : TE := fun σ H Q => wi σ H fun J H1 => ∀ D, H1 D = none → ∃ W : Nat → Nat → Hp → Prop, (∃ m, W 0 m (upd H1 D (SetO w D (fun _ => false) 0))) ∧ ∀ i m H, W i m H →
  (J.stop i H ∧ Q (.ref D) H) ∨ (J.go i H ∧ ∃ Nx : Hp → Prop, (∀ H', Nx H' → ∃ m', m' < m ∧ W (i + 1) m' H') ∧ ∀ x H', J.yld i H x H' → g x (wipe σ vs) H' fun σ2 H2 => wipe σ2 vs = wipe σ vs ∧ tt σ2 H2 fun b H3 =>
    if b = true then te σ2 H3 fun y H4 => ∃ (c : Int) (S : Int → Bool) (n : Nat), y = .int c ∧ H4 D = some (SetO w D S n) ∧ n + 1 < scanBound ∧ ((∀ c q, SetO w D S n ≠ LamX.CodeO c q) → Nx (upd H4 D (SetO w D (fun j => S j || decide (j = c)) (if S c = true then n else n + 1)))) else Nx H3)
theorem pe_scI {X : Cx} {elt tg iter : Expr} {ifs : List Expr} {scope : Scope} {own : List (Str × Nat)} {pos : Pos} {wi : TI} {g : TG} {tt : TT} {te : TE} (hc : X.calm = true) (hN : X.N.Nodup) (hi : PI X tg iter wi) (ok : BlkOk X.N X.env.scope scope own)
    (hg : ∀ (s : Shared) (H : Hp) (C : Addr) (cl : List (Str × Addr)) (fp : List Addr), PG (X.blk s H scope (compEnvC scope cl C X.env) fp) tg g) (ht : ∀ (s : Shared) (H : Hp) (C : Addr) (cl : List (Str × Addr)) (fp : List Addr), PTs (X.blk s H scope (compEnvC scope cl C X.env) fp) ifs tt)
    (he : ∀ (s : Shared) (H : Hp) (C : Addr) (cl : List (Str × Addr)) (fp : List Addr), PE (X.blk s H scope (compEnvC scope cl C X.env) fp) elt te) (hs : ∀ x, foldedSetIterable iter X.env x = pure x := by intro _; rfl) :
    PE X (.SetComp elt [⟨tg, iter, ifs, 0⟩] scope pos) (tScI X.w wi g tt te (own.map (·.2))) := by
  refine ⟨fun pins s σ H Q I hh => ?_⟩
  rw [eval_SetComp]
  have free_ : ∀ y ∈ scope.names, y.2 = .free → ∃ c, X.env.cells.lookup y.1 = some c := fun y hy e => I.ok.has _ (ok.free y hy e)
  refine wpAny_comprehension_free rfl hs (closure_ok free_) ok.kind (fun y hy e => by rw [ok.uniq y hy, e]) (thn (hi.run pins s σ H _ I hh) fun xv s1 hx => thn hx fun itv s2 q2 => ?_)
  obtain ⟨it, fp, tn, J, H2, rfl, I2, T, at0, fpk, q⟩ := q2
  refine newSet_ok (newEnv_comp ?_)
  generalize eD : s2.heap.objs.size = D
  have freeD : H2 D = none := I2.hok.fresh (Nat.le_of_eq eD)
  obtain ⟨W, ⟨m0, w0⟩, turn⟩ := q D freeD
  generalize es3 : ({ s2 with heap := s2.heap.push { cls := .type "set", dict := none, data := .set #[] 0 (.fresh 0 0 (!X.w.params.followText "set-order")) } } : Shared) = s3
  have heap3 : s3.heap = s2.heap.push { cls := .type "set", dict := none, data := .set #[] 0 (.fresh 0 0 (!X.w.params.followText "set-order")) } := by rw [← es3]
  have I3 : L2.Inv X pins σ (upd H2 D (SetO X.w D (fun _ => false) 0)) s3 := by
    subst es3 eD
    exact I2.laid (t' := s2.toks) (fun b o e => Heap.get?_push_of_some _ e) (Nat.le_refl _) (setO_new (setR_fresh X.w))
  have lt2 : ∀ b ∈ fp, b < s2.heap.objs.size := fun b hb => (T.obj _ _ at0 b hb).elim fun o e => Heap.lt_size e.1
  have fp3 : ∀ b ∈ fp, FpOk X pins (upd H2 D (SetO X.w D (fun _ => false) 0)) b ∧ b < s3.heap.objs.size := fun b hb => by
    have l := lt2 b hb
    refine ⟨⟨?_, (fpk b hb).2⟩, by rw [heap3, Heap.size_push]; exact Nat.lt_succ_of_lt l⟩
    rw [upd_ne (fun z => by rw [z, ← eD] at l; exact Nat.lt_irrefl _ l)]
    exact (fpk b hb).1
  have at3 : tn 0 s3.heap := T.keep _ _ _ at0 fun b _ o e => by rw [heap3]; exact Heap.get?_push_of_some _ e
  have I4 := block_start I3 ok hN fp3
  have none3 : ∀ b ∈ fp, upd H2 D (SetO X.w D (fun _ => false) 0) b = none := fun b hb => (fp3 b hb).1.1
  generalize eH3 : upd H2 D (SetO X.w D (fun _ => false) 0) = H3 at I3 I4 w0 none3 fp3
  have Pg := hg s3 H3 s3.heap.objs.size (cellsFrom (s3.heap.objs.size + 1) scope.names (cloFrom X.env.cells scope.names [])) fp
  have Pt := ht s3 H3 s3.heap.objs.size (cellsFrom (s3.heap.objs.size + 1) scope.names (cloFrom X.env.cells scope.names [])) fp
  have Pe := he s3 H3 s3.heap.objs.size (cellsFrom (s3.heap.objs.size + 1) scope.names (cloFrom X.env.cells scope.names [])) fp
  show codeAny _ _ (.compStart (.SetComp elt [⟨tg, iter, ifs, 0⟩] scope pos) 0 (.ref it) (.ref D) (compEnvC scope (cellsFrom (s3.heap.objs.size + 1) scope.names (cloFrom X.env.cells scope.names [])) s3.heap.objs.size X.env)) (compPost (model X.prog X.w) X.A X.xe none _ (.ref D) s3.heap.objs.size) { s3 with heap := pushCells (s3.heap.push { cls := .type "dict", data := .dict #[] }) scope.names }
  generalize ece : compEnvC scope (cellsFrom (s3.heap.objs.size + 1) scope.names (cloFrom X.env.cells scope.names [])) s3.heap.objs.size X.env = ce at I4 Pg Pt Pe ⊢
  have loc : ce.locals = s3.heap.objs.size := by rw [← ece]; rfl
  generalize es4 : ({ s3 with heap := pushCells (s3.heap.push { cls := .type "dict", data := .dict #[] }) scope.names } : Shared) = s4 at I4 ⊢
  have at4 : tn 0 s4.heap := T.keep _ _ _ at3 fun b _ o e => by rw [← es4]; exact pushCells_keeps _ _ _ _ (Heap.get?_push_of_some _ e)
  have fpB : ∀ {σ' : L2.St} {H' : Hp} {s' : Shared}, L2.Inv (X.blk s3 H3 scope ce fp) [] σ' H' s' → (∀ b ∈ fp, H' b = none) → ∀ b ∈ fp, FpOk (X.blk s3 H3 scope ce fp) [] H' b := fun J n b hb =>
    ⟨n b hb, (J.ok.exf b hb).1, J.ok.exfs b hb, .inl hb, fun x c e => (J.ok.exf b hb).2 x c e, fun p hp => absurd (show p ∈ ([] : List (Addr × Obj)) ++ [] from hp) (by simp)⟩
  refine codeAny_compStart_set ?_ (T.self X.A 0 _ _ _ at4 ?_)
  all_goals
    refine compLoopS_any (fun n s' => ∃ i H', L2.Inv (X.blk s3 H3 scope ce fp) [] (wipe σ (own.map (·.2))) H' s' ∧ tn i s'.heap ∧ (∀ b ∈ fp, H' b = none) ∧ W i n H') ?_ m0 ⟨0, H3, I4, at4, none3, w0⟩
    rintro n s5 ⟨i, H5, I5, at5, n5, w5⟩
    rcases turn i n H5 w5 with ⟨stop, fin⟩ | ⟨go, Nx, next, step⟩
    · refine thnF (T.done (X.blk s3 H3 scope ce fp) rfl rfl rfl hc i [] s5 _ H5 (fun _ _ => False) I5 (fpB I5 n5) at5 stop) fun r s6 ⟨hr, I6⟩ => ?_
      subst hr
      have back : L2.Inv X pins σ H5 s6 := I3.call' (ch := fp) I6.os I6.base I6.hok I6.bare fun b hb => ⟨(fp3 b hb).1.2.2.2.1, (fp3 b hb).1.2.1, (fp3 b hb).1.2.2.2.2.1, (fp3 b hb).1.2.2.2.2.2⟩
      have nC : H5 s3.heap.objs.size = none := by
        rw [← loc]
        exact I6.free
      obtain ⟨m, ns, _⟩ := I6.loc
      have ns : s6.heap.Ns ce.locals m := ns
      rw [loc] at ns
      obtain ⟨y0, y1, y2, y3, y4, y5⟩ := I3.fpOk (Nat.le_refl _) nC
      exact ⟨m, ns, fun h'' sb => ⟨.ref D, H5, back.turned (t' := s6.toks) (fun b o hb e => (sb.2 b hb).trans e) y0 y1 y3 y4 y5, rfl, fin⟩⟩
    · refine thnF (T.item (X.blk s3 H3 scope ce fp) rfl rfl rfl hc i [] s5 _ H5 (fun _ _ => False) I5 (fpB I5 n5) at5 go) fun r s6 ⟨u, hr, got⟩ => ?_
      subst hr
      refine thnF got fun _ s7 ⟨x, H7, I7, r7, y7, at7, n7⟩ => ?_
      have P7 := I7.pinned (fpB I7 n7) (T.obj _ _ at7)
      refine thnF (Pg.run _ s7 _ H7 x u _ P7 r7 (step x H7 y7)) fun _ s8 ⟨σ8, H8, I8, w8, q8⟩ => ?_
      refine thnF (Pt.run _ s8 σ8 H8 _ I8 q8) fun b s9 ⟨H9, I9, q9⟩ => ?_
      have over : ∀ {s' : Shared} {H' : Hp}, L2.Inv (X.blk s3 H3 scope ce fp) ([] ++ pinsAt fp s7.heap) σ8 H' s' → Nx H' → ∃ m, m < n ∧ ∃ i H', L2.Inv (X.blk s3 H3 scope ce fp) [] (wipe σ (own.map (·.2))) H' s' ∧ tn i s'.heap ∧ (∀ b ∈ fp, H' b = none) ∧ W i m H' := fun {s' H'} K nx => by
        obtain ⟨m', hm, w'⟩ := next H' nx
        have pinned : ∀ b ∈ fp, ∀ o, s7.heap.get? b = some o → s'.heap.get? b = some o ∧ H' b = none := fun b hb o e => by
          obtain ⟨z1, z2, _⟩ := K.pin (b, o) (List.mem_append_right _ (List.mem_append_right _ (mem_pinsAt hb e)))
          exact ⟨z1, z2⟩
        refine ⟨m', hm, i + 1, H', (K.unpinned (pins := [])).weak (by rw [← w8, wipe_length]) (fun j v e => ?_), T.keep _ _ _ at7 fun b hb o e => (pinned b hb o e).1, fun b hb => ?_, w'⟩
        · rw [← w8] at e
          exact (wipe_some e).1
        · obtain ⟨o, e, _⟩ := T.obj _ _ at7 b hb
          exact (pinned b hb o e).2
      cases b with
      | false =>
        simp only [Bool.false_eq_true, if_false] at q9 ⊢
        exact over I9 q9
      | true =>
        simp only [if_true] at q9 ⊢
        refine thnF (Pe.run _ s9 σ8 H9 _ I9 q9) fun z s10 ⟨yv, H10, I10, r10, c, S, k, ey, hD, room, nx⟩ => ?_
        subst ey
        refine wpAny_mono (mt_sadd (X := X.blk s3 H3 scope ce fp) _ _ _ _ (.ref D) [.int c] (.ref D) [z] (fun v H' => Nx H') I10 rfl (.cons r10 .nil) ⟨D, c, S, k, rfl, rfl, hD, room, nx (set_code (setO_get (X := X.blk s3 H3 scope ce fp) I10 hD))⟩) (fun _ s11 ⟨_, H11, I11, _, q11⟩ => over I11 q11) fun _ _ y => False.elim y

/-! ### lifted: sorted({elt for tg in iter if ..}) -/
@[simp] def intF (f : DE → M D) : DE → M D := fun e => do
  let y ← f e
  match y with
  | .int i => pure (.int i)
  | _ => M.fail
/-- the members, each once, ascending -/
def ascSet (ns : List Int) : M (List D) := ⟨fun γ P _ => ∀ ns' : List Int, ns'.Pairwise (· < ·) → (∀ k, k ∈ ns' ↔ k ∈ ns) → ns'.length < 64 → P (ns'.map .int) γ, fun h _ q ns' h1 h2 h3 => h _ _ (q ns' h1 h2 h3)⟩
@[simp] theorem run_ascSet {γ : Gh} {X : Addr → Gh → Prop} (ns : List Int) (P : List D → Gh → Prop) : (ascSet ns).run γ P X = ∀ ns' : List Int, ns'.Pairwise (· < ·) → (∀ k, k ∈ ns' ↔ k ∈ ns) → ns'.length < 64 → P (ns'.map .int) γ := rfl
@[simp] def ascSetD (xs : List D) : M (List D) := match intsD xs with
  | some ns => ascSet ns
  | none => M.fail
theorem intsD_snoc : ∀ {xs : List D} {ns : List Int} {ys : List D}, intsD xs = some ns → ∀ c, intsD (xs ++ .int c :: ys) = (intsD ys).map fun ms => ns ++ c :: ms
  | [], ns, ys, h, c => by
    simp only [intsD, Option.some.injEq] at h
    subst h
    rfl
  | x :: xs, ns, ys, h, c => by
    cases x <;> simp only [intsD, Option.map_eq_some_iff] at h <;> try contradiction
    obtain ⟨ms, h1, rfl⟩ := h
    simp only [List.cons_append, intsD, intsD_snoc h1 c, Option.map_map]
    rfl
section
variable {X : Cx} {W : Wd} {H0 : Hp} {E : XK} {pos p spos : Pos} {elt tg iter : Expr} {ifs : List Expr} {scope : Scope} {own : List (Str × Nat)} {mi : DE → M (List D)} {g : TG} {gd : D → DE → M DE} {t : DE → M Bool} {f : DE → M D}
theorem g_set {γ : Gh} {H : Hp} {D : Addr} {w : World} {S S' : Int → Bool} {n n' : Nat} (g : W.G γ H) (hs : ¬ W.S D) (hD : H D = some (SetO w D S n)) (nc : ∀ c q, SetO w D S n ≠ LamX.CodeO c q) : W.G γ (upd H D (SetO w D S' n')) := g_ownM g hs hD (by
  rintro (⟨c, q, e⟩ | ⟨ob, u, e⟩ | ⟨xs, e⟩)
  · exact nc c q e
  · unfold SetO at e; cases e
  · unfold SetO at e; cases e)
theorem kf_set {H : Hp} {D : Addr} {w : World} {S : Int → Bool} {n : Nat} {o : HO} (hD : H D = some (SetO w D S n)) : KeepF H (upd H D o) := kf_mut hD ⟨fun xs e => (by unfold SetO at e; cases e), fun ob u e => (by unfold SetO at e; cases e)⟩
theorem sc_lift {σ : L2.St} {H : Hp} {Q : VK} {vs : List Nat} {w : World} (hg : GD W g gd) (hw : GW g vs)
    (h : ∃ e, StOk W H0 H σ e ∧ Keep W H0 H ∧ ∃ γ, W.G γ H ∧ ((do let xs ← mi e; M.need (xs.length < 64); compM gd t (intF f) (wipeE e vs) xs : M (List Dl.D))).run γ (fun ys γ' => ∃ ns, intsD ys = some ns ∧ ∀ D S n H', H D = none → Keep W H H' → W.G γ' H' → H' D = some (SetO w D S n) → ¬ W.S D → (∀ k, S k = true ↔ k ∈ ns) → n < 64 → Q (.ref D) H') (XD W H0 E)) :
    tScI w (liftI W H0 E mi) g (liftT W H0 E0 t) (lift W H0 E0 f) vs σ H Q := by
  obtain ⟨e, st, k0, _, g0, q⟩ := h
  refine ⟨e, st, k0, _, g0, (mi e).mono (fun xs γ1 z J H1 k1 g1 wk D hD => ?_) (fun _ _ z => z) q⟩
  obtain ⟨few, z⟩ := z
  have z : (compM gd t (intF f) (wipeE e vs) xs).run γ1 (fun ys γ' => ∃ ns, intsD ys = some ns ∧ ∀ D S n H', H D = none → Keep W H H' → W.G γ' H' → H' D = some (SetO w D S n) → ¬ W.S D → (∀ k, S k = true ↔ k ∈ ns) → n < 64 → Q (.ref D) H') (XD W H0 E) := z
  have nD : H D = none := k1.freed hD g0 g1
  have sD : ¬ W.S D := nS g1 hD
  refine ⟨fun i m H' => m = xs.length - i ∧ i ≤ xs.length ∧ Keep W H1 H' ∧ ∃ γ, W.G γ H' ∧ ∃ (S : Int → Bool) (n : Nat) (ad : List Int), H' D = some (SetO w D S n) ∧ (∀ k, S k = true ↔ k ∈ ad) ∧ n ≤ i ∧
    (compM gd t (intF f) (wipeE e vs) (xs.drop i)).run γ (fun ys γ' => ∃ ns, intsD (ad.map .int ++ ys) = some ns ∧ ∀ D S n H', H D = none → Keep W H H' → W.G γ' H' → H' D = some (SetO w D S n) → ¬ W.S D → (∀ k, S k = true ↔ k ∈ ns) → n < 64 → Q (.ref D) H') (XD W H0 E),
    ⟨xs.length, by simp, Nat.zero_le _, Keep.new hD, γ1, gnew g1 hD, fun _ => false, 0, [], upd_same, fun k => by simp, Nat.zero_le _, by rw [List.drop_zero]; exact z⟩, ?_⟩
  rintro i m H' ⟨rfl, hi, k3, γ3, g3, S, n, ad, atD, mem, hn, z⟩
  obtain ⟨w1, w2, w3⟩ := wk _ H' k3 g3
  by_cases hlt : i < xs.length
  · refine .inr ⟨w1 i hlt, fun H'' => Keep W H1 H'' ∧ ∃ γ, W.G γ H'' ∧ ∃ (S : Int → Bool) (n : Nat) (ad : List Int), H'' D = some (SetO w D S n) ∧ (∀ k, S k = true ↔ k ∈ ad) ∧ n ≤ i + 1 ∧
      (compM gd t (intF f) (wipeE e vs) (xs.drop (i + 1))).run γ (fun ys γ' => ∃ ns, intsD (ad.map .int ++ ys) = some ns ∧ ∀ D S n H', H D = none → Keep W H H' → W.G γ' H' → H' D = some (SetO w D S n) → ¬ W.S D → (∀ k, S k = true ↔ k ∈ ns) → n < 64 → Q (.ref D) H') (XD W H0 E),
      fun H'' ⟨q1, q2, q3⟩ => ⟨xs.length - (i + 1), by omega, rfl, hlt, q1, q2, q3⟩, fun x Hx y => ?_⟩
    obtain ⟨k4, g4, d, hd, rd⟩ := w3 i x Hx hlt y
    have kx : Keep W H Hx := (k1.trans k3).trans k4
    rw [drop_cons hd] at z
    simp only [compM, M.run_bind, M.run_noX] at z
    refine hw x _ Hx _ (hg H0 E x d _ _ Hx _ _ g4 ((st.keep g0 kx).wipe vs) rd ((gd d (wipeE e vs)).mono (fun e' _ z2 g4' σ' st' => ?_) (fun _ _ z => z) z))
    refine ⟨e', st', k0.trans kx, _, g4', (t e').mono (fun b _ z3 H5 k5 g5 => ?_) (fun _ _ z => z.elim) z2⟩
    have h5 : Keep W H' H5 := k4.trans k5
    cases b with
    | false =>
      simp only [Bool.false_eq_true, if_false] at z3 ⊢
      exact ⟨k3.trans h5, _, g5, S, n, ad, h5 D _ atD sD, mem, Nat.le_succ_of_le hn, z3⟩
    | true =>
      simp only [if_true] at z3 ⊢
      refine ⟨e', st'.keep g4 k5, (k0.trans kx).trans k5, _, g5, (f e').mono (fun dy _ z4 v H6 k6 g6 r6 => ?_) (fun _ _ z => z.elim) z3⟩
      have h6 : Keep W H' H6 := h5.trans k6
      have atD6 := h6 D _ atD sD
      cases dy <;> first | exact z4.elim | skip
      rename_i c
      simp only [Rep] at r6
      refine ⟨c, S, n, r6, atD6, by unfold scanBound; omega, fun nc => ⟨keep_lock (k3.trans h6) hD, _, g_set g6 sD atD6 nc, _, _, ad ++ [c], upd_same, fun k => ?_, ?_, ?_⟩⟩
      · simp only [Bool.or_eq_true, decide_eq_true_eq, mem, List.mem_append, List.mem_singleton]
      · split <;> omega
      · refine (compM gd t (intF f) (wipeE e vs) (xs.drop (i + 1))).mono (fun ys _ z5 => ?_) (fun _ _ z => z) z4
        rw [List.map_append, List.append_assoc]
        exact z5
  · have e1 : i = xs.length := by omega
    subst e1
    refine .inl ⟨w2, ?_⟩
    rw [List.drop_of_length_le (Nat.le_refl _)] at z
    obtain ⟨ns, hns, z⟩ := z
    rw [List.append_nil, intsD_map] at hns
    cases hns
    exact z D S n H' nD (k1.trans k3) g3 atD sD mem (by omega)
theorem do_sortedSC (hK : X.K = W.K) (hc : X.calm = true) (hm : X.mg "sorted" = none) (hN : X.N.Nodup) (hi : PI X tg iter (liftI W H0 E mi)) (ok : BlkOk X.N X.env.scope scope own) (hgd : GD W g gd) (hgw : GW g (own.map (·.2)))
    (hg : ∀ (s : Shared) (H : Hp) (C : Addr) (cl : List (Str × Addr)) (fp : List Addr), PG (X.blk s H scope (compEnvC scope cl C X.env) fp) tg g) (ht : ∀ (s : Shared) (H : Hp) (C : Addr) (cl : List (Str × Addr)) (fp : List Addr), PTs (X.blk s H scope (compEnvC scope cl C X.env) fp) ifs (liftT W H0 E0 t))
    (he : ∀ (s : Shared) (H : Hp) (C : Addr) (cl : List (Str × Addr)) (fp : List Addr), PE (X.blk s H scope (compEnvC scope cl C X.env) fp) elt (lift W H0 E0 f)) (hs : ∀ x, foldedSetIterable iter X.env x = pure x := by intro _; rfl) (hgs : Gl X "sorted" := by rfl)
    (hst : starEach [.SetComp elt [⟨tg, iter, ifs, 0⟩] scope spos] X.env = (false, eval (.SetComp elt [⟨tg, iter, ifs, 0⟩] scope spos) X.env) :: starEach [] X.env := by rfl) :
    PE X (.Call (.Name "sorted" p) [.SetComp elt [⟨tg, iter, ifs, 0⟩] scope spos] [] pos) (liftO W H0 E fun e => do let ys ← (do let xs ← mi e; M.need (xs.length < 64); compM gd t (intF f) (wipeE e (own.map (·.2))) xs); ascSetD ys) :=
  PE.imp (pe_callB (cr_sortedSet hc) hgs hm (by decide +kernel) (pa_cons (pe_scI hc hN hi ok hg ht he hs) pa_nil hst) (he := hst)) fun σ H Q ⟨e, s0, k0, γ, g0, q⟩ => by
    show tScI X.w (liftI W H0 E mi) g (liftT W H0 E0 t) (lift W H0 E0 f) (own.map (·.2)) σ H (fun v H1 => rSortedSet X.w [v] H1 Q)
    refine sc_lift (E := E) (H0 := H0) hgd hgw ⟨e, s0, k0, γ, g0, ?_⟩
    refine M.mono _ (fun ys γ' z => ?_) (fun _ _ z => z) q
    have z : (ascSetD ys).run γ' (fun xs γ' => ∀ a vs H', H a = none → Keep W H H' → W.G γ' H' → H' a = some (.lst vs) → RepL W.K H' xs vs → ¬ W.S a → Q (.ref a) H') (XD W H0 E) := z
    unfold ascSetD at z
    split at z
    · rename_i ns hns
      refine ⟨ns, hns, fun D S n H' hD k g hs sD mem few => ⟨D, S, n, rfl, hs, few, fun ns' p hp1 hm hl' hn => ?_⟩⟩
      exact z ns' hp1 (fun k => (hm k).trans (mem k)) (by omega) p _ _ (k.freed hn g0 g) (k.trans (Keep.new hn)) (gnew g hn) upd_same (ints_repL ns') (nS g hn)
    · exact z.elim
end
end Dl

set_option maxRecDepth 100000
set_option maxHeartbeats 4100000
/-! Dicts of ints to ints: one's own (x = {}, x[k] = v, x.get(k, c)), locked (walked, x[k]). t.index(k). -/
namespace Dl
open L2 PySem PySem.Spec PyProof.Rows
def getI (kvs : List (Int × Int)) (k : Int) : Option Int := (kvs.find? fun p => decide (p.1 = k)).map (·.2)
def putI (kvs : List (Int × Int)) (k v : Int) : List (Int × Int) := if kvs.any (fun p => decide (p.1 = k)) = true then kvs.map (fun p => if p.1 = k then (p.1, v) else p) else kvs ++ [(k, v)]
theorem kvI_any {k : Int} : ∀ {kvs : List (Int × Int)}, ((kvI kvs).any fun p => decide (p.1 = (Sum.inl k : L2.Key))) = kvs.any fun p => decide (p.1 = k)
  | [] => rfl
  | p :: kvs => by
    have ih := kvI_any (k := k) (kvs := kvs)
    unfold kvI at ih ⊢
    simp only [List.map_cons, List.any_cons, ih, Sum.inl.injEq]
theorem kvI_get {k : Int} : ∀ {kvs : List (Int × Int)}, valV (kvI kvs) (Sum.inl k : L2.Key) = (getI kvs k).map V.int
  | [] => rfl
  | p :: kvs => by
    have ih := kvI_get (k := k) (kvs := kvs)
    unfold kvI valV getI at ih ⊢
    simp only [List.map_cons, List.find?_cons, Sum.inl.injEq]
    by_cases e : p.1 = k
    · simp [e]
    · simpa [e] using ih
theorem kvI_put {k v : Int} {kvs : List (Int × Int)} : putK (kvI kvs) (Sum.inl k : L2.Key) (V.int v) = kvI (putI kvs k v) := by
  unfold putK putI
  rw [kvI_any]
  split
  · unfold kvI
    rw [List.map_map, List.map_map]
    refine List.map_congr_left fun p _ => ?_
    by_cases e : p.1 = k <;> simp [e]
  · unfold kvI
    rw [List.map_append]
    rfl
section
variable {X : Cx} {W : Wd} {H0 : Hp} {E : XK} {pos p pos' apos cpos : Pos} {a b o c : Expr} {ma mb mo : DE → M D}
/-! ### x = {} -/
theorem ds_newd (i : Nat) {x : Str} {dpos : Pos} (hN : X.N.Nodup) (hi : X.N[i]? = some x) (hl : Loc X.env.scope x := by first | exact Or.inl rfl | exact Or.inr rfl) (hw : swapsWith (.Dict [] [] dpos) (some (.Name x p)) pos.line X.env = pure false := by rfl)
    (hf : X.fn x = true ∨ X.env.scope.names.lookup x = some NameKind.local := by first | exact Or.inr rfl | exact Or.inl rfl) : PS X (.Assign [.Name x p] (.Dict [] [] dpos) pos) (liftS W H0 E fun e => pure (.nx (e.set i (some (.ow (.dii [])))))) :=
  PS.imp (ps_set hN hi hl pe_dnewK hw hf) fun Dn σ H ⟨e, s, k0, _, g, q⟩ => fun q0 hq => q _ _ ((s.keep g (Keep.new hq)).setow upd_same (by exact rfl) (by
      cases h : H0 q0 with
      | none => rfl
      | some u =>
        by_cases hS : W.S q0
        · exact absurd hS (nS g hq)
        · rw [k0 q0 u h hS] at hq; cases hq) (nS g hq) fun j ys _ q1 q2 => s.newne hq j ys q1 q2) (k0.trans (Keep.new hq)) ((Keep.new (W := W) hq).toF g) (gnew g hq)
/-! ### x.get(k, c), x one's own -/
@[simp] def getOM (i : Nat) (ma mb : DE → M D) : DE → M D := fun e => match (e[i]? : Option (Option SD)) with
  | some (some (.ow (.dii kvs))) => do
    let y ← ma e
    let z ← mb e
    match y, z with
    | .int k, .int c => pure (.int ((getI kvs k).getD c))
    | _, _ => M.fail
  | _ => M.fail
theorem dp_getO (i : Nat) {x : Str} (hu : X.A.units + 100 < cLine) (ha : PE X a (lift W H0 E ma)) (hb : PE X b (lift W H0 E mb)) (hN : X.N[i]? = some x := by rfl) (hv : Vis X.env.scope x := by first | exact Or.inl rfl | exact Or.inr (Or.inl rfl) | exact Or.inr (Or.inr rfl))
    (hd : (x == ("__debug__" : Str)) = false := by decide) (hcd : (x == ("__classdict__" : Str)) = false := by decide) (m : M2 X (.Name x p) "get" apos a b cpos := by exact ⟨rfl, rfl, rfl, rfl⟩) :
    PE X (.Call (.Attribute (.Name x p) "get" apos) [a, b] [] cpos) (lift W H0 E (getOM i ma mb)) :=
  PE.imp (pe_dget2 (by omega) (pe_var hN hv hd hcd) ha hb m) fun σ H Q ⟨e, s, k0, _, g, q⟩ => by
    unfold getOM at q
    split at q
    · rename_i kvs hx
      obtain ⟨l, e1, e2, e4, e5⟩ := s.dic i kvs hx
      refine ⟨_, e1, l, rfl, .inl ⟨_, .inl e2⟩, e, s, k0, _, g, (ma e).mono (fun y _ z v H1 k1 g1 r1 => ⟨e, s.keep g k1, k0.trans k1, _, g1, (mb e).mono (fun d _ z2 u H2 k2 g2 r2 => ?_) (fun _ _ z => z) z⟩) (fun _ _ z => z) q⟩
      simp only at z2
      split at z2
      · rename_i k c
        have r1' := r1.keep g1 k2
        simp only [Rep] at r1' r2
        subst r1' r2
        refine ⟨_, DGet.k (k := Sum.inl k) (k2 l _ (k1 l _ e2 e5) e5), ?_⟩
        rw [kvI_get]
        refine z2 _ H2 (k1.trans k2) g2 ?_
        simp only [Rep]
        cases getI kvs k <;> rfl
      · exact z2.elim
    · exact q.elim
/-! ### x[k] = v, x one's own -/
@[simp] def putM (i : Nat) (ma mb : DE → M D) : DE → M R := fun e => match (e[i]? : Option (Option SD)) with
  | some (some (.ow (.dii kvs))) => do
    let v ← mb e
    let y ← ma e
    match y, v with
    | .int k, .int c => do M.need (kvs.length < sizeLine); pure (.nx (e.set i (some (.ow (.dii (putI kvs k c))))))
    | _, _ => M.fail
  | _ => M.fail
theorem ds_dput (i : Nat) {x : Str} (hu : X.A.units + 100 < cLine) (ha : PE X a (lift W H0 E ma)) (hb : PE X b (lift W H0 E mb)) (hN : X.N[i]? = some x := by rfl) (hv : Vis X.env.scope x := by first | exact Or.inl rfl | exact Or.inr (Or.inl rfl) | exact Or.inr (Or.inr rfl))
    (hd : (x == ("__debug__" : Str)) = false := by decide) (hcd : (x == ("__classdict__" : Str)) = false := by decide) (hs : swapsWith b (some (.Subscript (.Name x p) a pos')) pos.line X.env = pure false := by rfl) :
    PS X (.Assign [.Subscript (.Name x p) a pos'] b pos) (liftS W H0 E (putM i ma mb)) :=
  PS.imp (ps_dput (by omega) (pe_var hN hv hd hcd) ha hb hs) fun Dn σ H ⟨e, s, k0, _, g, q⟩ => by
    unfold putM at q
    split at q
    · rename_i kvs hx
      obtain ⟨l, e1, e2, e4, e5⟩ := s.dic i kvs hx
      refine ⟨e, s, k0, _, g, (mb e).mono (fun d _ z u H1 k1 g1 r1 => ⟨_, e1, e, s.keep g k1, k0.trans k1, _, g1, (ma e).mono (fun y _ z2 v H2 k2 g2 r2 => ?_) (fun _ _ z => z) z⟩) (fun _ _ z => z) q⟩
      simp only at z2
      split at z2
      · rename_i k c
        obtain ⟨z1, z2⟩ := z2
        have r1' := r1.keep g1 k2
        simp only [Rep] at r1' r2
        subst r1' r2
        have at2 := k2 l _ (k1 l _ e2 e5) e5
        refine ⟨l, _, rfl, DPut.k (k := Sum.inl k) at2 (by unfold kvI; rw [List.length_map]; exact z1), ?_⟩
        rw [kvI_put]
        have kf : KeepF H2 (L2.upd H2 l (.dK (kvI (putI kvs k c)))) := kf_mut at2 ⟨fun _ z => (nomatch z), fun _ _ z => (nomatch z)⟩
        exact z2 σ _ (((s.keep g k1).keep g1 k2).updo hx e1 at2 (by exact rfl) e4 e5 (by exact rfl)) (keep_own ((k0.trans k1).trans k2) e4) ((((k1.trans k2)).toF g).trans kf) (g_ownM g2 e5 at2 fx_dK)
      · exact z2.elim
    · exact q.elim
/-! ### a locked dict -/
@[simp] def keysD : D → M (List D)
  | .dii kvs => pure (kvs.map fun p => .int p.1)
  | _ => M.fail
theorem di_keys {tg : Expr} (ha : PE X a (lift1 W H0 E ma)) : PI X tg a (liftI W H0 E fun e => do let x ← ma e; keysD x) :=
  PI.imp (pi_keys ha) fun σ H R ⟨e, st, k0, _, g, q⟩ => ⟨e, st, k0, _, g, (ma e).mono (fun d _ z v H1 k1 g1 r1 => by
    cases d <;> first | exact z.elim | skip
    rename_i kvs
    have z : ∀ J H', Keep W H H' → W.G _ H' → Walk W (Keep W) (kvs.map fun p => D.int p.1) J H' → R J H' := z
    simp only [Rep1, Rep] at r1
    obtain ⟨l, o, rfl, hl⟩ := r1
    refine ⟨l, o, rfl, .inl ⟨_, hl, z _ H1 k1 g1 fun γ2 H2 k2 g2 => ?_⟩⟩
    have at2 := k2.rd g1 (.inr ⟨_, _, rfl⟩) hl
    have len : (kvI kvs).length = kvs.length := by unfold kvI; rw [List.length_map]
    refine ⟨fun j hj => ⟨at2, by rw [len]; rw [List.length_map] at hj; exact hj⟩, ⟨at2, by rw [len, List.length_map]; exact Nat.le_refl _⟩, fun j x Hx hj ⟨eH, k, u, hk, ex⟩ => ?_⟩
    subst eH ex
    refine ⟨Keep.refl _, g2, .int (kvs[j]'(by rw [List.length_map] at hj; exact hj)).1, ?_, ?_⟩
    · rw [List.getElem?_map, List.getElem?_eq_getElem (by rw [List.length_map] at hj; exact hj)]
      rfl
    · unfold kvI at hk
      rw [List.getElem?_map, List.getElem?_eq_getElem (by rw [List.length_map] at hj; exact hj)] at hk
      cases hk
      simp only [Rep]
      rfl) (fun _ _ z => z) q⟩
@[simp] def dixD : D → D → M D
  | .dii kvs, .int k => match getI kvs k with
    | some v => pure (.int v)
    | none => M.fail
  | _, _ => M.fail
def rDix : R2 := fun x y H Q => ∃ a v, x = .ref a ∧ DGet H a y (some v) ∧ Q v H
theorem dp_dix (hu : X.A.units + 100 < cLine) (ha : PE X a (lift1 W H0 E ma)) (hb : PE X b (lift1 W H0 E mb)) (hs : NoSl b := by exact fun _ _ => rfl) : PE X (.Subscript a b pos) (lift W H0 E (bin dixD ma mb)) :=
  PE.imp (pe_dget (by omega) ha hb hs) fun σ H Q h => two (r := rDix) (fun x y dx dy H Q γ g r1 r2 z => by
    unfold dixD at z
    split at z
    · rename_i kvs k
      split at z
      · rename_i v hv
        simp only [Rep1, Rep] at r1 r2
        obtain ⟨l, o, ex, hl⟩ := r1
        subst r2
        refine ⟨l, .int v, ex, .inl ⟨kvI kvs, Sum.inl k, .inr ⟨o, hl⟩, rfl, ?_⟩, z _ H (Keep.refl H) g (by simp only [Rep])⟩
        rw [kvI_get, hv]
        rfl
      · exact z.elim
    · exact z.elim) h
/-! ### t.index(k) -/
def tTIndex (K : PySem.W.Frag) (td te : TE) : TE := fun σ H Q => td σ H fun x H1 => ∃ (l : Addr) (ns : List Int), x = .ref l ∧ SqX H1 l (ns.map V.int) ∧ te σ H1 fun y H2 => ∃ k : Int, y = .int k ∧ SqT K H2 l (ns.map V.int) ∧ k ∈ ns ∧ Q (.int (ns.idxOf k : Nat)) H2
theorem pe_tindex {td te : TE} (ho : PE X o td) (ha : PE X a te) (base : attributeBase o "index" X.env (eval o X.env) = eval o X.env)
    (few : ((backTo cpos (starEach [a] X.env)).all (fun x => !x.1) && (backToKw cpos (keywordEach [] X.env)).all (fun x => x.1.isSome) && decide ([a].length + ([] : List Keyword).length + (if ([] : List Keyword).isEmpty then 0 else 1) < 30)) = true)
    (line : (apos.endLine == cpos.line) = true) (trees : backTo cpos (starEach [a] X.env) = [(false, eval a X.env)]) : PE X (.Call (.Attribute o "index" apos) [a] [] cpos) (tTIndex X.K td te) :=
  ⟨fun pins s σ H Q I h => wpAny_Call_method base few line PySem.F.plainAttrs_tuple PySem.F.slot_tuple_index PySem.F.type_tuple_index (thn (ho.run pins s σ H _ I h) fun u s1 ⟨x, H1, I1, rx, l, ns, ex, ⟨ob, hl, nd⟩, q1⟩ => by
    subst ex
    cases rx
    obtain ⟨at1, _⟩ := (show s1.heap.get? l = some ob ∧ _ from I1.hok l _ hl)
    obtain ⟨its, rv, t1, _⟩ := I1.tuple (.inl (.inr ⟨ob, hl⟩))
    refine ⟨t1.typeIs, fun b e => by cases e; exact ⟨ob, at1, nd⟩, ?_⟩
    rw [trees]
    refine Calls.callWith_builtin rfl (Calls.evalArgs_plain (Calls.spliced_cons (thn (ha.run pins s1 σ H1 _ I1 q1) fun iv s2 ⟨y, H2, I2, ry, k, ey, hl2, hk, q2⟩ => Calls.spliced_nil ?_)))
    subst ey
    obtain ⟨tk, eiv⟩ := ry
    subst eiv
    obtain ⟨its2, rv2, t2, _⟩ := I2.tuple hl2
    exact PySem.SeqAt.tuple_index_ints t2 (intsAre_of rv2) hk ⟨.int (ns.idxOf k : Nat), H2, I2.kept (t' := s2.toks + 1) (fun _ _ e => e), ⟨_, rfl⟩, q2⟩)⟩
@[simp] def tindexD : D → D → M D
  | .tup xs, .int k => match intsD xs with
    | some ns => do M.need (k ∈ ns); pure (.int (ns.idxOf k : Nat))
    | none => M.fail
  | _, _ => M.fail
theorem dp_tindex (hK : X.K = W.K) (ho : PE X o (lift1 W H0 E mo)) (ha : PE X a (lift W H0 E ma)) (base : attributeBase o "index" X.env (eval o X.env) = eval o X.env := by rfl)
    (few : ((backTo cpos (starEach [a] X.env)).all (fun x => !x.1) && (backToKw cpos (keywordEach [] X.env)).all (fun x => x.1.isSome) && decide ([a].length + ([] : List Keyword).length + (if ([] : List Keyword).isEmpty then 0 else 1) < 30)) = true := by rfl)
    (line : (apos.endLine == cpos.line) = true := by rfl) (trees : backTo cpos (starEach [a] X.env) = [(false, eval a X.env)] := by rfl) : PE X (.Call (.Attribute o "index" apos) [a] [] cpos) (lift W H0 E fun e => do let x ← mo e; match x with
      | .tup xs => match intsD xs with
        | some ns => do
          let y ← ma e
          match y with
          | .int k => do M.need (k ∈ ns); pure (.int (ns.idxOf k : Nat))
          | _ => M.fail
        | none => M.fail
      | _ => M.fail) :=
  PE.imp (pe_tindex ho ha base few line trees) fun σ H Q ⟨e, st, k0, _, g, q⟩ => ⟨e, st, k0, _, g, (mo e).mono (fun d _ z v H1 k1 g1 r1 => by
    cases d <;> first | exact z.elim | skip
    rename_i xs
    simp only at z
    split at z
    · rename_i ns hns
      simp only [Rep1, Rep] at r1
      obtain ⟨l, vs, rfl, sq, rl⟩ := r1
      rw [intsD_eq hns] at rl
      have ev := repL_ints rl
      subst ev
      refine ⟨l, ns, rfl, sq, e, st.keep g k1, k0.trans k1, _, g1, (ma e).mono (fun y _ z2 u H2 k2 g2 r2 => ?_) (fun _ _ z => z) z⟩
      cases y <;> first | exact z2.elim | skip
      rename_i k
      obtain ⟨z3, z4⟩ := z2
      simp only [Rep] at r2
      exact ⟨k, r2, by rw [hK]; exact (k2.sqX g1 sq).sq, z3, z4 _ H2 (k1.trans k2) g2 (by simp only [Rep])⟩
    · exact z.elim) (fun _ _ z => z) q⟩
end
end Dl

set_option maxRecDepth 100000
set_option maxHeartbeats 4100000
/-! Counting in a dict of ints. -/
namespace Dl
open L2 PySem PySem.Spec PyProof.Rows
/-- the dict that tells how often -/
structure Cnt (kvs : List (Int × Int)) (f : Int → Nat) : Prop where
  nd : (kvs.map (·.1)).Nodup
  at_ : ∀ n, getI kvs n = if f n = 0 then none else some ((f n : Nat) : Int)
theorem getI_none {k : Int} : ∀ {kvs : List (Int × Int)}, getI kvs k = none ↔ k ∉ kvs.map (·.1)
  | [] => by simp [getI]
  | p :: kvs => by
    have ih := getI_none (k := k) (kvs := kvs)
    unfold getI at ih ⊢
    simp only [List.find?_cons, List.map_cons, List.mem_cons, not_or]
    by_cases e : p.1 = k
    · simp [e]
    · simp only [e, decide_false]
      rw [ih]
      constructor
      · exact fun h => ⟨fun z => e z.symm, h⟩
      · exact fun h => h.2
theorem any_key {k : Int} {kvs : List (Int × Int)} : kvs.any (fun p => decide (p.1 = k)) = true ↔ k ∈ kvs.map (·.1) := by
  simp [List.any_eq_true, List.mem_map]
theorem getI_map {k v n : Int} : ∀ {kvs : List (Int × Int)}, k ∈ kvs.map (·.1) → getI (kvs.map fun p => if p.1 = k then (p.1, v) else p) n = if n = k then some v else getI kvs n
  | [], h => nomatch h
  | p :: kvs, h => by
    unfold getI at *
    simp only [List.map_cons, List.find?_cons]
    by_cases e : p.1 = k
    · by_cases en : n = k
      · subst en; simp [e]
      · have ne : ¬ k = n := fun z => en z.symm
        simp only [e, if_true, ne, decide_false, en, if_false]
        by_cases hk : k ∈ kvs.map (·.1)
        · have ih := getI_map (v := v) (n := n) hk
          unfold getI at ih
          rw [ih, if_neg en]
        · congr 2
          refine (List.map_congr_left fun q hq => ?_).trans (List.map_id _)
          rw [if_neg fun z => hk (List.mem_map.mpr ⟨q, hq, z⟩)]
          rfl
    · have hk : k ∈ kvs.map (·.1) := by
        rcases List.mem_cons.mp h with z | z
        · exact absurd z.symm e
        · exact z
      have ih := getI_map (v := v) (n := n) hk
      unfold getI at ih
      simp only [e, if_false]
      by_cases en : p.1 = n
      · have : ¬ n = k := fun z => e (en.trans z)
        simp [en, this]
      · simp only [en, decide_false]
        exact ih
theorem getI_app {k v n : Int} {kvs : List (Int × Int)} (h : k ∉ kvs.map (·.1)) : getI (kvs ++ [(k, v)]) n = if n = k then some v else getI kvs n := by
  have h' := getI_none.mpr h
  unfold getI at *
  rw [List.find?_append]
  by_cases en : n = k
  · subst en
    cases hf : kvs.find? (fun p => decide (p.1 = n)) with
    | none => simp
    | some p => rw [hf] at h'; cases h'
  · have ne : ¬ k = n := fun z => en z.symm
    cases hf : kvs.find? (fun p => decide (p.1 = n)) with
    | none => simp [ne, en]
    | some p => simp [en]
theorem getI_put {k v n : Int} {kvs : List (Int × Int)} : getI (putI kvs k v) n = if n = k then some v else getI kvs n := by
  unfold putI
  split
  · rename_i h
    exact getI_map (any_key.mp h)
  · rename_i h
    exact getI_app fun z => h (any_key.mpr z)
theorem keys_put {k v : Int} {kvs : List (Int × Int)} : (putI kvs k v).map (·.1) = if k ∈ kvs.map (·.1) then kvs.map (·.1) else kvs.map (·.1) ++ [k] := by
  unfold putI
  by_cases h : k ∈ kvs.map (·.1)
  · rw [if_pos (any_key.mpr h), if_pos h, List.map_map]
    refine List.map_congr_left fun p _ => ?_
    by_cases e : p.1 = k <;> simp [e]
  · rw [if_neg fun z => h (any_key.mp z), if_neg h, List.map_append]
    rfl
theorem put_len {k v : Int} {kvs : List (Int × Int)} : (putI kvs k v).length ≤ kvs.length + 1 := by
  unfold putI
  split
  · rw [List.length_map]; omega
  · rw [List.length_append]; exact Nat.le_refl _
theorem Cnt.nil : Cnt [] (fun _ => 0) := ⟨List.nodup_nil, fun n => rfl⟩
theorem Cnt.add {kvs : List (Int × Int)} {f : Int → Nat} (h : Cnt kvs f) (k : Int) : Cnt (putI kvs k ((getI kvs k).getD 0 + 1)) (fun n => f n + if n = k then 1 else 0) := by
  refine ⟨?_, fun n => ?_⟩
  · rw [keys_put]
    split
    · exact h.nd
    · rename_i hk
      rw [List.nodup_append]
      exact ⟨h.nd, List.nodup_cons.mpr ⟨fun z => (nomatch z), List.nodup_nil⟩, fun a ha b hb => by
        have eb := List.mem_singleton.mp hb
        rintro rfl
        rw [eb] at ha
        exact hk ha⟩
  · rw [getI_put]
    by_cases e : n = k
    · subst e
      rw [if_pos rfl, h.at_]
      by_cases z : f n = 0
      · simp [z]
      · simp [z]
    · simp only [e, if_false, Nat.add_zero]
      exact h.at_ n
/-- each of ns once more -/
def addAll (kvs : List (Int × Int)) (ns : List Int) : List (Int × Int) := ns.foldl (fun kvs k => putI kvs k ((getI kvs k).getD 0 + 1)) kvs
theorem addAll_len : ∀ {ns : List Int} {kvs : List (Int × Int)}, (addAll kvs ns).length ≤ kvs.length + ns.length
  | [], kvs => Nat.le_refl _
  | n :: ns, kvs => by
    have h1 := addAll_len (ns := ns) (kvs := putI kvs n ((getI kvs n).getD 0 + 1))
    have h2 := put_len (k := n) (v := (getI kvs n).getD 0 + 1) (kvs := kvs)
    show (addAll (putI kvs n ((getI kvs n).getD 0 + 1)) ns).length ≤ _
    rw [List.length_cons]
    omega
theorem Cnt.addAll : ∀ {ns : List Int} {kvs : List (Int × Int)} {f : Int → Nat}, Cnt kvs f → ns.Nodup → Cnt (addAll kvs ns) (fun n => f n + if n ∈ ns then 1 else 0)
  | [], kvs, f, h, _ => by simpa [Dl.addAll] using h
  | m :: ns, kvs, f, h, nd => by
    obtain ⟨h1, h2⟩ := List.nodup_cons.mp nd
    have ih := (h.add m).addAll h2
    refine ⟨ih.nd, fun n => ?_⟩
    have := ih.at_ n
    have e : (f n + (if n = m then 1 else 0)) + (if n ∈ ns then 1 else 0) = f n + if n ∈ m :: ns then 1 else 0 := by
      by_cases e1 : n = m
      · subst e1
        simp [h1]
      · simp [e1]
    rw [← e]
    exact this
/-- those told m times -/
theorem Cnt.told {kvs : List (Int × Int)} {f : Int → Nat} (h : Cnt kvs f) {m : Nat} (hm : m ≠ 0) : ((kvs.map (·.1)).filter fun n => decide (getI kvs n = some (m : Int))).Nodup ∧ ∀ n, n ∈ (kvs.map (·.1)).filter (fun n => decide (getI kvs n = some (m : Int))) ↔ f n = m := by
  refine ⟨h.nd.filter _, fun n => ?_⟩
  rw [List.mem_filter, decide_eq_true_eq, h.at_]
  constructor
  · rintro ⟨_, h2⟩
    split at h2
    · cases h2
    · simp only [Option.some.injEq] at h2
      omega
  · intro e
    refine ⟨?_, by rw [e, if_neg hm]⟩
    by_cases z : n ∈ kvs.map (·.1)
    · exact z
    · have := getI_none.mpr z
      rw [h.at_, e, if_neg hm] at this
      cases this
/-- rising lists with the same members -/
theorem rising_eq : ∀ {xs ys : List Int}, xs.Pairwise (· < ·) → ys.Pairwise (· < ·) → (∀ n, n ∈ xs ↔ n ∈ ys) → xs = ys
  | [], [], _, _, _ => rfl
  | [], y :: ys, _, _, h => nomatch (h y).mpr List.mem_cons_self
  | x :: xs, [], _, _, h => nomatch (h x).mp List.mem_cons_self
  | x :: xs, y :: ys, h1, h2, h => by
    rw [List.pairwise_cons] at h1 h2
    have e : x = y := by
      have a1 : x = y ∨ x ∈ ys := List.mem_cons.mp ((h x).mp List.mem_cons_self)
      have a2 : y = x ∨ y ∈ xs := List.mem_cons.mp ((h y).mpr List.mem_cons_self)
      rcases a1 with a1 | a1
      · exact a1
      · rcases a2 with a2 | a2
        · exact a2.symm
        · have := h2.1 x a1
          have := h1.1 y a2
          omega
    subst e
    rw [rising_eq h1.2 h2.2 fun n => ?_]
    constructor
    · intro hn
      rcases List.mem_cons.mp ((h n).mp (List.mem_cons_of_mem _ hn)) with e | e
      · have := h1.1 n hn
        omega
      · exact e
    · intro hn
      rcases List.mem_cons.mp ((h n).mpr (List.mem_cons_of_mem _ hn)) with e | e
      · have := h2.1 n hn
        omega
      · exact e
theorem sorted_rising {ns : List Int} (h : ns.Nodup) : (ns.mergeSort (fun i j => decide (i ≤ j))).Pairwise (· < ·) ∧ ∀ n, n ∈ ns.mergeSort (fun i j => decide (i ≤ j)) ↔ n ∈ ns := by
  have p := List.mergeSort_perm ns (fun i j => decide (i ≤ j))
  refine ⟨?_, fun n => p.mem_iff⟩
  have s := List.pairwise_mergeSort (le := fun (i j : Int) => decide (i ≤ j)) (fun a b c h1 h2 => by simp at h1 h2 ⊢; omega) (fun a b => by simp; omega) ns
  have n2 : (ns.mergeSort (fun i j => decide (i ≤ j))).Pairwise (· ≠ ·) := p.nodup_iff.mpr h
  exact (List.pairwise_and_iff.mpr ⟨s, n2⟩).imp fun {a b} ⟨h1, h2⟩ => by
    simp at h1
    omega
end Dl

set_option maxRecDepth 100000
set_option maxHeartbeats 4100000
/-! sorted(set(x)), x a list of ints -/
namespace Dl
open L2 PySem PySem.Spec PyProof.Rows
section
variable {P : Program} {w : World} {s : Shared} {A : Around} {E : Value → Shared → Prop}
/-- what is known behind it -/
def SetMadeI (w : World) (s : Shared) (ns : List Int) (s' : Shared) : Prop :=
  ∃ (h' : Heap) (tk c : Nat), s' = { s with heap := h', toks := tk } ∧ SetR w h' s.heap.objs.size (fun j => decide (j ∈ ns)) c ∧ c ≤ ns.length ∧ ∀ b o, s.heap.get? b = some o → h'.get? b = some o
theorem set_walkI {l : Addr} {items : Array Value} (ns : List Int) (hh : A.in1.handled = none) (hl : s.heap.IsList l items) (hls : l < s.heap.objs.size) (hit : IntsAre items.toList ns) (few : ns.length + 1 < scanBound) {R : Result → Shared → Prop} (hR : ∀ s', SetMadeI w s ns s' → R (.ok (.ret .none)) s') :
    codeAny (model P w) A (.builtin "set.update.loop" ⟨[.ref s.heap.objs.size, .ref (s.heap.objs.size + 1)], []⟩) R { s with heap := (s.heap.push (setNew w)).push { cls := .type "list_iterator", data := .fields #[.ref l, .int 0 0] } } := by
  have count : items.size = ns.length := by
    have := IntsAre.length hit
    rwa [Array.length_toList] at this
  have z1 : (s.heap.push (setNew w)).objs.size = s.heap.objs.size + 1 := Heap.size_push ..
  have new : (s.heap.push (setNew w)).get? s.heap.objs.size = some (setNew w) := Heap.get?_push_size _ rfl
  refine set_update_ints ((Walks.list hh (s.heap.objs.size + 1) l (Nat.ne_of_lt (Nat.lt_succ_of_lt hls)) items).toS) s.heap.objs.size ?_ ns count few (fun i v hv => ?_)
    (items.size - 0) 0 _ (by omega) (Nat.zero_le _) ⟨⟨_, by rw [← z1]; exact Heap.get?_push_size _ rfl, rfl, rfl⟩, ?_⟩ ⟨0, Nat.le_refl 0, setR_new_at (Heap.get?_push_of_some _ new)⟩ fun s' c hm hc r => ?_
  · simp only [List.mem_cons, List.not_mem_nil, or_false, not_or]
    exact ⟨Nat.ne_of_lt (Nat.lt_succ_self _), Nat.ne_of_gt hls⟩
  · have hv : items[i]? = some v := hv
    have hi : i < ns.length := by rw [← count]; exact (Array.getElem?_eq_some_iff.mp hv).1
    obtain ⟨t, e⟩ := IntsAre.int_at hit i v (by rw [Array.getElem?_toList]; exact hv)
    refine ⟨ns[i], t, List.getElem?_eq_getElem hi, e.trans ?_⟩
    rw [List.getD_eq_getElem?_getD, List.getElem?_eq_getElem hi]
    rfl
  · exact (hl.push _).push _
  · refine hR s' ⟨s'.heap, s'.toks, c, ?_, r, by rw [← count]; exact hc, fun b o e => ?_⟩
    · have e1 := hm.gens
      have e2 := hm.drawn
      have e3 := hm.os
      cases s'
      simp only at e1 e2 e3
      subst e1 e2 e3
      rfl
    · have hb := Heap.lt_size e
      refine hm.heap b o ?_ (Heap.get?_push_of_some _ (Heap.get?_push_of_some _ e))
      simp only [List.mem_cons, List.not_mem_nil, or_false, not_or]
      exact ⟨Nat.ne_of_lt hb, Nat.ne_of_lt (Nat.lt_succ_of_lt hb)⟩
theorem call_setLI {l : Addr} {items : Array Value} (ns : List Int) {Q : Value → Shared → Prop} (hh : A.handled = none) (hl : s.heap.IsList l items) (hit : IntsAre items.toList ns) (few : ns.length + 1 < scanBound) (h : ∀ s', SetMadeI w s ns s' → Q (.ref s.heap.objs.size) s') :
    wpAny (model P w) A (call (.type "set") [Value.ref l]) Q E s := by
  have C := F.called_set
  obtain ⟨x1, x2, x3⟩ := C.mro
  have y1 := C.made
  have y2 := C.sub
  have y3 := C.notType
  have y4 := C.canCreate
  have y5 := F.typeCall_set_1 (.ref l)
  have y6 := C.init.lookup
  have y7 := C.init.bind (.ref s.heap.objs.size)
  refine wpAny_call <| codeAny_of_tree ?_
  change wpAny _ _ (callAny (.type "set") _) _ _ _
  refine wpAny_pure ⟨Code.quiet_builtin _ (by decide +kernel),
    codeAny_builtin F.entry_type_call ?_⟩
  rw [(Around.under_plain (weight_type_call_type "set" [.ref l] []) rfl :)]
  repeat any_goals first | assumption | wp_step

  refine codeAny_mono (code_set_led1 (.ref l) (E := E) (Q₁ := fun ob s₁ => ob = .ref s.heap.objs.size ∧ s₁ = { s with heap := s.heap.push (setNew w) }) ⟨rfl, rfl⟩) fun r s₁ made => ?_
  match r, made with
  | .error e, made => exact made
  | .ok (.ret ob), made =>
    obtain ⟨rfl, rfl⟩ := made
    have there : (s.heap.push (setNew w)).get? s.heap.objs.size = some (setNew w) := Heap.get?_push_size _ rfl
    have isSet : Shared.TypeIs { s with heap := s.heap.push (setNew w) } (.ref s.heap.objs.size) "set" := ⟨_, there, rfl⟩
    repeat any_goals first | assumption | wp_step

    refine codeAny_mono (codeAny_call_builtin (R := wants (fun r s₂ => r = .none ∧ SetMadeI w s ns s₂) E) C.init.plain F.entry_set_init (check_set_init_1 isSet ?_)) fun r₂ s₂ z => ?_
    · have keep : ∀ {b o}, s.heap.get? b = some o → (s.heap.push (setNew w)).get? b = some o := fun e => Heap.get?_push_of_some _ e
      have hl2 := hl
      obtain ⟨⟨oc, od, dt, os⟩, g1, g2, gn, g3⟩ := hl2
      simp only at g2 g3
      subst g2 g3
      have g4 := keep g1
      have b1 := F.sub_list_set
      have b2 := F.sub_list_frozenset
      have b3 : (Value.type "list" == Value.type "dict") = false := by decide
      have hl3 : (s.heap.push (setNew w)).IsList l items := ⟨_, g4, rfl, gn, rfl⟩
      have hls : l < s.heap.objs.size := Heap.lt_size g1
      unfold Builtin.«set.__init__» Builtin.Frozenset.updateFrom noKeywords
      generalize again_ : pyIter = it
      wp_walk
      subst again_
      refine wpAny_pyIter_list hl3 (wpAny_bind (wpAny_runValue ?_))
      have z1 : (s.heap.push (setNew w)).objs.size = s.heap.objs.size + 1 := Heap.size_push ..
      rw [z1]
      refine set_walkI ns (by simp [hh]) hl hls hit few fun s' made => ?_
      exact wpAny_pure (wpAny_pure ⟨rfl, made⟩)
    · match r₂, z with
      | .error e, z => exact z
      | .ok (.ret r), z =>
        obtain ⟨rfl, z⟩ := z
        have z2 := h s₂ z
        obtain ⟨h', tk, c, rfl, z3⟩ := z
        repeat any_goals first | assumption | wp_step
end
section
variable {X : Cx} {W : Wd} {H0 : Hp} {E : XK} {pos p spos sp : Pos} {a : Expr} {ma : DE → M D}
def rSetLI (K : PySem.W.Frag) (w : World) : List V → Hp → VK → Prop := fun xs H Q => ∃ (l : Addr) (ns : List Int), xs = [V.ref l] ∧ SqL K H l (ns.map V.int) ∧ ns.length < 64 ∧ ∀ c n, H c = none → n ≤ ns.length → Q (.ref c) (upd H c (SetO w c (fun j => decide (j ∈ ns)) n))
theorem cr_setLI (hc : X.calm = true) : CallR X (.type "set") (rSetLI X.K X.w) := by
  intro pins s σ H args us Q I r ⟨l, ns, e, hl, few, q⟩
  subst e
  rw [Vals.ref1 r]
  obtain ⟨its, rv, pl, hz⟩ := I.list hl
  have free_ := I.hok.fresh (Nat.le_refl s.heap.objs.size)
  refine call_setLI (P := X.prog) (w := X.w) ns (I.ok.hd hc) pl.isList (intsAre_of rv) (by unfold scanBound; omega) fun s' made => ?_
  obtain ⟨h', tk, c, rfl, R, hc', k⟩ := made
  exact ⟨.ref s.heap.objs.size, L2.upd H s.heap.objs.size (SetO X.w s.heap.objs.size (fun j => decide (j ∈ ns)) c), I.laid (t' := tk) k (Nat.le_refl _) (setO_new R), rfl, q _ c free_ hc'⟩
@[simp] def ascSetL : D → M (List D)
  | .lst xs => match intsD xs with
    | some ns => do M.need (ns.length < 64); ascSet ns
    | none => M.fail
  | _ => M.fail
theorem do_sortedSetI (hK : X.K = W.K) (hc : X.calm = true) (hm : X.mg "sorted" = none) (hm2 : X.mg "set" = none) (ha : PE X a (lift1 W H0 E ma)) (hg : Gl X "sorted" := by rfl) (hg2 : Gl X "set" := by rfl)
    (he2 : starEach [a] X.env = (false, eval a X.env) :: starEach [] X.env := by rfl) (he : starEach [.Call (.Name "set" sp) [a] [] spos] X.env = (false, eval (.Call (.Name "set" sp) [a] [] spos) X.env) :: starEach [] X.env := by rfl) :
    PE X (.Call (.Name "sorted" p) [.Call (.Name "set" sp) [a] [] spos] [] pos) (liftO W H0 E fun e => do let x ← ma e; ascSetL x) :=
  PE.imp (pe_callB (cr_sortedSet hc) hg hm (by decide +kernel) (pa_cons (pe_callTy (cr_setLI hc) hg2 hm2 (by decide +kernel) (pa_cons ha pa_nil he2) (he := he2)) pa_nil he) (he := he)) fun σ H Q ⟨e, s0, k0, _, g, q⟩ => ⟨e, s0, k0, _, g, (ma e).mono (fun d _ z v H1 k1 g1 r1 => by
    cases d <;> first | exact z.elim | skip
    rename_i xs
    simp only [ascSetL] at z
    split at z
    · rename_i ns hns
      obtain ⟨few, z⟩ := z
      obtain ⟨l, vs, rfl, sq, rl⟩ := r1.sq
      rw [intsD_eq hns] at rl
      have ev := repL_ints rl
      subst ev
      refine ⟨l, ns, rfl, by rw [hK]; exact sq, few, fun c n hc' hn => ⟨c, _, n, rfl, upd_same, by omega, fun ns' p hp hm hl' hp' => ?_⟩⟩
      have k2 : Keep W H1 (L2.upd H1 c (SetO X.w c (fun j => decide (j ∈ ns)) n)) := Keep.new hc'
      have g2 := gnew (o := SetO X.w c (fun j => decide (j ∈ ns)) n) g1 hc'
      exact z ns' hp (fun k => (hm k).trans decide_eq_true_iff) (by omega) p _ _ (k1.freed (k2.freed hp' g1 g2) g g1) ((k1.trans k2).trans (Keep.new hp')) (gnew g2 hp') upd_same (ints_repL ns') (nS g2 hp')
    · exact z.elim) (fun _ _ z => z) q⟩
end
end Dl

set_option maxRecDepth 100000
set_option maxHeartbeats 4100000
/-! what a lambda's body passes on; x is None as a test -/
namespace Dl
open L2 PySem PySem.Spec PyProof.Rows
section
variable {X : Cx} {A : Around} {outer : List PySem.Env} {s : Shared} {H : Hp} {E : XK} {scope : Scope} {f c' : Addr}
theorem lam_prog : (LamX.lamCx X A outer s H E scope f c').prog = X.prog := by
  delta LamX.lamCx
  with_reducible rfl
theorem lam_w : (LamX.lamCx X A outer s H E scope f c').w = X.w := by
  delta LamX.lamCx
  with_reducible rfl
theorem pass_lamX : Passes (L2.CX (LamX.lamCx X A outer s H E scope f c').prog (LamX.lamCx X A outer s H E scope f c').w) (LamX.lamCx X A outer s H E scope f c') E := by
  rw [lam_prog, lam_w]
  exact pass_lam
end
section
variable {X : Cx} {W : Wd} {H0 : Hp} {E : XK} {pos p : Pos} {a : Expr} {ma : DE → M D}
theorem dt_isN {j : Nat} (ha : PE X a (lift1 W H0 E ma)) : PT X (.Compare a [.Is] [.Constant .none j p] pos) (liftT W H0 E fun e => do let x ← ma e; let y ← isN true x; asB y) :=
  PT.imp (pt_cmp (pc_isN ha) rfl) fun σ H Q ⟨e, st, k0, _, g, q⟩ => ⟨e, st, k0, _, g, (ma e).mono (fun d _ z v H' k g' r => by
    show ∃ b, V.bl (decide (v = .non)) = .bl b ∧ Q b H'
    refine ⟨_, rfl, ?_⟩
    by_cases hd : ∃ u, d = .ob u
    · obtain ⟨u, rfl⟩ := hd; exact z.elim
    · rw [rep1_non r fun u e => hd ⟨u, e⟩]
      cases d <;> first | exact z.elim | exact z H' k g' | exact absurd ⟨_, rfl⟩ hd) (fun _ _ z => z) q⟩
end
end Dl

set_option maxRecDepth 100000
set_option maxHeartbeats 4100000
/-! what a work raised, as a datum: x = _law_caught(lambda: ..), isinstance(x, C) -/
namespace Dl
open L2 PySem PySem.Spec PyProof.Rows
section
variable {X : Cx} {W : Wd} {H0 : Hp} {E : XK}
/-- an object, if it is one, locked -/
theorem pe_lockV' {e : Expr} {t : TE} (h : PE X e t) : PE X e (fun σ H Q => t σ H fun v H' => Q v H' ∨ ∃ a u, v = .ref a ∧ H' a = some u ∧ Mut (some u) ∧ ∀ o, Q v (upd H' a (.frz o u))) :=
  ⟨fun pins s σ H Q I z => thn (h.run pins s σ H _ I z) fun v s1 ⟨x, H1, I1, r1, q⟩ => by
    rcases q with q | ⟨a, u, hx, ha, mu, q⟩
    · exact ⟨x, _, I1, r1, q⟩
    · obtain ⟨o, I2⟩ := I1.lock ha mu
      exact ⟨x, _, I2, r1, q o⟩⟩
/-- what the work raises, None if it doesn't -/
def caughtM (K : PySem.W.Frag) (CJ : Addr) (mb : M Dl.D) : M Dl.D := ⟨fun γ P _ => mb.run γ (fun _ γ' => P .non γ') fun c γ' => PySem.W.exmOne K (.ref c) (.ref CJ) = some true ∧ P (.exn c) γ',
  fun h _ q => mb.mono (fun _ _ z => h _ _ z) (fun c γ' ⟨z1, z2⟩ => ⟨z1, h _ _ z2⟩) q⟩
@[simp] theorem run_caughtM {K : PySem.W.Frag} {CJ : Addr} {mb : M Dl.D} {γ : Gh} {P : Dl.D → Gh → Prop} {Xx : Addr → Gh → Prop} : (caughtM K CJ mb).run γ P Xx = mb.run γ (fun _ γ' => P .non γ') fun c γ' => PySem.W.exmOne K (.ref c) (.ref CJ) = some true ∧ P (.exn c) γ' := rfl
theorem dp_got {x : Str} {CJ c P : Addr} {k : Nat} {params : Arguments} {body : Expr} {scope : Scope} {p2 pos2 lpos : Pos} {mb : DE → M Dl.D} (C : Cat X W x CJ) (hK : X.K = W.K) (hP : W.Tb P (X.env.qual ++ "<lambda>")) (TB : LamX.TabB X.base X.mg c P) (hcode : X.env.code = .ref c)
    (hr : Room (k + 2) X.A) (L : LamX.LamS X.env.scope scope)
    (hbody : ∀ (A : Around) (outer : List PySem.Env) (s : Shared) (H : Hp) (E : XK) (f c' : Addr) (H0 : Hp), Room k (A.deeper (LamX.lamEnv X scope s.heap.objs.size f c')) → PE (LamX.lamCx X A outer s H E scope f c') body (lift W H0 E mb))
    (hg : Gl X x := by rfl) (hdx : (x == ("__debug__" : Str)) = false := by decide) (hdef : defaultsOf params X.env = ([], []) := by rfl)
    (hbind : ∀ (q : Str) (cl : List (Str × Addr)) (pm cv ctv : Value), bindArgs (PySem.W.kla_fn "<lambda>" q params body scope cl pm cv ctv) ⟨[], []⟩ = pure [] := by exact fun _ _ _ _ _ => rfl) :
    PE X (.Call (.Name x p2) [.Lambda params body scope lpos] [] pos2) (lift W H0 E fun e => caughtM W.K CJ (mb (shE e))) := by
  refine PE.imp (pe_lockV' (pe_lamN hg C.m C.kp hdx C.lk C.cd C.bd C.sc C.n0 C.vis (C.gives _) TB hcode hr L hdef hbind (t := fun E σ H Q => lift W H E mb σ H Q) (fun A outer s H E f c' hr' => ⟨fun pins s1 σ H1 Q I h => (hbody A outer s H E f c' H1 hr').run pins s1 σ H1 Q I h⟩) C.dbg C.cld)) fun σ H Q ⟨e, st, k0, γ, g, q⟩ => ?_
  refine ⟨W.tG γ H P _ g hP, fun H1 tn => ?_⟩
  have k1 : Keep W H H1 := fun b o hb hs => tn.2 b o (fun y => hs (by rw [y]; exact W.tS P _ hP)) hb
  have g1 : W.G γ H1 := W.tU γ H H1 P _ g hP tn
  rw [run_caughtM] at q
  refine ⟨shE e, st.shEx (k1.toF g), Keep.refl _, γ, g1, (mb (shE e)).mono (fun d γ' z v H' k2 g2 r => ?_) (fun c γ' z => ?_) q⟩
  · exact ⟨.non, rfl, .inl (z _ H' (k1.trans k2) g2 (by simp only [Rep]))⟩
  · obtain ⟨z1, z2⟩ := z
    intro H' k2 g2
    refine ⟨by rw [hK]; exact z1, rfl, fun a ha => .inr ⟨a, _, rfl, upd_same, True.intro, fun o => ?_⟩⟩
    have e1 : upd (upd H' a (ExK (.ref c) a)) a (.frz o (ExK (.ref c) a)) = upd H' a (.frz o (ExK (.ref c) a)) := by
      funext b
      by_cases hb : b = a
      · subst hb
        rw [upd_same, upd_same]
      · rw [upd_ne hb, upd_ne hb, upd_ne hb]
    rw [e1]
    exact z2 _ _ ((k1.trans k2).trans (Keep.new ha)) (gnew g2 ha) (by simp only [Rep]; exact ⟨a, o, rfl, upd_same⟩)

/-! ### isinstance(x, C), x what was caught -/
def rIsF (K : PySem.W.Frag) : List V → Hp → VK → Prop := fun xs H Q => ∃ (a D : Addr) (o : Obj) (c : V) (cv : Value) (b : Bool), xs = [.ref a, c] ∧ H a = some (.frz o (ExK (.ref D) a)) ∧ ExcC K D ∧ (∀ u, RelV c u → u = cv) ∧ PySem.W.kitOne K (.ref D) cv = some b ∧ Q (.bl b) H
theorem call_isF {X : Cx} : CallR X (.builtin "isinstance") (rIsF X.K) := by
  intro pins s σ H xs us Q I r hh
  obtain ⟨a, D, o, c, cv, b, rfl, ha, C, hcv, hb, q⟩ := hh
  match r with
  | .cons rx (.cons rt .nil) =>
    cases rx
    have ec := hcv _ rt
    subst ec
    obtain ⟨_, ⟨oe, vs, g1, ⟨z1, z2⟩, g2⟩, _, _⟩ := I.hok a _ ha
    have at_ : PySem.W.InstAt s.heap a oe D none := by
      obtain ⟨o1, o2, o3, o4⟩ := oe
      dsimp only at z1 z2 g2
      subst z1 z2 g2
      exact ⟨g1, rfl, rfl, trivial⟩
    exact PySem.W.kia_one (PySem.W.handS_kitx_exc C.hg C.hk C.hs C.hd C.ha C.hn C.ht C.hm) I.kIn at_ hb (fun z => nomatch z) fun tk => ⟨.bl b, H, I.kept (t' := tk) fun _ _ y => y, rfl, q⟩
def isX (K : PySem.W.Frag) (cv : Value) : Dl.D → M Dl.D
  | .exn c => ⟨fun γ P _ => ExcC K c ∧ ∃ b, PySem.W.kitOne K (.ref c) cv = some b ∧ P (.bl b) γ, fun h _ ⟨q1, b, q2, q3⟩ => ⟨q1, b, q2, h _ _ q3⟩⟩
  | _ => M.fail
@[simp] theorem run_isX {K : PySem.W.Frag} {cv : Value} {c : Addr} {γ : Gh} {P : Dl.D → Gh → Prop} {Xx : Addr → Gh → Prop} : (isX K cv (.exn c)).run γ P Xx = (ExcC K c ∧ ∃ b, PySem.W.kitOne K (.ref c) cv = some b ∧ P (.bl b) γ) := rfl
theorem isX_fin {σ : L2.St} {H : Hp} {Q : VK} {ma : DE → M Dl.D} {c : V} {cv : Value} (hK : X.K = W.K) (hc : ∀ u, RelV c u → u = cv) (h : lift W H0 E (fun e => do let x ← ma e; isX W.K cv x) σ H Q) :
    tCons (lift W H0 E ma) (tCons (tC c) tNil) σ H fun xs H1 => rIsF X.K xs H1 Q := by
  obtain ⟨e, st, k0, γ, g, q⟩ := h
  refine ⟨e, st, k0, γ, g, (ma e).mono (fun d γ' z v H1 k1 g1 r1 => ?_) (fun _ _ z => z) q⟩
  cases d <;> first | exact z.elim | skip
  rename_i cc
  simp only [Rep] at r1
  obtain ⟨p, o, rfl, hp⟩ := r1
  obtain ⟨z1, b, z2, z3⟩ := z
  exact ⟨p, cc, o, c, cv, b, rfl, hp, by rw [hK]; exact z1, hc, by rw [hK]; exact z2, z3 _ H1 k1 g1 (by simp only [Rep])⟩
section
variable {pos p p3 : Pos} {a : Expr} {ma : DE → M Dl.D}
/-- .. a class of the text -/
theorem dp_isXo {cn : Str} {D : Addr} (hK : X.K = W.K) (hi : X.mg "isinstance" = none) (hD : X.mg cn = some (.ref D)) (ha : PE X a (lift W H0 E ma)) (hgi : Gl X "isinstance" := by rfl) (hgD : Gl X cn := by rfl) (hdD : (cn == ("__debug__" : Str)) = false := by decide)
    (he : starEach [a, .Name cn p3] X.env = (false, eval a X.env) :: starEach [.Name cn p3] X.env := by rfl) (hpl : (backTo pos (starEach [.Name cn p3] X.env)).any (·.1) = false := by rfl) (he2 : starEach [.Name cn p3] X.env = (false, eval (.Name cn p3) X.env) :: starEach [] X.env := by rfl) :
    PE X (.Call (.Name "isinstance" p) [a, .Name cn p3] [] pos) (lift W H0 E fun e => do let x ← ma e; isX W.K (.ref D) x) :=
  PE.imp (pe_callB call_isF hgi hi (by decide +kernel) (pa_cons ha (pa_cons (pe_glob (v := .ref D) hgD hD rfl hdD) pa_nil he2) he) (he := he) (hpl := hpl)) fun σ H Q h => isX_fin hK (fun u hu => hu) h
/-- .. one of Python's own -/
theorem dp_isXb {cn : Str} {T : String} (hK : X.K = W.K) (hi : X.mg "isinstance" = none) (hT : X.mg cn = none) (ha : PE X a (lift W H0 E ma)) (hgi : Gl X "isinstance" := by rfl) (hgT : Gl X cn := by rfl) (hv : bootBuiltins cn = some (.type T) := by decide +kernel) (hn : cn ≠ "__name__" := by decide) (hdb : (cn == ("__debug__" : Str)) = false := by decide)
    (he : starEach [a, .Name cn p3] X.env = (false, eval a X.env) :: starEach [.Name cn p3] X.env := by rfl) (hpl : (backTo pos (starEach [.Name cn p3] X.env)).any (·.1) = false := by rfl) (he2 : starEach [.Name cn p3] X.env = (false, eval (.Name cn p3) X.env) :: starEach [] X.env := by rfl) :
    PE X (.Call (.Name "isinstance" p) [a, .Name cn p3] [] pos) (lift W H0 E fun e => do let x ← ma e; isX W.K (.type T) x) :=
  PE.imp (pe_callB call_isF hgi hi (by decide +kernel) (pa_cons ha (pa_cons (pe_bltn (v := .ty T) hgT hT hv rfl hn hdb) pa_nil he2) he) (he := he) (hpl := hpl)) fun σ H Q h => isX_fin hK (fun u hu => hu) h
end
end
def Cal.mono {P : Program} {w : World} {W : Wd} {mg : Str → Option Value} {base : Heap} {x : Str} {j k n : Nat} {F : List D → M D} (C : Cal P w W mg base x j n F) (h : j ≤ k) : Cal P w W mg base x k n F := ⟨C.f, C.fd, C.ps, C.ok.mono h, C.mg, C.kp, C.bd⟩
end Dl

set_option maxRecDepth 100000
set_option maxHeartbeats 4100000
/-! x.extend(ys), x one's own -/
namespace Dl
open L2 PySem PySem.Spec PyProof.Rows
section
variable {X : Cx} {W : Wd} {H0 : Hp} {E : XK} {pos p : Pos} {a : Expr} {mo : DE → M (List D)}
@[simp] def extM (i : Nat) (mo : DE → M (List D)) : DE → M R := fun e => match (e[i]? : Option (Option SD)) with
  | some (some (.ow (.lst xs))) => do
    let ys ← mo e
    M.need (xs.length + ys.length ≤ sizeLine)
    pure (.nx (setO i (xs ++ ys) e))
  | _ => M.fail
theorem ds_extend (i : Nat) {x : Str} {cpos apos : Pos} (h : PE X a (liftO W H0 E mo)) (hN : X.N[i]? = some x := by rfl) (hv : Vis X.env.scope x := by first | exact Or.inl rfl | exact Or.inr (Or.inl rfl) | exact Or.inr (Or.inr rfl)) (hd : (x == ("__debug__" : Str)) = false := by decide)
    (hcd : (x == ("__classdict__" : Str)) = false := by decide) (hw : swapsWith (.Call (.Attribute (.Name x p) "extend" apos) [a] [] cpos) none pos.line X.env = pure false := by rfl)
    (hbase : attributeBase (.Name x p) "extend" X.env (eval (.Name x p) X.env) = eval (.Name x p) X.env := by rfl)
    (hfew : ((backTo cpos (starEach [a] X.env)).all (fun x => !x.1) && (backToKw cpos (keywordEach [] X.env)).all (fun x => x.1.isSome)
      && decide ([a].length + ([] : List Keyword).length + (if ([] : List Keyword).isEmpty then 0 else 1) < 30)) = true := by rfl)
    (hline : (apos.endLine == cpos.line) = true := by rfl) (hs : starEach [a] X.env = (false, eval a X.env) :: starEach [] X.env := by rfl) :
    PS X (.Expr (.Call (.Attribute (.Name x p) "extend" apos) [a] [] cpos) pos) (liftS W H0 E (extM i mo)) := by
  refine PS.imp (ps_expr (pe_bm PySem.F.plainAttrs_list PySem.F.slot_list_extend PySem.F.type_list_extend mt_extend (pe_var hN hv hd hcd) (pa_cons h pa_nil hs) hbase hfew hline hs (by rfl)) hw) fun Dn σ H ⟨e, s, k0, _, g, q⟩ => ?_
  unfold extM at q
  split at q
  · rename_i xs hx
    obtain ⟨l, vs, e1, e2, e3, e4, e5⟩ := s.own i xs hx
    refine ⟨_, e1, .inl ⟨rfl, _, .inl (.inl e2)⟩, e, s, k0, _, g, (mo e).mono (fun ys _ z b ws H' nb k g' hb r hs2 => ?_) (fun _ _ z => z) q⟩
    obtain ⟨z1, z2⟩ := z
    have e2' := k l _ e2 e5
    have rl := e3.keep g k
    exact ⟨l, b, vs, ws, rfl, rfl, e2', hb, by rw [rl.len, r.len]; exact z1, z2 σ _ ((s.keep g k).upd hx e1 e2' e4 e5 rl (rl.app r)) (keep_own (k0.trans k) e4) ((k.toF g).trans (kf_own e2')) (g_own g' e5 e2')⟩
  · exact q.elim
end
end Dl

set_option maxRecDepth 100000
set_option maxHeartbeats 4100000
/-! sorted(set(x)), len(set(x)): x a list or a tuple of ints; tuple(range(n)) -/
namespace Dl
open L2 PySem PySem.Spec PyProof.Rows
section
variable {X : Cx} {W : Wd} {H0 : Hp} {E : XK} {pos p spos sp : Pos} {a : Expr} {ma : DE → M D}
def rSetTI (K : PySem.W.Frag) (w : World) : List V → Hp → VK → Prop := fun xs H Q => ∃ (l : Addr) (ns : List Int), xs = [V.ref l] ∧ SqT K H l (ns.map V.int) ∧ ns.length ≤ 1000 ∧ ∀ c n, H c = none → n ≤ ns.length → Q (.ref c) (upd H c (SetO w c (fun j => decide (j ∈ ns)) n))
def rSetMI (K : PySem.W.Frag) (w : World) : List V → Hp → VK → Prop := fun xs H Q => ∃ (l : Addr) (ns : List Int), xs = [V.ref l] ∧ SqL K H l (ns.map V.int) ∧ ns.length ≤ 1000 ∧ ∀ c n, H c = none → n ≤ ns.length → Q (.ref c) (upd H c (SetO w c (fun j => decide (j ∈ ns)) n))
theorem cr_setJI (hc : X.calm = true) : CallR X (.type "set") (fun xs H Q => rSetMI X.K X.w xs H Q ∨ rSetTI X.K X.w xs H Q) := by
  rintro pins s σ H args us Q I r (⟨l, ns, e, hl, few, q⟩ | ⟨l, ns, e, hl, few, q⟩)
  · subst e
    rw [Vals.ref1 r]
    obtain ⟨its, rv, pl, hz⟩ := I.list hl
    have free_ := I.hok.fresh (Nat.le_refl s.heap.objs.size)
    refine call_setLI (P := X.prog) (w := X.w) ns (I.ok.hd hc) pl.isList (intsAre_of rv) (by unfold scanBound; omega) fun s' made => ?_
    obtain ⟨h', tk, c, rfl, R, hc', k⟩ := made
    exact ⟨.ref s.heap.objs.size, L2.upd H s.heap.objs.size (SetO X.w s.heap.objs.size (fun j => decide (j ∈ ns)) c), I.laid (t' := tk) k (Nat.le_refl _) (setO_new R), rfl, q _ c free_ hc'⟩
  subst e
  rw [Vals.ref1 r]
  obtain ⟨its, rv, pt, hz⟩ := I.tuple hl
  have hi : IntsAre its.toArray.toList ns := ints_of_vals rv
  have free_ := I.hok.fresh (Nat.le_refl s.heap.objs.size)
  refine call_set_tupI (P := X.prog) (w := X.w) ns (I.ok.hd hc) (show s.heap.IsTuple l its.toArray from pt) hi (by unfold scanBound; omega) fun h' tk c R hcn k => ?_
  exact ⟨.ref s.heap.objs.size, L2.upd H s.heap.objs.size (SetO X.w s.heap.objs.size (fun j => decide (j ∈ ns)) c), I.laid (t' := tk) k (Nat.le_refl _) (setO_new R), rfl, q _ c free_ hcn⟩
/-- the ints of a list, of a tuple -/
def intsJ : D → Option (List Int)
  | .lst xs => intsD xs
  | .tup xs => intsD xs
  | _ => none
@[simp] theorem intsJ_lst (xs : List D) : intsJ (.lst xs) = intsD xs := rfl
@[simp] theorem intsJ_tup (xs : List D) : intsJ (.tup xs) = intsD xs := rfl
theorem rep1_intsJ {W : Wd} {H : Hp} {d : D} {v : V} {ns : List Int} (r : Rep1 W H d v) (h : intsJ d = some ns) : (∃ l, v = .ref l ∧ SqL W.K H l (ns.map V.int)) ∨ ∃ l, v = .ref l ∧ SqT W.K H l (ns.map V.int) := by
  cases d <;> first | (cases h; done) | skip
  · rename_i xs
    simp only [intsJ] at h
    simp only [Rep1, Rep] at r
    obtain ⟨l, vs, rfl, sq, rl⟩ := r
    rw [intsD_eq h] at rl
    rw [repL_ints rl] at sq
    exact .inr ⟨l, rfl, sq.sq⟩
  · rename_i xs
    simp only [intsJ] at h
    obtain ⟨l, vs, rfl, sq, rl⟩ := r.sq
    rw [intsD_eq h] at rl
    rw [repL_ints rl] at sq
    exact .inl ⟨l, rfl, sq⟩
@[simp] def ascSetJ (d : D) : M (List D) := match intsJ d with
  | some ns => do M.need (ns.length < 64); ascSet ns
  | none => M.fail
theorem do_sortedSetJ (hK : X.K = W.K) (hc : X.calm = true) (hm : X.mg "sorted" = none) (hm2 : X.mg "set" = none) (ha : PE X a (lift1 W H0 E ma)) (hg : Gl X "sorted" := by rfl) (hg2 : Gl X "set" := by rfl)
    (he2 : starEach [a] X.env = (false, eval a X.env) :: starEach [] X.env := by rfl) (he : starEach [.Call (.Name "set" sp) [a] [] spos] X.env = (false, eval (.Call (.Name "set" sp) [a] [] spos) X.env) :: starEach [] X.env := by rfl) :
    PE X (.Call (.Name "sorted" p) [.Call (.Name "set" sp) [a] [] spos] [] pos) (liftO W H0 E fun e => do let x ← ma e; ascSetJ x) :=
  PE.imp (pe_callB (cr_sortedSet hc) hg hm (by decide +kernel) (pa_cons (pe_callTy (cr_setJI hc) hg2 hm2 (by decide +kernel) (pa_cons ha pa_nil he2) (he := he2)) pa_nil he) (he := he)) fun σ H Q ⟨e, s0, k0, _, g, q⟩ => ⟨e, s0, k0, _, g, (ma e).mono (fun d _ z v H1 k1 g1 r1 => by
    simp only [ascSetJ] at z
    split at z
    · rename_i ns hns
      obtain ⟨few, z⟩ := z
      have key : ∀ c n, H1 c = none → n ≤ ns.length → rSortedSet X.w [.ref c] (L2.upd H1 c (SetO X.w c (fun j => decide (j ∈ ns)) n)) Q := fun c n hc' hn => by
        refine ⟨c, _, n, rfl, upd_same, by omega, fun ns' p hp hm hl' hp' => ?_⟩
        have k2 : Keep W H1 (L2.upd H1 c (SetO X.w c (fun j => decide (j ∈ ns)) n)) := Keep.new hc'
        have g2 := gnew (o := SetO X.w c (fun j => decide (j ∈ ns)) n) g1 hc'
        exact z ns' hp (fun k => (hm k).trans decide_eq_true_iff) (by omega) p _ _ (k1.freed (k2.freed hp' g1 g2) g g1) ((k1.trans k2).trans (Keep.new hp')) (gnew g2 hp') upd_same (ints_repL ns') (nS g2 hp')
      rcases rep1_intsJ r1 hns with ⟨l, rfl, sq⟩ | ⟨l, rfl, sq⟩
      · exact .inl ⟨l, ns, rfl, by rw [hK]; exact sq, by omega, key⟩
      · exact .inr ⟨l, ns, rfl, by rw [hK]; exact sq, by omega, key⟩
    · exact z.elim) (fun _ _ z => z) q⟩

/-! ### len(set(x)) -/
/-- each once -/
def dst : List Int → List Int
  | [] => []
  | x :: xs => if x ∈ xs then dst xs else x :: dst xs
theorem mem_dst {k : Int} : ∀ {xs : List Int}, k ∈ dst xs ↔ k ∈ xs
  | [] => Iff.rfl
  | x :: xs => by
    unfold dst
    split
    · rename_i h
      rw [mem_dst, List.mem_cons]
      exact ⟨.inr, fun z => z.elim (fun e => e ▸ h) id⟩
    · rw [List.mem_cons, List.mem_cons, mem_dst]
theorem nodup_dst : ∀ (xs : List Int), (dst xs).Nodup
  | [] => List.nodup_nil
  | x :: xs => by
    unfold dst
    split
    · exact nodup_dst xs
    · rename_i h
      exact List.nodup_cons.mpr ⟨fun z => h (mem_dst.mp z), nodup_dst xs⟩
theorem dst_len_le : ∀ (xs : List Int), (dst xs).length ≤ xs.length
  | [] => Nat.le_refl _
  | x :: xs => by
    have := dst_len_le xs
    unfold dst
    split <;> simp only [List.length_cons] <;> omega
theorem same_len {a b : List Int} (h1 : a.Nodup) (h2 : b.Nodup) (h : ∀ k, k ∈ a ↔ k ∈ b) : a.length = b.length := ((List.perm_ext_iff_of_nodup h1 h2).mpr h).length_eq
def rLenSet (w : World) : List V → Hp → VK → Prop := fun xs H Q => ∃ (a : Addr) (ns : List Int) (n : Nat), xs = [.ref a] ∧ H a = some (SetO w a (fun j => decide (j ∈ ns)) n) ∧ ns.length ≤ 1000 ∧ Q (.int (dst ns).length) H
theorem cr_lenSet : CallR X (.builtin "len") (rLenSet X.w) := by
  rintro pins s σ H args us Q I r ⟨a, ns, n, e, ha, few, q⟩
  subst e
  rw [Vals.ref1 r]
  obtain ⟨R, _, _⟩ := I.hok a _ ha
  obtain ⟨o, es, ep, t, ho, hex, hd, _, nd, hm, _, hf, hn, _⟩ := R
  have el : (dst ns).length = es.size := by
    rw [same_len (nodup_dst ns) nd fun k => mem_dst.trans (decide_eq_true_iff.symm.trans (hm k)), List.length_map, Array.length_toList]
  have := dst_len_le ns
  refine call_len_set ho hex hd hf (by omega) ⟨.int (dst ns).length, H, I.tok _, ⟨_, by rw [el]⟩, q⟩
@[simp] def lenSetJ (d : D) : M D := match intsJ d with
  | some ns => do M.need (ns.length ≤ 1000); pure (.int (dst ns).length)
  | none => M.fail
theorem dp_lenSetJ (hK : X.K = W.K) (hc : X.calm = true) (hm : X.mg "len" = none) (hm2 : X.mg "set" = none) (ha : PE X a (lift1 W H0 E ma)) (hg : Gl X "len" := by rfl) (hg2 : Gl X "set" := by rfl)
    (he2 : starEach [a] X.env = (false, eval a X.env) :: starEach [] X.env := by rfl) (he : starEach [.Call (.Name "set" sp) [a] [] spos] X.env = (false, eval (.Call (.Name "set" sp) [a] [] spos) X.env) :: starEach [] X.env := by rfl) :
    PE X (.Call (.Name "len" p) [.Call (.Name "set" sp) [a] [] spos] [] pos) (lift W H0 E fun e => do let x ← ma e; lenSetJ x) :=
  PE.imp (pe_callB cr_lenSet hg hm PySem.boot_len (pa_cons (pe_callTy (cr_setJI hc) hg2 hm2 (by decide +kernel) (pa_cons ha pa_nil he2) (he := he2)) pa_nil he) (he := he)) fun σ H Q ⟨e, s0, k0, _, g, q⟩ => ⟨e, s0, k0, _, g, (ma e).mono (fun d _ z v H1 k1 g1 r1 => by
    simp only [lenSetJ] at z
    split at z
    · rename_i ns hns
      obtain ⟨few, z⟩ := z
      have key : ∀ c n, H1 c = none → n ≤ ns.length → rLenSet X.w [.ref c] (L2.upd H1 c (SetO X.w c (fun j => decide (j ∈ ns)) n)) Q := fun c n hc' hn =>
        ⟨c, ns, n, rfl, upd_same, few, z _ _ (k1.trans (Keep.new hc')) (gnew g1 hc') (by simp only [Rep])⟩
      rcases rep1_intsJ r1 hns with ⟨l, rfl, sq⟩ | ⟨l, rfl, sq⟩
      · exact .inl ⟨l, ns, rfl, by rw [hK]; exact sq, by omega, key⟩
      · exact .inr ⟨l, ns, rfl, by rw [hK]; exact sq, by omega, key⟩
    · exact z.elim) (fun _ _ z => z) q⟩

/-! ### tuple(range(n)) -/
theorem pe_tupRgX {e : Expr} {te : L2.St → Hp → (Int → Int → Hp → Prop) → Prop} (hc : X.calm = true) (hg : Gl X "tuple") (hm : X.mg "tuple" = none) (he : PRg X e te) (na : starEach [e] X.env = (false, eval e X.env) :: starEach [] X.env := by rfl) :
    PE X (.Call (.Name "tuple" p) [e] [] pos) (fun σ H Q => te σ H fun a b H1 => RgOk a b ∧ Made H1 Q (rgV a b)) :=
  ⟨fun pins s σ H Q I h => Call_ (ld_blt I hg hm boot_tuple (callWith_type1 (args_cons (thn (he pins s σ H _ I h) fun x s1 ⟨r, a, b, t, u, v, H1, ex, hr, I1, ok, q⟩ => args_nil (by
    subst ex
    obtain ⟨b1, b2, b3, b4, b5⟩ := ok
    exact call_tuple_range (n := (b - a).toNat) (I1.ok.hd hc) hr (small_one b1 b2 b3 b4) (rangeSize_nat a b) b5 fun h' tk acc hk hi =>
      made (t' := 0) (I1.kept (h' := h') (t' := tk) hk) (vals_rg hi) (by rw [rgV_length, sizeLine_eq]; omega) q)) na) na))⟩
theorem dp_tupRg {rp rpos : Pos} (hc : X.calm = true) (hl : X.mg "tuple" = none) (hm : X.mg "range" = none) (ha : PE X a (lift1 W H0 E ma)) (hgl : Gl X "tuple" := by rfl) (hg : Gl X "range" := by rfl)
    (na : starEach [a] X.env = (false, eval a X.env) :: starEach [] X.env := by rfl) (nb : starEach [.Call (.Name "range" rp) [a] [] rpos] X.env = (false, eval (.Call (.Name "range" rp) [a] [] rpos) X.env) :: starEach [] X.env := by rfl) :
    PE X (.Call (.Name "tuple" p) [.Call (.Name "range" rp) [a] [] rpos] [] pos) (lift W H0 E fun e => do
      let x ← ma e
      match x with
      | .int n => do M.need (0 ≤ n ∧ n ≤ 16777216); pure (.tup (rangeD 0 n))
      | _ => M.fail) :=
  PE.imp (pe_tupRgX hc hgl hl (prg_1 hg hm ha na) nb) fun σ H Q ⟨e, s0, k0, _, g, q⟩ => ⟨e, s0, k0, _, g, (ma e).mono (fun d _ z v H1 k1 g1 r1 => by
    cases d <;> first | exact z.elim | skip
    rename_i n
    obtain ⟨⟨n0, n1⟩, z⟩ := z
    simp only [Rep1, Rep] at r1
    refine ⟨n, r1, RgOk.of_le (by omega) n1 (by omega) n0, fun q hq o ho => z _ _ (k1.trans (Keep.new hq)) (gnew g1 hq) ?_⟩
    simp only [Rep]
    exact ⟨q, _, rfl, ⟨o, upd_same, ho⟩, rgV_rep n⟩) (fun _ _ z => z) q⟩
end
end Dl

set_option maxRecDepth 100000
set_option maxHeartbeats 4100000
/-! Locked dicts of ints to anything: d[k], k in d, walked. -/
namespace Dl
open L2 PySem PySem.Spec PyProof.Rows
def getZ : List Int → List D → Int → Option D
  | k' :: ks, v :: vs, k => if k' = k then some v else getZ ks vs k
  | _, _, _ => none
theorem kvZ_get {K : PySem.W.Frag} {H : Hp} {k : Int} : ∀ {ks : List Int} {vs : List D} {ws : List V}, ws.length = ks.length → RepL K H vs ws → (∀ d, getZ ks vs k = some d → ∃ w, valV (kvZ ks ws) (Sum.inl k : L2.Key) = some w ∧ Rep K H d w) ∧ (getZ ks vs k = none → valV (kvZ ks ws) (Sum.inl k : L2.Key) = none)
  | [], vs, ws, hl, r => by
    have e : ws = [] := List.length_eq_zero_iff.mp hl
    subst e
    exact ⟨fun d h => (by cases vs <;> cases h), fun _ => rfl⟩
  | k' :: ks, [], ws, hl, r => by
    simp only [RepL] at r
    subst r
    cases hl
  | k' :: ks, v :: vs, ws, hl, r => by
    simp only [RepL] at r
    obtain ⟨w, ws', rfl, r1, r2⟩ := r
    have ih := kvZ_get (k := k) (ks := ks) (vs := vs) (ws := ws') (by simpa using hl) r2
    have e : kvZ (k' :: ks) (w :: ws') = ((Sum.inl k' : L2.Key), w) :: kvZ ks ws' := rfl
    rw [e]
    by_cases h : k' = k
    · subst h
      refine ⟨fun d hd => ?_, fun hd => ?_⟩
      · have hd : (if k' = k' then some v else getZ ks vs k') = some d := hd
        rw [if_pos rfl] at hd
        cases hd
        exact ⟨w, valV_pos rfl, r1⟩
      · have hd : (if k' = k' then some v else getZ ks vs k') = none := hd
        rw [if_pos rfl] at hd
        cases hd
    · have ne : ¬ (Sum.inl k' : L2.Key) = Sum.inl k := fun z => h (by injection z)
      refine ⟨fun d hd => ?_, fun hd => ?_⟩
      · have hd : (if k' = k then some v else getZ ks vs k) = some d := hd
        rw [if_neg h] at hd
        rw [valV_neg (p := ((Sum.inl k' : L2.Key), w)) ne]
        exact ih.1 d hd
      · have hd : (if k' = k then some v else getZ ks vs k) = none := hd
        rw [if_neg h] at hd
        rw [valV_neg (p := ((Sum.inl k' : L2.Key), w)) ne]
        exact ih.2 hd
section
variable {X : Cx} {W : Wd} {H0 : Hp} {E : XK} {pos p : Pos} {a b : Expr} {ma mb : DE → M D}
@[simp] def dixZ : D → D → M D
  | .dil ks vs, .int k => match getZ ks vs k with
    | some v => pure v
    | none => M.fail
  | _, _ => M.fail
theorem dp_dixZ (hK : X.K = W.K) (hu : X.A.units + 100 < cLine) (ha : PE X a (lift1 W H0 E ma)) (hb : PE X b (lift1 W H0 E mb)) (hs : NoSl b := by exact fun _ _ => rfl) : PE X (.Subscript a b pos) (lift W H0 E (bin dixZ ma mb)) :=
  PE.imp (pe_dget (by omega) ha hb hs) fun σ H Q h => two (r := rDix) (fun x y dx dy H Q γ g r1 r2 z => by
    unfold dixZ at z
    split at z
    · rename_i ks vs k
      split at z
      · rename_i d hv
        simp only [Rep1, Rep] at r1 r2
        obtain ⟨l, o, ws, ex, hl, len, rl⟩ := r1
        subst r2
        obtain ⟨w, hw, rw_⟩ := (kvZ_get len rl).1 d hv
        exact ⟨l, w, ex, .inl ⟨_, Sum.inl k, .inr ⟨o, hl⟩, rfl, hw.symm⟩, z w H (Keep.refl H) g rw_⟩
      · exact z.elim
    · exact z.elim) h
/-- k in d, k not in d -/
@[simp] def inZ (n : Bool) : D → D → M D
  | .int k, .dil ks vs => pure (.bl (if n then (getZ ks vs k).isSome else !(getZ ks vs k).isSome))
  | _, _ => M.fail
theorem inZ_get {K : PySem.W.Frag} {H : Hp} {ks : List Int} {vs : List D} {ws : List V} {k : Int} (len : ws.length = ks.length) (rl : RepL K H vs ws) : (valV (kvZ ks ws) (Sum.inl k : L2.Key)).isSome = (getZ ks vs k).isSome := by
  have h := kvZ_get (k := k) len rl
  cases e : getZ ks vs k with
  | none =>
    rw [h.2 e]
    rfl
  | some d =>
    obtain ⟨w, hw, _⟩ := h.1 d e
    rw [hw]
    rfl
theorem dp_inZ (hu : X.A.units + 100 < cLine) (ha : PE X a (lift1 W H0 E ma)) (hb : PE X b (lift1 W H0 E mb)) (hm : behindInMarks .In b = false := by rfl) : PE X (.Compare a [.In] [b] pos) (lift W H0 E (bin (inZ true) ma mb)) :=
  PE.imp (pe_cmp (pc_din (by omega) ha hb) hm) fun σ H Q h => two (r := fun y x H Q => ∃ l o, x = .ref l ∧ DGet H l y o ∧ Q (.bl o.isSome) H) (fun x y dx dy H Q γ g r1 r2 z => by
    unfold inZ at z
    split at z
    · rename_i k ks vs
      simp only [Rep1, Rep] at r1 r2
      obtain ⟨l, o, ws, ex, hl, len, rl⟩ := r2
      subst r1
      refine ⟨l, _, ex, .inl ⟨_, Sum.inl k, .inr ⟨o, hl⟩, rfl, rfl⟩, ?_⟩
      rw [inZ_get len rl]
      exact z _ H (Keep.refl H) g (by simp only [Rep]; rfl)
    · exact z.elim) h
/-- walked: the keys -/
@[simp] def keysZ : D → M (List D)
  | .dil ks _ => pure (ks.map .int)
  | _ => M.fail
theorem di_keysZ {tg : Expr} (ha : PE X a (lift1 W H0 E ma)) : PI X tg a (liftI W H0 E fun e => do let x ← ma e; keysZ x) :=
  PI.imp (pi_keys ha) fun σ H R ⟨e, st, k0, _, g, q⟩ => ⟨e, st, k0, _, g, (ma e).mono (fun d _ z v H1 k1 g1 r1 => by
    cases d <;> first | exact z.elim | skip
    rename_i ks vs
    have z : ∀ J H', Keep W H H' → W.G _ H' → Walk W (Keep W) (ks.map D.int) J H' → R J H' := z
    simp only [Rep1, Rep] at r1
    obtain ⟨l, o, ws, rfl, hl, len, rl⟩ := r1
    refine ⟨l, o, rfl, .inl ⟨_, hl, z _ H1 k1 g1 fun γ2 H2 k2 g2 => ?_⟩⟩
    have at2 := k2.rd g1 (.inr ⟨_, _, rfl⟩) hl
    have lz : (kvZ ks ws).length = ks.length := by
      unfold kvZ
      rw [List.length_zip, List.length_map, len, Nat.min_self]
    refine ⟨fun j hj => ⟨at2, by rw [lz]; rw [List.length_map] at hj; exact hj⟩, ⟨at2, by rw [lz, List.length_map]; exact Nat.le_refl _⟩, fun j x Hx hj ⟨eH, k, u, hk, ex⟩ => ?_⟩
    subst eH ex
    rw [List.length_map] at hj
    refine ⟨Keep.refl _, g2, .int ks[j], ?_, ?_⟩
    · rw [List.getElem?_map, List.getElem?_eq_getElem hj]
      rfl
    · unfold kvZ at hk
      obtain ⟨h1, _⟩ := List.getElem?_zip_eq_some.mp hk
      rw [List.getElem?_map, List.getElem?_eq_getElem hj] at h1
      cases h1
      simp only [Rep]
      rfl) (fun _ _ z => z) q⟩
end
end Dl

set_option maxRecDepth 100000
set_option maxHeartbeats 4100000
/-! g = {}; for tg in xs: g.setdefault(K, []).append(V); return g -/
namespace Dl
open L2 PySem PySem.Spec PyProof.Rows
/-- several objects locked -/
theorem lock_many {X : Cx} {pins : List (Addr × Obj)} {σ : L2.St} {s : Shared} : ∀ (l : List (Addr × HO)) {H : Hp}, L2.Inv X pins σ H s → (∀ q ∈ l, H q.1 = some q.2 ∧ Mut (some q.2)) → (l.map (·.1)).Nodup →
    ∃ H', L2.Inv X pins σ H' s ∧ (∀ q ∈ l, ∃ o, H' q.1 = some (.frz o q.2)) ∧ ∀ b, b ∉ l.map (·.1) → H' b = H b
  | [], H, I, _, _ => ⟨H, I, fun q hq => (nomatch hq), fun b _ => rfl⟩
  | (a, u) :: l, H, I, h, nd => by
    obtain ⟨n1, n2⟩ := List.nodup_cons.mp nd
    obtain ⟨ha, mu⟩ := h (a, u) List.mem_cons_self
    obtain ⟨o, I2⟩ := I.lock ha mu
    obtain ⟨H', I3, h1, h2⟩ := lock_many l I2 (fun q hq => by
      obtain ⟨e1, e2⟩ := h q (List.mem_cons_of_mem _ hq)
      refine ⟨?_, e2⟩
      rw [upd_ne (fun z => n1 ?_)]
      · exact e1
      · have m := List.mem_map_of_mem (f := fun p : Addr × HO => p.1) hq
        have z : q.1 = a := z
        show a ∈ _
        rw [← z]
        exact m) n2
    refine ⟨H', I3, fun q hq => ?_, fun b hb => ?_⟩
    · rcases List.mem_cons.mp hq with rfl | hq
      · exact ⟨o, by rw [h2 _ n1, upd_same]⟩
      · exact h1 q hq
    · rw [h2 b (fun z => hb (List.mem_cons_of_mem _ z)), upd_ne (fun z => hb (by
        have z : b = a := z
        rw [z]
        exact List.mem_cons_self))]
theorem PSs.lockAll {X : Cx} {ss : List Stmt} {t : TS} (h : PSs X ss t) : PSs X ss fun D σ H => ∃ l : List (Addr × HO), (∀ q ∈ l, H q.1 = some q.2 ∧ Mut (some q.2)) ∧ (l.map (·.1)).Nodup ∧ ∀ H', (∀ q ∈ l, ∃ o, H' q.1 = some (.frz o q.2)) → (∀ b, b ∉ l.map (·.1) → H' b = H b) → t D σ H' :=
  ⟨fun pins s σ H D I ⟨l, h1, h2, q⟩ => by
    obtain ⟨H', I2, e1, e2⟩ := lock_many l I h1 h2
    exact h.run pins s σ H' D I2 (q H' e1 e2)⟩
end Dl

set_option maxRecDepth 100000
set_option maxHeartbeats 4100000
/-! g = {}; for tg in xs: g.setdefault(K, []).append(V); return g -/
namespace Dl
open L2 PySem PySem.Spec PyProof.Rows
/-- v put to those with k, at the end where there is none -/
def addG (k : Int) (v : D) : List Int → List (List D) → List Int × List (List D)
  | k' :: ks, l :: ls => if k' = k then (k' :: ks, (l ++ [v]) :: ls) else (k' :: (addG k v ks ls).1, l :: (addG k v ks ls).2)
  | _, _ => ([k], [[v]])
theorem addG_hit {k : Int} {v : D} {w : V} : ∀ {ks : List Int} {ls : List (List D)} {ws : List V}, ws.length = ks.length → ls.length = ks.length → valV (kvZ ks ws) (Sum.inl k : L2.Key) = some w →
    ∃ j l, ws[j]? = some w ∧ ls[j]? = some l ∧ addG k v ks ls = (ks, ls.set j (l ++ [v]))
  | [], ls, ws, _, _, h => by cases h
  | k' :: ks, [], ws, _, h, _ => by cases h
  | k' :: ks, l :: ls, [], h, _, _ => by cases h
  | k' :: ks, l :: ls, w' :: ws, h1, h2, h => by
    have e : kvZ (k' :: ks) (w' :: ws) = ((Sum.inl k' : L2.Key), w') :: kvZ ks ws := rfl
    rw [e] at h
    by_cases c : k' = k
    · subst c
      rw [valV_pos rfl] at h
      cases h
      exact ⟨0, l, rfl, rfl, by simp [addG]⟩
    · have ne : ¬ (Sum.inl k' : L2.Key) = Sum.inl k := fun z => c (by injection z)
      rw [valV_neg (p := ((Sum.inl k' : L2.Key), w')) ne] at h
      obtain ⟨j, l2, a1, a2, a3⟩ := addG_hit (v := v) (ks := ks) (ls := ls) (ws := ws) (by simpa using h1) (by simpa using h2) h
      exact ⟨j + 1, l2, by simpa using a1, by simpa using a2, by simp [addG, c, a3]⟩
theorem addG_miss {k : Int} {v : D} : ∀ {ks : List Int} {ls : List (List D)} {ws : List V}, ws.length = ks.length → ls.length = ks.length → valV (kvZ ks ws) (Sum.inl k : L2.Key) = none → addG k v ks ls = (ks ++ [k], ls ++ [[v]])
  | [], ls, ws, _, h, _ => by
    have : ls = [] := List.length_eq_zero_iff.mp h
    subst this
    rfl
  | k' :: ks, [], ws, _, h, _ => by cases h
  | k' :: ks, l :: ls, [], h, _, _ => by cases h
  | k' :: ks, l :: ls, w' :: ws, h1, h2, h => by
    have e : kvZ (k' :: ks) (w' :: ws) = ((Sum.inl k' : L2.Key), w') :: kvZ ks ws := rfl
    rw [e] at h
    by_cases c : k' = k
    · subst c
      rw [valV_pos rfl] at h
      cases h
    · have ne : ¬ (Sum.inl k' : L2.Key) = Sum.inl k := fun z => c (by injection z)
      rw [valV_neg (p := ((Sum.inl k' : L2.Key), w')) ne] at h
      have ih := addG_miss (v := v) (ks := ks) (ls := ls) (ws := ws) (by simpa using h1) (by simpa using h2) h
      simp [addG, c, ih]
theorem kvZ_snoc {k : Int} {u : V} {ks : List Int} {ws : List V} (h : ws.length = ks.length) : kvZ ks ws ++ [((Sum.inl k : L2.Key), u)] = kvZ (ks ++ [k]) (ws ++ [u]) := by
  unfold kvZ
  rw [List.map_append, List.zip_append (by rw [List.length_map, h])]
  rfl
/-- the dict at p with its lists -/
structure Grp (W : Wd) (H0 H : Hp) (p : Addr) (ks : List Int) (ls : List (List D)) (as : List Addr) : Prop where
  dict : H p = some (.dK (kvZ ks (as.map .ref)))
  la : as.length = ks.length
  lv : ls.length = ks.length
  nd : (p :: as).Nodup
  at_ : ∀ (j : Nat) (a : Addr) (ds : List D), as[j]? = some a → ls[j]? = some ds → ∃ us, H a = some (.lst us) ∧ RepL W.K H ds us
  new : ∀ a ∈ p :: as, H0 a = none ∧ ¬ W.S a
section
variable {W : Wd} {H0 H H' : Hp} {p : Addr} {ks : List Int} {ls : List (List D)} {as : List Addr} {γ : Gh}
theorem Grp.keep (G : Grp W H0 H p ks ls as) (g : W.G γ H) (k : Keep W H H') : Grp W H0 H' p ks ls as :=
  ⟨k p _ G.dict (G.new p List.mem_cons_self).2, G.la, G.lv, G.nd, fun j a ds h1 h2 => by
    obtain ⟨us, e1, e2⟩ := G.at_ j a ds h1 h2
    exact ⟨us, k a _ e1 (G.new a (List.mem_cons_of_mem _ (List.mem_of_getElem? h1))).2, e2.keep g k⟩, G.new⟩
/-- a list of the dict's own grows -/
theorem Grp.app (G : Grp W H0 H p ks ls as) {j : Nat} {a : Addr} {l : List D} {us : List V} {d : D} {v : V} (ha : as[j]? = some a) (hl : ls[j]? = some l) (hu : H a = some (.lst us)) (r : Rep W.K H d v) :
    Grp W H0 (upd H a (.lst (us ++ [v]))) p ks (ls.set j (l ++ [d])) as := by
  have kf : KeepF H (upd H a (.lst (us ++ [v]))) := kf_own hu
  obtain ⟨us', e1, rl⟩ := G.at_ j a l ha hl
  rw [hu] at e1
  cases e1
  have nd := List.nodup_cons.mp G.nd
  refine ⟨by rw [upd_ne (fun z => nd.1 (by rw [z]; exact List.mem_of_getElem? ha))]; exact G.dict, G.la, by rw [List.length_set]; exact G.lv, G.nd, fun i b ds h1 h2 => ?_, G.new⟩
  by_cases hij : j = i
  · subst hij
    have hjl : j < ls.length := (List.getElem?_eq_some_iff.mp hl).1
    rw [ha] at h1
    cases h1
    rw [List.getElem?_set_self hjl] at h2
    cases h2
    exact ⟨us ++ [v], upd_same, (RepL.keepF kf _ _ rl).app (by simp only [RepL]; exact ⟨v, [], rfl, Rep.keepF kf _ _ r, rfl⟩)⟩
  · rw [List.getElem?_set_ne hij] at h2
    obtain ⟨ws, e1, e2⟩ := G.at_ i b ds h1 h2
    refine ⟨ws, ?_, RepL.keepF kf _ _ e2⟩
    rw [upd_ne (fun z => hij ?_)]
    · exact e1
    · have hj := List.getElem?_eq_some_iff.mp ha
      have hi := List.getElem?_eq_some_iff.mp h1
      exact (List.getElem_inj (xs := as) (h₀ := hj.1) (h₁ := hi.1) nd.2).mp (by rw [hj.2, hi.2, z])
/-- a new list at its end -/
theorem Grp.snoc (G : Grp W H0 H p ks ls as) {k : Int} {q : Addr} (hn : H q = some (.lst [])) (hq : ∀ a ∈ p :: as, a ≠ q) (h0 : H0 q = none) (hs : ¬ W.S q) :
    Grp W H0 (upd H p (.dK (kvZ (ks ++ [k]) ((as ++ [q]).map .ref)))) p (ks ++ [k]) (ls ++ [[]]) (as ++ [q]) := by
  have kf : KeepF H (upd H p (.dK (kvZ (ks ++ [k]) ((as ++ [q]).map .ref)))) := kf_mut G.dict ⟨fun _ z => (nomatch z), fun _ _ z => (nomatch z)⟩
  have nd := List.nodup_cons.mp G.nd
  have nd2 : (p :: (as ++ [q])).Nodup := by
    rw [List.nodup_cons]
    refine ⟨fun z => ?_, ?_⟩
    · rcases List.mem_append.mp z with z | z
      · exact nd.1 z
      · exact hq p List.mem_cons_self (List.mem_singleton.mp z)
    · rw [List.nodup_append]
      refine ⟨nd.2, by simp, fun a ha b hb => ?_⟩
      rw [List.mem_singleton.mp hb]
      exact hq a (List.mem_cons_of_mem _ ha)
  refine ⟨upd_same, by rw [List.length_append, List.length_append, G.la]; rfl, by rw [List.length_append, List.length_append, G.lv]; rfl, nd2, fun j a ds h1 h2 => ?_, fun a ha => ?_⟩
  · by_cases hj : j < as.length
    · rw [List.getElem?_append_left hj] at h1
      rw [List.getElem?_append_left (by rw [G.lv, ← G.la]; exact hj)] at h2
      obtain ⟨us, e1, e2⟩ := G.at_ j a ds h1 h2
      exact ⟨us, by rw [upd_ne (fun z => nd.1 (by rw [← z]; exact List.mem_of_getElem? h1))]; exact e1, RepL.keepF kf _ _ e2⟩
    · rw [List.getElem?_append_right (by omega)] at h1
      rw [List.getElem?_append_right (by rw [G.lv, ← G.la]; omega)] at h2
      have h1' := List.mem_singleton.mp (List.mem_of_getElem? h1)
      have h2' := List.mem_singleton.mp (List.mem_of_getElem? h2)
      subst h1' h2'
      exact ⟨[], by rw [upd_ne (fun z => hq p List.mem_cons_self z.symm)]; exact hn, by simp only [RepL]⟩
  · rcases List.mem_cons.mp ha with rfl | ha
    · exact G.new _ List.mem_cons_self
    · rcases List.mem_append.mp ha with ha | ha
      · exact G.new a (List.mem_cons_of_mem _ ha)
      · rw [List.mem_singleton.mp ha]
        exact ⟨h0, hs⟩
end
theorem StOk.hide {W : Wd} {H0 H : Hp} {σ : L2.St} {e : DE} {v : Nat} {x : Option V} (st : StOk W H0 H σ e) : StOk W H0 H (σ.set v x) (e.set v none) := by
  have nh : ∀ {j : Nat} {x : SD}, (e.set v none)[j]? = some (some x) → v ≠ j ∧ e[j]? = some (some x) := fun {j x} q => by
    by_cases h : v = j
    · subst h
      by_cases hi : v < e.length
      · rw [List.getElem?_set_self hi] at q; cases q
      · rw [List.getElem?_eq_none (by rw [List.length_set]; omega)] at q; cases q
    · rw [List.getElem?_set_ne h] at q
      exact ⟨h, q⟩
  refine ⟨by rw [List.length_set, List.length_set]; exact st.len, fun i d q => ?_, fun i xs q => ?_, fun i j xs ys a q1 q2 q3 q4 => ?_⟩
  · obtain ⟨h, q⟩ := nh q
    rw [List.getElem?_set_ne h]
    exact st.sh i d q
  · obtain ⟨h, q⟩ := nh q
    rw [List.getElem?_set_ne h]
    exact st.owo i xs q
  · obtain ⟨h1, q1⟩ := nh q1
    obtain ⟨h2, q2⟩ := nh q2
    rw [List.getElem?_set_ne h1] at q3
    rw [List.getElem?_set_ne h2] at q4
    exact st.diso i j xs ys a q1 q2 q3 q4
/-- no object of one's own -/
def AllSh (e : DE) : Prop := ∀ (i : Nat) (o : OD), e[i]? ≠ some (some (SD.ow o))
theorem StOk.far {W : Wd} {H0 H H' : Hp} {σ : L2.St} {e : DE} (st : StOk W H0 H σ e) (a : AllSh e) (k : KeepF H H') : StOk W H0 H' σ e := ⟨st.len, fun i d q => by
  obtain ⟨v, h1, h2⟩ := st.sh i d q
  exact ⟨v, h1, Rep.keepF k _ _ h2⟩, fun i o q => (a i o q).elim, fun i j o o' b q => (a i o q).elim⟩
/-- the loop, of data -/
def groupM (ti : Nat) (fk fv : DE → M D) : List D → DE → List Int → List (List D) → M (List Int × List (List D))
  | [], _, ks, ls => pure (ks, ls)
  | x :: xs, e, ks, ls => do
    let k ← fk (setS ti x e)
    match k with
    | .int k => do
      M.need (ks.length < sizeLine ∧ ∀ l ∈ ls, l.length < sizeLine)
      let v ← fv (setS ti x e)
      groupM ti fk fv xs (setS ti x e) (addG k v ks ls).1 (addG k v ks ls).2
    | _ => M.fail
theorem allSh_set {e : DE} {i : Nat} {d : D} (h : AllSh e) : AllSh (setS i d e) := fun j o q => by
  unfold setS at q
  by_cases c : i = j
  · subst c
    by_cases hi : i < e.length
    · rw [List.getElem?_set_self hi] at q; cases q
    · rw [List.getElem?_eq_none (by rw [List.length_set]; omega)] at q; cases q
  · rw [List.getElem?_set_ne c] at q
    exact h j o q
theorem allSh_shE (e : DE) : AllSh (shE e) := fun i o q => (shE_at q).2 o rfl
theorem allSh_none {e : DE} {i : Nat} (h : AllSh e) : AllSh (e.set i none) := fun j o q => by
  by_cases c : i = j
  · subst c
    by_cases hi : i < e.length
    · rw [List.getElem?_set_self hi] at q; cases q
    · rw [List.getElem?_eq_none (by rw [List.length_set]; omega)] at q; cases q
  · rw [List.getElem?_set_ne c] at q
    exact h j o q
theorem repL_of_get {K : PySem.W.Frag} {H : Hp} : ∀ {xs : List D} {vs : List V}, vs.length = xs.length → (∀ (j : Nat) d v, xs[j]? = some d → vs[j]? = some v → Rep K H d v) → RepL K H xs vs
  | [], vs, h, _ => by
    simp only [RepL]
    exact List.length_eq_zero_iff.mp h
  | x :: xs, [], h, _ => by cases h
  | x :: xs, v :: vs, h, q => by
    simp only [RepL]
    exact ⟨v, vs, rfl, q 0 x v rfl rfl, repL_of_get (by simpa using h) fun j d v h1 h2 => q (j + 1) d v (by simpa using h1) (by simpa using h2)⟩
section
variable {X : Cx} {W : Wd} {H0 : Hp} {E : XK} {pos p0 p1 p2 p3 dpos apos apos2 cpos cpos2 spos lpos epos rpos : Pos} {ke ve iter : Expr} {fk fv : DE → M D} {mi : DE → M (List D)}
theorem ds_group (gi ti : Nat) {x t : Str} (hN : X.N.Nodup) (hc : X.calm = true) (hp : PassesOwn (model X.prog X.w) X.A X.env X.xe) (hgi : X.N[gi]? = some x) (hti : X.N[ti]? = some t) (hne : gi ≠ ti)
    (hi : PI X (.Name t p1) iter (liftF W H0 E mi)) (hk : PE X ke (lift W H0 E fk)) (hv : PE X ve (lift W H0 E fv))
    (hgl : Loc X.env.scope x := by first | exact Or.inl rfl | exact Or.inr rfl) (htl : Loc X.env.scope t := by first | exact Or.inl rfl | exact Or.inr rfl)
    (hgv : Vis X.env.scope x := by first | exact Or.inl rfl | exact Or.inr (Or.inl rfl) | exact Or.inr (Or.inr rfl)) (hd : (x == ("__debug__" : Str)) = false := by decide) (hcd : (x == ("__classdict__" : Str)) = false := by decide)
    (hw : swapsWith (.Dict [] [] dpos) (some (.Name x p0)) pos.line X.env = pure false := by rfl) (hf : X.fn x = true ∨ X.env.scope.names.lookup x = some NameKind.local := by first | exact Or.inr rfl | exact Or.inl rfl) (hft : X.fn t = true ∨ X.env.scope.names.lookup t = some NameKind.local := by first | exact Or.inr rfl | exact Or.inl rfl)
    (hs : ∀ y, foldedSetIterable iter X.env y = pure y := by intro _; rfl)
    (m : M2 X (.Name x p2) "setdefault" apos ke (.List [] lpos) cpos := by exact ⟨rfl, rfl, rfl, rfl⟩)
    (hbase : attributeBase (.Call (.Attribute (.Name x p2) "setdefault" apos) [ke, .List [] lpos] [] cpos) "append" X.env (eval (.Call (.Attribute (.Name x p2) "setdefault" apos) [ke, .List [] lpos] [] cpos) X.env) = eval (.Call (.Attribute (.Name x p2) "setdefault" apos) [ke, .List [] lpos] [] cpos) X.env := by rfl)
    (hfew : ((backTo cpos2 (starEach [ve] X.env)).all (fun x => !x.1) && (backToKw cpos2 (keywordEach [] X.env)).all (fun x => x.1.isSome)
      && decide ([ve].length + ([] : List Keyword).length + (if ([] : List Keyword).isEmpty then 0 else 1) < 30)) = true := by rfl)
    (hline : (apos2.endLine == cpos2.line) = true := by rfl) (hst : starEach [ve] X.env = (false, eval ve X.env) :: starEach [] X.env := by rfl)
    (hsw : swapsWith (.Call (.Attribute (.Call (.Attribute (.Name x p2) "setdefault" apos) [ke, .List [] lpos] [] cpos) "append" apos2) [ve] [] cpos2) none epos.line X.env = pure false := by rfl) :
    PSs X [.Assign [.Name x p0] (.Dict [] [] dpos) pos, .For (.Name t p1) iter [.Expr (.Call (.Attribute (.Call (.Attribute (.Name x p2) "setdefault" apos) [ke, .List [] lpos] [] cpos) "append" apos2) [ve] [] cpos2) epos] [] spos, .Return (some (.Name x p3)) rpos]
      (liftS W H0 E fun e => do
        M.need (gi < e.length)
        let xs ← mi ((shE e).set gi none)
        let r ← groupM ti fk fv xs ((shE e).set gi none) [] []
        pure (.rt (.dil r.1 (r.2.map .lst)))) := by
  have hgx : X.N[gi]? = some x := hgi
  refine PSs.imp (pss_cons (ps_set hN hgi hgl pe_dnewK hw hf) (pss_cons (ps_for hp hc hi (pg_name hN hti htl hft) (pss_one (ps_expr (pe_bm PySem.F.plainAttrs_list PySem.F.slot_list_append PySem.F.type_list_append mt_append (pe_dsetd (pe_var hgi hgv hd hcd) hk (pe_lst pa_nil) m) (pa_cons hv pa_nil hst) hbase hfew hline hst (by rfl)) hsw)) hs)
    (PSs.lockAll (pss_one (ps_ret (pe_var hgi hgv hd hcd)))))) fun Dn σ H ⟨e, st, k0, γ, g, q⟩ => ?_
  intro p hp0
  have kn : Keep W H (upd H p (.dK [])) := Keep.new hp0
  have gn : W.G γ (upd H p (.dK [])) := gnew g hp0
  have st1 : StOk W H0 (upd H p (.dK [])) (σ.set gi (some (.ref p))) ((shE e).set gi none) := ((st.shE (kn.toF g)).hide)
  have e1 : AllSh ((shE e).set gi none) := allSh_none (allSh_shE e)
  obtain ⟨hge, q⟩ := q
  have hlen : gi < σ.length := by rw [← st.len]; exact hge
  have nSp : ¬ W.S p := nS g hp0
  have h0p : H0 p = none := h0_none k0 hp0 nSp
  refine ⟨_, st1, k0.trans kn, γ, gn, (mi ((shE e).set gi none)).mono (fun xs γ1 z J H1 k1 g1 wk => ?_) (fun _ _ z => z) q⟩
  have z : (groupM ti fk fv xs ((shE e).set gi none) [] []).run γ1 (fun r γ' => RQ W H0 H Dn (.rt (.dil r.1 (r.2.map .lst))) γ') (XD W H0 E) := z
  have G1 : Grp W H0 H1 p [] [] [] := ⟨k1 p _ upd_same nSp, rfl, rfl, by simp, fun j a ds h => by simp at h, fun a ha => by rw [List.mem_singleton.mp ha]; exact ⟨h0p, nSp⟩⟩
  refine ⟨fun i m σ' H' => m = xs.length - i ∧ i ≤ xs.length ∧ ∃ e' ks ls as γ', AllSh e' ∧ StOk W H0 H' σ' e' ∧ σ'[gi]? = some (some (.ref p)) ∧ Keep W H0 H' ∧ KeepF H1 H' ∧ W.G γ' H' ∧ Grp W H0 H' p ks ls as ∧
      (groupM ti fk fv (xs.drop i) e' ks ls).run γ' (fun r γ' => RQ W H0 H Dn (.rt (.dil r.1 (r.2.map .lst))) γ') (XD W H0 E),
    ⟨xs.length, by simp, Nat.zero_le _, _, [], [], [], γ1, e1, st1.keep gn k1, by rw [List.getElem?_set_self hlen], (k0.trans kn).trans k1, KeepF.refl _, g1, G1, by rw [List.drop_zero]; exact z⟩, ?_⟩
  rintro i m σ' H' ⟨rfl, hi, e', ks, ls, as, γ', sh', st', sg, k0', kf', g', G, z⟩
  obtain ⟨w1, w2, w3⟩ := wk γ' H' kf' g'
  by_cases hlt : i < xs.length
  case neg =>
    have ei : i = xs.length := by omega
    subst ei
    refine .inl ⟨w2, ?_⟩
    rw [List.drop_of_length_le (Nat.le_refl _)] at z
    have z : ∀ v H'', Keep W H0 H'' → W.G γ' H'' → Rep W.K H'' (.dil ks (ls.map .lst)) v → Dn.rt v H'' := z
    have lists : ∀ a ∈ as, ∃ us, H' a = some (.lst us) := fun a ha => by
      obtain ⟨j, hj, e⟩ := List.getElem_of_mem ha
      obtain ⟨us, h1, _⟩ := G.at_ j a (ls[j]'(by rw [G.lv, ← G.la]; exact hj)) (by rw [List.getElem?_eq_getElem hj, e]) (List.getElem?_eq_getElem _)
      exact ⟨us, h1⟩
    refine ⟨(p, .dK (kvZ ks (as.map .ref))) :: as.map (fun a => (a, (H' a).getD (.tup []))), fun q hq => ?_, ?_, fun H2 hl ho => ?_⟩
    · rcases List.mem_cons.mp hq with rfl | hq
      · exact ⟨G.dict, True.intro⟩
      · obtain ⟨a, ha, rfl⟩ := List.mem_map.mp hq
        obtain ⟨us, h1⟩ := lists a ha
        simp only [h1, Option.getD_some]
        exact ⟨trivial, True.intro⟩
    · have e2 : ((p, HO.dK (kvZ ks (as.map .ref))) :: as.map (fun a => (a, (H' a).getD (.tup [])))).map (·.1) = p :: as := by simp [Function.comp_def]
      rw [e2]
      exact G.nd
    · have e2 : ((p, HO.dK (kvZ ks (as.map .ref))) :: as.map (fun a => (a, (H' a).getD (.tup [])))).map (·.1) = p :: as := by simp [Function.comp_def]
      rw [e2] at ho
      have kf2 : KeepF H' H2 := fun b o hb n => by
        rw [ho b fun hm => ?_]
        · exact hb
        · rcases List.mem_cons.mp hm with rfl | hm
          · rw [G.dict] at hb
            cases hb
            rcases n with ⟨_, n⟩ | ⟨_, _, n⟩ <;> cases n
          · obtain ⟨us, h1⟩ := lists b hm
            rw [h1] at hb
            cases hb
            rcases n with ⟨_, n⟩ | ⟨_, _, n⟩ <;> cases n
      refine ⟨.ref p, sg, z _ H2 (fun b o hb hs => ?_) (W.gK _ H' _ g' fun b o hs hb => ?_) ?_⟩
      · rw [ho b fun hm => ?_]
        · exact k0' b o hb hs
        · have := (G.new b hm).1
          rw [this] at hb
          cases hb
      · rw [ho b fun hm => ?_]
        · exact hb
        · rcases hs with hs | hs
          · exact (G.new b hm).2 hs
          · rcases List.mem_cons.mp hm with rfl | hm
            · rw [G.dict] at hb
              cases hb
              exact fx_dK hs
            · obtain ⟨us, h1⟩ := lists b hm
              rw [h1] at hb
              cases hb
              exact fx_lst hs
      · simp only [Rep]
        obtain ⟨o, ho2⟩ := hl (p, .dK (kvZ ks (as.map .ref))) List.mem_cons_self
        refine ⟨p, o, as.map .ref, rfl, ho2, by rw [List.length_map]; exact G.la, repL_of_get (by rw [List.length_map, List.length_map, G.la, G.lv]) fun j d v h1 h2 => ?_⟩
        rw [List.getElem?_map, Option.map_eq_some_iff] at h1 h2
        obtain ⟨ds, h1, rfl⟩ := h1
        obtain ⟨a, h2, rfl⟩ := h2
        obtain ⟨us, h3, h4⟩ := G.at_ j a ds h2 h1
        obtain ⟨o2, h5⟩ := hl (a, (H' a).getD (.tup [])) (List.mem_cons_of_mem _ (List.mem_map_of_mem (f := fun a => (a, (H' a).getD (.tup []))) (List.mem_of_getElem? h2)))
        rw [h3] at h5
        simp only [Rep]
        exact ⟨a, us, rfl, ⟨o2, h5⟩, RepL.keepF kf2 _ _ h4⟩
  refine .inr ⟨w1 i hlt, fun σ'' H'' => ∃ e' ks ls as γ', AllSh e' ∧ StOk W H0 H'' σ'' e' ∧ σ''[gi]? = some (some (.ref p)) ∧ Keep W H0 H'' ∧ KeepF H1 H'' ∧ W.G γ' H'' ∧ Grp W H0 H'' p ks ls as ∧
      (groupM ti fk fv (xs.drop (i + 1)) e' ks ls).run γ' (fun r γ' => RQ W H0 H Dn (.rt (.dil r.1 (r.2.map .lst))) γ') (XD W H0 E), fun σ'' H'' h => ⟨xs.length - (i + 1), by omega, rfl, hlt, h⟩, fun x Hx y => ?_⟩
  obtain ⟨k4, g4, d, hd4, rd⟩ := w3 i x Hx hlt y
  rw [drop_cons hd4] at z
  have G4 := G.keep g' k4
  have st2 : StOk W H0 Hx (σ'.set ti (some x)) (setS ti d e') := (st'.keep g' k4).set rd
  have sh2 : AllSh (setS ti d e') := allSh_set sh'
  have sg2 : (σ'.set ti (some x))[gi]? = some (some (.ref p)) := by rw [List.getElem?_set_ne (Ne.symm hne)]; exact sg
  have z : (fk (setS ti d e')).run γ' (fun k γ2 => (match k with
    | .int k => (do
      M.need (ks.length < sizeLine ∧ ∀ l ∈ ls, l.length < sizeLine)
      let v ← fv (setS ti d e')
      groupM ti fk fv (xs.drop (i + 1)) (setS ti d e') (addG k v ks ls).1 (addG k v ks ls).2 : M (List Int × List (List D)))
    | _ => M.fail).run γ2 (fun r γ' => RQ W H0 H Dn (.rt (.dil r.1 (r.2.map .lst))) γ') (XD W H0 E)) (XD W H0 E) := z
  have k0x : Keep W H0 Hx := k0'.trans k4
  refine ⟨.ref p, sg2, p, rfl, .inl ⟨_, .inl G4.dict⟩, _, st2, k0x, γ', g4, (fk (setS ti d e')).mono (fun kd γ5 z5 v5 H5 k5 g5 r5 => ?_) (fun _ _ z => z) z⟩
  cases kd <;> first | exact z5.elim | skip
  rename_i k
  simp only [Rep] at r5
  obtain ⟨⟨fewK, fewL⟩, z5⟩ := z5
  have z5 : (fv (setS ti d e')).run γ5 (fun v γ2 => (groupM ti fk fv (xs.drop (i + 1)) (setS ti d e') (addG k v ks ls).1 (addG k v ks ls).2).run γ2 (fun r γ' => RQ W H0 H Dn (.rt (.dil r.1 (r.2.map .lst))) γ') (XD W H0 E)) (XD W H0 E) := z5
  refine ⟨by decide, fun l hl => ?_⟩
  have G5 := (G4.keep g4 k5).keep g5 (Keep.new (o := .lst []) hl)
  have g6 : W.G γ5 (upd H5 l (.lst [])) := gnew g5 hl
  have st6 : StOk W H0 (upd H5 l (.lst [])) (σ'.set ti (some x)) (setS ti d e') := (st2.keep g4 k5).keep g5 (Keep.new hl)
  have k06 : Keep W H0 (upd H5 l (.lst [])) := (k0x.trans k5).trans (Keep.new hl)
  have kf6 : KeepF H1 (upd H5 l (.lst [])) := ((kf'.trans (k4.toF g')).trans (k5.toF g4)).trans ((Keep.new (W := W) hl).toF g5)
  have nSl : ¬ W.S l := nS g5 hl
  have h0l : H0 l = none := h0_none (k0x.trans k5) hl nSl
  have lz : (kvZ ks (as.map V.ref)).length = ks.length := by unfold kvZ; rw [List.length_zip, List.length_map, List.length_map, G5.la, Nat.min_self]
  refine ⟨_, Sum.inl k, G5.dict, r5, by rw [lz]; exact fewK, fun w hw => ?_, fun hn => ?_⟩
  · obtain ⟨j, lj, a1, a2, _⟩ := addG_hit (v := .non) (by rw [List.length_map]; exact G5.la) G5.lv hw
    rw [List.getElem?_map, Option.map_eq_some_iff] at a1
    obtain ⟨a, a1, rfl⟩ := a1
    obtain ⟨us, b1, b2⟩ := G5.at_ j a lj a1 a2
    refine ⟨.inl ⟨rfl, _, .inl (.inl b1)⟩, _, st6, k06, γ5, g6, (fv (setS ti d e')).mono (fun dv γ7 z7 vv H7 k7 g7 r7 => ?_) (fun _ _ z => z) z5⟩
    have nw := G5.new a (List.mem_cons_of_mem _ (List.mem_of_getElem? a1))
    have b7 := k7 a _ b1 nw.2
    have G7 := G5.keep g6 k7
    obtain ⟨j', l', c1, c2, c3⟩ := addG_hit (v := dv) (by rw [List.length_map]; exact G5.la) G5.lv hw
    have ej : j' = j := by
      rw [List.getElem?_map, Option.map_eq_some_iff] at c1
      obtain ⟨a', c1, e⟩ := c1
      cases e
      have nd := (List.nodup_cons.mp G5.nd).2
      have hj := List.getElem?_eq_some_iff.mp a1
      have hj' := List.getElem?_eq_some_iff.mp c1
      exact (List.getElem_inj (xs := as) (h₀ := hj'.1) (h₁ := hj.1) nd).mp (by rw [hj.2, hj'.2])
    subst ej
    rw [a2] at c2
    cases c2
    have lus : us.length < sizeLine := by rw [b2.len]; exact fewL _ (List.mem_of_getElem? a2)
    rw [c3] at z7
    have kf7 : KeepF H7 (upd H7 a (.lst (us ++ [vv]))) := kf_own b7
    refine ⟨a, us, vv, rfl, rfl, b7, lus, setS ti d e', ks, ls.set j' (lj ++ [dv]), as, γ7, sh2, ((st6.keep g6 k7).far sh2 kf7), sg2, keep_lock (k06.trans k7) nw.1, (kf6.trans (k7.toF g6)).trans kf7, g_own g7 nw.2 b7, G7.app a1 a2 b7 r7, z7⟩
  · have hpl : ∀ a ∈ p :: as, a ≠ l := fun a ha e => by
      subst e
      have : (upd H5 a (.lst [])) a = some (.lst []) := upd_same
      rcases List.mem_cons.mp ha with rfl | ha
      · rw [G5.dict] at this
        cases this
      · have G45 := G4.keep g4 k5
        obtain ⟨j, hj, e⟩ := List.getElem_of_mem ha
        obtain ⟨us, h1, _⟩ := G45.at_ j a (ls[j]'(by rw [G45.lv, ← G45.la]; exact hj)) (by rw [List.getElem?_eq_getElem hj, e]) (List.getElem?_eq_getElem _)
        rw [hl] at h1
        cases h1
    have ep : putK (kvZ ks (as.map V.ref)) (Sum.inl k : L2.Key) (V.ref l) = kvZ (ks ++ [k]) ((as ++ [l]).map .ref) := by
      rw [putK_new _ hn, kvZ_snoc (by rw [List.length_map]; exact G5.la), List.map_append]
      rfl
    rw [ep]
    have G6 := G5.snoc (k := k) upd_same hpl h0l nSl
    have kfd : KeepF (upd H5 l (.lst [])) (upd (upd H5 l (.lst [])) p (.dK (kvZ (ks ++ [k]) ((as ++ [l]).map .ref)))) := kf_mut G5.dict ⟨fun _ z => (nomatch z), fun _ _ z => (nomatch z)⟩
    have gd : W.G γ5 (upd (upd H5 l (.lst [])) p (.dK (kvZ (ks ++ [k]) ((as ++ [l]).map .ref)))) := g_ownM g6 nSp G5.dict fx_dK
    have atl : (upd (upd H5 l (.lst [])) p (.dK (kvZ (ks ++ [k]) ((as ++ [l]).map .ref)))) l = some (.lst []) := by
      rw [upd_ne (Ne.symm (hpl p List.mem_cons_self)), upd_same]
    have k06d := keep_lock (o := .dK (kvZ (ks ++ [k]) ((as ++ [l]).map .ref))) k06 h0p
    have st6d := st6.far sh2 kfd
    refine ⟨.inl ⟨rfl, _, .inl (.inl atl)⟩, _, st6d, k06d, γ5, gd, (fv (setS ti d e')).mono (fun dv γ7 z7 vv H7 k7 g7 r7 => ?_) (fun _ _ z => z) z5⟩
    have b7 := k7 l _ atl nSl
    have G7 := G6.keep gd k7
    have lsl : (as ++ [l])[as.length]? = some l := by rw [List.getElem?_append_right (Nat.le_refl _), Nat.sub_self]; rfl
    have lsl2 : (ls ++ [[]])[as.length]? = some [] := by rw [show as.length = ls.length by rw [G5.la, G5.lv], List.getElem?_append_right (Nat.le_refl _), Nat.sub_self]; rfl
    rw [addG_miss (v := dv) (by rw [List.length_map]; exact G5.la) G5.lv hn] at z7
    have e8 : (ls ++ [[]]).set as.length ([] ++ [dv]) = ls ++ [[dv]] := by
      rw [show as.length = ls.length by rw [G5.la, G5.lv], List.set_append_right _ _ (Nat.le_refl _), Nat.sub_self]
      rfl
    have kf7 : KeepF H7 (upd H7 l (.lst ([] ++ [vv]))) := kf_own b7
    have G8 := G7.app lsl lsl2 b7 r7
    rw [e8] at G8
    refine ⟨l, [], vv, rfl, rfl, b7, by decide, setS ti d e', ks ++ [k], ls ++ [[dv]], as ++ [l], γ7, sh2, ((st6d.keep gd k7).far sh2 kf7), sg2, keep_lock (k06d.trans k7) h0l, ((kf6.trans kfd).trans (k7.toF gd)).trans kf7, g_own g7 nSl b7, G8, z7⟩
end
end Dl

set_option maxRecDepth 100000
set_option maxHeartbeats 4100000
/-! any of a generator expression of two clauses -/
namespace Gx
open L2 GenW PySem PySem.Spec PyProof.Rows
theorem eval_gen2 (elt tg iter tg1 iter1 : Expr) (ifs ifs1 : List Expr) (scope : Scope) (pos : Pos) (env : Env) (hco : scope.isCoroutine = false) (hz : iter.pos = iter.pos) :
    eval (.GeneratorExp elt [⟨tg, iter, ifs, 0⟩, ⟨tg1, iter1, ifs1, 0⟩] scope pos) env = (do
      let source ← eval iter env
      standAt iter.pos
      let source ← genFold iter env source
      let walker ← holding [source] (pyIter source)
      enterFrame
      let cells ← closureFor scope env
      let code ← genexprCode env pos (env.qual ++ "<genexpr>") scope
      let names ← builtinsFor env.globals env.builtins
      let frame ← newFunctionEnv scope env.globals cells [(".0", walker)] (env.qual ++ "<genexpr>.") none code none names
      newGenerator (.compStart (.GeneratorExp elt [⟨tg, iter, ifs, 0⟩, ⟨tg1, iter1, ifs1, 0⟩] scope pos) 0 walker .none frame) "<genexpr>" (env.qual ++ "<genexpr>")) := by
  rw [arm_eval_GeneratorExp]
  simp only [hco, Bool.false_eq_true, if_false]
  cases iter <;> rfl
theorem turn_out (elt tg iter tg1 iter1 : Expr) (ifs ifs1 : List Expr) (scope : Scope) (pos : Pos) (it acc : Value) (env : Env) :
    compTurn (.GeneratorExp elt [⟨tg, iter, ifs, 0⟩, ⟨tg1, iter1, ifs1, 0⟩] scope pos) 0 it acc env = (do
      standAt iter.pos
      match ← pyNext it with
      | none => pure (.done .next)
      | some item =>
        letOwnedTupleGo tg it item
        assign tg env item
        let mut good := true
        for c in ifs do
          if good then good ← isTrue c env (eval c env)
        if good then
          let source ← eval iter1 env
          standAt iter1.pos
          let source ← foldedSetIterable iter1 env source
          let _ ← runOwn (.compStart (.GeneratorExp elt [⟨tg, iter, ifs, 0⟩, ⟨tg1, iter1, ifs1, 0⟩] scope pos) 1 (← holding [source] (pyIter source)) acc env) env
        again (.compLoop (.GeneratorExp elt [⟨tg, iter, ifs, 0⟩, ⟨tg1, iter1, ifs1, 0⟩] scope pos) 0 it acc env)) := by rfl
theorem turn_in (elt tg iter tg1 iter1 : Expr) (ifs ifs1 : List Expr) (scope : Scope) (pos : Pos) (it acc : Value) (env : Env) :
    compTurn (.GeneratorExp elt [⟨tg, iter, ifs, 0⟩, ⟨tg1, iter1, ifs1, 0⟩] scope pos) 1 it acc env = (do
      standAt iter1.pos
      match ← pyNext it with
      | none => pure (.done .next)
      | some item =>
        letOwnedTupleGo tg1 it item
        assign tg1 env item
        let mut good := true
        for c in ifs1 do
          if good then good ← isTrue c env (eval c env)
        if good then
          (do let given ← eval elt env; standAt elt.pos; let _ ← yieldOut env given)
        again (.compLoop (.GeneratorExp elt [⟨tg, iter, ifs, 0⟩, ⟨tg1, iter1, ifs1, 0⟩] scope pos) 1 it acc env)) := by rfl

section
variable {M : Model} {A : Around} {E : Value → Shared → Prop} {s : Shared}
theorem make_gen2 {env : Env} {elt tg iter tg1 iter1 : Expr} {ifs ifs1 : List Expr} {scope : Scope} {cells : List (Str × Addr)} {pos : Pos} {Q : Value → Shared → Prop} (hco : scope.isCoroutine = false) (hcl : closureFor scope env = pure cells)
    (nocell : ∀ y ∈ scope.names, y.2 ≠ .cell) (dot : scope.names.lookup (".0" : Str) = some NameKind.local) (kind : scope.kind = .function) (deep : A.depth < recursionLimit)
    (h : wpAny M A (eval iter env) (fun xv sa => wpAny M A (pyIter xv) (fun it sb => sb.heap.NoLimit ∧
      wpAny M A (genexprCode env pos (env.qual ++ "<genexpr>") scope) (fun code sc => wpAny M A (builtinsFor env.globals env.builtins) (fun names sd =>
        ∀ hn, hn.Ns sd.heap.objs.size (fun y => if y = ".0" then some it else none) → Heap.SameBut sd.heap.objs.size (sd.heap.push { cls := .type "frame", data := .dict #[] }) hn →
          Q (.ref hn.objs.size) { sd with gens := sd.gens.push (.fresh (.compStart (.GeneratorExp elt [⟨tg, iter, ifs, 0⟩, ⟨tg1, iter1, ifs1, 0⟩] scope pos) 0 it .none (genEnv scope cells sd.heap.objs.size code names env))),
                                          toks := sd.toks + 1 + 1 + 1, heap := hn.push { cls := .type "generator", data := .fields #[.int sd.gens.size 0, .str "<genexpr>" (sd.toks + 1), .str (env.qual ++ "<genexpr>") (sd.toks + 1 + 1)] } }) E sc) E sb) E sa) E s)
    (plain : ∀ x, genFold iter env x = pure x) : wpAny M A (eval (.GeneratorExp elt [⟨tg, iter, ifs, 0⟩, ⟨tg1, iter1, ifs1, 0⟩] scope pos) env) Q E s := by
  rw [eval_gen2 _ _ _ _ _ _ _ _ _ _ hco rfl, hcl]
  refine wpAny_bind (wpAny_mono h (fun xv sa ha => ?_) fun _ _ z => z)
  refine wpAny_bind (wpAny_standAt (wpAny_bind (wpAny_of_eq (plain xv) (wpAny_bind (wpAny_holding (wpAny_mono ha (fun it sb hb => ?_) fun _ _ z => z))))))
  refine wpAny_bind (wpAny_enterFrame hb.1 deep (wpAny_bind (wpAny_pure (wpAny_bind (wpAny_mono hb.2 (fun code sc hc => ?_) fun _ _ z => z)))))
  refine wpAny_bind (wpAny_mono hc (fun names sd hd => ?_) fun _ _ z => z)
  have locals : ∀ y ∈ ([((".0" : Str), it)] : List (Str × Value)), scope.names.lookup y.1 = some NameKind.local := fun y hy => by
    rw [List.mem_singleton.mp hy]
    exact dot
  refine wpAny_bind (wpAny_newFunctionEnv nocell locals (fun hn ns same => ?_) kind)
  have one : (fun y : Str => ([((".0" : Str), it)] : List (Str × Value)).reverse.lookup y) = fun y : Str => if y = (".0" : Str) then some it else none := funext fun y => by
    by_cases c : y = (".0" : Str)
    · rw [c]
      simp
    · have : (y == (".0" : Str)) = false := beq_eq_false_iff_ne.mpr c
      simp [List.lookup, this, c]
  rw [one] at ns
  simp only [newGenerator, newFields]
  exact wpAny_bind (wpAny_newGen (wpAny_bind (wpAny_mkText (wpAny_bind (wpAny_mkText (wpAny_newObj_type (hd hn ns same) (by size_fits)))))))
end
/-- one turn of the walk: what is wanted; B: no inner walk is longer -/
def TurnB2 (J : It) (g : TG) (tt : TT) (wi1 : TI) (g1 : TG) (tt1 : TT) (te : TE) (vs vs1 : List Nat) (σ : L2.St) (stop : Bool) (Qs Qd : Hp → Prop) (B : Nat) (W : Nat → Nat → Hp → Prop) : Prop :=
  ∀ i m H, W i m H → (J.stop i H ∧ Qd H) ∨ (J.go i H ∧ ∃ Nx : Hp → Prop, (∀ H', Nx H' → ∃ m', m' < m ∧ W (i + 1) m' H') ∧ ∀ x H', J.yld i H x H' → g x (wipe σ vs) H' fun σ2 H2 => wipe σ2 vs = wipe σ vs ∧ tt σ2 H2 fun b H3 =>
    if b = true then wi1 σ2 H3 fun J1 H4 => ∃ W1 : Nat → Nat → Hp → Prop, (∃ k, k ≤ B ∧ W1 0 k H4) ∧ ∀ j k H, W1 j k H → (J1.stop j H ∧ Nx H) ∨ (J1.go j H ∧ ∃ Nx1 : Hp → Prop, (∀ H', Nx1 H' → ∃ k', k' < k ∧ W1 (j + 1) k' H') ∧
      ∀ x H', J1.yld j H x H' → g1 x (wipe σ2 vs1) H' fun σ3 H5 => wipe σ3 vs1 = wipe σ2 vs1 ∧ tt1 σ3 H5 fun b H6 => if b = true then te σ3 H6 fun y H7 => ∃ c, y = .bl c ∧ (c = stop → Qs H7) ∧ (c = !stop → Nx1 H7) else Nx1 H6)
    else Nx H3)
/-- the inner loop -/
theorem seg_in {X : Cx} {Aw A' : Around} {s0 : Shared} {H0 : Hp} {σ8 : L2.St} {elt tg iter tg1 iter1 : Expr} {ifs ifs1 : List Expr} {scope : Scope} {vs1 : List Nat} {pos : Pos} {it1 a : Addr} {g : Nat} {go : Obj} {cenv : Env} {fp fp1 : List Addr} {tn1 : Nat → Heap → Prop} {J1 : It}
    {g1 : TG} {tt1 : TT} {te : TE} {stop : Bool} {Qs Qd Nx : Hp → Prop} {W1 : Nat → Nat → Hp → Prop} {pins : List (Addr × Obj)} {fr : List Frame} {base : Nat} (hco : cenv.scope.isCoroutine = false) (hgo : ∀ h : Heap, h.get? a = some go → h.IsGen a g)
    (hA : Aw.over (.compLoop (.GeneratorExp elt [⟨tg, iter, ifs, 0⟩, ⟨tg1, iter1, ifs1, 0⟩] scope pos) 1 (.ref it1) .none cenv) fr = A') (hfs : splitAtGen fr = none) (hfg : fr.any Frame.guarded = false)
    (T : Turn X.prog X.w X.K tg1 J1 fp1 it1 tn1)
    (pg : PG (gCx X A' s0 H0 cenv fp [(a, go)]) tg1 g1) (pt : PTs (gCx X A' s0 H0 cenv fp [(a, go)]) ifs1 tt1) (pe : PE (gCx X A' s0 H0 cenv fp [(a, go)]) elt te)
    (stat : ∀ {H' : Hp}, (∀ b ∈ fp1, H' b = none) → ∀ b ∈ fp1, FpOk (gCx X A' s0 H0 cenv fp [(a, go)]) pins H' b)
    (turn : ∀ j k H, W1 j k H → (J1.stop j H ∧ Nx H) ∨ (J1.go j H ∧ ∃ Nx1 : Hp → Prop, (∀ H', Nx1 H' → ∃ k', k' < k ∧ W1 (j + 1) k' H') ∧
      ∀ x H', J1.yld j H x H' → g1 x (wipe σ8 vs1) H' fun σ3 H5 => wipe σ3 vs1 = wipe σ8 vs1 ∧ tt1 σ3 H5 fun b H6 => if b = true then te σ3 H6 fun y H7 => ∃ c, y = .bl c ∧ (c = stop → Qs H7) ∧ (c = !stop → Nx1 H7) else Nx1 H6))
    (pop : ∀ (n : Nat) (s₀ s' : Shared) (H' : Hp), base < n → L2.Inv (gCx X A' s0 H0 cenv fp [(a, go)]) pins (wipe σ8 vs1) H' s' → Nx H' →
      Seg (model X.prog X.w) Aw (RB X fp H0 s0 Qd) (YB X fp H0 s0 a g stop Qs) n s₀ (.compLoop (.GeneratorExp elt [⟨tg, iter, ifs, 0⟩, ⟨tg1, iter1, ifs1, 0⟩] scope pos) 1 (.ref it1) .none cenv) (leafOf (.ok .next)) fr s') :
    ∀ (k n : Nat) (s₀ s : Shared) (j : Nat) (H' : Hp), base + k < n → L2.Inv (gCx X A' s0 H0 cenv fp [(a, go)]) pins (wipe σ8 vs1) H' s → tn1 j s.heap → (∀ b ∈ fp1, H' b = none) → W1 j k H' →
      Seg (model X.prog X.w) Aw (RB X fp H0 s0 Qd) (YB X fp H0 s0 a g stop Qs) n s₀ (.compLoop (.GeneratorExp elt [⟨tg, iter, ifs, 0⟩, ⟨tg1, iter1, ifs1, 0⟩] scope pos) 1 (.ref it1) .none cenv)
        ((model X.prog X.w).den (.compLoop (.GeneratorExp elt [⟨tg, iter, ifs, 0⟩, ⟨tg1, iter1, ifs1, 0⟩] scope pos) 1 (.ref it1) .none cenv)) fr s := by
  have again : ∀ {σ9 : L2.St} {sb sc : Shared} {j k : Nat} {Hc : Hp} {Nx1 : Hp → Prop}, tn1 (j + 1) sb.heap → wipe σ9 vs1 = wipe σ8 vs1 → L2.Inv (gCx X A' s0 H0 cenv fp [(a, go)]) (pins ++ pinsAt fp1 sb.heap) σ9 Hc sc →
      (∀ Hd, Nx1 Hd → ∃ k', k' < k ∧ W1 (j + 1) k' Hd) → Nx1 Hc → ∃ k', k' < k ∧ L2.Inv (gCx X A' s0 H0 cenv fp [(a, go)]) pins (wipe σ8 vs1) Hc sc ∧ tn1 (j + 1) sc.heap ∧ (∀ b ∈ fp1, Hc b = none) ∧ W1 (j + 1) k' Hc := fun {σ9 sb sc j k Hc Nx1} turned hw J less nx => by
    obtain ⟨k', lt, go_on⟩ := less Hc nx
    have still : ∀ b ∈ fp1, ∀ o, sb.heap.get? b = some o → sc.heap.get? b = some o ∧ Hc b = none := fun b hb o e => by
      have z := J.pin (b, o) (List.mem_append_right _ (List.mem_append_right _ (mem_pinsAt hb e)))
      exact ⟨z.1, z.2.1⟩
    refine ⟨k', lt, J.unpinned.weak (by rw [← hw, wipe_length]) (fun j v e => (wipe_some (hw ▸ e)).1), T.keep _ _ _ turned fun b hb o e => (still b hb o e).1, fun b hb => ?_, go_on⟩
    exact (T.obj _ _ turned b hb).elim fun o q => (still b hb o q.1).2
  refine fun k => Nat.strongRecOn k fun k ih n s₀ s j H' hmn I st hn0 w => ?_
  show Seg _ Aw _ _ _ s₀ _ ((compTurn (.GeneratorExp elt [⟨tg, iter, ifs, 0⟩, ⟨tg1, iter1, ifs1, 0⟩] scope pos) 1 (.ref it1) .none cenv).onRaise _) fr s
  rw [Sem.onRaise_eq_wrap, turn_in]
  refine seg_bind_wrap (wpAny_standAt (seg_bind_wrap ?_))
  rw [hA]
  rcases turn j k H' w with ⟨ended, nx⟩ | ⟨going, Nx1, less, step⟩
  · refine thnF (T.done (gCx X A' s0 H0 cenv fp [(a, go)]) rfl rfl rfl rfl j pins s _ H' (fun _ _ => False) I (stat hn0) st ended) fun r sa z => ?_
    rw [z.1]
    exact pop n s₀ sa H' (by omega) z.2 nx
  · refine thnF (T.item (gCx X A' s0 H0 cenv fp [(a, go)]) rfl rfl rfl rfl j pins s _ H' (fun _ _ => False) I (stat hn0) st going) fun r sa ⟨u, hr, item⟩ => ?_
    rw [hr]
    refine seg_bind_wrap ?_
    rw [hA]
    refine thnF item fun _ sb ⟨x, Hb, J, rx, yx, turned, none_⟩ => seg_bind_wrap ?_
    rw [hA]
    have J := J.pinned (stat none_) (T.obj _ _ turned)
    refine thnF (pg.run _ sb _ Hb x u _ J rx (step x Hb yx)) fun _ sc ⟨σ9, Hc, Jc, hw, asked⟩ => seg_bind_wrap ?_
    rw [hA]
    refine thnF (pt.run _ sc σ9 Hc _ Jc asked) fun b sd ⟨Hd, Jd, told⟩ => ?_
    cases b with
    | false =>
      obtain ⟨k', lt, z1, z2, z3, z4⟩ := again turned hw Jd less (by simpa using told)
      exact seg_again rfl (ih k' lt n s₀ sd (j + 1) Hd (by omega) z1 z2 z3 z4)
    | true =>
      have plain : ∀ v, yieldOut cenv v = yieldValue v := fun v => by unfold yieldOut; rw [hco]; rfl
      simp only [if_true, plain] at told ⊢
      rw [Sem.bind_eq_wrap', Sem.bind_eq_wrap']
      rw [Sem.wrap_wrap, Sem.wrap_wrap]
      refine seg_wrap ?_
      rw [hA]
      refine thnF (pe.run _ sd σ9 Hd _ Jd told) fun z se ⟨yv, He, Je, re, c, hc, hs1, hs2⟩ => ?_
      subst hc
      cases (show z = .bool c from re)
      match n, hmn with
      | n + 1, hmn =>
        have self := Je.pin (a, go) (List.mem_append_left _ List.mem_cons_self)
        refine seg_at (seg_yield hfs rfl hfg ⟨c, He, rfl, ⟨Je.os, Je.bare, Je.base, Je.hok⟩, Je.nolimit, hgo _ self.1, hs1, fun hcn sf e1 e2 e3 => ?_⟩)
        have Jf : L2.Inv (gCx X A' s0 H0 cenv fp [(a, go)]) (pins ++ pinsAt fp1 sb.heap) σ9 He sf :=
          Je.call' (ch := []) e1 (e3 ▸ Un.refl) (e3 ▸ Je.hok) e2 fun b hb => nomatch hb
        obtain ⟨k', lt, z1, z2, z3, z4⟩ := again turned hw Jf less (hs2 hcn)
        exact seg_again rfl (ih k' lt n sf sf (j + 1) He (by omega) z1 z2 z3 z4)

theorem seg_start1 {X : Cx} {Aw : Around} {R : GenEnd} {Y : Protocol} {elt tg iter tg1 iter1 : Expr} {ifs ifs1 : List Expr} {scope : Scope} {pos : Pos} {it1 : Addr} {cenv : Env} {fp1 : List Addr} {tn1 : Nat → Heap → Prop} {J1 : It} {n : Nat} {s₀ sf : Shared} {fr : List Frame}
    (T1 : Turn X.prog X.w X.K tg1 J1 fp1 it1 tn1) (st11 : tn1 0 sf.heap) (loop : Seg (model X.prog X.w) Aw R Y n s₀ (.compLoop (.GeneratorExp elt [⟨tg, iter, ifs, 0⟩, ⟨tg1, iter1, ifs1, 0⟩] scope pos) 1 (.ref it1) .none cenv) ((model X.prog X.w).den (.compLoop (.GeneratorExp elt [⟨tg, iter, ifs, 0⟩, ⟨tg1, iter1, ifs1, 0⟩] scope pos) 1 (.ref it1) .none cenv)) fr sf) :
    Seg (model X.prog X.w) Aw R Y n s₀ (.compStart (.GeneratorExp elt [⟨tg, iter, ifs, 0⟩, ⟨tg1, iter1, ifs1, 0⟩] scope pos) 1 (.ref it1) .none cenv) ((model X.prog X.w).den (.compStart (.GeneratorExp elt [⟨tg, iter, ifs, 0⟩, ⟨tg1, iter1, ifs1, 0⟩] scope pos) 1 (.ref it1) .none cenv)) fr sf := by
  show Seg _ Aw _ _ _ s₀ _ ((compStart (.GeneratorExp elt [⟨tg, iter, ifs, 0⟩, ⟨tg1, iter1, ifs1, 0⟩] scope pos) 1 (.ref it1) .none cenv).onRaise _) _ sf
  unfold compStart
  rw [Sem.onRaise_eq_wrap]
  show Seg _ Aw _ _ _ s₀ _ ((ask >>= _).wrap _ _ _ _) _ sf
  refine seg_bind_wrap <| wpAny_askSetting ?_
  split
  · exact seg_again rfl loop
  · first
      | exact seg_bind_wrap (wpAny_rule (seg_bind_wrap (wpAny_standAt (seg_bind_wrap (T1.self _ 0 sf _ _ st11 (seg_again rfl loop))))))
      | (refine seg_bind_wrap (wpAny_rule ?_); show Seg _ Aw _ _ _ s₀ _ ((standAt iter1.pos >>= _).wrap _ _ _ _) _ sf; exact seg_bind_wrap (wpAny_standAt (seg_bind_wrap (T1.self _ 0 sf _ _ st11 (seg_again rfl loop)))))
/-- the outer loop -/
theorem seg_out {X : Cx} {Aw : Around} {s0 : Shared} {H0 : Hp} {σ : L2.St} {elt tg iter tg1 iter1 : Expr} {ifs ifs1 : List Expr} {scope : Scope} {own : List (Str × Nat)} {vs1 : List Nat} {pos : Pos} {it a : Addr} {g : Nat} {go : Obj} {cenv : Env} {fp : List Addr} {tn : Nat → Heap → Prop} {J : It}
    {gg g1 : TG} {tt tt1 : TT} {wi1 : TI} {te : TE} {stop : Bool} {Qs Qd : Hp → Prop} {B : Nat} {W : Nat → Nat → Hp → Prop} (hco : cenv.scope.isCoroutine = false) (hgo : ∀ h : Heap, h.get? a = some go → h.IsGen a g) (hafp : a ∉ fp) (hv : ∀ i ∈ vs1, i ∈ own.map (·.2))
    (T : Turn X.prog X.w X.K tg J fp it tn)
    (pg : PG (gCx X (Aw.over (.compLoop (.GeneratorExp elt [⟨tg, iter, ifs, 0⟩, ⟨tg1, iter1, ifs1, 0⟩] scope pos) 0 (.ref it) .none cenv) []) s0 H0 cenv fp [(a, go)]) tg gg)
    (pt : PTs (gCx X (Aw.over (.compLoop (.GeneratorExp elt [⟨tg, iter, ifs, 0⟩, ⟨tg1, iter1, ifs1, 0⟩] scope pos) 0 (.ref it) .none cenv) []) s0 H0 cenv fp [(a, go)]) ifs tt)
    (pi1 : PI (gCx X (Aw.over (.compLoop (.GeneratorExp elt [⟨tg, iter, ifs, 0⟩, ⟨tg1, iter1, ifs1, 0⟩] scope pos) 0 (.ref it) .none cenv) []) s0 H0 cenv fp [(a, go)]) tg1 iter1 wi1)
    (pg1 : PG (gCx X (Aw.over (.compLoop (.GeneratorExp elt [⟨tg, iter, ifs, 0⟩, ⟨tg1, iter1, ifs1, 0⟩] scope pos) 0 (.ref it) .none cenv) []) s0 H0 cenv fp [(a, go)]) tg1 g1)
    (pt1 : PTs (gCx X (Aw.over (.compLoop (.GeneratorExp elt [⟨tg, iter, ifs, 0⟩, ⟨tg1, iter1, ifs1, 0⟩] scope pos) 0 (.ref it) .none cenv) []) s0 H0 cenv fp [(a, go)]) ifs1 tt1)
    (pe : PE (gCx X (Aw.over (.compLoop (.GeneratorExp elt [⟨tg, iter, ifs, 0⟩, ⟨tg1, iter1, ifs1, 0⟩] scope pos) 0 (.ref it) .none cenv) []) s0 H0 cenv fp [(a, go)]) elt te)
    (hs1 : ∀ env x, foldedSetIterable iter1 env x = pure x)
    (turn : TurnB2 J gg tt wi1 g1 tt1 te (own.map (·.2)) vs1 σ stop Qs Qd B W) :
    ∀ (m n : Nat) (s₀ s : Shared) (i : Nat) (H' : Hp), (m + 1) * (B + 1) ≤ n → L2.Inv (gCx X (Aw.over (.compLoop (.GeneratorExp elt [⟨tg, iter, ifs, 0⟩, ⟨tg1, iter1, ifs1, 0⟩] scope pos) 0 (.ref it) .none cenv) []) s0 H0 cenv fp [(a, go)]) [] (wipe σ (own.map (·.2))) H' s → tn i s.heap → (∀ b ∈ fp, H' b = none) → W i m H' →
      Seg (model X.prog X.w) Aw (RB X fp H0 s0 Qd) (YB X fp H0 s0 a g stop Qs) n s₀ (.compLoop (.GeneratorExp elt [⟨tg, iter, ifs, 0⟩, ⟨tg1, iter1, ifs1, 0⟩] scope pos) 0 (.ref it) .none cenv)
        ((model X.prog X.w).den (.compLoop (.GeneratorExp elt [⟨tg, iter, ifs, 0⟩, ⟨tg1, iter1, ifs1, 0⟩] scope pos) 0 (.ref it) .none cenv)) [] s := by
  generalize hA' : Aw.over (.compLoop (.GeneratorExp elt [⟨tg, iter, ifs, 0⟩, ⟨tg1, iter1, ifs1, 0⟩] scope pos) 0 (.ref it) .none cenv) [] = A' at pg pt pi1 pg1 pt1 pe ⊢
  have stat : ∀ {σ' : L2.St} {H' : Hp} {s' : Shared}, L2.Inv (gCx X A' s0 H0 cenv fp [(a, go)]) [] σ' H' s' → (∀ b ∈ fp, H' b = none) → ∀ b ∈ fp, FpOk (gCx X A' s0 H0 cenv fp [(a, go)]) [] H' b := fun {σ' H' s'} I' hn b hb =>
    ⟨hn b hb, (I'.ok.exf b hb).1, I'.ok.exfs b hb, .inl hb, fun x c e => (I'.ok.exf b hb).2 x c e, fun p hp => by
      have hp : p ∈ [(a, go)] ++ ([] : List (Addr × Obj)) := hp
      rw [List.append_nil] at hp
      rw [List.mem_singleton.mp hp]
      exact fun e => hafp (by rw [show a = b from e]; exact hb)⟩
  have again : ∀ {σ9 : L2.St} {sb sc : Shared} {i m : Nat} {Hc : Hp} {Nx : Hp → Prop}, tn (i + 1) sb.heap → (wipe σ (own.map (·.2))).length = σ9.length → (∀ (j : Nat) v, (wipe σ (own.map (·.2)))[j]? = some (some v) → σ9[j]? = some (some v)) →
      L2.Inv (gCx X A' s0 H0 cenv fp [(a, go)]) ([] ++ pinsAt fp sb.heap) σ9 Hc sc → (∀ Hd, Nx Hd → ∃ k, k < m ∧ W (i + 1) k Hd) → Nx Hc →
      ∃ k, k < m ∧ L2.Inv (gCx X A' s0 H0 cenv fp [(a, go)]) [] (wipe σ (own.map (·.2))) Hc sc ∧ tn (i + 1) sc.heap ∧ (∀ b ∈ fp, Hc b = none) ∧ W (i + 1) k Hc := fun {σ9 sb sc i m Hc Nx} turned hl hk J less nx => by
    obtain ⟨k, lt, go_on⟩ := less Hc nx
    have still : ∀ b ∈ fp, ∀ o, sb.heap.get? b = some o → sc.heap.get? b = some o ∧ Hc b = none := fun b hb o e => by
      have z := J.pin (b, o) (by simp [mem_pinsAt hb e])
      exact ⟨z.1, z.2.1⟩
    refine ⟨k, lt, J.unpinned (pins := []) |>.weak hl hk, T.keep _ _ _ turned fun b hb o e => (still b hb o e).1, fun b hb => ?_, go_on⟩
    exact (T.obj _ _ turned b hb).elim fun o q => (still b hb o q.1).2
  refine fun m => Nat.strongRecOn m fun m ih n s₀ s i H' hmn I st hn0 w => ?_
  show Seg _ Aw _ _ _ s₀ _ ((compTurn (.GeneratorExp elt [⟨tg, iter, ifs, 0⟩, ⟨tg1, iter1, ifs1, 0⟩] scope pos) 0 (.ref it) .none cenv).onRaise (leaving cenv)) [] s
  rw [Sem.onRaise_eq_wrap, turn_out]
  refine seg_bind_wrap (wpAny_standAt (seg_bind_wrap ?_))
  rw [hA']
  rcases turn i m H' w with ⟨ended, qd⟩ | ⟨going, Nx, less, step⟩
  · refine thnF (T.done (gCx X A' s0 H0 cenv fp [(a, go)]) rfl rfl rfl rfl i [] s _ H' (fun _ _ => False) I (stat I hn0) st ended) fun r sa z => ?_
    rw [z.1]
    exact seg_end (.ok .next) (.inl ⟨.inr rfl, H', ⟨z.2.os, z.2.bare, z.2.base, z.2.hok⟩, qd⟩)
  · refine thnF (T.item (gCx X A' s0 H0 cenv fp [(a, go)]) rfl rfl rfl rfl i [] s _ H' (fun _ _ => False) I (stat I hn0) st going) fun r sa ⟨u, hr, item⟩ => ?_
    rw [hr]
    refine seg_bind_wrap ?_
    rw [hA']
    refine thnF item fun _ sb ⟨x, Hb, J, rx, yx, turned, none_⟩ => seg_bind_wrap ?_
    rw [hA']
    have J := J.pinned (stat J none_) (T.obj _ _ turned)
    refine thnF (pg.run _ sb _ Hb x u _ J rx (step x Hb yx)) fun _ sc ⟨σ8, Hc, Jc, hw, asked⟩ => seg_bind_wrap ?_
    rw [hA']
    refine thnF (pt.run _ sc σ8 Hc _ Jc asked) fun b sd ⟨Hd, Jd, told⟩ => ?_
    have hl8 : (wipe σ (own.map (·.2))).length = σ8.length := by rw [← hw, wipe_length]
    have hk8 : ∀ (j : Nat) v, (wipe σ (own.map (·.2)))[j]? = some (some v) → σ8[j]? = some (some v) := fun j v e => by
      rw [← hw] at e
      exact (wipe_some e).1
    have hk9 : ∀ (j : Nat) v, (wipe σ (own.map (·.2)))[j]? = some (some v) → (wipe σ8 vs1)[j]? = some (some v) := fun j v e => by
      rw [← hw] at e
      obtain ⟨e1, e2⟩ := wipe_some e
      rw [wipe_out fun z => e2 (hv j z)]
      exact e1
    have bound : ∀ k n, k < m → m * (B + 1) < n → (k + 1) * (B + 1) ≤ n := fun k n h1 h2 => Nat.le_of_lt (Nat.lt_of_le_of_lt (Nat.mul_le_mul_right (B + 1) h1) h2)
    have all : (m + 1) * (B + 1) = m * (B + 1) + (B + 1) := Nat.succ_mul m (B + 1)
    cases b with
    | false =>
      obtain ⟨k, lt, z1, z2, z3, z4⟩ := again turned hl8 hk8 Jd less (by simpa using told)
      exact seg_again rfl (ih k lt n s₀ sd (i + 1) Hd (bound k n lt (by omega)) z1 z2 z3 z4)
    | true =>
      simp only [if_true] at told ⊢
      refine seg_bind_wrap ?_
      rw [hA']
      refine thnF (pi1.run _ sd σ8 Hd _ Jd told) fun xv se hx => ?_
      refine seg_bind_wrap (wpAny_standAt (seg_bind_wrap (wpAny_of_eq (hs1 cenv xv) (seg_bind_wrap (wpAny_holding ?_)))))
      rw [hA']
      refine thnF hx fun itv sf hf => ?_
      obtain ⟨it1, fp1, tn1, J1, H11, e1, I11, T1, st11, f11, W1, ⟨k1, kB, w1⟩, turn1⟩ := hf
      subst e1
      refine seg_call fun p => ?_
      refine seg_start1 T1 st11 (seg_in (X := X) (s0 := s0) (H0 := H0) (fp := fp) (elt := elt) (tg := tg) (iter := iter) (iter1 := iter1) (ifs := ifs) (ifs1 := ifs1) (scope := scope) (pos := pos) (base := m * (B + 1)) (Qd := Qd) (Aw := Aw) (A' := A') (vs1 := vs1) hco hgo (by rw [← hA']; rfl) rfl rfl T1 pg1 pt1 pe (fun hn b hb => ⟨hn b hb, (f11 b hb).2⟩) turn1 (fun n' s₀' s' H'' hb I'' nx => by
        obtain ⟨k, lt, z1, z2, z3, z4⟩ := again turned (hl8.trans (wipe_length σ8 vs1).symm) hk9 I'' less nx
        exact seg_leaf (.ok .next) (seg_again rfl (ih k lt n' s₀' s' (i + 1) H'' (bound k n' lt hb) z1 z2 z3 z4))) k1 n s₀ sf 0 H11 (by omega) (I11.weak (wipe_length _ _) (fun j v e => (wipe_some e).1)) st11 (fun b hb => (f11 b hb).1) w1)

/-- .. from its start -/
theorem seg_start2 {X : Cx} {Aw : Around} {s0 : Shared} {H0 : Hp} {σ : L2.St} {elt tg iter tg1 iter1 : Expr} {ifs ifs1 : List Expr} {scope : Scope} {own : List (Str × Nat)} {vs1 : List Nat} {pos : Pos} {it a : Addr} {g : Nat} {go : Obj} {cenv : Env} {fp : List Addr} {tn : Nat → Heap → Prop} {J : It}
    {gg g1 : TG} {tt tt1 : TT} {wi1 : TI} {te : TE} {stop : Bool} {Qs Qd : Hp → Prop} {B : Nat} {W : Nat → Nat → Hp → Prop} (hco : cenv.scope.isCoroutine = false) (hgo : ∀ h : Heap, h.get? a = some go → h.IsGen a g) (hafp : a ∉ fp) (hv : ∀ i ∈ vs1, i ∈ own.map (·.2))
    (T : Turn X.prog X.w X.K tg J fp it tn)
    (pg : PG (gCx X (Aw.over (.compLoop (.GeneratorExp elt [⟨tg, iter, ifs, 0⟩, ⟨tg1, iter1, ifs1, 0⟩] scope pos) 0 (.ref it) .none cenv) []) s0 H0 cenv fp [(a, go)]) tg gg)
    (pt : PTs (gCx X (Aw.over (.compLoop (.GeneratorExp elt [⟨tg, iter, ifs, 0⟩, ⟨tg1, iter1, ifs1, 0⟩] scope pos) 0 (.ref it) .none cenv) []) s0 H0 cenv fp [(a, go)]) ifs tt)
    (pi1 : PI (gCx X (Aw.over (.compLoop (.GeneratorExp elt [⟨tg, iter, ifs, 0⟩, ⟨tg1, iter1, ifs1, 0⟩] scope pos) 0 (.ref it) .none cenv) []) s0 H0 cenv fp [(a, go)]) tg1 iter1 wi1) (pg1 : PG (gCx X (Aw.over (.compLoop (.GeneratorExp elt [⟨tg, iter, ifs, 0⟩, ⟨tg1, iter1, ifs1, 0⟩] scope pos) 0 (.ref it) .none cenv) []) s0 H0 cenv fp [(a, go)]) tg1 g1) (pt1 : PTs (gCx X (Aw.over (.compLoop (.GeneratorExp elt [⟨tg, iter, ifs, 0⟩, ⟨tg1, iter1, ifs1, 0⟩] scope pos) 0 (.ref it) .none cenv) []) s0 H0 cenv fp [(a, go)]) ifs1 tt1)
    (pe : PE (gCx X (Aw.over (.compLoop (.GeneratorExp elt [⟨tg, iter, ifs, 0⟩, ⟨tg1, iter1, ifs1, 0⟩] scope pos) 0 (.ref it) .none cenv) []) s0 H0 cenv fp [(a, go)]) elt te)
    (hs1 : ∀ env x, foldedSetIterable iter1 env x = pure x) (turn : TurnB2 J gg tt wi1 g1 tt1 te (own.map (·.2)) vs1 σ stop Qs Qd B W) (m n : Nat) (s₀ s : Shared) (H' : Hp) (hmn : (m + 1) * (B + 1) ≤ n)
    (I : L2.Inv (gCx X (Aw.over (.compLoop (.GeneratorExp elt [⟨tg, iter, ifs, 0⟩, ⟨tg1, iter1, ifs1, 0⟩] scope pos) 0 (.ref it) .none cenv) []) s0 H0 cenv fp [(a, go)]) [] (wipe σ (own.map (·.2))) H' s) (st : tn 0 s.heap) (hn0 : ∀ b ∈ fp, H' b = none) (w : W 0 m H') :
      Seg (model X.prog X.w) Aw (RB X fp H0 s0 Qd) (YB X fp H0 s0 a g stop Qs) n s₀ (.compStart (.GeneratorExp elt [⟨tg, iter, ifs, 0⟩, ⟨tg1, iter1, ifs1, 0⟩] scope pos) 0 (.ref it) .none cenv)
        ((model X.prog X.w).den (.compStart (.GeneratorExp elt [⟨tg, iter, ifs, 0⟩, ⟨tg1, iter1, ifs1, 0⟩] scope pos) 0 (.ref it) .none cenv)) [] s := by
  have loop := seg_out hco hgo hafp hv T pg pt pi1 pg1 pt1 pe hs1 turn m n s₀ s 0 H' hmn I st hn0 w
  show Seg _ Aw _ _ _ s₀ _ ((compStart (.GeneratorExp elt [⟨tg, iter, ifs, 0⟩, ⟨tg1, iter1, ifs1, 0⟩] scope pos) 0 (.ref it) .none cenv).onRaise (leaving cenv)) [] s
  unfold compStart
  rw [Sem.onRaise_eq_wrap]
  show Seg _ Aw _ _ _ s₀ _ ((ask >>= _).wrap _ _ _ _) [] s
  refine seg_bind_wrap <| wpAny_askSetting ?_
  split
  · exact seg_again rfl loop
  · first
      | exact seg_bind_wrap (wpAny_rule (seg_bind_wrap (wpAny_standAt (seg_bind_wrap (T.self _ 0 s _ _ st (seg_again rfl loop))))))
      | (refine seg_bind_wrap (wpAny_rule ?_); show Seg _ Aw _ _ _ s₀ _ ((standAt iter.pos >>= _).wrap _ _ _ _) [] s; exact seg_bind_wrap (wpAny_standAt (seg_bind_wrap (T.self _ 0 s _ _ st (seg_again rfl loop)))))

section
variable {X : Cx}
open GxR
def tQG2 (stop : Bool) (P : Addr) (q : Str) (wi : TI) (g : TG) (tt : TT) (wi1 : TI) (g1 : TG) (tt1 : TT) (te : TE) (vs vs1 : List Nat) : TE := fun σ H Q => wi σ H fun J H1 => LamX.TabS H1 P q ∧ ∀ H2, TabN P q H1 H2 →
  ∃ (B : Nat) (W : Nat → Nat → Hp → Prop), (∃ m, W 0 m H2) ∧ TurnB2 J g tt wi1 g1 tt1 te vs vs1 σ stop (fun H' => Q (.bl stop) H') (fun H' => Q (.bl (!stop)) H') B W
theorem over_gen2 {A : Around} {elt tg iter tg1 iter1 : Expr} {ifs ifs1 : List Expr} {scope : Scope} {pos : Pos} {v : Value} {cenv : Env} {l : List Env} (hf : A.frames = some l) :
    (A.over (.compLoop (.GeneratorExp elt [⟨tg, iter, ifs, 0⟩, ⟨tg1, iter1, ifs1, 0⟩] scope pos) 0 v .none cenv) []).frames = some (cenv :: l) := by
  show pushEnvs [cenv] (pushEnvs [] A.frames) = some (cenv :: l)
  rw [hf]
  rfl
theorem over_room2 {A : Around} {k : Nat} {elt tg iter tg1 iter1 : Expr} {ifs ifs1 : List Expr} {scope : Scope} {pos : Pos} {v : Value} {cenv : Env} (hr : Room (k + 1) A) :
    Room k (A.in1.in1.over (.compLoop (.GeneratorExp elt [⟨tg, iter, ifs, 0⟩, ⟨tg1, iter1, ifs1, 0⟩] scope pos) 0 v .none cenv) []) :=
  ⟨hr.hd, by have := hr.dp; show A.depth + 0 + 1 + 3 * k + 5 < _; omega, by have := hr.un; show A.units + 1 + 1 + 0 + 3 + 16 * k + 200 < _; omega⟩

theorem gen_made2 {c P : Addr} {elt tg iter tg1 iter1 : Expr} {ifs ifs1 : List Expr} {gpos : Pos} {scope : Scope} {own : List (Str × Nat)} {k : Nat} {wi wi1 : TI} {g g1 : TG} {tt tt1 : TT} {vs1 : List Nat} {te : TE} {stop : Bool} {Q : VK} {Q' : Value → Shared → Prop}
    {pins : List (Addr × Obj)} {σ : L2.St} {H : Hp} {s : Shared}
    (hr : Room (k + 1) X.A) (TB : TabB X.base X.mg c P) (hcode : X.env.code = .ref c) (hN : X.N.Nodup) (ok : GOk X.N X.env.scope scope own) (hi : PI X tg iter wi)
    (hg : ∀ (A' : Around) (s : Shared) (H : Hp) (C : Addr) (cl : List (Str × Addr)) (code : Value) (fp : List Addr) (pn : List (Addr × Obj)), Room k A' → PG (gCx X A' s H (genEnv scope cl C code builtinsNs X.env) fp pn) tg g)
    (ht : ∀ (A' : Around) (s : Shared) (H : Hp) (C : Addr) (cl : List (Str × Addr)) (code : Value) (fp : List Addr) (pn : List (Addr × Obj)), Room k A' → PTs (gCx X A' s H (genEnv scope cl C code builtinsNs X.env) fp pn) ifs tt)
    (he : ∀ (A' : Around) (s : Shared) (H : Hp) (C : Addr) (cl : List (Str × Addr)) (code : Value) (fp : List Addr) (pn : List (Addr × Obj)), Room k A' → PE (gCx X A' s H (genEnv scope cl C code builtinsNs X.env) fp pn) elt te)
    (hv : ∀ i ∈ vs1, i ∈ own.map (·.2)) (hi1 : ∀ (A' : Around) (s : Shared) (H : Hp) (C : Addr) (cl : List (Str × Addr)) (code : Value) (fp : List Addr) (pn : List (Addr × Obj)), Room k A' → PI (gCx X A' s H (genEnv scope cl C code builtinsNs X.env) fp pn) tg1 iter1 wi1) (hg1 : ∀ (A' : Around) (s : Shared) (H : Hp) (C : Addr) (cl : List (Str × Addr)) (code : Value) (fp : List Addr) (pn : List (Addr × Obj)), Room k A' → PG (gCx X A' s H (genEnv scope cl C code builtinsNs X.env) fp pn) tg1 g1) (ht1 : ∀ (A' : Around) (s : Shared) (H : Hp) (C : Addr) (cl : List (Str × Addr)) (code : Value) (fp : List Addr) (pn : List (Addr × Obj)), Room k A' → PTs (gCx X A' s H (genEnv scope cl C code builtinsNs X.env) fp pn) ifs1 tt1) (hs1 : ∀ env x, foldedSetIterable iter1 env x = pure x)
    (hs : ∀ v, genFold iter X.env v = pure v) (I : L2.Inv X pins σ H s) (h : tQG2 stop P (X.env.qual ++ "<genexpr>") wi g tt wi1 g1 tt1 te (own.map (·.2)) vs1 σ H Q)
    (hQ : ∀ (a gn n : Nat) (fp : List Addr) (H2 : Hp) (s4 s5 : Shared), L2.Inv X pins σ H2 s4 → (∀ b ∈ fp, FpOk X pins H2 b) → s5.os = s4.os → AllBare s5.gens → s5.heap.IsGen a gn → s5.heap.NoLimit → (∀ b o, s4.heap.get? b = some o → s5.heap.get? b = some o) →
      (∃ gs, s5.gens[gn]? = some gs ∧ ∀ s6 : Shared, s6.os = s5.os → AllBare s6.gens → s6.heap = s5.heap →
        gs.Goes (model X.prog X.w) X.A.in1.in1 (RB X fp H2 s4 (fun H' => Q (.bl (!stop)) H')) (YB X fp H2 s4 a gn stop (fun H' => Q (.bl stop) H')) n (.send .none) s6) → Q' (.ref a) s5) :
    wpAny (model X.prog X.w) X.A (eval (.GeneratorExp elt [⟨tg, iter, ifs, 0⟩, ⟨tg1, iter1, ifs1, 0⟩] scope gpos) X.env) Q' X.xe s := by
  refine make_gen2 ok.co (closure_ok (frees I ok)) ok.cell ok.dot ok.blk.kind (by have := hr.dp; omega) (thn (hi.run pins s σ H _ I h) fun xv s1 hx => thn hx fun itv s2 h2 => ?_) hs
  obtain ⟨it, fp, tn, J, H1, e, I2, T, st2, f2, ⟨ps, hP, trs, hnm⟩, q⟩ := h2
  subst e
  have hPs : s2.heap.get? P = some { cls := .none, data := .fields ps } := I2.hok P _ hP
  have hPlt : P < s2.heap.objs.size := Heap.lt_size hPs
  have cd : PySem.W.CodeHd s2.heap c P := TB.code.keeps fun b u e => I2.bk b u e
  refine ⟨I2.nolimit, ?_⟩
  have cont : ∀ (code : Value) (h3 : Heap) (tk : Nat) (H3 : Hp), Heap.ExtBut P s2.heap h3 → s2.heap.objs.size ≤ h3.objs.size → L2.Inv X pins σ H3 { s2 with heap := h3, toks := tk } → TabN P (X.env.qual ++ "<genexpr>") H1 H3 → (∀ b, b ≠ P → b < s2.heap.objs.size → H3 b = H1 b) →
      wpAny (model X.prog X.w) X.A (builtinsFor X.env.globals X.env.builtins) (fun bi s₄ => ∀ h',
        h'.Ns s₄.heap.objs.size (fun y => if y = ".0" then some (Value.ref it) else none) → Heap.SameBut s₄.heap.objs.size (s₄.heap.push { cls := .type "frame", data := .dict #[] }) h' →
          Q' (.ref h'.objs.size) { s₄ with
            gens := s₄.gens.push (.fresh (.compStart (.GeneratorExp elt [⟨tg, iter, ifs, 0⟩, ⟨tg1, iter1, ifs1, 0⟩] scope gpos) 0 (.ref it) .none (genEnv scope (cloFrom X.env.cells scope.names []) s₄.heap.objs.size code bi X.env))),
            toks := s₄.toks + 1 + 1 + 1,
            heap := h'.push { cls := .type "generator", data := .fields #[.int s₄.gens.size 0, .str "<genexpr>" (s₄.toks + 1), .str (X.env.qual ++ "<genexpr>") (s₄.toks + 1 + 1)] } }) X.xe { s2 with heap := h3, toks := tk } := by
    intro code h3 tk H3 hx hsz I3 hTN hold
    obtain ⟨bm, ob, e1, e2, _, _, e5, e6, e7, e8⟩ := TB.bm
    refine wpAny_builtinsFor (m := X.mg) (by rw [I3.ok.glob]; exact I3.ok.mod.glob.keeps I3.bk) e1 e2 (I3.bk _ _ e5) e6 e7 e8 ?_
    intro h' hns hsb
    generalize hs4 : ({ s2 with heap := h3, toks := tk } : Shared) = s4 at I3 hns hsb ⊢
    have h4 : s4.heap = h3 := by rw [← hs4]
    have fpP : ∀ b ∈ fp, b ≠ P := fun b hb z => by
      have := (f2 b hb).1
      rw [z, hP] at this
      cases this
    have sz2 : ∀ b ∈ fp, b < s2.heap.objs.size := fun b hb => by
      exact (T.obj _ _ st2 b hb).elim fun o q => Heap.lt_size q.1
    have f4 : ∀ b ∈ fp, FpOk X pins H3 b ∧ b < s4.heap.objs.size := fun b hb => by
      refine ⟨⟨?_, (f2 b hb).2⟩, by rw [h4]; exact Nat.lt_of_lt_of_le (sz2 b hb) hsz⟩
      rw [hold b (fpP b hb) (sz2 b hb)]
      exact (f2 b hb).1
    have st4 : tn 0 s4.heap := T.keep _ _ _ st2 fun b hb o e => by rw [h4]; exact hx b o (fpP b hb) e
    have kp' : ∀ b o, s4.heap.get? b = some o → h'.get? b = some o := fun b o e => hsb.extBut b o (Nat.ne_of_lt (Heap.lt_size e)) (Heap.get?_push_of_some _ e)
    have hsz' : h'.objs.size = s4.heap.objs.size + 1 := by rw [hsb.1, Heap.size_push]
    generalize hgo : ({ cls := .type "generator", data := .fields #[.int s4.gens.size 0, .str "<genexpr>" (s4.toks + 1), .str (X.env.qual ++ "<genexpr>") (s4.toks + 1 + 1)] } : Obj) = go
    have hgen : ∀ h : Heap, h.get? h'.objs.size = some go → h.IsGen h'.objs.size s4.gens.size := fun h e => ⟨go, _, _, e, by rw [← hgo], by rw [← hgo], by rw [← hgo]⟩
    have hpushed : (h'.push go).get? h'.objs.size = some go := by rw [← hgo]; exact Heap.get?_push_size _ rfl
    obtain ⟨B, W, ⟨m, w0⟩, turn⟩ := q H3 hTN
    have bare5 : ∀ x : GenState, x.bare = true → AllBare (s4.gens.push x) := fun x hx => AllBare.push I3.bare hx
    have kp5 : ∀ b o, s4.heap.get? b = some o → (h'.push go).get? b = some o := fun b o e => Heap.get?_push_of_some _ (kp' b o e)
    refine hQ h'.objs.size s4.gens.size ((m + 1) * (B + 1)) fp (H3) s4 _ I3 (fun b hb => (f4 b hb).1) rfl (bare5 _ rfl) (hgen _ hpushed) (I3.nolimit.keeps kp5) kp5 ⟨_, Array.getElem?_push_size .., fun s6 o6 b6 k6 => ?_⟩
    refine ⟨rfl, ?_⟩
    have hA' : ((X.A.in1.in1).over (.compLoop (.GeneratorExp elt [⟨tg, iter, ifs, 0⟩, ⟨tg1, iter1, ifs1, 0⟩] scope gpos) 0 (.ref it) .none (genEnv scope (cloFrom X.env.cells scope.names []) s4.heap.objs.size code builtinsNs X.env)) []).handled = none := hr.hd
    have hroom : Room k ((X.A.in1.in1).over (.compLoop (.GeneratorExp elt [⟨tg, iter, ifs, 0⟩, ⟨tg1, iter1, ifs1, 0⟩] scope gpos) 0 (.ref it) .none (genEnv scope (cloFrom X.env.cells scope.names []) s4.heap.objs.size code builtinsNs X.env)) []) := over_room2 hr
    have k6' : s6.heap = h'.push go := k6
    refine seg_start2 (own := own) (tt := tt) (te := te) (gg := g) (cenv := genEnv scope (cloFrom X.env.cells scope.names []) s4.heap.objs.size code builtinsNs X.env) (vs1 := vs1) (by exact ok.co) hgen (fun hm => ?_) hv T (hg _ _ _ _ _ _ _ _ hroom) (ht _ _ _ _ _ _ _ _ hroom) (hi1 _ _ _ _ _ _ _ _ hroom) (hg1 _ _ _ _ _ _ _ _ hroom) (ht1 _ _ _ _ _ _ _ _ hroom) (he _ _ _ _ _ _ _ _ hroom) hs1 turn m ((m + 1) * (B + 1)) s6 s6 (H3) (Nat.le_refl _) ?_ ?_ (fun b hb => (f4 b hb).1.1) w0
    · have h9 : h'.objs.size < s4.heap.objs.size := (f4 _ hm).2
      exact absurd h9 (by rw [hsz']; exact Nat.not_lt.mpr (Nat.le_succ _))
    · refine gen_start (m := fun y => if y = ".0" then some (Value.ref it) else none) I3 ok hN f4 hA' (over_gen2 I3.ok.frames) o6 b6 (fun b o e => by rw [k6']; exact kp5 b o e) (by rw [k6']; exact hns.push _) fun p hp => ?_
      rw [List.mem_singleton.mp hp]
      exact ⟨by rw [k6']; exact hpushed, by show s4.heap.objs.size < h'.objs.size; omega, fun v z => by rw [← hgo] at z; cases z⟩
    · exact T.keep _ _ _ st4 fun b _ o e => by rw [k6']; exact kp5 b o e
  cases hit : codeAmong gpos ps.toList with
  | none =>
    refine wpAny_genexprCodeX hcode (cd.code hPs trs) (cd.tab hPs) hit fun c' h' tk hx hge hlt hco' hrec htab' _ => ?_
    obtain ⟨o1, vs, f1, tf, fl, tg', inF, tx, tt', op, _, _, _, _, _, _, _, _, _, htr, _⟩ := hco'
    obtain ⟨c2, oc, vs2, t2, e2, hoc, hd2, hv2⟩ := hrec
    cases e2
    have hn : H1 c' = none := I2.hok.fresh hge
    have hPc : P ≠ c' := ne_of_none hP hn
    refine cont _ h' tk _ hx (by omega) (LamX.inv_table (q := X.env.qual ++ "<genexpr>") (more := #[rawInt gpos.line, rawInt gpos.col, .ref c']) (h' := h') (t' := tk) I2 hP (fun b o hb e => hx b o hb e) htab'.2 hge ⟨oc, vs2, t2, hoc, hd2, hv2⟩) ?_ (fun b hb hlt2 => ?_)
    · refine ⟨⟨ps ++ #[rawInt gpos.line, rawInt gpos.col, .ref c'], by rw [upd_ne hPc, upd_same], htr, fun p' cv hcv => ?_⟩, fun b o hb e => by rw [upd_ne (ne_of_none e hn), upd_ne hb]; exact e⟩
      rw [Array.toList_append] at hcv
      rcases LamX.among_app _ trs hcv with z | z
      · obtain ⟨c0, z1, z2⟩ := hnm p' cv z
        have zP : c0 ≠ P := fun z3 => by
          rw [z3, hP] at z2
          exact LamX.codeO_ne ps (Option.some.inj z2).symm
        exact ⟨c0, z1, by rw [upd_ne (ne_of_none z2 hn), upd_ne zP]; exact z2⟩
      · exact ⟨c', z, upd_same⟩
    · rw [upd_ne (Nat.ne_of_lt (Nat.lt_of_lt_of_le hlt2 hge)), upd_ne hb]
  | some cv =>
    refine wpAny_genexprCode_hit hcode (cd.code hPs trs) hit ?_
    exact cont cv s2.heap s2.toks H1 (Heap.ExtBut.refl _ _) (Nat.le_refl _) (I2.kept (t' := s2.toks) fun _ _ e => e) ⟨⟨ps, hP, trs, hnm⟩, fun _ _ _ e => e⟩ fun _ _ _ => rfl

theorem pe_anyG2 {c P : Addr} {elt tg iter tg1 iter1 : Expr} {ifs ifs1 : List Expr} {p pos gpos : Pos} {scope : Scope} {own : List (Str × Nat)} {k : Nat} {wi wi1 : TI} {g g1 : TG} {tt tt1 : TT} {vs1 : List Nat} {te : TE}
    (hr : Room (k + 1) X.A) (hgl : Gl X "any") (hm : X.mg "any" = none) (TB : TabB X.base X.mg c P) (hcode : X.env.code = .ref c) (hN : X.N.Nodup) (ok : GOk X.N X.env.scope scope own) (hi : PI X tg iter wi)
    (hg : ∀ (A' : Around) (s : Shared) (H : Hp) (C : Addr) (cl : List (Str × Addr)) (code : Value) (fp : List Addr) (pn : List (Addr × Obj)), Room k A' → PG (gCx X A' s H (genEnv scope cl C code builtinsNs X.env) fp pn) tg g)
    (ht : ∀ (A' : Around) (s : Shared) (H : Hp) (C : Addr) (cl : List (Str × Addr)) (code : Value) (fp : List Addr) (pn : List (Addr × Obj)), Room k A' → PTs (gCx X A' s H (genEnv scope cl C code builtinsNs X.env) fp pn) ifs tt)
    (he : ∀ (A' : Around) (s : Shared) (H : Hp) (C : Addr) (cl : List (Str × Addr)) (code : Value) (fp : List Addr) (pn : List (Addr × Obj)), Room k A' → PE (gCx X A' s H (genEnv scope cl C code builtinsNs X.env) fp pn) elt te)
    (hv : ∀ i ∈ vs1, i ∈ own.map (·.2)) (hi1 : ∀ (A' : Around) (s : Shared) (H : Hp) (C : Addr) (cl : List (Str × Addr)) (code : Value) (fp : List Addr) (pn : List (Addr × Obj)), Room k A' → PI (gCx X A' s H (genEnv scope cl C code builtinsNs X.env) fp pn) tg1 iter1 wi1) (hg1 : ∀ (A' : Around) (s : Shared) (H : Hp) (C : Addr) (cl : List (Str × Addr)) (code : Value) (fp : List Addr) (pn : List (Addr × Obj)), Room k A' → PG (gCx X A' s H (genEnv scope cl C code builtinsNs X.env) fp pn) tg1 g1) (ht1 : ∀ (A' : Around) (s : Shared) (H : Hp) (C : Addr) (cl : List (Str × Addr)) (code : Value) (fp : List Addr) (pn : List (Addr × Obj)), Room k A' → PTs (gCx X A' s H (genEnv scope cl C code builtinsNs X.env) fp pn) ifs1 tt1) (hs1 : ∀ env x, foldedSetIterable iter1 env x = pure x)
    (hs : ∀ v, genFold iter X.env v = pure v := by intro _; rfl)
    (hst : starEach [.GeneratorExp elt [⟨tg, iter, ifs, 0⟩, ⟨tg1, iter1, ifs1, 0⟩] scope gpos] X.env = (false, eval (.GeneratorExp elt [⟨tg, iter, ifs, 0⟩, ⟨tg1, iter1, ifs1, 0⟩] scope gpos) X.env) :: starEach [] X.env := by rfl) :
    PE X (.Call (.Name "any" p) [.GeneratorExp elt [⟨tg, iter, ifs, 0⟩, ⟨tg1, iter1, ifs1, 0⟩] scope gpos] [] pos) (tQG2 true P (X.env.qual ++ "<genexpr>") wi g tt wi1 g1 tt1 te (own.map (·.2)) vs1) := by
  constructor
  intro pins s σ H Q I h
  refine wpAny_Call_Name_kw (ld_blt I hgl hm boot_any ?_)
  refine PyProof.Rows.callWith_builtin1 ?_ hst (by rfl)
  rw [hst]
  show wpAny _ _ (spliced ((false, eval (.GeneratorExp elt [⟨tg, iter, ifs, 0⟩, ⟨tg1, iter1, ifs1, 0⟩] scope gpos) X.env) :: backTo pos (starEach [] X.env))) _ _ s
  refine Calls.spliced_cons (gen_made2 (Q := Q) hr TB hcode hN ok hi hg ht he hv hi1 hg1 ht1 hs1 hs I h fun a gn n fp H2 s4 s5 I4 f4 hos hba hge hli hkp hgs => ?_)
  refine Calls.spliced_nil ?_
  obtain ⟨gs, hgs, hgo⟩ := hgs
  refine call_function_tree F.kind_any F.plain_any F.entry_any
    (F.args_any1 _) ?_
  unfold Builtin.«any»
  refine wpAny_bind (m := oneArg "any" _) (wpAny_pure (wpAny_bind (wpAny_pyIter_gen hge ?_)))
  refine wpAny_pure ⟨plainId_quiet F.plain_any_loop _, loop_any (fp := fp) (H0 := H2) (s0 := s4) (g := gn) (Qs := fun H' => Q (.bl true) H') (Qd := fun H' => Q (.bl (!true)) H') hr.hd (by have := hr.dp; omega) (fun s' H' hf hq => ?_) (fun s' H' hf hq => ?_) n s5 hge hli ⟨gs, hgs, hgo _ rfl (allBare_setGen hba rfl) rfl⟩⟩
  · exact ⟨.bl true, H', hf.inv I4 f4, rfl, hq⟩
  · exact ⟨.bl false, H', hf.inv I4 f4, rfl, hq⟩
end
end Gx

set_option maxRecDepth 100000
set_option maxHeartbeats 4100000
/-! any(f for x in xs if .. for y in ys if ..) -/
namespace Dl
open L2 PySem PySem.Spec PyProof.Rows
def any2M (gd : D → DE → M DE) (t : DE → M Bool) (mi1 : DE → M (List D)) (gd1 : D → DE → M DE) (t1 : DE → M Bool) (f : DE → M D) (vs1 : List Nat) (e : DE) : List D → M Bool
  | [] => pure false
  | x :: xs => do
    let e' ← gd x e
    let b ← M.noX (t e')
    if b then (do
      let ys ← M.noX (mi1 e')
      M.need (ys.length ≤ sizeLine)
      let r ← allM true gd1 t1 f (wipeE e' vs1) ys
      if r then pure true else any2M gd t mi1 gd1 t1 f vs1 e xs) else any2M gd t mi1 gd1 t1 f vs1 e xs
section
variable {X : Cx} {W : Wd} {H0 : Hp} {E : XK} {pos p gpos : Pos} {elt tg iter tg1 iter1 : Expr} {ifs ifs1 : List Expr} {scope : Scope} {own : List (Str × Nat)} {mi mi1 : DE → M (List D)} {g g1 : TG} {gd gd1 : D → DE → M DE} {t t1 : DE → M Bool} {f : DE → M D} {k : Nat} {cc P : Addr} {vs1 : List Nat}
theorem any2_lift {σ : L2.St} {H : Hp} {Q : VK} {vs : List Nat} {qn : Str} (hP : W.Tb P qn) (hg : GD W g gd) (hw : GW g vs) (hg1 : GD W g1 gd1) (hw1 : GW g1 vs1)
    (h : lift W H0 E (fun e => do let xs ← mi e; let r ← any2M gd t mi1 gd1 t1 f vs1 (wipeE e vs) xs; pure (.bl r)) σ H Q) : Gx.tQG2 true P qn (liftI W H0 E mi) g (liftT W H0 E0 t) (liftI W H0 E0 mi1) g1 (liftT W H0 E0 t1) (lift W H0 E0 f) vs vs1 σ H Q := by
  obtain ⟨e, st, k0, _, g0, q⟩ := h
  refine ⟨e, st, k0, _, g0, (mi e).mono (fun xs γ1 z J H1 k1 g1' wk => ⟨W.tG _ H1 P qn g1' hP, fun H2 tb => ?_⟩) (fun _ _ z => z) q⟩
  have k2 : Keep W H1 H2 := fun b o hb hs => tb.2 b o (fun e => hs (by rw [e]; exact W.tS P qn hP)) hb
  have g2 : W.G γ1 H2 := W.tU _ H1 H2 P qn g1' hP tb
  have z : (any2M gd t mi1 gd1 t1 f vs1 (wipeE e vs) xs).run γ1 (fun r γ' => ∀ v H', Keep W H H' → W.G γ' H' → Rep W.K H' (.bl r) v → Q v H') (XD W H0 E) := z
  refine ⟨sizeLine, fun i m H' => m = xs.length - i ∧ i ≤ xs.length ∧ Keep W H2 H' ∧ ∃ γ, W.G γ H' ∧ (any2M gd t mi1 gd1 t1 f vs1 (wipeE e vs) (xs.drop i)).run γ (fun r γ' => ∀ v H', Keep W H H' → W.G γ' H' → Rep W.K H' (.bl r) v → Q v H') (XD W H0 E),
    ⟨xs.length, by simp, Nat.zero_le _, Keep.refl _, γ1, g2, by rw [List.drop_zero]; exact z⟩, ?_⟩
  rintro i m H' ⟨rfl, hi, k3, γ3, g3, z⟩
  obtain ⟨w1, w2, w3⟩ := wk _ H' (k2.trans k3) g3
  by_cases hlt : i < xs.length
  · refine .inr ⟨w1 i hlt, fun H'' => Keep W H2 H'' ∧ ∃ γ, W.G γ H'' ∧ (any2M gd t mi1 gd1 t1 f vs1 (wipeE e vs) (xs.drop (i + 1))).run γ (fun r γ' => ∀ v H', Keep W H H' → W.G γ' H' → Rep W.K H' (.bl r) v → Q v H') (XD W H0 E), fun H'' ⟨q1, q2, q3⟩ => ⟨xs.length - (i + 1), by omega, rfl, hlt, q1, q2, q3⟩, fun x Hx y => ?_⟩
    obtain ⟨k4, g4, d, hd, rd⟩ := w3 i x Hx hlt y
    have kx : Keep W H Hx := ((k1.trans k2).trans k3).trans k4
    rw [drop_cons hd] at z
    simp only [any2M, M.run_bind, M.run_noX] at z
    refine hw x _ Hx _ (hg H0 E x d _ _ Hx _ _ g4 ((st.keep g0 kx).wipe vs) rd ((gd d (wipeE e vs)).mono (fun e' _ z2 g4' σ' st' => ?_) (fun _ _ z => z) z))
    refine ⟨e', st', k0.trans kx, _, g4', (t e').mono (fun b _ z3 H5 k5 g5 => ?_) (fun _ _ z => z.elim) z2⟩
    have h5 : Keep W H' H5 := k4.trans k5
    cases b with
    | false =>
      simp only [Bool.false_eq_true, if_false] at z3 ⊢
      exact ⟨k3.trans h5, _, g5, z3⟩
    | true =>
      simp only [if_true] at z3 ⊢
      have z3 : (mi1 e').run _ (fun ys γ => ys.length ≤ sizeLine ∧ (allM true gd1 t1 f (wipeE e' vs1) ys).run γ (fun r γ => (if r = true then (pure true : M Bool) else any2M gd t mi1 gd1 t1 f vs1 (wipeE e vs) (xs.drop (i + 1))).run γ (fun r γ' => ∀ v H', Keep W H H' → W.G γ' H' → Rep W.K H' (.bl r) v → Q v H') (XD W H0 E)) (XD W H0 E)) (fun _ _ => False) := z3
      refine ⟨e', st'.keep g4' k5, (k0.trans kx).trans k5, _, g5, (mi1 e').mono (fun ys γ6 z4 J1 H6 k6 g6 wk1 => ?_) (fun _ _ z => z.elim) z3⟩
      obtain ⟨few, z4⟩ := z4
      have st6 := (st'.keep g4' k5).keep g5 k6
      have kH6 : Keep W H H6 := (kx.trans k5).trans k6
      refine ⟨fun j k H7 => k = ys.length - j ∧ j ≤ ys.length ∧ Keep W H6 H7 ∧ ∃ γ, W.G γ H7 ∧ (allM true gd1 t1 f (wipeE e' vs1) (ys.drop j)).run γ (fun r γ => (if r = true then (pure true : M Bool) else any2M gd t mi1 gd1 t1 f vs1 (wipeE e vs) (xs.drop (i + 1))).run γ (fun r γ' => ∀ v H', Keep W H H' → W.G γ' H' → Rep W.K H' (.bl r) v → Q v H') (XD W H0 E)) (XD W H0 E),
        ⟨ys.length, few, by simp, Nat.zero_le _, Keep.refl _, γ6, g6, by rw [List.drop_zero]; exact z4⟩, ?_⟩
      rintro j k H7 ⟨rfl, hj, k7, γ7, g7, z⟩
      obtain ⟨v1, v2, v3⟩ := wk1 _ H7 k7 g7
      by_cases hjlt : j < ys.length
      case neg =>
        have ej : j = ys.length := by omega
        subst ej
        refine .inl ⟨v2, ?_⟩
        rw [List.drop_of_length_le (Nat.le_refl _)] at z
        have z : (if (!true) = true then (pure true : M Bool) else any2M gd t mi1 gd1 t1 f vs1 (wipeE e vs) (xs.drop (i + 1))).run γ7 _ _ := z
        exact ⟨((k3.trans h5).trans k6).trans k7, _, g7, z⟩
      refine .inr ⟨v1 j hjlt, fun H'' => Keep W H6 H'' ∧ ∃ γ, W.G γ H'' ∧ (allM true gd1 t1 f (wipeE e' vs1) (ys.drop (j + 1))).run γ (fun r γ => (if r = true then (pure true : M Bool) else any2M gd t mi1 gd1 t1 f vs1 (wipeE e vs) (xs.drop (i + 1))).run γ (fun r γ' => ∀ v H', Keep W H H' → W.G γ' H' → Rep W.K H' (.bl r) v → Q v H') (XD W H0 E)) (XD W H0 E),
        fun H'' ⟨q1, q2, q3⟩ => ⟨ys.length - (j + 1), by omega, rfl, hjlt, q1, q2, q3⟩, fun x1 Hy y1 => ?_⟩
      obtain ⟨k8, g8, d1, hd1, rd1⟩ := v3 j x1 Hy hjlt y1
      have ky : Keep W H6 Hy := k7.trans k8
      rw [drop_cons hd1] at z
      simp only [allM, M.run_bind, M.run_noX] at z
      refine hw1 x1 _ Hy _ (hg1 H0 E x1 d1 _ _ Hy _ _ g8 ((st6.keep g6 ky).wipe vs1) rd1 ((gd1 d1 (wipeE e' vs1)).mono (fun e'' _ z5 g8' σ'' st'' => ?_) (fun _ _ z => z) z))
      have k0y : Keep W H0 Hy := (k0.trans kH6).trans ky
      refine ⟨e'', st'', k0y, _, g8', (t1 e'').mono (fun b _ z6 H9 k9 g9 => ?_) (fun _ _ z => z.elim) z5⟩
      cases b with
      | false =>
        simp only [Bool.false_eq_true, if_false] at z6 ⊢
        exact ⟨ky.trans k9, _, g9, z6⟩
      | true =>
        simp only [if_true] at z6 ⊢
        refine ⟨e'', st''.keep g8' k9, k0y.trans k9, _, g9, (f e'').mono (fun dy _ z7 v H10 k10 g10 r10 => ?_) (fun _ _ z => z.elim) z6⟩
        cases dy <;> first | exact z7.elim | skip
        rename_i c
        simp only [Rep] at r10
        refine ⟨c, r10, fun hc => ?_, fun hc => ?_⟩
        · have z7 : (if c = true then (pure true : M Bool) else allM true gd1 t1 f (wipeE e' vs1) (ys.drop (j + 1))).run _ _ _ := z7
          rw [if_pos hc] at z7
          have z7 : (if true = true then (pure true : M Bool) else any2M gd t mi1 gd1 t1 f vs1 (wipeE e vs) (xs.drop (i + 1))).run _ _ _ := z7
          rw [if_pos rfl] at z7
          exact z7 _ H10 (((kH6.trans ky).trans k9).trans k10) g10 (by simp only [Rep])
        · have z7 : (if c = true then (pure true : M Bool) else allM true gd1 t1 f (wipeE e' vs1) (ys.drop (j + 1))).run _ _ _ := z7
          rw [if_neg (by rw [hc]; decide)] at z7
          exact ⟨(ky.trans k9).trans k10, _, g10, z7⟩
  · have e1 : i = xs.length := by omega
    subst e1
    refine .inl ⟨w2, ?_⟩
    rw [List.drop_of_length_le (Nat.le_refl _)] at z
    exact z _ H' ((k1.trans k2).trans k3) g3 (by simp only [Rep]; rfl)
theorem dp_any2 (hP : W.Tb P (X.env.qual ++ "<genexpr>")) (hr : Room (k + 1) X.A) (hm : X.mg "any" = none) (TB : GxR.TabB X.base X.mg cc P) (hcode : X.env.code = .ref cc) (hN : X.N.Nodup) (ok : Gx.GOk X.N X.env.scope scope own) (hv : ∀ i ∈ vs1, i ∈ own.map (·.2)) (hi : PI X tg iter (liftI W H0 E mi)) (hgd : GD W g gd) (hgw : GW g (own.map (·.2))) (hgd1 : GD W g1 gd1) (hgw1 : GW g1 vs1)
    (hg : ∀ (A' : Around) (s : Shared) (H : Hp) (C : Addr) (cl : List (Str × Addr)) (code : Value) (fp : List Addr) (pn : List (Addr × Obj)), Room k A' → PG (Gx.gCx X A' s H (genEnv scope cl C code builtinsNs X.env) fp pn) tg g)
    (ht : ∀ (A' : Around) (s : Shared) (H : Hp) (C : Addr) (cl : List (Str × Addr)) (code : Value) (fp : List Addr) (pn : List (Addr × Obj)), Room k A' → PTs (Gx.gCx X A' s H (genEnv scope cl C code builtinsNs X.env) fp pn) ifs (liftT W H0 E0 t))
    (hi1 : ∀ (A' : Around) (s : Shared) (H : Hp) (C : Addr) (cl : List (Str × Addr)) (code : Value) (fp : List Addr) (pn : List (Addr × Obj)), Room k A' → PI (Gx.gCx X A' s H (genEnv scope cl C code builtinsNs X.env) fp pn) tg1 iter1 (liftI W H0 E0 mi1))
    (hg1 : ∀ (A' : Around) (s : Shared) (H : Hp) (C : Addr) (cl : List (Str × Addr)) (code : Value) (fp : List Addr) (pn : List (Addr × Obj)), Room k A' → PG (Gx.gCx X A' s H (genEnv scope cl C code builtinsNs X.env) fp pn) tg1 g1)
    (ht1 : ∀ (A' : Around) (s : Shared) (H : Hp) (C : Addr) (cl : List (Str × Addr)) (code : Value) (fp : List Addr) (pn : List (Addr × Obj)), Room k A' → PTs (Gx.gCx X A' s H (genEnv scope cl C code builtinsNs X.env) fp pn) ifs1 (liftT W H0 E0 t1))
    (he : ∀ (A' : Around) (s : Shared) (H : Hp) (C : Addr) (cl : List (Str × Addr)) (code : Value) (fp : List Addr) (pn : List (Addr × Obj)), Room k A' → PE (Gx.gCx X A' s H (genEnv scope cl C code builtinsNs X.env) fp pn) elt (lift W H0 E0 f))
    (hgl : Gl X "any" := by rfl) (hs : ∀ v, genFold iter X.env v = pure v := by intro _; rfl) (hs1 : ∀ env x, foldedSetIterable iter1 env x = pure x := by intro _ _; rfl)
    (hst : starEach [.GeneratorExp elt [⟨tg, iter, ifs, 0⟩, ⟨tg1, iter1, ifs1, 0⟩] scope gpos] X.env = (false, eval (.GeneratorExp elt [⟨tg, iter, ifs, 0⟩, ⟨tg1, iter1, ifs1, 0⟩] scope gpos) X.env) :: starEach [] X.env := by rfl) :
    PE X (.Call (.Name "any" p) [.GeneratorExp elt [⟨tg, iter, ifs, 0⟩, ⟨tg1, iter1, ifs1, 0⟩] scope gpos] [] pos) (lift W H0 E fun e => do let xs ← mi e; let r ← any2M gd t mi1 gd1 t1 f vs1 (wipeE e (own.map (·.2))) xs; pure (.bl r)) :=
  PE.imp (Gx.pe_anyG2 hr hgl hm TB hcode hN ok hi hg ht he hv hi1 hg1 ht1 hs1 hs (hst := hst)) fun σ H Q h => any2_lift hP hgd hgw hgd1 hgw1 h
end
end Dl

set_option maxRecDepth 100000
set_option maxHeartbeats 4100000
/-! sorted({f for x in xs if .. for y in ys if ..}) of ints -/
namespace Dl
open L2 PySem PySem.Spec PyProof.Rows PpSet
theorem turnS_out (elt tg iter tg1 iter1 : Expr) (ifs ifs1 : List Expr) (scope : Scope) (pos : Pos) (it acc : Value) (env : Env) :
    compTurn (.SetComp elt [⟨tg, iter, ifs, 0⟩, ⟨tg1, iter1, ifs1, 0⟩] scope pos) 0 it acc env = (do
      standAt iter.pos
      match ← pyNext it with
      | none => pure (.done .next)
      | some item =>
        letOwnedTupleGo tg it item
        assign tg env item
        let mut good := true
        for c in ifs do
          if good then good ← isTrue c env (eval c env)
        if good then
          let source ← eval iter1 env
          standAt iter1.pos
          let source ← foldedSetIterable iter1 env source
          let _ ← runOwn (.compStart (.SetComp elt [⟨tg, iter, ifs, 0⟩, ⟨tg1, iter1, ifs1, 0⟩] scope pos) 1 (← holding [source] (pyIter source)) acc env) env
        again (.compLoop (.SetComp elt [⟨tg, iter, ifs, 0⟩, ⟨tg1, iter1, ifs1, 0⟩] scope pos) 0 it acc env)) := by rfl
theorem turnS_in (elt tg iter tg1 iter1 : Expr) (ifs ifs1 : List Expr) (scope : Scope) (pos : Pos) (it acc : Value) (env : Env) :
    compTurn (.SetComp elt [⟨tg, iter, ifs, 0⟩, ⟨tg1, iter1, ifs1, 0⟩] scope pos) 1 it acc env = (do
      standAt iter1.pos
      match ← pyNext it with
      | none => pure (.done .next)
      | some item =>
        letOwnedTupleGo tg1 it item
        assign tg1 env item
        let mut good := true
        for c in ifs1 do
          if good then good ← isTrue c env (eval c env)
        if good then
          (do let given ← eval elt env; standAt elt.pos; let _ ← call (.builtin "set.add") [acc, given])
        again (.compLoop (.SetComp elt [⟨tg, iter, ifs, 0⟩, ⟨tg1, iter1, ifs1, 0⟩] scope pos) 1 it acc env)) := by rfl
/-- the second clause's start -/
theorem compStart1S_ok {prog : Program} {w : World} {A : Around} {R : Result → Shared → Prop} {s : Shared} {elt t0 i0 t1 i1 : Expr} {ifs0 ifs1 : List Expr} {scope : Scope} {pos : Pos} {it acc : Value} {env : Env}
    (h0 : codeAny (model prog w) A (.compLoop (.SetComp elt [⟨t0, i0, ifs0, 0⟩, ⟨t1, i1, ifs1, 0⟩] scope pos) 1 it acc env) R s)
    (h : wpAny (model prog w) A (pyIter it) (fun it' s' => codeAny (model prog w) A (.compLoop (.SetComp elt [⟨t0, i0, ifs0, 0⟩, ⟨t1, i1, ifs1, 0⟩] scope pos) 1 it' acc env) R s')
      (notedBy (model prog w) A env fun x s' => R (.error x) s') s) :
    codeAny (model prog w) A (.compStart (.SetComp elt [⟨t0, i0, ifs0, 0⟩, ⟨t1, i1, ifs1, 0⟩] scope pos) 1 it acc env) R s := by
  refine codeAny_of_tree ?_
  show wpAny _ _ ((compStart (.SetComp elt [⟨t0, i0, ifs0, 0⟩, ⟨t1, i1, ifs1, 0⟩] scope pos) 1 it acc env).onRaise (fun x => do noteFrame x env; standAt theWindowsPlace)) _ _ s
  refine wpAny_notedAt ?_
  unfold compStart
  show wpAny _ _ (ask >>= _) _ _ s
  refine wpAny_bind (wpAny_askSetting (wpAny_ite ?_))
  split
  · first
      | exact wpAny_bind (wpAny_pure (wpAny_pure (And.intro rfl h0)))
      | exact wpAny_pure (And.intro rfl h0)
  · first
      | exact wpAny_bind (wpAny_rule (wpAny_bind (wpAny_standAt (wpAny_bind (wpAny_mono h (fun it' s' h' => wpAny_pure (And.intro rfl h')) fun _ _ x => x)))))
      | (refine wpAny_bind (wpAny_rule ?_); show wpAny _ _ (standAt i1.pos >>= _) _ _ s; exact wpAny_bind (wpAny_standAt (wpAny_bind (wpAny_mono h (fun it' s' h' => wpAny_pure (And.intro rfl h')) fun _ _ x => x))))
/-- the reading: D is the new set -/
def tScI2 (w : World) (wi : TI) (g : TG) (tt : TT) (wi1 : TI) (g1 : TG) (tt1 : TT) (te : TE) (vs vs1 : List Nat) : TE := fun σ H Q => wi σ H fun J H1 => ∀ D, H1 D = none → ∃ W : Nat → Nat → Hp → Prop, (∃ m, W 0 m (upd H1 D (SetO w D (fun _ => false) 0))) ∧ ∀ i m H, W i m H →
  (J.stop i H ∧ Q (.ref D) H) ∨ (J.go i H ∧ ∃ Nx : Hp → Prop, (∀ H', Nx H' → ∃ m', m' < m ∧ W (i + 1) m' H') ∧ ∀ x H', J.yld i H x H' → g x (wipe σ vs) H' fun σ2 H2 => wipe σ2 vs = wipe σ vs ∧ tt σ2 H2 fun b H3 =>
    if b = true then wi1 σ2 H3 fun J1 H4 => ∃ W1 : Nat → Nat → Hp → Prop, (∃ k, W1 0 k H4) ∧ ∀ j k H, W1 j k H → (J1.stop j H ∧ Nx H) ∨ (J1.go j H ∧ ∃ Nx1 : Hp → Prop, (∀ H', Nx1 H' → ∃ k', k' < k ∧ W1 (j + 1) k' H') ∧
      ∀ x H', J1.yld j H x H' → g1 x (wipe σ2 vs1) H' fun σ3 H5 => wipe σ3 vs1 = wipe σ2 vs1 ∧ tt1 σ3 H5 fun b H6 =>
        if b = true then te σ3 H6 fun y H7 => ∃ (c : Int) (S : Int → Bool) (n : Nat), y = .int c ∧ H7 D = some (SetO w D S n) ∧ n + 1 < scanBound ∧ ((∀ c q, SetO w D S n ≠ LamX.CodeO c q) → Nx1 (upd H7 D (SetO w D (fun j => S j || decide (j = c)) (if S c = true then n else n + 1)))) else Nx1 H6)
    else Nx H3)
theorem pe_scI2 {X : Cx} {elt tg iter tg1 iter1 : Expr} {ifs ifs1 : List Expr} {scope : Scope} {own : List (Str × Nat)} {vs1 : List Nat} {pos : Pos} {wi wi1 : TI} {g g1 : TG} {tt tt1 : TT} {te : TE} (hc : X.calm = true) (hN : X.N.Nodup) (hi : PI X tg iter wi) (ok : BlkOk X.N X.env.scope scope own) (hv : ∀ i ∈ vs1, i ∈ own.map (·.2))
    (hg : ∀ (s : Shared) (H : Hp) (C : Addr) (cl : List (Str × Addr)) (fp : List Addr), PG (X.blk s H scope (compEnvC scope cl C X.env) fp) tg g) (ht : ∀ (s : Shared) (H : Hp) (C : Addr) (cl : List (Str × Addr)) (fp : List Addr), PTs (X.blk s H scope (compEnvC scope cl C X.env) fp) ifs tt)
    (hi1 : ∀ (s : Shared) (H : Hp) (C : Addr) (cl : List (Str × Addr)) (fp : List Addr), PI (X.blk s H scope (compEnvC scope cl C X.env) fp) tg1 iter1 wi1)
    (hg1 : ∀ (s : Shared) (H : Hp) (C : Addr) (cl : List (Str × Addr)) (fp : List Addr), PG (X.blk s H scope (compEnvC scope cl C X.env) fp) tg1 g1) (ht1 : ∀ (s : Shared) (H : Hp) (C : Addr) (cl : List (Str × Addr)) (fp : List Addr), PTs (X.blk s H scope (compEnvC scope cl C X.env) fp) ifs1 tt1)
    (he : ∀ (s : Shared) (H : Hp) (C : Addr) (cl : List (Str × Addr)) (fp : List Addr), PE (X.blk s H scope (compEnvC scope cl C X.env) fp) elt te) (hs : ∀ x, foldedSetIterable iter X.env x = pure x := by intro _; rfl) (hs1 : ∀ env x, foldedSetIterable iter1 env x = pure x := by intro _ _; rfl) :
    PE X (.SetComp elt [⟨tg, iter, ifs, 0⟩, ⟨tg1, iter1, ifs1, 0⟩] scope pos) (tScI2 X.w wi g tt wi1 g1 tt1 te (own.map (·.2)) vs1) := by
  refine ⟨fun pins s σ H Q I hh => ?_⟩
  rw [eval_SetComp]
  have free_ : ∀ y ∈ scope.names, y.2 = .free → ∃ c, X.env.cells.lookup y.1 = some c := fun y hy e => I.ok.has _ (ok.free y hy e)
  refine wpAny_comprehension_free rfl hs (closure_ok free_) ok.kind (fun y hy e => by rw [ok.uniq y hy, e]) (thn (hi.run pins s σ H _ I hh) fun xv s1 hx => thn hx fun itv s2 q2 => ?_)
  obtain ⟨it, fp, tn, J, H2, rfl, I2, T, at0, fpk, q⟩ := q2
  refine newSet_ok (newEnv_comp ?_)
  generalize eD : s2.heap.objs.size = D
  have freeD : H2 D = none := I2.hok.fresh (Nat.le_of_eq eD)
  obtain ⟨W, ⟨m0, w0⟩, turn⟩ := q D freeD
  generalize es3 : ({ s2 with heap := s2.heap.push { cls := .type "set", dict := none, data := .set #[] 0 (.fresh 0 0 (!X.w.params.followText "set-order")) } } : Shared) = s3
  have heap3 : s3.heap = s2.heap.push { cls := .type "set", dict := none, data := .set #[] 0 (.fresh 0 0 (!X.w.params.followText "set-order")) } := by rw [← es3]
  have I3 : L2.Inv X pins σ (upd H2 D (SetO X.w D (fun _ => false) 0)) s3 := by
    subst es3 eD
    exact I2.laid (t' := s2.toks) (fun b o e => Heap.get?_push_of_some _ e) (Nat.le_refl _) (setO_new (setR_fresh X.w))
  have lt2 : ∀ b ∈ fp, b < s2.heap.objs.size := fun b hb => (T.obj _ _ at0 b hb).elim fun o e => Heap.lt_size e.1
  have fp3 : ∀ b ∈ fp, FpOk X pins (upd H2 D (SetO X.w D (fun _ => false) 0)) b ∧ b < s3.heap.objs.size := fun b hb => by
    have l := lt2 b hb
    refine ⟨⟨?_, (fpk b hb).2⟩, by rw [heap3, Heap.size_push]; exact Nat.lt_succ_of_lt l⟩
    rw [upd_ne (fun z => by rw [z, ← eD] at l; exact Nat.lt_irrefl _ l)]
    exact (fpk b hb).1
  have at3 : tn 0 s3.heap := T.keep _ _ _ at0 fun b _ o e => by rw [heap3]; exact Heap.get?_push_of_some _ e
  have I4 := block_start I3 ok hN fp3
  have none3 : ∀ b ∈ fp, upd H2 D (SetO X.w D (fun _ => false) 0) b = none := fun b hb => (fp3 b hb).1.1
  generalize eH3 : upd H2 D (SetO X.w D (fun _ => false) 0) = H3 at I3 I4 w0 none3 fp3
  have Pg := hg s3 H3 s3.heap.objs.size (cellsFrom (s3.heap.objs.size + 1) scope.names (cloFrom X.env.cells scope.names [])) fp
  have Pt := ht s3 H3 s3.heap.objs.size (cellsFrom (s3.heap.objs.size + 1) scope.names (cloFrom X.env.cells scope.names [])) fp
  have Pe := he s3 H3 s3.heap.objs.size (cellsFrom (s3.heap.objs.size + 1) scope.names (cloFrom X.env.cells scope.names [])) fp
  have Pi1 := hi1 s3 H3 s3.heap.objs.size (cellsFrom (s3.heap.objs.size + 1) scope.names (cloFrom X.env.cells scope.names [])) fp
  have Pg1 := hg1 s3 H3 s3.heap.objs.size (cellsFrom (s3.heap.objs.size + 1) scope.names (cloFrom X.env.cells scope.names [])) fp
  have Pt1 := ht1 s3 H3 s3.heap.objs.size (cellsFrom (s3.heap.objs.size + 1) scope.names (cloFrom X.env.cells scope.names [])) fp
  show codeAny _ _ (.compStart (.SetComp elt [⟨tg, iter, ifs, 0⟩, ⟨tg1, iter1, ifs1, 0⟩] scope pos) 0 (.ref it) (.ref D) (compEnvC scope (cellsFrom (s3.heap.objs.size + 1) scope.names (cloFrom X.env.cells scope.names [])) s3.heap.objs.size X.env)) (compPost (model X.prog X.w) X.A X.xe none _ (.ref D) s3.heap.objs.size) { s3 with heap := pushCells (s3.heap.push { cls := .type "dict", data := .dict #[] }) scope.names }
  generalize ece : compEnvC scope (cellsFrom (s3.heap.objs.size + 1) scope.names (cloFrom X.env.cells scope.names [])) s3.heap.objs.size X.env = ce at I4 Pg Pt Pe Pi1 Pg1 Pt1 ⊢
  have loc : ce.locals = s3.heap.objs.size := by rw [← ece]; rfl
  generalize es4 : ({ s3 with heap := pushCells (s3.heap.push { cls := .type "dict", data := .dict #[] }) scope.names } : Shared) = s4 at I4 ⊢
  have at4 : tn 0 s4.heap := T.keep _ _ _ at3 fun b _ o e => by rw [← es4]; exact pushCells_keeps _ _ _ _ (Heap.get?_push_of_some _ e)
  have fpB : ∀ {σ' : L2.St} {H' : Hp} {s' : Shared}, L2.Inv (X.blk s3 H3 scope ce fp) [] σ' H' s' → (∀ b ∈ fp, H' b = none) → ∀ b ∈ fp, FpOk (X.blk s3 H3 scope ce fp) [] H' b := fun J n b hb =>
    ⟨n b hb, (J.ok.exf b hb).1, J.ok.exfs b hb, .inl hb, fun x c e => (J.ok.exf b hb).2 x c e, fun p hp => absurd (show p ∈ ([] : List (Addr × Obj)) ++ [] from hp) (by simp)⟩
  have loop : codeAny (model X.prog X.w) X.A (.compLoop (.SetComp elt [⟨tg, iter, ifs, 0⟩, ⟨tg1, iter1, ifs1, 0⟩] scope pos) 0 (.ref it) (.ref D) ce) (compPost (model X.prog X.w) X.A X.xe none (EP X pins σ Q) (.ref D) s3.heap.objs.size) s4 := by
    refine codeAny_loop rfl (fun n s' => ∃ i H', L2.Inv (X.blk s3 H3 scope ce fp) [] (wipe σ (own.map (·.2))) H' s' ∧ tn i s'.heap ∧ (∀ b ∈ fp, H' b = none) ∧ W i n H') (fun n s5 w => ?_) m0 ⟨0, H3, I4, at4, none3, w0⟩
    obtain ⟨i, H5, I5, at5, n5, w5⟩ := w
    show wpAny _ _ ((compTurn (.SetComp elt [⟨tg, iter, ifs, 0⟩, ⟨tg1, iter1, ifs1, 0⟩] scope pos) 0 (.ref it) (.ref D) ce).onRaise _) _ _ s5
    refine wpAny_noted ?_
    rw [turnS_out]
    refine wpAny_bind (wpAny_standAt (wpAny_bind ?_))
    rcases turn i n H5 w5 with ⟨stop, fin⟩ | ⟨go, Nx, next, step⟩
    · refine thnF (T.done (X.blk s3 H3 scope ce fp) rfl rfl rfl hc i [] s5 _ H5 (fun _ _ => False) I5 (fpB I5 n5) at5 stop) fun r s6 ⟨hr, I6⟩ => ?_
      subst hr
      refine wpAny_pure ?_
      have back : L2.Inv X pins σ H5 s6 := I3.call' (ch := fp) I6.os I6.base I6.hok I6.bare fun b hb => ⟨(fp3 b hb).1.2.2.2.1, (fp3 b hb).1.2.1, (fp3 b hb).1.2.2.2.2.1, (fp3 b hb).1.2.2.2.2.2⟩
      have nC : H5 s3.heap.objs.size = none := by
        rw [← loc]
        exact I6.free
      obtain ⟨m, ns, _⟩ := I6.loc
      have ns : s6.heap.Ns ce.locals m := ns
      rw [loc] at ns
      obtain ⟨y0, y1, y2, y3, y4, y5⟩ := I3.fpOk (Nat.le_refl _) nC
      exact ⟨m, ns, fun h'' sb => ⟨.ref D, H5, back.turned (t' := s6.toks) (fun b o hb e => (sb.2 b hb).trans e) y0 y1 y3 y4 y5, rfl, fin⟩⟩
    · refine thnF (T.item (X.blk s3 H3 scope ce fp) rfl rfl rfl hc i [] s5 _ H5 (fun _ _ => False) I5 (fpB I5 n5) at5 go) fun r s6 ⟨u, hr, got⟩ => ?_
      subst hr
      refine wpAny_bind (thnF got fun _ s7 ⟨x, H7, I7, r7, y7, at7, n7⟩ => ?_)
      have P7 := I7.pinned (fpB I7 n7) (T.obj _ _ at7)
      refine wpAny_bind (thnF (Pg.run _ s7 _ H7 x u _ P7 r7 (step x H7 y7)) fun _ s8 ⟨σ8, H8, I8, w8, q8⟩ => ?_)
      refine wpAny_bind (thnF (Pt.run _ s8 σ8 H8 _ I8 q8) fun b s9 ⟨H9, I9, q9⟩ => ?_)
      have hl8 : (wipe σ (own.map (·.2))).length = σ8.length := by rw [← w8, wipe_length]
      have hk8 : ∀ (j : Nat) v, (wipe σ (own.map (·.2)))[j]? = some (some v) → σ8[j]? = some (some v) := fun j v e => by
        rw [← w8] at e
        exact (wipe_some e).1
      have hk9 : ∀ (j : Nat) v, (wipe σ (own.map (·.2)))[j]? = some (some v) → (wipe σ8 vs1)[j]? = some (some v) := fun j v e => by
        rw [← w8] at e
        obtain ⟨e1, e2⟩ := wipe_some e
        rw [wipe_out fun z => e2 (hv j z)]
        exact e1
      have over : ∀ {σ9 : L2.St} {s' : Shared} {H' : Hp}, L2.Inv (X.blk s3 H3 scope ce fp) ([] ++ pinsAt fp s7.heap) σ9 H' s' → (wipe σ (own.map (·.2))).length = σ9.length → (∀ (j : Nat) v, (wipe σ (own.map (·.2)))[j]? = some (some v) → σ9[j]? = some (some v)) → Nx H' →
          ∃ m, m < n ∧ ∃ i H', L2.Inv (X.blk s3 H3 scope ce fp) [] (wipe σ (own.map (·.2))) H' s' ∧ tn i s'.heap ∧ (∀ b ∈ fp, H' b = none) ∧ W i m H' := fun {σ9 s' H'} K hl hk nx => by
        obtain ⟨m', hm, w'⟩ := next H' nx
        have pinned : ∀ b ∈ fp, ∀ o, s7.heap.get? b = some o → s'.heap.get? b = some o ∧ H' b = none := fun b hb o e => by
          obtain ⟨z1, z2, _⟩ := K.pin (b, o) (List.mem_append_right _ (List.mem_append_right _ (mem_pinsAt hb e)))
          exact ⟨z1, z2⟩
        refine ⟨m', hm, i + 1, H', (K.unpinned (pins := [])).weak hl hk, T.keep _ _ _ at7 fun b hb o e => (pinned b hb o e).1, fun b hb => ?_, w'⟩
        obtain ⟨o, e, _⟩ := T.obj _ _ at7 b hb
        exact (pinned b hb o e).2
      cases b with
      | false =>
        simp only [Bool.false_eq_true, if_false] at q9 ⊢
        exact wpAny_pure ⟨rfl, over I9 hl8 hk8 q9⟩
      | true =>
        simp only [if_true] at q9 ⊢
        refine wpAny_bind (thnF (Pi1.run _ s9 σ8 H9 _ I9 q9) fun xv s10 hx => ?_)
        refine wpAny_bind (wpAny_standAt (wpAny_bind (wpAny_of_eq (hs1 ce xv) (wpAny_bind (wpAny_holding (thnF hx fun itv s11 h11 => ?_))))))
        obtain ⟨it1, fp1, tn1, J1, H11, e1, I11, T1, st11, f11, W1, ⟨m1, w1⟩, turn1⟩ := h11
        subst e1
        have stat1 : ∀ {H' : Hp}, (∀ b ∈ fp1, H' b = none) → ∀ b ∈ fp1, FpOk (X.blk s3 H3 scope ce fp) ([] ++ pinsAt fp s7.heap) H' b := fun hn b hb => ⟨hn b hb, (f11 b hb).2⟩
        have loop1 : codeAny (model X.prog X.w) X.A (.compLoop (.SetComp elt [⟨tg, iter, ifs, 0⟩, ⟨tg1, iter1, ifs1, 0⟩] scope pos) 1 (.ref it1) (.ref D) ce)
            (fun r s' => match r with
              | .ok _ => ∃ m, m < n ∧ ∃ i H', L2.Inv (X.blk s3 H3 scope ce fp) [] (wipe σ (own.map (·.2))) H' s' ∧ tn i s'.heap ∧ (∀ b ∈ fp, H' b = none) ∧ W i m H'
              | .error _ => False) s11 := by
          refine codeAny_loop rfl (fun k s' => ∃ j H', L2.Inv (X.blk s3 H3 scope ce fp) ([] ++ pinsAt fp s7.heap) (wipe σ8 vs1) H' s' ∧ tn1 j s'.heap ∧ (∀ b ∈ fp1, H' b = none) ∧ W1 j k H') (fun k s12 w => ?_) m1 ⟨0, H11, I11.weak (wipe_length _ _) (fun j v e => (wipe_some e).1), st11, fun b hb => (f11 b hb).1, w1⟩
          obtain ⟨j, H12, I12, st12, n12, w12⟩ := w
          show wpAny _ _ ((compTurn (.SetComp elt [⟨tg, iter, ifs, 0⟩, ⟨tg1, iter1, ifs1, 0⟩] scope pos) 1 (.ref it1) (.ref D) ce).onRaise _) _ _ s12
          refine wpAny_noted ?_
          rw [turnS_in]
          refine wpAny_bind (wpAny_standAt (wpAny_bind ?_))
          rcases turn1 j k H12 w12 with ⟨stop1, nx1⟩ | ⟨go1, Nx1, next1, step1⟩
          · refine thnF (T1.done (X.blk s3 H3 scope ce fp) rfl rfl rfl hc j _ s12 (wipe σ8 vs1) H12 (fun _ _ => False) I12 (stat1 n12) st12 stop1) fun r s13 ⟨hr, I13⟩ => ?_
            subst hr
            exact wpAny_pure (over I13 (hl8.trans (wipe_length σ8 vs1).symm) hk9 nx1)
          · refine thnF (T1.item (X.blk s3 H3 scope ce fp) rfl rfl rfl hc j _ s12 (wipe σ8 vs1) H12 (fun _ _ => False) I12 (stat1 n12) st12 go1) fun r s13 ⟨u1, hr, h13⟩ => ?_
            subst hr
            refine wpAny_bind (thnF h13 fun _ s14 ⟨x1, H14, I14, r14, y14, st14, n14⟩ => ?_)
            have P14 := I14.pinned (stat1 n14) (T1.obj _ _ st14)
            refine wpAny_bind (thnF (Pg1.run _ s14 (wipe σ8 vs1) H14 x1 u1 _ P14 r14 (step1 x1 H14 y14)) fun _ s15 ⟨σ15, H15, I15, w15, q15⟩ => ?_)
            refine wpAny_bind (thnF (Pt1.run _ s15 σ15 H15 _ I15 q15) fun b1 s16 ⟨H16, I16, q16⟩ => ?_)
            have over1 : ∀ {s' : Shared} {H' : Hp}, L2.Inv (X.blk s3 H3 scope ce fp) (([] ++ pinsAt fp s7.heap) ++ pinsAt fp1 s14.heap) σ15 H' s' → Nx1 H' →
                ∃ m, m < k ∧ ∃ j H', L2.Inv (X.blk s3 H3 scope ce fp) ([] ++ pinsAt fp s7.heap) (wipe σ8 vs1) H' s' ∧ tn1 j s'.heap ∧ (∀ b ∈ fp1, H' b = none) ∧ W1 j m H' := fun {s' H'} K nx => by
              obtain ⟨m', hm, w'⟩ := next1 H' nx
              have pinned : ∀ b ∈ fp1, ∀ o, s14.heap.get? b = some o → s'.heap.get? b = some o ∧ H' b = none := fun b hb o e => by
                obtain ⟨z1, z2, _⟩ := K.pin (b, o) (List.mem_append_right _ (List.mem_append_right _ (mem_pinsAt hb e)))
                exact ⟨z1, z2⟩
              refine ⟨m', hm, j + 1, H', K.unpinned.weak (by rw [← w15, wipe_length]) (fun j v e => by rw [← w15] at e; exact (wipe_some e).1), T1.keep _ _ _ st14 fun b hb o e => (pinned b hb o e).1, fun b hb => ?_, w'⟩
              obtain ⟨o, e, _⟩ := T1.obj _ _ st14 b hb
              exact (pinned b hb o e).2
            cases b1 with
            | false =>
              simp only [Bool.false_eq_true, if_false] at q16 ⊢
              exact wpAny_pure ⟨rfl, over1 I16 q16⟩
            | true =>
              simp only [if_true] at q16 ⊢
              refine wpAny_bind (wpAny_bind (thnF (Pe.run _ s16 σ15 H16 _ I16 q16) fun z s17 ⟨yv, H17, I17, r17, c, S, kk, ey, hD, room, nx⟩ => ?_))
              subst ey
              refine wpAny_bind (wpAny_standAt (wpAny_bind (wpAny_mono (mt_sadd (X := X.blk s3 H3 scope ce fp) _ _ _ _ (.ref D) [.int c] (.ref D) [z] (fun v H' => Nx1 H') I17 rfl (.cons r17 .nil) ⟨D, c, S, kk, rfl, rfl, hD, room, nx (set_code (setO_get (X := X.blk s3 H3 scope ce fp) I17 hD))⟩) (fun _ s18 ⟨_, H18, I18, _, q18⟩ => ?_) fun _ _ y => False.elim y)))
              exact wpAny_pure (wpAny_pure ⟨rfl, over1 I18 q18⟩)
        refine wpAny_bind (wpAny_runOwn ?_)
        rw [Around.mark_none]
        refine codeAny_mono (compStart1S_ok loop1 (T1.self X.A 0 _ _ _ st11 loop1)) fun r s' hr => ?_
        cases r with
        | ok f =>
          first
            | exact wpAny_pure ⟨rfl, hr⟩
            | exact wpAny_bind (wpAny_pure (wpAny_pure ⟨rfl, hr⟩))
        | error e => exact hr.elim
  exact codeAny_compStart_set loop (T.self X.A 0 _ _ _ at4 loop)

/-! ### lifted -/
def sc2M (gd : D → DE → M DE) (t : DE → M Bool) (mi1 : DE → M (List D)) (gd1 : D → DE → M DE) (t1 : DE → M Bool) (f : DE → M D) (vs1 : List Nat) (e : DE) : List D → M (List D)
  | [] => pure []
  | x :: xs => do
    let e' ← gd x e
    let b ← M.noX (t e')
    if b then (do
      let ys ← M.noX (mi1 (shE e'))
      M.need (ys.length < 8)
      let zs ← compM gd1 t1 f (wipeE (shE e') vs1) ys
      let r ← sc2M gd t mi1 gd1 t1 f vs1 e xs
      pure (zs ++ r)) else sc2M gd t mi1 gd1 t1 f vs1 e xs
section
variable {X : Cx} {W : Wd} {H0 : Hp} {E : XK} {pos p spos : Pos} {elt tg iter tg1 iter1 : Expr} {ifs ifs1 : List Expr} {scope : Scope} {own : List (Str × Nat)} {mi mi1 : DE → M (List D)} {g g1 : TG} {gd gd1 : D → DE → M DE} {t t1 : DE → M Bool} {f : DE → M D} {vs1 : List Nat}
def PostS (W : Wd) (H : Hp) (Q : VK) (w : World) (ad : List Int) (ys : List D) (γ' : Gh) : Prop := ∃ ns, intsD (ad.map .int ++ ys) = some ns ∧ ∀ D S n H', H D = none → Keep W H H' → W.G γ' H' → H' D = some (SetO w D S n) → ¬ W.S D → (∀ k, S k = true ↔ k ∈ ns) → n < 64 → Q (.ref D) H'
theorem sc2_lift {σ : L2.St} {H : Hp} {Q : VK} {vs : List Nat} {w : World} (hg : GD W g gd) (hw : GW g vs) (hg1 : GD W g1 gd1) (hw1 : GW g1 vs1)
    (h : ∃ e, StOk W H0 H σ e ∧ Keep W H0 H ∧ ∃ γ, W.G γ H ∧ ((do let xs ← mi e; M.need (xs.length ≤ 8); sc2M gd t mi1 gd1 t1 (intF f) vs1 (wipeE e vs) xs : M (List Dl.D))).run γ (PostS W H Q w []) (XD W H0 E)) :
    tScI2 w (liftI W H0 E mi) g (liftT W H0 E0 t) (liftF W H0 E0 mi1) g1 (liftT W H0 E0 t1) (lift W H0 E0 f) vs vs1 σ H Q := by
  obtain ⟨e, st, k0, _, g0, q⟩ := h
  refine ⟨e, st, k0, _, g0, (mi e).mono (fun xs γ1 z J H1 k1 g1 wk D hD => ?_) (fun _ _ z => z) q⟩
  obtain ⟨few, z⟩ := z
  have z : (sc2M gd t mi1 gd1 t1 (intF f) vs1 (wipeE e vs) xs).run γ1 (PostS W H Q w []) (XD W H0 E) := z
  have nD : H D = none := k1.freed hD g0 g1
  have sD : ¬ W.S D := nS g1 hD
  refine ⟨fun i m H' => m = xs.length - i ∧ i ≤ xs.length ∧ Keep W H1 H' ∧ ∃ γ, W.G γ H' ∧ ∃ (S : Int → Bool) (n : Nat) (ad : List Int), H' D = some (SetO w D S n) ∧ (∀ k, S k = true ↔ k ∈ ad) ∧ n ≤ 7 * i ∧
    (sc2M gd t mi1 gd1 t1 (intF f) vs1 (wipeE e vs) (xs.drop i)).run γ (PostS W H Q w ad) (XD W H0 E),
    ⟨xs.length, by simp, Nat.zero_le _, Keep.new hD, γ1, gnew g1 hD, fun _ => false, 0, [], upd_same, fun k => by simp, Nat.zero_le _, by rw [List.drop_zero]; exact z⟩, ?_⟩
  rintro i m H' ⟨rfl, hi, k3, γ3, g3, S, n, ad, atD, mem, hn, z⟩
  obtain ⟨w1, w2, w3⟩ := wk _ H' k3 g3
  by_cases hlt : i < xs.length
  · refine .inr ⟨w1 i hlt, fun H'' => Keep W H1 H'' ∧ ∃ γ, W.G γ H'' ∧ ∃ (S : Int → Bool) (n : Nat) (ad : List Int), H'' D = some (SetO w D S n) ∧ (∀ k, S k = true ↔ k ∈ ad) ∧ n ≤ 7 * (i + 1) ∧
      (sc2M gd t mi1 gd1 t1 (intF f) vs1 (wipeE e vs) (xs.drop (i + 1))).run γ (PostS W H Q w ad) (XD W H0 E),
      fun H'' ⟨q1, q2, q3⟩ => ⟨xs.length - (i + 1), by omega, rfl, hlt, q1, q2, q3⟩, fun x Hx y => ?_⟩
    obtain ⟨k4, g4, d, hd, rd⟩ := w3 i x Hx hlt y
    have kx : Keep W H Hx := (k1.trans k3).trans k4
    rw [drop_cons hd] at z
    simp only [sc2M, M.run_bind, M.run_noX] at z
    refine hw x _ Hx _ (hg H0 E x d _ _ Hx _ _ g4 ((st.keep g0 kx).wipe vs) rd ((gd d (wipeE e vs)).mono (fun e' _ z2 g4' σ' st' => ?_) (fun _ _ z => z) z))
    refine ⟨e', st', k0.trans kx, _, g4', (t e').mono (fun b _ z3 H5 k5 g5 => ?_) (fun _ _ z => z.elim) z2⟩
    have h5 : Keep W H' H5 := k4.trans k5
    cases b with
    | false =>
      simp only [Bool.false_eq_true, if_false] at z3 ⊢
      exact ⟨k3.trans h5, _, g5, S, n, ad, h5 D _ atD sD, mem, by omega, z3⟩
    | true =>
      simp only [if_true, M.run_bind, M.run_noX, M.run_need] at z3 ⊢
      refine ⟨shE e', st'.shE (k5.toF g4), (k0.trans kx).trans k5, _, g5, (mi1 (shE e')).mono (fun ys _ z4 J1 H6 k6 g6 wk1 => ?_) (fun _ _ z => z.elim) z3⟩
      obtain ⟨zl, z4⟩ := z4
      have h6 : Keep W H' H6 := h5.trans k6
      have st6 : StOk W H0 H6 σ' (shE e') := st'.shE ((k5.trans k6).toF g4)
      refine ⟨fun j k H7 => k = ys.length - j ∧ j ≤ ys.length ∧ Keep W H1 H7 ∧ KeepF H6 H7 ∧ ∃ γ, W.G γ H7 ∧ ∃ (S : Int → Bool) (n : Nat) (ad : List Int), H7 D = some (SetO w D S n) ∧ (∀ k, S k = true ↔ k ∈ ad) ∧ n ≤ 7 * i + j ∧
        (compM gd1 t1 (intF f) (wipeE (shE e') vs1) (ys.drop j)).run γ (fun zs γ' => (sc2M gd t mi1 gd1 t1 (intF f) vs1 (wipeE e vs) (xs.drop (i + 1))).run γ' (fun r γ' => PostS W H Q w ad (zs ++ r) γ') (XD W H0 E)) (XD W H0 E),
        ⟨ys.length, by simp, Nat.zero_le _, k3.trans h6, KeepF.refl _, _, g6, S, n, ad, h6 D _ atD sD, mem, by omega, by rw [List.drop_zero]; exact z4⟩, ?_⟩
      rintro j k H7 ⟨rfl, hj, k7, f7, γ7, g7, S, n, ad, atD, mem, hn, z5⟩
      obtain ⟨v1, v2, v3⟩ := wk1 _ H7 f7 g7
      by_cases hlt' : j < ys.length
      · refine .inr ⟨v1 j hlt', fun H8 => Keep W H1 H8 ∧ KeepF H6 H8 ∧ ∃ γ, W.G γ H8 ∧ ∃ (S : Int → Bool) (n : Nat) (ad : List Int), H8 D = some (SetO w D S n) ∧ (∀ k, S k = true ↔ k ∈ ad) ∧ n ≤ 7 * i + (j + 1) ∧
          (compM gd1 t1 (intF f) (wipeE (shE e') vs1) (ys.drop (j + 1))).run γ (fun zs γ' => (sc2M gd t mi1 gd1 t1 (intF f) vs1 (wipeE e vs) (xs.drop (i + 1))).run γ' (fun r γ' => PostS W H Q w ad (zs ++ r) γ') (XD W H0 E)) (XD W H0 E),
          fun H8 ⟨q1, q2⟩ => ⟨ys.length - (j + 1), by omega, rfl, hlt', q1, q2⟩, fun x1 Hy y1 => ?_⟩
        obtain ⟨k8, g8, d1, hd1, rd1⟩ := v3 j x1 Hy hlt' y1
        rw [drop_cons hd1] at z5
        simp only [compM, M.run_bind, M.run_noX] at z5
        have st8 : StOk W H0 Hy σ' (shE e') := by
          have := st6.shE (f7.trans (k8.toF g7))
          rw [shE_shE] at this
          exact this
        have ky : Keep W H0 Hy := (((k0.trans k1)).trans k7).trans k8
        refine hw1 x1 σ' Hy _ (hg1 H0 E x1 d1 _ _ Hy _ _ g8 (st8.wipe vs1) rd1 ((gd1 d1 (wipeE (shE e') vs1)).mono (fun e2 _ z6 g8' σ2 st2 => ?_) (fun _ _ z => z) z5))
        refine ⟨e2, st2, ky, _, g8', (t1 e2).mono (fun b _ z7 H9 k9 g9 => ?_) (fun _ _ z => z.elim) z6⟩
        have h9 : Keep W H7 H9 := k8.trans k9
        cases b with
        | false =>
          simp only [Bool.false_eq_true, if_false] at z7 ⊢
          exact ⟨k7.trans h9, f7.trans (h9.toF g7), _, g9, S, n, ad, h9 D _ atD sD, mem, by omega, z7⟩
        | true =>
          simp only [if_true, M.run_bind, M.run_noX] at z7 ⊢
          refine ⟨e2, st2.keep g8 k9, ky.trans k9, _, g9, (f e2).mono (fun dy _ z8 v Ha ka ga ra => ?_) (fun _ _ z => z.elim) z7⟩
          have ha : Keep W H7 Ha := h9.trans ka
          have atDa := ha D _ atD sD
          cases dy <;> first | exact z8.elim | skip
          rename_i c
          simp only [Rep] at ra
          refine ⟨c, S, n, ra, atDa, by unfold scanBound; omega, fun nc => ⟨keep_lock (k7.trans ha) hD, (f7.trans (ha.toF g7)).trans (kf_set atDa), _, g_set ga sD atDa nc, _, _, ad ++ [c], upd_same, fun k => ?_, ?_, ?_⟩⟩
          · simp only [Bool.or_eq_true, decide_eq_true_eq, mem, List.mem_append, List.mem_singleton]
          · split <;> omega
          · refine (compM gd1 t1 (intF f) (wipeE (shE e') vs1) (ys.drop (j + 1))).mono (fun zs _ z9 => ?_) (fun _ _ z => z) z8
            refine (sc2M gd t mi1 gd1 t1 (intF f) vs1 (wipeE e vs) (xs.drop (i + 1))).mono (fun r _ z => ?_) (fun _ _ z => z) z9
            unfold PostS at z ⊢
            rw [List.map_append, List.append_assoc]
            exact z
      · have e1 : j = ys.length := by omega
        subst e1
        rw [List.drop_of_length_le (Nat.le_refl _)] at z5
        refine .inl ⟨v2, k7, _, g7, S, n, ad, atD, mem, by omega, z5⟩
  · have e1 : i = xs.length := by omega
    subst e1
    refine .inl ⟨w2, ?_⟩
    rw [List.drop_of_length_le (Nat.le_refl _)] at z
    obtain ⟨ns, hns, z⟩ := z
    rw [List.append_nil, intsD_map] at hns
    cases hns
    exact z D S n H' nD (k1.trans k3) g3 atD sD mem (by omega)
theorem do_sortedSC2 (hK : X.K = W.K) (hc : X.calm = true) (hm : X.mg "sorted" = none) (hN : X.N.Nodup) (hi : PI X tg iter (liftI W H0 E mi)) (ok : BlkOk X.N X.env.scope scope own) (hv : ∀ i ∈ vs1, i ∈ own.map (·.2)) (hgd : GD W g gd) (hgw : GW g (own.map (·.2))) (hgd1 : GD W g1 gd1) (hgw1 : GW g1 vs1)
    (hg : ∀ (s : Shared) (H : Hp) (C : Addr) (cl : List (Str × Addr)) (fp : List Addr), PG (X.blk s H scope (compEnvC scope cl C X.env) fp) tg g) (ht : ∀ (s : Shared) (H : Hp) (C : Addr) (cl : List (Str × Addr)) (fp : List Addr), PTs (X.blk s H scope (compEnvC scope cl C X.env) fp) ifs (liftT W H0 E0 t))
    (hi1 : ∀ (s : Shared) (H : Hp) (C : Addr) (cl : List (Str × Addr)) (fp : List Addr), PI (X.blk s H scope (compEnvC scope cl C X.env) fp) tg1 iter1 (liftF W H0 E0 mi1))
    (hg1 : ∀ (s : Shared) (H : Hp) (C : Addr) (cl : List (Str × Addr)) (fp : List Addr), PG (X.blk s H scope (compEnvC scope cl C X.env) fp) tg1 g1) (ht1 : ∀ (s : Shared) (H : Hp) (C : Addr) (cl : List (Str × Addr)) (fp : List Addr), PTs (X.blk s H scope (compEnvC scope cl C X.env) fp) ifs1 (liftT W H0 E0 t1))
    (he : ∀ (s : Shared) (H : Hp) (C : Addr) (cl : List (Str × Addr)) (fp : List Addr), PE (X.blk s H scope (compEnvC scope cl C X.env) fp) elt (lift W H0 E0 f)) (hs : ∀ x, foldedSetIterable iter X.env x = pure x := by intro _; rfl) (hs1 : ∀ env x, foldedSetIterable iter1 env x = pure x := by intro _ _; rfl) (hgs : Gl X "sorted" := by rfl)
    (hst : starEach [.SetComp elt [⟨tg, iter, ifs, 0⟩, ⟨tg1, iter1, ifs1, 0⟩] scope spos] X.env = (false, eval (.SetComp elt [⟨tg, iter, ifs, 0⟩, ⟨tg1, iter1, ifs1, 0⟩] scope spos) X.env) :: starEach [] X.env := by rfl) :
    PE X (.Call (.Name "sorted" p) [.SetComp elt [⟨tg, iter, ifs, 0⟩, ⟨tg1, iter1, ifs1, 0⟩] scope spos] [] pos) (liftO W H0 E fun e => do let ys ← (do let xs ← mi e; M.need (xs.length ≤ 8); sc2M gd t mi1 gd1 t1 (intF f) vs1 (wipeE e (own.map (·.2))) xs); ascSetD ys) :=
  PE.imp (pe_callB (cr_sortedSet hc) hgs hm (by decide +kernel) (pa_cons (pe_scI2 hc hN hi ok hv hg ht hi1 hg1 ht1 he hs hs1) pa_nil hst) (he := hst)) fun σ H Q ⟨e, s0, k0, γ, g0, q⟩ => by
    show tScI2 X.w (liftI W H0 E mi) g (liftT W H0 E0 t) (liftF W H0 E0 mi1) g1 (liftT W H0 E0 t1) (lift W H0 E0 f) (own.map (·.2)) vs1 σ H (fun v H1 => rSortedSet X.w [v] H1 Q)
    refine sc2_lift (E := E) (H0 := H0) hgd hgw hgd1 hgw1 ⟨e, s0, k0, γ, g0, ?_⟩
    refine M.mono _ (fun ys γ' z => ?_) (fun _ _ z => z) q
    have z : (ascSetD ys).run γ' (fun xs γ' => ∀ a vs H', H a = none → Keep W H H' → W.G γ' H' → H' a = some (.lst vs) → RepL W.K H' xs vs → ¬ W.S a → Q (.ref a) H') (XD W H0 E) := z
    unfold ascSetD at z
    split at z
    · rename_i ns hns
      refine ⟨ns, hns, fun D S n H' hD k g hs sD mem few => ⟨D, S, n, rfl, hs, few, fun ns' p hp1 hm hl' hn => ?_⟩⟩
      exact z ns' hp1 (fun k => (hm k).trans (mem k)) (by omega) p _ _ (k.freed hn g0 g) (k.trans (Keep.new hn)) (gnew g hn) upd_same (ints_repL ns') (nS g hn)
    · exact z.elim
end
end Dl

set_option maxRecDepth 100000
set_option maxHeartbeats 4100000
/-! sorted(t), t a tuple of data -/
namespace PySem.W
open PySem PySem.Calls PyProof.Rows
/-- collect of a tuple, its heap told exactly -/
def collected (h : Heap) (items : Array Value) : Heap := (h.push { cls := .type "list", data := .seq #[] }).update h.objs.size (Obj.mapSeq (· ++ items))
theorem collected_old {h : Heap} {items : Array Value} {b : Addr} {o : Obj} (e : h.get? b = some o) : (collected h items).get? b = some o :=
  (Heap.get?_update_other _ _ (Nat.ne_of_gt (Heap.lt_size e))).trans (Heap.get?_push_of_some _ e)
theorem collected_size (h : Heap) (items : Array Value) : (collected h items).objs.size = h.objs.size + 1 := by
  unfold collected
  rw [Heap.size_update, size_push']
theorem collect_tup {prog : Program} {w : World} {A : Around} {E : Value → Shared → Prop} {s : Shared} {Q : List Value → Shared → Prop} {it : Addr} {items : Array Value} (hl : s.heap.IsTuple it items) (few : items.size ≤ sizeLine) (q : Q items.toList { s with heap := collected s.heap items }) :
    wpAny (model prog w) A (collect (.ref it)) Q E s := by
  obtain ⟨o, ho, hc, n, hd⟩ := id hl
  have atL : (s.heap.push { cls := .type "list", data := .seq #[] }).get? s.heap.objs.size = some { cls := .type "list", data := .seq #[] 0 } := Heap.get?_push_size _ rfl
  have last : wpAny (model prog w) A (do
      let o ← load s.heap.objs.size
      match o.data with
      | .seq xs _ => pure xs.toList
      | _ => unsupported "internal:collect") Q E { s with heap := collected s.heap items } := by
    refine wpAny_bind (wpAny_load (Heap.get?_update_self (Obj.mapSeq (· ++ items)) atL rfl) (wpAny_pure ?_))
    have e : ((#[] : Array Value) ++ items).toList = items.toList := by simp
    show Q ((#[] : Array Value) ++ items).toList _
    rw [e]
    exact q
  unfold collect
  refine wpAny_bind (wpAny_runValue (codeAny_builtin F.entry_proto_collect ?_))
  rw [Around.under_plainId F.plain_proto_collect _]
  refine wpAny_bind (wpAny_newObj_type (wpAny_pure ⟨plainId_quiet F.plain_list_iadd _, codeAny_builtin F.entry_list_iadd ?_⟩))
  rw [Around.under_plainId F.plain_list_iadd _]
  have run := wpAny_extend_seq (hsz := few) (A := A) (R := fun r s' => r = .ok (.ret (.ref s.heap.objs.size)) ∧ s' = { s with heap := collected s.heap items })
    (s := { s with heap := s.heap.push { cls := .type "list", data := .seq #[] } }) (prog := prog) (w := w) _ it _ 0 (.inr rfl) atL (Heap.get?_push_of_some _ ho) hc hd ⟨rfl, rfl⟩
  refine wpAny_mono run (fun fin s' h => ?_) (fun e s' h => absurd h.1 (by simp))
  cases fin with
  | done f =>
    obtain ⟨e, rfl⟩ := h
    cases e
    exact last
  | again c' =>
    refine ⟨h.1, codeAny_mono h.2 fun r s'' hr => ?_⟩
    obtain ⟨rfl, rfl⟩ := hr
    exact last
theorem sorted_of_tup {prog : Program} {w : World} {A : Around} {E : Value → Shared → Prop} {s : Shared} {it : Addr} {vs : List Value} {Q : Value → Shared → Prop} (hl : s.heap.IsTuple it vs.toArray) (hL : vs.length ≤ sizeLine)
    (body : ∀ E' : Value → Shared → Prop, wpAny (model prog w) A.in1.in1 (Builtin.«list.sort» ⟨[.ref (s.heap.objs.size + 1)], []⟩) (fun f s' => f = .done (.ret .none) ∧ Q (.ref (s.heap.objs.size + 1)) s') E' { s with heap := (collected s.heap vs.toArray).push (seqObj "list" vs.toArray 0) }) :
    wpAny (model prog w) A (call (.builtin "sorted") [.ref it]) Q E s := by
  refine call_function_entry kind_sorted plain_sorted entry_sorted (args_sorted1 _) ?_
  unfold Builtin.«sorted»
  refine wpAny_bind (m := checkCount "sorted" 1 1 _) (wpAny_pure ?_)
  refine wpAny_bind (collect_tup hl (by simpa using hL) ?_)
  have e : vs.toArray.toList = vs := by simp
  rw [e]
  refine wpAny_bind (wpAny_newList ?_ hL)
  show wpAny _ _ _ _ _ { s with heap := (collected s.heap vs.toArray).push (seqObj "list" vs.toArray 0) }
  have hoL : ((collected s.heap vs.toArray).push (seqObj "list" vs.toArray 0)).get? (collected s.heap vs.toArray).objs.size = some (seqObj "list" vs.toArray 0) := Heap.get?_push_size _ rfl
  rw [collected_size] at hoL ⊢
  refine wpAny_bind (wpAny_holding (wpAny_call_entry_kw slot_list_sort ⟨_, hoL, rfl⟩ entry_list_sort ?body (args_list_sort _)))
  case body =>
    show wpAny (model prog w) A.in1.in1 (Builtin.«list.sort» ⟨[.ref (s.heap.objs.size + 1)], []⟩) _ _ _
    refine wpAny_mono (body _) (fun f s' hf => ?_) fun _ _ e => e
    obtain ⟨rfl, hq⟩ := hf
    exact ⟨_, rfl, wpAny_pure ⟨_, rfl, hq⟩⟩
theorem sorted_dataT {prog : Program} {w : World} {A : Around} {E : Value → Shared → Prop} {s : Shared} {β : Type} {R : Value → β → Prop} {enc : β → PyData} {vs : List Value} {bs : List β} {it : Addr} {Q : Value → Shared → Prop} (hl : s.heap.IsTuple it vs.toArray) (e : EachIs R vs bs) (er : EachIs (fun v b => ∃ as, Reads s.heap v (enc b) as) vs bs) (hal : AllAlike (bs.map enc)) (hk : Sortable (bs.map enc)) (hL : bs.length ≤ sizeLine)
    (hu : ∀ b, b ∈ bs → A.units + 2 + (enc b).depth < cLine)
    (h : ∀ out, out.length = bs.length → EachIs R out (bs.mergeSort (dataLe false enc)) → Q (.ref (s.heap.objs.size + 1)) { s with heap := sortedHeap ((collected s.heap vs.toArray).push (seqObj "list" vs.toArray 0)) (s.heap.objs.size + 1) vs (List.toArray out) }) :
    wpAny (model prog w) A (call (.builtin "sorted") [.ref it]) Q E s := by
  refine sorted_of_tup hl (by rw [e.length]; exact hL) fun E' => ?_
  have hoL : ((collected s.heap vs.toArray).push (seqObj "list" vs.toArray 0)).get? (collected s.heap vs.toArray).objs.size = some (seqObj "list" vs.toArray 0) := Heap.get?_push_size _ rfl
  rw [collected_size] at hoL
  have er' : EachIs (fun v b => ∃ as, Reads (sortingHeap ((collected s.heap vs.toArray).push (seqObj "list" vs.toArray 0)) (s.heap.objs.size + 1) vs) v (enc b) as) vs bs := er.mono fun _ _ ⟨as, r⟩ => ⟨as, PyProof.Rows.Reads.keeps (fun b o q => sortingHeap_old (Nat.ne_of_lt (Nat.lt_succ_of_lt (Heap.lt_size q))) (Heap.get?_push_of_some _ (collected_old q))) r⟩
  exact list_sort_vals (s := { s with heap := (collected s.heap vs.toArray).push (seqObj "list" vs.toArray 0) }) hoL (SortsAt.data (s := { s with heap := sortingHeap ((collected s.heap vs.toArray).push (seqObj "list" vs.toArray 0)) (s.heap.objs.size + 1) vs }) (each_map (R := fun v d => ∃ as, Reads (sortingHeap ((collected s.heap vs.toArray).push (seqObj "list" vs.toArray 0)) (s.heap.objs.size + 1) vs) v d as) enc er') hal hk (bound_map hu)) (by rw [e.length]; exact hL)
    ⟨rfl, h _ (by rw [sortVals_length false rfl]; exact e.length) (sortVals_data false e er' hal)⟩
end PySem.W
namespace Dl
open L2 PySem PySem.Spec PyProof.Rows
def rSortedDT (K : PySem.W.Frag) : List V → Hp → VK → Prop := fun vs H Q => ∃ a ws xs, vs = [.ref a] ∧ SqT K H a ws ∧ RepL K H xs ws ∧ SortOk xs ∧ ∀ p ys, H p = none → RepL K H (sortDs xs) ys → Q (.ref p) (upd H p (.lst ys))
theorem call_sortedDT {X : Cx} (hu : X.A.units + 100 < cLine) : CallR X (.builtin "sorted") (rSortedDT X.K) := by
  intro pins s σ H vs us Q I r ⟨a, ws, xs, e, sq, rl, ⟨ps, hp, hal, hso, hlen, hde⟩, q⟩
  subst e
  rw [Vals.ref1 r]
  obtain ⟨its, rv, pl, hz⟩ := I.tuple sq
  obtain ⟨ep, hx⟩ := toPyL_map hp
  have hl := rl.len
  have e := each_rep rl rv
  have em : (xs.zip ws).map (fun b => pyD b.1) = ps := by
    have := List.map_map (g := pyD) (f := fun b : D × V => b.1) (l := xs.zip ws)
    rw [zip_fst hl] at this
    rw [ep, this]
    rfl
  have mem : ∀ b ∈ xs.zip ws, toPy b.1 = some (pyD b.1) := fun b hb => hx b.1 (by
    have := List.mem_map_of_mem (f := fun b : D × V => b.1) hb
    rwa [zip_fst hl] at this)
  refine PySem.W.sorted_dataT (enc := fun b : D × V => pyD b.1) (bs := xs.zip ws) pl e (each_of e fun v b hb ⟨h1, h2⟩ => Dp.reads I _ _ _ (rep_dp _ _ _ (mem b hb) h2) h1) (by rw [em]; exact hal) (by rw [em]; exact hso) (by rw [List.length_zip]; omega)
    (fun b hb => by
      have := hde (pyD b.1) (by rw [← em]; exact List.mem_map_of_mem (f := fun b : D × V => pyD b.1) hb)
      omega) fun out ho eo => ?_
  obtain ⟨o1, o2⟩ := each_out eo
  have em2 : ((xs.zip ws).mergeSort (PySem.W.dataLe false fun b : D × V => pyD b.1)).map (·.1) = sortDs xs := by
    unfold sortDs
    have := List.map_mergeSort (r := PySem.W.dataLe false fun b : D × V => pyD b.1) (s := leD) (f := fun b : D × V => b.1) (l := xs.zip ws) (fun a _ b _ => rfl)
    rw [zip_fst hl] at this
    exact this
  rw [em2] at o2
  have hlo := o2.len
  have hlo2 : (sortDs xs).length = xs.length := List.length_mergeSort _
  have hoL : ((PySem.W.collected s.heap its.toArray).push (seqObj "list" its.toArray 0)).get? (PySem.W.collected s.heap its.toArray).objs.size = some (seqObj "list" its.toArray 0) := Heap.get?_push_size _ rfl
  rw [PySem.W.collected_size] at hoL
  obtain ⟨c, hc⟩ := sortedHeap_at (out := out.toArray) hoL
  have k : ∀ b o, s.heap.get? b = some o → (sortedHeap ((PySem.W.collected s.heap its.toArray).push (seqObj "list" its.toArray 0)) (s.heap.objs.size + 1) its out.toArray).get? b = some o := fun b o e => by
    have lt := Heap.lt_size e
    rw [sortedHeap_old (Nat.ne_of_lt (Nat.lt_succ_of_lt lt)) (by rw [Heap.size_push, PySem.W.collected_size]; exact Nat.lt_succ_of_lt (Nat.lt_succ_of_lt lt))]
    exact Heap.get?_push_of_some _ (PySem.W.collected_old e)
  have hn : H (s.heap.objs.size + 1) = none := I.hok.fresh (Nat.le_succ _)
  exact ⟨.ref (s.heap.objs.size + 1), L2.upd H (s.heap.objs.size + 1) (.lst ((List.mergeSort (xs.zip ws) (PySem.W.dataLe false fun b : D × V => pyD b.1)).map (·.2))), I.call (ch := []) (d' := s.drawn) (t' := s.toks) (g' := s.gens) (Un.laid k (Nat.le_succ _) hn) (I.hok.laid k (Nat.le_succ _) ⟨by rw [hlo, hlo2]; exact hlen, out, c, o1, hc⟩) I.bare (fun _ z => nomatch z), rfl, q _ _ hn o2⟩
section
variable {X : Cx} {W : Wd} {H0 : Hp} {E : XK} {pos p : Pos} {a : Expr} {ma : DE → M D}
@[simp] def sortedT : D → M (List D)
  | .tup xs => do M.need (SortOk xs); pure (sortDs xs)
  | _ => M.fail
theorem do_sortedT (hK : X.K = W.K) (hu : X.A.units + 100 < cLine) (hm : X.mg "sorted" = none) (ha : PE X a (lift1 W H0 E ma)) (hg : Gl X "sorted" := by rfl) (he : starEach [a] X.env = (false, eval a X.env) :: starEach [] X.env := by rfl) :
    PE X (.Call (.Name "sorted" p) [a] [] pos) (liftO W H0 E fun e => do let x ← ma e; sortedT x) :=
  PE.imp (pe_callB (call_sortedDT hu) hg hm (by decide +kernel) (pa_cons ha pa_nil he) (he := he)) fun σ H Q ⟨e, s0, k0, _, g, q⟩ => ⟨e, s0, k0, _, g, (ma e).mono (fun d _ z v H1 k1 g1 r1 => by
    cases d <;> first | exact z.elim | skip
    obtain ⟨z1, z2⟩ := z
    simp only [Rep1, Rep] at r1
    obtain ⟨b, vs, rfl, sq, rl⟩ := r1
    refine ⟨b, vs, _, rfl, by rw [hK]; exact sq.sq, by rw [hK]; exact rl, z1, fun q ys hq ry => ?_⟩
    rw [hK] at ry
    exact z2 q ys _ (k1.freed hq g g1) (k1.trans (Keep.new hq)) (gnew g1 hq) upd_same (ry.keep g1 (Keep.new hq)) (nS g1 hq)) (fun _ _ z => z) q⟩
end
end Dl

set_option maxRecDepth 100000
set_option maxHeartbeats 4100000
/-! list(d) of a locked dict of ints: its keys -/
namespace Dl
open L2 PySem PySem.Spec PyProof.Rows
section
variable {X : Cx} {W : Wd} {H0 : Hp} {E : XK} {pos p : Pos} {a : Expr} {ma : DE → M D}
theorem kvZ_keys : ∀ {ks : List Int} {ws : List V}, ws.length = ks.length → ((kvZ ks ws).map fun kv => kV kv.1) = ks.map V.int
  | [], [], _ => rfl
  | k :: ks, w :: ws, h => by
    have e : kvZ (k :: ks) (w :: ws) = ((Sum.inl k : L2.Key), w) :: kvZ ks ws := rfl
    rw [e, List.map_cons, List.map_cons, kvZ_keys (by simpa using h)]
    rfl
theorem do_listZ (hK : X.K = W.K) (hc : X.calm = true) (hm : X.mg "list" = none) (ha : PE X a (lift1 W H0 E ma)) (hg : Gl X "list" := by rfl) (he : starEach [a] X.env = (false, eval a X.env) :: starEach [] X.env := by rfl) :
    PE X (.Call (.Name "list" p) [a] [] pos) (liftO W H0 E fun e => do let x ← ma e; keysZ x) :=
  PE.imp (pe_callTy (call_listD hc) hg hm (by decide +kernel) (pa_cons ha pa_nil he) (he := he)) fun σ H Q ⟨e, s0, k0, _, g, q⟩ => ⟨e, s0, k0, _, g, (ma e).mono (fun d _ z v H1 k1 g1 r1 => by
    cases d <;> first | exact z.elim | skip
    rename_i ks vs
    simp only [Rep1, Rep] at r1
    obtain ⟨l, o, ws, rfl, hl, len, rl⟩ := r1
    refine ⟨l, _, rfl, .inr ⟨o, hl⟩, fun q hq => ?_⟩
    rw [kvZ_keys len]
    exact z q _ _ (k1.freed hq g g1) (k1.trans (Keep.new hq)) (gnew g1 hq) upd_same (ints_repL ks) (nS g1 hq)) (fun _ _ z => z) q⟩
variable {b : Expr} {mb : DE → M D}
/-- k in d, as a test -/
theorem dt_inZ (hu : X.A.units + 100 < cLine) (ha : PE X a (lift1 W H0 E ma)) (hb : PE X b (lift1 W H0 E mb)) (hm : behindInMarks .In b = false := by rfl) : PT X (.Compare a [.In] [b] pos) (liftT W H0 E fun e => do let x ← bin (inZ true) ma mb e; asB x) :=
  PT.imp (pt_cmp (pc_din (by omega) ha hb) hm) fun σ H Q h => by
    obtain ⟨e, st, k0, _, g, q⟩ := h
    refine two (ma := ma) (mb := mb) (f := inZ true) (E := E) (H0 := H0) (Q := fun x H' => ∃ k, x = .bl k ∧ Q k H') (r := fun y x H Q => ∃ l o, x = .ref l ∧ DGet H l y o ∧ Q (.bl o.isSome) H) (fun x y dx dy H Q γ g r1 r2 z => ?_) ⟨e, st, k0, _, g, (bin (inZ true) ma mb e).mono (fun d _ z v H' k g' r => ?_) (fun _ _ z => z) q⟩
    · unfold inZ at z
      split at z
      · rename_i k ks vs
        simp only [Rep1, Rep] at r1 r2
        obtain ⟨l, o, ws, ex, hl, len, rl⟩ := r2
        subst r1
        refine ⟨l, _, ex, .inl ⟨_, Sum.inl k, .inr ⟨o, hl⟩, rfl, rfl⟩, ?_⟩
        rw [inZ_get len rl]
        exact z _ H (Keep.refl H) g (by simp only [Rep]; rfl)
      · exact z.elim
    · cases d <;> first | exact z.elim | skip
      rename_i b
      simp only [Rep] at r
      exact ⟨b, r, z H' k g'⟩
variable {elt tg iter tg1 iter1 : Expr} {ifs ifs1 : List Expr} {scope : Scope} {own : List (Str × Nat)} {mi mi1 : DE → M (List D)} {g g1 : TG} {gd gd1 : D → DE → M DE} {t t1 : DE → M Bool} {f : DE → M D} {vs1 : List Nat}
/-- y = [f for x in xs for z in zs], y one's own -/
theorem ds_setLc2 (i : Nat) {y : Str} {py spos : Pos} (hc : X.calm = true) (hN : X.N.Nodup) (hi : PI X tg iter (liftI W H0 E mi)) (ok : BlkOk X.N X.env.scope scope own) (hv : ∀ i ∈ vs1, i ∈ own.map (·.2)) (hgd : GD W g gd) (hgw : GW g (own.map (·.2))) (hgd1 : GD W g1 gd1) (hgw1 : GW g1 vs1)
    (hg : ∀ (s : Shared) (H : Hp) (C : Addr) (cl : List (Str × Addr)) (fp : List Addr), PG (X.blk s H scope (compEnvC scope cl C X.env) fp) tg g) (ht : ∀ (s : Shared) (H : Hp) (C : Addr) (cl : List (Str × Addr)) (fp : List Addr), PTs (X.blk s H scope (compEnvC scope cl C X.env) fp) ifs (liftT W H0 E0 t))
    (hi1 : ∀ (s : Shared) (H : Hp) (C : Addr) (cl : List (Str × Addr)) (fp : List Addr), PI (X.blk s H scope (compEnvC scope cl C X.env) fp) tg1 iter1 (liftF W H0 E0 mi1))
    (hg1 : ∀ (s : Shared) (H : Hp) (C : Addr) (cl : List (Str × Addr)) (fp : List Addr), PG (X.blk s H scope (compEnvC scope cl C X.env) fp) tg1 g1) (ht1 : ∀ (s : Shared) (H : Hp) (C : Addr) (cl : List (Str × Addr)) (fp : List Addr), PTs (X.blk s H scope (compEnvC scope cl C X.env) fp) ifs1 (liftT W H0 E0 t1))
    (he : ∀ (s : Shared) (H : Hp) (C : Addr) (cl : List (Str × Addr)) (fp : List Addr), PE (X.blk s H scope (compEnvC scope cl C X.env) fp) elt (lift W H0 E0 f)) (hy : X.N[i]? = some y := by rfl) (hyl : X.env.scope.names.lookup y = some .local := by rfl)
    (hsw : swapsWith (.ListComp elt [⟨tg, iter, ifs, 0⟩, ⟨tg1, iter1, ifs1, 0⟩] scope pos) (some (.Name y py)) spos.line X.env = pure true := by rfl) (hs : ∀ x, foldedSetIterable iter X.env x = pure x := by intro _; rfl) (hs1 : ∀ env x, foldedSetIterable iter1 env x = pure x := by intro _ _; rfl) :
    PS X (.Assign [.Name y py] (.ListComp elt [⟨tg, iter, ifs, 0⟩, ⟨tg1, iter1, ifs1, 0⟩] scope pos) spos) (liftS W H0 E fun e => do let xs ← (do let xs ← mi e; comp2M gd t mi1 gd1 t1 f vs1 (wipeE e (own.map (·.2))) 0 xs); pure (.nx (setO i xs e))) :=
  PS.imp (ps_setLc2 hc hN hy hyl hsw hi ok hv hg ht hi1 hg1 ht1 he hs hs1) fun Dn σ H ⟨e, s, k0, γ, g0, q⟩ => by
    have q : (do let xs ← mi e; comp2M gd t mi1 gd1 t1 f vs1 (wipeE e (own.map (·.2))) 0 xs : M (List D)).run γ (fun xs γ' => RQ W H0 H Dn (.nx (setO i xs e)) γ') (XD W H0 E) := q
    refine comp2_lift (E := E) (H0 := H0) hgd hgw hgd1 hgw1 ⟨e, s, k0, γ, g0, M.mono _ (fun xs γ' z a vs H' hn k g' ha r hs1 => ?_) (fun _ _ z => z) q⟩
    refine z _ H' ((s.keep g0 k).seto ha r (h0_none k0 hn hs1) hs1 fun j ys hj q1 q2 => ?_) (k0.trans k) (k.toF g0) g'
    obtain ⟨p, ws, e1, e2, _⟩ := s.owo j ys q1
    rw [q2] at e1
    cases e1
    rw [hn] at e2; cases e2
end
end Dl

set_option maxRecDepth 100000
set_option maxHeartbeats 4100000
/-! comprehensions and loops over xs.map g -/
namespace Dl
open L2 PySem PySem.Spec PyProof.Rows
section
variable {α β : Type} {g : α → D} {st : α → DE → DE} {gd gd1 : D → DE → M DE} {t t1 : DE → M Bool} {f : DE → M D} {e : DE} {X : Addr → Gh → Prop} {γ : Gh} {q : α → Bool}
/-- each item's value chosen in its turn -/
theorem comp_pick {R : α → β → Prop} {p : α → β → D} : ∀ {xs : List α} {P : List D → Gh → Prop}, (∀ x ∈ xs, ∀ (γ : Gh) (PP : DE → Gh → Prop), PP (st x e) γ → (gd (g x) e).run γ PP X) →
    (∀ x ∈ xs, ∀ (γ : Gh) (PP : Bool → Gh → Prop), PP (q x) γ → (t (st x e)).run γ PP (fun _ _ => False)) →
    (∀ x ∈ xs, q x = true → ∀ (γ : Gh) (PP : D → Gh → Prop), (∀ b, R x b → PP (p x b) γ) → (f (st x e)).run γ PP (fun _ _ => False)) →
    (∀ zs : List (α × β), zs.map (·.1) = xs.filter q → (∀ z ∈ zs, R z.1 z.2) → P (zs.map fun z => p z.1 z.2) γ) → (compM gd t f e (xs.map g)).run γ P X := by
  intro xs
  induction xs with
  | nil => intro P _ _ _ h; exact h [] rfl (fun z hz => nomatch hz)
  | cons x xs ih =>
    intro P h0 h1 h2 h
    simp only [List.map_cons, compM, M.run_bind, M.run_noX]
    refine h0 x List.mem_cons_self _ _ (h1 x List.mem_cons_self _ _ ?_)
    have ih := fun {P} => ih (P := P) (fun y hy => h0 y (List.mem_cons_of_mem _ hy)) (fun y hy => h1 y (List.mem_cons_of_mem _ hy)) (fun y hy => h2 y (List.mem_cons_of_mem _ hy))
    cases hq : q x with
    | false =>
      simp only [Bool.false_eq_true, if_false]
      refine ih fun zs hz hr => h zs ?_ hr
      rw [List.filter_cons, hq]
      exact hz
    | true =>
      simp only [if_true, M.run_bind, M.run_noX]
      refine h2 x List.mem_cons_self hq _ _ fun b hb => ?_
      refine ih fun zs hz hr => ?_
      refine h ((x, b) :: zs) ?_ fun z hz' => ?_
      · rw [List.map_cons, hz, List.filter_cons, hq]
        rfl
      · rcases List.mem_cons.mp hz' with rfl | hz'
        · exact hb
        · exact hr z hz'
theorem comp_T {p : α → D} {xs : List α} {P : List D → Gh → Prop} (h0 : ∀ x ∈ xs, ∀ (γ : Gh) (PP : DE → Gh → Prop), PP (st x e) γ → (gd (g x) e).run γ PP X)
    (h1 : ∀ x ∈ xs, ∀ (γ : Gh) (PP : Bool → Gh → Prop), PP (q x) γ → (t (st x e)).run γ PP (fun _ _ => False))
    (h2 : ∀ x ∈ xs, q x = true → ∀ (γ : Gh) (PP : D → Gh → Prop), PP (p x) γ → (f (st x e)).run γ PP (fun _ _ => False))
    (h : P ((xs.filter q).map p) γ) : (compM gd t f e (xs.map g)).run γ P X := by
  refine comp_pick (β := Unit) (R := fun _ _ => True) (p := fun x _ => p x) h0 h1 (fun x hx hq γ PP z => h2 x hx hq γ PP (z () trivial)) fun zs hz _ => ?_
  have : (zs.map fun z => p z.1) = (zs.map (·.1)).map p := (List.map_map ..).symm
  rw [this, hz]
  exact h
/-- all items -/
theorem comp_A {p : α → D} {xs : List α} {P : List D → Gh → Prop} (h0 : ∀ x ∈ xs, ∀ (γ : Gh) (PP : DE → Gh → Prop), PP (st x e) γ → (gd (g x) e).run γ PP X)
    (ht : t = fun _ => pure true)
    (h2 : ∀ x ∈ xs, ∀ (γ : Gh) (PP : D → Gh → Prop), PP (p x) γ → (f (st x e)).run γ PP (fun _ _ => False))
    (h : P (xs.map p) γ) : (compM gd t f e (xs.map g)).run γ P X := by
  subst ht
  refine comp_T (q := fun _ => true) (p := p) h0 (fun x hx γ PP z => z) (fun x hx _ => h2 x hx) ?_
  have e : xs.filter (fun _ => true) = xs := by simp
  rw [e]
  exact h
/-- two clauses -/
theorem comp2_T {mi1 : DE → M (List D)} {vs1 : List Nat} {rows : α → List D} (ht : t = fun _ => pure true) : ∀ {xs : List α} {n : Nat} {P : List D → Gh → Prop}, (∀ x ∈ xs, ∀ (γ : Gh) (PP : DE → Gh → Prop), PP (st x e) γ → (gd (g x) e).run γ PP X) →
    (∀ x ∈ xs, ∀ (γ : Gh) (PP : List D → Gh → Prop), n + (xs.flatMap rows).length ≤ sizeLine → (∀ ys : List D, ys.length = (rows x).length → (∀ (γ : Gh) (PP : List D → Gh → Prop), PP (rows x) γ → (compM gd1 t1 f (wipeE (shE (st x e)) vs1) ys).run γ PP X) → PP ys γ) → (mi1 (shE (st x e))).run γ PP (fun _ _ => False)) →
    n + (xs.flatMap rows).length ≤ sizeLine → P (xs.flatMap rows) γ → (comp2M gd t mi1 gd1 t1 f vs1 e n (xs.map g)).run γ P X := by
  subst ht
  intro xs
  induction xs with
  | nil => intro n P _ _ _ h; exact h
  | cons x xs ih =>
    intro n P h0 h1 hn h
    have hn2 := hn
    rw [List.flatMap_cons, List.length_append] at hn2
    rw [List.flatMap_cons] at h
    simp only [List.map_cons, comp2M, M.run_bind, M.run_pure, M.run_noX, if_true, M.run_need]
    refine h0 x List.mem_cons_self _ _ (h1 x List.mem_cons_self _ _ hn fun ys hl hy => ⟨by omega, hy _ _ ?_⟩)
    exact ih (n := n + (rows x).length) (P := fun r => P (rows x ++ r)) (fun y hy => h0 y (List.mem_cons_of_mem _ hy)) (fun y hy γ PP b => h1 y (List.mem_cons_of_mem _ hy) γ PP hn) (by omega) h
/-- the set's members, two clauses -/
theorem sc2_T {mi1 : DE → M (List D)} {vs1 : List Nat} {rows : α → List D} (ht : t = fun _ => pure true) : ∀ {xs : List α} {P : List D → Gh → Prop}, (∀ x ∈ xs, ∀ (γ : Gh) (PP : DE → Gh → Prop), PP (st x e) γ → (gd (g x) e).run γ PP X) →
    (∀ x ∈ xs, ∀ (γ : Gh) (PP : List D → Gh → Prop), (∀ ys : List D, ys.length < 8 → (∀ (γ : Gh) (PP : List D → Gh → Prop), PP (rows x) γ → (compM gd1 t1 f (wipeE (shE (st x e)) vs1) ys).run γ PP X) → PP ys γ) → (mi1 (shE (st x e))).run γ PP (fun _ _ => False)) →
    P (xs.flatMap rows) γ → (sc2M gd t mi1 gd1 t1 f vs1 e (xs.map g)).run γ P X := by
  subst ht
  intro xs
  induction xs with
  | nil => intro P _ _ h; exact h
  | cons x xs ih =>
    intro P h0 h1 h
    rw [List.flatMap_cons] at h
    simp only [List.map_cons, sc2M, M.run_bind, M.run_pure, M.run_noX, if_true, M.run_need]
    refine h0 x List.mem_cons_self _ _ (h1 x List.mem_cons_self _ _ fun ys hl hy => ⟨hl, hy _ _ ?_⟩)
    exact ih (P := fun r => P (rows x ++ r)) (fun y hy => h0 y (List.mem_cons_of_mem _ hy)) (fun y hy => h1 y (List.mem_cons_of_mem _ hy)) h
/-- all, any; each answer chosen in its turn -/
theorem all_pick {stop : Bool} {R : α → Bool → Prop} (ht : t = fun _ => pure true) : ∀ {xs : List α} {P : Bool → Gh → Prop}, (∀ x ∈ xs, ∀ (γ : Gh) (PP : DE → Gh → Prop), PP (st x e) γ → (gd (g x) e).run γ PP X) →
    (∀ x ∈ xs, ∀ (γ : Gh) (PP : D → Gh → Prop), (∀ b, R x b → PP (.bl b) γ) → (f (st x e)).run γ PP (fun _ _ => False)) →
    (∀ b : Bool, (b = stop → ∃ x ∈ xs, R x stop) → (b ≠ stop → ∀ x ∈ xs, R x (!stop)) → P b γ) → (allM stop gd t f e (xs.map g)).run γ P X := by
  subst ht
  intro xs
  induction xs with
  | nil => intro P _ _ h; exact h (!stop) (fun z => by cases stop <;> cases z) (fun _ x hx => nomatch hx)
  | cons x xs ih =>
    intro P h0 h1 h
    simp only [List.map_cons, allM, M.run_bind, M.run_pure, M.run_noX, if_true]
    refine h0 x List.mem_cons_self _ _ (h1 x List.mem_cons_self _ _ fun b hb => ?_)
    simp only [asB, M.run_pure]
    by_cases c : b = stop
    · subst c
      simp only [if_true, M.run_pure]
      exact h b (fun _ => ⟨x, List.mem_cons_self, hb⟩) fun z => absurd rfl z
    · rw [if_neg c]
      have eb : b = !stop := by cases b <;> cases stop <;> first | rfl | exact absurd rfl c
      refine ih (fun y hy => h0 y (List.mem_cons_of_mem _ hy)) (fun y hy => h1 y (List.mem_cons_of_mem _ hy)) fun b' z1 z2 => h b' (fun z => ?_) fun z y hy => ?_
      · obtain ⟨y, hy, r⟩ := z1 z
        exact ⟨y, List.mem_cons_of_mem _ hy, r⟩
      · rcases List.mem_cons.mp hy with rfl | hy
        · exact eb ▸ hb
        · exact z2 z y hy
theorem all_T {stop : Bool} {p : α → Bool} (ht : t = fun _ => pure true) {xs : List α} {P : Bool → Gh → Prop} (h0 : ∀ x ∈ xs, ∀ (γ : Gh) (PP : DE → Gh → Prop), PP (st x e) γ → (gd (g x) e).run γ PP X)
    (h1 : ∀ x ∈ xs, ∀ (γ : Gh) (PP : D → Gh → Prop), PP (.bl (p x)) γ → (f (st x e)).run γ PP (fun _ _ => False)) (h : P (if stop then xs.any p else xs.all p) γ) : (allM stop gd t f e (xs.map g)).run γ P X := by
  refine all_pick (R := fun x b => p x = b) ht h0 (fun x hx γ PP z => h1 x hx γ PP (z _ rfl)) fun b z1 z2 => ?_
  have : b = if stop then xs.any p else xs.all p := by
    by_cases c : b = stop
    · obtain ⟨x, hx, hp⟩ := z1 c
      subst c
      cases b with
      | true =>
        rw [if_pos rfl]
        exact (List.any_eq_true.mpr ⟨x, hx, hp⟩).symm
      | false =>
        rw [if_neg (by decide)]
        refine (List.all_eq_false.mpr ⟨x, hx, ?_⟩).symm
        rw [hp]
        decide
    · have z := z2 c
      have eb : b = !stop := by cases b <;> cases stop <;> first | rfl | exact absurd rfl c
      subst eb
      cases stop with
      | true =>
        rw [if_pos rfl]
        exact (List.any_eq_false.mpr fun x hx => by rw [z x hx]; decide).symm
      | false =>
        rw [if_neg (by decide)]
        exact (List.all_eq_true.mpr fun x hx => z x hx).symm
  rw [← this] at h
  exact h
/-- any, two clauses -/
theorem any2_T {mi1 : DE → M (List D)} {vs1 : List Nat} {p : α → Bool} (ht : t = fun _ => pure true) : ∀ {xs : List α} {P : Bool → Gh → Prop}, (∀ x ∈ xs, ∀ (γ : Gh) (PP : DE → Gh → Prop), PP (st x e) γ → (gd (g x) e).run γ PP X) →
    (∀ x ∈ xs, ∀ (γ : Gh) (PP : List D → Gh → Prop), (∀ ys : List D, ys.length ≤ sizeLine → (∀ (γ : Gh) (PP : Bool → Gh → Prop), PP (p x) γ → (allM true gd1 t1 f (wipeE (st x e) vs1) ys).run γ PP X) → PP ys γ) → (mi1 (st x e)).run γ PP (fun _ _ => False)) →
    P (xs.any p) γ → (any2M gd t mi1 gd1 t1 f vs1 e (xs.map g)).run γ P X := by
  subst ht
  intro xs
  induction xs with
  | nil => intro P _ _ h; exact h
  | cons x xs ih =>
    intro P h0 h1 h
    simp only [List.map_cons, any2M, M.run_bind, M.run_pure, M.run_noX, if_true, M.run_need]
    refine h0 x List.mem_cons_self _ _ (h1 x List.mem_cons_self _ _ fun ys hl hy => ⟨hl, hy _ _ ?_⟩)
    rw [List.any_cons] at h
    cases hp : p x with
    | true =>
      rw [hp] at h
      simp only [if_true, M.run_pure]
      simpa using h
    | false =>
      rw [hp] at h
      simp only [Bool.false_eq_true, if_false]
      exact ih (fun y hy => h0 y (List.mem_cons_of_mem _ hy)) (fun y hy => h1 y (List.mem_cons_of_mem _ hy)) (by simpa using h)
/-- a loop: what holds behind the items that are done -/
theorem for_T {m : DE → M R} {P : R → Gh → Prop} {xs : List α} (I : List α → DE → Gh → Prop) (h0 : ∀ x ∈ xs, ∀ (e : DE) (γ : Gh) (PP : DE → Gh → Prop), PP (st x e) γ → (gd (g x) e).run γ PP X)
    (h : ∀ pre x post, xs = pre ++ x :: post → ∀ e γ, I pre e γ → (m (st x e)).run γ (fun r γ2 => match r with | .nx e' => I (pre ++ [x]) e' γ2 | .ct e' => I (pre ++ [x]) e' γ2 | .bk e' => P (.nx e') γ2 | .rt d => P (.rt d) γ2) X)
    (hi : I [] e γ) (he : ∀ e γ, I xs e γ → P (.nx e) γ) : (forM gd m (xs.map g) e).run γ P X := by
  have key : ∀ (post pre : List α) (e : DE) (γ : Gh), xs = pre ++ post → I pre e γ → (forM gd m (post.map g) e).run γ P X := by
    intro post
    induction post with
    | nil =>
      intro pre e γ ex hi
      rw [List.append_nil] at ex
      exact he e γ (by rw [ex]; exact hi)
    | cons x post ih =>
      intro pre e γ ex hi
      refine h0 x (by rw [ex]; simp) e γ _ ?_
      refine (m (st x e)).mono (fun r γ2 z => ?_) (fun _ _ z => z) (h pre x post ex e γ hi)
      cases r with
      | nx e' => exact ih (pre ++ [x]) e' γ2 (by rw [ex, List.append_assoc]; rfl) z
      | ct e' => exact ih (pre ++ [x]) e' γ2 (by rw [ex, List.append_assoc]; rfl) z
      | bk e' => exact z
      | rt d => exact z
  exact key xs [] e γ rfl hi
end
end Dl

set_option maxRecDepth 100000
set_option maxHeartbeats 4100000
/-! ways to give attributes numbers: parts, lots, what is left (no program here) -/
namespace Dl
theorem nodup_map_on {α β : Type} {f : α → β} {l : List α} (h : ∀ x ∈ l, ∀ y ∈ l, f x = f y → x = y) (nd : l.Nodup) : (l.map f).Nodup := by
  unfold List.Nodup
  rw [List.pairwise_map]
  exact List.Pairwise.imp_of_mem (fun {x y} hx hy ne e => ne (h x hx y hy e)) nd
/-- attributes and rows for them; l: the rows stand in a list -/
structure Prt where
  as : List Int
  rows : List (List Int)
  l : Bool
structure Prt.Ok (p : Prt) : Prop where
  ne : p.as ≠ []
  nd : p.as.Nodup
  few : p.as.length < 8
  len : ∀ r ∈ p.rows, r.length = p.as.length
  rnd : p.rows.Nodup
def SatF (ps : List Prt) (f : Int → Int) : Prop := ∀ p ∈ ps, p.as.map f ∈ p.rows
def inAt (ps : List Prt) (a : Int) : Prop := ∃ p ∈ ps, a ∈ p.as
def Agr (w : List (Int × Int)) (f : Int → Int) : Prop := ∀ x ∈ w, f x.1 = x.2
structure WaysP (ps : List Prt) (W : List (List (Int × Int))) : Prop where
  own : ∀ w ∈ W, (w.map (·.1)).Nodup ∧ (∀ a, a ∈ w.map (·.1) ↔ inAt ps a) ∧ ∃ f, Agr w f ∧ SatF ps f
  one : W.Pairwise fun w v => ∀ f, Agr w f → ¬ Agr v f
structure WaysOk (ps : List Prt) (W : List (List (Int × Int))) : Prop extends WaysP ps W where
  all : ∀ f, SatF ps f → ∃ w ∈ W, Agr w f
theorem WaysP.sub {ps : List Prt} {W V : List (List (Int × Int))} (h : WaysP ps W) (s : V.Sublist W) : WaysP ps V := ⟨fun w hw => h.own w (s.subset hw), h.one.sublist s⟩
theorem satF_perm {ps qs : List Prt} {f : Int → Int} (h : ∀ p, p ∈ ps ↔ p ∈ qs) : SatF ps f ↔ SatF qs f := ⟨fun s p hp => s p ((h p).mpr hp), fun s p hp => s p ((h p).mp hp)⟩
theorem inAt_perm {ps qs : List Prt} {a : Int} (h : ∀ p, p ∈ ps ↔ p ∈ qs) : inAt ps a ↔ inAt qs a := ⟨fun ⟨p, hp, ha⟩ => ⟨p, (h p).mp hp, ha⟩, fun ⟨p, hp, ha⟩ => ⟨p, (h p).mpr hp, ha⟩⟩
theorem WaysOk.perm {ps qs : List Prt} {W : List (List (Int × Int))} (h : WaysOk ps W) (e : ∀ p, p ∈ ps ↔ p ∈ qs) : WaysOk qs W where
  own w hw := by
    obtain ⟨a, b, f, c, d⟩ := h.own w hw
    exact ⟨a, fun x => (b x).trans (inAt_perm e), f, c, (satF_perm e).mp d⟩
  one := h.one
  all f s := h.all f ((satF_perm e).mpr s)
theorem waysOk_nil : WaysOk [] [[]] where
  own w hw := by
    obtain rfl := List.mem_singleton.mp hw
    exact ⟨List.nodup_nil, fun a => ⟨fun h => (nomatch h), fun ⟨p, hp, _⟩ => (nomatch hp)⟩, fun _ => 0, fun x hx => (nomatch hx), fun p hp => (nomatch hp)⟩
  one := List.pairwise_singleton _ _
  all f _ := ⟨[], List.mem_singleton_self _, fun x hx => (nomatch hx)⟩
/-- two assignments, the first one where ps has attributes -/
noncomputable def glue (ps : List Prt) (f g : Int → Int) : Int → Int := fun a => open Classical in if inAt ps a then f a else g a
theorem satF_glue {ps qs : List Prt} {f g : Int → Int} (d : ∀ a, inAt ps a → ¬ inAt qs a) (h1 : SatF ps f) (h2 : SatF qs g) : SatF (ps ++ qs) (glue ps f g) := by
  intro p hp
  rcases List.mem_append.mp hp with hp | hp
  · have e : p.as.map (glue ps f g) = p.as.map f := List.map_congr_left fun a ha => if_pos ⟨p, hp, ha⟩
    rw [e]
    exact h1 p hp
  · have e : p.as.map (glue ps f g) = p.as.map g := List.map_congr_left fun a ha => if_neg fun z => d a z ⟨p, hp, ha⟩
    rw [e]
    exact h2 p hp
theorem inAt_append {ps qs : List Prt} {a : Int} : inAt (ps ++ qs) a ↔ inAt ps a ∨ inAt qs a := by
  unfold inAt
  constructor
  · rintro ⟨p, hp, ha⟩
    rcases List.mem_append.mp hp with hp | hp
    · exact .inl ⟨p, hp, ha⟩
    · exact .inr ⟨p, hp, ha⟩
  · rintro (⟨p, hp, ha⟩ | ⟨p, hp, ha⟩)
    · exact ⟨p, List.mem_append_left _ hp, ha⟩
    · exact ⟨p, List.mem_append_right _ hp, ha⟩
theorem agr_append {w v : List (Int × Int)} {f : Int → Int} : Agr (w ++ v) f ↔ Agr w f ∧ Agr v f := ⟨fun h => ⟨fun x hx => h x (List.mem_append_left _ hx), fun x hx => h x (List.mem_append_right _ hx)⟩, fun ⟨h1, h2⟩ x hx => (List.mem_append.mp hx).elim (h1 x) (h2 x)⟩
theorem WaysOk.mul {ps qs : List Prt} {W V : List (List (Int × Int))} (h1 : WaysOk ps W) (h2 : WaysOk qs V) (d : ∀ a, inAt ps a → ¬ inAt qs a) : WaysOk (ps ++ qs) (W.flatMap fun w => V.map fun v => w ++ v) where
  own x hx := by
    obtain ⟨w, hw, hx⟩ := List.mem_flatMap.mp hx
    obtain ⟨v, hv, rfl⟩ := List.mem_map.mp hx
    obtain ⟨a1, b1, f, c1, d1⟩ := h1.own w hw
    obtain ⟨a2, b2, g, c2, d2⟩ := h2.own v hv
    refine ⟨?_, fun a => ?_, glue ps f g, ?_, satF_glue d d1 d2⟩
    · rw [List.map_append, List.nodup_append]
      exact ⟨a1, a2, fun a ha b hb e => d a ((b1 a).mp ha) (by rw [e]; exact (b2 b).mp hb)⟩
    · rw [List.map_append, List.mem_append, b1, b2, inAt_append]
    · rw [agr_append]
      refine ⟨fun x hx => ?_, fun x hx => ?_⟩
      · have : inAt ps x.1 := (b1 x.1).mp (List.mem_map_of_mem hx)
        unfold glue
        rw [if_pos this]
        exact c1 x hx
      · have : inAt qs x.1 := (b2 x.1).mp (List.mem_map_of_mem hx)
        unfold glue
        rw [if_neg fun z => d _ z this]
        exact c2 x hx
  one := by
    rw [List.pairwise_flatMap]
    refine ⟨fun w hw => ?_, h1.one.imp fun {w v} z x hx y hy f ax ay => ?_⟩
    · rw [List.pairwise_map]
      exact h2.one.imp fun z f a1 a2 => z f (agr_append.mp a1).2 (agr_append.mp a2).2
    · obtain ⟨_, _, rfl⟩ := List.mem_map.mp hx
      obtain ⟨_, _, rfl⟩ := List.mem_map.mp hy
      exact z f (agr_append.mp ax).1 (agr_append.mp ay).1
  all f s := by
    obtain ⟨w, hw, a1⟩ := h1.all f fun p hp => s p (List.mem_append_left _ hp)
    obtain ⟨v, hv, a2⟩ := h2.all f fun p hp => s p (List.mem_append_right _ hp)
    exact ⟨w ++ v, List.mem_flatMap.mpr ⟨w, hw, List.mem_map_of_mem hv⟩, agr_append.mpr ⟨a1, a2⟩⟩
/-! what is left when an attribute has a number -/
def Prt.col (p : Prt) (a : Int) (r : List Int) : Int := r.getD (p.as.idxOf a) 0
def Prt.left (p : Prt) (a n : Int) : List (List Int) := (p.rows.filter fun r => decide (p.col a r = n)).map fun r => r.eraseIdx (p.as.idxOf a)
def Prt.red (p : Prt) (a n : Int) : Prt := ⟨p.as.filter fun b => decide (b ≠ a), p.left a n, true⟩
theorem Prt.split {p : Prt} (nd : p.as.Nodup) {a : Int} (ha : a ∈ p.as) : ∃ u v, p.as = u ++ a :: v ∧ p.as.idxOf a = u.length ∧ (p.as.filter fun b => decide (b ≠ a)) = u ++ v := by
  obtain ⟨u, v, e, hu⟩ := List.eq_append_cons_of_mem ha
  refine ⟨u, v, e, ?_, ?_⟩
  · rw [e, List.idxOf_append, if_neg hu, List.idxOf_cons_self]
    simp
  · rw [e] at nd ⊢
    rw [List.nodup_append, List.nodup_cons] at nd
    obtain ⟨_, ⟨hv, _⟩, _⟩ := nd
    rw [List.filter_append, List.filter_cons, if_neg (by simp), List.filter_eq_self.mpr fun b hb => ?_, List.filter_eq_self.mpr fun b hb => ?_]
    · exact decide_eq_true fun z => hv (z ▸ hb)
    · exact decide_eq_true fun z => hu (z ▸ hb)
theorem Prt.row_at {p : Prt} {u v : List Int} {a : Int} (e : p.as = u ++ a :: v) (k : p.as.idxOf a = u.length) {r : List Int} (hl : r.length = p.as.length) : r = r.take u.length ++ p.col a r :: r.drop (u.length + 1) ∧ r.eraseIdx (p.as.idxOf a) = r.take u.length ++ r.drop (u.length + 1) := by
  have lt : u.length < r.length := by rw [hl, e, List.length_append, List.length_cons]; omega
  unfold Prt.col
  rw [k, List.eraseIdx_eq_take_drop_succ]
  refine ⟨?_, rfl⟩
  have : r.getD u.length 0 = r[u.length] := by rw [List.getD_eq_getElem?_getD, List.getElem?_eq_getElem lt]; rfl
  rw [this]
  have := List.take_append_drop u.length r
  rw [List.drop_eq_getElem_cons lt] at this
  exact this.symm
theorem Prt.Ok.red_sat {p : Prt} (ok : p.Ok) {a : Int} (ha : a ∈ p.as) (f : Int → Int) : p.as.map f ∈ p.rows ↔ (p.red a (f a)).as.map f ∈ (p.red a (f a)).rows := by
  obtain ⟨u, v, e, k, fe⟩ := Prt.split ok.nd ha
  show _ ↔ (p.as.filter fun b => decide (b ≠ a)).map f ∈ p.left a (f a)
  rw [fe, List.map_append]
  unfold Prt.left
  constructor
  · intro h
    obtain ⟨r1, r2⟩ := Prt.row_at e k (ok.len _ h)
    have em : p.as.map f = u.map f ++ f a :: v.map f := by rw [e, List.map_append, List.map_cons]
    have t1 : (p.as.map f).take u.length = u.map f := by rw [em, List.take_left' (by simp)]
    have t2 : (p.as.map f).drop (u.length + 1) = v.map f := by
      rw [em, show u.length + 1 = (u.map f ++ [f a]).length by simp, show u.map f ++ f a :: v.map f = (u.map f ++ [f a]) ++ v.map f by simp]
      exact List.drop_left
    rw [t1, t2] at r1 r2
    refine List.mem_map.mpr ⟨_, List.mem_filter.mpr ⟨h, decide_eq_true ?_⟩, r2⟩
    rw [em] at r1
    have := (List.append_inj r1 rfl).2
    injection this with z _
    rw [← em] at z
    exact z.symm
  · intro h
    obtain ⟨r, hr, er⟩ := List.mem_map.mp h
    obtain ⟨hr, hc⟩ := List.mem_filter.mp hr
    have hc : p.col a r = f a := of_decide_eq_true hc
    have hl := ok.len r hr
    obtain ⟨r1, r2⟩ := Prt.row_at e k hl
    rw [r2] at er
    have lu : (r.take u.length).length = (u.map f).length := by rw [List.length_take, List.length_map, hl, e, List.length_append]; omega
    obtain ⟨e1, e2⟩ := List.append_inj er lu
    rw [e1, e2, hc] at r1
    rw [e, List.map_append, List.map_cons, ← r1]
    exact hr
theorem Prt.Ok.red_ok {p : Prt} (ok : p.Ok) {a : Int} (ha : a ∈ p.as) (n : Int) (ne : (p.red a n).as ≠ []) : (p.red a n).Ok where
  ne := ne
  nd := ok.nd.filter _
  few := Nat.lt_of_le_of_lt (List.length_filter_le _ _) ok.few
  len r hr := by
    obtain ⟨u, v, e, k, fe⟩ := Prt.split ok.nd ha
    obtain ⟨q, hq, rfl⟩ := List.mem_map.mp hr
    have hl := ok.len q (List.mem_filter.mp hq).1
    show _ = (p.as.filter fun b => decide (b ≠ a)).length
    rw [fe, (Prt.row_at e k hl).2, List.length_append, List.length_take, List.length_drop, List.length_append, hl, e, List.length_append, List.length_cons]
    omega
  rnd := by
    obtain ⟨u, v, e, k, fe⟩ := Prt.split ok.nd ha
    show ((p.rows.filter fun r => decide (p.col a r = n)).map fun r => r.eraseIdx (p.as.idxOf a)).Nodup
    refine nodup_map_on (fun r hr q hq er => ?_) (ok.rnd.filter _)
    obtain ⟨hr, cr⟩ := List.mem_filter.mp hr
    obtain ⟨hq, cq⟩ := List.mem_filter.mp hq
    obtain ⟨r1, r2⟩ := Prt.row_at e k (ok.len r hr)
    obtain ⟨q1, q2⟩ := Prt.row_at e k (ok.len q hq)
    have er : r.eraseIdx (p.as.idxOf a) = q.eraseIdx (p.as.idxOf a) := er
    rw [r2, q2] at er
    obtain ⟨e1, e2⟩ := List.append_inj er (by rw [List.length_take, List.length_take, ok.len r hr, ok.len q hq])
    rw [r1, q1, e1, e2, of_decide_eq_true cr, of_decide_eq_true cq]
/-! a lot, an attribute of it, a number there -/
def restOf (lot : List Prt) (a n : Int) : List Prt := (((lot.filter fun p => decide (a ∈ p.as)).filter fun p => decide ((p.as.filter fun b => decide (b ≠ a)) ≠ [])).map fun p => p.red a n) ++ lot.filter fun p => decide (a ∉ p.as)
def Cond (lot : List Prt) (a n : Int) : Prop := ∀ p ∈ lot, a ∈ p.as → ∃ r ∈ p.rows, p.col a r = n
theorem mem_restOf {lot : List Prt} {a n : Int} {q : Prt} : q ∈ restOf lot a n ↔ (∃ p ∈ lot, a ∈ p.as ∧ (p.red a n).as ≠ [] ∧ q = p.red a n) ∨ (q ∈ lot ∧ a ∉ q.as) := by
  unfold restOf
  rw [List.mem_append, List.mem_map, List.mem_filter, decide_eq_true_iff]
  refine or_congr ⟨fun ⟨p, hp, e⟩ => ?_, fun ⟨p, h1, h2, h3, e⟩ => ⟨p, ?_, e.symm⟩⟩ Iff.rfl
  · rw [List.mem_filter, List.mem_filter, decide_eq_true_iff, decide_eq_true_iff] at hp
    exact ⟨p, hp.1.1, hp.1.2, hp.2, e.symm⟩
  · rw [List.mem_filter, List.mem_filter, decide_eq_true_iff, decide_eq_true_iff]
    exact ⟨⟨h1, h2⟩, h3⟩
theorem rest_ok {lot : List Prt} {a n : Int} (ok : ∀ p ∈ lot, p.Ok) : ∀ q ∈ restOf lot a n, q.Ok := fun q hq => by
  rcases mem_restOf.mp hq with ⟨p, h1, h2, h3, rfl⟩ | ⟨h, _⟩
  · exact (ok p h1).red_ok h2 n h3
  · exact ok q h
theorem mem_red {p : Prt} {a n b : Int} : b ∈ (p.red a n).as ↔ b ∈ p.as ∧ b ≠ a := by
  show b ∈ p.as.filter _ ↔ _
  rw [List.mem_filter, decide_eq_true_iff]
theorem inAt_rest {lot : List Prt} {a n b : Int} : inAt (restOf lot a n) b ↔ b ≠ a ∧ inAt lot b := by
  constructor
  · rintro ⟨q, hq, hb⟩
    rcases mem_restOf.mp hq with ⟨p, h1, h2, h3, rfl⟩ | ⟨h1, h2⟩
    · obtain ⟨x, y⟩ := mem_red.mp hb
      exact ⟨y, p, h1, x⟩
    · exact ⟨fun e => h2 (e ▸ hb), q, h1, hb⟩
  · rintro ⟨ne, p, hp, hb⟩
    by_cases ha : a ∈ p.as
    · have : b ∈ (p.red a n).as := mem_red.mpr ⟨hb, ne⟩
      exact ⟨p.red a n, mem_restOf.mpr (.inl ⟨p, hp, ha, fun e => (by rw [e] at this; cases this), rfl⟩), this⟩
    · exact ⟨p, mem_restOf.mpr (.inr ⟨hp, ha⟩), hb⟩
theorem SatF.congr {ps : List Prt} {f g : Int → Int} (h : SatF ps f) (e : ∀ a, inAt ps a → f a = g a) : SatF ps g := fun p hp => by
  rw [← List.map_congr_left fun a ha => e a ⟨p, hp, ha⟩]
  exact h p hp
theorem satF_rest {lot : List Prt} (ok : ∀ p ∈ lot, p.Ok) (a : Int) (f : Int → Int) : SatF lot f ↔ Cond lot a (f a) ∧ SatF (restOf lot a (f a)) f := by
  constructor
  · intro h
    refine ⟨fun p hp ha => ?_, fun q hq => ?_⟩
    · have z := ((ok p hp).red_sat ha f).mp (h p hp)
      obtain ⟨r, hr, _⟩ := List.mem_map.mp z
      obtain ⟨h1, h2⟩ := List.mem_filter.mp hr
      exact ⟨r, h1, of_decide_eq_true h2⟩
    · rcases mem_restOf.mp hq with ⟨p, h1, h2, h3, rfl⟩ | ⟨h1, h2⟩
      · exact ((ok p h1).red_sat h2 f).mp (h p h1)
      · exact h q h1
  · rintro ⟨c, h⟩ p hp
    by_cases ha : a ∈ p.as
    · rw [(ok p hp).red_sat ha f]
      by_cases ne : (p.red a (f a)).as = []
      · rw [ne]
        obtain ⟨r, hr, cr⟩ := c p hp ha
        refine List.mem_map.mpr ⟨r, List.mem_filter.mpr ⟨hr, decide_eq_true cr⟩, ?_⟩
        obtain ⟨u, v, e, k, fe⟩ := Prt.split (ok p hp).nd ha
        have fe2 : u ++ v = [] := by rw [← fe]; exact ne
        obtain ⟨rfl, rfl⟩ := List.append_eq_nil_iff.mp fe2
        rw [(Prt.row_at e k ((ok p hp).len r hr)).2]
        have hl := (ok p hp).len r hr
        rw [e] at hl
        refine List.length_eq_zero_iff.mp ?_
        rw [List.length_append, List.length_take, List.length_drop, hl]
        rfl
      · exact h _ (mem_restOf.mpr (.inl ⟨p, hp, ha, ne, rfl⟩))
    · exact h p (mem_restOf.mpr (.inr ⟨hp, ha⟩))
/-- f, but n at a -/
def put (f : Int → Int) (a n : Int) : Int → Int := fun b => if b = a then n else f b
theorem WaysP.lot {lot : List Prt} (ok : ∀ p ∈ lot, p.Ok) {a : Int} (ha : inAt lot a) {ns : List Int} (nd : ns.Nodup) (hc : ∀ n ∈ ns, Cond lot a n) {Wn : Int → List (List (Int × Int))} (h : ∀ n ∈ ns, WaysOk (restOf lot a n) (Wn n)) :
    WaysP lot (ns.flatMap fun n => (Wn n).map fun w => (a, n) :: w) where
  own x hx := by
    obtain ⟨n, hn, hx⟩ := List.mem_flatMap.mp hx
    obtain ⟨w, hw, rfl⟩ := List.mem_map.mp hx
    obtain ⟨a1, b1, f, c1, d1⟩ := (h n hn).own w hw
    have na : a ∉ w.map (·.1) := fun z => ((inAt_rest).mp ((b1 a).mp z)).1 rfl
    have sw : Agr w (put f a n) := fun x hx => by
      unfold put
      have hx1 : x.1 ∈ w.map (·.1) := List.mem_map_of_mem hx
      rw [if_neg fun e => na (by rw [← e]; exact hx1)]
      exact c1 x hx
    refine ⟨?_, fun b => ?_, put f a n, ?_, ?_⟩
    · rw [List.map_cons, List.nodup_cons]
      exact ⟨na, a1⟩
    · rw [List.map_cons, List.mem_cons, b1, inAt_rest]
      constructor
      · rintro (e | ⟨_, z⟩)
        · rw [e]
          exact ha
        · exact z
      · intro z
        by_cases e : b = a
        · exact .inl e
        · exact .inr ⟨e, z⟩
    · intro x hx
      rcases List.mem_cons.mp hx with rfl | hx
      · exact if_pos rfl
      · exact sw x hx
    · have e : put f a n a = n := if_pos rfl
      rw [satF_rest ok a, e]
      exact ⟨hc n hn, d1.congr fun b hb => (if_neg (inAt_rest.mp hb).1).symm⟩
  one := by
    rw [List.pairwise_flatMap]
    refine ⟨fun n hn => ?_, List.Pairwise.imp (fun {n m} ne x hx y hy f ax ay => ?_) nd⟩
    · rw [List.pairwise_map]
      exact (h n hn).one.imp fun z f a1 a2 => z f (fun x hx => a1 x (List.mem_cons_of_mem _ hx)) fun x hx => a2 x (List.mem_cons_of_mem _ hx)
    · obtain ⟨_, _, rfl⟩ := List.mem_map.mp hx
      obtain ⟨_, _, rfl⟩ := List.mem_map.mp hy
      exact ne ((ax (a, n) List.mem_cons_self).symm.trans (ay (a, m) List.mem_cons_self))
theorem WaysOk.lot {lot : List Prt} (ok : ∀ p ∈ lot, p.Ok) {a : Int} (ha : inAt lot a) {ns : List Int} (nd : ns.Nodup) (hc : ∀ n, n ∈ ns ↔ Cond lot a n) {Wn : Int → List (List (Int × Int))} (h : ∀ n ∈ ns, WaysOk (restOf lot a n) (Wn n)) :
    WaysOk lot (ns.flatMap fun n => (Wn n).map fun w => (a, n) :: w) where
  toWaysP := WaysP.lot ok ha nd (fun n hn => (hc n).mp hn) h
  all f s := by
    obtain ⟨c, s⟩ := (satF_rest ok a f).mp s
    have hn := (hc (f a)).mpr c
    obtain ⟨w, hw, z⟩ := (h _ hn).all f s
    refine ⟨(a, f a) :: w, List.mem_flatMap.mpr ⟨f a, hn, List.mem_map_of_mem hw⟩, fun x hx => ?_⟩
    rcases List.mem_cons.mp hx with rfl | hx
    · rfl
    · exact z x hx
/-! how many ways -/
def cart {α : Type} : List (List α) → List (List α)
  | [] => [[]]
  | l :: ls => l.flatMap fun x => (cart ls).map fun r => x :: r
theorem flat_len {α β : Type} {f : α → List β} {n : Nat} : ∀ {l : List α}, (∀ x ∈ l, (f x).length ≤ n) → (l.flatMap f).length ≤ l.length * n
  | [], _ => Nat.zero_le _
  | x :: l, h => by
    rw [List.flatMap_cons, List.length_append, List.length_cons, Nat.succ_mul, Nat.add_comm]
    exact Nat.add_le_add (flat_len fun y hy => h y (List.mem_cons_of_mem _ hy)) (h x List.mem_cons_self)
theorem cart_len {α : Type} : ∀ (ls : List (List α)), (cart ls).length ≤ (ls.map List.length).prod
  | [] => Nat.le_refl _
  | l :: ls => by
    rw [List.map_cons, List.prod_cons]
    refine Nat.le_trans (flat_len (n := (cart ls).length) fun x _ => Nat.le_of_eq (List.length_map ..)) (Nat.mul_le_mul_left _ (cart_len ls))
theorem mem_cart {α β : Type} {g : β → α} {h : β → List α} : ∀ {bs : List β}, (∀ b ∈ bs, g b ∈ h b) → bs.map g ∈ cart (bs.map h)
  | [], _ => List.mem_singleton_self _
  | b :: bs, z => List.mem_flatMap.mpr ⟨g b, z b List.mem_cons_self, List.mem_map_of_mem (mem_cart fun c hc => z c (List.mem_cons_of_mem _ hc))⟩
theorem len_le {α : Type} [DecidableEq α] : ∀ {l m : List α}, l.Nodup → (∀ x ∈ l, x ∈ m) → l.length ≤ m.length
  | [], _, _, _ => Nat.zero_le _
  | x :: l, m, nd, h => by
    rw [List.nodup_cons] at nd
    have hx := h x List.mem_cons_self
    have ih := len_le (l := l) (m := m.erase x) nd.2 fun y hy => (List.mem_erase_of_ne fun e => nd.1 (by rw [← e]; exact hy)).mpr (h y (List.mem_cons_of_mem _ hy))
    rw [List.length_erase_of_mem hx] at ih
    have := List.length_pos_of_mem hx
    rw [List.length_cons]
    omega
def bdM (ps : List Prt) : Nat := (ps.map fun p => max 1 p.rows.length).prod
theorem bdM_cons {p : Prt} {ps : List Prt} : bdM (p :: ps) = max 1 p.rows.length * bdM ps := rfl
theorem bdM_pos : ∀ (ps : List Prt), 1 ≤ bdM ps
  | [] => Nat.le_refl _
  | p :: ps => by
    rw [bdM_cons]
    exact Nat.mul_le_mul (Nat.le_max_left 1 p.rows.length) (bdM_pos ps)
theorem prod_le_bdM : ∀ (ps : List Prt), (ps.map fun p => p.rows.length).prod ≤ bdM ps
  | [] => Nat.le_refl _
  | p :: ps => Nat.mul_le_mul (Nat.le_max_right _ _) (prod_le_bdM ps)
theorem bdM_append (ps qs : List Prt) : bdM (ps ++ qs) = bdM ps * bdM qs := by
  unfold bdM
  rw [List.map_append, List.prod_append]
theorem bdM_perm {ps qs : List Prt} (h : ps.Perm qs) : bdM ps = bdM qs := (h.map _).prod_nat
theorem bdM_sub {ps qs : List Prt} (h : ps.Sublist qs) : bdM ps ≤ bdM qs := by
  induction h with
  | slnil => exact Nat.le_refl _
  | cons p _ ih =>
    rw [bdM_cons]
    exact Nat.le_trans ih (Nat.le_mul_of_pos_left _ (Nat.lt_of_lt_of_le Nat.zero_lt_one (Nat.le_max_left 1 p.rows.length)))
  | cons_cons p _ ih => exact Nat.mul_le_mul_left _ ih
theorem bdM_mem {ps : List Prt} {p : Prt} (h : p ∈ ps) : p.rows.length ≤ bdM ps := by
  have := bdM_sub (List.singleton_sublist.mpr h)
  have e : bdM [p] = max 1 p.rows.length := Nat.mul_one _
  rw [e] at this
  omega
theorem bdM_red {a n : Int} : ∀ (ps : List Prt), bdM (ps.map fun p => p.red a n) ≤ bdM ps
  | [] => Nat.le_refl _
  | p :: ps => by
    have h : (p.red a n).rows.length ≤ p.rows.length := by
      show ((p.rows.filter _).map _).length ≤ _
      rw [List.length_map]
      exact List.length_filter_le _ _
    exact Nat.mul_le_mul (show max 1 (p.red a n).rows.length ≤ max 1 p.rows.length from Nat.max_le.mpr ⟨Nat.le_max_left _ _, Nat.le_trans h (Nat.le_max_right _ _)⟩) (bdM_red ps)
theorem bdM_parts {q : Prt → Bool} : ∀ (ps : List Prt), bdM (ps.filter q) * bdM (ps.filter fun p => !q p) = bdM ps
  | [] => rfl
  | p :: ps => by
    have ih := bdM_parts (q := q) ps
    rw [List.filter_cons, List.filter_cons]
    cases q p with
    | true =>
      simp only [if_true, Bool.not_true, Bool.false_eq_true, if_false, bdM_cons]
      rw [Nat.mul_assoc, ih]
    | false =>
      simp only [if_true, Bool.not_false, Bool.false_eq_true, if_false, bdM_cons]
      rw [Nat.mul_left_comm, ih]
theorem bdM_rest {lot : List Prt} {a n : Int} : bdM (restOf lot a n) ≤ bdM lot := by
  unfold restOf
  rw [bdM_append, ← bdM_parts (q := fun p => decide (a ∈ p.as)) lot]
  have e : (lot.filter fun p => decide (a ∉ p.as)) = lot.filter fun p => !decide (a ∈ p.as) := by
    congr 1
    funext p
    exact decide_not
  rw [e]
  exact Nat.mul_le_mul_right _ (Nat.le_trans (bdM_red _) (bdM_sub List.filter_sublist))
theorem WaysP.few {ps : List Prt} {W : List (List (Int × Int))} (h : WaysP ps W) : W.length ≤ bdM ps := by
  have : ∃ g : List (Int × Int) → Int → Int, ∀ w ∈ W, Agr w (g w) ∧ SatF ps (g w) := by
    refine ⟨fun w => open Classical in if z : w ∈ W then (h.own w z).2.2.choose else fun _ => 0, fun w hw => ?_⟩
    simp only [hw, dif_pos]
    exact (h.own w hw).2.2.choose_spec
  obtain ⟨g, hg⟩ := this
  have nd : (W.map fun w => ps.map fun p => p.as.map (g w)).Nodup := by
    unfold List.Nodup
    rw [List.pairwise_map]
    refine List.Pairwise.imp_of_mem (fun {w v} hw hv z e => ?_) h.one
    refine z (g w) (hg w hw).1 fun x hx => ?_
    obtain ⟨p, hp, ha⟩ := ((h.own v hv).2.1 x.1).mp (List.mem_map_of_mem hx)
    have e1 := List.map_inj_left.mp e p hp
    rw [List.map_inj_left.mp e1 x.1 ha]
    exact (hg v hv).1 x hx
  have := len_le nd (m := cart (ps.map fun p => p.rows)) fun x hx => by
    obtain ⟨w, hw, rfl⟩ := List.mem_map.mp hx
    exact mem_cart fun p hp => (hg w hw).2 p hp
  rw [List.length_map] at this
  refine Nat.le_trans this (Nat.le_trans (cart_len _) ?_)
  rw [List.map_map]
  exact prod_le_bdM ps
/-! lots -/
def Apart (l m : List Prt) : Prop := ∀ a, inAt l a → ¬ inAt m a
structure LotsOk (ps : List Prt) (lots : List (List Prt)) : Prop where
  ne : ∀ l ∈ lots, l ≠ []
  perm : lots.flatten.Perm ps
  apart : lots.Pairwise Apart
def Meets (l : List Prt) (as : List Int) : Prop := ∃ a ∈ as, inAt l a
instance (l : List Prt) (as : List Int) : Decidable (Meets l as) := by unfold Meets inAt; infer_instance
theorem Apart.symm {l m : List Prt} (h : Apart l m) : Apart m l := fun a h1 h2 => h a h2 h1
theorem pair_mem {α : Type} {R : α → α → Prop} (sy : ∀ {x y}, R x y → R y x) : ∀ {l : List α}, l.Pairwise R → ∀ x ∈ l, ∀ y ∈ l, x ≠ y → R x y
  | z :: l, h, x, hx, y, hy, ne => by
    rw [List.pairwise_cons] at h
    rcases List.mem_cons.mp hx with ex | hx'
    · rcases List.mem_cons.mp hy with ey | hy'
      · exact absurd (ex.trans ey.symm) ne
      · rw [ex]
        exact h.1 y hy'
    · rcases List.mem_cons.mp hy with ey | hy'
      · rw [ey]
        exact sy (h.1 x hx')
      · exact pair_mem sy h.2 x hx' y hy' ne
theorem flatten_parts {α : Type} {q : List α → Bool} : ∀ (ls : List (List α)), ((ls.filter fun l => !q l).flatten ++ (ls.filter q).flatten).Perm ls.flatten
  | [] => List.Perm.refl _
  | l :: ls => by
    have ih := flatten_parts (q := q) ls
    rw [List.filter_cons, List.filter_cons, List.flatten_cons]
    cases q l with
    | true =>
      simp only [if_true, Bool.not_true, Bool.false_eq_true, if_false, List.flatten_cons]
      refine (List.perm_append_comm_assoc ..).trans (ih.append_left l)
    | false =>
      simp only [if_true, Bool.not_false, Bool.false_eq_true, if_false, List.flatten_cons, List.append_assoc]
      exact ih.append_left l
theorem lotsOk_nil : LotsOk [] [] := ⟨fun l h => (nomatch h), List.Perm.refl _, List.Pairwise.nil⟩
theorem inAt_flat {ls : List (List Prt)} {a : Int} : inAt ls.flatten a ↔ ∃ l ∈ ls, inAt l a := by
  constructor
  · rintro ⟨p, hp, ha⟩
    obtain ⟨l, hl, hp⟩ := List.mem_flatten.mp hp
    exact ⟨l, hl, p, hp, ha⟩
  · rintro ⟨l, hl, p, hp, ha⟩
    exact ⟨p, List.mem_flatten.mpr ⟨l, hl, hp⟩, ha⟩
theorem LotsOk.step {ps : List Prt} {lots : List (List Prt)} (h : LotsOk ps lots) (p : Prt) :
    LotsOk (ps ++ [p]) ((lots.filter fun l => !decide (Meets l p.as)) ++ [(lots.filter fun l => decide (Meets l p.as)).flatten ++ [p]]) where
  ne l hl := by
    rcases List.mem_append.mp hl with hl | hl
    · exact h.ne l (List.mem_filter.mp hl).1
    · obtain rfl := List.mem_singleton.mp hl
      simp
  perm := by
    rw [List.flatten_append, List.flatten_singleton, ← List.append_assoc]
    exact ((flatten_parts lots).trans h.perm).append_right [p]
  apart := by
    rw [List.pairwise_append]
    refine ⟨h.apart.filter _, List.pairwise_singleton _ _, fun l hl m hm a h1 h2 => ?_⟩
    obtain rfl := List.mem_singleton.mp hm
    obtain ⟨hl, nm⟩ := List.mem_filter.mp hl
    have nm : ¬ Meets l p.as := by simpa using nm
    rcases inAt_append.mp h2 with h2 | ⟨q, hq, ha⟩
    · obtain ⟨k, hk, h2⟩ := inAt_flat.mp h2
      obtain ⟨hk, mk⟩ := List.mem_filter.mp hk
      have mk : Meets k p.as := of_decide_eq_true mk
      exact pair_mem (R := Apart) (fun z => z.symm) h.apart l hl k hk (fun e => nm (e ▸ mk)) a h1 h2
    · obtain rfl := List.mem_singleton.mp hq
      exact nm ⟨a, ha, h1⟩
theorem sol_lots : ∀ {lots : List (List Prt)}, lots.Pairwise Apart → (∀ l ∈ lots, ∃ f, SatF l f) → ∃ f, SatF lots.flatten f
  | [], _, _ => ⟨fun _ => 0, fun p hp => (nomatch hp)⟩
  | l :: ls, h, z => by
    rw [List.pairwise_cons] at h
    obtain ⟨f, hf⟩ := z l List.mem_cons_self
    obtain ⟨g, hg⟩ := sol_lots h.2 fun m hm => z m (List.mem_cons_of_mem _ hm)
    refine ⟨glue l f g, satF_glue (fun a h1 h2 => ?_) hf hg⟩
    obtain ⟨m, hm, h2⟩ := inAt_flat.mp h2
    exact h.1 m hm a h1 h2
theorem LotsOk.sol {ps : List Prt} {lots : List (List Prt)} (h : LotsOk ps lots) : (∃ f, SatF ps f) ↔ ∀ l ∈ lots, ∃ f, SatF l f := by
  have e : ∀ p, p ∈ lots.flatten ↔ p ∈ ps := fun p => h.perm.mem_iff
  constructor
  · rintro ⟨f, hf⟩ l hl
    exact ⟨f, fun p hp => hf p ((e p).mp (List.mem_flatten.mpr ⟨l, hl, hp⟩))⟩
  · intro z
    obtain ⟨f, hf⟩ := sol_lots h.apart z
    exact ⟨f, (satF_perm e).mp hf⟩
theorem waysOk_none {ps : List Prt} (h : ¬ ∃ f, SatF ps f) : WaysOk ps [] := ⟨⟨fun w hw => (nomatch hw), List.Pairwise.nil⟩, fun f s => absurd ⟨f, s⟩ h⟩
theorem lot_sol {lot : List Prt} (ok : ∀ p ∈ lot, p.Ok) {a : Int} {ns : List Int} (hc : ∀ n, n ∈ ns ↔ Cond lot a n) : (∃ f, SatF lot f) ↔ ∃ n ∈ ns, ∃ f, SatF (restOf lot a n) f := by
  constructor
  · rintro ⟨f, s⟩
    obtain ⟨c, s⟩ := (satF_rest ok a f).mp s
    exact ⟨f a, (hc _).mpr c, f, s⟩
  · rintro ⟨n, hn, f, s⟩
    refine ⟨put f a n, ?_⟩
    have e : put f a n a = n := if_pos rfl
    rw [satF_rest ok a, e]
    exact ⟨(hc n).mp hn, s.congr fun b hb => (if_neg (inAt_rest.mp hb).1).symm⟩
/-- at most n attributes -/
def Few (n : Nat) (ps : List Prt) : Prop := ∃ S : List Int, S.length ≤ n ∧ ∀ a, inAt ps a → a ∈ S
theorem Few.rest {n : Nat} {lot : List Prt} {a : Int} (h : Few (n + 1) lot) (ha : inAt lot a) (k : Int) : Few n (restOf lot a k) := by
  obtain ⟨S, h1, h2⟩ := h
  refine ⟨S.filter fun b => decide (b ≠ a), ?_, fun b hb => ?_⟩
  · have : (S.filter fun b => decide (b ≠ a)).length < S.length := List.length_filter_lt_length_iff_exists.mpr ⟨a, h2 a ha, by simp⟩
    omega
  · obtain ⟨x, y⟩ := inAt_rest.mp hb
    exact List.mem_filter.mpr ⟨h2 b y, decide_eq_true x⟩
theorem Few.none {lot : List Prt} (h : Few 0 lot) (a : Int) : ¬ inAt lot a := fun ha => by
  obtain ⟨S, h1, h2⟩ := h
  have := List.length_pos_of_mem (h2 a ha)
  omega
theorem Few.of {n : Nat} {ps qs : List Prt} (h : Few n ps) (e : ∀ q ∈ qs, q ∈ ps) : Few n qs := by
  obtain ⟨S, h1, h2⟩ := h
  exact ⟨S, h1, fun a ⟨p, hp, ha⟩ => h2 a ⟨p, e p hp, ha⟩⟩
/-- what the defs are given -/
structure PsOk (n : Nat) (ps : List Prt) : Prop where
  ok : ∀ p ∈ ps, p.Ok
  few : Few n ps
  sz : ps.length ≤ 8
  bd : bdM ps ≤ 2 ^ 20
theorem LotsOk.psOk {n : Nat} {ps : List Prt} {lots : List (List Prt)} (h : LotsOk ps lots) (P : PsOk n ps) : ∀ l ∈ lots, PsOk n l := fun l hl => by
  have s := List.sublist_flatten_of_mem hl
  have e : ∀ p ∈ l, p ∈ ps := fun p hp => h.perm.mem_iff.mp (s.subset hp)
  exact ⟨fun p hp => P.ok p (e p hp), P.few.of e, Nat.le_trans s.length_le (by rw [h.perm.length_eq]; exact P.sz), Nat.le_trans (bdM_sub s) (by rw [bdM_perm h.perm]; exact P.bd)⟩
theorem PsOk.rest {n : Nat} {lot : List Prt} (P : PsOk (n + 1) lot) {a : Int} (ha : inAt lot a) (k : Int) : PsOk n (restOf lot a k) where
  ok := rest_ok P.ok
  few := P.few.rest ha k
  sz := by
    unfold restOf
    rw [List.length_append, List.length_map]
    have h1 := List.length_filter_le (fun p : Prt => decide ((p.as.filter fun b => decide (b ≠ a)) ≠ [])) (lot.filter fun p => decide (a ∈ p.as))
    have h2 := (List.filter_append_perm (fun p : Prt => decide (a ∈ p.as)) lot).length_eq
    rw [List.length_append] at h2
    have e : (lot.filter fun p => decide (a ∉ p.as)) = lot.filter fun p => !decide (a ∈ p.as) := by
      congr 1
      funext p
      exact decide_not
    rw [e]
    have := P.sz
    omega
  bd := Nat.le_trans bdM_rest P.bd
end Dl

set_option maxRecDepth 100000
set_option maxHeartbeats 4100000
/-! what the defs below answers tell -/
namespace Dl
open L2 PySem PySem.Spec PyProof.Rows
def Prt.D (p : Prt) : Dl.D := .tup [.tup (p.as.map .int), if p.l = true then .lst (p.rows.map rowD) else .tup (p.rows.map rowD)]
def lotD (ps : List Prt) : D := .lst (ps.map Prt.D)
def wayD (w : List (Int × Int)) : D := .tup (w.map fun x => .tup [.int x.1, .int x.2])
def F_without : List D → M D
  | [.tup xs, .int a] => match intsD xs with
    | some ns => do M.need (ns.length < 8); pure (.tup ((ns.filter fun b => decide (b ≠ a)).map .int))
    | none => M.fail
  | _ => M.fail
def F_grouped (ds : List D) : M D := ⟨fun γ P _ => ∃ (p : Prt) (a : Int), ds = [p.D, .int a] ∧ p.Ok ∧ a ∈ p.as ∧ p.rows.length ≤ 2 ^ 20 ∧ ∀ ks : List Int, ks.Nodup → (∀ n, n ∈ ks ↔ ∃ r ∈ p.rows, p.col a r = n) → P (.dil ks (ks.map fun n => .lst ((p.left a n).map rowD))) γ,
  fun h _ ⟨p, a, e, h1, h2, h3, q⟩ => ⟨p, a, e, h1, h2, h3, fun ks k1 k2 => h _ _ (q ks k1 k2)⟩⟩
def F_shared (ds : List D) : M D := ⟨fun γ P _ => ∃ gs : List (List Int × List D), ds = [.lst (gs.map fun g => .dil g.1 g.2)] ∧ gs ≠ [] ∧ gs.length ≤ 8 ∧ (∀ g ∈ gs, g.1.Nodup ∧ g.2.length = g.1.length ∧ g.1.length ≤ 2 ^ 20) ∧
    ∀ ns : List Int, ns.Nodup → ns.length ≤ 2 ^ 20 → (∀ n, n ∈ ns ↔ ∀ g ∈ gs, n ∈ g.1) → P (.lst (ns.map .int)) γ,
  fun h _ ⟨gs, e, h1, h2, h3, q⟩ => ⟨gs, e, h1, h2, h3, fun ns k1 k2 k3 => h _ _ (q ns k1 k2 k3)⟩⟩
def F_meets (ds : List D) : M D := ⟨fun γ P _ => ∃ (l : List Prt) (as : List Int), ds = [lotD l, .tup (as.map .int)] ∧ l.length ≤ 8 ∧ (∀ p ∈ l, p.as.length < 8) ∧ P (.bl (decide (Meets l as))) γ,
  fun h _ ⟨l, as, e, h1, h2, q⟩ => ⟨l, as, e, h1, h2, h _ _ q⟩⟩
def F_lots (ds : List D) : M D := ⟨fun γ P _ => ∃ ps : List Prt, ds = [lotD ps] ∧ ps.length ≤ 8 ∧ (∀ p ∈ ps, p.as.length < 8) ∧ ∀ lots, LotsOk ps lots → P (.lst (lots.map lotD)) γ,
  fun h _ ⟨ps, e, h1, h2, q⟩ => ⟨ps, e, h1, h2, fun l k => h _ _ (q l k)⟩⟩
def F_thinnest (ds : List D) : M D := ⟨fun γ P _ => ∃ (n : Nat) (lot : List Prt), ds = [lotD lot] ∧ PsOk n lot ∧ lot ≠ [] ∧ ∀ (a : Int) (ns : List Int), inAt lot a → ns.Nodup → ns.length ≤ 2 ^ 20 → (∀ k, k ∈ ns ↔ Cond lot a k) → P (.tup [.int a, .lst (ns.map fun k => .tup [.int k, lotD (restOf lot a k)])]) γ,
  fun h _ ⟨n, lot, e, h1, h2, q⟩ => ⟨n, lot, e, h1, h2, fun a ns k1 k2 k3 k4 => h _ _ (q a ns k1 k2 k3 k4)⟩⟩
def F_has (n : Nat) (ds : List D) : M D := ⟨fun γ P _ => ∃ lot : List Prt, ds = [lotD lot] ∧ PsOk n lot ∧ lot ≠ [] ∧ ∀ b : Bool, (b = true ↔ ∃ f, SatF lot f) → P (.bl b) γ,
  fun h _ ⟨lot, e, h1, h2, q⟩ => ⟨lot, e, h1, h2, fun b k => h _ _ (q b k)⟩⟩
def F_wol (n : Nat) (ds : List D) : M D := ⟨fun γ P _ => ∃ lot : List Prt, ds = [lotD lot] ∧ PsOk n lot ∧ lot ≠ [] ∧ ∀ W, WaysOk lot W → P (.lst (W.map wayD)) γ,
  fun h _ ⟨lot, e, h1, h2, q⟩ => ⟨lot, e, h1, h2, fun b k => h _ _ (q b k)⟩⟩
def F_ways (n : Nat) (ds : List D) : M D := ⟨fun γ P _ => ∃ ps : List Prt, ds = [lotD ps] ∧ PsOk n ps ∧ ∀ W, WaysOk ps W → P (.lst (W.map wayD)) γ,
  fun h _ ⟨lot, e, h1, q⟩ => ⟨lot, e, h1, fun b k => h _ _ (q b k)⟩⟩
section
variable {γ : Gh} {P : D → Gh → Prop} {X : Addr → Gh → Prop} {ds : List D}
theorem runF_grouped : (F_grouped ds).run γ P X = ∃ (p : Prt) (a : Int), ds = [p.D, .int a] ∧ p.Ok ∧ a ∈ p.as ∧ p.rows.length ≤ 2 ^ 20 ∧ ∀ ks : List Int, ks.Nodup → (∀ n, n ∈ ks ↔ ∃ r ∈ p.rows, p.col a r = n) → P (.dil ks (ks.map fun n => .lst ((p.left a n).map rowD))) γ := rfl
theorem runF_shared : (F_shared ds).run γ P X = ∃ gs : List (List Int × List D), ds = [.lst (gs.map fun g => .dil g.1 g.2)] ∧ gs ≠ [] ∧ gs.length ≤ 8 ∧ (∀ g ∈ gs, g.1.Nodup ∧ g.2.length = g.1.length ∧ g.1.length ≤ 2 ^ 20) ∧
    ∀ ns : List Int, ns.Nodup → ns.length ≤ 2 ^ 20 → (∀ n, n ∈ ns ↔ ∀ g ∈ gs, n ∈ g.1) → P (.lst (ns.map .int)) γ := rfl
theorem runF_meets : (F_meets ds).run γ P X = ∃ (l : List Prt) (as : List Int), ds = [lotD l, .tup (as.map .int)] ∧ l.length ≤ 8 ∧ (∀ p ∈ l, p.as.length < 8) ∧ P (.bl (decide (Meets l as))) γ := rfl
theorem runF_lots : (F_lots ds).run γ P X = ∃ ps : List Prt, ds = [lotD ps] ∧ ps.length ≤ 8 ∧ (∀ p ∈ ps, p.as.length < 8) ∧ ∀ lots, LotsOk ps lots → P (.lst (lots.map lotD)) γ := rfl
theorem runF_thinnest : (F_thinnest ds).run γ P X = ∃ (n : Nat) (lot : List Prt), ds = [lotD lot] ∧ PsOk n lot ∧ lot ≠ [] ∧ ∀ (a : Int) (ns : List Int), inAt lot a → ns.Nodup → ns.length ≤ 2 ^ 20 → (∀ k, k ∈ ns ↔ Cond lot a k) → P (.tup [.int a, .lst (ns.map fun k => .tup [.int k, lotD (restOf lot a k)])]) γ := rfl
theorem runF_has {n : Nat} : (F_has n ds).run γ P X = ∃ lot : List Prt, ds = [lotD lot] ∧ PsOk n lot ∧ lot ≠ [] ∧ ∀ b : Bool, (b = true ↔ ∃ f, SatF lot f) → P (.bl b) γ := rfl
theorem runF_wol {n : Nat} : (F_wol n ds).run γ P X = ∃ lot : List Prt, ds = [lotD lot] ∧ PsOk n lot ∧ lot ≠ [] ∧ ∀ W, WaysOk lot W → P (.lst (W.map wayD)) γ := rfl
theorem runF_ways {n : Nat} : (F_ways n ds).run γ P X = ∃ ps : List Prt, ds = [lotD ps] ∧ PsOk n ps ∧ ∀ W, WaysOk ps W → P (.lst (W.map wayD)) γ := rfl
end
theorem meets_any {l : List Prt} {as : List Int} : (l.any fun p => p.as.any fun a => as.contains a) = decide (Meets l as) := by
  rw [Bool.eq_iff_iff, decide_eq_true_iff, List.any_eq_true]
  unfold Meets inAt
  constructor
  · rintro ⟨p, hp, h⟩
    obtain ⟨a, ha, h⟩ := List.any_eq_true.mp h
    exact ⟨a, List.contains_iff_mem.mp h, p, hp, ha⟩
  · rintro ⟨a, ha, p, hp, hb⟩
    exact ⟨p, hp, List.any_eq_true.mpr ⟨a, hb, List.contains_iff_mem.mpr ha⟩⟩
theorem LotsOk.small {ps : List Prt} {lots : List (List Prt)} (h : LotsOk ps lots) : (∀ l ∈ lots, l.length ≤ ps.length ∧ ∀ p ∈ l, p ∈ ps) ∧ lots.length ≤ ps.length := by
  refine ⟨fun l hl => ?_, ?_⟩
  · have s := List.sublist_flatten_of_mem hl
    exact ⟨by rw [← h.perm.length_eq]; exact s.length_le, fun p hp => h.perm.mem_iff.mp (s.subset hp)⟩
  · rw [← h.perm.length_eq]
    have : ∀ (ls : List (List Prt)), (∀ l ∈ ls, l ≠ []) → ls.length ≤ ls.flatten.length := fun ls => by
      induction ls with
      | nil => intro _; exact Nat.le_refl _
      | cons l ls ih =>
        intro z
        have h1 := ih fun m hm => z m (List.mem_cons_of_mem _ hm)
        have h2 := List.length_pos_iff.mpr (z l List.mem_cons_self)
        rw [List.flatten_cons, List.length_append, List.length_cons]
        omega
    exact this _ h.ne
theorem addG_map {k : Int} {v : D} {G : Int → List D} : ∀ {ks : List Int}, ks.Nodup → (k ∉ ks → G k = []) → addG k v ks (ks.map G) = (if k ∈ ks then ks else ks ++ [k], (if k ∈ ks then ks else ks ++ [k]).map fun n => if n = k then G n ++ [v] else G n)
  | [], _, h => by
    have : G k = [] := h (by simp)
    simp [addG, this]
  | k' :: ks, nd, h => by
    rw [List.nodup_cons] at nd
    rw [List.map_cons]
    unfold addG
    by_cases c : k' = k
    · subst c
      rw [if_pos rfl, if_pos List.mem_cons_self, List.map_cons, if_pos rfl]
      have : ks.map (fun n => if n = k' then G n ++ [v] else G n) = ks.map G := List.map_congr_left fun n hn => if_neg fun e => nd.1 (by rw [← e]; exact hn)
      rw [this]
    · rw [if_neg c]
      have ih := addG_map (k := k) (v := v) (G := G) nd.2 fun z => h fun y => (List.mem_cons.mp y).elim (fun e => c e.symm) z
      rw [ih]
      have e : k ∈ k' :: ks ↔ k ∈ ks := by
        rw [List.mem_cons]
        exact ⟨fun z => z.elim (fun e => absurd e.symm c) id, .inr⟩
      by_cases m : k ∈ ks
      · rw [if_pos m, if_pos (e.mpr m), List.map_cons, if_neg c]
      · rw [if_neg m, if_neg (fun z => m (e.mp z)), List.cons_append, List.map_cons, if_neg c]
theorem group_T {key : List Int → Int} {val : List Int → D} {ti : Nat} {fk fv : DE → M D} {b : DE} {X : Addr → Gh → Prop} {γ : Gh} {P : List Int × List (List D) → Gh → Prop} : ∀ (post done : List (List Int)) (e : DE) (ks : List Int), e.set ti none = b →
    (∀ r ∈ post, ∀ (γ : Gh) (PP : D → Gh → Prop), PP (.int (key r)) γ → (fk (b.set ti (some (.sh (rowD r))))).run γ PP X) → (∀ r ∈ post, ∀ (γ : Gh) (PP : D → Gh → Prop), PP (val r) γ → (fv (b.set ti (some (.sh (rowD r))))).run γ PP X) →
    (done ++ post).length ≤ 2 ^ 20 → ks.Nodup → (∀ n, n ∈ ks ↔ ∃ r ∈ done, key r = n) →
    (∀ ks' : List Int, ks'.Nodup → (∀ n, n ∈ ks' ↔ ∃ r ∈ done ++ post, key r = n) → P (ks', ks'.map fun n => ((done ++ post).filter fun r => decide (key r = n)).map val) γ) →
    (groupM ti fk fv (post.map rowD) e ks (ks.map fun n => (done.filter fun r => decide (key r = n)).map val)).run γ P X := by
  intro post
  induction post with
  | nil =>
    intro done e ks _ _ _ _ nd hm h
    have := h ks nd (by rw [List.append_nil]; exact hm)
    rw [List.append_nil] at this
    exact this
  | cons r post ih =>
    intro done e ks he hk hv hl nd hm h
    have es : setS ti (rowD r) e = b.set ti (some (.sh (rowD r))) := by
      show e.set ti (some (.sh (rowD r))) = _
      rw [← he, List.set_set]
    simp only [List.map_cons, groupM, M.run_bind]
    rw [es]
    have dl : done.length ≤ 2 ^ 20 := by rw [List.length_append] at hl; omega
    have sz : 2 ^ 20 < sizeLine := by decide
    have kl : ks.length ≤ done.length := by
      have := len_le nd (m := done.map key) fun n hn => by
        obtain ⟨q, hq, e⟩ := (hm n).mp hn
        exact List.mem_map.mpr ⟨q, hq, e⟩
      rwa [List.length_map] at this
    refine hk r List.mem_cons_self _ _ ⟨⟨by omega, fun l hl => ?_⟩, hv r List.mem_cons_self _ _ ?_⟩
    · obtain ⟨n, _, rfl⟩ := List.mem_map.mp hl
      rw [List.length_map]
      have := List.length_filter_le (fun r => decide (key r = n)) done
      omega
    · have ea : addG (key r) (val r) ks (ks.map fun n => (done.filter fun q => decide (key q = n)).map val) = _ := addG_map nd fun z => by
        rw [List.map_eq_nil_iff, List.filter_eq_nil_iff]
        intro q hq e
        exact z ((hm _).mpr ⟨q, hq, of_decide_eq_true e⟩)
      show (groupM ti fk fv (post.map rowD) (b.set ti (some (.sh (rowD r)))) (addG (key r) (val r) ks (ks.map fun n => (done.filter fun q => decide (key q = n)).map val)).1 (addG (key r) (val r) ks (ks.map fun n => (done.filter fun q => decide (key q = n)).map val)).2).run γ P X
      rw [ea]
      · have e2 : ∀ ks : List Int, (ks.map fun n => if n = key r then (done.filter fun q => decide (key q = n)).map val ++ [val r] else (done.filter fun q => decide (key q = n)).map val) = ks.map fun n => ((done ++ [r]).filter fun q => decide (key q = n)).map val := fun ks => List.map_congr_left fun n hn => by
          rw [List.filter_append, List.map_append]
          by_cases c : n = key r
          · subst c
            rw [if_pos rfl, List.filter_cons, if_pos (by simp)]
            rfl
          · rw [if_neg c, List.filter_cons, if_neg (by simpa using fun e => c e.symm)]
            simp
        rw [e2]
        have e3 : done ++ r :: post = (done ++ [r]) ++ post := by simp
        refine ih (done ++ [r]) _ _ (by rw [List.set_set]; rw [← he, List.set_set]) (fun q hq => hk q (List.mem_cons_of_mem _ hq)) (fun q hq => hv q (List.mem_cons_of_mem _ hq)) (by rw [← e3]; exact hl) ?_ (fun n => ?_) (by rw [← e3]; exact h)
        · by_cases c : key r ∈ ks
          · rw [if_pos c]
            exact nd
          · rw [if_neg c, List.nodup_append]
            exact ⟨nd, by simp, fun x hx y hy e => c (by rw [List.mem_singleton] at hy; rw [← hy, ← e]; exact hx)⟩
        · have base : n ∈ (if key r ∈ ks then ks else ks ++ [key r]) ↔ n ∈ ks ∨ n = key r := by
            by_cases c : key r ∈ ks
            · rw [if_pos c]
              exact ⟨.inl, fun z => z.elim id fun e => by rw [e]; exact c⟩
            · rw [if_neg c, List.mem_append, List.mem_singleton]
          rw [base, hm]
          constructor
          · rintro (⟨q, hq, e⟩ | e)
            · exact ⟨q, List.mem_append_left _ hq, e⟩
            · exact ⟨r, by simp, e.symm⟩
          · rintro ⟨q, hq, e⟩
            rcases List.mem_append.mp hq with hq | hq
            · exact .inl ⟨q, hq, e⟩
            · rw [List.mem_singleton] at hq
              subst hq
              exact .inr e.symm
theorem getZ_mem {k : Int} : ∀ {ks : List Int} {vs : List D}, vs.length = ks.length → (getZ ks vs k).isSome = decide (k ∈ ks)
  | [], vs, h => by cases vs <;> rfl
  | k' :: ks, [], h => by cases h
  | k' :: ks, v :: vs, h => by
    show (if k' = k then some v else getZ ks vs k).isSome = _
    by_cases c : k' = k
    · subst c
      simp
    · rw [if_neg c, getZ_mem (by simpa using h)]
      have : k ∈ k' :: ks ↔ k ∈ ks := by
        rw [List.mem_cons]
        exact ⟨fun z => z.elim (fun e => absurd e.symm c) id, .inr⟩
      rw [decide_eq_decide]
      exact this.symm
theorem getZ_map {k : Int} {G : Int → D} : ∀ {ks : List Int}, k ∈ ks → getZ ks (ks.map G) k = some (G k)
  | k' :: ks, h => by
    show (if k' = k then some (G k') else getZ ks (ks.map G) k) = _
    by_cases c : k' = k
    · rw [if_pos c, c]
    · rw [if_neg c]
      exact getZ_map ((List.mem_cons.mp h).elim (fun e => absurd e.symm c) id)
theorem at_zero {x : D} {xs : List D} : L2.atI (x :: xs) 0 = some x := atN (i := 0) rfl
theorem cut_tail {x : D} {xs : List D} : cutD (x :: xs) (some 1) none = xs := cut_from (by omega) (by rw [List.length_cons]; omega)
def grpD (a : Int) (z : Prt × List Int) : D := .dil z.2 (z.2.map fun n => .lst ((z.1.left a n).map rowD))
structure BestZ (lot : List Prt) (a : Int) (ns : List Int) (zs : List (Prt × List Int)) : Prop where
  at_ : inAt lot a
  zs_ : zs.map (·.1) = lot.filter fun p => decide (a ∈ p.as)
  keys : ∀ z ∈ zs, z.2.Nodup ∧ ∀ n, n ∈ z.2 ↔ ∃ r ∈ z.1.rows, z.1.col a r = n
  nd : ns.Nodup
  few : ns.length ≤ 2 ^ 20
  mem : ∀ n, n ∈ ns ↔ ∀ z ∈ zs, n ∈ z.2
def bestD (a : Int) (ns : List Int) (zs : List (Prt × List Int)) : D := .tup [.int a, .lst (ns.map .int), .lst (zs.map (grpD a))]
theorem BestZ.cond {lot : List Prt} {a : Int} {ns : List Int} {zs : List (Prt × List Int)} (b : BestZ lot a ns zs) (k : Int) : k ∈ ns ↔ Cond lot a k := by
  rw [b.mem]
  have e : ∀ p, p ∈ zs.map (·.1) ↔ p ∈ lot ∧ a ∈ p.as := fun p => by rw [b.zs_, List.mem_filter, decide_eq_true_iff]
  constructor
  · intro h p hp ha
    obtain ⟨z, hz, rfl⟩ := List.mem_map.mp ((e p).mpr ⟨hp, ha⟩)
    exact ((b.keys z hz).2 k).mp (h z hz)
  · intro h z hz
    obtain ⟨hp, ha⟩ := (e z.1).mp (List.mem_map_of_mem hz)
    exact ((b.keys z hz).2 k).mpr (h z.1 hp ha)
instance : Inhabited Prt := ⟨⟨[], [], false⟩⟩
theorem range_pick {α β : Type} [Inhabited α] (L : List α) (Q : α → Bool) (F : α → β) : ((List.range L.length).filter fun k => Q (L.getD k default)).map (fun k => F (L.getD k default)) = (L.filter Q).map F := by
  have e : L = (List.range L.length).map fun k => L.getD k default := by
    refine List.ext_getElem (by simp) fun i h1 h2 => ?_
    simp [List.getD_eq_getElem?_getD, List.getElem?_eq_getElem h1]
  conv => rhs; rw [e]
  rw [List.filter_map, List.map_map]
  rfl
theorem rangeD_nat (m : Nat) : rangeD 0 m = (List.range m).map fun (k : Nat) => D.int (k : Int) := by
  unfold rangeD
  simp
theorem at_one {x y : D} {xs : List D} : L2.atI (x :: y :: xs) 1 = some y := atN (i := 1) rfl
theorem at_map {α : Type} [Inhabited α] {L : List α} {F : α → D} {k : Nat} (h : k < L.length) : L2.atI (L.map F) (k : Int) = some (F (L.getD k default)) := by
  refine atN ?_
  rw [List.getElem?_map, List.getD_eq_getElem?_getD, List.getElem?_eq_getElem h]
  rfl
theorem BestZ.at_k {lot : List Prt} {a : Int} {ns : List Int} {zs : List (Prt × List Int)} (b : BestZ lot a ns zs) {k : Nat} (h : k < (lot.filter fun p => decide (a ∈ p.as)).length) : ∃ ks, L2.atI (zs.map (grpD a)) (k : Int) = some (grpD a ((lot.filter fun p => decide (a ∈ p.as)).getD k default, ks)) ∧ ∀ n ∈ ns, n ∈ ks := by
  have e := b.zs_
  have hl : k < zs.length := by
    have := congrArg List.length e
    rw [List.length_map] at this
    omega
  refine ⟨zs[k].2, atN ?_, fun n hn => (b.mem n).mp hn _ (List.getElem_mem hl)⟩
  rw [List.getElem?_map, List.getElem?_eq_getElem hl, List.getD_eq_getElem?_getD, ← e, List.getElem?_map, List.getElem?_eq_getElem hl]
  rfl
theorem way_len {n : Nat} {ps : List Prt} {W : List (List (Int × Int))} (h : WaysP ps W) (P : PsOk n ps) : ∀ w ∈ W, w.length ≤ 64 := fun w hw => by
  obtain ⟨nd, hm, _⟩ := h.own w hw
  have := len_le nd (m := ps.flatMap fun p => p.as) fun a ha => (List.mem_flatMap (f := fun p : Prt => p.as)).mpr ((hm a).mp ha)
  rw [List.length_map] at this
  have z := flat_len (f := fun p : Prt => p.as) (n := 8) (l := ps) fun p hp => Nat.le_of_lt (P.ok p hp).few
  have := P.sz
  omega
theorem PsOk.none {lot : List Prt} (P : PsOk 0 lot) (ne : lot ≠ []) : False := by
  obtain ⟨p, l, rfl⟩ := List.exists_cons_of_ne_nil ne
  obtain ⟨a, u, e⟩ := List.exists_cons_of_ne_nil (P.ok p List.mem_cons_self).ne
  exact P.few.none a ⟨p, List.mem_cons_self, by rw [e]; exact List.mem_cons_self⟩
theorem fmap_congr {α β : Type} {f g : α → List β} {l : List α} (h : ∀ x ∈ l, f x = g x) : l.flatMap f = l.flatMap g := by
  rw [List.flatMap_def, List.flatMap_def, List.map_congr_left h]
end Dl

set_option maxRecDepth 100000
set_option maxHeartbeats 4100000
/-! sorted rows; answers out of ways -/
namespace Dl
open L2 PySem PySem.Spec PyProof.Rows
def leR (p q : List Int) : Bool := decide (p ≤ q)
theorem pyD_row (r : List Int) : pyD (rowD r) = .tuple (r.map .int) := by
  unfold pyD rowD
  simp [toPy, toPyL_int]
theorem leD_rows (p q : List Int) : leD (rowD p) (rowD q) = leR p q := by
  unfold leD leR
  rw [PySem.W.dataLe_eq]
  show (!PySem.W.dataLt (pyD (rowD q)) (pyD (rowD p))) = _
  rw [pyD_row, pyD_row, PySem.W.dataLt_tuple]
  show (!PySem.W.rowLt (q.map .int) (p.map .int)) = _
  rw [PySem.W.dataLt_ints, ← decide_not]
  rfl
theorem sortDs_rows (rs : List (List Int)) : sortDs (rs.map rowD) = (rs.mergeSort leR).map rowD :=
  (PySem.W.sort_maps (r := leR) (s := leD) rowD (l := rs) fun a _ b _ => (leD_rows a b).symm).symm
theorem leR_total : PySem.W.TotalLe leR := ⟨fun a b c h1 h2 => decide_eq_true (List.le_trans (of_decide_eq_true h1) (of_decide_eq_true h2)), fun a b => (List.le_total a b).elim (fun h => .inl (decide_eq_true h)) fun h => .inr (decide_eq_true h)⟩
theorem sortR_pw (rs : List (List Int)) : (rs.mergeSort leR).Pairwise (fun a b => a ≤ b) := (PySem.W.sort_pairwise leR_total rs).imp fun h => of_decide_eq_true h
theorem sortR_eq {rs qs : List (List Int)} (p : qs.Perm rs) (h : qs.Pairwise fun a b => a ≤ b) : rs.mergeSort leR = qs :=
  List.Perm.eq_of_pairwise (le := fun a b => a ≤ b) (fun a b _ _ h1 h2 => List.le_antisymm h1 h2) (sortR_pw rs) h ((List.mergeSort_perm rs leR).trans p.symm)
theorem alike_ints : ∀ (r q : List Int), PySem.W.alikeAll (r.map .int) (q.map .int) = true
  | [], q => by unfold PySem.W.alikeAll; rfl
  | _ :: _, [] => by unfold PySem.W.alikeAll; rfl
  | x :: r, y :: q => by
    rw [List.map_cons, List.map_cons]
    unfold PySem.W.alikeAll
    rw [alike_ints r q]
    unfold PySem.W.alike
    rfl
theorem toPyL_rowT : ∀ (rs : List (List Int)), toPyL (rs.map rowD) = some (rs.map fun r => PyData.tuple (r.map .int))
  | [] => rfl
  | r :: rs => by
    have ih := toPyL_rowT rs
    simp only [List.map_cons, toPyL, rowD, toPy, toPyL_int] at ih ⊢
    rw [ih]
    rfl
theorem sortOk_rows {rs : List (List Int)} (h : rs.length ≤ sizeLine) (ne : ∀ r ∈ rs, r ≠ []) : SortOk (rs.map rowD) := by
  refine ⟨_, toPyL_rowT rs, fun d hd d' hd' => ?_, .inl fun d hd => ?_, by rw [List.length_map]; exact h, fun d hd => ?_⟩
  · obtain ⟨r, _, rfl⟩ := List.mem_map.mp hd
    obtain ⟨q, _, rfl⟩ := List.mem_map.mp hd'
    unfold PySem.W.alike
    exact alike_ints r q
  · obtain ⟨r, hr, rfl⟩ := List.mem_map.mp hd
    obtain ⟨x, r', rfl⟩ := List.exists_cons_of_ne_nil (ne r hr)
    exact ⟨.int x, r'.map .int, rfl⟩
  · obtain ⟨r, _, rfl⟩ := List.mem_map.mp hd
    have := depth_ints r
    simp only [PyData.depth]
    omega
/-! a way, sorted -/
def prR (x : Int × Int) : List Int := [x.1, x.2]
theorem wayD_rows (w : List (Int × Int)) : wayD w = .tup ((w.map prR).map rowD) := by
  unfold wayD
  rw [List.map_map]
  rfl
/-- the numbers of a way, by the attributes -/
def rowOf (w : List (Int × Int)) : List Int := ((w.map prR).mergeSort leR).map fun r => r.getD 1 0
theorem sorted_way {w : List (Int × Int)} {m : Nat} {f : Int → Int} (nd : (w.map (·.1)).Nodup) (hm : ∀ a : Int, a ∈ w.map (·.1) ↔ 0 ≤ a ∧ a < m) (ag : Agr w f) :
    (w.map prR).mergeSort leR = (List.range m).map fun (k : Nat) => prR ((k : Int), f k) := by
  refine sortR_eq ?_ ?_
  · have e : ((List.range m).map fun (k : Nat) => prR ((k : Int), f k)) = ((List.range m).map fun (k : Nat) => ((k : Int), f k)).map prR := by rw [List.map_map]; rfl
    rw [e]
    refine List.Perm.map _ ((List.perm_ext_iff_of_nodup ?_ ?_).mpr fun x => ?_)
    · refine nodup_map_on (fun i _ j _ e => ?_) List.nodup_range
      have := congrArg Prod.fst e
      simp only at this
      omega
    · unfold List.Nodup at nd ⊢
      rw [List.pairwise_map] at nd
      exact nd.imp fun h e => h (by rw [e])
    · constructor
      · intro h
        obtain ⟨k, hk, rfl⟩ := List.mem_map.mp h
        have := (hm k).mpr ⟨by omega, by have := List.mem_range.mp hk; omega⟩
        obtain ⟨y, hy, e⟩ := List.mem_map.mp this
        have e2 := ag y hy
        have : y = ((k : Int), f k) := by
          rw [← e, e2]
        rw [← this]
        exact hy
      · intro h
        obtain ⟨h0, h1⟩ := (hm x.1).mp (List.mem_map_of_mem h)
        have e2 := ag x h
        refine List.mem_map.mpr ⟨x.1.toNat, List.mem_range.mpr (by omega), ?_⟩
        have e3 : ((x.1.toNat : Nat) : Int) = x.1 := by omega
        rw [e3, e2]
  · rw [List.pairwise_map]
    refine List.Pairwise.imp (fun {i j} h => ?_) List.pairwise_lt_range
    have : prR ((i : Int), f i) < prR ((j : Int), f j) := by
      show [(i : Int), f i] < [(j : Int), f j]
      rw [List.cons_lt_cons_iff]
      exact .inl (by omega)
    exact List.le_of_lt this
theorem rowOf_eq {w : List (Int × Int)} {m : Nat} {f : Int → Int} (nd : (w.map (·.1)).Nodup) (hm : ∀ a : Int, a ∈ w.map (·.1) ↔ 0 ≤ a ∧ a < m) (ag : Agr w f) : rowOf w = (List.range m).map fun (k : Nat) => f k := by
  unfold rowOf
  rw [sorted_way nd hm ag, List.map_map]
  rfl
/-! answers -/
def atR (r : List Int) : Int → Int := fun a => r.getD a.toNat 0
structure AnsP (m : Nat) (ps : List Prt) (ans : List (List Int)) : Prop where
  asc : ans.Pairwise (fun r q => r < q)
  mem : ∀ r, r ∈ ans ↔ r.length = m ∧ SatF ps (atR r)
theorem atR_eq {r : List Int} : (List.range r.length).map (fun (k : Nat) => atR r k) = r := by
  refine List.ext_getElem (by simp) fun i h1 h2 => ?_
  simp [atR, List.getD_eq_getElem?_getD, List.getElem?_eq_getElem h2]
theorem atR_map {m : Nat} {f : Int → Int} {a : Int} (h0 : 0 ≤ a) (h1 : a < m) : atR ((List.range m).map fun (k : Nat) => f k) a = f a := by
  unfold atR
  rw [List.getD_eq_getElem?_getD, List.getElem?_map, List.getElem?_range (by omega)]
  have : ((a.toNat : Nat) : Int) = a := by omega
  simp [this]
theorem ans_of {m : Nat} {ps : List Prt} {W : List (List (Int × Int))} (cov : ∀ a : Int, inAt ps a ↔ 0 ≤ a ∧ a < m) (h : WaysOk ps W) : AnsP m ps ((W.map rowOf).mergeSort leR) := by
  have row : ∀ w ∈ W, ∃ f, Agr w f ∧ SatF ps f ∧ rowOf w = (List.range m).map fun (k : Nat) => f k := fun w hw => by
    obtain ⟨nd, hm, f, a, s⟩ := h.own w hw
    exact ⟨f, a, s, rowOf_eq nd (fun a => (hm a).trans (cov a)) a⟩
  have perm := List.mergeSort_perm (W.map rowOf) leR
  have nd : (W.map rowOf).Nodup := by
    unfold List.Nodup
    rw [List.pairwise_map]
    refine List.Pairwise.imp_of_mem (fun {w v} hw hv z e => ?_) h.one
    obtain ⟨f, a, s, e1⟩ := row w hw
    obtain ⟨g, b, t, e2⟩ := row v hv
    refine z f a fun x hx => ?_
    obtain ⟨_, hm, _⟩ := h.own v hv
    obtain ⟨h0, h1⟩ := (cov x.1).mp ((hm x.1).mp (List.mem_map_of_mem hx))
    rw [← b x hx, ← atR_map (f := f) h0 h1, ← atR_map (f := g) h0 h1, ← e1, ← e2, e]
  refine ⟨?_, fun r => ?_⟩
  · have nd2 : ((W.map rowOf).mergeSort leR).Nodup := perm.nodup_iff.mpr nd
    refine List.Pairwise.imp₂ (fun {a b} h1 h2 => ?_) (sortR_pw (W.map rowOf)) nd2
    by_cases c : a < b
    · exact c
    · exact absurd (List.le_antisymm h1 (List.not_lt.mp c)) h2
  · rw [perm.mem_iff]
    constructor
    · intro z
      obtain ⟨w, hw, rfl⟩ := List.mem_map.mp z
      obtain ⟨f, a, s, e1⟩ := row w hw
      rw [e1]
      refine ⟨by simp, s.congr fun a ha => ?_⟩
      obtain ⟨h0, h1⟩ := (cov a).mp ha
      exact (atR_map h0 h1).symm
    · rintro ⟨hl, s⟩
      obtain ⟨w, hw, ag⟩ := h.all _ s
      obtain ⟨nd, hm, _⟩ := h.own w hw
      refine List.mem_map.mpr ⟨w, hw, ?_⟩
      rw [rowOf_eq nd (fun a => (hm a).trans (cov a)) ag, ← hl]
      exact atR_eq
/-- the parts of a store -/
def partsOf (rows : List (List Int)) (tabs : List (List (List Int))) : List Prt := (rows.zip tabs).map fun p => ⟨p.1, p.2, false⟩
structure AnsOk (m : Nat) (rows : List (List Int)) (tabs : List (List (List Int))) : Prop where
  len : tabs.length = rows.length
  ps : PsOk 8 (partsOf rows tabs)
  lo : 1 ≤ m
  cov : ∀ a : Int, inAt (partsOf rows tabs) a ↔ 0 ≤ a ∧ a < m
def ansM (q d : D) : M D := ⟨fun γ P _ => ∃ (m : Nat) (rows : List (List Int)) (tabs : List (List (List Int))), q = qD m rows ∧ d = .tup (tabs.map tabD) ∧ AnsOk m rows tabs ∧ ∀ ans, AnsP m (partsOf rows tabs) ans → P (.tup (ans.map rowD)) γ,
  fun h _ ⟨m, r, t, e1, e2, e3, q⟩ => ⟨m, r, t, e1, e2, e3, fun a z => h _ _ (q a z)⟩⟩
theorem run_ansM {q d : D} {γ : Gh} {P : D → Gh → Prop} {X : Addr → Gh → Prop} : (ansM q d).run γ P X = ∃ (m : Nat) (rows : List (List Int)) (tabs : List (List (List Int))), q = qD m rows ∧ d = .tup (tabs.map tabD) ∧ AnsOk m rows tabs ∧ ∀ ans, AnsP m (partsOf rows tabs) ans → P (.tup (ans.map rowD)) γ := rfl
/-- told as a relation: nothing here is to be worked out by the kernel -/
def F_answers (cq cs : Addr) (ds : List D) : M D := ⟨fun γ P X => ∃ q d, ds = [q, d] ∧ pureD q ∧ pureD d ∧ ((isQuery q = true ∧ isStore q d = true ∧ (ansM q d).run γ P X) ∨ (isQuery q = false ∧ X cq γ) ∨ (isQuery q = true ∧ isStore q d = false ∧ X cs γ)),
  fun h hx ⟨q, d, e, h1, h2, z⟩ => ⟨q, d, e, h1, h2, z.imp (fun ⟨a, b, c⟩ => ⟨a, b, (ansM q d).mono h hx c⟩) (Or.imp (fun ⟨a, b⟩ => ⟨a, hx _ _ b⟩) fun ⟨a, b, c⟩ => ⟨a, b, hx _ _ c⟩)⟩⟩
theorem range_all {α β : Type} [Inhabited α] (L : List α) (F : α → β) : ((List.range L.length).map fun k => F (L.getD k default)) = L.map F := by
  have := range_pick L (fun _ => true) F
  rw [List.filter_eq_self.mpr (by simp), List.filter_eq_self.mpr (by simp)] at this
  exact this
theorem rowOf_len {w : List (Int × Int)} : ∀ r ∈ w.map prR, r ≠ [] := fun r hr => by
  obtain ⟨x, _, rfl⟩ := List.mem_map.mp hr
  simp [prR]
theorem parts_at {rows : List (List Int)} {tabs : List (List (List Int))} (h : tabs.length = rows.length) {j : Nat} (hj : j < tabs.length) : L2.atI (rows.map rowD) (j : Int) = some (.tup (((partsOf rows tabs).getD j default).as.map .int)) ∧ L2.atI (tabs.map tabD) (j : Int) = some (.tup (((partsOf rows tabs).getD j default).rows.map rowD)) ∧ ((partsOf rows tabs).getD j default).l = false := by
  have e : (partsOf rows tabs).getD j default = ⟨rows[j], tabs[j], false⟩ := by
    unfold partsOf
    have hz : (rows.zip tabs)[j]? = some (rows[j], tabs[j]) := List.getElem?_zip_eq_some.mpr ⟨List.getElem?_eq_getElem (by omega), List.getElem?_eq_getElem hj⟩
    rw [List.getD_eq_getElem?_getD, List.getElem?_map, hz]
    rfl
  rw [e]
  refine ⟨atN ?_, atN ?_, rfl⟩
  · rw [List.getElem?_map, List.getElem?_eq_getElem (by omega)]
    rfl
  · rw [List.getElem?_map, List.getElem?_eq_getElem hj]
    rfl
end Dl

set_option maxRecDepth 100000
set_option maxHeartbeats 4100000
/-! queries and stores as answers asks for them -/
namespace Dl
open L2 PySem PySem.Spec PyProof.Rows
structure QOk (m : Nat) (rows : List (List Int)) : Prop where
  lo : 1 ≤ m
  hi : m ≤ 8
  len : 1 ≤ rows.length
  len2 : rows.length ≤ 8
  row : ∀ r ∈ rows, r.Pairwise (fun a b => a < b) ∧ r ≠ [] ∧ r.length < 8 ∧ ∀ a ∈ r, 0 ≤ a ∧ a < m
  all : ∀ a : Int, 0 ≤ a → a < m → ∃ r ∈ rows, a ∈ r
structure TOk (n : Nat) (t : List (List Int)) : Prop where
  asc : t.Pairwise (fun r q => r < q)
  row : ∀ q ∈ t, q.length = n ∧ ∀ k ∈ q, 0 ≤ k ∧ k < 10 ^ 18
structure SOk (m : Nat) (rows : List (List Int)) (tabs : List (List (List Int))) : Prop extends QOk m rows where
  tlen : tabs.length = rows.length
  tab : ∀ p ∈ rows.zip tabs, TOk p.1.length p.2
  bd : bdM (partsOf rows tabs) ≤ 2 ^ 20
theorem chain_asc : ∀ {ns : List Int}, ns.Pairwise (fun a b => a < b) → chainB (fun i j => decide (i < j)) ns = true
  | [], _ => rfl
  | [_], _ => rfl
  | x :: y :: r, h => by
    rw [List.pairwise_cons] at h
    rw [chainB, chain_asc h.2, Bool.and_true, decide_eq_true_eq]
    exact h.1 y List.mem_cons_self
theorem QOk.query {m : Nat} {rows : List (List Int)} (h : QOk m rows) : isQuery (qD m rows) = true := by
  have h1 := h.lo
  have h2 := h.hi
  have h3 := h.len
  have h4 := h.len2
  unfold qD
  simp only [isQuery, Bool.and_eq_true, decide_eq_true_eq, List.all_eq_true, List.mem_range, List.length_map]
  refine ⟨⟨⟨⟨?_, by omega, by omega⟩, by omega, by omega⟩, fun x hx => ?_⟩, fun k hk => flat_mem.mpr (h.all k (by omega) (by omega))⟩
  · simp [isNum]; omega
  · obtain ⟨ns, hn, rfl⟩ := List.mem_map.mp hx
    obtain ⟨a, b, c, d⟩ := h.row ns hn
    refine ⟨areBelow_row (by omega) ⟨chain_asc a, d⟩, ?_⟩
    unfold rowD
    simp [lenPos]
    exact List.length_pos_iff.mpr b
theorem tabW_ok {n : Nat} {t : List (List Int)} (h : TOk n t) : tabW n (tabD t) = true := by
  unfold tabD
  simp only [tabW, Bool.and_eq_true, List.all_eq_true]
  refine ⟨fun x hx => ?_, by rw [asc1_rows]; exact chain_pair h.asc⟩
  obtain ⟨q, hq, rfl⟩ := List.mem_map.mp hx
  obtain ⟨h1, h2⟩ := h.row q hq
  simp only [rowD, rowW, Bool.and_eq_true, decide_eq_true_eq, List.length_map, List.all_eq_true]
  refine ⟨h1, fun d hd => ?_⟩
  obtain ⟨k, hk, rfl⟩ := List.mem_map.mp hd
  have := h2 k hk
  simp only [wholeB, Bool.and_eq_true, decide_eq_true_eq]
  exact this
theorem storeW_ok : ∀ {rows : List (List Int)} {tabs : List (List (List Int))}, tabs.length = rows.length → (∀ p ∈ rows.zip tabs, TOk p.1.length p.2) → storeW rows (tabs.map tabD) = true
  | [], [], _, _ => rfl
  | [], _ :: _, h, _ => by cases h
  | _ :: _, [], h, _ => by cases h
  | r :: rows, t :: tabs, h, z => by
    rw [List.map_cons, storeW, Bool.and_eq_true]
    exact ⟨tabW_ok (z (r, t) List.mem_cons_self), storeW_ok (by simpa using h) fun p hp => z p (List.mem_cons_of_mem _ hp)⟩
theorem SOk.store {m : Nat} {rows : List (List Int)} {tabs : List (List (List Int))} (h : SOk m rows tabs) : isStore (qD m rows) (.tup (tabs.map tabD)) = true := by
  rw [isStore_law]
  exact storeW_ok h.tlen h.tab
theorem pureL_map {α : Type} {F : α → D} : ∀ {xs : List α}, (∀ x ∈ xs, pureD (F x)) → pureL (xs.map F)
  | [], _ => by simp only [List.map_nil, pureL]
  | x :: xs, h => by
    simp only [List.map_cons, pureL]
    exact ⟨h x List.mem_cons_self, pureL_map fun y hy => h y (List.mem_cons_of_mem _ hy)⟩
theorem pure_row {r : List Int} (h : r.length ≤ sizeLine) : pureD (rowD r) := by
  simp only [rowD, pureD, List.length_map]
  exact ⟨h, pureL_map fun x _ => by simp only [pureD]⟩
theorem QOk.pure {m : Nat} {rows : List (List Int)} (h : QOk m rows) : pureD (qD m rows) := by
  have h4 := h.len2
  have s8 : 8 < sizeLine := by decide
  simp only [qD, pureD, pureL, List.length_map, List.length_cons, List.length_nil, true_and, and_true]
  refine ⟨by omega, by omega, pureL_map fun r hr => pure_row ?_⟩
  have := (h.row r hr).2.2.1
  omega
theorem bd_tab {rows : List (List Int)} {tabs : List (List (List Int))} (h : bdM (partsOf rows tabs) ≤ 2 ^ 20) : ∀ p ∈ rows.zip tabs, p.2.length ≤ 2 ^ 20 := fun p hp => by
  have : (⟨p.1, p.2, false⟩ : Prt) ∈ partsOf rows tabs := List.mem_map_of_mem hp
  exact Nat.le_trans (bdM_mem this) h
theorem zip_right {α β : Type} : ∀ {xs : List α} {ys : List β}, ys.length = xs.length → ∀ y ∈ ys, ∃ x, (x, y) ∈ xs.zip ys
  | x :: xs, y :: ys, h, z, hz => by
    rcases List.mem_cons.mp hz with rfl | hz
    · exact ⟨x, List.mem_cons_self⟩
    · obtain ⟨x', h'⟩ := zip_right (xs := xs) (by simpa using h) z hz
      exact ⟨x', List.mem_cons_of_mem _ h'⟩
  | [], [], _, z, hz => nomatch hz
  | [], _ :: _, h, _, _ => by cases h
theorem zip_left {α β : Type} : ∀ {xs : List α} {ys : List β}, ys.length = xs.length → ∀ x ∈ xs, ∃ y, (x, y) ∈ xs.zip ys
  | x :: xs, y :: ys, h, z, hz => by
    rcases List.mem_cons.mp hz with rfl | hz
    · exact ⟨y, List.mem_cons_self⟩
    · obtain ⟨x', h'⟩ := zip_left (ys := ys) (by simpa using h) z hz
      exact ⟨x', List.mem_cons_of_mem _ h'⟩
  | [], _, _, z, hz => nomatch hz
  | _ :: _, [], h, _, _ => by cases h
theorem SOk.pure2 {m : Nat} {rows : List (List Int)} {tabs : List (List (List Int))} (h : SOk m rows tabs) : pureD (.tup (tabs.map tabD)) := by
  have h4 := h.len2
  have e := h.tlen
  have s20 : 2 ^ 20 < sizeLine := by decide
  simp only [pureD, List.length_map]
  refine ⟨by omega, pureL_map fun t ht => ?_⟩
  obtain ⟨r, hp⟩ := zip_right h.tlen t ht
  have l1 := bd_tab h.bd _ hp
  have t1 := h.tab _ hp
  have r1 := (h.row r (List.of_mem_zip hp).1).2.2.1
  simp only [tabD, pureD, List.length_map]
  refine ⟨by simp only at l1; omega, pureL_map fun q hq => pure_row ?_⟩
  rw [(t1.row q hq).1]
  simp only
  omega
theorem nodup_asc {ns : List Int} (h : ns.Pairwise (fun a b => a < b)) : ns.Nodup := h.imp fun z e => by omega
theorem nodup_rows {rs : List (List Int)} (h : rs.Pairwise (fun a b => a < b)) : rs.Nodup := h.imp fun z e => (List.lt_irrefl _ (e ▸ z)).elim
theorem inAt_parts {rows : List (List Int)} {tabs : List (List (List Int))} (h : tabs.length = rows.length) {a : Int} : inAt (partsOf rows tabs) a ↔ ∃ r ∈ rows, a ∈ r := by
  unfold inAt partsOf
  constructor
  · rintro ⟨p, hp, ha⟩
    obtain ⟨z, hz, rfl⟩ := List.mem_map.mp hp
    exact ⟨z.1, (List.of_mem_zip hz).1, ha⟩
  · rintro ⟨r, hr, ha⟩
    obtain ⟨t, ht⟩ := zip_left h r hr
    exact ⟨_, List.mem_map_of_mem ht, ha⟩
theorem SOk.ans {m : Nat} {rows : List (List Int)} {tabs : List (List (List Int))} (h : SOk m rows tabs) : AnsOk m rows tabs where
  len := h.tlen
  lo := h.lo
  cov a := by
    rw [inAt_parts h.tlen]
    exact ⟨fun ⟨r, hr, ha⟩ => (h.row r hr).2.2.2 a ha, fun ⟨h0, h1⟩ => h.all a h0 h1⟩
  ps := by
    refine ⟨fun p hp => ?_, ⟨(List.range m).map fun (k : Nat) => (k : Int), by rw [List.length_map, List.length_range]; exact h.hi, fun a ha => ?_⟩, ?_, h.bd⟩
    · obtain ⟨z, hz, rfl⟩ := List.mem_map.mp hp
      obtain ⟨a, b, c, d⟩ := h.row z.1 (List.of_mem_zip hz).1
      have t := h.tab z hz
      exact ⟨b, nodup_asc a, c, fun r hr => (t.row r hr).1, nodup_rows t.asc⟩
    · obtain ⟨r, hr, ha⟩ := (inAt_parts h.tlen).mp ha
      obtain ⟨h0, h1⟩ := (h.row r hr).2.2.2 a ha
      exact List.mem_map.mpr ⟨a.toNat, List.mem_range.mpr (by omega), by omega⟩
    · unfold partsOf
      rw [List.length_map, List.length_zip]
      have := h.len2
      omega
/-- a call of answers -/
theorem answers_run {q d : D} {cq cs : Addr} {γ : Gh} {P : D → Gh → Prop} {X : Addr → Gh → Prop} (h1 : pureD q) (h2 : pureD d) (h3 : isQuery q = true) (h4 : isStore q d = true) (z : (ansM q d).run γ P X) : (F_answers cq cs [q, d]).run γ P X := by
  exact ⟨q, d, rfl, h1, h2, .inl ⟨h3, h4, z⟩⟩
theorem SOk.call {m : Nat} {rows : List (List Int)} {tabs : List (List (List Int))} (h : SOk m rows tabs) {cq cs : Addr} {γ : Gh} {P : D → Gh → Prop} {X : Addr → Gh → Prop} (z : ∀ ans, AnsP m (partsOf rows tabs) ans → P (.tup (ans.map rowD)) γ) : (F_answers cq cs [qD m rows, .tup (tabs.map tabD)]).run γ P X :=
  answers_run h.toQOk.pure h.pure2 h.toQOk.query h.store (by
    rw [run_ansM]
    exact ⟨m, rows, tabs, rfl, rfl, h.ans, z⟩)
theorem ans_unique {m : Nat} {ps : List Prt} {a b : List (List Int)} (h1 : AnsP m ps a) (h2 : AnsP m ps b) : a = b :=
  List.Perm.eq_of_pairwise (le := fun r q => r < q) (fun x y _ _ h1 h2 => (List.lt_irrefl x (List.lt_trans h1 h2)).elim) h1.asc h2.asc ((List.perm_ext_iff_of_nodup (nodup_rows h1.asc) (nodup_rows h2.asc)).mpr fun r => (h1.mem r).trans (h2.mem r).symm)
/-! what is drawn -/
theorem pw_chain : ∀ {ns : List Int}, chainB (fun i j => decide (i < j)) ns = true → ns.Pairwise fun a b => a < b
  | [], _ => List.Pairwise.nil
  | [x], _ => List.pairwise_singleton _ _
  | x :: y :: r, h => by
    rw [chainB, Bool.and_eq_true, decide_eq_true_eq] at h
    have ih := pw_chain (ns := y :: r) h.2
    rw [List.pairwise_cons]
    refine ⟨fun z hz => ?_, ih⟩
    rcases List.mem_cons.mp hz with rfl | hz
    · exact h.1
    · have := (List.pairwise_cons.mp ih).1 z hz
      have := h.1
      omega
theorem bdM_pow {b : Nat} (hb : 1 ≤ b) : ∀ {ps : List Prt}, (∀ p ∈ ps, p.rows.length ≤ b) → bdM ps ≤ b ^ ps.length
  | [], _ => Nat.le_refl _
  | p :: ps, h => by
    rw [bdM_cons, List.length_cons, Nat.pow_succ, Nat.mul_comm]
    exact Nat.mul_le_mul (bdM_pow hb fun q hq => h q (List.mem_cons_of_mem _ hq)) (Nat.max_le.mpr ⟨hb, h p List.mem_cons_self⟩)
theorem GoodS.at_zip {most hi : Int} : ∀ {rows : List (List Int)} {tabs : List (List (List Int))}, GoodS most hi rows tabs → ∀ p ∈ rows.zip tabs, GoodT p.1.length most hi p.2
  | _, _, .cons a b, p, hp => by
    rcases List.mem_cons.mp hp with rfl | hp
    · exact a
    · exact GoodS.at_zip b p hp
theorem qok_of {m : Nat} {rows : List (List Int)} (G : GoodQ m rows) : QOk m rows where
  lo := by have := G.lo; omega
  hi := by have := G.hi; omega
  len := G.len
  len2 := by have := G.len2; omega
  row r hr := by
    obtain ⟨⟨a, b⟩, c, d⟩ := G.row r hr
    exact ⟨pw_chain a, List.length_pos_iff.mp (by omega), by omega, b⟩
  all := G.all
theorem sok_of {m : Nat} {rows : List (List Int)} {tabs : List (List (List Int))} {most hi : Int} (G : GoodQ m rows) (S : GoodS most hi rows tabs) (h1 : most ≤ 8) (h2 : hi ≤ 10 ^ 18) : SOk m rows tabs where
  toQOk := qok_of G
  tlen := S.len
  tab p hp := by
    have g := S.at_zip p hp
    refine ⟨g.asc, fun q hq => ⟨(g.row q hq).1, fun k hk => ?_⟩⟩
    have := (g.row q hq).2 k hk
    omega
  bd := by
    have z := bdM_pow (b := 8) (by omega) (ps := partsOf rows tabs) fun p hp => by
      obtain ⟨q, hq, rfl⟩ := List.mem_map.mp hp
      have := (S.at_zip q hq).len
      show q.2.length ≤ 8
      omega
    have l : (partsOf rows tabs).length ≤ 5 := by
      unfold partsOf
      rw [List.length_map, List.length_zip]
      have := G.len2
      omega
    refine Nat.le_trans z (Nat.le_trans (Nat.pow_le_pow_right (by omega) l) (by decide))
theorem zipDs_map (rows : List (List Int)) (tabs : List (List (List Int))) : zipDs (rows.map rowD) (tabs.map tabD) = (rows.zip tabs).map fun p => D.pr (rowD p.1) (tabD p.2) := by
  unfold zipDs
  rw [List.zip_map, List.map_map]
  rfl
theorem toPy_row (r : List Int) : toPy (rowD r) = some (.tuple (r.map .int)) := by
  unfold rowD
  simp [toPy, toPyL_int]
theorem depth_rowT : ∀ (rs : List (List Int)), PyData.depthAll (rs.map fun r => PyData.tuple (r.map .int)) ≤ 99
  | [] => by simp [PyData.depthAll]
  | r :: rs => by
    have h1 := depth_ints r
    have h2 := depth_rowT rs
    simp only [List.map_cons, PyData.depthAll, PyData.depth]
    omega
theorem eqv_row (r q : List Int) : PyData.eqv (.tuple (r.map .int)) (.tuple (q.map .int)) = decide (r = q) := by
  have e : ∀ (r q : List Int), PyData.eqvAll (r.map .int) (q.map .int) = decide (r = q) := fun r => by
    induction r with
    | nil => intro q; cases q <;> simp [PyData.eqvAll]
    | cons x r ih =>
      intro q
      cases q with
      | nil => simp [PyData.eqvAll]
      | cons y q =>
        simp only [List.map_cons, PyData.eqvAll, ih]
        have : PyData.eqv (.int x) (.int y) = decide (x = y) := by
          simp only [PyData.eqv]
          rfl
        rw [this, Bool.eq_iff_iff]
        simp
  unfold PyData.eqv
  exact e r q
theorem inF_rows (r : List Int) (rs : List (List Int)) : inF (.tuple (r.map .int)) (.tuple (rs.map fun r => PyData.tuple (r.map .int))) = decide (r ∈ rs) := by
  unfold inF itemsP
  simp only [Option.getD_some, List.any_map]
  rw [Bool.eq_iff_iff, List.any_eq_true, decide_eq_true_iff]
  constructor
  · rintro ⟨q, hq, h⟩
    simp only [Function.comp, eqv_row, decide_eq_true_eq] at h
    subst h
    exact hq
  · intro h
    exact ⟨r, h, by simp only [Function.comp, eqv_row, decide_true]⟩
theorem notIn_rows (r : List Int) (rs : List (List Int)) : (!inF (.tuple (r.map .int)) (.tuple (rs.map fun r => PyData.tuple (r.map .int)))) = decide (r ∉ rs) := by
  rw [inF_rows, decide_not]
theorem AnsP.le {m : Nat} {rows : List (List Int)} {tabs : List (List (List Int))} {ans : List (List Int)} (A : AnsP m (partsOf rows tabs) ans) (S : SOk m rows tabs) : ans.length ≤ bdM (partsOf rows tabs) := by
  have nd := nodup_rows A.asc
  have z : (ans.map fun r => (partsOf rows tabs).map fun p => p.as.map (atR r)).Nodup := by
    refine nodup_map_on (fun r hr q hq e => ?_) nd
    obtain ⟨l1, s1⟩ := (A.mem r).mp hr
    obtain ⟨l2, s2⟩ := (A.mem q).mp hq
    rw [← atR_eq (r := r), ← atR_eq (r := q), l1, l2]
    refine List.map_congr_left fun k hk => ?_
    have hk := List.mem_range.mp hk
    obtain ⟨p, hp, ha⟩ := (S.ans.cov (k : Int)).mpr ⟨by omega, by omega⟩
    exact List.map_inj_left.mp (List.map_inj_left.mp e p hp) _ ha
  have := len_le z (m := cart ((partsOf rows tabs).map fun p => p.rows)) fun x hx => by
    obtain ⟨r, hr, rfl⟩ := List.mem_map.mp hx
    exact mem_cart fun p hp => ((A.mem r).mp hr).2 p hp
  rw [List.length_map] at this
  have c := cart_len ((partsOf rows tabs).map fun p => p.rows)
  rw [List.map_map] at c
  have d := prod_le_bdM (partsOf rows tabs)
  exact Nat.le_trans this (Nat.le_trans c d)
theorem AnsP.few {m : Nat} {rows : List (List Int)} {tabs : List (List (List Int))} {ans : List (List Int)} (A : AnsP m (partsOf rows tabs) ans) (S : SOk m rows tabs) : ans.length ≤ sizeLine := by
  have h := A.le S
  have e := S.bd
  have s20 : 2 ^ 20 < sizeLine := by decide
  omega
/-- a comprehension whose tests and values may draw: what holds behind the items that are done and of what was kept -/
theorem comp_J {α : Type} {g : α → D} {st : α → DE → DE} {gd : D → DE → M DE} {t : DE → M Bool} {f : DE → M D} {e : DE} {X : Addr → Gh → Prop} {γ : Gh} {P : List D → Gh → Prop} {xs : List α} (J : List α → List D → Gh → Prop)
    (h0 : ∀ x ∈ xs, ∀ (γ : Gh) (PP : DE → Gh → Prop), PP (st x e) γ → (gd (g x) e).run γ PP X)
    (h1 : ∀ pre x post out, xs = pre ++ x :: post → ∀ γ, J pre out γ → (t (st x e)).run γ (fun b γ1 => if b = true then (f (st x e)).run γ1 (fun y γ2 => J (pre ++ [x]) (out ++ [y]) γ2) (fun _ _ => False) else J (pre ++ [x]) out γ1) (fun _ _ => False))
    (hi : J [] [] γ) (he : ∀ out γ, J xs out γ → P out γ) : (compM gd t f e (xs.map g)).run γ P X := by
  have key : ∀ (post pre : List α) (out : List D) (γ : Gh), xs = pre ++ post → J pre out γ → (compM gd t f e (post.map g)).run γ (fun ys γ' => P (out ++ ys) γ') X := by
    intro post
    induction post with
    | nil =>
      intro pre out γ ex hj
      rw [List.append_nil] at ex
      show P (out ++ []) γ
      rw [List.append_nil]
      exact he out γ (by rw [ex]; exact hj)
    | cons x post ih =>
      intro pre out γ ex hj
      simp only [List.map_cons, compM, M.run_bind, M.run_noX]
      refine h0 x (by rw [ex]; simp) γ _ ?_
      refine (t (st x e)).mono (fun b γ1 z => ?_) (fun _ _ z => z) (h1 pre x post out ex γ hj)
      have ex2 : xs = (pre ++ [x]) ++ post := by rw [ex]; simp
      cases b with
      | false =>
        simp only [Bool.false_eq_true, if_false] at z ⊢
        exact ih (pre ++ [x]) out γ1 ex2 z
      | true =>
        simp only [if_true, M.run_bind, M.run_noX] at z ⊢
        refine (f (st x e)).mono (fun y γ2 z => ?_) (fun _ _ z => z) z
        have w := ih (pre ++ [x]) (out ++ [y]) γ2 ex2 z
        refine (compM gd t f e (post.map g)).mono (fun ys γ3 v => ?_) (fun _ _ v => v) w
        rw [List.append_assoc] at v
        exact v
  exact key xs [] [] γ rfl hi
/-- tables with less rows, but all that are parts of answers -/
inductive ThinS (ans : List (List Int)) : List (List Int) → List (List (List Int)) → List (List (List Int)) → Prop where
  | nil : ThinS ans [] [] []
  | cons {r : List Int} {t t' : List (List Int)} {rows : List (List Int)} {ts ts' : List (List (List Int))} : t'.Sublist t → (∀ q ∈ t, (∃ a ∈ ans, r.map (atR a) = q) → q ∈ t') → ThinS ans rows ts ts' → ThinS ans (r :: rows) (t :: ts) (t' :: ts')
theorem ThinS.snoc {ans : List (List Int)} {r : List Int} {t t' : List (List Int)} (h1 : t'.Sublist t) (h2 : ∀ q ∈ t, (∃ a ∈ ans, r.map (atR a) = q) → q ∈ t') : ∀ {rows : List (List Int)} {ts ts' : List (List (List Int))}, ThinS ans rows ts ts' → ThinS ans (rows ++ [r]) (ts ++ [t]) (ts' ++ [t'])
  | _, _, _, .nil => .cons h1 h2 .nil
  | _, _, _, .cons a b c => .cons a b (ThinS.snoc h1 h2 c)
theorem ThinS.len {ans : List (List Int)} : ∀ {rows : List (List Int)} {ts ts' : List (List (List Int))}, ThinS ans rows ts ts' → ts'.length = rows.length
  | _, _, _, .nil => rfl
  | _, _, _, .cons _ _ c => by rw [List.length_cons, List.length_cons, ThinS.len c]
theorem ThinS.good {ans : List (List Int)} {most hi : Int} : ∀ {rows : List (List Int)} {ts ts' : List (List (List Int))}, ThinS ans rows ts ts' → GoodS most hi rows ts → GoodS most hi rows ts'
  | _, _, _, .nil, .nil => .nil
  | _, _, _, .cons a _ c, .cons g G => .cons ⟨g.asc.sublist a, by have := a.length_le; have := g.len; omega, fun q hq => g.row q (a.subset hq)⟩ (ThinS.good c G)
theorem ThinS.sat {ans : List (List Int)} {a : List Int} (ha : a ∈ ans) : ∀ {rows : List (List Int)} {ts ts' : List (List (List Int))}, ThinS ans rows ts ts' → SatF (partsOf rows ts) (atR a) → SatF (partsOf rows ts') (atR a)
  | _, _, _, .nil, h => h
  | r :: rows, t :: ts, t' :: ts', .cons _ b c, h => fun p hp => by
    rcases List.mem_cons.mp hp with rfl | hp
    · exact b _ (h ⟨r, t, false⟩ List.mem_cons_self) ⟨a, ha, rfl⟩
    · exact ThinS.sat ha c (fun q hq => h q (List.mem_cons_of_mem _ hq)) p hp
theorem ThinS.back {ans : List (List Int)} {f : Int → Int} : ∀ {rows : List (List Int)} {ts ts' : List (List (List Int))}, ThinS ans rows ts ts' → SatF (partsOf rows ts') f → SatF (partsOf rows ts) f
  | _, _, _, .nil, h => h
  | r :: rows, t :: ts, t' :: ts', .cons a _ c, h => fun p hp => by
    rcases List.mem_cons.mp hp with rfl | hp
    · exact a.subset (h ⟨r, t', false⟩ List.mem_cons_self)
    · exact ThinS.back c (fun q hq => h q (List.mem_cons_of_mem _ hq)) p hp
theorem ThinS.ans {m : Nat} {rows : List (List Int)} {ts ts' : List (List (List Int))} {ans : List (List Int)} (T : ThinS ans rows ts ts') (A : AnsP m (partsOf rows ts) ans) : AnsP m (partsOf rows ts') ans where
  asc := A.asc
  mem r := by
    constructor
    · intro h
      obtain ⟨l, s⟩ := (A.mem r).mp h
      exact ⟨l, T.sat h s⟩
    · rintro ⟨l, s⟩
      exact (A.mem r).mpr ⟨l, T.back s⟩
theorem inF_rowsL (r : List Int) (rs : List (List Int)) : inF (.tuple (r.map .int)) (.list (rs.map fun r => PyData.tuple (r.map .int))) = decide (r ∈ rs) := inF_rows r rs
theorem eqv_rowsA : ∀ (as bs : List (List Int)), PyData.eqvAll (as.map fun r => PyData.tuple (r.map .int)) (bs.map fun r => PyData.tuple (r.map .int)) = decide (as = bs)
  | [], [] => by simp [PyData.eqvAll]
  | [], _ :: _ => by simp [PyData.eqvAll]
  | _ :: _, [] => by simp [PyData.eqvAll]
  | a :: as, b :: bs => by
    simp only [List.map_cons, PyData.eqvAll, eqv_rowsA as bs, eqv_row]
    rw [Bool.eq_iff_iff]
    simp
theorem eqv_rowsT (as bs : List (List Int)) : PyData.eqv (.tuple (as.map fun r => PyData.tuple (r.map .int))) (.tuple (bs.map fun r => PyData.tuple (r.map .int))) = decide (as = bs) := by
  unfold PyData.eqv
  exact eqv_rowsA as bs
theorem depth_rowsT (rs : List (List Int)) : (PyData.tuple (rs.map fun r => PyData.tuple (r.map .int))).depth ≤ 100 := by
  have := depth_rowT rs
  simp only [PyData.depth]
  omega
theorem perm_nats {ys : List D} {n : Nat} (h : ys.Perm ((List.range n).map fun (k : Nat) => D.int (k : Int))) : ∃ ts : List Nat, ts.Perm (List.range n) ∧ ys = ts.map fun (k : Nat) => D.int (k : Int) := by
  refine ⟨ys.map fun d => match d with | .int i => i.toNat | _ => 0, ?_, ?_⟩
  · have := h.map fun d => match d with | .int i => i.toNat | _ => 0
    rw [List.map_map] at this
    have e : ((List.range n).map ((fun d : D => match d with | .int i => i.toNat | _ => 0) ∘ fun (k : Nat) => D.int (k : Int))) = List.range n := by
      conv => rhs; rw [← List.map_id (List.range n)]
      refine List.map_congr_left fun k _ => ?_
      show ((k : Int)).toNat = k
      omega
    rw [e] at this
    exact this
  · rw [List.map_map]
    conv => lhs; rw [← List.map_id ys]
    refine List.map_congr_left fun d hd => ?_
    obtain ⟨k, _, rfl⟩ := List.mem_map.mp (h.mem_iff.mp hd)
    show D.int k = D.int ((((k : Int)).toNat : Nat) : Int)
    congr 1
theorem toPyL_nats (n : Nat) : toPyL ((List.range n).map fun (k : Nat) => D.int (k : Int)) = some ((List.range n).map fun (k : Nat) => PyData.int (k : Int)) := by
  have := toPyL_int ((List.range n).map fun (k : Nat) => (k : Int))
  rw [List.map_map, List.map_map] at this
  exact this
theorem SOk.perm {m : Nat} {rows rows' : List (List Int)} {tabs tabs' : List (List (List Int))} (h : SOk m rows tabs) (hl : tabs'.length = rows'.length) (e : (rows'.zip tabs').Perm (rows.zip tabs)) : SOk m rows' tabs' := by
  have pr : rows'.Perm rows := by
    have := e.map (·.1)
    rwa [List.map_fst_zip (by omega), List.map_fst_zip (by have := h.tlen; omega)] at this
  have l := pr.length_eq
  refine ⟨⟨h.lo, h.hi, by rw [l]; exact h.len, by rw [l]; exact h.len2, fun r hr => h.row r (pr.mem_iff.mp hr), fun a h0 h1 => ?_⟩, hl, fun p hp => h.tab p (e.mem_iff.mp hp), ?_⟩
  · obtain ⟨r, hr, ha⟩ := h.all a h0 h1
    exact ⟨r, pr.mem_iff.mpr hr, ha⟩
  · have : (partsOf rows' tabs').Perm (partsOf rows tabs) := e.map _
    rw [bdM_perm this]
    exact h.bd
theorem AnsP.perm {m : Nat} {ps qs : List Prt} {ans : List (List Int)} (h : AnsP m ps ans) (e : ∀ p, p ∈ qs ↔ p ∈ ps) : AnsP m qs ans := ⟨h.asc, fun r => (h.mem r).trans (and_congr_right' (satF_perm fun p => (e p).symm))⟩
theorem pick_zip {rows : List (List Int)} {tabs : List (List (List Int))} {ts : List Nat} (tl : tabs.length = rows.length) (TP : ts.Perm (List.range rows.length)) :
    ((ts.map fun j => rows.getD j []).zip (ts.map fun j => tabs.getD j [])).Perm (rows.zip tabs) := by
  have e1 : ∀ us : List Nat, (us.map fun j => rows.getD j []).zip (us.map fun j => tabs.getD j []) = us.map fun j => (rows.getD j [], tabs.getD j []) := fun us => by
    induction us with
    | nil => rfl
    | cons u us ih =>
      simp only [List.map_cons, List.zip_cons_cons, ih]
  rw [e1]
  have e2 : rows.zip tabs = (List.range rows.length).map fun j => (rows.getD j [], tabs.getD j []) := by
    refine List.ext_getElem (by simp [tl]) fun i h1 h2 => ?_
    rw [List.length_zip] at h1
    simp [List.getD_eq_getElem?_getD, List.getElem?_eq_getElem (show i < rows.length by omega), List.getElem?_eq_getElem (show i < tabs.length by omega)]
  rw [e2]
  exact TP.map _
theorem parts_snoc {rows : List (List Int)} {tabs : List (List (List Int))} {r : List Int} {t : List (List Int)} (tl : tabs.length = rows.length) : partsOf (rows ++ [r]) (tabs ++ [t]) = partsOf rows tabs ++ [⟨r, t, false⟩] := by
  unfold partsOf
  rw [List.zip_append tl.symm, List.map_append]
  rfl
theorem SOk.snoc {m : Nat} {rows : List (List Int)} {tabs : List (List (List Int))} (h : SOk m rows tabs) {r : List Int} {t : List (List Int)} (hr : r ∈ rows) (ht : TOk r.length t) (l : rows.length < 8) (b : bdM (partsOf rows tabs) * max 1 t.length ≤ 2 ^ 20) : SOk m (rows ++ [r]) (tabs ++ [t]) where
  lo := h.lo
  hi := h.hi
  len := by rw [List.length_append, List.length_singleton]; omega
  len2 := by rw [List.length_append, List.length_singleton]; omega
  row q hq := h.row q ((List.mem_append.mp hq).elim id fun z => by rw [List.mem_singleton.mp z]; exact hr)
  all a h0 h1 := by
    obtain ⟨q, hq, ha⟩ := h.all a h0 h1
    exact ⟨q, List.mem_append_left _ hq, ha⟩
  tlen := by rw [List.length_append, List.length_append, h.tlen, List.length_singleton, List.length_singleton]
  tab p hp := by
    rw [List.zip_append h.tlen.symm] at hp
    rcases List.mem_append.mp hp with hp | hp
    · exact h.tab p hp
    · obtain rfl := List.mem_singleton.mp hp
      exact ht
  bd := by
    rw [parts_snoc h.tlen, bdM_append]
    have e : bdM [(⟨r, t, false⟩ : Prt)] = max 1 t.length := Nat.mul_one _
    rw [e]
    exact b
theorem AnsP.snoc {m : Nat} {rows : List (List Int)} {tabs : List (List (List Int))} {ans : List (List Int)} (A : AnsP m (partsOf rows tabs) ans) (tl : tabs.length = rows.length) (r : List Int) (t : List (List Int)) : AnsP m (partsOf (rows ++ [r]) (tabs ++ [t])) (ans.filter fun a => decide (r.map (atR a) ∈ t)) where
  asc := A.asc.filter _
  mem a := by
    rw [parts_snoc tl, List.mem_filter, A.mem, decide_eq_true_iff]
    constructor
    · rintro ⟨⟨l, s⟩, h⟩
      refine ⟨l, fun p hp => ?_⟩
      rcases List.mem_append.mp hp with hp | hp
      · exact s p hp
      · obtain rfl := List.mem_singleton.mp hp
        exact h
    · rintro ⟨l, s⟩
      exact ⟨⟨l, fun p hp => s p (List.mem_append_left _ hp)⟩, s ⟨r, t, false⟩ (List.mem_append_right _ (List.mem_singleton_self _))⟩
theorem bd_of {m : Nat} {rows : List (List Int)} {tabs : List (List (List Int))} {most hi : Int} (G : GoodQ m rows) (S : GoodS most hi rows tabs) (h1 : most ≤ 8) : bdM (partsOf rows tabs) ≤ 32768 := by
  have z := bdM_pow (b := 8) (by omega) (ps := partsOf rows tabs) fun p hp => by
    obtain ⟨q, hq, rfl⟩ := List.mem_map.mp hp
    have := (S.at_zip q hq).len
    show q.2.length ≤ 8
    omega
  have l : (partsOf rows tabs).length ≤ 5 := by
    unfold partsOf
    rw [List.length_map, List.length_zip]
    have := G.len2
    omega
  exact Nat.le_trans z (Nat.le_trans (Nat.pow_le_pow_right (by omega) l) (by decide))
theorem bes_le {mb : Nat} {rb : List (List Int)} (h : (mb = 1 ∧ rb = [[0]]) ∨ (mb = 2 ∧ rb = [[0, 1]]) ∨ (mb = 2 ∧ rb = [[0], [0, 1]])) : mb ≤ 2 ∧ rb.length ≤ 2 ∧ ∀ r ∈ rb, r.length ≤ 2 := by
  rcases h with ⟨rfl, rfl⟩ | ⟨rfl, rfl⟩ | ⟨rfl, rfl⟩ <;> simp
theorem bes_good {mb : Nat} {rb : List (List Int)} (h : (mb = 1 ∧ rb = [[0]]) ∨ (mb = 2 ∧ rb = [[0, 1]]) ∨ (mb = 2 ∧ rb = [[0], [0, 1]])) : GoodQ mb rb := by
  rcases h with ⟨rfl, rfl⟩ | ⟨rfl, rfl⟩ | ⟨rfl, rfl⟩
  · refine ⟨by omega, by omega, by simp, by simp, fun r hr => ?_, fun k h0 h1 => ⟨[0], by simp, by simp; omega⟩⟩
    simp at hr
    subst hr
    exact ⟨⟨rfl, by simp⟩, by simp, by simp⟩
  · refine ⟨by omega, by omega, by simp, by simp, fun r hr => ?_, fun k h0 h1 => ⟨[0, 1], by simp, by simp; omega⟩⟩
    simp at hr
    subst hr
    exact ⟨⟨rfl, by simp⟩, by simp, by simp⟩
  · refine ⟨by omega, by omega, by simp, by simp, fun r hr => ?_, fun k h0 h1 => ⟨[0, 1], by simp, by simp; omega⟩⟩
    simp at hr
    rcases hr with rfl | rfl
    · exact ⟨⟨rfl, by simp⟩, by simp, by simp⟩
    · exact ⟨⟨rfl, by simp⟩, by simp, by simp⟩
/-! two stores side by side -/
def lift1R (m : Nat) (rb : List (List Int)) : List (List Int) := rb.map fun r => r.map fun a => a + (m : Int)
theorem lt_app {t t' : List Int} : ∀ {a a' : List Int}, a.length = a'.length → a < a' → a ++ t < a' ++ t'
  | [], [], _, h => (List.lt_irrefl _ h).elim
  | [], _ :: _, h, _ => by cases h
  | _ :: _, [], h, _ => by cases h
  | x :: a, y :: a', hl, h => by
    rw [List.cons_lt_cons_iff] at h
    rw [List.cons_append, List.cons_append, List.cons_lt_cons_iff]
    rcases h with h | ⟨rfl, h⟩
    · exact .inl h
    · exact .inr ⟨rfl, lt_app (by simpa using hl) h⟩
theorem app_lt {t t' : List Int} (h : t < t') : ∀ (a : List Int), a ++ t < a ++ t'
  | [] => h
  | x :: a => by
    rw [List.cons_append, List.cons_append, List.cons_lt_cons_iff]
    exact .inr ⟨rfl, app_lt h a⟩
theorem satF_append {ps qs : List Prt} {f : Int → Int} : SatF (ps ++ qs) f ↔ SatF ps f ∧ SatF qs f :=
  ⟨fun h => ⟨fun p hp => h p (List.mem_append_left _ hp), fun p hp => h p (List.mem_append_right _ hp)⟩, fun ⟨a, b⟩ p hp => (List.mem_append.mp hp).elim (a p) (b p)⟩
theorem parts_append {rows rb : List (List Int)} {tabs ts : List (List (List Int))} (tl : tabs.length = rows.length) : partsOf (rows ++ rb) (tabs ++ ts) = partsOf rows tabs ++ partsOf rb ts := by
  unfold partsOf
  rw [List.zip_append tl.symm, List.map_append]
theorem atR_take {r : List Int} {m : Nat} {a : Int} (h0 : 0 ≤ a) (h1 : a < m) : atR (r.take m) a = atR r a := by
  unfold atR
  rw [List.getD_eq_getElem?_getD, List.getD_eq_getElem?_getD, List.getElem?_take, if_pos (by omega)]
theorem atR_drop {r : List Int} {m : Nat} {a : Int} (h0 : 0 ≤ a) : atR (r.drop m) a = atR r (a + m) := by
  unfold atR
  rw [List.getD_eq_getElem?_getD, List.getD_eq_getElem?_getD, List.getElem?_drop]
  congr 2
  omega
theorem sat_lift {m : Nat} {r : List Int} : ∀ {rb : List (List Int)} {ts : List (List (List Int))}, (∀ q ∈ rb, ∀ a ∈ q, 0 ≤ a) → (SatF (partsOf (lift1R m rb) ts) (atR r) ↔ SatF (partsOf rb ts) (atR (r.drop m)))
  | [], ts, _ => by simp [lift1R, partsOf, SatF]
  | _ :: _, [], _ => by simp [lift1R, partsOf, SatF]
  | q :: rb, t :: ts, h => by
    have ih := sat_lift (m := m) (r := r) (rb := rb) (ts := ts) fun q hq => h q (List.mem_cons_of_mem _ hq)
    have e : (q.map fun a => a + (m : Int)).map (atR r) = q.map (atR (r.drop m)) := by
      rw [List.map_map]
      exact List.map_congr_left fun a ha => (atR_drop (h q List.mem_cons_self a ha)).symm
    have e1 : partsOf (lift1R m (q :: rb)) (t :: ts) = ⟨q.map fun a => a + (m : Int), t, false⟩ :: partsOf (lift1R m rb) ts := rfl
    have e2 : partsOf (q :: rb) (t :: ts) = ⟨q, t, false⟩ :: partsOf rb ts := rfl
    rw [e1, e2]
    unfold SatF at ih ⊢
    simp only [List.forall_mem_cons, e]
    rw [ih]
theorem AnsP.prod {m mb : Nat} {rows rb : List (List Int)} {tabs ts : List (List (List Int))} {ans tails : List (List Int)} (SA : SOk m rows tabs) (SB : SOk mb rb ts) (A : AnsP m (partsOf rows tabs) ans) (B : AnsP mb (partsOf rb ts) tails) :
    AnsP (m + mb) (partsOf (rows ++ lift1R m rb) (tabs ++ ts)) (ans.flatMap fun a => tails.map fun t => a ++ t) where
  asc := by
    rw [List.pairwise_flatMap]
    refine ⟨fun a ha => ?_, List.Pairwise.imp_of_mem (fun {a a'} ha ha' h x hx y hy => ?_) A.asc⟩
    · rw [List.pairwise_map]
      exact B.asc.imp fun h => app_lt h a
    · obtain ⟨t, _, rfl⟩ := List.mem_map.mp hx
      obtain ⟨t', _, rfl⟩ := List.mem_map.mp hy
      exact lt_app (by rw [((A.mem a).mp ha).1, ((A.mem a').mp ha').1]) h
  mem r := by
    have nn : ∀ q ∈ rb, ∀ a ∈ q, (0 : Int) ≤ a := fun q hq a ha => ((SB.row q hq).2.2.2 a ha).1
    rw [parts_append SA.tlen, satF_append, sat_lift nn]
    have ct : ∀ r : List Int, SatF (partsOf rows tabs) (atR r) ↔ SatF (partsOf rows tabs) (atR (r.take m)) := fun r => by
      have e : ∀ a, inAt (partsOf rows tabs) a → atR r a = atR (r.take m) a := fun a ha => by
        obtain ⟨h0, h1⟩ := (SA.ans.cov a).mp ha
        exact (atR_take h0 h1).symm
      exact ⟨fun h => h.congr e, fun h => h.congr fun a ha => (e a ha).symm⟩
    rw [ct, List.mem_flatMap]
    constructor
    · rintro ⟨a, ha, hr⟩
      obtain ⟨t, ht, rfl⟩ := List.mem_map.mp hr
      obtain ⟨l1, s1⟩ := (A.mem a).mp ha
      obtain ⟨l2, s2⟩ := (B.mem t).mp ht
      refine ⟨by rw [List.length_append, l1, l2], ?_, ?_⟩
      · rw [← l1, List.take_left]
        exact s1
      · rw [← l1, List.drop_left]
        exact s2
    · rintro ⟨l, s1, s2⟩
      refine ⟨r.take m, (A.mem _).mpr ⟨by rw [List.length_take]; omega, s1⟩, List.mem_map.mpr ⟨r.drop m, (B.mem _).mpr ⟨by rw [List.length_drop]; omega, s2⟩, List.take_append_drop m r⟩⟩
theorem SOk.both {m mb : Nat} {rows rb : List (List Int)} {tabs ts : List (List (List Int))} (SA : SOk m rows tabs) (SB : SOk mb rb ts) (h1 : m + mb ≤ 8) (h2 : rows.length + rb.length ≤ 8) (b : bdM (partsOf rows tabs) * bdM (partsOf (lift1R m rb) ts) ≤ 2 ^ 20) : SOk (m + mb) (rows ++ lift1R m rb) (tabs ++ ts) where
  lo := by have := SA.lo; omega
  hi := h1
  len := by have := SA.len; rw [List.length_append]; omega
  len2 := by unfold lift1R; rw [List.length_append, List.length_map]; exact h2
  row r hr := by
    rcases List.mem_append.mp hr with hr | hr
    · obtain ⟨a, b, c, d⟩ := SA.row r hr
      exact ⟨a, b, c, fun x hx => by have := d x hx; omega⟩
    · obtain ⟨q, hq, rfl⟩ := List.mem_map.mp hr
      obtain ⟨a, b, c, d⟩ := SB.row q hq
      refine ⟨?_, fun e => b (List.map_eq_nil_iff.mp e), by rw [List.length_map]; exact c, fun x hx => ?_⟩
      · rw [List.pairwise_map]
        exact a.imp fun h => by omega
      · obtain ⟨y, hy, rfl⟩ := List.mem_map.mp hx
        have := d y hy
        omega
  all a h0 h1 := by
    by_cases c : a < m
    · obtain ⟨r, hr, ha⟩ := SA.all a h0 c
      exact ⟨r, List.mem_append_left _ hr, ha⟩
    · obtain ⟨r, hr, ha⟩ := SB.all (a - m) (by omega) (by omega)
      refine ⟨_, List.mem_append_right _ (List.mem_map_of_mem hr), List.mem_map.mpr ⟨a - m, ha, by omega⟩⟩
  tlen := by unfold lift1R; rw [List.length_append, List.length_append, List.length_map, SA.tlen, SB.tlen]
  tab p hp := by
    rw [List.zip_append SA.tlen.symm] at hp
    rcases List.mem_append.mp hp with hp | hp
    · exact SA.tab p hp
    · unfold lift1R at hp
      rw [List.zip_map_left] at hp
      obtain ⟨q, hq, rfl⟩ := List.mem_map.mp hp
      have t := SB.tab q hq
      refine ⟨t.asc, fun x hx => ?_⟩
      have := t.row x hx
      refine ⟨?_, this.2⟩
      simp
      exact this.1
  bd := by
    rw [parts_append SA.tlen, bdM_append]
    exact b
theorem bd_few {b : Nat} (hb : 1 ≤ b) {n : Nat} {rb : List (List Int)} {ts : List (List (List Int))} (h : ∀ t ∈ ts, t.length ≤ b) (hn : rb.length ≤ n) : bdM (partsOf rb ts) ≤ b ^ n := by
  have z := bdM_pow hb (ps := partsOf rb ts) fun p hp => by
    obtain ⟨q, hq, rfl⟩ := List.mem_map.mp hp
    exact h q.2 (List.of_mem_zip hq).2
  refine Nat.le_trans z (Nat.pow_le_pow_right hb ?_)
  unfold partsOf
  rw [List.length_map, List.length_zip]
  omega
end Dl

set_option maxRecDepth 100000
set_option maxHeartbeats 4100000
/-! stores with a number at an attribute -/
namespace Dl
open L2 PySem PySem.Spec PyProof.Rows
def numB : D → Bool
  | .int n => decide (0 ≤ n ∧ n < 10 ^ 18)
  | _ => false
theorem numB_from (d : D) : fromB 0 d = numB d := by
  cases d <;> try rfl
  rename_i i
  simp only [fromB, isNum, numB]
  rw [Bool.eq_iff_iff]
  simp only [Bool.and_eq_true, decide_eq_true_iff]
  omega
def F_check_number (cn : Addr) : List D → M D
  | [d] => do M.need (pureD d); if numB d then pure .non else M.raise cn
  | _ => M.fail
/-- the rows of a table with the number at the attribute -/
def rwith (r : List Int) (t : List (List Int)) (a n : Int) : List (List Int) := if a ∈ r then t.filter fun q => decide (q.getD (r.idxOf a) 0 = n) else t
def restr (rows : List (List Int)) (tabs : List (List (List Int))) (a n : Int) : List (List (List Int)) := (rows.zip tabs).map fun p => rwith p.1 p.2 a n
theorem rwith_sub (r : List Int) (t : List (List Int)) (a n : Int) : (rwith r t a n).Sublist t := by
  unfold rwith
  split
  · exact List.filter_sublist
  · exact List.Sublist.refl _
theorem restr_good {most hi : Int} (a n : Int) : ∀ {rows : List (List Int)} {tabs : List (List (List Int))}, GoodS most hi rows tabs → GoodS most hi rows (restr rows tabs a n)
  | _, _, .nil => .nil
  | _, _, .cons (r := r) (tab := t) g G => .cons (tab := rwith r t a n) ⟨g.asc.sublist (rwith_sub ..), by have := (rwith_sub r t a n).length_le; have := g.len; omega, fun q hq => g.row q ((rwith_sub r t a n).subset hq)⟩ (restr_good a n G)
theorem rwith_mem {r : List Int} {t : List (List Int)} {a n : Int} {f : Int → Int} : r.map f ∈ rwith r t a n ↔ r.map f ∈ t ∧ (a ∈ r → f a = n) := by
  unfold rwith
  split
  · rename_i h
    rw [List.mem_filter, decide_eq_true_iff, List.getD_eq_getElem?_getD, List.getElem?_map, List.getElem?_eq_getElem (List.idxOf_lt_length_of_mem h), List.getElem_idxOf]
    simp [h]
  · rename_i h
    simp [h]
theorem restr_sat {a n : Int} {f : Int → Int} : ∀ {rows : List (List Int)} {tabs : List (List (List Int))}, tabs.length = rows.length → (SatF (partsOf rows (restr rows tabs a n)) f ↔ SatF (partsOf rows tabs) f ∧ ∀ r ∈ rows, a ∈ r → f a = n)
  | [], [], _ => by simp [restr, partsOf, SatF]
  | [], _ :: _, h => by cases h
  | _ :: _, [], h => by cases h
  | r :: rows, t :: tabs, h => by
    have ih := restr_sat (a := a) (n := n) (f := f) (rows := rows) (tabs := tabs) (by simpa using h)
    have e1 : partsOf (r :: rows) (restr (r :: rows) (t :: tabs) a n) = ⟨r, rwith r t a n, false⟩ :: partsOf rows (restr rows tabs a n) := rfl
    have e2 : partsOf (r :: rows) (t :: tabs) = ⟨r, t, false⟩ :: partsOf rows tabs := rfl
    rw [e1, e2]
    unfold SatF at ih ⊢
    simp only [List.forall_mem_cons]
    rw [ih, rwith_mem]
    constructor
    · rintro ⟨⟨x, y⟩, z, w⟩
      exact ⟨⟨x, z⟩, y, w⟩
    · rintro ⟨⟨x, z⟩, y, w⟩
      exact ⟨⟨x, y⟩, z, w⟩
theorem AnsP.restr {m : Nat} {rows : List (List Int)} {tabs : List (List (List Int))} {ans : List (List Int)} (A : AnsP m (partsOf rows tabs) ans) (S : SOk m rows tabs) {a n : Int} (h0 : 0 ≤ a) (h1 : a < m) : AnsP m (partsOf rows (Dl.restr rows tabs a n)) (ans.filter fun r => decide (atR r a = n)) where
  asc := A.asc.filter _
  mem r := by
    rw [List.mem_filter, A.mem, decide_eq_true_iff, restr_sat S.tlen]
    obtain ⟨q, hq, ha⟩ := S.all a h0 h1
    constructor
    · rintro ⟨⟨l, s⟩, e⟩
      exact ⟨l, s, fun _ _ _ => e⟩
    · rintro ⟨l, s, e⟩
      exact ⟨⟨l, s⟩, e q hq ha⟩
theorem AnsP.num {m : Nat} {rows : List (List Int)} {tabs : List (List (List Int))} {ans : List (List Int)} {most hi : Int} (A : AnsP m (partsOf rows tabs) ans) (S : SOk m rows tabs) (G : GoodS most hi rows tabs) {r : List Int} (hr : r ∈ ans) {a : Int} (h0 : 0 ≤ a) (h1 : a < m) : 0 ≤ atR r a ∧ atR r a < hi := by
  obtain ⟨q, hq, ha⟩ := S.all a h0 h1
  obtain ⟨t, ht⟩ := zip_left S.tlen q hq
  have s := ((A.mem r).mp hr).2 ⟨q, t, false⟩ (List.mem_map_of_mem (f := fun p : List Int × List (List Int) => (⟨p.1, p.2, false⟩ : Prt)) ht)
  exact ((G.at_zip _ ht).row _ s).2 _ (List.mem_map_of_mem ha)
/-- what restricted answers: a store, or what it raises -/
def F_rwith (ds : List D) : M D := ⟨fun γ P _ => ∃ (r : List Int) (t : List (List Int)) (a n : Int), ds = [rowD r, tabD t, .int a, .int n] ∧ r.length ≤ 8 ∧ (∀ q ∈ t, q.length = r.length) ∧ t.length ≤ sizeLine ∧ P (tabD (rwith r t a n)) γ, fun h _ ⟨r, t, a, n, e, h1, h2, h3, q⟩ => ⟨r, t, a, n, e, h1, h2, h3, h _ _ q⟩⟩
theorem runF_rwith {ds : List D} {γ : Gh} {P : D → Gh → Prop} {X : Addr → Gh → Prop} : (F_rwith ds).run γ P X = ∃ (r : List Int) (t : List (List Int)) (a n : Int), ds = [rowD r, tabD t, .int a, .int n] ∧ r.length ≤ 8 ∧ (∀ q ∈ t, q.length = r.length) ∧ t.length ≤ sizeLine ∧ P (tabD (rwith r t a n)) γ := rfl
def F_restr (cs ca cn : Addr) (ds : List D) : M D := ⟨fun γ P X => ∃ q d a n, ds = [q, d, a, n] ∧ pureD q ∧ pureD d ∧ pureD a ∧ pureD n ∧ isQuery q = true ∧
    ((isStore q d = false ∧ X cs γ) ∨ (isStore q d = true ∧ (∃ many as, q = .tup [.int many, as] ∧ ((belowB many a = false ∧ X ca γ) ∨ (belowB many a = true ∧ numB n = false ∧ X cn γ)))) ∨
      ∃ (m : Nat) (rows : List (List Int)) (tabs : List (List (List Int))) (i k : Int), q = qD m rows ∧ d = .tup (tabs.map tabD) ∧ a = .int i ∧ n = .int k ∧ SOk m rows tabs ∧ 0 ≤ i ∧ i < m ∧ 0 ≤ k ∧ k < 10 ^ 18 ∧ P (.tup ((restr rows tabs i k).map tabD)) γ),
  fun h hx ⟨q, d, a, n, e, h1, h2, h3, h4, h5, z⟩ => ⟨q, d, a, n, e, h1, h2, h3, h4, h5, z.imp (fun ⟨z, y⟩ => ⟨z, hx _ _ y⟩) fun z => z.imp (fun ⟨z, many, as, e, y⟩ => ⟨z, many, as, e, y.imp (fun ⟨z, y⟩ => ⟨z, hx _ _ y⟩) fun ⟨z, z', y⟩ => ⟨z, z', hx _ _ y⟩⟩) fun ⟨m, rows, tabs, i, k, e1, e2, e3, e4, s, i0, i1, k0, k1, y⟩ => ⟨m, rows, tabs, i, k, e1, e2, e3, e4, s, i0, i1, k0, k1, h _ _ y⟩⟩⟩
theorem runF_restr {cs ca cn : Addr} {ds : List D} {γ : Gh} {P : D → Gh → Prop} {X : Addr → Gh → Prop} : (F_restr cs ca cn ds).run γ P X = ∃ q d a n, ds = [q, d, a, n] ∧ pureD q ∧ pureD d ∧ pureD a ∧ pureD n ∧ isQuery q = true ∧
    ((isStore q d = false ∧ X cs γ) ∨ (isStore q d = true ∧ (∃ many as, q = .tup [.int many, as] ∧ ((belowB many a = false ∧ X ca γ) ∨ (belowB many a = true ∧ numB n = false ∧ X cn γ)))) ∨
      ∃ (m : Nat) (rows : List (List Int)) (tabs : List (List (List Int))) (i k : Int), q = qD m rows ∧ d = .tup (tabs.map tabD) ∧ a = .int i ∧ n = .int k ∧ SOk m rows tabs ∧ 0 ≤ i ∧ i < m ∧ 0 ≤ k ∧ k < 10 ^ 18 ∧ P (.tup ((restr rows tabs i k).map tabD)) γ) := rfl
theorem restr_range {rows : List (List Int)} {tabs : List (List (List Int))} (tl : tabs.length = rows.length) (a n : Int) : ((List.range tabs.length).map fun j => tabD (rwith (rows.getD j []) (tabs.getD j []) a n)) = (restr rows tabs a n).map tabD := by
  unfold restr
  rw [List.map_map]
  refine List.ext_getElem (by simp [tl]) fun i h1 h2 => ?_
  simp at h1 h2
  simp [List.getD_eq_getElem?_getD, List.getElem?_eq_getElem (show i < rows.length by omega), List.getElem?_eq_getElem (show i < tabs.length by omega)]
theorem toPyL_tabs : ∀ (ts : List (List (List Int))), toPyL (ts.map tabD) = some (ts.map fun t => PyData.tuple (t.map fun r => PyData.tuple (r.map .int)))
  | [] => rfl
  | t :: ts => by
    have ih := toPyL_tabs ts
    simp only [List.map_cons, toPyL, tabD, toPy, toPyL_rowT] at ih ⊢
    rw [ih]
    rfl
theorem depth_row2 : ∀ (rs : List (List Int)), PyData.depthAll (rs.map fun r => PyData.tuple (r.map .int)) ≤ 2
  | [] => by simp [PyData.depthAll]
  | r :: rs => by
    have h1 := depth_ints r
    have h2 := depth_row2 rs
    simp only [List.map_cons, PyData.depthAll, PyData.depth]
    omega
theorem depth_tabs3 : ∀ (ts : List (List (List Int))), PyData.depthAll (ts.map fun t => PyData.tuple (t.map fun r => PyData.tuple (r.map .int))) ≤ 3
  | [] => by simp [PyData.depthAll]
  | t :: ts => by
    have h1 := depth_row2 t
    have h2 := depth_tabs3 ts
    simp only [List.map_cons, PyData.depthAll, PyData.depth]
    omega
theorem depth_tabsT (ts : List (List (List Int))) : (PyData.tuple (ts.map fun t => PyData.tuple (t.map fun r => PyData.tuple (r.map .int)))).depth ≤ 100 := by
  have := depth_tabs3 ts
  simp only [PyData.depth]
  omega
theorem eqv_tabsA : ∀ (as bs : List (List (List Int))), PyData.eqvAll (as.map fun t => PyData.tuple (t.map fun r => PyData.tuple (r.map .int))) (bs.map fun t => PyData.tuple (t.map fun r => PyData.tuple (r.map .int))) = decide (as = bs)
  | [], [] => by simp [PyData.eqvAll]
  | [], _ :: _ => by simp [PyData.eqvAll]
  | _ :: _, [] => by simp [PyData.eqvAll]
  | a :: as, b :: bs => by
    simp only [List.map_cons, PyData.eqvAll, eqv_tabsA as bs, eqv_rowsT]
    rw [Bool.eq_iff_iff]
    simp
theorem eqv_tabsT (as bs : List (List (List Int))) : PyData.eqv (.tuple (as.map fun t => PyData.tuple (t.map fun r => PyData.tuple (r.map .int)))) (.tuple (bs.map fun t => PyData.tuple (t.map fun r => PyData.tuple (r.map .int)))) = decide (as = bs) := by
  unfold PyData.eqv
  exact eqv_tabsA as bs
/-- an error of the package that a caught call raises, asked for its own class -/
structure CtE (K : PySem.W.Frag) (J C : Addr) : Prop where
  exm : PySem.W.exmOne K (.ref C) (.ref J) = some true
  exc : ExcC K C
  kit : PySem.W.kitOne K (.ref C) (.ref C) = some true
end Dl

set_option maxRecDepth 100000
set_option maxHeartbeats 4100000
/-! list(zip(t, u)), t and u tuples -/
namespace PySem.W
open PySem PySem.Calls PySem.Spec PyProof.Rows RZ
section
variable {prog : Program} {w : World} {A : Around} {E : Value → Shared → Prop} {s : Shared}
variable {zz ti tt aa bb ta tb gT : Addr} {gf : Bool} {gO : Obj} {m n : Nat} {us vs : Array Value} {u v : Value}
/-- a further pair of a zip over two tuples, the first pair being kept by someone -/
theorem lz_more {Q : Value → Shared → Prop} (P : ZipApart zz ti tt aa bb ta tb) (Z : IsZipHeld s.heap zz ti tt gT gf) (G : s.heap.get? gT = some gO) (I : IsPair s.heap ti (.ref aa) (.ref bb))
    (X1 : s.heap.IsTupleIter aa ta m) (X2 : s.heap.IsTupleIter bb tb n) (Y1 : s.heap.IsTuple ta us) (Y2 : s.heap.IsTuple tb vs) (eu : us[m]? = some u) (ev : vs[n]? = some v)
    (q : ∀ k : Heap, IsZipHeld k zz ti tt gT true → k.IsTupleIter aa ta (m + 1) → k.IsTupleIter bb tb (n + 1) → IsPair k s.heap.objs.size u v → k.objs.size = s.heap.objs.size + 1 →
      (∀ c o, c ≠ zz → c ≠ aa → c ≠ bb → s.heap.get? c = some o → k.get? c = some o) → Q (.ref s.heap.objs.size) { s with heap := k }) :
    wpAny (model prog w) A (Builtin.«zip.__next__» ⟨[.ref zz], []⟩) (fun fin s' => ∃ r, fin = .done (.ret r) ∧ Q r s') E s := by
  show wpAny _ _ (field (.ref zz) 2 >>= _) _ _ _
  apply wpAny_bind
  apply wpAny_field Z rfl (x := .bool false) rfl
  show wpAny _ _ (field (.ref zz) 3 >>= _) _ _ _
  apply wpAny_bind
  apply wpAny_field Z rfl (x := .ref ti) rfl
  apply wpAny_bind
  apply wpAny_seqItems I rfl
  show wpAny _ _ (Builtin.SmallTypes.ownedTupleIsFree (.ref zz) >>= _) _ _ _
  apply wpAny_bind
  apply wpAny_tupleHeld_zip Z G
  intro k1 Z1 B1
  simp only [Bool.false_eq_true, if_false]
  apply wpAny_bind
  rw [← Array.forIn_toList]
  simp only [List.forIn_cons, List.forIn_nil]
  apply wpAny_bind
  apply wpAny_bind
  apply wpAny_holding
  show wpAny _ _ (Builtin.SmallTypes.nextOf (.ref aa) >>= _) _ _ _
  apply wpAny_bind
  apply nextOf_tuple_item (s := { s with heap := k1 }) (X1.extBut B1.extBut P.i1z) (Y1.extBut B1.extBut P.l1z) eu
  intro k2 X1b B2
  refine wpAny_pure (wpAny_pure ?_)
  apply wpAny_bind
  apply wpAny_bind
  apply wpAny_holding
  show wpAny _ _ (Builtin.SmallTypes.nextOf (.ref bb) >>= _) _ _ _
  apply wpAny_bind
  apply nextOf_tuple_item (s := { s with heap := k2 }) ((X2.extBut B1.extBut P.i2z).extBut B2.extBut P.i12.symm) ((Y2.extBut B1.extBut P.l2z).extBut B2.extBut P.l2i1) ev
  intro k3 X2b B3
  refine wpAny_pure (wpAny_pure (wpAny_pure ?_))
  show wpAny _ _ (newTuple [u, v] >>= _) _ _ _
  apply wpAny_bind
  refine wpAny_newTuple ?_
  have sz : k3.objs.size = s.heap.objs.size := B3.1.trans (B2.1.trans B1.1)
  have old : ∀ c o, c ≠ zz → c ≠ aa → c ≠ bb → s.heap.get? c = some o → k3.get? c = some o := fun c o n1 n2 n3 y => B3.extBut c o n3 (B2.extBut c o n2 (B1.extBut c o n1 y))
  have pr : IsPair (k3.push { cls := .type "tuple", data := .seq #[u, v] }) k3.objs.size u v := Heap.get?_push_size _ rfl
  have sz4 : (k3.push { cls := .type "tuple", data := .seq #[u, v] }).objs.size = k3.objs.size + 1 := Heap.size_push ..
  refine wpAny_pure ⟨.ref k3.objs.size, rfl, ?_⟩
  rw [sz] at pr sz4 ⊢
  exact q _ (Heap.get?_push_of_some _ (B3.extBut _ _ P.i2z.symm (B2.extBut _ _ P.i1z.symm Z1))) ((X1b.extBut B3.extBut P.i12).at fun o y => Heap.get?_push_of_some _ y) (X2b.at fun o y => Heap.get?_push_of_some _ y) pr sz4
    fun c o n1 n2 n3 y => Heap.get?_push_of_some _ (old c o n1 n2 n3 y)
theorem lz_end {Q : Fin → Shared → Prop} (hh : A.handled = none) (P : ZipApart zz ti tt aa bb ta tb) (Z : IsZipHeld s.heap zz ti tt gT gf) (G : s.heap.get? gT = some gO) (I : IsPair s.heap ti (.ref aa) (.ref bb))
    (X1 : s.heap.IsTupleIter aa ta m) (Y1 : s.heap.IsTuple ta us) (eu : us[m]? = none)
    (q : ∀ (k : Heap) (x : Addr), (∀ c o, c ≠ zz → c ≠ aa → s.heap.get? c = some o → k.get? c = some o) → (∃ o, k.get? x = some o ∧ o.cls = .type "StopIteration") → E (.ref x) { s with heap := k }) :
    wpAny (model prog w) A (Builtin.«zip.__next__» ⟨[.ref zz], []⟩) Q E s := by
  show wpAny _ _ (field (.ref zz) 2 >>= _) _ _ _
  apply wpAny_bind
  apply wpAny_field Z rfl (x := .bool false) rfl
  show wpAny _ _ (field (.ref zz) 3 >>= _) _ _ _
  apply wpAny_bind
  apply wpAny_field Z rfl (x := .ref ti) rfl
  apply wpAny_bind
  apply wpAny_seqItems I rfl
  show wpAny _ _ (Builtin.SmallTypes.ownedTupleIsFree (.ref zz) >>= _) _ _ _
  apply wpAny_bind
  apply wpAny_tupleHeld_zip Z G
  intro k1 Z1 B1
  simp only [Bool.false_eq_true, if_false]
  apply wpAny_bind
  rw [← Array.forIn_toList]
  simp only [List.forIn_cons, List.forIn_nil]
  apply wpAny_bind
  apply wpAny_bind
  apply wpAny_holding
  show wpAny _ _ (Builtin.SmallTypes.nextOf (.ref aa) >>= _) _ _ _
  apply wpAny_bind
  apply nextOf_tuple_end (s := { s with heap := k1 }) hh (X1.extBut B1.extBut P.i1z) (Y1.extBut B1.extBut P.l1z) eu
  intro k2 x B2 y
  exact q k2 x (fun c o n1 n2 e => B2 _ _ n2 (B1.extBut c o n1 e)) y
/-- how a zip over two tuples stands: nothing given out, or the first pair, which is kept -/
structure LzAt (h : Heap) (zz ti tt aa bb ta tb : Addr) (m : Nat) (us vs : Array Value) : Prop where
  zip : (IsZip h zz ti tt .none ∧ ∃ x y, IsPair h tt x y) ∨ ∃ gT gf gO, IsZipHeld h zz ti tt gT gf ∧ h.get? gT = some gO ∧ gT ≠ zz ∧ gT ≠ tt ∧ gT ≠ aa ∧ gT ≠ bb
  prs : IsPair h ti (.ref aa) (.ref bb)
  it1 : h.IsTupleIter aa ta m
  it2 : h.IsTupleIter bb tb m
  tu1 : h.IsTuple ta us
  tu2 : h.IsTuple tb vs
theorem LzAt.keep {h h' : Heap} (L : LzAt h zz ti tt aa bb ta tb m us vs) (k : ∀ c o, h.get? c = some o → h'.get? c = some o) : LzAt h' zz ti tt aa bb ta tb m us vs where
  zip := L.zip.imp (fun ⟨a, x, y, b⟩ => ⟨k _ _ a, x, y, k _ _ b⟩) fun ⟨g, f, o, a, b, c⟩ => ⟨g, f, o, k _ _ a, k _ _ b, c⟩
  prs := k _ _ L.prs
  it1 := L.it1.at fun o => k _ o
  it2 := L.it2.at fun o => k _ o
  tu1 := by obtain ⟨o, a, b⟩ := L.tu1; exact ⟨o, k _ _ a, b⟩
  tu2 := by obtain ⟨o, a, b⟩ := L.tu2; exact ⟨o, k _ _ a, b⟩
theorem LzAt.keepB {h h' : Heap} {S : Addr} (L : LzAt h zz ti tt aa bb ta tb m us vs) (k : ∀ c o, c ≠ S → h.get? c = some o → h'.get? c = some o) (n1 : S ≠ zz) (n2 : S ≠ ti) (n3 : S ≠ tt) (n4 : S ≠ aa) (n5 : S ≠ bb) (n6 : S ≠ ta) (n7 : S ≠ tb) (n8 : ∀ gT gf, IsZipHeld h zz ti tt gT gf → gT ≠ S) : LzAt h' zz ti tt aa bb ta tb m us vs where
  zip := L.zip.imp (fun ⟨a, x, y, b⟩ => ⟨k _ _ n1.symm a, x, y, k _ _ n3.symm b⟩) fun ⟨g, f, o, a, b, c⟩ => ⟨g, f, o, k _ _ n1.symm a, k _ _ (n8 g f a) b, c⟩
  prs := k _ _ n2.symm L.prs
  it1 := L.it1.at fun o => k _ o n4.symm
  it2 := L.it2.at fun o => k _ o n5.symm
  tu1 := by obtain ⟨o, a, b⟩ := L.tu1; exact ⟨o, k _ _ n6.symm a, b⟩
  tu2 := by obtain ⟨o, a, b⟩ := L.tu2; exact ⟨o, k _ _ n7.symm a, b⟩
theorem held_ne {h : Heap} (Z : IsZip h zz ti tt .none) (Z2 : IsZipHeld h zz ti tt gT gf) : False := by
  rw [IsZip] at Z
  rw [IsZipHeld, Z] at Z2
  simp [rawInt] at Z2
/-- the next pair -/
theorem lz_item {Q : Option Value → Shared → Prop} (P : ZipApart zz ti tt aa bb ta tb) (L : LzAt s.heap zz ti tt aa bb ta tb m us vs) (eu : us[m]? = some u) (ev : vs[m]? = some v)
    (q : ∀ k : Heap, LzAt k zz ti tt aa bb ta tb (m + 1) us vs → IsPair k s.heap.objs.size u v → k.objs.size = s.heap.objs.size + 1 →
      (∀ c o, c ≠ zz → c ≠ tt → c ≠ aa → c ≠ bb → s.heap.get? c = some o → k.get? c = some o) → (∀ gT gf, IsZipHeld k zz ti tt gT gf → gT = s.heap.objs.size ∨ ∃ gf', IsZipHeld s.heap zz ti tt gT gf') → Q (some (.ref s.heap.objs.size)) { s with heap := k }) :
    wpAny (model prog w) A (pyNext (.ref zz)) Q E s := by
  have lt : ∀ c o, s.heap.get? c = some o → s.heap.objs.size ≠ c := fun c o y => Nat.ne_of_gt (Heap.lt_size y)
  have t1 : ∀ k : Heap, (∀ c o, c ≠ zz → c ≠ tt → c ≠ aa → c ≠ bb → s.heap.get? c = some o → k.get? c = some o) → IsPair k ti (.ref aa) (.ref bb) ∧ k.IsTuple ta us ∧ k.IsTuple tb vs := fun k old => by
    refine ⟨old _ _ P.TIz P.TITO P.TIi1 P.TIi2 L.prs, ?_, ?_⟩
    · obtain ⟨o, a, b⟩ := L.tu1
      exact ⟨o, old _ _ P.l1z P.l1TO P.l1i1 P.l1i2 a, b⟩
    · obtain ⟨o, a, b⟩ := L.tu2
      exact ⟨o, old _ _ P.l2z P.l2TO P.l2i1 P.l2i2 a, b⟩
  have na : s.heap.objs.size ≠ aa := by obtain ⟨o, a, _⟩ := L.it1; exact lt _ _ a
  have nb : s.heap.objs.size ≠ bb := by obtain ⟨o, a, _⟩ := L.it2; exact lt _ _ a
  rcases L.zip with ⟨Z, x, y, T⟩ | ⟨gT, gf, gO, Z, G, g1, g2, g3, g4⟩
  · refine pyNext_zipT_item P Z L.prs T L.it1 L.it2 L.tu1 L.tu2 eu ev fun k Z2 T2 i1 i2 pr sz old => ?_
    obtain ⟨a1, a2, a3⟩ := t1 k old
    refine q k ⟨.inr ⟨_, false, _, Z2, pr, lt _ _ Z, lt _ _ T, na, nb⟩, a1, i1, i2, a2, a3⟩ pr sz old fun gT gf h => .inl ?_
    have h2 := h.symm.trans (show k.get? zz = some _ from Z2)
    simp [rawInt] at h2
    exact Int.ofNat.inj h2.1
  · have ty : s.TypeIs (.ref zz) "zip" := ⟨_, Z, rfl⟩
    unfold pyNext
    refine wpAny_bind (wpAny_attempt (wpAny_callSpecial?_slot (name := Str.ofString "__next__") ty F.slot_zip_next (wpAny_call_entry F.slot_zip_next ty F.entry_zip_next
      (lz_more P Z G L.prs L.it1 L.it2 L.tu1 L.tu2 eu ev fun k Z2 i1 i2 pr sz old => wpAny_pure ?_) (F.args_zip_next_1 _))))
    have old' : ∀ c o, c ≠ zz → c ≠ tt → c ≠ aa → c ≠ bb → s.heap.get? c = some o → k.get? c = some o := fun c o n1 _ n3 n4 => old c o n1 n3 n4
    obtain ⟨a1, a2, a3⟩ := t1 k old'
    refine q k ⟨.inr ⟨gT, true, gO, Z2, old _ _ g1 g3 g4 G, g1, g2, g3, g4⟩, a1, i1, i2, a2, a3⟩ pr sz old' fun gT' gf' h => .inr ⟨gf, ?_⟩
    have h2 := h.symm.trans (show k.get? zz = some _ from Z2)
    simp [rawInt] at h2
    rw [Int.ofNat.inj h2.1]
    exact Z
theorem lz_done {Q : Option Value → Shared → Prop} (hh : A.handled = none) (P : ZipApart zz ti tt aa bb ta tb) (L : LzAt s.heap zz ti tt aa bb ta tb m us vs) (eu : us[m]? = none)
    (q : ∀ k : Heap, (∀ c o, c ≠ zz → c ≠ tt → c ≠ aa → c ≠ bb → s.heap.get? c = some o → k.get? c = some o) → Q none { s with heap := k }) :
    wpAny (model prog w) A (pyNext (.ref zz)) Q E s := by
  rcases L.zip with ⟨Z, x, y, T⟩ | ⟨gT, gf, gO, Z, G, g1, g2, g3, g4⟩
  · exact pyNext_zipT_end hh P Z L.prs T L.it1 L.it2 L.tu1 L.tu2 (.inl eu) q
  · have ty : s.TypeIs (.ref zz) "zip" := ⟨_, Z, rfl⟩
    unfold pyNext
    refine wpAny_bind (wpAny_attempt (wpAny_callSpecial?_slot (name := Str.ofString "__next__") ty F.slot_zip_next (wpAny_call_entry F.slot_zip_next ty F.entry_zip_next
      (lz_end hh P Z G L.prs L.it1 L.tu1 eu fun k x old y => ?_) (F.args_zip_next_1 _))))
    obtain ⟨o, ho, hc⟩ := y
    exact wpAny_bind (wpAny_isInstance (T := "StopIteration") (b := true) ⟨o, ho, hc⟩ isSubtype_stop (wpAny_pure (q k fun c o n1 _ n3 _ => old c o n1 n3)))
/-- the pairs laid so far -/
structure LzPs (h : Heap) (acc : List Addr) (us vs : Array Value) (lo : Nat) : Prop where
  nd : acc.Nodup
  lo : ∀ T ∈ acc, lo ≤ T
  pr : ∀ (j : Nat) (T : Addr), acc[j]? = some T → ∃ u v, us[j]? = some u ∧ vs[j]? = some v ∧ IsPair h T u v
abbrev lstAt (h : Heap) (S : Addr) (acc : List Addr) (c : Nat) : Prop := h.get? S = some { cls := .type "list", dict := none, data := .seq (acc.map Value.ref).toArray c, slots := #[] }
theorem lz_loop {R : Result → Shared → Prop} (hh : A.handled = none) (P : ZipApart zz ti tt aa bb ta tb) {len lo : Nat} (l1 : us.size = len) (l2 : vs.size = len) (few : len ≤ sizeLine) (S : Addr) (res : Value)
    (b1 : zz < lo) (b2 : tt < lo) (b3 : aa < lo) (b4 : bb < lo) (b5 : S < lo) (n1 : S ≠ zz) (n2 : S ≠ ti) (n3 : S ≠ tt) (n4 : S ≠ aa) (n5 : S ≠ bb) (n6 : S ≠ ta) (n7 : S ≠ tb) :
    ∀ (d i : Nat) (s : Shared) (acc : List Addr) (c : Nat), len - i = d → acc.length = i → i ≤ len → lo ≤ s.heap.objs.size → LzAt s.heap zz ti tt aa bb ta tb i us vs → (∀ gT gf, IsZipHeld s.heap zz ti tt gT gf → gT ∈ acc) → LzPs s.heap acc us vs lo → lstAt s.heap S acc c →
      (∀ (k : Heap) (acc' : List Addr) (c' : Nat), (∀ b o, b ≠ S → b ≠ zz → b ≠ tt → b ≠ aa → b ≠ bb → s.heap.get? b = some o → k.get? b = some o) → acc'.length = len → LzPs k acc' us vs lo → lstAt k S acc' c' → R (.ok (.ret res)) { s with heap := k }) →
      codeAny (model prog w) A (.builtin "list.extend.loop" ⟨[.ref S, .ref zz, res], []⟩) R s := by
  intro d
  induction d with
  | zero =>
    intro i s acc c hd hi hl hlo L hg hp hS q
    obtain rfl : i = len := by omega
    apply codeAny_builtin F.entry_extend_loop
    rw [Around.under_plainId F.plain_extend_loop _]
    show wpAny _ A.in1 (pyNext (.ref zz) >>= _) _ _ s
    apply wpAny_bind
    refine lz_done (A := A.in1) hh P L (by rw [Array.getElem?_eq_none_iff]; omega) fun k old => ?_
    refine wpAny_pure (q k acc c (fun b o _ m1 m2 m3 m4 y => old b o m1 m2 m3 m4 y) hi ⟨hp.nd, hp.lo, fun j T e => ?_⟩ (old _ _ n1 n3 n4 n5 hS))
    obtain ⟨u, v, e1, e2, e3⟩ := hp.pr j T e
    have := hp.lo T (List.mem_of_getElem? e)
    exact ⟨u, v, e1, e2, old _ _ (Nat.ne_of_gt (Nat.lt_of_lt_of_le b1 this)) (Nat.ne_of_gt (Nat.lt_of_lt_of_le b2 this)) (Nat.ne_of_gt (Nat.lt_of_lt_of_le b3 this)) (Nat.ne_of_gt (Nat.lt_of_lt_of_le b4 this)) e3⟩
  | succ d ih =>
    intro i s acc c hd hi hl hlo L hg hp hS q
    have hi1 : i < us.size := by omega
    have hi2 : i < vs.size := by omega
    apply codeAny_builtin F.entry_extend_loop
    rw [Around.under_plainId F.plain_extend_loop _]
    show wpAny _ A.in1 (pyNext (.ref zz) >>= _) _ _ s
    apply wpAny_bind
    refine lz_item (A := A.in1) P L (u := us[i]) (v := vs[i]) (Array.getElem?_eq_getElem hi1) (Array.getElem?_eq_getElem hi2) fun k L2 pr sz old hg2 => ?_
    have hS2 : lstAt k S acc c := old _ _ n1 n3 n4 n5 hS
    show wpAny _ A.in1 (updateSeq S (·.push (.ref s.heap.objs.size)) >>= _) _ _ _
    apply wpAny_bind
    have new : s.heap.objs.size ∉ acc := fun hm => by
      obtain ⟨j, hj, e⟩ := List.getElem_of_mem hm
      obtain ⟨u, v, _, _, e3⟩ := hp.pr j _ (by rw [List.getElem?_eq_getElem hj, e])
      exact absurd (Heap.lt_size e3) (Nat.lt_irrefl _)
    have psz : ((acc.map Value.ref).toArray : Array Value).size = i := by rw [List.size_toArray, List.length_map]; exact hi
    have ups : ∀ (c' : Addr) (o : Obj), c' ≠ S → k.get? c' = some o → (k.update S (Obj.mapSeq (·.push (.ref s.heap.objs.size)))).get? c' = some o := fun c' o hc y => (Heap.get?_update_other _ _ hc.symm).trans y
    have hg3 : ∀ gT gf, IsZipHeld k zz ti tt gT gf → gT ∈ acc ++ [s.heap.objs.size] := fun gT gf h => (hg2 gT gf h).elim (fun e => by rw [e]; simp) fun ⟨gf', h'⟩ => List.mem_append_left _ (hg gT gf' h')
    have notS : ∀ T ∈ acc ++ [s.heap.objs.size], T ≠ S := fun T hT => by
      rcases List.mem_append.mp hT with hT | hT
      · exact Nat.ne_of_gt (Nat.lt_of_lt_of_le b5 (hp.lo T hT))
      · rw [List.mem_singleton.mp hT]
        exact Nat.ne_of_gt (Nat.lt_of_lt_of_le b5 hlo)
    have arr : ((acc.map Value.ref).toArray.push (Value.ref s.heap.objs.size)) = ((acc ++ [s.heap.objs.size]).map Value.ref).toArray := by simp
    have hS4 := Heap.get?_update_self (Obj.mapSeq (·.push (Value.ref s.heap.objs.size))) hS2 rfl
    obtain ⟨c3, hS3⟩ : ∃ c3, lstAt (k.update S (Obj.mapSeq (·.push (Value.ref s.heap.objs.size)))) S (acc ++ [s.heap.objs.size]) c3 := by
      unfold lstAt
      rw [← arr]
      exact ⟨_, hS4⟩
    refine wpAny_updateSeq hS2 rfl (wpAny_pure ⟨plainId_quiet F.plain_extend_loop _, ih (i + 1) _ (acc ++ [s.heap.objs.size]) c3 (by omega) (by rw [List.length_append, hi]; rfl) (by omega) ?_ ?_ ?_ ?_ ?_ fun k' acc' c' old' hl' hp' hS' => ?_⟩) (by rw [psz]; omega) (by show Array.size (Array.push _ _) ≤ _; rw [Array.size_push, psz]; omega)
    · show lo ≤ (k.update S _).objs.size
      rw [Heap.size_update, sz]
      omega
    · exact L2.keepB (S := S) ups n1 n2 n3 n4 n5 n6 n7 fun gT gf h => notS gT (hg3 gT gf h)
    · intro gT gf h
      refine hg3 gT gf ?_
      have h : (k.update S (Obj.mapSeq (·.push (.ref s.heap.objs.size)))).get? zz = _ := h
      rw [Heap.get?_update_other _ _ n1] at h
      exact h
    · refine ⟨List.nodup_append.mpr ⟨hp.nd, List.nodup_cons.mpr ⟨by simp, List.nodup_nil⟩, fun x hx y hy e => new (by rw [List.mem_singleton.mp hy] at e; exact e ▸ hx)⟩, fun T hT => ?_, fun j T e => ?_⟩
      · rcases List.mem_append.mp hT with hT | hT
        · exact hp.lo T hT
        · rw [List.mem_singleton.mp hT]
          exact hlo
      · have nS := notS T (List.mem_of_getElem? e)
        rw [List.getElem?_append] at e
        split at e
        · obtain ⟨u, v, e1, e2, e3⟩ := hp.pr j T e
          have := hp.lo T (List.mem_of_getElem? e)
          exact ⟨u, v, e1, e2, ups _ _ nS (old _ _ (Nat.ne_of_gt (Nat.lt_of_lt_of_le b1 this)) (Nat.ne_of_gt (Nat.lt_of_lt_of_le b2 this)) (Nat.ne_of_gt (Nat.lt_of_lt_of_le b3 this)) (Nat.ne_of_gt (Nat.lt_of_lt_of_le b4 this)) e3)⟩
        · have hj : j = i := by
            have := (List.getElem?_eq_some_iff.mp e).1
            simp at this
            omega
          subst hj
          rw [hi, Nat.sub_self] at e
          simp at e
          subst e
          exact ⟨us[j], vs[j], Array.getElem?_eq_getElem hi1, Array.getElem?_eq_getElem hi2, ups _ _ nS pr⟩
    · exact hS3
    · exact q k' acc' c' (fun b o m0 m1 m2 m3 m4 y => old' b o m0 m1 m2 m3 m4 (ups _ _ m0 (old b o m1 m2 m3 m4 y))) hl' hp' hS'
theorem zip_len0 : typeLookup (.type "zip") "__len__" = pure none := am_miss_of_fast (by decide +kernel)
theorem zip_hint0 : typeLookup (.type "zip") "__length_hint__" = pure none := am_miss_of_fast (by decide +kernel)
theorem lz_hint {r : Addr} {Q : Bool → Shared → Prop} (hT : s.TypeIs (.ref r) "zip") (h : Q true s) : wpAny (model prog w) A (Builtin.List.listLengthHint (.ref r)) Q E s := by
  unfold Builtin.List.listLengthHint
  apply wpAny_bind
  apply wpAny_specialOf hT zip_len0
  refine wpAny_ite_split (fun hab => absurd hab (by decide)) fun _ => ?_
  refine wpAny_ite_split (fun hab => absurd hab (by decide)) fun _ => ?_
  apply wpAny_bind
  apply wpAny_specialOf hT zip_hint0
  exact wpAny_pure h
theorem LzAt.zipT {h : Heap} (L : LzAt h zz ti tt aa bb ta tb m us vs) : ∃ f g, h.get? zz = some { cls := .type "zip", dict := none, data := .fields #[f, .bool g, .bool false, .ref ti, .ref tt], slots := #[] } := by
  rcases L.zip with ⟨Z, _⟩ | ⟨_, gf, _, Z, _⟩
  · exact ⟨_, false, Z⟩
  · exact ⟨_, gf, Z⟩
theorem lz_extend {R : Result → Shared → Prop} (hh : A.handled = none) (P : ZipApart zz ti tt aa bb ta tb) {len : Nat} (l1 : us.size = len) (l2 : vs.size = len) (few : len ≤ sizeLine) (S : Addr) (res : Value) (c : Nat)
    (Z : IsZip s.heap zz ti tt .none) (L : LzAt s.heap zz ti tt aa bb ta tb 0 us vs) (hS : lstAt s.heap S [] c) (n1 : S ≠ zz) (n2 : S ≠ ti) (n3 : S ≠ tt) (n4 : S ≠ aa) (n5 : S ≠ bb) (n6 : S ≠ ta) (n7 : S ≠ tb)
    (q : ∀ (k : Heap) (acc' : List Addr) (c' : Nat), (∀ b o, b ≠ S → b ≠ zz → b ≠ tt → b ≠ aa → b ≠ bb → s.heap.get? b = some o → k.get? b = some o) → acc'.length = len → LzPs k acc' us vs s.heap.objs.size → lstAt k S acc' c' → R (.ok (.ret res)) { s with heap := k }) :
    wpAny (model prog w) A.in1 (Builtin.List.listExtendWith (.ref S) (.ref zz) res)
      (fun fin s' => match fin with | .done f => R (.ok f) s' | .again c' => c'.quiet = true ∧ codeAny (model prog w) A c' R s') (fun e s' => R (.error e) s') s := by
  have hT : ∀ (hp : Heap), IsZip hp zz ti tt .none → Shared.TypeIs { s with heap := hp } (.ref zz) "zip" := fun hp y => ⟨_, y, rfl⟩
  have key : ∀ (h : Heap) (c₁ : Nat), h.objs.size = s.heap.objs.size → IsZip h zz ti tt .none → LzAt h zz ti tt aa bb ta tb 0 us vs → (∀ b o, b ≠ S → s.heap.get? b = some o → h.get? b = some o) → lstAt h S [] c₁ →
      codeAny (model prog w) A (.builtin "list.extend.loop" ⟨[.ref S, .ref zz, res], []⟩) R { s with heap := h } := fun h c₁ hz hZ hL hk hS1 => by
    obtain ⟨o1, x1, _⟩ := L.it1
    obtain ⟨o2, x2, _⟩ := L.it2
    obtain ⟨x, y, T⟩ : ∃ x y, IsPair s.heap tt x y := by
      rcases L.zip with ⟨_, T⟩ | ⟨_, _, _, Z2, _⟩
      · exact T
      · exact (held_ne Z Z2).elim
    refine lz_loop hh P l1 l2 few S res (lo := s.heap.objs.size) (Heap.lt_size Z) (Heap.lt_size T) (Heap.lt_size x1) (Heap.lt_size x2) (Heap.lt_size hS) n1 n2 n3 n4 n5 n6 n7 len 0 _ [] c₁ (Nat.sub_zero _) rfl (Nat.zero_le _) (Nat.le_of_eq hz.symm) hL (fun gT gf z => (held_ne hZ z).elim) ⟨List.nodup_nil, (fun _ z => (nomatch z)), (fun j T e => by simp at e)⟩ hS1 fun k acc' c' old hl hp hS' => q k acc' c' (fun b o m0 m1 m2 m3 m4 y => old b o m0 m1 m2 m3 m4 (hk b o m0 y)) hl hp hS'
  unfold Builtin.List.listExtendWith
  apply wpAny_bind
  apply wpAny_typeOf (T := "zip") (hT _ Z)
  have h1 : Builtin.List.listSameRef (.ref S) (.ref zz) = false := by simp [Builtin.List.listSameRef, n1]
  rw [h1]
  refine wpAny_ite_split (fun hab => absurd hab (by decide)) fun _ => ?_
  apply wpAny_bind
  apply wpAny_pyIter_zip Z
  apply wpAny_bind
  apply wpAny_holding
  apply lz_hint (hT _ Z)
  refine wpAny_ite_split (fun _ => ?_) (fun hab => absurd rfl hab)
  apply wpAny_bind
  apply wpAny_rule
  apply wpAny_bind
  show wpAny _ _ (updateSeq S (·.push .none) >>= fun _ => updateSeq S (·.pop)) _ _ _
  apply wpAny_bind
  refine wpAny_updateSeq hS rfl ?_
  have hS₂ := Heap.get?_update_self (Obj.mapSeq (·.push Value.none)) hS rfl
  refine wpAny_updateSeq (hz := by seq_fits) hS₂ rfl ?_
  have hS₃ := Heap.get?_update_self (Obj.mapSeq (·.pop)) hS₂ rfl
  have oth : ∀ b o, b ≠ S → s.heap.get? b = some o → ((s.heap.update S (Obj.mapSeq (·.push Value.none))).update S (Obj.mapSeq (·.pop))).get? b = some o := fun b o hb e =>
    (Heap.get?_update_other _ _ (Ne.symm hb)).trans ((Heap.get?_update_other _ _ (Ne.symm hb)).trans e)
  refine wpAny_pure ⟨plainId_quiet F.plain_extend_loop _, key _ _ ?_ (oth _ _ n1.symm Z) (L.keepB (S := S) oth n1 n2 n3 n4 n5 n6 n7 fun gT gf z => (held_ne Z z).elim) oth hS₃⟩
  rw [Heap.size_update, Heap.size_update]
theorem lz_call {Q : Value → Shared → Prop} (hh : A.handled = none) (P : ZipApart zz ti tt aa bb ta tb) {len : Nat} (l1 : us.size = len) (l2 : vs.size = len) (few : len ≤ sizeLine) (Z : IsZip s.heap zz ti tt .none) (L : LzAt s.heap zz ti tt aa bb ta tb 0 us vs)
    (q : ∀ (k : Heap) (acc : List Addr) (c : Nat), (∀ b o, b ≠ zz → b ≠ tt → b ≠ aa → b ≠ bb → s.heap.get? b = some o → k.get? b = some o) → acc.length = len → LzPs k acc us vs (s.heap.objs.size + 1) → lstAt k s.heap.objs.size acc c → Q (.ref s.heap.objs.size) { s with heap := k }) :
    wpAny (model prog w) A (call (.type "list") [.ref zz]) Q E s := by
  obtain ⟨o1, x1, _⟩ := L.it1
  obtain ⟨o2, x2, _⟩ := L.it2
  obtain ⟨o3, x3, _⟩ := L.tu1
  obtain ⟨o4, x4, _⟩ := L.tu2
  obtain ⟨x, y, T⟩ : ∃ x y, IsPair s.heap tt x y := by
    rcases L.zip with ⟨_, T⟩ | ⟨_, _, _, Z2, _⟩
    · exact T
    · exact (held_ne Z Z2).elim
  have ne : ∀ {b : Addr} {o : Obj}, s.heap.get? b = some o → s.heap.objs.size ≠ b := fun e => Nat.ne_of_gt (Heap.lt_size e)
  refine callType_codes (Q₁ := fun obj s₁ => obj = .ref s.heap.objs.size ∧ s₁ = { s with heap := s.heap.push { cls := .type "list", data := .seq #[] } }) PySem.F.called_list (PySem.F.typeCall_list_1 _) PySem.F.entry_list_init
    (code_list_new _ ⟨rfl, rfl⟩) fun obj s₁ h₁ => ?_
  obtain ⟨rfl, rfl⟩ := h₁
  have hS : lstAt (s.heap.push { cls := .type "list", data := .seq #[] }) s.heap.objs.size [] 0 := Heap.get?_push_size _ rfl
  refine ⟨⟨_, hS, rfl⟩, PySem.F.args_list_init_2 _ _, ?_⟩
  show wpAny _ _ (do let old ← Builtin.List.listItems (.ref s.heap.objs.size); Builtin.List.listUpdate (.ref s.heap.objs.size) (fun _ => #[]); letGo old.toList.reverse; Builtin.List.listExtendWith (.ref s.heap.objs.size) (.ref zz) .none) _ _ _
  apply wpAny_bind
  unfold Builtin.List.listItems
  apply wpAny_bind
  refine wpAny_seqItems hS rfl (wpAny_pure ?_)
  apply wpAny_bind
  show wpAny _ _ (updateSeq s.heap.objs.size (fun _ => #[])) _ _ _
  refine wpAny_updateSeq hS rfl ?_
  have hS₂ := Heap.get?_update_self (Obj.mapSeq (fun _ => (#[] : Array Value))) hS rfl
  have oth : ∀ b o, b ≠ s.heap.objs.size → s.heap.get? b = some o → ((s.heap.push { cls := .type "list", data := .seq #[] }).update s.heap.objs.size (Obj.mapSeq (fun _ => (#[] : Array Value)))).get? b = some o :=
    fun b o hb e => (Heap.get?_update_other _ _ (Ne.symm hb)).trans (Heap.get?_push_of_some _ e)
  have oth2 : ∀ b o, s.heap.get? b = some o → ((s.heap.push { cls := .type "list", data := .seq #[] }).update s.heap.objs.size (Obj.mapSeq (fun _ => (#[] : Array Value)))).get? b = some o := fun b o e => oth b o (ne e).symm e
  apply wpAny_bind
  apply wpAny_letGo
  refine lz_extend (A := A.in1) hh P l1 l2 few s.heap.objs.size .none _ (oth2 _ _ Z) (L.keep oth2) hS₂ (ne Z) (ne L.prs) (ne T) (ne x1) (ne x2) (ne x3) (ne x4) fun k acc c old hl hp hS' => ⟨rfl, q k acc c (fun b o m1 m2 m3 m4 e => old b o (ne e).symm m1 m2 m3 m4 (oth2 b o e)) hl ?_ hS'⟩
  have sz : ((s.heap.push { cls := .type "list", data := .seq #[] }).update s.heap.objs.size (Obj.mapSeq (fun _ => (#[] : Array Value)))).objs.size = s.heap.objs.size + 1 := by rw [Heap.size_update, Heap.size_push]
  rw [← sz]
  exact hp
end
end PySem.W
namespace L2
open PySem PySem.Spec PyProof.Rows RZ
/-- objects that stand untracked are tracked: pairs -/
theorem track_pairs {P : Program} {w : World} {k : Heap} {lo : Nat} : ∀ (L : List (Addr × V × V)) (H : Hp), HOk P w H k → (∀ t ∈ L, H t.1 = none ∧ lo ≤ t.1) → (L.map (·.1)).Nodup → (∀ t ∈ L, ∃ u v, RelV t.2.1 u ∧ RelV t.2.2 v ∧ IsPair k t.1 u v) →
    ∃ H', HOk P w H' k ∧ (∀ b o, H b = some o → H' b = some o) ∧ (∀ b, H' b = none ∨ H' b = H b ∨ lo ≤ b) ∧ (∀ b, b ∉ L.map (·.1) → H' b = H b) ∧ ∀ t ∈ L, ∃ o : Obj, H' t.1 = some (.frz o (.tup [t.2.1, t.2.2])) ∧ o.dict = none
  | [], H, ok, _, _, _ => ⟨H, ok, fun _ _ e => e, fun _ => .inr (.inl rfl), fun _ _ => rfl, fun _ z => nomatch z⟩
  | t :: L, H, ok, no, nd, pr => by
    obtain ⟨u, v, ru, rv, e⟩ := pr t List.mem_cons_self
    have hn := (no t List.mem_cons_self).1
    have nd' : t.1 ∉ L.map (·.1) ∧ (L.map (·.1)).Nodup := List.nodup_cons.mp nd
    have ok1 : HOk P w (upd H t.1 (.frz { cls := .type "tuple", data := .seq #[u, v] } (.tup [t.2.1, t.2.2]))) k := ok.laidN (fun _ _ e => e) hn (show ObjOk P w _ k t.1 (.frz _ _) from ⟨e, show ObjOk P w _ k t.1 (.tup [t.2.1, t.2.2]) from ⟨by show 2 ≤ sizeLine; decide, [u, v], .cons ru (.cons rv .nil), ⟨_, e, rfl, _, rfl⟩⟩⟩)
    obtain ⟨H', a1, a2, a3, a4, a5⟩ := track_pairs L _ ok1 (fun t' h' => ⟨by
      rw [upd_ne fun z => nd'.1 (by rw [← z]; exact List.mem_map_of_mem h')]
      exact (no t' (List.mem_cons_of_mem _ h')).1, (no t' (List.mem_cons_of_mem _ h')).2⟩) nd'.2 fun t' h' => pr t' (List.mem_cons_of_mem _ h')
    refine ⟨H', a1, fun b o y => a2 b o (by rw [upd_ne fun z => by rw [z, hn] at y; cases y]; exact y), fun b => ?_, fun b hb => ?_, fun t' h' => ?_⟩
    · by_cases hb : b = t.1
      · exact .inr (.inr (by rw [hb]; exact (no t List.mem_cons_self).2))
      · rcases a3 b with z | z | z
        · exact .inl z
        · exact .inr (.inl (by rw [z, upd_ne hb]))
        · exact .inr (.inr z)
    · rw [List.map_cons, List.mem_cons, not_or] at hb
      rw [a4 b hb.2, upd_ne hb.1]
    · rcases List.mem_cons.mp h' with rfl | h'
      · exact ⟨_, a2 _ _ upd_same, rfl⟩
      · exact a5 t' h'
def rLZ (K : PySem.W.Frag) : List V → Hp → VK → Prop := fun vs H Q => ∃ (a b : Addr) (xs ys : List V), vs = [.ref a, .ref b] ∧ SqT K H a xs ∧ SqT K H b ys ∧ xs.length = ys.length ∧
  ∀ (p : Addr) (ps : List Addr) (H' : Hp), H p = none → (∀ b o, H b = some o → H' b = some o) → H' p = some (.lst (ps.map V.ref)) → ps.length = xs.length → (∀ (j : Nat) (T : Addr), ps[j]? = some T → ∃ x y, xs[j]? = some x ∧ ys[j]? = some y ∧ Dl.SqX H' T [x, y]) → Q (.ref p) H'
def tLZ (K : PySem.W.Frag) (ta : TA) : TE := fun σ H Q => ta σ H fun vs H1 => rLZ K vs H1 Q
theorem pe_listZip {X : Cx} {e e2 : Expr} {ta : TA} {p1 p2 pos2 pos : Pos} (hc : X.calm = true) (hgl : Gl X "list") (hml : X.mg "list" = none) (hgz : Gl X "zip") (hmz : X.mg "zip" = none) (ha : PA X [e, e2] ta)
    (hs : starEach [e, e2] X.env = (false, eval e X.env) :: starEach [e2] X.env := by rfl) (hpl : (backTo pos2 (starEach [e2] X.env)).any (·.1) = false := by rfl)
    (hs0 : starEach [.Call (.Name "zip" p2) [e, e2] [] pos2] X.env = (false, eval (.Call (.Name "zip" p2) [e, e2] [] pos2) X.env) :: starEach [] X.env := by rfl) (hpl0 : (backTo pos (starEach [] X.env)).any (·.1) = false := by rfl) :
    PE X (.Call (.Name "list" p1) [.Call (.Name "zip" p2) [e, e2] [] pos2] [] pos) (tLZ X.K ta) := by
  refine ⟨fun pins s σ H Q I h => ?_⟩
  refine Call_ (ld_blt I hgl hml PyProof.Rows.boot_list (PyProof.Rows.callWith_type1 ?_ hs0 hpl0))
  rw [hs0]
  refine Calls.spliced_cons ?_
  refine Call_ (ld_blt I hgz hmz PyProof.Rows.boot_zip (PyProof.Rows.callWith_type1 (thn (ha.run pos2 pins s σ H _ I h) fun us s1 ⟨vs, H1, I1, r1, q1⟩ => ?_) hs hpl))
  obtain ⟨a, b, xs, ys, ex, hqx, hqy, hxy, q⟩ := q1
  subst ex
  obtain ⟨u1, u2, rfl, r1, r2⟩ := r1.two
  obtain rfl : u1 = Value.ref a := r1
  obtain rfl : u2 = Value.ref b := r2
  obtain ⟨its, rv, t1, hz1⟩ := I1.tuple hqx
  obtain ⟨its2, rv2, t2, hz2⟩ := I1.tuple hqy
  obtain ⟨o1, ho1, _⟩ := id t1
  obtain ⟨o2, ho2, _⟩ := id t2
  have le1 := rv.length
  have le2 := rv2.length
  refine call_zipT (show s1.heap.IsTuple a its.toArray from t1) (show s1.heap.IsTuple b its2.toArray from t2) fun h' hz hTI hTO h1 h2 hsz hk => Calls.spliced_nil ?_
  refine PySem.W.lz_call (len := xs.length) (s := { s1 with heap := h' }) (I1.ok.hd hc) (PySem.W.ktu_apart s1.heap.objs.size a b (Heap.lt_size ho1) (Heap.lt_size ho2)) (us := its.toArray) (vs := its2.toArray) (by rw [List.size_toArray, ← le1]) (by rw [List.size_toArray, ← le2, hxy]) ?_ hz
    ⟨.inl ⟨hz, _, _, hTO⟩, hTI, h1, h2, t1.keeps hk, t2.keeps hk⟩ fun k acc c old hl hp hS => ?_
  · omega
  have k1 : ∀ c o, s1.heap.get? c = some o → k.get? c = some o := fun c o y => by
    have lt := Heap.lt_size y
    exact old c o (Nat.ne_of_lt (Nat.lt_add_right 4 lt)) (Nat.ne_of_lt (Nat.lt_add_right 3 lt)) (Nat.ne_of_lt lt) (Nat.ne_of_lt (Nat.lt_add_right 1 lt)) (hk c o y)
  have accz : ∀ T ∈ acc, s1.heap.objs.size + 6 ≤ T := fun T hT => by
    have := hp.lo T hT
    rw [hsz] at this
    exact this
  have fresh : ∀ c, s1.heap.objs.size ≤ c → H1 c = none := fun c z => I1.hok.fresh z
  obtain ⟨L, hL⟩ : ∃ L : List (Addr × V × V), L = (acc.zip (xs.zip ys)) := ⟨_, rfl⟩
  have Lf : L.map (·.1) = acc := by
    rw [hL]
    exact List.map_fst_zip (by rw [List.length_zip]; omega)
  obtain ⟨H2, ok2, sub2, far2, off2, at2⟩ := track_pairs (P := X.prog) (w := X.w) (k := k) (lo := s1.heap.objs.size + 6) L H1 (I1.hok.kept k1) (fun t ht => by
      have m : t.1 ∈ acc := by rw [← Lf]; exact List.mem_map_of_mem ht
      exact ⟨fresh _ (Nat.le_trans (Nat.le_add_right _ 6) (accz _ m)), accz _ m⟩) (by rw [Lf]; exact hp.nd) (fun t ht => by
      rw [hL] at ht
      obtain ⟨j, hj, e⟩ := List.mem_iff_getElem.mp ht
      rw [List.length_zip, List.length_zip] at hj
      rw [List.getElem_zip, List.getElem_zip] at e
      subst e
      obtain ⟨u, v, e1, e2, e3⟩ := hp.pr j acc[j] (List.getElem?_eq_getElem (by omega))
      obtain ⟨u', f1, g1⟩ := rv.get (List.getElem?_eq_getElem (show j < xs.length by omega))
      obtain ⟨v', f2, g2⟩ := rv2.get (List.getElem?_eq_getElem (show j < ys.length by omega))
      simp at e1 e2
      rw [f1] at e1
      rw [f2] at e2
      cases e1
      cases e2
      exact ⟨_, _, g1, g2, e3⟩)
  have hS5 : H2 h'.objs.size = none := by
    rw [off2 _ (fun z => ?_)]
    · exact fresh _ (by rw [hsz]; exact Nat.le_add_right _ 5)
    · rw [Lf] at z
      have := accz _ z
      rw [hsz] at this
      omega
  have ok3 : HOk X.prog X.w (upd H2 h'.objs.size (.lst (acc.map V.ref))) k := ok2.laidN (fun _ _ y => y) hS5 (show ObjOk X.prog X.w _ _ _ (.lst (acc.map V.ref)) from ⟨by rw [List.length_map, hl]; omega, acc.map Value.ref, c, vals_refs acc, hS⟩)
  have sub3 : ∀ b o, H1 b = some o → upd H2 h'.objs.size (.lst (acc.map V.ref)) b = some o := fun b o y => by
    rw [upd_ne fun z => by rw [z] at y; rw [fresh _ (by rw [hsz]; exact Nat.le_add_right _ 5)] at y; cases y]
    exact sub2 b o y
  have un : Un (frs X.stack) [] H1 (upd H2 h'.objs.size (.lst (acc.map V.ref))) s1.heap k := ⟨fun b o y _ _ _ => k1 b o y, fun b o y _ _ _ => ⟨o.slots, k1 b o y⟩, fun b o y n _ => by
      have lt := Heap.lt_size y
      rw [upd_ne (by rw [hsz]; exact Nat.ne_of_lt (Nat.lt_add_right 5 lt)), off2 b fun z => ?_]
      · exact n
      · rw [Lf] at z
        have := accz _ z
        exact absurd (Nat.lt_of_lt_of_le lt (Nat.le_trans (Nat.le_add_right _ 6) this)) (Nat.lt_irrefl _), fun b o y _ => ⟨o, k1 b o y⟩, fun b xs y => sub3 b _ y, fun b o u y => sub3 b _ y, fun b ps y => ⟨#[], by rw [Array.append_empty]; exact sub3 b _ y⟩⟩
  have I3 : Inv X pins σ (upd H2 h'.objs.size (.lst (acc.map V.ref))) { s1 with heap := k } := I1.call (s := s1) (ch := []) (d' := s1.drawn) (t' := s1.toks) (g' := s1.gens) un ok3 I1.bare (fun _ z => nomatch z)
  refine ⟨.ref h'.objs.size, upd H2 h'.objs.size (.lst (acc.map V.ref)), I3, rfl, q _ acc _ (fresh _ (by rw [hsz]; exact Nat.le_add_right _ 5)) sub3 upd_same hl fun j T e => ?_⟩
  have hj : j < acc.length := (List.getElem?_eq_some_iff.mp e).1
  have mt : (T, xs[j]'(by omega), ys[j]'(by omega)) ∈ L := by
    rw [hL, List.mem_iff_getElem]
    refine ⟨j, by rw [List.length_zip, List.length_zip]; omega, ?_⟩
    rw [List.getElem_zip, List.getElem_zip]
    rw [List.getElem?_eq_getElem hj] at e
    cases e
    rfl
  obtain ⟨o, e1, e2⟩ := at2 _ mt
  refine ⟨xs[j]'(by omega), ys[j]'(by omega), List.getElem?_eq_getElem _, List.getElem?_eq_getElem _, o, ?_, e2⟩
  rw [upd_ne fun z => by
    have := accz T (List.mem_of_getElem? e)
    rw [z, hsz] at this
    omega]
  exact e1
end L2
namespace Dl
open L2 PySem PySem.Spec PyProof.Rows
section
variable {X : Cx} {W : Wd} {H0 : Hp} {E : XK} {pos p p2 pos2 : Pos} {a b : Expr} {ms : DE → M (List D)}
def pairsT (xs ys : List D) : List D := (xs.zip ys).map fun z => D.tup [z.1, z.2]
@[simp] def lzM : List D → M (List D)
  | [.tup xs, .tup ys] => do M.need (xs.length = ys.length); pure (pairsT xs ys)
  | _ => M.fail
theorem pairs_rep {K : PySem.W.Frag} {H : Hp} : ∀ (xs ys : List D) (us ws : List V) (ps : List Addr), RepL K H xs us → RepL K H ys ws → us.length = ws.length → ps.length = us.length →
    (∀ (j : Nat) (T : Addr), ps[j]? = some T → ∃ x y, us[j]? = some x ∧ ws[j]? = some y ∧ SqX H T [x, y]) → RepL K H (pairsT xs ys) (ps.map V.ref)
  | [], ys, us, ws, ps, r1, r2, l1, l2, h => by
    simp only [RepL] at r1
    subst r1
    have e : ps = [] := List.length_eq_zero_iff.mp l2
    subst e
    rfl
  | x :: xs, [], us, ws, ps, r1, r2, l1, l2, h => by
    simp only [RepL] at r1 r2
    obtain ⟨v, us', rfl, _, _⟩ := r1
    subst r2
    cases l1
  | x :: xs, y :: ys, us, ws, ps, r1, r2, l1, l2, h => by
    simp only [RepL] at r1 r2
    obtain ⟨v, us', rfl, rv, r1'⟩ := r1
    obtain ⟨u, ws', rfl, ru, r2'⟩ := r2
    match ps, l2, h with
    | T :: ps, l2, h =>
      obtain ⟨x', y', e1, e2, sq⟩ := h 0 T rfl
      simp at e1 e2
      subst e1 e2
      have ih := pairs_rep xs ys us' ws' ps r1' r2' (by simpa using l1) (by simpa using l2) fun j T' e => h (j + 1) T' e
      show RepL K H (D.tup [x, y] :: pairsT xs ys) (V.ref T :: ps.map V.ref)
      simp only [RepL]
      refine ⟨_, _, rfl, ?_, ih⟩
      simp only [Rep, RepL]
      exact ⟨T, _, rfl, sq, v, _, rfl, rv, u, _, rfl, ru, rfl⟩
/-- list(zip(t, u)), a new list -/
theorem do_listZip (hK : X.K = W.K) (hc : X.calm = true) (hml : X.mg "list" = none) (hmz : X.mg "zip" = none) (ha : PA X [a, b] (liftA W H0 E ms)) (hgl : Gl X "list" := by rfl) (hgz : Gl X "zip" := by rfl)
    (hs : starEach [a, b] X.env = (false, eval a X.env) :: starEach [b] X.env := by rfl) (hpl : (backTo pos2 (starEach [b] X.env)).any (·.1) = false := by rfl)
    (hs0 : starEach [.Call (.Name "zip" p2) [a, b] [] pos2] X.env = (false, eval (.Call (.Name "zip" p2) [a, b] [] pos2) X.env) :: starEach [] X.env := by rfl) :
    PE X (.Call (.Name "list" p) [.Call (.Name "zip" p2) [a, b] [] pos2] [] pos) (liftO W H0 E fun e => do let ds ← ms e; lzM ds) :=
  PE.imp (pe_listZip hc hgl hml hgz hmz ha hs hpl hs0) fun σ H Q ⟨e, s0, k0, _, g, q⟩ => ⟨e, s0, k0, _, g, (ms e).mono (fun ds _ z vs H1 k1 g1 r1 => by
    match ds, z, r1 with
    | [.tup xs, .tup ys], z, r1 =>
      obtain ⟨zl, z⟩ := z
      simp only [RepL, Rep] at r1
      obtain ⟨v, _, rfl, ⟨c, us, rfl, s1, t1⟩, w, _, rfl, ⟨d, ws, rfl, s2, t2⟩, rfl⟩ := r1
      have l1 := t1.len
      have l2 := t2.len
      refine ⟨c, d, us, ws, rfl, by rw [hK]; exact s1.sq, by rw [hK]; exact s2.sq, by omega, fun q ps H' hq sub at_ pl pr => ?_⟩
      have k2 : Keep W H1 H' := fun b o h _ => sub b o h
      have g2 : W.G _ H' := W.gK _ H1 H' g1 fun b o _ h => sub b o h
      exact z q _ H' (k1.freed hq g g1) (k1.trans k2) g2 at_ (pairs_rep xs ys us ws ps (t1.keep g1 k2) (t2.keep g1 k2) (by omega) pl pr) (nS g1 hq)) (fun _ _ z => z) q⟩
end
end Dl

set_option maxRecDepth 100000
set_option maxHeartbeats 4100000
/-! dicts of ints: dict(pairs), dict(d), d.update(e), d.get(k, c) of a locked one -/
namespace L2
open PySem PySem.Spec PyProof.Rows
section
variable {X : Cx}
def rDUpd : V → List V → Hp → VK → Prop := fun x vs H Q => ∃ (a b : Addr) (kvs more : List (Key × V)), x = .ref a ∧ vs = [.ref b] ∧ H a = some (.dK kvs) ∧ Rd H b (.dK more) ∧ a ≠ b ∧ kvs.length + more.length ≤ sizeLine ∧ Q .non (upd H a (.dK (mergeK kvs more)))
theorem mtd_update : MtR X "dict.update" rDUpd := by
  intro pins s σ H x vs v us Q I rx rv h
  obtain ⟨a, b, kvs, more, rfl, rfl, ha, hb, ne, hz, q⟩ := h
  obtain rfl : v = Value.ref a := rx
  obtain ⟨u, rfl, ru⟩ := vals1 rv
  obtain rfl : u = Value.ref b := ru
  obtain ⟨za, la, xs, ra, da⟩ := dk_of I.hok ha
  obtain ⟨zb, lb, ys, rb, db⟩ := dk_rd I.hok hb
  have e1 := ra.length
  have e2 := rb.length
  refine call_meetsIn PySem.F.slot_dict_update da.typeIs PySem.F.entry_dict_update (PySem.F.args_dict_update_2 _ _) (meets_dict_update (mixKind X.prog X.w) a b ne lb) ⟨xs, ys, da, db, by omega, fun h' d1 d2 hs => ?_⟩
  have he : ∃ q, h'.get? a = some q := let ⟨q, _, _, hq, _⟩ := d1; ⟨q, hq⟩
  have hl : (mergeK kvs more).length ≤ sizeLine := Nat.le_trans (length_mergeK more kvs) hz
  exact ⟨.non, _, d_write (t' := s.toks) I (by rw [ha]; exact True.intro) hs he (dk_new hl la (KV.merge rb ra) d1), rfl, q⟩
end
end L2
namespace Dl
open L2 PySem PySem.Spec PyProof.Rows
def mergeI (kvs more : List (Int × Int)) : List (Int × Int) := more.foldl (fun acc p => putI acc p.1 p.2) kvs
theorem kvI_merge : ∀ (more kvs : List (Int × Int)), mergeK (kvI kvs) (kvI more) = kvI (mergeI kvs more)
  | [], kvs => rfl
  | p :: more, kvs => by
    show mergeK (putK (kvI kvs) (Sum.inl p.1) (V.int p.2)) (kvI more) = kvI (mergeI (putI kvs p.1 p.2) more)
    rw [kvI_put]
    exact kvI_merge more _
theorem kvI_len (kvs : List (Int × Int)) : (kvI kvs).length = kvs.length := by unfold kvI; rw [List.length_map]
def pairsI : List D → Option (List (Int × Int))
  | [] => some []
  | .tup [.int a, .int b] :: xs => (pairsI xs).map fun r => (a, b) :: r
  | _ :: _ => none
theorem pairsI_map : ∀ L : List (Int × Int), pairsI (L.map fun p => D.tup [.int p.1, .int p.2]) = some L
  | [] => rfl
  | p :: L => by simp only [List.map_cons, pairsI, pairsI_map L, Option.map_some]
theorem pairsI_eq : ∀ {xs : List D} {L : List (Int × Int)}, pairsI xs = some L → xs = L.map fun p => D.tup [.int p.1, .int p.2]
  | [], L, h => by cases h; rfl
  | x :: xs, L, h => by
    unfold pairsI at h
    split at h
    · rename_i z
      cases z
    · rename_i a b xs' z
      cases z
      obtain ⟨r, hr, rfl⟩ := Option.map_eq_some_iff.mp h
      rw [List.map_cons, ← pairsI_eq hr]
    · cases h
theorem pairs_refs {K : PySem.W.Frag} {H : Hp} : ∀ (L : List (Int × Int)) (vs : List V), RepL K H (L.map fun p => D.tup [.int p.1, .int p.2]) vs → ∃ ps : List Addr, vs = ps.map V.ref ∧ Paired (fun p kv => SqT K H p [kV kv.1, kv.2]) ps (kvI L)
  | [], vs, h => by
    simp only [List.map_nil, RepL] at h
    subst h
    exact ⟨[], rfl, .nil⟩
  | p :: L, vs, h => by
    simp only [List.map_cons, RepL, Rep] at h
    obtain ⟨v, ws, rfl, ⟨a, us, rfl, sq, u1, w1, rfl, rfl, u2, w2, rfl, rfl, rfl⟩, r⟩ := h
    obtain ⟨ps, rfl, hp⟩ := pairs_refs L ws r
    exact ⟨a :: ps, rfl, .cons sq.sq hp⟩
section
variable {X : Cx} {W : Wd} {H0 : Hp} {E : XK} {pos p pos' apos cpos dpos : Pos} {a b o c : Expr} {ma mb mo : DE → M D}
/-- {} as a dict of ints -/
theorem dp_dii0 : PE X (.Dict [] [] pos) (lift W H0 E fun _ => pure (.dii [])) :=
  PE.imp (pe_lockV pe_dnewK) fun σ H Q ⟨e, s0, k0, _, g, q⟩ => fun b hb => ⟨b, .dK [], rfl, upd_same, True.intro, fun o => q _ _ (by rw [upd_upd]; exact Keep.new hb) (by rw [upd_upd]; exact gnew g hb) (by
    simp only [Rep]
    exact ⟨b, o, rfl, upd_same⟩)⟩
/-- dict(pairs), locked -/
@[simp] def dictP : D → M D
  | .lst xs => match pairsI xs with
    | some L => pure (.dii (mergeI [] L))
    | none => M.fail
  | _ => M.fail
theorem dp_dictP (hK : X.K = W.K) (hc : X.calm = true) (hm : X.mg "dict" = none) (ha : PE X a (lift1 W H0 E ma)) (hg : Gl X "dict" := by rfl) (he : starEach [a] X.env = (false, eval a X.env) :: starEach [] X.env := by rfl) :
    PE X (.Call (.Name "dict" p) [a] [] pos) (lift W H0 E fun e => do let x ← ma e; dictP x) :=
  PE.imp (pe_lockV (pe_callTy (call_dictP hc) hg hm (by decide +kernel) (pa_cons ha pa_nil he) (he := he))) fun σ H Q ⟨e, s0, k0, _, g, q⟩ => ⟨e, s0, k0, _, g, (ma e).mono (fun d _ z v H1 k1 g1 r1 => by
    cases d <;> first | exact z.elim | skip
    rename_i xs
    change (dictP (.lst xs)).run _ _ _ at z
    cases hL : pairsI xs with
    | none =>
      rw [show dictP (.lst xs) = M.fail by simp [dictP, hL]] at z
      exact z.elim
    | some L =>
      rw [show dictP (.lst xs) = pure (.dii (mergeI [] L)) by simp [dictP, hL]] at z
      have ex := pairsI_eq hL
      subst ex
      obtain ⟨l, vs, rfl, sq, rl⟩ := r1.sq
      obtain ⟨ps, rfl, hp⟩ := pairs_refs L vs rl
      refine ⟨l, ps, kvI L, rfl, by rw [hK]; exact sq, by rw [hK]; exact hp, fun q0 hq => ⟨q0, _, rfl, upd_same, True.intro, fun o => ?_⟩⟩
      have e0 : mergeK [] (kvI L) = kvI (mergeI [] L) := kvI_merge L []
      refine z _ _ (by rw [upd_upd]; exact k1.trans (Keep.new hq)) (by rw [upd_upd]; exact gnew g1 hq) ?_
      rw [e0]
      simp only [Rep]
      exact ⟨q0, o, rfl, upd_same⟩) (fun _ _ z => z) q⟩
/-- x = dict(d), one's own -/
@[simp] def dictC : D → M (List (Int × Int))
  | .dii kvs => pure kvs
  | _ => M.fail
theorem ds_setD (i : Nat) {x : Str} {p' : Pos} (hN : X.N.Nodup) (hi : X.N[i]? = some x) (hm : X.mg "dict" = none) (ha : PE X a (lift1 W H0 E ma)) (hl : Loc X.env.scope x := by first | exact Or.inl rfl | exact Or.inr rfl) (hg : Gl X "dict" := by rfl) (he : starEach [a] X.env = (false, eval a X.env) :: starEach [] X.env := by rfl)
    (hw : swapsWith (.Call (.Name "dict" p') [a] [] dpos) (some (.Name x p)) pos.line X.env = pure false := by rfl)
    (hf : X.fn x = true ∨ X.env.scope.names.lookup x = some NameKind.local := by first | exact Or.inr rfl | exact Or.inl rfl) :
    PS X (.Assign [.Name x p] (.Call (.Name "dict" p') [a] [] dpos) pos) (liftS W H0 E fun e => do let d ← ma e; let kvs ← dictC d; pure (.nx (e.set i (some (.ow (.dii kvs)))))) :=
  PS.imp (ps_set hN hi hl (pe_callTy call_dictD hg hm (by decide +kernel) (pa_cons ha pa_nil he) (he := he)) hw hf) fun Dn σ H ⟨e, s, k0, _, g, q⟩ => ⟨e, s, k0, _, g, (ma e).mono (fun d _ z v H1 k1 g1 r1 => by
    cases d <;> first | exact z.elim | skip
    rename_i kvs
    simp only [Rep1, Rep] at r1
    obtain ⟨l, o, rfl, hl'⟩ := r1
    have s1 := s.keep g k1
    have k01 := k0.trans k1
    refine ⟨l, kvI kvs, rfl, .inr ⟨o, hl'⟩, fun q0 hq => z _ _ ((s1.keep g1 (Keep.new hq)).setow upd_same (by exact rfl) ?_ (nS g1 hq) fun j ys _ q1 q2 => s1.newne hq j ys q1 q2) (k01.trans (Keep.new hq)) ((k1.toF g).trans ((Keep.new (W := W) hq).toF g1)) (gnew g1 hq)⟩
    cases h : H0 q0 with
    | none => rfl
    | some u =>
      by_cases hS : W.S q0
      · exact absurd hS (nS g1 hq)
      · rw [k01 q0 u h hS] at hq; cases hq) (fun _ _ z => z) q⟩
/-- x.update(d), x one's own -/
@[simp] def updM (i : Nat) (ma : DE → M D) : DE → M R := fun e => match (e[i]? : Option (Option SD)) with
  | some (some (.ow (.dii kvs))) => do
    let v ← ma e
    match v with
    | .dii more => do M.need (kvs.length + more.length ≤ sizeLine); pure (.nx (e.set i (some (.ow (.dii (mergeI kvs more))))))
    | _ => M.fail
  | _ => M.fail
theorem ds_dupd (i : Nat) {x : Str} (h : PE X a (lift W H0 E ma)) (hN : X.N[i]? = some x := by rfl) (hv : Vis X.env.scope x := by first | exact Or.inl rfl | exact Or.inr (Or.inl rfl) | exact Or.inr (Or.inr rfl)) (hd : (x == ("__debug__" : Str)) = false := by decide)
    (hcd : (x == ("__classdict__" : Str)) = false := by decide) (hw : swapsWith (.Call (.Attribute (.Name x p) "update" apos) [a] [] cpos) none pos.line X.env = pure false := by rfl)
    (hbase : attributeBase (.Name x p) "update" X.env (eval (.Name x p) X.env) = eval (.Name x p) X.env := by rfl)
    (hfew : ((backTo cpos (starEach [a] X.env)).all (fun x => !x.1) && (backToKw cpos (keywordEach [] X.env)).all (fun x => x.1.isSome)
      && decide ([a].length + ([] : List Keyword).length + (if ([] : List Keyword).isEmpty then 0 else 1) < 30)) = true := by rfl)
    (hline : (apos.endLine == cpos.line) = true := by rfl) (hs : starEach [a] X.env = (false, eval a X.env) :: starEach [] X.env := by rfl) :
    PS X (.Expr (.Call (.Attribute (.Name x p) "update" apos) [a] [] cpos) pos) (liftS W H0 E (updM i ma)) := by
  refine PS.imp (ps_expr (pe_bm PySem.F.plainAttrs_dict PySem.F.slot_dict_update PySem.F.type_dict_update mtd_update (pe_var hN hv hd hcd) (pa_cons h pa_nil hs) hbase hfew hline hs (by rfl)) hw) fun Dn σ H ⟨e, s, k0, _, g, q⟩ => ?_
  unfold updM at q
  split at q
  · rename_i kvs hx
    obtain ⟨l, e1, e2, e4, e5⟩ := s.dic i kvs hx
    refine ⟨_, e1, ?_, e, s, k0, _, g, (ma e).mono (fun d _ z v H1 k1 g1 r1 => ?_) (fun _ _ z => z) q⟩
    · exact .inr (.inr (.inl ⟨rfl, .inl ⟨_, e2⟩⟩))
    cases d <;> first | exact z.elim | skip
    rename_i more
    obtain ⟨z1, z2⟩ := z
    simp only [Rep] at r1
    obtain ⟨b, ob, rfl, hb⟩ := r1
    have at2 := k1 l _ e2 e5
    have kf : KeepF H1 (L2.upd H1 l (.dK (kvI (mergeI kvs more)))) := kf_mut at2 ⟨fun _ z => (nomatch z), fun _ _ z => (nomatch z)⟩
    refine ⟨l, b, kvI kvs, kvI more, rfl, rfl, at2, .inr ⟨ob, hb⟩, fun z => ?_, by rw [kvI_len, kvI_len]; exact z1, ?_⟩
    · rw [z, hb] at at2
      cases at2
    · rw [kvI_merge]
      exact z2 σ _ ((s.keep g k1).updo hx e1 at2 (by exact rfl) e4 e5 (by exact rfl)) (keep_own (k0.trans k1) e4) ((k1.toF g).trans kf) (g_ownM g1 e5 at2 fx_dK)
  · exact q.elim
/-- d.get(k, c), d locked -/
@[simp] def getDM (kvs : List (Int × Int)) : D → D → M D
  | .int k, .int c => pure (.int ((getI kvs k).getD c))
  | _, _ => M.fail
@[simp] def getDD (ma mb : DE → M D) (e : DE) : D → M D
  | .dii kvs => do let y ← ma e; let z ← mb e; getDM kvs y z
  | _ => M.fail
theorem dp_getD {cpos : Pos} (hu : X.A.units + 100 < cLine) (ho : PE X o (lift1 W H0 E mo)) (ha : PE X a (lift W H0 E ma)) (hb : PE X b (lift W H0 E mb)) (m : M2 X o "get" apos a b cpos := by exact ⟨rfl, rfl, rfl, rfl⟩) :
    PE X (.Call (.Attribute o "get" apos) [a, b] [] cpos) (lift W H0 E fun e => do let x ← mo e; getDD ma mb e x) :=
  PE.imp (pe_dget2 (by omega) ho ha hb m) fun σ H Q ⟨e, s, k0, _, g, q⟩ => ⟨e, s, k0, _, g, (mo e).mono (fun dx _ z v H1 k1 g1 r1 => by
    have s1 := s.keep g k1
    cases dx <;> first | exact z.elim | skip
    rename_i kvs
    simp only [Rep1, Rep] at r1
    obtain ⟨l, ob, rfl, hl⟩ := r1
    refine ⟨l, rfl, .inl ⟨_, .inr ⟨ob, hl⟩⟩, e, s1, k0.trans k1, _, g1, (ma e).mono (fun y _ z v H2 k2 g2 r2 => ⟨e, s1.keep g1 k2, (k0.trans k1).trans k2, _, g2, (mb e).mono (fun d _ z2 u H3 k3 g3 r3 => ?_) (fun _ _ z => z) z⟩) (fun _ _ z => z) z⟩
    cases y <;> first | exact z2.elim | skip
    cases d <;> first | exact z2.elim | skip
    rename_i k c
    have z2 : ∀ v H', Keep W H H' → _ → Rep W.K H' (.int ((getI kvs k).getD c)) v → Q v H' := z2
    have r2' := r2.keep g2 k3
    simp only [Rep] at r2' r3
    subst r2' r3
    have at3 := (k2.trans k3).rd g1 (.inr ⟨_, _, rfl⟩) hl
    refine ⟨_, .inl ⟨_, Sum.inl k, .inr ⟨ob, at3⟩, rfl, rfl⟩, ?_⟩
    rw [kvI_get]
    refine z2 _ H3 ((k1.trans k2).trans k3) g3 ?_
    simp only [Rep]
    cases getI kvs k <;> rfl) (fun _ _ z => z) q⟩
end
end Dl

set_option maxRecDepth 100000
set_option maxHeartbeats 4100000
/-! joining table by table: dicts from attributes to numbers -/
namespace Dl
open L2 PySem PySem.Spec PyProof.Rows
theorem getI_cons {p : Int × Int} {kvs : List (Int × Int)} {a : Int} : getI (p :: kvs) a = if p.1 = a then some p.2 else getI kvs a := by
  unfold getI
  rw [List.find?_cons]
  by_cases h : p.1 = a <;> simp [h]
theorem getI_merge : ∀ (more kvs : List (Int × Int)) (a : Int), (more.map (·.1)).Nodup → getI (mergeI kvs more) a = (getI more a).or (getI kvs a)
  | [], kvs, a, _ => by
    show getI kvs a = (getI [] a).or _
    rfl
  | p :: more, kvs, a, h => by
    obtain ⟨h1, h2⟩ := List.nodup_cons.mp h
    show getI (mergeI (putI kvs p.1 p.2) more) a = _
    rw [getI_merge more _ a h2, getI_put, getI_cons]
    by_cases e : p.1 = a
    · subst e
      rw [getI_none.mpr h1]
      simp
    · rw [if_neg e, if_neg fun z => e z.symm]
theorem merge_fresh : ∀ (more kvs : List (Int × Int)), (kvs.map (·.1) ++ more.map (·.1)).Nodup → mergeI kvs more = kvs ++ more
  | [], kvs, _ => by rw [List.append_nil]; rfl
  | p :: more, kvs, h => by
    have hp : p.1 ∉ kvs.map (·.1) := fun z => by
      have := (List.nodup_append.mp h).2.2 _ z p.1 (by simp)
      exact this rfl
    have e : putI kvs p.1 p.2 = kvs ++ [p] := by
      unfold putI
      rw [if_neg fun z => hp (any_key.mp z)]
    show mergeI (putI kvs p.1 p.2) more = _
    rw [e, merge_fresh more (kvs ++ [p]) (by simpa using h)]
    simp
theorem merge_len : ∀ (more kvs : List (Int × Int)), (mergeI kvs more).length ≤ kvs.length + more.length
  | [], kvs => Nat.le_refl _
  | p :: more, kvs => by
    have h1 := merge_len more (putI kvs p.1 p.2)
    have h2 := put_len (k := p.1) (v := p.2) (kvs := kvs)
    show (mergeI (putI kvs p.1 p.2) more).length ≤ _
    rw [List.length_cons]
    omega
theorem getI_zip : ∀ {r w : List Int} {a : Int}, w.length = r.length → getI (r.zip w) a = if a ∈ r then some (w.getD (r.idxOf a) 0) else none
  | [], [], a, _ => by simp [getI]
  | [], _ :: _, _, h => by cases h
  | _ :: _, [], _, h => by cases h
  | x :: r, y :: w, a, h => by
    rw [List.zip_cons_cons, getI_cons, getI_zip (by simpa using h)]
    by_cases e : x = a
    · subst e
      simp
    · have e' : ¬ a = x := fun z => e z.symm
      simp [e, e', List.idxOf_cons, beq_false_of_ne e]
/-- the pairs go with a dict -/
def fits (r w : List Int) (kvs : List (Int × Int)) : Bool := (r.zip w).all fun p => decide ((getI kvs p.1).getD p.2 = p.2)
/-- a dict with the pairs put in -/
def joinI (r w : List Int) (kvs : List (Int × Int)) : List (Int × Int) := mergeI kvs (mergeI [] (r.zip w))
def joinL (r : List Int) (t : List (List Int)) (L : List (List (Int × Int))) : List (List (Int × Int)) := L.flatMap fun kvs => (t.filter fun w => fits r w kvs).map fun w => joinI r w kvs
theorem zip_keys {r w : List Int} (h : w.length = r.length) : (r.zip w).map (·.1) = r := List.map_fst_zip (by omega)
theorem getI_join {r w : List Int} {kvs : List (Int × Int)} (nd : r.Nodup) (h : w.length = r.length) (a : Int) : getI (joinI r w kvs) a = if a ∈ r then some (w.getD (r.idxOf a) 0) else getI kvs a := by
  unfold joinI
  have k := zip_keys h
  rw [merge_fresh (r.zip w) [] (by rw [k]; simpa using nd), List.nil_append, getI_merge _ _ _ (by rw [k]; exact nd), getI_zip h]
  split <;> rfl
theorem fits_iff {r w : List Int} {kvs : List (Int × Int)} (nd : r.Nodup) (h : w.length = r.length) : fits r w kvs = true ↔ ∀ a ∈ r, ∀ v, getI kvs a = some v → v = w.getD (r.idxOf a) 0 := by
  unfold fits
  rw [List.all_eq_true]
  constructor
  · intro f a ha v e
    have ix := List.idxOf_lt_length_of_mem ha
    have := f (a, w.getD (r.idxOf a) 0) (by
      rw [List.mem_iff_getElem]
      refine ⟨r.idxOf a, by rw [List.length_zip]; omega, ?_⟩
      rw [List.getElem_zip, List.getElem_idxOf, List.getD_eq_getElem?_getD, List.getElem?_eq_getElem (by omega)]
      rfl)
    rw [decide_eq_true_iff, e] at this
    exact this
  · intro f p hp
    rw [decide_eq_true_iff]
    have hr := (List.of_mem_zip hp).1
    cases e : getI kvs p.1 with
    | none => rfl
    | some v =>
      have := f p.1 hr v e
      obtain ⟨j, hj, ej⟩ := List.mem_iff_getElem.mp hp
      rw [List.length_zip] at hj
      rw [List.getElem_zip] at ej
      subst ej
      rw [this]
      simp only at e ⊢
      have ix : r.idxOf r[j] = j := List.Nodup.idxOf_getElem nd j (by omega)
      rw [ix, List.getD_eq_getElem?_getD, List.getElem?_eq_getElem (by omega)]
      rfl
def valI (kvs : List (Int × Int)) (a : Int) : Int := (getI kvs a).getD 0
abbrev AtP := List Int × List (List Int)
structure LineOk (ps : List AtP) (L : List (List (Int × Int))) : Prop where
  key : ∀ kvs ∈ L, ∀ a, (getI kvs a).isSome = true ↔ ∃ p ∈ ps, a ∈ p.1
  sat : ∀ kvs ∈ L, ∀ p ∈ ps, p.1.map (valI kvs) ∈ p.2
  all : ∀ f : Int → Int, (∀ p ∈ ps, p.1.map f ∈ p.2) → ∃ kvs ∈ L, ∀ p ∈ ps, ∀ a ∈ p.1, getI kvs a = some (f a)
  inj : L.Pairwise fun k l => ∃ p ∈ ps, ∃ a ∈ p.1, getI k a ≠ getI l a
  len : L.length ≤ bdM (ps.map fun p => ⟨p.1, p.2, false⟩)
  few : ∀ kvs ∈ L, kvs.length ≤ 8 * ps.length
theorem LineOk.nil : LineOk [] [[]] where
  key kvs h a := by
    rw [List.mem_singleton.mp h]
    simp [getI]
  sat _ _ p hp := nomatch hp
  all f _ := ⟨[], by simp, fun p hp => nomatch hp⟩
  inj := List.pairwise_singleton _ _
  len := Nat.le_refl _
  few kvs h := by rw [List.mem_singleton.mp h]; exact Nat.zero_le _
theorem LineOk.step {ps : List AtP} {L : List (List (Int × Int))} (O : LineOk ps L) {r : List Int} {t : List (List Int)} (nd : r.Nodup) (r8 : r.length ≤ 8) (tn : t.Nodup) (hw : ∀ w ∈ t, w.length = r.length) : LineOk (ps ++ [(r, t)]) (joinL r t L) := by
  have mem : ∀ K, K ∈ joinL r t L ↔ ∃ kvs ∈ L, ∃ w ∈ t, fits r w kvs = true ∧ joinI r w kvs = K := fun K => by
    unfold joinL
    rw [List.mem_flatMap]
    constructor
    · rintro ⟨kvs, hk, h⟩
      obtain ⟨w, h1, h2⟩ := List.mem_map.mp h
      obtain ⟨h3, h4⟩ := List.mem_filter.mp h1
      exact ⟨kvs, hk, w, h3, h4, h2⟩
    · rintro ⟨kvs, hk, w, h3, h4, h2⟩
      exact ⟨kvs, hk, List.mem_map.mpr ⟨w, List.mem_filter.mpr ⟨h3, h4⟩, h2⟩⟩
  have old : ∀ {kvs w}, kvs ∈ L → w ∈ t → fits r w kvs = true → ∀ p ∈ ps, ∀ a ∈ p.1, getI (joinI r w kvs) a = getI kvs a := fun {kvs w} hk ht hf p hp a ha => by
    rw [getI_join nd (hw w ht)]
    split
    · rename_i har
      obtain ⟨v, hv⟩ := Option.isSome_iff_exists.mp ((O.key kvs hk a).mpr ⟨p, hp, ha⟩)
      rw [hv, (fits_iff nd (hw w ht)).mp hf a har v hv]
    · rfl
  have new : ∀ {kvs w}, w ∈ t → r.map (valI (joinI r w kvs)) = w := fun {kvs w} ht => by
    have hl := hw w ht
    refine List.ext_getElem (by rw [List.length_map, hl]) fun i h1 h2 => ?_
    rw [List.length_map] at h1
    rw [List.getElem_map]
    unfold valI
    rw [getI_join nd hl, if_pos (List.getElem_mem h1), List.Nodup.idxOf_getElem nd i h1, List.getD_eq_getElem?_getD, List.getElem?_eq_getElem h2]
    rfl
  refine ⟨fun K hK a => ?_, fun K hK p hp => ?_, fun f hf => ?_, ?_, ?_, fun K hK => ?_⟩
  · obtain ⟨kvs, hk, w, ht, hf, rfl⟩ := (mem K).mp hK
    rw [getI_join nd (hw w ht)]
    constructor
    · intro h
      split at h
      · rename_i har
        exact ⟨_, List.mem_append_right _ (List.mem_singleton_self _), har⟩
      · obtain ⟨p, hp, ha⟩ := (O.key kvs hk a).mp h
        exact ⟨p, List.mem_append_left _ hp, ha⟩
    · rintro ⟨p, hp, ha⟩
      split
      · rfl
      · rename_i har
        rcases List.mem_append.mp hp with hp | hp
        · exact (O.key kvs hk a).mpr ⟨p, hp, ha⟩
        · rw [List.mem_singleton.mp hp] at ha
          exact absurd ha har
  · obtain ⟨kvs, hk, w, ht, hf, rfl⟩ := (mem K).mp hK
    rcases List.mem_append.mp hp with hp | hp
    · have e : p.1.map (valI (joinI r w kvs)) = p.1.map (valI kvs) := List.map_congr_left fun a ha => by
        unfold valI
        rw [old hk ht hf p hp a ha]
      rw [e]
      exact O.sat kvs hk p hp
    · rw [List.mem_singleton.mp hp]
      simp only
      rw [new ht]
      exact ht
  · obtain ⟨kvs, hk, h⟩ := O.all f fun p hp => hf p (List.mem_append_left _ hp)
    have ht := hf (r, t) (List.mem_append_right _ (List.mem_singleton_self _))
    simp only at ht
    have wat : ∀ a ∈ r, (r.map f).getD (r.idxOf a) 0 = f a := fun a ha => by
      rw [List.getD_eq_getElem?_getD, List.getElem?_map, List.getElem?_eq_getElem (List.idxOf_lt_length_of_mem ha), List.getElem_idxOf]
      rfl
    have hfit : fits r (r.map f) kvs = true := (fits_iff nd (List.length_map ..)).mpr fun a ha v hv => by
      rw [wat a ha]
      obtain ⟨p, hp, hap⟩ := (O.key kvs hk a).mp (by rw [hv]; rfl)
      rw [h p hp a hap] at hv
      exact (Option.some.inj hv).symm
    refine ⟨joinI r (r.map f) kvs, (mem _).mpr ⟨kvs, hk, _, ht, hfit, rfl⟩, fun p hp a ha => ?_⟩
    rcases List.mem_append.mp hp with hp | hp
    · rw [old hk ht hfit p hp a ha]
      exact h p hp a ha
    · rw [List.mem_singleton.mp hp] at ha
      rw [getI_join nd (List.length_map ..), if_pos ha, wat a ha]
  · unfold joinL
    rw [List.pairwise_flatMap]
    refine ⟨fun kvs hk => ?_, List.Pairwise.imp_of_mem (fun {k l} hk hl h K hK M hM => ?_) O.inj⟩
    · rw [List.pairwise_map]
      have tp : (t.filter fun w => fits r w kvs).Pairwise (fun a b => a ≠ b) := tn.filter _
      refine List.Pairwise.imp_of_mem (fun {w v} hw1 hv1 ne => ?_) tp
      refine Classical.byContradiction fun no => ne ?_
      have h1 := new (kvs := kvs) (List.mem_filter.mp hw1).1
      have h2 := new (kvs := kvs) (List.mem_filter.mp hv1).1
      rw [← h1, ← h2]
      refine List.map_congr_left fun a ha => ?_
      unfold valI
      refine congrArg (fun o => Option.getD o 0) (Classical.byContradiction fun d => no ⟨(r, t), List.mem_append_right _ (List.mem_singleton_self _), a, ha, d⟩)
    · obtain ⟨w, h1, rfl⟩ := List.mem_map.mp hK
      obtain ⟨v, h2, rfl⟩ := List.mem_map.mp hM
      obtain ⟨w1, w2⟩ := List.mem_filter.mp h1
      obtain ⟨v1, v2⟩ := List.mem_filter.mp h2
      obtain ⟨p, hp, a, ha, d⟩ := h
      refine ⟨p, List.mem_append_left _ hp, a, ha, ?_⟩
      rw [old hk w1 w2 p hp a ha, old hl v1 v2 p hp a ha]
      exact d
  · rw [List.map_append, bdM_append]
    have e : bdM ([(r, t)].map fun p => (⟨p.1, p.2, false⟩ : Prt)) = max 1 t.length := Nat.mul_one _
    rw [e]
    unfold joinL
    refine Nat.le_trans (flat_len (n := max 1 t.length) fun kvs _ => ?_) (Nat.mul_le_mul_right _ O.len)
    rw [List.length_map]
    exact Nat.le_trans (List.length_filter_le _ _) (Nat.le_max_right _ _)
  · obtain ⟨kvs, hk, w, ht, hf, rfl⟩ := (mem K).mp hK
    have h1 := merge_len (mergeI [] (r.zip w)) kvs
    have h2 := merge_len (r.zip w) []
    have h3 := O.few kvs hk
    rw [List.length_zip] at h2
    simp only [List.length_nil, Nat.zero_add] at h2
    unfold joinI
    rw [List.length_append, List.length_singleton]
    omega
/-- the dicts' tuples, sorted, are the answers -/
theorem LineOk.ans {m : Nat} {rows : List (List Int)} {tabs : List (List (List Int))} {L : List (List (Int × Int))} (O : LineOk (rows.zip tabs) L) (S : SOk m rows tabs) : AnsP m (partsOf rows tabs) ((L.map fun kvs => (List.range m).map fun (k : Nat) => valI kvs k).mergeSort leR) := by
  have cov : ∀ a : Int, (∃ p ∈ rows.zip tabs, a ∈ p.1) ↔ 0 ≤ a ∧ a < m := fun a => by
    constructor
    · rintro ⟨p, hp, ha⟩
      exact (S.row p.1 (List.of_mem_zip hp).1).2.2.2 a ha
    · rintro ⟨h0, h1⟩
      obtain ⟨r, hr, ha⟩ := S.all a h0 h1
      obtain ⟨t, ht⟩ := zip_left S.tlen r hr
      exact ⟨_, ht, ha⟩
  have bnd : ∀ p ∈ rows.zip tabs, ∀ a ∈ p.1, (0 : Int) ≤ a ∧ a < m := fun p hp a ha => (cov a).mp ⟨p, hp, ha⟩
  have satz : ∀ f : Int → Int, SatF (partsOf rows tabs) f ↔ ∀ p ∈ rows.zip tabs, p.1.map f ∈ p.2 := fun f => by
    unfold SatF partsOf
    simp only [List.forall_mem_map]
  have perm := List.mergeSort_perm (L.map fun kvs => (List.range m).map fun (k : Nat) => valI kvs k) leR
  have nd : (L.map fun kvs => (List.range m).map fun (k : Nat) => valI kvs k).Nodup := by
    unfold List.Nodup
    rw [List.pairwise_map]
    refine List.Pairwise.imp_of_mem (fun {k l} hk hl ⟨p, hp, a, ha, d⟩ e => d ?_) O.inj
    obtain ⟨h0, h1⟩ := bnd p hp a ha
    obtain ⟨v, hv⟩ := Option.isSome_iff_exists.mp ((O.key k hk a).mpr ⟨p, hp, ha⟩)
    obtain ⟨u, hu⟩ := Option.isSome_iff_exists.mp ((O.key l hl a).mpr ⟨p, hp, ha⟩)
    have z1 := atR_map (f := valI k) h0 h1
    have z2 := atR_map (f := valI l) h0 h1
    rw [e, z2] at z1
    unfold valI at z1
    rw [hv, hu] at z1
    rw [hv, hu]
    exact congrArg some z1.symm
  refine ⟨?_, fun r => ?_⟩
  · have nd2 := perm.nodup_iff.mpr nd
    refine List.Pairwise.imp₂ (fun {a b} h1 h2 => ?_) (sortR_pw _) nd2
    by_cases c : a < b
    · exact c
    · exact absurd (List.le_antisymm h1 (List.not_lt.mp c)) h2
  · rw [perm.mem_iff, List.mem_map, satz]
    constructor
    · rintro ⟨kvs, hk, rfl⟩
      refine ⟨by rw [List.length_map, List.length_range], fun p hp => ?_⟩
      have e : p.1.map (atR ((List.range m).map fun (k : Nat) => valI kvs k)) = p.1.map (valI kvs) := List.map_congr_left fun a ha => by
        obtain ⟨h0, h1⟩ := bnd p hp a ha
        exact atR_map h0 h1
      rw [e]
      exact O.sat kvs hk p hp
    · rintro ⟨l, s⟩
      obtain ⟨kvs, hk, h⟩ := O.all (atR r) s
      refine ⟨kvs, hk, ?_⟩
      rw [← atR_eq (r := r), l]
      refine List.map_congr_left fun k hk' => ?_
      obtain ⟨p, hp, ha⟩ := (cov (k : Int)).mpr ⟨by omega, by have := List.mem_range.mp hk'; omega⟩
      unfold valI
      rw [h p hp k ha]
      rfl
def F_cja (ds : List D) : M D := ⟨fun γ P _ => ∃ (m : Nat) (rows : List (List Int)) (tabs : List (List (List Int))), ds = [qD m rows, .tup (tabs.map tabD)] ∧ SOk m rows tabs ∧ ∀ ans, AnsP m (partsOf rows tabs) ans → P (.lst (ans.map rowD)) γ, fun h _ ⟨m, r, t, e, s, q⟩ => ⟨m, r, t, e, s, fun a A => h _ _ (q a A)⟩⟩
theorem runF_cja {ds : List D} {γ : Gh} {P : D → Gh → Prop} {X : Addr → Gh → Prop} : (F_cja ds).run γ P X = ∃ (m : Nat) (rows : List (List Int)) (tabs : List (List (List Int))), ds = [qD m rows, .tup (tabs.map tabD)] ∧ SOk m rows tabs ∧ ∀ ans, AnsP m (partsOf rows tabs) ans → P (.lst (ans.map rowD)) γ := rfl
theorem pairsT_ints : ∀ (r w : List Int), pairsT (r.map .int) (w.map .int) = (r.zip w).map fun p => D.tup [.int p.1, .int p.2]
  | [], _ => rfl
  | _ :: _, [] => rfl
  | x :: r, y :: w => by
    show D.tup [.int x, .int y] :: pairsT (r.map .int) (w.map .int) = _
    rw [pairsT_ints r w]
    rfl
theorem toPyL_one1 {α : Type} : ∀ xs : List α, toPyL (xs.map fun _ => D.int 1) = some (xs.map fun _ => PyData.int 1)
  | [] => rfl
  | x :: xs => by
    simp only [List.map_cons, toPyL, toPy, toPyL_one1 xs]
    rfl
theorem depth_ones {α : Type} (xs : List α) : (PyData.list (xs.map fun _ => PyData.int 1)).depth ≤ 100 := by
  have : ∀ xs : List α, PyData.depthAll (xs.map fun _ => PyData.int 1) ≤ 1 := fun xs => by
    induction xs with
    | nil => exact Nat.zero_le _
    | cons x xs ih => simp only [List.map_cons, PyData.depthAll, PyData.depth]; omega
  have := this xs
  simp only [PyData.depth]
  omega
theorem joinL_snoc (r : List Int) (t : List (List Int)) (L : List (List (Int × Int))) (kvs : List (Int × Int)) : joinL r t (L ++ [kvs]) = joinL r t L ++ (t.filter fun w => fits r w kvs).map fun w => joinI r w kvs := by
  unfold joinL
  rw [List.flatMap_append]
  simp
theorem joinL_part {r : List Int} {t : List (List Int)} {pre post : List (List (Int × Int))} {kvs : List (Int × Int)} {u v : List (List Int)} (e : t = u ++ v) : (joinL r t pre ++ (u.filter fun w => fits r w kvs).map fun w => joinI r w kvs).length ≤ (joinL r t (pre ++ kvs :: post)).length := by
  have h : joinL r t (pre ++ kvs :: post) = joinL r t pre ++ (((t.filter fun w => fits r w kvs).map fun w => joinI r w kvs) ++ joinL r t post) := by
    unfold joinL
    rw [List.flatMap_append, List.flatMap_cons]
  rw [h, e, List.filter_append, List.map_append]
  simp only [List.length_append]
  omega
theorem LineOk.le {ps qs : List AtP} {L : List (List (Int × Int))} (O : LineOk ps L) (b : bdM ((ps ++ qs).map fun p => ⟨p.1, p.2, false⟩) ≤ 2 ^ 20) : L.length ≤ 2 ^ 20 := by
  rw [List.map_append, bdM_append] at b
  have h1 := bdM_pos (qs.map fun p => (⟨p.1, p.2, false⟩ : Prt))
  exact Nat.le_trans O.len (Nat.le_trans (Nat.le_mul_of_pos_right _ h1) b)
theorem fits_filter (r w : List Int) (kvs : List (Int × Int)) : ((r.zip w).filter fun p => !decide ((getI kvs p.1).getD p.2 = p.2)).map (fun _ => PyData.int 1) = [] ↔ fits r w kvs = true := by
  rw [List.map_eq_nil_iff, List.filter_eq_nil_iff]
  unfold fits
  rw [List.all_eq_true]
  simp
end Dl

set_option maxRecDepth 100000
set_option maxHeartbeats 4100000
/-! is_answer -/
namespace Dl
open L2 PySem PySem.Spec PyProof.Rows
theorem sok_of16 {m : Nat} {rows : List (List Int)} {tabs : List (List (List Int))} {most hi : Int} (G : GoodQ m rows) (S : GoodS most hi rows tabs) (h1 : most ≤ 16) (h2 : hi ≤ 10 ^ 18) : SOk m rows tabs where
  toQOk := qok_of G
  tlen := S.len
  tab p hp := by
    have g := S.at_zip p hp
    refine ⟨g.asc, fun q hq => ⟨(g.row q hq).1, fun k hk => ?_⟩⟩
    have := (g.row q hq).2 k hk
    omega
  bd := by
    have z := bdM_pow (b := 16) (by omega) (ps := partsOf rows tabs) fun p hp => by
      obtain ⟨q, hq, rfl⟩ := List.mem_map.mp hp
      have := (S.at_zip q hq).len
      show q.2.length ≤ 16
      omega
    have l : (partsOf rows tabs).length ≤ 5 := by
      unfold partsOf
      rw [List.length_map, List.length_zip]
      have := G.len2
      omega
    refine Nat.le_trans z (Nat.le_trans (Nat.pow_le_pow_right (by omega) l) (by decide))
/-- is a value one of some rows -/
def isB (ans : List (List Int)) : D → Bool
  | .tup xs => match intsD xs with
    | some r => decide (r ∈ ans)
    | none => false
  | _ => false
theorem isB_row (ans : List (List Int)) (r : List Int) : isB ans (rowD r) = decide (r ∈ ans) := by
  unfold rowD isB
  simp [intsD_map]
theorem isB_iff {ans : List (List Int)} {v : D} : isB ans v = true ↔ ∃ r ∈ ans, v = rowD r := by
  constructor
  · intro h
    unfold isB at h
    split at h
    · rename_i xs
      split at h
      · rename_i r hr
        rw [decide_eq_true_iff] at h
        exact ⟨r, h, by rw [intsD_eq hr]; rfl⟩
      · cases h
    · cases h
  · rintro ⟨r, hr, rfl⟩
    rw [isB_row, decide_eq_true_iff]
    exact hr
theorem SOk.nums {m : Nat} {rows : List (List Int)} {tabs : List (List (List Int))} {ans : List (List Int)} (S : SOk m rows tabs) (A : AnsP m (partsOf rows tabs) ans) {r : List Int} (hr : r ∈ ans) : r.length = m ∧ ∀ k ∈ r, 0 ≤ k ∧ k < 10 ^ 18 := by
  obtain ⟨l, s⟩ := (A.mem r).mp hr
  refine ⟨l, fun k hk => ?_⟩
  obtain ⟨i, hi, rfl⟩ := List.mem_iff_getElem.mp hk
  obtain ⟨q, hq, ha⟩ := S.all (i : Int) (by omega) (by omega)
  obtain ⟨t, ht⟩ := zip_left S.tlen q hq
  have z := s ⟨q, t, false⟩ (List.mem_map_of_mem (f := fun p : List Int × List (List Int) => (⟨p.1, p.2, false⟩ : Prt)) ht)
  have e : atR r (i : Int) = r[i] := by
    unfold atR
    rw [Int.toNat_natCast, List.getD_eq_getElem?_getD, List.getElem?_eq_getElem hi]
    rfl
  have := ((S.tab _ ht).row _ z).2 (atR r i) (List.mem_map_of_mem ha)
  rw [e] at this
  exact this
theorem areFrom_row {m : Nat} {r : List Int} (h : r.length = m) (h2 : ∀ k ∈ r, 0 ≤ k ∧ k < 10 ^ 18) : areFrom m 0 (rowD r) = true := by
  unfold rowD areFrom
  rw [Bool.and_eq_true, decide_eq_true_iff, List.all_eq_true, List.length_map]
  refine ⟨by omega, fun x hx => ?_⟩
  obtain ⟨k, hk, rfl⟩ := List.mem_map.mp hx
  have := h2 k hk
  rw [numB_from]
  simp only [numB, decide_eq_true_iff]
  exact this
theorem areFrom_shape {m : Nat} {v : D} (h : areFrom m 0 v = true) : ∃ r : List Int, v = rowD r ∧ r.length = m := by
  cases v <;> first | cases h | skip
  rename_i xs
  unfold areFrom at h
  rw [Bool.and_eq_true, decide_eq_true_iff] at h
  obtain ⟨ns, hns⟩ := intsD_of (p := fromB 0) (fun d h => by cases d <;> first | cases h | exact ⟨_, rfl⟩) h.2
  have e := intsD_eq hns
  refine ⟨ns, by rw [e]; rfl, ?_⟩
  have := h.1
  rw [e, List.length_map] at this
  omega
def F_isans (cq cs : Addr) (ds : List D) : M D := ⟨fun γ P X => ∃ q d v, ds = [q, d, v] ∧ pureD q ∧ pureD d ∧ pureD v ∧
    ((isQuery q = false ∧ X cq γ) ∨ (isQuery q = true ∧ isStore q d = false ∧ X cs γ) ∨
      ∃ (m : Nat) (rows : List (List Int)) (tabs : List (List (List Int))) (ans : List (List Int)), q = qD m rows ∧ d = .tup (tabs.map tabD) ∧ SOk m rows tabs ∧ AnsP m (partsOf rows tabs) ans ∧ P (.bl (isB ans v)) γ),
  fun h hx ⟨q, d, v, e, h1, h2, h3, z⟩ => ⟨q, d, v, e, h1, h2, h3, z.imp (fun ⟨a, b⟩ => ⟨a, hx _ _ b⟩) fun z => z.imp (fun ⟨a, b, c⟩ => ⟨a, b, hx _ _ c⟩) fun ⟨m, r, t, a, e1, e2, s, A, y⟩ => ⟨m, r, t, a, e1, e2, s, A, h _ _ y⟩⟩⟩
theorem runF_isans {cq cs : Addr} {ds : List D} {γ : Gh} {P : D → Gh → Prop} {X : Addr → Gh → Prop} : (F_isans cq cs ds).run γ P X = ∃ q d v, ds = [q, d, v] ∧ pureD q ∧ pureD d ∧ pureD v ∧
    ((isQuery q = false ∧ X cq γ) ∨ (isQuery q = true ∧ isStore q d = false ∧ X cs γ) ∨
      ∃ (m : Nat) (rows : List (List Int)) (tabs : List (List (List Int))) (ans : List (List Int)), q = qD m rows ∧ d = .tup (tabs.map tabD) ∧ SOk m rows tabs ∧ AnsP m (partsOf rows tabs) ans ∧ P (.bl (isB ans v)) γ) := rfl
/-- a row's numbers at attributes -/
def F_partR (ds : List D) : M D := ⟨fun γ P _ => ∃ (r as : List Int), ds = [rowD r, rowD as] ∧ as.length ≤ 8 ∧ (∀ a ∈ as, 0 ≤ a ∧ a < r.length) ∧ P (rowD (as.map (atR r))) γ, fun h _ ⟨r, as, e, h1, h2, q⟩ => ⟨r, as, e, h1, h2, h _ _ q⟩⟩
theorem runF_partR {ds : List D} {γ : Gh} {P : D → Gh → Prop} {X : Addr → Gh → Prop} : (F_partR ds).run γ P X = ∃ (r as : List Int), ds = [rowD r, rowD as] ∧ as.length ≤ 8 ∧ (∀ a ∈ as, 0 ≤ a ∧ a < r.length) ∧ P (rowD (as.map (atR r))) γ := rfl
theorem sat_range {rows : List (List Int)} {tabs : List (List (List Int))} (tl : tabs.length = rows.length) (f : Int → Int) : ((List.range rows.length).all fun k => decide ((rows.getD k []).map f ∈ tabs.getD k [])) = true ↔ SatF (partsOf rows tabs) f := by
  unfold SatF partsOf
  rw [List.all_eq_true]
  simp only [List.forall_mem_map, decide_eq_true_iff, List.mem_range]
  constructor
  · intro h p hp
    obtain ⟨j, hj, e⟩ := List.mem_iff_getElem.mp hp
    rw [List.length_zip] at hj
    rw [List.getElem_zip] at e
    subst e
    have := h j (by omega)
    rw [List.getD_eq_getElem?_getD, List.getD_eq_getElem?_getD, List.getElem?_eq_getElem (by omega), List.getElem?_eq_getElem (by omega)] at this
    exact this
  · intro h j hj
    have := h (rows[j], tabs[j]) (by
      rw [List.mem_iff_getElem]
      exact ⟨j, by rw [List.length_zip]; omega, by rw [List.getElem_zip]⟩)
    rw [List.getD_eq_getElem?_getD, List.getD_eq_getElem?_getD, List.getElem?_eq_getElem (by omega), List.getElem?_eq_getElem (by omega)]
    exact this
end Dl

namespace Ck
open PySem
def top (i : Nat) : Stmt := PySem.Challenge.pw_coverjoin_k02_the_plain_answers.main.body.getD i (.Pass ⟨0, 0, 0, 0⟩)
end Ck

set_option maxRecDepth 100000
set_option maxHeartbeats 8000000
namespace Ck
open PySem PySem.Spec PyProof.Rows L2 Dl

abbrev s_is_number : Stmt := top 6
abbrev N_is_number : List Str := ["value"]
theorem sc_is_number : FnScope N_is_number ["value"] (defScope s_is_number) := ⟨rfl, rfl, rfl, by decide +kernel, rfl, by decide +kernel, by decide +kernel⟩
theorem ok_is_number {P : Program} {w : World} {W : Wd} {mg : Str → Option Value} {base : Heap} (T : Txt W mg) {f cc : Addr} {fd : FuncData} (Fn : FunC W.K "is_number" "is_number" s_is_number f cc fd) :
    FnOk P w W.K mg base (L2.CX P w) 1 f fd ["value"] (spD W 1 F_is_number) := by
  obtain ⟨tL, hL⟩ := T.g_LIMIT
  refine okC (k := 0) Fn sc_is_number (by decide) fun A outer s H E hr => ⟨_, (ds_one (ds_ret (dp_and (dp_isi (c := "int") rfl T.b_isinstance T.b_int (dv1 0)) (dp_and (dp_not (dp_isi (c := "bool") rfl T.b_isinstance T.b_bool (dv1 0))) (dp_one (dp_chain (g := fun i j => decide (i < j)) (g' := fun i j => decide (i < j)) op_lt op_lt (dp_1 (dp_neg (dp_1 (dp_gint rfl hL ⟨_, rfl⟩)))) (dv1 0) (dp_1 (dp_gint rfl hL ⟨_, rfl⟩)))))))), fun ds hl γ PP XX h => ?_⟩
  match ds, hl with
  | [d], _ =>
    obtain ⟨h1, h2⟩ := h
    cases d with
    | ob v => exact h1.elim
    | pr v u => exact h1.elim
    | dil v u => exact h1.elim
    | exn v => exact h1.elim
    | int i =>
      simp [isNum] at h2 ⊢
      split <;> rename_i h <;> simp [h] at h2 <;> exact h2
    | _ => exact h2

abbrev s_is_from : Stmt := top 7
abbrev N_is_from : List Str := ["value", "low"]
theorem sc_is_from : FnScope N_is_from ["value", "low"] (defScope s_is_from) := ⟨rfl, rfl, rfl, by decide +kernel, rfl, by decide +kernel, by decide +kernel⟩
theorem ok_is_from {P : Program} {w : World} {W : Wd} {mg : Str → Option Value} {base : Heap} (T : Txt W mg) {f cc : Addr} {fd : FuncData} (C_is_number : Cal P w W mg base "is_number" 1 1 F_is_number) (Fn : FunC W.K "is_from" "is_from" s_is_from f cc fd) :
    FnOk P w W.K mg base (L2.CX P w) 2 f fd ["value", "low"] (spD W 2 F_is_from) := by
  obtain ⟨tL, hL⟩ := T.g_LIMIT
  refine okC (k := 1) Fn sc_is_from (by decide) fun A outer s H E hr => ⟨_, (ds_one (ds_ret (dp_and (dp_call C_is_number.ok (hr.mono (by decide)) C_is_number.mg C_is_number.kp C_is_number.bd pass_cx (dpa_cons (dv 0) dpa_nil)) (dp_one (dp_cmp op_ge opD_ge (dv1 0) (dv1 1)))))), fun ds hl γ PP XX h => ?_⟩
  match ds, hl with
  | [d, .int e], _ =>
    obtain ⟨h1, h2⟩ := h
    simp [F_is_number] at h2 ⊢
    refine ⟨h1, ?_⟩
    cases d with
    | int i =>
      simp only [fromB] at h2
      cases hn : isNum (.int i) <;> simp [hn] at h2 ⊢ <;> exact h2
    | ob v => exact h1.elim
    | pr v u => exact h1.elim
    | dil v u => exact h1.elim
    | exn v => exact h1.elim
    | _ => exact h2
  | [d, .non], _ => exact h.elim
  | [d, .bl _], _ => exact h.elim
  | [d, .str _], _ => exact h.elim
  | [d, .tup _], _ => exact h.elim
  | [d, .lst _], _ => exact h.elim
  | [d, .emp], _ => exact h.elim
  | [d, .dii _], _ => exact h.elim
  | [d, .ob _], _ => exact h.elim

abbrev s_is_below : Stmt := top 8
abbrev N_is_below : List Str := ["value", "many"]
theorem sc_is_below : FnScope N_is_below ["value", "many"] (defScope s_is_below) := ⟨rfl, rfl, rfl, by decide +kernel, rfl, by decide +kernel, by decide +kernel⟩
theorem ok_is_below {P : Program} {w : World} {W : Wd} {mg : Str → Option Value} {base : Heap} (T : Txt W mg) {f cc : Addr} {fd : FuncData} (C_is_number : Cal P w W mg base "is_number" 1 1 F_is_number) (Fn : FunC W.K "is_below" "is_below" s_is_below f cc fd) :
    FnOk P w W.K mg base (L2.CX P w) 2 f fd ["value", "many"] (spD W 2 F_is_below) := by
  obtain ⟨tL, hL⟩ := T.g_LIMIT
  refine okC (k := 1) Fn sc_is_below (by decide) fun A outer s H E hr => ⟨_, (ds_one (ds_ret (dp_and (dp_call C_is_number.ok (hr.mono (by decide)) C_is_number.mg C_is_number.kp C_is_number.bd pass_cx (dpa_cons (dv 0) dpa_nil)) (dp_one (dp_chain (g := fun i j => decide (i ≤ j)) (g' := fun i j => decide (i < j)) op_le op_lt (dp_1 dp_int) (dv1 0) (dv1 1)))))), fun ds hl γ PP XX h => ?_⟩
  match ds, hl with
  | [d, .int e], _ =>
    obtain ⟨h1, h2⟩ := h
    simp [F_is_number] at h2 ⊢
    refine ⟨h1, ?_⟩
    cases d with
    | int i =>
      simp only [belowB] at h2
      cases hn : isNum (.int i) <;> simp [hn] at h2 ⊢
      · exact h2
      · split <;> rename_i h0 <;> simp [h0] at h2 <;> exact h2
    | ob v => exact h1.elim
    | pr v u => exact h1.elim
    | dil v u => exact h1.elim
    | exn v => exact h1.elim
    | _ => exact h2
  | [d, .non], _ => exact h.elim
  | [d, .bl _], _ => exact h.elim
  | [d, .str _], _ => exact h.elim
  | [d, .tup _], _ => exact h.elim
  | [d, .lst _], _ => exact h.elim
  | [d, .emp], _ => exact h.elim
  | [d, .dii _], _ => exact h.elim
  | [d, .ob _], _ => exact h.elim

abbrev s_are_from : Stmt := top 9
abbrev N_are_from : List Str := ["value", "many", "low", "item"]
theorem sc_are_from : FnScope N_are_from ["value", "many", "low"] (defScope s_are_from) := ⟨rfl, rfl, rfl, by decide +kernel, rfl, by decide +kernel, by decide +kernel⟩
theorem ok_are_from {P : Program} {w : World} {W : Wd} {mg : Str → Option Value} {base : Heap} (T : Txt W mg) {f cc : Addr} {fd : FuncData} {PT : Addr} (tb : W.Tb PT (("are_from" : Str) ++ ".<locals>." ++ "<genexpr>") ∧ GxR.TabB base mg cc PT) (C_is_from : Cal P w W mg base "is_from" 2 2 F_is_from) (Fn : FunC W.K "are_from" "are_from" s_are_from f cc fd) :
    FnOk P w W.K mg base (L2.CX P w) 4 f fd ["value", "many", "low"] (spD W 3 F_are_from) := by
  obtain ⟨tL, hL⟩ := T.g_LIMIT
  refine okC (k := 3) Fn sc_are_from (by decide) fun A outer s H E hr => ⟨_, (ds_cons (ds_if (PW.pt (dw_or (dt_not (dt_val (dp_isi (c := "tuple") rfl T.b_isinstance T.b_tuple (dv1 0)))) (dw_or1 (dt_cmp (op_neP (u100 hr)) (opD_P rfl) (dp_1 (dp_len rfl T.b_len (dv1 0))) (dv1 1))))) (ds_one (ds_ret dp_bl)) ds_nil)
    (ds_one (ds_ret (dp_all (own := [("item", 3)]) (k := 2) tb.1 (hr.mono (by decide)) T.b_all tb.2 rfl sc_are_from.nd (Gx.gok_by (own := [("item", 3)]) (N := N_are_from) (sc := defScope s_are_from) (by decide +kernel)) (di_seq rfl (dv1 0)) gd_name (gw_name (by decide)) (fun _ _ _ _ _ _ _ _ _ => pg_name (i := 3) sc_are_from.nd rfl (by first | exact Or.inl rfl | exact Or.inr rfl) (by first | exact Or.inr rfl | exact Or.inl rfl)) (fun _ _ _ _ _ _ _ _ hrg => dts_nil) (fun _ _ _ _ _ _ _ _ hrg => (dp_call C_is_from.ok (hrg.mono (by decide)) C_is_from.mg C_is_from.kp C_is_from.bd passL (dpa_cons (dv 3) (dpa_cons (dv 2) dpa_nil)))))))), fun ds hl γ PP XX h => ?_⟩
  match ds, hl, h with
  | [d, .int n, .int low], _, ⟨h1, h2⟩ =>
    cases d with
    | tup xs =>
      simp only [M.run_pure, areFrom] at h2
      simp
      split
      · rename_i hn
        rw [decide_eq_true hn, Bool.true_and] at h2
        refine allM_pure (i := 3) (p := fromB low) rfl rfl (fun x hx γ PP h => ?_) h2
        simp [F_is_from]
        simp only [pureD] at h1
        exact ⟨pureL_mem h1.2 hx, h⟩
      · rename_i hn
        rw [decide_eq_false hn, Bool.false_and] at h2
        exact h2
    | ob v => exact h1.elim
    | pr v u => exact h1.elim
    | dil v u => exact h1.elim
    | exn v => exact h1.elim
    | _ => exact h2

abbrev s_is_pair : Stmt := top 10
abbrev N_is_pair : List Str := ["value"]
theorem sc_is_pair : FnScope N_is_pair ["value"] (defScope s_is_pair) := ⟨rfl, rfl, rfl, by decide +kernel, rfl, by decide +kernel, by decide +kernel⟩
theorem ok_is_pair {P : Program} {w : World} {W : Wd} {mg : Str → Option Value} {base : Heap} (T : Txt W mg) {f cc : Addr} {fd : FuncData} (Fn : FunC W.K "is_pair" "is_pair" s_is_pair f cc fd) :
    FnOk P w W.K mg base (L2.CX P w) 1 f fd ["value"] (spD W 1 F_is_pair) := by
  obtain ⟨tL, hL⟩ := T.g_LIMIT
  refine okC (k := 0) Fn sc_is_pair (by decide) fun A outer s H E hr => ⟨_, (ds_one (ds_ret (dp_and (dp_isi (c := "tuple") rfl T.b_isinstance T.b_tuple (dv1 0)) (dp_one (dp_cmp (op_eqP (u100 hr)) (opD_P rfl) (dp_1 (dp_len rfl T.b_len (dv1 0))) (dp_1 dp_int)))))), fun ds hl γ PP XX h => ?_⟩
  match ds, hl, h with
  | [d], _, ⟨h1, h2⟩ =>
    cases d with
    | tup xs =>
      simp [PyData.eqv, PyData.depth]
      have e : isPair (.tup xs) = decide ((xs.length : Int) = 2) := by
        match xs with
        | [] => rfl
        | [_] => rfl
        | [_, _] => rfl
        | _ :: _ :: _ :: xs => simp [isPair]; omega
      simp only [M.run_pure, e] at h2
      exact h2
    | ob v => exact h1.elim
    | pr v u => exact h1.elim
    | dil v u => exact h1.elim
    | exn v => exact h1.elim
    | _ => exact h2

abbrev s_is_ascending : Stmt := top 11
abbrev N_is_ascending : List Str := ["items", "k"]
theorem sc_is_ascending : FnScope N_is_ascending ["items"] (defScope s_is_ascending) := ⟨rfl, rfl, rfl, by decide +kernel, rfl, by decide +kernel, by decide +kernel⟩
theorem ok_is_ascending {P : Program} {w : World} {W : Wd} {mg : Str → Option Value} {base : Heap} (T : Txt W mg) {f cc : Addr} {fd : FuncData} {PT : Addr} (tb : W.Tb PT (("is_ascending" : Str) ++ ".<locals>." ++ "<genexpr>") ∧ GxR.TabB base mg cc PT) (Fn : FunC W.K "is_ascending" "is_ascending" s_is_ascending f cc fd) :
    FnOk P w W.K mg base (L2.CX P w) 3 f fd ["items"] (spD W 1 F_is_ascending) := by
  obtain ⟨tL, hL⟩ := T.g_LIMIT
  refine okC (k := 2) Fn sc_is_ascending (by decide) fun A outer s H E hr => ⟨_, (ds_one (ds_ret (dp_all (own := [("k", 1)]) (k := 1) tb.1 (hr.mono (by decide)) T.b_all tb.2 rfl sc_is_ascending.nd (Gx.gok_by (own := [("k", 1)]) (N := N_is_ascending) (sc := defScope s_is_ascending) (by decide +kernel)) (d_rng1 (.inl rfl) T.b_range (dp_1 (dp_op op_sub opD_sub (dp_1 (dp_len rfl T.b_len (dv1 0))) (dp_1 dp_int)))) gd_name (gw_name (by decide)) (fun _ _ _ _ _ _ _ _ _ => pg_name (i := 1) sc_is_ascending.nd rfl (by first | exact Or.inl rfl | exact Or.inr rfl) (by first | exact Or.inr rfl | exact Or.inl rfl)) (fun _ _ _ _ _ _ _ _ hrg => dts_nil) (fun _ _ _ _ _ _ _ _ hrg => (dp_cmp (op_ltP (u100 hrg)) (opD_P rfl) (dp_1 (dp_ix rfl (dv1 0) (dv1 1))) (dp_1 (dp_ix rfl (dv1 0) (dp_1 (dp_op op_addU (opD_addU _ rfl) (dv1 1) (dp_1 dp_int)))))))))), fun ds hl γ PP XX h => ?_⟩
  match ds, hl, h with
  | [.tup xs], _, h =>
    cases hb : ascD xs with
    | none => simp only [F_is_ascending, hb] at h; exact h.elim
    | some b =>
      simp only [F_is_ascending, hb] at h
      obtain ⟨h1, h2⟩ := h
      have h2 : PP (.bl b) γ := h2
      have hL2 : (sizeLine : Nat) < 2 ^ 61 := by decide
      simp
      refine ⟨by omega, ?_⟩
      have key : ∀ (p : D → Bool), (∀ k : Nat, k < xs.length - 1 → ∀ (γ : Gh) (PP : D → Gh → Prop), PP (.bl (p (.int k))) γ → ((Dl.bin (onP (fun a b => PySem.W.alike a b = true ∧ ¬a = PyData.none) PySem.W.dataLt) (Dl.bin ixD (vA 0) (vA 1)) (Dl.bin ixD (vA 0) (Dl.bin addD (vA 1) fun x => pure (D.int 1)))) (setS 1 (.int k) [some (SD.sh (D.tup xs)), none])).run γ PP (fun _ _ => False)) →
          b = (List.range (xs.length - 1)).all (fun k => p (.int k)) → (allM false (fun d e => pure (List.set e 1 (some (SD.sh d)))) (fun x => pure true) (Dl.bin (onP (fun a b => PySem.W.alike a b = true ∧ ¬a = PyData.none) PySem.W.dataLt) (Dl.bin ixD (vA 0) (vA 1)) (Dl.bin ixD (vA 0) (Dl.bin addD (vA 1) fun x => pure (D.int 1)))) [some (SD.sh (D.tup xs)), none] (rangeD 0 (↑xs.length - 1))).run γ (fun a γ' => PP (D.bl a) γ') XX := fun p hp e => by
        refine allM_pure (i := 1) (p := p) rfl rfl (fun x hx γ PP' h => ?_) ?_
        · obtain ⟨k, hk, rfl⟩ := rangeD_mem hx
          have hk' : k < xs.length - 1 := by omega
          rw [show (0 : Int) + (k : Int) = (k : Int) by omega] at h ⊢
          exact hp k hk' _ PP' h
        · have e2 : (rangeD 0 (↑xs.length - 1)).all p = b := by
            rw [e]
            unfold rangeD
            rw [List.all_map]
            have e3 : ((xs.length : Int) - 1 - 0).toNat = xs.length - 1 := by omega
            rw [e3]
            congr 1
            funext k
            show p (.int (0 + (k : Int))) = p (.int k)
            rw [show (0 : Int) + (k : Int) = (k : Int) by omega]
          simp only [Bool.false_eq_true, if_false, e2]
          exact h2
      unfold ascD at hb
      split at hb
      · rename_i ns hns
        have hl2 := intsD_len hns
        cases hb
        refine key (fun d => match d with | .int k => decide (ns.getD k.toNat 0 < ns.getD (k.toNat + 1) 0) | _ => false) (fun k hk γ PP' h => ?_) ?_
        · have g1 : xs[k]? = some (.int (ns.getD k 0)) := by
            obtain ⟨n, a1, a2⟩ := intsD_get hns (List.getElem?_eq_getElem (show k < xs.length by omega))
            rw [List.getElem?_eq_getElem (show k < xs.length by omega), a2]
            simp [List.getD_eq_getElem?_getD, a1]
          have g2 : xs[k + 1]? = some (.int (ns.getD (k + 1) 0)) := by
            obtain ⟨n, a1, a2⟩ := intsD_get hns (List.getElem?_eq_getElem (show k + 1 < xs.length by omega))
            rw [List.getElem?_eq_getElem (show k + 1 < xs.length by omega), a2]
            simp [List.getD_eq_getElem?_getD, a1]
          simp [atN g1, atN1 g2, PyData.depth, PySem.W.alike, PySem.W.dataLt_int] at h ⊢
          exact h
        · rw [chainB_range _ 0 ns, hl2]
          rfl
      · simp only [Option.map_eq_some_iff] at hb
        obtain ⟨rs, hrs, rfl⟩ := hb
        have hl2 := rowsD_len hrs
        refine key (fun d => match d with | .int k => decide (rs.getD k.toNat [] < rs.getD (k.toNat + 1) []) | _ => false) (fun k hk γ PP' h => ?_) ?_
        · obtain ⟨n1, r1, a1, a2, a3⟩ := rowsD_get hrs (List.getElem?_eq_getElem (show k < xs.length by omega))
          obtain ⟨n2, r2, b1, b2, b3⟩ := rowsD_get hrs (List.getElem?_eq_getElem (show k + 1 < xs.length by omega))
          have g1 : xs[k]? = some (.tup r1) := by rw [List.getElem?_eq_getElem (show k < xs.length by omega), a2]
          have g2 : xs[k + 1]? = some (.tup r2) := by rw [List.getElem?_eq_getElem (show k + 1 < xs.length by omega), b2]
          have d1 := depth_ints n1
          have d2 := depth_ints n2
          simp [atN g1, atN1 g2, toPyL_ints a3, toPyL_ints b3, alike_rows, lt_rows, a1, b1] at h ⊢
          refine ⟨?_, h⟩
          simp only [PyData.depth]
          omega
        · rw [chainB_range _ [] rs, hl2]
          rfl

abbrev s_are_below : Stmt := top 12
abbrev N_are_below : List Str := ["value", "many", "item"]
theorem sc_are_below : FnScope N_are_below ["value", "many"] (defScope s_are_below) := ⟨rfl, rfl, rfl, by decide +kernel, rfl, by decide +kernel, by decide +kernel⟩
theorem ok_are_below {P : Program} {w : World} {W : Wd} {mg : Str → Option Value} {base : Heap} (T : Txt W mg) {f cc : Addr} {fd : FuncData} {PT : Addr} (tb : W.Tb PT (("are_below" : Str) ++ ".<locals>." ++ "<genexpr>") ∧ GxR.TabB base mg cc PT) (C_is_below : Cal P w W mg base "is_below" 2 2 F_is_below) (C_is_ascending : Cal P w W mg base "is_ascending" 3 1 F_is_ascending) (Fn : FunC W.K "are_below" "are_below" s_are_below f cc fd) :
    FnOk P w W.K mg base (L2.CX P w) 4 f fd ["value", "many"] (spD W 2 F_are_below) := by
  obtain ⟨tL, hL⟩ := T.g_LIMIT
  refine okC (k := 3) Fn sc_are_below (by decide) fun A outer s H E hr => ⟨_, (ds_cons (ds_if (dt_not (dt_val (dp_isi (c := "tuple") rfl T.b_isinstance T.b_tuple (dv1 0)))) (ds_one (ds_ret dp_bl)) ds_nil)
    (ds_one (ds_ret (dp_and (dp_all (own := [("item", 2)]) (k := 2) tb.1 (hr.mono (by decide)) T.b_all tb.2 rfl sc_are_below.nd (Gx.gok_by (own := [("item", 2)]) (N := N_are_below) (sc := defScope s_are_below) (by decide +kernel)) (di_seq rfl (dv1 0)) gd_name (gw_name (by decide)) (fun _ _ _ _ _ _ _ _ _ => pg_name (i := 2) sc_are_below.nd rfl (by first | exact Or.inl rfl | exact Or.inr rfl) (by first | exact Or.inr rfl | exact Or.inl rfl)) (fun _ _ _ _ _ _ _ _ hrg => dts_nil) (fun _ _ _ _ _ _ _ _ hrg => (dp_call C_is_below.ok (hrg.mono (by decide)) C_is_below.mg C_is_below.kp C_is_below.bd passL (dpa_cons (dv 2) (dpa_cons (dv 1) dpa_nil))))) (dp_one (dp_call C_is_ascending.ok (hr.mono (by decide)) C_is_ascending.mg C_is_ascending.kp C_is_ascending.bd pass_cx (dpa_cons (dv 0) dpa_nil))))))), fun ds hl γ PP XX h => ?_⟩
  match ds, hl, h with
  | [d, .int many], _, ⟨h1, h2⟩ =>
    cases d with
    | tup xs =>
      simp only [M.run_pure, areBelow] at h2
      simp only [pureD] at h1
      simp
      refine allM_pure (i := 2) (p := belowB many) rfl rfl (fun x hx γ PP h => ?_) ?_
      · simp [F_is_below]
        exact ⟨pureL_mem h1.2 hx, h⟩
      · cases ha : xs.all (belowB many) with
        | false =>
          rw [ha, Bool.false_and] at h2
          simp [h2]
        | true =>
          rw [ha, Bool.true_and] at h2
          obtain ⟨ns, hns⟩ := intsD_of (fun d h => belowB_int d h) ha
          simp [F_is_ascending, ascD, hns]
          refine ⟨h1.1, ?_⟩
          simp [asc1, ascD, hns] at h2
          exact h2
    | ob v => exact h1.elim
    | pr v u => exact h1.elim
    | dil v u => exact h1.elim
    | exn v => exact h1.elim
    | _ => exact h2

abbrev s_is_query : Stmt := top 13
abbrev N_is_query : List Str := ["value", "many", "atoms", "held", "atom", "attribute"]
theorem sc_is_query : FnScope N_is_query ["value"] (defScope s_is_query) := ⟨rfl, rfl, rfl, by decide +kernel, rfl, by decide +kernel, by decide +kernel⟩
theorem ok_is_query {P : Program} {w : World} {W : Wd} {mg : Str → Option Value} {base : Heap} (T : Txt W mg) {f cc : Addr} {fd : FuncData} {PT : Addr} (tb : W.Tb PT (("is_query" : Str) ++ ".<locals>." ++ "<genexpr>") ∧ GxR.TabB base mg cc PT) (C_is_pair : Cal P w W mg base "is_pair" 1 1 F_is_pair) (C_is_number : Cal P w W mg base "is_number" 1 1 F_is_number) (C_are_below : Cal P w W mg base "are_below" 4 2 F_are_below) (Fn : FunC W.K "is_query" "is_query" s_is_query f cc fd) :
    FnOk P w W.K mg base (L2.CX P w) 6 f fd ["value"] (spD W 1 F_is_query) := by
  obtain ⟨tL, hL⟩ := T.g_LIMIT
  refine okC (k := 5) Fn sc_is_query (by decide) fun A outer s H E hr => ⟨_, (ds_cons (ds_if (dt_not (dt_val (dp_call C_is_pair.ok (hr.mono (by decide)) C_is_pair.mg C_is_pair.kp C_is_pair.bd pass_cx (dpa_cons (dv 0) dpa_nil)))) (ds_one (ds_ret dp_bl)) ds_nil)
    (ds_cons (ds_asg (dv 0) (pg_tup rfl (pgs_cons (pg_name (i := 1) sc_is_query.nd rfl (by first | exact Or.inl rfl | exact Or.inr rfl) (by first | exact Or.inr rfl | exact Or.inl rfl)) (pgs_cons (pg_name (i := 2) sc_is_query.nd rfl (by first | exact Or.inl rfl | exact Or.inr rfl) (by first | exact Or.inr rfl | exact Or.inl rfl)) pgs_nil))) (gd_tup rfl [1, 2]))
    (ds_cons (ds_if (PW.pt (dw_or (dt_not (dt_val (dp_call C_is_number.ok (hr.mono (by decide)) C_is_number.mg C_is_number.kp C_is_number.bd pass_cx (dpa_cons (dv 1) dpa_nil)))) (dw_or1 (dt_not (dt_chain (g := fun i j => decide (i ≤ j)) (g' := fun i j => decide (i ≤ j)) op_le op_le (dp_1 dp_int) (dv1 1) (dp_1 dp_int)))))) (ds_one (ds_ret dp_bl)) ds_nil)
    (ds_cons (ds_if (PW.pt (dw_or (dt_not (dt_val (dp_isi (c := "tuple") rfl T.b_isinstance T.b_tuple (dv1 2)))) (dw_or1 (dt_not (dt_chain (g := fun i j => decide (i ≤ j)) (g' := fun i j => decide (i ≤ j)) op_le op_le (dp_1 dp_int) (dp_1 (dp_len rfl T.b_len (dv1 2))) (dp_1 dp_int)))))) (ds_one (ds_ret dp_bl)) ds_nil)
    (ds_cons (ds_if (dt_not (dt_val (dp_all (own := [("atom", 4)]) (k := 4) tb.1 (hr.mono (by decide)) T.b_all tb.2 rfl sc_is_query.nd (Gx.gok_by (own := [("atom", 4)]) (N := N_is_query) (sc := defScope s_is_query) (by decide +kernel)) (di_seq rfl (dv1 2)) gd_name (gw_name (by decide)) (fun _ _ _ _ _ _ _ _ _ => pg_name (i := 4) sc_is_query.nd rfl (by first | exact Or.inl rfl | exact Or.inr rfl) (by first | exact Or.inr rfl | exact Or.inl rfl)) (fun _ _ _ _ _ _ _ _ hrg => dts_nil) (fun _ _ _ _ _ _ _ _ hrg => (dp_and (dp_call C_are_below.ok (hrg.mono (by decide)) C_are_below.mg C_are_below.kp C_are_below.bd passL (dpa_cons (dv 4) (dpa_cons (dv 1) dpa_nil))) (dp_one (dp_cmp op_gt opD_gt (dp_1 (dp_len rfl T.b_len (dv1 4))) (dp_1 dp_int)))))))) (ds_one (ds_ret dp_bl)) ds_nil)
    (ds_cons (ds_set 3 sc_is_query.nd rfl (dp_lock (do_lc2 (vs1 := [5]) rfl sc_is_query.nd (di_seq rfl (dv1 2)) (blkOk_by (own := [("atom", 4), ("attribute", 5)]) (N := N_is_query) (sc := defScope s_is_query) (by decide +kernel)) (by decide) gd_name (gw_name (by decide)) gd_name (gw_name (by decide)) (fun _ _ _ _ _ => pg_name (i := 4) sc_is_query.nd rfl (by first | exact Or.inl rfl | exact Or.inr rfl) (by first | exact Or.inr rfl | exact Or.inl rfl)) (fun _ _ _ _ _ => dts_nil) (fun _ _ _ _ _ => (df_seq rfl (dv 4))) (fun _ _ _ _ _ => pg_name (i := 5) sc_is_query.nd rfl (by first | exact Or.inl rfl | exact Or.inr rfl) (by first | exact Or.inr rfl | exact Or.inl rfl)) (fun _ _ _ _ _ => dts_nil) (fun _ _ _ _ _ => (dv 5)))))
    (ds_one (ds_ret (dp_all (own := [("attribute", 5)]) (k := 4) tb.1 (hr.mono (by decide)) T.b_all tb.2 rfl sc_is_query.nd (Gx.gok_by (own := [("attribute", 5)]) (N := N_is_query) (sc := defScope s_is_query) (by decide +kernel)) (d_rng1 (.inl rfl) T.b_range (dv1 1)) gd_name (gw_name (by decide)) (fun _ _ _ _ _ _ _ _ _ => pg_name (i := 5) sc_is_query.nd rfl (by first | exact Or.inl rfl | exact Or.inr rfl) (by first | exact Or.inr rfl | exact Or.inl rfl)) (fun _ _ _ _ _ _ _ _ hrg => dts_nil) (fun _ _ _ _ _ _ _ _ hrg => (dp_cmp (op_inP (u100 hrg)) (opD_P rfl) (dv1 5) (dv1 3)))))))))))), fun ds hl γ PP XX h => ?_⟩
  match ds, hl, h with
  | [d], _, ⟨h1, h2⟩ =>
    have h2 : PP (.bl (isQuery d)) γ := h2
    by_cases hp : isPair d = true
    case neg =>
      have e1 : isPair d = false := Bool.eq_false_iff.mpr hp
      have e2 : isQuery d = false := isQuery_pair e1
      rw [e2] at h2
      simp [F_is_pair, e1, h1]
      exact h2
    obtain ⟨m, a, rfl⟩ := isPair_shape hp
    simp only [pureD, pureL] at h1
    obtain ⟨_, hm, ha, _⟩ := h1
    simp [F_is_pair, F_is_number, isPair, pureD, pureL, hm, ha]
    refine ⟨by decide, ?_⟩
    cases hn : isNum m with
    | false =>
      rw [isQuery_num hn] at h2
      simpa using h2
    | true =>
      obtain ⟨many, rfl⟩ := isNum_int m hn
      by_cases c1 : 1 ≤ many
      case neg =>
        rw [isQuery_lo c1] at h2
        simp [c1]
        exact h2
      by_cases c2 : many ≤ 8
      case neg =>
        rw [isQuery_hi c2] at h2
        simp [c1, c2]
        exact h2
      match a, ha, h2 with
      | .non, ha, h2 | .bl _, ha, h2 | .int _, ha, h2 | .str _, ha, h2 | .lst _, ha, h2 | .emp, ha, h2 | .dii _, ha, h2 => simp [c1, c2]; exact h2
      | .ob _, ha, _ => exact ha.elim
      | .tup atoms, ha, h2 =>
      obtain ⟨ha1, ha2⟩ := ha
      by_cases c3 : 1 ≤ atoms.length
      case neg =>
        have c3' : ¬ (1 : Int) ≤ atoms.length := by omega
        simp [isQuery, hn, c3] at h2
        simp [c1, c2, c3']
        exact h2
      by_cases c4 : atoms.length ≤ 8
      case neg =>
        have c3' : (1 : Int) ≤ atoms.length := by omega
        have c4' : ¬ (atoms.length : Int) ≤ 8 := by omega
        simp [isQuery, hn, c4] at h2
        simp [c1, c2, c3', c4']
        exact h2
      have c3' : (1 : Int) ≤ atoms.length := by omega
      have c4' : (atoms.length : Int) ≤ 8 := by omega
      simp [c1, c2, c3', c4']
      refine allM_pure (i := 4) (p := fun a => areBelow many a && lenPos a) rfl rfl (fun x hx γ PP' h => ?_) ?_
      · simp [F_are_below]
        refine ⟨pureL_mem ha2 hx, ?_⟩
        cases hb : areBelow many x with
        | false => simp [hb] at h ⊢; exact h
        | true =>
          obtain ⟨ns, rfl, _⟩ := areBelow_shape hb
          simp [hb, lenPos] at h ⊢
          exact h
      · simp only [if_false, Bool.false_eq_true]
        cases hall : atoms.all (fun a => areBelow many a && lenPos a) with
        | false => simp [isQuery, hall] at h2; simpa using h2
        | true =>
          simp only [if_true]
          have hall' := List.all_eq_true.mp hall
          have shape : ∀ x ∈ atoms, ∃ ns : List Int, x = .tup (ns.map .int) ∧ (ns.length : Int) ≤ many := fun x hx => by
            have := hall' x hx
            simp only [Bool.and_eq_true] at this
            obtain ⟨ns, e, hc, hb⟩ := areBelow_shape this.1
            have := chain_len (lo := 0) (hi := many) hc hb
            exact ⟨ns, e, by omega⟩
          have flat : ∀ (l : List D), (∀ x ∈ l, ∃ ns : List Int, x = .tup (ns.map .int) ∧ (ns.length : Int) ≤ many) → (l.flatMap fun x => match x with | .tup xs => xs | _ => []) = (flatI l).map .int ∧ ((flatI l).length : Int) ≤ l.length * many := fun l => by
            induction l with
            | nil => intro _; exact ⟨rfl, by simp [flatI]⟩
            | cons x l ih =>
              intro h
              obtain ⟨ns, rfl, hl⟩ := h x List.mem_cons_self
              obtain ⟨i1, i2⟩ := ih fun y hy => h y (List.mem_cons_of_mem _ hy)
              have e1 : intsD (ns.map .int) = some ns := by
                have : ∀ (ns : List Int), intsD (ns.map .int) = some ns := fun ns => by
                  induction ns with
                  | nil => rfl
                  | cons n ns ih => simp [intsD, ih]
                exact this ns
              refine ⟨?_, ?_⟩
              · rw [List.flatMap_cons, i1]
                simp [flatI, e1]
              · simp only [flatI, e1, Option.getD_some, List.length_append, List.length_cons]
                have : ((l.length + 1 : Nat) : Int) * many = (l.length : Int) * many + many := by
                  rw [Int.natCast_add, Int.add_mul]; simp
                rw [this]
                omega
          obtain ⟨f1, f2⟩ := flat atoms shape
          have f3 : (flatI atoms).length ≤ 64 := by
            have : (atoms.length : Int) * many ≤ 8 * 8 := Int.mul_le_mul c4' c2 (by omega) (by omega)
            omega
          refine comp2_map (i := 4) (rows := fun x => match x with | .tup xs => xs | _ => []) rfl rfl (fun x hx γ PP' h => ?_) (fun x hx γ PP' h => ?_) ?_ ?_
          · obtain ⟨ns, rfl, _⟩ := shape x hx
            simp at h ⊢
            exact h
          · obtain ⟨ns, rfl, _⟩ := shape x hx
            refine compM_map (i := 5) (p := id) rfl rfl (fun y hy γ PP'' h => ?_) ?_
            · simp at h ⊢
              exact h
            · rw [List.map_id]
              exact h
          · rw [f1, List.length_map]
            have : (100 : Nat) ≤ sizeLine := by decide
            omega
          · rw [f1]
            refine ⟨by omega, ?_⟩
            refine allM_pure (i := 5) (p := fun d => match d with | .int k => (flatI atoms).contains k | _ => false) rfl rfl (fun x hx γ PP' h => ?_) ?_
            · obtain ⟨k, hk, rfl⟩ := rangeD_mem hx
              have dd := depth_ints (flatI atoms)
              simp [toPyL_int, PyData.depth] at h ⊢
              refine ⟨⟨_, rfl, by omega⟩, ?_⟩
              rw [inF_ints]
              simpa using h
            · simp only [if_false, Bool.false_eq_true]
              have e2 : (rangeD 0 many).all (fun d => match d with | .int k => (flatI atoms).contains k | _ => false) = isQuery (.tup [.int many, .tup atoms]) := by
                have d1 : decide (1 ≤ many) = true := decide_eq_true c1
                have d2 : decide (many ≤ 8) = true := decide_eq_true c2
                have d3 : decide (1 ≤ atoms.length) = true := decide_eq_true c3
                have d4 : decide (atoms.length ≤ 8) = true := decide_eq_true c4
                simp only [isQuery, hn, d1, d2, d3, d4, hall, Bool.true_and]
                unfold rangeD
                rw [List.all_map, Int.sub_zero]
                congr 1
                funext k
                show (flatI atoms).contains (0 + (k : Int)) = _
                rw [Int.zero_add]
              rw [e2]
              exact h2

abbrev s_check_query : Stmt := top 14
abbrev N_check_query : List Str := ["query"]
theorem sc_check_query : FnScope N_check_query ["query"] (defScope s_check_query) := ⟨rfl, rfl, rfl, by decide +kernel, rfl, by decide +kernel, by decide +kernel⟩
theorem ok_check_query {P : Program} {w : World} {W : Wd} {mg : Str → Option Value} {base : Heap} (T : Txt W mg) {f cc : Addr} {fd : FuncData} (C_is_query : Cal P w W mg base "is_query" 6 1 F_is_query) {A_BadQuery : Addr} (E_BadQuery : Exn W mg "BadQuery" A_BadQuery) (Fn : FunC W.K "check_query" "check_query" s_check_query f cc fd) :
    FnOk P w W.K mg base (L2.CX P w) 7 f fd ["query"] (spD W 1 (F_check_query A_BadQuery)) := by
  obtain ⟨tL, hL⟩ := T.g_LIMIT
  refine okC (k := 6) Fn sc_check_query (by decide) fun A outer s H E hr => ⟨_, (ds_one (ds_if (dt_not (dt_val (dp_call C_is_query.ok (hr.mono (by decide)) C_is_query.mg C_is_query.kp C_is_query.bd pass_cx (dpa_cons (dv 0) dpa_nil)))) (ds_one (ds_raise rfl takes_cx PySem.F.excBase_ValueError E_BadQuery.ex E_BadQuery.mg E_BadQuery.kp (raises_own E_BadQuery.sub E_BadQuery.ty))) ds_nil)), fun ds hl γ PP XX h => ?_⟩
  match ds, hl, h with
  | [d], _, ⟨h1, h2⟩ =>
    simp [F_is_query, h1]
    cases hq : isQuery d with
    | true =>
      simp [hq] at h2 ⊢
      exact h2
    | false =>
      simp [hq] at h2 ⊢
      exact h2

abbrev s_is_table : Stmt := top 15
abbrev N_is_table : List Str := ["width", "value", "row"]
theorem sc_is_table : FnScope N_is_table ["width", "value"] (defScope s_is_table) := ⟨rfl, rfl, rfl, by decide +kernel, rfl, by decide +kernel, by decide +kernel⟩
theorem ok_is_table {P : Program} {w : World} {W : Wd} {mg : Str → Option Value} {base : Heap} (T : Txt W mg) {f cc : Addr} {fd : FuncData} {PT : Addr} (tb : W.Tb PT (("is_table" : Str) ++ ".<locals>." ++ "<genexpr>") ∧ GxR.TabB base mg cc PT) (C_are_from : Cal P w W mg base "are_from" 4 3 F_are_from) (C_is_ascending : Cal P w W mg base "is_ascending" 3 1 F_is_ascending) (Fn : FunC W.K "is_table" "is_table" s_is_table f cc fd) :
    FnOk P w W.K mg base (L2.CX P w) 6 f fd ["width", "value"] (spD W 2 F_is_table) := by
  obtain ⟨tL, hL⟩ := T.g_LIMIT
  refine okC (k := 5) Fn sc_is_table (by decide) fun A outer s H E hr => ⟨_, (ds_cons (ds_if (dt_not (dt_val (dp_isi (c := "tuple") rfl T.b_isinstance T.b_tuple (dv1 1)))) (ds_one (ds_ret dp_bl)) ds_nil)
    (ds_one (ds_ret (dp_and (dp_all (own := [("row", 2)]) (k := 4) tb.1 (hr.mono (by decide)) T.b_all tb.2 rfl sc_is_table.nd (Gx.gok_by (own := [("row", 2)]) (N := N_is_table) (sc := defScope s_is_table) (by decide +kernel)) (di_seq rfl (dv1 1)) gd_name (gw_name (by decide)) (fun _ _ _ _ _ _ _ _ _ => pg_name (i := 2) sc_is_table.nd rfl (by first | exact Or.inl rfl | exact Or.inr rfl) (by first | exact Or.inr rfl | exact Or.inl rfl)) (fun _ _ _ _ _ _ _ _ hrg => dts_nil) (fun _ _ _ _ _ _ _ _ hrg => (dp_call C_are_from.ok (hrg.mono (by decide)) C_are_from.mg C_are_from.kp C_are_from.bd passL (dpa_cons (dv 2) (dpa_cons (dv 0) (dpa_cons dp_int dpa_nil)))))) (dp_one (dp_call C_is_ascending.ok (hr.mono (by decide)) C_is_ascending.mg C_is_ascending.kp C_is_ascending.bd pass_cx (dpa_cons (dv 1) dpa_nil))))))), fun ds hl γ PP XX h => ?_⟩
  match ds, hl, h with
  | [.int n, d], _, ⟨h1, h2⟩ =>
    cases d with
    | tup xs =>
      simp only [M.run_pure, isTable] at h2
      simp only [pureD] at h1
      simp
      refine allM_pure (i := 2) (p := areFrom n 0) rfl rfl (fun x hx γ PP h => ?_) ?_
      · simp [F_are_from]
        exact ⟨pureL_mem h1.2 hx, h⟩
      · cases ha : xs.all (areFrom n 0) with
        | false =>
          rw [ha, Bool.false_and] at h2
          simp [h2]
        | true =>
          rw [ha, Bool.true_and] at h2
          obtain ⟨b, hb⟩ := ascD_rows ha
          simp [F_is_ascending, hb]
          refine ⟨h1.1, ?_⟩
          simp [asc1, hb] at h2
          exact h2
    | ob v => exact h1.elim
    | pr v u => exact h1.elim
    | dil v u => exact h1.elim
    | exn v => exact h1.elim
    | _ => exact h2

abbrev s_is_store : Stmt := top 16
abbrev N_is_store : List Str := ["query", "value", "atoms", "k"]
theorem sc_is_store : FnScope N_is_store ["query", "value"] (defScope s_is_store) := ⟨rfl, rfl, rfl, by decide +kernel, rfl, by decide +kernel, by decide +kernel⟩
theorem ok_is_store {P : Program} {w : World} {W : Wd} {mg : Str → Option Value} {base : Heap} (T : Txt W mg) {f cc : Addr} {fd : FuncData} {PT A_BadQuery : Addr} (tb : W.Tb PT (("is_store" : Str) ++ ".<locals>." ++ "<genexpr>") ∧ GxR.TabB base mg cc PT) (C_check_query : Cal P w W mg base "check_query" 7 1 (F_check_query A_BadQuery)) (C_is_table : Cal P w W mg base "is_table" 6 2 F_is_table) (Fn : FunC W.K "is_store" "is_store" s_is_store f cc fd) :
    FnOk P w W.K mg base (L2.CX P w) 8 f fd ["query", "value"] (spD W 2 (F_is_store A_BadQuery)) := by
  obtain ⟨tL, hL⟩ := T.g_LIMIT
  refine okC (k := 7) Fn sc_is_store (by decide) fun A outer s H E hr => ⟨_, (ds_cons (ds_expr (dp_1 (dp_call C_check_query.ok (hr.mono (by decide)) C_check_query.mg C_check_query.kp C_check_query.bd pass_cx (dpa_cons (dv 0) dpa_nil))))
    (ds_cons (ds_set 2 sc_is_store.nd rfl (dp_ix rfl (dv1 0) (dp_1 dp_int)))
    (ds_cons (ds_if (PW.pt (dw_or (dt_not (dt_val (dp_isi (c := "tuple") rfl T.b_isinstance T.b_tuple (dv1 1)))) (dw_or1 (dt_cmp (op_neP (u100 hr)) (opD_P rfl) (dp_1 (dp_len rfl T.b_len (dv1 1))) (dp_1 (dp_len rfl T.b_len (dv1 2))))))) (ds_one (ds_ret dp_bl)) ds_nil)
    (ds_one (ds_ret (dp_all (own := [("k", 3)]) (k := 6) tb.1 (hr.mono (by decide)) T.b_all tb.2 rfl sc_is_store.nd (Gx.gok_by (own := [("k", 3)]) (N := N_is_store) (sc := defScope s_is_store) (by decide +kernel)) (d_rng1 (.inl rfl) T.b_range (dp_1 (dp_len rfl T.b_len (dv1 2)))) gd_name (gw_name (by decide)) (fun _ _ _ _ _ _ _ _ _ => pg_name (i := 3) sc_is_store.nd rfl (by first | exact Or.inl rfl | exact Or.inr rfl) (by first | exact Or.inr rfl | exact Or.inl rfl)) (fun _ _ _ _ _ _ _ _ hrg => dts_nil) (fun _ _ _ _ _ _ _ _ hrg => (dp_call C_is_table.ok (hrg.mono (by decide)) C_is_table.mg C_is_table.kp C_is_table.bd passL (dpa_cons (dp_len rfl T.b_len (dp_1 (dp_ix rfl (dv1 2) (dv1 3)))) (dpa_cons (dp_ix rfl (dv1 1) (dv1 3)) dpa_nil)))))))))), fun ds hl γ PP XX h => ?_⟩
  match ds, hl, h with
  | [q, d], _, ⟨⟨h1, h1'⟩, h2⟩ =>
    simp [F_check_query, h1]
    cases hq : isQuery q with
    | false =>
      simp [hq] at h2 ⊢
      exact h2
    | true =>
      simp [hq] at h2 ⊢
      obtain ⟨many, atoms, rfl, _, _, _, al8, hat, _⟩ := isQuery_shape hq
      simp
      cases d with
      | tup tabs =>
        simp
        by_cases hlen : tabs.length = atoms.length
        case neg =>
          have e : ¬ (tabs.length : Int) = atoms.length := by omega
          have e3 : isStore (.tup [.int many, .tup atoms]) (.tup tabs) = false := by simp [isStore, atomsOf, hlen]
          rw [e3] at h2
          rw [if_neg e]
          exact h2
        have e3 : isStore (.tup [.int many, .tup atoms]) (.tup tabs) = (List.range atoms.length).all (fun k => isTable (lenOf (atoms.getD k .non)) (tabs.getD k .non)) := by simp only [isStore, atomsOf, hlen, decide_true, Bool.true_and]
        rw [e3] at h2
        rw [if_pos (by omega)]
        refine ⟨by have : (8 : Nat) ≤ sizeLine := by decide
                   omega, ?_⟩
        refine allM_pure (i := 3) (p := fun x => match x with | .int k => isTable (lenOf (atoms.getD k.toNat .non)) (tabs.getD k.toNat .non) | _ => false) rfl rfl (fun x hx γ PP' h => ?_) ?_
        · obtain ⟨k, hk, rfl⟩ := rangeD_mem hx
          have hk1 : k < atoms.length := by omega
          have hk2 : k < tabs.length := by omega
          rw [show (0 : Int) + (k : Int) = (k : Int) by omega] at h ⊢
          have g1 : atoms[k]? = some atoms[k] := List.getElem?_eq_getElem hk1
          have g2 : tabs[k]? = some tabs[k] := List.getElem?_eq_getElem hk2
          obtain ⟨ns, e, _⟩ := areBelow_shape (hat _ (List.getElem_mem hk1)).1
          rw [e] at g1
          simp only [pureD] at h1'
          simp [g1, g2, lenOf] at h
          simp [atN g1, atN g2, F_is_table]
          exact ⟨pureL_mem h1'.2 (List.getElem_mem hk2), h⟩
        · simp only [if_false, Bool.false_eq_true]
          have e2 : (rangeD 0 atoms.length).all (fun x => match x with | .int k => isTable (lenOf (atoms.getD k.toNat .non)) (tabs.getD k.toNat .non) | _ => false) = (List.range atoms.length).all (fun k => isTable (lenOf (atoms.getD k .non)) (tabs.getD k .non)) := by
            unfold rangeD
            rw [List.all_map, Int.sub_zero, Int.toNat_natCast]
            congr 1
            funext k
            show isTable (lenOf (atoms.getD (0 + (k : Int)).toNat .non)) (tabs.getD (0 + (k : Int)).toNat .non) = _
            rw [show (0 + (k : Int)).toNat = k by omega]
          rw [e2]
          exact h2
      | ob v => exact h1'.elim
      | pr v u => exact h1'.elim
      | dil v u => exact h1'.elim
      | exn v => exact h1'.elim
      | _ => simp; exact h2

abbrev s_check_store : Stmt := top 17
abbrev N_check_store : List Str := ["query", "store"]
theorem sc_check_store : FnScope N_check_store ["query", "store"] (defScope s_check_store) := ⟨rfl, rfl, rfl, by decide +kernel, rfl, by decide +kernel, by decide +kernel⟩
theorem ok_check_store {P : Program} {w : World} {W : Wd} {mg : Str → Option Value} {base : Heap} (T : Txt W mg) {f cc : Addr} {fd : FuncData} {A_BadQuery : Addr} (C_is_store : Cal P w W mg base "is_store" 8 2 (F_is_store A_BadQuery)) {A_BadStore : Addr} (E_BadStore : Exn W mg "BadStore" A_BadStore) (Fn : FunC W.K "check_store" "check_store" s_check_store f cc fd) :
    FnOk P w W.K mg base (L2.CX P w) 9 f fd ["query", "store"] (spD W 2 (F_check_store A_BadQuery A_BadStore)) := by
  obtain ⟨tL, hL⟩ := T.g_LIMIT
  refine okC (k := 8) Fn sc_check_store (by decide) fun A outer s H E hr => ⟨_, (ds_one (ds_if (dt_not (dt_val (dp_call C_is_store.ok (hr.mono (by decide)) C_is_store.mg C_is_store.kp C_is_store.bd pass_cx (dpa_cons (dv 0) (dpa_cons (dv 1) dpa_nil))))) (ds_one (ds_raise rfl takes_cx PySem.F.excBase_ValueError E_BadStore.ex E_BadStore.mg E_BadStore.kp (raises_own E_BadStore.sub E_BadStore.ty))) ds_nil)), fun ds hl γ PP XX h => ?_⟩
  match ds, hl, h with
  | [q, d], _, ⟨⟨h1, h1'⟩, h2⟩ =>
    simp [F_is_store, h1, h1']
    cases hq : isQuery q with
    | false =>
      simp [hq] at h2 ⊢
      exact h2
    | true =>
      simp [hq] at h2 ⊢
      cases hs : isStore q d with
      | true => simp [hs] at h2 ⊢; exact h2
      | false => simp [hs] at h2 ⊢; exact h2

end Ck

set_option maxRecDepth 100000
set_option maxHeartbeats 8000000
namespace Ck
open PySem PySem.Spec PyProof.Rows L2 Dl

abbrev s__law_blended : Stmt := top 33
abbrev N__law_blended : List Str := ["state", "turn", "found", "prime", "blend", "cell"]
theorem sc__law_blended : FnScope N__law_blended ["state"] (defScope s__law_blended) := ⟨rfl, rfl, rfl, by decide +kernel, rfl, by decide +kernel, by decide +kernel⟩
theorem ok__law_blended {P : Program} {w : World} {W : Wd} {mg : Str → Option Value} {base : Heap} (T : Txt W mg) {f cc : Addr} {fd : FuncData} {st lg lc : Addr} {cs : List Int} (F_great : FldL W st lg "great" 0) (F_left : FldI W st "left" 1) (F_turn : FldI W st "turn" 2) (F_cells : FldC W st lc "cells" (cs.map .int)) (Fn : FunC W.K "_law_blended" "_law_blended" s__law_blended f cc fd) :
    FnOk P w W.K mg base (L2.CX P w) 1 f fd ["state"] (spD W 1 (F_blended st)) := by
  obtain ⟨tL, hL⟩ := T.g_LIMIT
  refine okC (k := 0) Fn sc__law_blended (by decide) fun A outer s H E hr => ⟨_, (ds_cons (ds_par (i := 1) (j := 2) rfl sc__law_blended.nd (dpa_cons (dp_op op_add opD_add (dp_1 (dp_fldI F_turn (u100 hr) (dv 0))) (dp_1 dp_int)) (dpa_cons dp_int dpa_nil)))
    (ds_cons (ds_putI F_turn (u100 hr) (dv 0) (dv 1))
    (ds_cons (ds_for pass_own rfl (df_seq rfl (dp_lock (do_lst (dpa_cons dp_int (dpa_cons dp_int (dpa_cons dp_int dpa_nil)))))) (pg_name (i := 3) sc__law_blended.nd rfl (by first | exact Or.inl rfl | exact Or.inr rfl) (by first | exact Or.inr rfl | exact Or.inl rfl)) gd_name (ds_cons (ds_set 4 sc__law_blended.nd rfl (dp_op op_add opD_add (dp_1 (dp_op op_mul opD_mul (dp_1 dp_int) (dv1 1))) (dp_1 (dp_op op_fdivW opD_div (dv1 3) (dp_1 dp_int)))))
    (ds_cons (ds_for pass_own rfl (df_fldC F_cells rfl (u100 hr) (dv 0)) (pg_name (i := 5) sc__law_blended.nd rfl (by first | exact Or.inl rfl | exact Or.inr rfl) (by first | exact Or.inr rfl | exact Or.inl rfl)) gd_name (ds_one (ds_set 4 sc__law_blended.nd rfl (dp_op op_mod opD_mod (dp_1 (dp_intOf T.b_int (dp_1 (dp_op op_add opD_add (dp_1 (dp_op op_add opD_add (dp_1 (dp_op op_mul opD_mul (dv1 4) (dp_1 dp_int))) (dv1 5))) (dv1 1))))) (dv1 3)))))
    (ds_one (ds_set 2 sc__law_blended.nd rfl (dp_op op_add opD_add (dp_1 (dp_op op_mul opD_mul (dv1 2) (dp_1 dp_int))) (dp_1 (dp_op op_mod opD_mod (dp_1 (dp_intOf T.b_int (dp_1 (dp_op op_pow opD_pow (dv1 4) (dp_1 dp_int))))) (dv1 3)))))))))
    (ds_one (ds_ret (dv 2)))))), fun ds hl γ PP XX h => ?_⟩
  match ds, hl, h with
  | [d], _, h =>
    simp [F_blended] at h
    obtain ⟨rfl, k, hk, ⟨gs, l, t, rfl, hg, h0, h1, h2⟩, q⟩ := h
    simp
    refine ⟨by decide, ?_⟩
    refine forM_inv (I := fun e γ => γ = [.lst (gs.map .int), .int l, .int (t + 1)] ∧ ∃ (f : Int) (x3 x4 x5 : Option SD), 0 ≤ f ∧ e = [some (.sh (.ob (.ref st))), some (.sh (.int (t + 1))), some (.sh (.int f)), x3, x4, x5]) (fun x hx e γ hi => ?_) ⟨rfl, 0, none, none, none, by omega, rfl⟩ (fun e γ hi => ?_)
    · obtain ⟨rfl, f, x3, x4, x5, hf, rfl⟩ := hi
      have hp : ∃ p : Int, x = .int p ∧ 0 < p ∧ p < 2 ^ 32 := by
        simp at hx
        rcases hx with rfl | rfl | rfl <;> exact ⟨_, rfl, by decide, by decide⟩
      obtain ⟨p, rfl, p0, p1⟩ := hp
      simp
      have hd : 0 ≤ p / 83 ∧ p / 83 < 2 ^ 32 := by omega
      refine ⟨.inl (by decide), ⟨by decide, by decide +kernel⟩, ?_⟩
      refine forM_inv (I := fun e γ => γ = [.lst (gs.map .int), .int l, .int (t + 1)] ∧ ∃ (b : Int) (x5 : Option SD), 0 ≤ b ∧ b < 2 ^ 63 ∧ e = [some (.sh (.ob (.ref st))), some (.sh (.int (t + 1))), some (.sh (.int f)), some (.sh (.int p)), some (.sh (.int b)), x5]) (fun x hx e γ hi => ?_) ⟨rfl, _, x5, by omega, by omega, rfl⟩ (fun e γ hi => ?_)
      · obtain ⟨rfl, b, x5, b0, b1, rfl⟩ := hi
        obtain ⟨c, _, rfl⟩ := List.mem_map.mp hx
        simp
        have hm := Int.emod_nonneg (b * 69621 + c + (t + 1)) (by omega : p ≠ 0)
        have hm2 := Int.emod_lt_of_pos (b * 69621 + c + (t + 1)) p0
        exact ⟨.inr (by decide), p0, hm, by omega⟩
      · obtain ⟨rfl, b, x5, b0, b1, rfl⟩ := hi
        simp
        have hm := Int.emod_nonneg (b ^ 5) (by omega : p ≠ 0)
        refine ⟨.inr (by decide), ⟨by decide, by decide, by omega⟩, p0, by omega⟩
    · obtain ⟨rfl, f, x3, x4, x5, hf, rfl⟩ := hi
      simp
      exact q f _ hf ⟨gs, l, t + 1, rfl, hg, h0, by omega, by omega⟩ rfl rfl

abbrev s__law_draw : Stmt := top 34
abbrev N__law_draw : List Str := ["state", "size_here", "found"]
theorem sc__law_draw : FnScope N__law_draw ["state", "size_here"] (defScope s__law_draw) := ⟨rfl, rfl, rfl, by decide +kernel, rfl, by decide +kernel, by decide +kernel⟩
theorem ok__law_draw {P : Program} {w : World} {W : Wd} {mg : Str → Option Value} {base : Heap} (T : Txt W mg) {f cc : Addr} {fd : FuncData} {st : Addr} (C__law_blended : Cal P w W mg base "_law_blended" 1 1 (F_blended st)) {lg lc : Addr} {cs : List Int} (F_great : FldL W st lg "great" 0) (F_left : FldI W st "left" 1) (F_turn : FldI W st "turn" 2) (F_cells : FldC W st lc "cells" (cs.map .int)) (Fn : FunC W.K "_law_draw" "_law_draw" s__law_draw f cc fd) :
    FnOk P w W.K mg base (L2.CX P w) 2 f fd ["state", "size_here"] (spD W 2 (F_draw st)) := by
  obtain ⟨tL, hL⟩ := T.g_LIMIT
  refine okC (k := 1) Fn sc__law_draw (by decide) fun A outer s H E hr => ⟨_, (ds_cons (ds_if (dt_cmp (op_eqP (u100 hr)) (opD_P rfl) (dp_1 (dp_fldI F_left (u100 hr) (dv 0))) (dp_1 dp_int)) (ds_one (ds_putI F_left (u100 hr) (dv 0) (dp_if (dt_neL F_great (u100 hr) (dv 0)) (dp_popL F_great (u100 hr) (dv 0)) (dp_call C__law_blended.ok (hr.mono (by decide)) C__law_blended.mg C__law_blended.kp C__law_blended.bd pass_cx (dpa_cons (dv 0) dpa_nil))))) ds_nil)
    (ds_cons (ds_set 2 sc__law_draw.nd rfl (dp_op op_mod opD_mod (dp_1 (dp_intOf T.b_int (dp_1 (dp_fldI F_left (u100 hr) (dv 0))))) (dv1 1)))
    (ds_cons (ds_putI F_left (u100 hr) (dv 0) (dp_op op_fdivW opD_div (dp_1 (dp_fldI F_left (u100 hr) (dv 0))) (dv1 1)))
    (ds_one (ds_ret (dv 2)))))), fun ds hl γ PP XX h => ?_⟩
  match ds, hl, h with
  | [d, .int n], _, h =>
    simp [F_draw] at h
    obtain ⟨rfl, n0, n1, k, hk, ⟨gs, l, t, rfl, hg, h0, h1, h2⟩, q⟩ := h
    have nd : CDivW 0 n := ⟨n0, Nat.lt_trans (PySem.Flt.log2_lt_of (k := 64) (by decide) (by omega)) (by decide)⟩
    have fin : ∀ (l' : Int) (gs' : List Int) (t' : Int), 0 ≤ l' → (∀ g ∈ gs', 0 ≤ g) → 0 ≤ t' → t' ≤ k + 1 → PP (.int (l' % n)) [.lst (gs'.map .int), .int (l' / n), .int t'] := fun l' gs' t' a1 a2 a3 a4 =>
      q _ _ (Int.emod_nonneg _ (by omega)) (Int.emod_lt_of_pos _ n0) ⟨gs', l' / n, t', rfl, a2, Int.ediv_nonneg a1 (by omega), a3, a4⟩
    simp
    by_cases hl0 : l = 0
    · subst hl0
      simp
      cases gs with
      | nil =>
        simp [F_blended]
        refine ⟨t, by omega, ⟨[], 0, t, rfl, by simp, by omega, h1, by omega⟩, fun a γ' ha hD e0 e1 => ?_⟩
        obtain ⟨gs2, l2, t2, rfl, hg2, a0, a1, a2⟩ := hD
        simp
        simp at e0
        subst e0
        exact ⟨n0, nd, fin a [] t2 ha (by simp) a1 (by omega)⟩
      | cons g gs =>
        simp
        exact ⟨.int g, gs.map .int, ⟨rfl, rfl⟩, _, rfl, n0, nd, fin g gs t (hg g (by simp)) (fun x hx => hg x (by simp [hx])) h1 (by omega)⟩
    · have e : ¬ (l == 0) = true := by simpa using hl0
      simp [hl0]
      exact ⟨n0, nd, fin l gs t h0 hg h1 (by omega)⟩

abbrev s__law_pick : Stmt := top 35
abbrev N__law_pick : List Str := ["state", "several"]
theorem sc__law_pick : FnScope N__law_pick ["state", "several"] (defScope s__law_pick) := ⟨rfl, rfl, rfl, by decide +kernel, rfl, by decide +kernel, by decide +kernel⟩
theorem ok__law_pick {P : Program} {w : World} {W : Wd} {mg : Str → Option Value} {base : Heap} (T : Txt W mg) {f cc : Addr} {fd : FuncData} {st : Addr} (C__law_draw : Cal P w W mg base "_law_draw" 2 2 (F_draw st)) (Fn : FunC W.K "_law_pick" "_law_pick" s__law_pick f cc fd) :
    FnOk P w W.K mg base (L2.CX P w) 3 f fd ["state", "several"] (spD W 2 (F_pick st)) := by
  obtain ⟨tL, hL⟩ := T.g_LIMIT
  refine okC (k := 2) Fn sc__law_pick (by decide) fun A outer s H E hr => ⟨_, (ds_one (ds_ret (dp_ix rfl (dv1 1) (dp_1 (dp_call C__law_draw.ok (hr.mono (by decide)) C__law_draw.mg C__law_draw.kp C__law_draw.bd pass_cx (dpa_cons (dv 0) (dpa_cons (dp_len rfl T.b_len (dv1 1)) dpa_nil))))))), fun ds hl γ PP XX h => ?_⟩
  match ds, hl, h with
  | [d, .lst xs], _, h => 
    simp [F_pick] at h
    obtain ⟨rfl, n0, n1, k, hk, hD, q⟩ := h
    have hl : 0 < xs.length := List.length_pos_iff.mpr n0
    simp [F_draw]
    refine ⟨hl, by omega, k, hk, hD, fun a γ' a0 a1 hD2 => ?_⟩
    obtain ⟨m, rfl⟩ : ∃ m : Nat, a = m := ⟨a.toNat, by omega⟩
    have hm : m < xs.length := by omega
    simp [atN (List.getElem?_eq_getElem hm)]
    exact q _ γ' (List.getElem_mem hm) hD2
  | [d, .tup xs], _, h => 
    simp [F_pick] at h
    obtain ⟨rfl, n0, n1, k, hk, hD, q⟩ := h
    have hl : 0 < xs.length := List.length_pos_iff.mpr n0
    simp [F_draw]
    refine ⟨hl, by omega, k, hk, hD, fun a γ' a0 a1 hD2 => ?_⟩
    obtain ⟨m, rfl⟩ : ∃ m : Nat, a = m := ⟨a.toNat, by omega⟩
    have hm : m < xs.length := by omega
    simp [atN (List.getElem?_eq_getElem hm)]
    exact q _ γ' (List.getElem_mem hm) hD2

abbrev s__law_mixed : Stmt := top 36
abbrev N__law_mixed : List Str := ["state", "several", "left", "found"]
theorem sc__law_mixed : FnScope N__law_mixed ["state", "several"] (defScope s__law_mixed) := ⟨rfl, rfl, rfl, by decide +kernel, rfl, by decide +kernel, by decide +kernel⟩
theorem ok__law_mixed {P : Program} {w : World} {W : Wd} {mg : Str → Option Value} {base : Heap} (T : Txt W mg) {f cc : Addr} {fd : FuncData} {st : Addr} (C__law_draw : Cal P w W mg base "_law_draw" 2 2 (F_draw st)) (Fn : FunC W.K "_law_mixed" "_law_mixed" s__law_mixed f cc fd) :
    FnOk P w W.K mg base (L2.CX P w) 3 f fd ["state", "several"] (spD W 2 (F_mixed st)) := by
  obtain ⟨tL, hL⟩ := T.g_LIMIT
  refine okC (k := 2) Fn sc__law_mixed (by decide) fun A outer s H E hr => ⟨_, (ds_cons (ds_parO (i := 2) (j := 3) rfl sc__law_mixed.nd (do_listOf rfl T.b_list (dv1 1)) (do_lst dpa_nil))
    (ds_cons (ds_while pass_own (dt_cmp (op_neP (u100 hr)) (opD_P rfl) (dv1 2) (dp_1 (dp_lock (do_lst dpa_nil)))) (ds_one (ds_appPop 3 2 (dp_call C__law_draw.ok (hr.mono (by decide)) C__law_draw.mg C__law_draw.kp C__law_draw.bd pass_cx (dpa_cons (dv 0) (dpa_cons (dp_len rfl T.b_len (dv1 2)) dpa_nil))))))
    (ds_frz 3 (ds_one (ds_ret (dv 3)))))), fun ds hl γ PP XX h => ?_⟩
  match ds, hl, h with
  | [d, .lst xs], _, h => 
    simp [F_mixed] at h
    obtain ⟨rfl, hps, hlen, k, hk, hD, q⟩ := h
    simp
    refine ⟨fun m e γ => ∃ (lf fd : List D) (c : Int), m = lf.length ∧ (fd ++ lf).Perm xs ∧ Dr c γ ∧ c + lf.length = k + xs.length ∧ e = ([some (.sh (.ob (.ref st))), some (.sh (.lst xs)), some (.own lf), some (.own fd)] : DE), ⟨xs.length, xs, [], k, rfl, by simp, hD, rfl, rfl⟩, ?_⟩
    rintro m e γ ⟨lf, fd, c, rfl, hp, hD, hc, rfl⟩
    obtain ⟨ps, hps⟩ := hps
    obtain ⟨eps, hx⟩ := toPyL_map hps
    obtain ⟨ls, hls⟩ := toPyL_mem (xs := lf) fun x hx2 => ⟨_, hx x (hp.subset (List.mem_append_right _ hx2))⟩
    have ell : ls.length = lf.length := by rw [(toPyL_map hls).1, List.length_map]
    have hpl := hp.length_eq
    rw [List.length_append] at hpl
    simp [hls]
    refine ⟨Nat.min_le_right .. |> fun h => Nat.le_trans h (by decide), ?_⟩
    by_cases hlf : lf = []
    · subst hlf
      have : ls = [] := by simpa using ell
      subst this
      simp
      simp at hp hc
      exact q fd γ hp (by rw [← hc]; exact hD)
    · have hl0 : 0 < lf.length := List.length_pos_iff.mpr hlf
      have : ls ≠ [] := fun e => by rw [e] at ell; simp at ell; omega
      simp [this, F_draw]
      refine ⟨hl0, by omega, c, by omega, hD, fun a γ' a0 a1 hD2 => ?_⟩
      obtain ⟨m, rfl⟩ : ∃ m : Nat, a = m := ⟨a.toNat, by omega⟩
      have hm : m < lf.length := by omega
      simp [hm]
      have h20 : (2 ^ 20 : Nat) ≤ sizeLine := by decide
      have hel : (lf.eraseIdx m).length = lf.length - 1 := by rw [List.length_eraseIdx, if_pos hm]
      refine ⟨⟨by omega, by omega⟩, (lf.eraseIdx m).length, by omega, _, rfl, _, ?_, c + 1, hD2, by omega, rfl, rfl⟩
      rw [List.append_assoc]
      exact (List.Perm.append_left fd (erase_perm lf m hm)).trans hp
  | [d, .tup xs], _, h => 
    simp [F_mixed] at h
    obtain ⟨rfl, hps, hlen, k, hk, hD, q⟩ := h
    simp
    refine ⟨fun m e γ => ∃ (lf fd : List D) (c : Int), m = lf.length ∧ (fd ++ lf).Perm xs ∧ Dr c γ ∧ c + lf.length = k + xs.length ∧ e = ([some (.sh (.ob (.ref st))), some (.sh (.tup xs)), some (.own lf), some (.own fd)] : DE), ⟨xs.length, xs, [], k, rfl, by simp, hD, rfl, rfl⟩, ?_⟩
    rintro m e γ ⟨lf, fd, c, rfl, hp, hD, hc, rfl⟩
    obtain ⟨ps, hps⟩ := hps
    obtain ⟨eps, hx⟩ := toPyL_map hps
    obtain ⟨ls, hls⟩ := toPyL_mem (xs := lf) fun x hx2 => ⟨_, hx x (hp.subset (List.mem_append_right _ hx2))⟩
    have ell : ls.length = lf.length := by rw [(toPyL_map hls).1, List.length_map]
    have hpl := hp.length_eq
    rw [List.length_append] at hpl
    simp [hls]
    refine ⟨Nat.min_le_right .. |> fun h => Nat.le_trans h (by decide), ?_⟩
    by_cases hlf : lf = []
    · subst hlf
      have : ls = [] := by simpa using ell
      subst this
      simp
      simp at hp hc
      exact q fd γ hp (by rw [← hc]; exact hD)
    · have hl0 : 0 < lf.length := List.length_pos_iff.mpr hlf
      have : ls ≠ [] := fun e => by rw [e] at ell; simp at ell; omega
      simp [this, F_draw]
      refine ⟨hl0, by omega, c, by omega, hD, fun a γ' a0 a1 hD2 => ?_⟩
      obtain ⟨m, rfl⟩ : ∃ m : Nat, a = m := ⟨a.toNat, by omega⟩
      have hm : m < lf.length := by omega
      simp [hm]
      have h20 : (2 ^ 20 : Nat) ≤ sizeLine := by decide
      have hel : (lf.eraseIdx m).length = lf.length - 1 := by rw [List.length_eraseIdx, if_pos hm]
      refine ⟨⟨by omega, by omega⟩, (lf.eraseIdx m).length, by omega, _, rfl, _, ?_, c + 1, hD2, by omega, rfl, rfl⟩
      rw [List.append_assoc]
      exact (List.Perm.append_left fd (erase_perm lf m hm)).trans hp

abbrev s__law_cj_some : Stmt := top 41
abbrev N__law_cj_some : List Str := ["state", "many"]
theorem sc__law_cj_some : FnScope N__law_cj_some ["state", "many"] (defScope s__law_cj_some) := ⟨rfl, rfl, rfl, by decide +kernel, rfl, by decide +kernel, by decide +kernel⟩
theorem ok__law_cj_some {P : Program} {w : World} {W : Wd} {mg : Str → Option Value} {base : Heap} (T : Txt W mg) {f cc : Addr} {fd : FuncData} {st : Addr} (C__law_draw : Cal P w W mg base "_law_draw" 2 2 (F_draw st)) (C__law_mixed : Cal P w W mg base "_law_mixed" 3 2 (F_mixed st)) (Fn : FunC W.K "_law_cj_some" "_law_cj_some" s__law_cj_some f cc fd) :
    FnOk P w W.K mg base (L2.CX P w) 4 f fd ["state", "many"] (spD W 2 (F_some st)) := by
  obtain ⟨tL, hL⟩ := T.g_LIMIT
  refine okC (k := 3) Fn sc__law_cj_some (by decide) fun A outer s H E hr => ⟨_, (ds_one (ds_ret (dp_tupOf rfl T.b_tuple (dp_1 (dp_lock (do_sorted rfl (u100 hr) T.b_sorted (dp_1 (dp_slice rfl (dp_1 (dp_call C__law_mixed.ok (hr.mono (by decide)) C__law_mixed.mg C__law_mixed.kp C__law_mixed.bd pass_cx (dpa_cons (dv 0) (dpa_cons (dp_lock (do_listRg rfl T.b_list T.b_range (dv1 1))) dpa_nil)))) dpo_none (dpo_some (dp_1 (dp_op op_add opD_add (dp_1 dp_int) (dp_1 (dp_call C__law_draw.ok (hr.mono (by decide)) C__law_draw.mg C__law_draw.kp C__law_draw.bd pass_cx (dpa_cons (dv 0) (dpa_cons (dp_min rfl T.b_min (dv 1) dp_int) dpa_nil))))))))))))))), fun ds hl γ PP XX h => ?_⟩
  match ds, hl, h with
  | [d, .int many], _, h =>
    simp [F_some] at h
    obtain ⟨rfl, m1, m8, k, hk, hD, q⟩ := h
    simp [F_mixed]
    rw [rangeD_rng]
    have hrl := rng_len many
    refine ⟨⟨by omega, by omega⟩, ⟨_, toPyL_int _⟩, by rw [List.length_map]; omega, k, by rw [List.length_map]; omega, hD, fun ys γ' hp hD2 => ?_⟩
    obtain ⟨ns, rfl, hp2⟩ := perm_ints hp
    rw [List.length_map] at hD2
    have hlen := hp2.length_eq
    have hnd := hp2.nodup_iff.mpr (rng_nodup many)
    have hmem : ∀ n ∈ ns, 0 ≤ n ∧ n < many := fun n hn => rng_mem.mp (hp2.subset hn)
    simp [F_draw]
    refine ⟨by split <;> omega, by split <;> omega, _, by omega, hD2, fun a γ2 a0 a1 hD3 => ?_⟩
    have a3 : a < 3 ∧ a < many := by split at a1 <;> omega
    have hcut : cutD (ns.map .int) none (some (1 + a)) = (ns.take (1 + a).toNat).map .int := by
      rw [cut_to (by omega) (by rw [List.length_map]; omega), List.map_take]
    simp [hcut]
    have htl : (ns.take (1 + a).toNat).length = (1 + a).toNat := by rw [List.length_take]; omega
    refine ⟨?_, ?_⟩
    · rw [← List.map_take]
      exact sortOk_ints (by have : (100 : Nat) ≤ sizeLine := by decide
                            omega)
    · rw [← List.map_take, sort_ints]
      refine q _ γ2 (row_sorted (hnd.sublist (List.take_sublist _ _)) fun n hn => hmem n (List.mem_of_mem_take hn)) ?_ ?_ (hD3.le (by omega))
      · rw [List.length_mergeSort]; omega
      · rw [List.length_mergeSort]; omega

abbrev s__law_cj_query : Stmt := top 40
abbrev N__law_cj_query : List Str := ["state", "known", "many", "atoms_here", "turn", "lacking", "one", "atom"]
theorem sc__law_cj_query : FnScope N__law_cj_query ["state"] (defScope s__law_cj_query) := ⟨rfl, rfl, rfl, by decide +kernel, rfl, by decide +kernel, by decide +kernel⟩
theorem ok__law_cj_query {P : Program} {w : World} {W : Wd} {mg : Str → Option Value} {base : Heap} (T : Txt W mg) {f cc : Addr} {fd : FuncData} {st : Addr} (C__law_draw : Cal P w W mg base "_law_draw" 2 2 (F_draw st)) (C__law_pick : Cal P w W mg base "_law_pick" 3 2 (F_pick st)) (C__law_cj_some : Cal P w W mg base "_law_cj_some" 4 2 (F_some st)) (Fn : FunC W.K "_law_cj_query" "_law_cj_query" s__law_cj_query f cc fd) :
    FnOk P w W.K mg base (L2.CX P w) 5 f fd ["state"] (spD W 1 (F_query st)) := by
  obtain ⟨tL, hL⟩ := T.g_LIMIT
  refine okC (k := 4) Fn sc__law_cj_query (by decide) fun A outer s H E hr => ⟨_, (ds_cons (ds_set 1 sc__law_cj_query.nd rfl (dp_lock (do_lst (dpa_cons (dp_tup (dpa_cons dp_int (dpa_cons (dp_tup (dpa_cons (dp_tup (dpa_cons dp_int (dpa_cons dp_int dpa_nil))) (dpa_cons (dp_tup (dpa_cons dp_int (dpa_cons dp_int dpa_nil))) (dpa_cons (dp_tup (dpa_cons dp_int (dpa_cons dp_int dpa_nil))) dpa_nil)))) dpa_nil))) (dpa_cons (dp_tup (dpa_cons dp_int (dpa_cons (dp_tup (dpa_cons (dp_tup (dpa_cons dp_int dpa_nil)) (dpa_cons (dp_tup (dpa_cons dp_int (dpa_cons dp_int dpa_nil))) (dpa_cons (dp_tup (dpa_cons dp_int dpa_nil)) dpa_nil)))) dpa_nil))) (dpa_cons (dp_tup (dpa_cons dp_int (dpa_cons (dp_tup (dpa_cons (dp_tup (dpa_cons dp_int (dpa_cons dp_int dpa_nil))) (dpa_cons (dp_tup (dpa_cons dp_int (dpa_cons dp_int dpa_nil))) (dpa_cons (dp_tup (dpa_cons dp_int (dpa_cons dp_int dpa_nil))) (dpa_cons (dp_tup (dpa_cons dp_int (dpa_cons dp_int dpa_nil))) dpa_nil))))) dpa_nil))) dpa_nil))))))
    (ds_cons (ds_set 1 sc__law_cj_query.nd rfl (dp_op op_addU (opD_addU _ rfl) (dv1 1) (dp_1 (dp_lock (do_lst (dpa_cons (dp_tup (dpa_cons dp_int (dpa_cons (dp_tup (dpa_cons (dp_tup (dpa_cons dp_int (dpa_cons dp_int dpa_nil))) (dpa_cons (dp_tup (dpa_cons dp_int (dpa_cons dp_int dpa_nil))) dpa_nil))) dpa_nil))) (dpa_cons (dp_tup (dpa_cons dp_int (dpa_cons (dp_tup (dpa_cons (dp_tup (dpa_cons dp_int (dpa_cons dp_int dpa_nil))) (dpa_cons (dp_tup (dpa_cons dp_int (dpa_cons dp_int dpa_nil))) (dpa_cons (dp_tup (dpa_cons dp_int (dpa_cons dp_int dpa_nil))) dpa_nil)))) dpa_nil))) (dpa_cons (dp_tup (dpa_cons dp_int (dpa_cons (dp_tup (dpa_cons (dp_tup (dpa_cons dp_int dpa_nil)) dpa_nil)) dpa_nil))) (dpa_cons (dp_tup (dpa_cons dp_int (dpa_cons (dp_tup (dpa_cons (dp_tup (dpa_cons dp_int dpa_nil)) (dpa_cons (dp_tup (dpa_cons dp_int dpa_nil)) dpa_nil))) dpa_nil))) dpa_nil)))))))))
    (ds_cons (ds_set 1 sc__law_cj_query.nd rfl (dp_op op_addU (opD_addU _ rfl) (dv1 1) (dp_1 (dp_lock (do_lst (dpa_cons (dp_tup (dpa_cons dp_int (dpa_cons (dp_tup (dpa_cons (dp_tup (dpa_cons dp_int (dpa_cons dp_int (dpa_cons dp_int dpa_nil)))) (dpa_cons (dp_tup (dpa_cons dp_int (dpa_cons dp_int (dpa_cons dp_int dpa_nil)))) (dpa_cons (dp_tup (dpa_cons dp_int (dpa_cons dp_int dpa_nil))) dpa_nil)))) dpa_nil))) (dpa_cons (dp_tup (dpa_cons dp_int (dpa_cons (dp_tup (dpa_cons (dp_tup (dpa_cons dp_int (dpa_cons dp_int (dpa_cons dp_int dpa_nil)))) (dpa_cons (dp_tup (dpa_cons dp_int (dpa_cons dp_int dpa_nil))) (dpa_cons (dp_tup (dpa_cons dp_int dpa_nil)) dpa_nil)))) dpa_nil))) (dpa_cons (dp_tup (dpa_cons dp_int (dpa_cons (dp_tup (dpa_cons (dp_tup (dpa_cons dp_int (dpa_cons dp_int dpa_nil))) (dpa_cons (dp_tup (dpa_cons dp_int (dpa_cons dp_int dpa_nil))) dpa_nil))) dpa_nil))) dpa_nil))))))))
    (ds_cons (ds_if (dt_cmp (op_eqP (u100 hr)) (opD_P rfl) (dp_1 (dp_call C__law_draw.ok (hr.mono (by decide)) C__law_draw.mg C__law_draw.kp C__law_draw.bd pass_cx (dpa_cons (dv 0) (dpa_cons dp_int dpa_nil)))) (dp_1 dp_int)) (ds_one (ds_ret (dp_call C__law_pick.ok (hr.mono (by decide)) C__law_pick.mg C__law_pick.kp C__law_pick.bd pass_cx (dpa_cons (dv 0) (dpa_cons (dv 1) dpa_nil))))) ds_nil)
    (ds_cons (ds_set 2 sc__law_cj_query.nd rfl (dp_op op_addU (opD_addU _ rfl) (dp_1 dp_int) (dp_1 (dp_call C__law_draw.ok (hr.mono (by decide)) C__law_draw.mg C__law_draw.kp C__law_draw.bd pass_cx (dpa_cons (dv 0) (dpa_cons dp_int dpa_nil))))))
    (ds_cons (ds_seto 3 sc__law_cj_query.nd rfl (do_lst dpa_nil))
    (ds_cons (ds_for pass_own rfl (d_rng1 (.inr rfl) T.b_range (dp_1 (dp_op op_addU (opD_addU _ rfl) (dp_1 dp_int) (dp_1 (dp_call C__law_draw.ok (hr.mono (by decide)) C__law_draw.mg C__law_draw.kp C__law_draw.bd pass_cx (dpa_cons (dv 0) (dpa_cons dp_int dpa_nil))))))) (pg_name (i := 4) sc__law_cj_query.nd rfl (by first | exact Or.inl rfl | exact Or.inr rfl) (by first | exact Or.inr rfl | exact Or.inl rfl)) gd_name (ds_one (ds_append 3 (dp_call C__law_cj_some.ok (hr.mono (by decide)) C__law_cj_some.mg C__law_cj_some.kp C__law_cj_some.bd pass_cx (dpa_cons (dv 0) (dpa_cons (dv 2) dpa_nil))))))
    (ds_cons (ds_setLc 5 rfl sc__law_cj_query.nd (d_rng1 (.inl rfl) T.b_range (dv1 2)) (blkOk_by (own := [("one", 6)]) (N := N__law_cj_query) (sc := defScope s__law_cj_query) (by decide +kernel)) gd_name (gw_name (by decide)) (fun _ _ _ _ _ => pg_name (i := 6) sc__law_cj_query.nd rfl (by first | exact Or.inl rfl | exact Or.inr rfl) (by first | exact Or.inr rfl | exact Or.inl rfl)) (fun _ _ _ _ _ => (dts_one (dt_cmp (op_eqP (u100 hr)) (opD_P rfl) (dp_1 (dp_lock (do_lc rfl sc__law_cj_query.nd (di_seq rfl (dv1 3)) (blkOk_by (own := [("atom", 7)]) (N := N__law_cj_query) (sc := relS (scLc (valOf ((defBody s__law_cj_query).getD 7 (.Pass ⟨0, 0, 0, 0⟩))) (defScope s__law_cj_query)) (defScope s__law_cj_query)) (by decide +kernel)) gd_name (gw_name (by decide)) (fun _ _ _ _ _ => pg_name (i := 7) sc__law_cj_query.nd rfl (by first | exact Or.inl rfl | exact Or.inr rfl) (by first | exact Or.inr rfl | exact Or.inl rfl)) (fun _ _ _ _ _ => (dts_one (dt_cmp (op_inP (u100 hr)) (opD_P rfl) (dv1 6) (dv1 7)))) (fun _ _ _ _ _ => dp_int)))) (dp_1 (dp_lock (do_lst dpa_nil)))))) (fun _ _ _ _ _ => (dv 6)))
    (ds_one (ds_ret (dp_tup (dpa_cons (dv 2) (dpa_cons (dp_tupOf rfl T.b_tuple (dp_1 (dp_op op_addU (opD_addU _ rfl) (dv1 3) (dp_1 (dp_if (dt_cmp (op_neP (u100 hr)) (opD_P rfl) (dv1 5) (dp_1 (dp_lock (do_lst dpa_nil)))) (dp_lock (do_lst (dpa_cons (dp_tupOf rfl T.b_tuple (dv1 5)) dpa_nil))) (dp_lock (do_lst dpa_nil))))))) dpa_nil))))))))))))), fun ds hl γ PP XX h => ?_⟩
  match ds, hl, h with
  | [d], _, h =>
    simp [F_query] at h
    obtain ⟨rfl, k, hk, hD, q⟩ := h
    simp [F_draw]
    have z : (100 : Nat) ≤ sizeLine := by decide
    repeat refine ⟨(by omega : _ ≤ sizeLine), ?_⟩
    refine ⟨k, by omega, hD, fun a γ1 a0 a1 hD1 => ?_⟩
    split
    · simp [F_pick]
      refine ⟨k + 1, by omega, hD1, fun x γ2 hx hD2 => ?_⟩
      rcases hx with rfl | rfl | rfl | rfl | rfl | rfl | rfl | rfl | rfl | rfl
      · exact q 3 [[0, 1], [0, 2], [1, 2]] γ2 (goodB_of (by decide)) (hD2.le (by omega))
      · exact q 2 [[0], [0, 1], [1]] γ2 (goodB_of (by decide)) (hD2.le (by omega))
      · exact q 4 [[0, 1], [1, 2], [2, 3], [0, 3]] γ2 (goodB_of (by decide)) (hD2.le (by omega))
      · exact q 3 [[0, 1], [1, 2]] γ2 (goodB_of (by decide)) (hD2.le (by omega))
      · exact q 4 [[0, 1], [0, 2], [0, 3]] γ2 (goodB_of (by decide)) (hD2.le (by omega))
      · exact q 1 [[0]] γ2 (goodB_of (by decide)) (hD2.le (by omega))
      · exact q 2 [[0], [1]] γ2 (goodB_of (by decide)) (hD2.le (by omega))
      · exact q 4 [[0, 1, 2], [1, 2, 3], [0, 3]] γ2 (goodB_of (by decide)) (hD2.le (by omega))
      · exact q 3 [[0, 1, 2], [0, 1], [2]] γ2 (goodB_of (by decide)) (hD2.le (by omega))
      · exact q 2 [[0, 1], [0, 1]] γ2 (goodB_of (by decide)) (hD2.le (by omega))
    · refine ⟨k + 1, by omega, hD1, fun a γ2 a0 a1 hD2 => ?_⟩
      refine ⟨k + 2, by omega, hD2.le (by omega), fun c γ3 c0 c1 hD3 => ⟨by omega, ?_⟩⟩
      refine forM_ix (I := fun i e γ => ∃ (rows : List (List Int)) (x1 x4 : Option SD), rows.length = i ∧ (∀ ns ∈ rows, RowB (1 + a) ns ∧ 1 ≤ ns.length ∧ ns.length ≤ 3) ∧ Dr (k + 3 + 20 * i) γ ∧ e = ([some (.sh (.ob (.ref st))), x1, some (.sh (.int (1 + a))), some (.own (rows.map rowD)), x4, none, none, none] : DE))
        (fun i x hx e γ hi => ?_) ⟨[], _, none, rfl, by simp, hD3.le (by omega), rfl⟩ (fun e γ hi => ?_)
      · obtain ⟨rows, x1, x4, rfl, hr, hDi, rfl⟩ := hi
        have hil : rows.length < (1 + c).toNat := by
          have := (List.getElem?_eq_some_iff.mp hx).1
          rw [rangeD_len] at this
          omega
        simp [F_some]
        refine ⟨by omega, by omega, _, by omega, hDi, fun ns γ4 hn n1 n3 hD4 => ⟨by omega, rows ++ [ns], ?_⟩⟩
        simp
        refine ⟨fun ns' hh => ?_, hD4.le (by omega), rfl⟩
        rcases hh with hh | rfl
        · exact hr _ hh
        · exact ⟨hn, n1, n3⟩
      · obtain ⟨rows, x1, x4, hrl, hr, hDi, rfl⟩ := hi
        rw [rangeD_len] at hrl
        simp
        refine ⟨by omega, by rw [rangeD_len]; omega, ?_⟩
        refine compM_filter (i := 6) (q := lackQ rows) (p := id) rfl (fun x hx γ PP' h => ?_) (fun x hx hq γ PP' h => ?_) ?_
        · obtain ⟨kk, hk, rfl⟩ := rangeD_mem hx
          simp
          refine ⟨by omega, ?_⟩
          refine compM_filter (i := 7) (q := holdsQ (kk : Int)) (p := fun _ => .int 1) rfl (fun x hx γ PP'' h => ?_) (fun x hx hq γ PP'' h => ?_) ?_
          · obtain ⟨ns, hn, rfl⟩ := List.mem_map.mp hx
            rw [holdsQ_row] at h
            simp [rowD, toPyL_int]
            refine ⟨⟨_, rfl, Nat.le_trans (Nat.min_le_right ..) (Nat.zero_le _)⟩, ?_⟩
            rw [inF_intsT]
            exact h
          · simpa using h
          · rw [toPyL_ones]
            simp
            refine ⟨Nat.le_trans (Nat.min_le_right ..) (by decide), ?_⟩
            have e := holds_empty (f := holdsQ (kk : Int)) (holdsQ_row kk) rows
            rw [List.isEmpty_map] at e
            rw [e]
            have h : PP' (!rows.any fun ns => ns.contains (0 + (kk : Int))) γ := h
            rw [Int.zero_add] at h
            exact h
        · obtain ⟨kk, hk, rfl⟩ := rangeD_mem hx
          simp at h ⊢
          exact h
        · rw [List.map_id, lack_D, toPyL_int]
          simp
          refine ⟨Nat.le_trans (Nat.min_le_right ..) (by decide), ?_⟩
          rw [rangeD_len] at hDi
          have hll := lack_len (1 + a) rows
          split
          · rename_i hlk
            exact ⟨by omega, by omega, q (1 + a) rows γ ⟨by omega, by omega, by omega, by omega, fun ns hn => ⟨(hr ns hn).1, (hr ns hn).2.1, by have := (hr ns hn).2.2; omega⟩, fun k k0 k1 => (lack_all k0 k1).elim id fun hk => by rw [hlk] at hk; cases hk⟩ (hDi.le (by omega))⟩
          · rename_i hlk
            have hl1 : 0 < (lackI (1 + a) rows).length := List.length_pos_iff.mpr hlk
            have e : List.map rowD rows ++ [D.tup (List.map D.int (lackI (1 + a) rows))] = (rows ++ [lackI (1 + a) rows]).map rowD := by simp [rowD]
            rw [e]
            refine ⟨by omega, by omega, by omega, q (1 + a) (rows ++ [lackI (1 + a) rows]) γ ⟨by omega, by omega, by simp, by simp; omega, fun ns hn => ?_, fun k k0 k1 => ?_⟩ (hDi.le (by omega))⟩
            · rcases List.mem_append.mp hn with hn | hn
              · exact ⟨(hr ns hn).1, (hr ns hn).2.1, by have := (hr ns hn).2.2; omega⟩
              · rw [List.mem_singleton.mp hn]
                exact ⟨lack_row _ _, by omega, by omega⟩
            · rcases lack_all (rows := rows) k0 k1 with ⟨ns, hn, hk⟩ | hk
              · exact ⟨ns, List.mem_append_left _ hn, hk⟩
              · exact ⟨_, List.mem_append_right _ (List.mem_singleton.mpr rfl), hk⟩

abbrev s__law_cj_store : Stmt := top 42
abbrev N__law_cj_store : List Str := ["state", "query_here", "most", "top", "lift", "found", "atom", "rows_here", "turn", "at"]
theorem sc__law_cj_store : FnScope N__law_cj_store ["state", "query_here", "most", "top"] (defScope s__law_cj_store) := ⟨rfl, rfl, rfl, by decide +kernel, rfl, by decide +kernel, by decide +kernel⟩
theorem ok__law_cj_store {P : Program} {w : World} {W : Wd} {mg : Str → Option Value} {base : Heap} (T : Txt W mg) {f cc : Addr} {fd : FuncData} {st : Addr} (C__law_draw : Cal P w W mg base "_law_draw" 2 2 (F_draw st)) (C__law_pick : Cal P w W mg base "_law_pick" 3 2 (F_pick st)) (Fn : FunC W.K "_law_cj_store" "_law_cj_store" s__law_cj_store f cc fd) :
    FnOk P w W.K mg base (L2.CX P w) 4 f fd ["state", "query_here", "most", "top"] (spD W 4 (F_store st)) := by
  obtain ⟨tL, hL⟩ := T.g_LIMIT
  refine okC (k := 3) Fn sc__law_cj_store (by decide) fun A outer s H E hr => ⟨_, (ds_cons (ds_set 4 sc__law_cj_store.nd rfl (dp_call C__law_pick.ok (hr.mono (by decide)) C__law_pick.mg C__law_pick.kp C__law_pick.bd pass_cx (dpa_cons (dv 0) (dpa_cons (dp_lock (do_lst (dpa_cons dp_int (dpa_cons dp_int (dpa_cons dp_int (dpa_cons dp_int dpa_nil)))))) dpa_nil))))
    (ds_cons (ds_seto 5 sc__law_cj_store.nd rfl (do_lst dpa_nil))
    (ds_cons (ds_for pass_own rfl (df_seq rfl (dp_ix rfl (dv1 1) (dp_1 dp_int))) (pg_name (i := 6) sc__law_cj_store.nd rfl (by first | exact Or.inl rfl | exact Or.inr rfl) (by first | exact Or.inr rfl | exact Or.inl rfl)) gd_name (ds_cons (ds_seto 7 sc__law_cj_store.nd rfl (do_lst dpa_nil))
    (ds_cons (ds_for pass_own rfl (d_rng1 (.inr rfl) T.b_range (dp_1 (dp_call C__law_draw.ok (hr.mono (by decide)) C__law_draw.mg C__law_draw.kp C__law_draw.bd pass_cx (dpa_cons (dv 0) (dpa_cons (dp_op op_addU (opD_addU _ rfl) (dv1 2) (dp_1 dp_int)) dpa_nil))))) (pg_name (i := 8) sc__law_cj_store.nd rfl (by first | exact Or.inl rfl | exact Or.inr rfl) (by first | exact Or.inr rfl | exact Or.inl rfl)) gd_name (ds_one (ds_append 7 (dp_tupOf rfl T.b_tuple (dp_1 (dp_lock (do_lc rfl sc__law_cj_store.nd (di_seq rfl (dv1 6)) (blkOk_by (own := [("at", 9)]) (N := N__law_cj_store) (sc := defScope s__law_cj_store) (by decide +kernel)) gd_name (gw_name (by decide)) (fun _ _ _ _ _ => pg_name (i := 9) sc__law_cj_store.nd rfl (by first | exact Or.inl rfl | exact Or.inr rfl) (by first | exact Or.inr rfl | exact Or.inl rfl)) (fun _ _ _ _ _ => dts_nil) (fun _ _ _ _ _ => (dp_op op_addU (opD_addU _ rfl) (dp_1 (dp_call C__law_draw.ok (hr.mono (by decide)) C__law_draw.mg C__law_draw.kp C__law_draw.bd passL (dpa_cons (dv 0) (dpa_cons (dv 3) dpa_nil)))) (dv1 4))))))))))
    (ds_one (ds_append 5 (dp_tupOf rfl T.b_tuple (dp_1 (dp_lock (do_sortedSetB rfl rfl (u100 hr) T.b_sorted T.b_set (dv1 7))))))))))
    (ds_one (ds_ret (dp_tupOf rfl T.b_tuple (dv1 5))))))), fun ds hl γ PP XX h => ?_⟩
  match ds, hl, h with
  | [d, .tup [.int many, .tup atoms], .int most, .int top], _, h =>
    simp only [F_store] at h
    cases hrd : rowsD atoms with
    | none =>
      rw [hrd] at h
      simp at h
    | some rows =>
    rw [hrd] at h
    simp at h
    obtain ⟨rfl, a1, a2, a3, a4, a5, a6, k, hk, hD, q⟩ := h
    have ea := rowsD_eq hrd
    subst ea
    simp [F_pick]
    have z100 : (1000 : Nat) ≤ sizeLine := by decide
    refine ⟨by omega, k, by omega, hD, fun x γ0 hx hD0 => ?_⟩
    obtain ⟨lf, rfl, l0, l7⟩ : ∃ lf : Int, x = .int lf ∧ 0 ≤ lf ∧ lf ≤ 7 := by
      rcases hx with rfl | rfl
      · exact ⟨0, rfl, by omega, by omega⟩
      · exact ⟨7, rfl, by omega, by omega⟩
    refine forM_ix (I := fun i e γ => ∃ (tabs : List (List (List Int))) (x6 x7 x8 x9 : Option SD), GoodS most (top + 7) (rows.take i) tabs ∧ Dr (k + 1 + 241 * i) γ ∧
      e = ([some (.sh (.ob (.ref st))), some (.sh (.tup [.int many, .tup (rows.map rowD)])), some (.sh (.int most)), some (.sh (.int top)), some (.sh (.int lf)), some (.own (tabs.map tabD)), x6, x7, x8, x9] : DE)) (fun i x hx e γ hi => ?_) ⟨[], none, none, none, none, by rw [List.take_zero]; exact .nil, hD0.le (by omega), rfl⟩ (fun e γ hi => ?_)
    · obtain ⟨tabs, x6, x7, x8, x9, hgs, hDi, rfl⟩ := hi
      rw [List.getElem?_map, Option.map_eq_some_iff] at hx
      obtain ⟨r, hr, rfl⟩ := hx
      have hil : i < rows.length := (List.getElem?_eq_some_iff.mp hr).1
      obtain ⟨b1, b4⟩ := a5 r (List.mem_of_getElem? hr)
      simp [F_draw]
      refine ⟨by omega, by omega, _, by omega, hDi, fun a γ1 c0 c1 hD1 => ⟨by omega, ?_⟩⟩
      refine forM_ix (I := fun j e γ => ∃ (rws : List (List Int)) (x8 x9 : Option SD), rws.length = j ∧ (∀ w ∈ rws, w.length = r.length ∧ ∀ m ∈ w, 0 ≤ m ∧ m < top + 7) ∧ Dr (k + 1 + 241 * i + 1 + 4 * j) γ ∧
        e = ([some (.sh (.ob (.ref st))), some (.sh (.tup [.int many, .tup (rows.map rowD)])), some (.sh (.int most)), some (.sh (.int top)), some (.sh (.int lf)), some (.own (tabs.map tabD)), some (.sh (rowD r)), some (.own (rws.map rowD)), x8, x9] : DE)) (fun j y hy e γ hi => ?_) ⟨[], x8, x9, rfl, by simp, hD1.le (by omega), rfl⟩ (fun e γ hi => ?_)
      · obtain ⟨rws, x8, x9, rfl, hw, hDj, rfl⟩ := hi
        have hjl : rws.length < a.toNat := by
          have := (List.getElem?_eq_some_iff.mp hy).1
          rw [rangeD_len] at this
          omega
        simp [rowD]
        refine ⟨by omega, ?_⟩
        refine compM_inv (N := r.length) (J := fun done γ' => ∃ ns : List Int, done = ns.map .int ∧ (∀ m ∈ ns, 0 ≤ m ∧ m < top + 7) ∧ Dr (k + 1 + 241 * i + 1 + 4 * rws.length + ns.length) γ') (i := 9) rfl rfl (by simp) ⟨[], rfl, by simp, hDj.le (by simp)⟩ (fun x hx done γ hdl hJ PP h => ?_) (fun ys γ' hJ hl => ?_)
        · obtain ⟨ns, rfl, hm, hDn⟩ := hJ
          rw [List.length_map] at hdl
          simp
          refine ⟨by omega, by omega, _, by omega, hDn, fun b γ2 b0 b1 hDb => h _ γ2 ⟨ns ++ [b + lf], by simp, fun m hm2 => ?_, hDb.le (by simp; omega)⟩⟩
          rcases List.mem_append.mp hm2 with hm2 | hm2
          · exact hm m hm2
          · rw [List.mem_singleton.mp hm2]
            omega
        · obtain ⟨ns, hns, hm, hDn⟩ := hJ
          have hns : ys = ns.map .int := hns
          subst hns
          rw [List.length_map, List.length_map] at hl
          refine ⟨by omega, rws ++ [ns], by simp, fun w hw2 => ?_, hDn.le (by omega), by simp [rowD]⟩
          rcases List.mem_append.mp hw2 with hw2 | hw2
          · exact hw w hw2
          · rw [List.mem_singleton.mp hw2]
            exact ⟨by omega, hm⟩
      · obtain ⟨rws, x8, x9, hrl, hw, hDj, rfl⟩ := hi
        rw [rangeD_len] at hrl hDj
        simp [rowsD_map]
        refine ⟨⟨by omega, r.length, top + 7, by omega, hw⟩, fun rows' hp hm => ?_⟩
        have hle := nodup_le (lt_nodup hp) fun x hx => (hm x).mp hx
        have htl := hgs.len
        rw [List.length_take] at htl
        refine ⟨by omega, tabs ++ [rows'], ?_, hDj.le (by omega), by simp [tabD]⟩
        rw [List.take_succ, hr]
        exact GoodS.snoc ⟨hp, by omega, fun w hw2 => hw w ((hm w).mp hw2)⟩ hgs
    · obtain ⟨tabs, x6, x7, x8, x9, hgs, hDi, rfl⟩ := hi
      rw [List.length_map] at hgs hDi
      rw [List.take_length] at hgs
      have htl := hgs.len
      simp
      exact q tabs γ hgs (hDi.le (by omega))

abbrev s__law_is_whole : Stmt := top 39
abbrev N__law_is_whole : List Str := ["item"]
theorem sc__law_is_whole : FnScope N__law_is_whole ["item"] (defScope s__law_is_whole) := ⟨rfl, rfl, rfl, by decide +kernel, rfl, by decide +kernel, by decide +kernel⟩
theorem ok__law_is_whole {P : Program} {w : World} {W : Wd} {mg : Str → Option Value} {base : Heap} (T : Txt W mg) {f cc : Addr} {fd : FuncData} (Fn : FunC W.K "_law_is_whole" "_law_is_whole" s__law_is_whole f cc fd) :
    FnOk P w W.K mg base (L2.CX P w) 1 f fd ["item"] (spD W 1 F_whole) := by
  obtain ⟨tL, hL⟩ := T.g_LIMIT
  refine okC (k := 0) Fn sc__law_is_whole (by decide) fun A outer s H E hr => ⟨_, (ds_one (ds_ret (dp_and (dp_isi (c := "int") rfl T.b_isinstance T.b_int (dv1 0)) (dp_one (dp_not (dp_isi (c := "bool") rfl T.b_isinstance T.b_bool (dv1 0))))))), fun ds hl γ PP XX h => ?_⟩
  match ds, hl, h with
  | [d], _, ⟨h1, h2⟩ =>
    cases d with
    | ob v => exact h1.elim
    | pr v u => exact h1.elim
    | dil v u => exact h1.elim
    | exn v => exact h1.elim
    | _ => simp; exact h2

abbrev s__law_cj_odd : Stmt := top 44
abbrev N__law_cj_odd : List Str := ["state"]
theorem sc__law_cj_odd : FnScope N__law_cj_odd ["state"] (defScope s__law_cj_odd) := ⟨rfl, rfl, rfl, by decide +kernel, rfl, by decide +kernel, by decide +kernel⟩
theorem ok__law_cj_odd {P : Program} {w : World} {W : Wd} {mg : Str → Option Value} {base : Heap} (T : Txt W mg) {f cc : Addr} {fd : FuncData} {st : Addr} (C__law_pick : Cal P w W mg base "_law_pick" 3 2 (F_pick st)) (Fn : FunC W.K "_law_cj_odd" "_law_cj_odd" s__law_cj_odd f cc fd) :
    FnOk P w W.K mg base (L2.CX P w) 4 f fd ["state"] (spD W 1 (F_odd st)) := by
  obtain ⟨tL, hL⟩ := T.g_LIMIT
  refine okC (k := 3) Fn sc__law_cj_odd (by decide) fun A outer s H E hr => ⟨_, (ds_one (ds_ret (dp_call C__law_pick.ok (hr.mono (by decide)) C__law_pick.mg C__law_pick.kp C__law_pick.bd pass_cx (dpa_cons (dv 0) (dpa_cons (dp_lock (do_lst (dpa_cons dp_non (dpa_cons dp_int (dpa_cons (dp_neg (dp_1 dp_int)) (dpa_cons dp_bl (dpa_cons dp_str (dpa_cons (dp_tup dpa_nil) (dpa_cons (dp_lock (do_lst dpa_nil)) (dpa_cons dp_emp (dpa_cons (dp_tup (dpa_cons dp_int dpa_nil)) (dpa_cons (dp_tup (dpa_cons (dp_tup (dpa_cons dp_int dpa_nil)) dpa_nil)) (dpa_cons (dp_tup (dpa_cons dp_int (dpa_cons (dp_tup (dpa_cons (dp_tup (dpa_cons dp_int dpa_nil)) dpa_nil)) dpa_nil))) (dpa_cons (dp_tup (dpa_cons dp_int (dpa_cons (dp_tup dpa_nil) dpa_nil))) (dpa_cons (dp_op op_pow opD_pow (dp_1 dp_int) (dp_1 dp_int)) dpa_nil))))))))))))))) dpa_nil))))), fun ds hl γ PP XX h => ?_⟩
  match ds, hl, h with
  | [d], _, h =>
    simp [F_odd] at h
    obtain ⟨rfl, n0, n1, k, hk, hD, q⟩ := h
    have z100 : (100 : Nat) ≤ sizeLine := by decide
    simp [F_pick]
    exact ⟨by omega, by omega, ⟨by decide, by decide, by decide⟩, by omega, k, hk, hD, fun x γ' hx hD2 => q x γ' (by simp [oddL]; exact hx) hD2⟩

abbrev s__law_is_truth : Stmt := top 38
abbrev N__law_is_truth : List Str := ["found", "due"]
theorem sc__law_is_truth : FnScope N__law_is_truth ["found", "due"] (defScope s__law_is_truth) := ⟨rfl, rfl, rfl, by decide +kernel, rfl, by decide +kernel, by decide +kernel⟩
theorem ok__law_is_truth {P : Program} {w : World} {W : Wd} {mg : Str → Option Value} {base : Heap} (T : Txt W mg) {f cc : Addr} {fd : FuncData} (Fn : FunC W.K "_law_is_truth" "_law_is_truth" s__law_is_truth f cc fd) :
    FnOk P w W.K mg base (L2.CX P w) 1 f fd ["found", "due"] (spD W 2 F_truth) := by
  obtain ⟨tL, hL⟩ := T.g_LIMIT
  refine okC (k := 0) Fn sc__law_is_truth (by decide) fun A outer s H E hr => ⟨_, (ds_one (ds_ret (dp_if (dt_val (dv 1)) (dp_cmp Dl.op_isBl opD_isB (dv1 0) (dp_1 dp_bl)) (dp_cmp Dl.op_isBl opD_isB (dv1 0) (dp_1 dp_bl))))), fun ds hl γ PP XX h => ?_⟩
  match ds, hl, h with
  | [.bl f, .bl due], _, h =>
    simp [F_truth] at h
    cases f <;> cases due <;> simp at h ⊢ <;> exact h

end Ck

set_option maxRecDepth 100000
set_option maxHeartbeats 8000000
namespace Ck
open PySem PySem.Spec PyProof.Rows L2 Dl

abbrev s__law_cj_bent : Stmt := top 45
abbrev N__law_cj_bent : List Str := ["state", "item", "at", "way"]
theorem sc__law_cj_bent : FnScope N__law_cj_bent ["state", "item"] (defScope s__law_cj_bent) := ⟨rfl, rfl, rfl, by decide +kernel, rfl, by decide +kernel, by decide +kernel⟩
theorem ok__law_cj_bent {P : Program} {w : World} {W : Wd} {mg : Str → Option Value} {base : Heap} (T : Txt W mg) {f cc : Addr} {fd : FuncData} {st : Addr} (C__law_draw : Cal P w W mg base "_law_draw" 2 2 (F_draw st)) (C__law_pick : Cal P w W mg base "_law_pick" 3 2 (F_pick st))
    (C__law_cj_odd : Cal P w W mg base "_law_cj_odd" 4 1 (F_odd st)) (C__law_is_whole : Cal P w W mg base "_law_is_whole" 1 1 F_whole) (Fn : FunC W.K "_law_cj_bent" "_law_cj_bent" s__law_cj_bent f cc fd) (hmg : mg "_law_cj_bent" = some (.ref f)) :
    ∀ d : Nat, FnOk P w W.K mg base (L2.CX P w) (6 + d) f fd ["state", "item"] (spD W 2 (F_bent st d))
  | 0 => okC (k := 5) Fn sc__law_cj_bent (by decide) fun A outer s H E hr => ⟨_, dead_ss, fun ds hl γ PP XX h => h.elim⟩
  | d + 1 => by
    obtain ⟨tL, hL⟩ := T.g_LIMIT
    have C__law_cj_bent : Cal P w W mg base "_law_cj_bent" (6 + d) 2 (F_bent st d) := ⟨f, fd, ["state", "item"], ok__law_cj_bent T C__law_draw C__law_pick C__law_cj_odd C__law_is_whole Fn hmg d, hmg, Fn.kp, Fn.binds fun _ _ _ _ _ _ us hl => match us, hl with | [_, _], _ => rfl⟩
    refine okC (k := 6 + d) Fn sc__law_cj_bent (by decide) fun A outer s H E hr => ⟨_, (ds_cons (ds_if (PW.pt (dw_or (dt_not (dt_val (dp_isi (c := "tuple") rfl T.b_isinstance T.b_tuple (dv1 1)))) (dw_or (dt_eqEmp (u100 hr) rfl (dv1 1)) (dw_or1 (dt_cmp (op_eqP (u100 hr)) (opD_P rfl) (dp_1 (dp_call C__law_draw.ok (hr.mono (by omega)) C__law_draw.mg C__law_draw.kp C__law_draw.bd pass_cx (dpa_cons (dv 0) (dpa_cons dp_int dpa_nil)))) (dp_1 dp_int)))))) (ds_one (ds_ret (dp_call C__law_cj_odd.ok (hr.mono (by omega)) C__law_cj_odd.mg C__law_cj_odd.kp C__law_cj_odd.bd pass_cx (dpa_cons (dv 0) dpa_nil)))) ds_nil)
    (ds_cons (ds_par (i := 2) (j := 3) rfl sc__law_cj_bent.nd (dpa_cons (dp_call C__law_draw.ok (hr.mono (by omega)) C__law_draw.mg C__law_draw.kp C__law_draw.bd pass_cx (dpa_cons (dv 0) (dpa_cons (dp_len rfl T.b_len (dv1 1)) dpa_nil))) (dpa_cons (dp_call C__law_draw.ok (hr.mono (by omega)) C__law_draw.mg C__law_draw.kp C__law_draw.bd pass_cx (dpa_cons (dv 0) (dpa_cons dp_int dpa_nil))) dpa_nil)))
    (ds_cons (ds_if (dt_cmp op_lt opD_lt (dv1 3) (dp_1 dp_int)) (ds_one (ds_ret (dp_op op_addU (opD_addU _ rfl) (dp_1 (dp_op op_addU (opD_addU _ rfl) (dp_1 (dp_slice rfl (dv1 1) dpo_none (dpo_some (dv1 2)))) (dp_1 (dp_tup (dpa_cons (dp_call C__law_cj_bent.ok (hr.mono (by omega)) C__law_cj_bent.mg C__law_cj_bent.kp C__law_cj_bent.bd pass_cx (dpa_cons (dv 0) (dpa_cons (dp_ix rfl (dv1 1) (dv1 2)) dpa_nil))) dpa_nil))))) (dp_1 (dp_slice rfl (dv1 1) (dpo_some (dp_1 (dp_op op_addU (opD_addU _ rfl) (dv1 2) (dp_1 dp_int)))) dpo_none))))) ds_nil)
    (ds_cons (ds_if (dt_cmp (op_eqP (u100 hr)) (opD_P rfl) (dv1 3) (dp_1 dp_int)) (ds_one (ds_ret (dp_op op_addU (opD_addU _ rfl) (dp_1 (dp_slice rfl (dv1 1) dpo_none (dpo_some (dv1 2)))) (dp_1 (dp_slice rfl (dv1 1) (dpo_some (dp_1 (dp_op op_addU (opD_addU _ rfl) (dv1 2) (dp_1 dp_int)))) dpo_none))))) ds_nil)
    (ds_cons (ds_if (dt_cmp (op_eqP (u100 hr)) (opD_P rfl) (dv1 3) (dp_1 dp_int)) (ds_one (ds_ret (dp_op op_addU (opD_addU _ rfl) (dp_1 (dp_op op_addU (opD_addU _ rfl) (dp_1 (dp_slice rfl (dv1 1) dpo_none (dpo_some (dv1 2)))) (dp_1 (dp_slice rfl (dv1 1) (dpo_some (dv1 2)) (dpo_some (dp_1 (dp_op op_addU (opD_addU _ rfl) (dv1 2) (dp_1 dp_int)))))))) (dp_1 (dp_slice rfl (dv1 1) (dpo_some (dv1 2)) dpo_none))))) ds_nil)
    (ds_cons (ds_if (PW.pt (dw_and (dt_cmp (op_eqP (u100 hr)) (opD_P rfl) (dv1 3) (dp_1 dp_int)) (dw_and1 (dt_val (dp_call C__law_is_whole.ok (hr.mono (by omega)) C__law_is_whole.mg C__law_is_whole.kp C__law_is_whole.bd pass_cx (dpa_cons (dp_ix rfl (dv1 1) (dv1 2)) dpa_nil)))))) (ds_one (ds_ret (dp_op op_addU (opD_addU _ rfl) (dp_1 (dp_op op_addU (opD_addU _ rfl) (dp_1 (dp_slice rfl (dv1 1) dpo_none (dpo_some (dv1 2)))) (dp_1 (dp_tup (dpa_cons (dp_op op_addU (opD_addU _ rfl) (dp_1 (dp_ix rfl (dv1 1) (dv1 2))) (dp_1 (dp_call C__law_pick.ok (hr.mono (by omega)) C__law_pick.mg C__law_pick.kp C__law_pick.bd pass_cx (dpa_cons (dv 0) (dpa_cons (dp_lock (do_lst (dpa_cons dp_int (dpa_cons (dp_neg (dp_1 dp_int)) dpa_nil)))) dpa_nil))))) dpa_nil))))) (dp_1 (dp_slice rfl (dv1 1) (dpo_some (dp_1 (dp_op op_addU (opD_addU _ rfl) (dv1 2) (dp_1 dp_int)))) dpo_none))))) ds_nil)
    (ds_one (ds_ret (dp_if (dt_cmp (op_eqP (u100 hr)) (opD_P rfl) (dv1 3) (dp_1 dp_int)) (dp_revT rfl (dv1 1)) (dp_lock (do_listOf rfl T.b_list (dv1 1)))))))))))), fun ds hl γ PP XX h => ?_⟩
    match ds, hl, h with
    | [s0, item], _, h =>
      obtain ⟨rfl, n, k, h1, n1, n50, hd, hk, hD, q⟩ := h
      have z100 : (1000 : Nat) ≤ sizeLine := by decide
      have fin : ∀ (k' : Int) (x : D) (γ' : Gh), x ∈ oddL → Dr k' γ' → k' ≤ k + 10 → PP x γ' := fun k' x γ' hx hD' hk' => by
        obtain ⟨o1, o2⟩ := odd_small x hx
        exact q x γ' (smD_le (by omega) x o1) (by omega) (hD'.le (by omega))
      have odd : ∀ (k' : Int) (γ' : Gh), Dr k' γ' → k' + 1 ≤ k + 10 → (∃ k, k < 2 ^ 40 ∧ Dr k γ' ∧ ∀ x γ'', x ∈ oddL → Dr (k + 1) γ'' → PP x γ'') := fun k' γ' hD' hk' => ⟨k', by omega, hD', fun x γ'' hx hD2 => fin _ x γ'' hx hD2 hk'⟩
      cases item with
      | ob v => simp only [smD] at h1
      | pr v u => simp only [smD] at h1
      | dil v u => simp only [smD] at h1
      | exn v => simp only [smD] at h1
      | tup xs =>
        simp [F_draw, F_odd]
        simp only [smD] at h1
        obtain ⟨l1, l2⟩ := h1
        have ods : ¬ oddL = [] ∧ oddL.length < 1152921504606846976 := by simp [oddL]
        by_cases he : xs = []
        · subst he
          simp
          exact ⟨ods.1, ods.2, odd k γ hD (by omega)⟩
        · simp [he]
          have hl0 : 0 < xs.length := List.length_pos_iff.mpr he
          refine ⟨k, by omega, hD, fun a γ1 a0 a1 hD1 => ?_⟩
          split
          · exact ⟨ods.1, ods.2, odd (k + 1) γ1 hD1 (by omega)⟩
          refine ⟨hl0, by omega, k + 1, by omega, hD1, fun a γ2 b0 b1 hD2 => ⟨k + 2, by omega, hD2.le (by omega), fun w γ3 c0 c1 hD3 => ?_⟩⟩
          obtain ⟨m, rfl⟩ : ∃ m : Nat, a = m := ⟨a.toNat, by omega⟩
          have hm : m < xs.length := by omega
          have hat := atN (List.getElem?_eq_getElem hm)
          have smx := smL_iff.mp l2
          have hd1 : tdepL xs + 1 ≤ d := by simpa only [tdep] using hd
          have tdx := tdepL_le.mp (show tdepL xs ≤ d - 1 by omega)
          have c1' : cutD xs none (some (m : Int)) = xs.take m := by rw [cut_to (by omega) (by omega)]; rfl
          have c2' : cutD xs (some ((m : Int) + 1)) none = xs.drop (m + 1) := by rw [cut_from (by omega) (by omega)]; rfl
          have c3' : cutD xs (some (m : Int)) none = xs.drop m := by rw [cut_from (by omega) (by omega)]; rfl
          have c4' : cutD xs (some (m : Int)) (some ((m : Int) + 1)) = (xs.drop m).take 1 := by
            rw [cut_mid (by omega) (by omega) (by omega)]
            congr 1
            omega
          rw [c1', c2', c3', c4', hat]
          have tl : (xs.take m).length = m := by rw [List.length_take]; omega
          have dl : (xs.drop (m + 1)).length = xs.length - (m + 1) := List.length_drop
          have dl2 : (xs.drop m).length = xs.length - m := List.length_drop
          have dl3 : ((xs.drop m).take 1).length = 1 := by rw [List.length_take]; omega
          have out : ∀ (ys : List D) (γ' : Gh) (k' : Int), ys.length ≤ n + 3 → (∀ y ∈ ys, (y ∈ xs) ∨ (smD (n + 3) y ∧ tdep y ≤ d + 2)) → Dr k' γ' → k' ≤ k + 10 * (d + 1) → PP (.tup ys) γ' := fun ys γ' k' h1 h2 h3 h4 => by
            have e1 : smD (n + 3) (.tup ys) := by
              simp only [smD]
              exact ⟨h1, smL_iff.mpr fun y hy => (h2 y hy).elim (fun z => smD_le (by omega) y (smx y z)) (fun z => z.1)⟩
            have e2 : tdep (.tup ys) ≤ d + 3 := by
              simp only [tdep]
              have := (tdepL_le (n := d + 2) (xs := ys)).mpr fun y hy => (h2 y hy).elim (fun z => by have := tdx y z; omega) (fun z => z.2)
              omega
            exact q _ γ' e1 e2 (h3.le h4)
          have mt : ∀ {y : D} {i : Nat}, y ∈ xs.take i → y ∈ xs := fun h => List.mem_of_mem_take h
          have md : ∀ {y : D} {i : Nat}, y ∈ xs.drop i → y ∈ xs := fun h => List.mem_of_mem_drop h
          have mx : xs[m] ∈ xs := List.getElem_mem hm
          split
          · cases d with
            | zero => omega
            | succ d =>
              have tx := tdx _ mx
              show (F_bent st (d + 1) [D.ob (V.ref st), xs[m]]).run γ3 _ _
              refine ⟨rfl, n, k + 3, smx _ mx, n1, n50, by omega, by omega, hD3.le (by omega), fun x γ4 x1 x2 hD4 => ⟨by omega, by omega, by omega, ?_⟩⟩
              refine out _ γ4 _ (by rw [List.length_append, List.length_cons]; omega) (fun y hy => ?_) hD4 (by omega)
              rcases List.mem_append.mp hy with hy | hy
              · exact .inl (mt hy)
              · rcases List.mem_cons.mp hy with rfl | hy
                · exact .inr ⟨x1, by omega⟩
                · exact .inl (md hy)
          split
          · refine ⟨by omega, out _ γ3 _ (by rw [List.length_append]; omega) (fun y hy => ?_) hD3 (by omega)⟩
            rcases List.mem_append.mp hy with hy | hy
            · exact .inl (mt hy)
            · exact .inl (md hy)
          split
          · refine ⟨by omega, by omega, out _ γ3 _ (by simp only [List.length_append]; omega) (fun y hy => ?_) hD3 (by omega)⟩
            simp only [List.mem_append] at hy
            rcases hy with hy | hy | hy
            · exact .inl (mt hy)
            · exact .inl (md (List.mem_of_mem_take hy))
            · exact .inl (md hy)
          have last : ∀ (γ' : Gh) (k' : Int), Dr k' γ' → k' ≤ k + 10 * (d + 1) → (if w = 7 then PP (.tup xs.reverse) γ' else PP (.lst xs) γ') := fun γ' k' h1 h2 => by
            split
            · exact out _ γ' k' (by rw [List.length_reverse]; omega) (fun y hy => .inl (List.mem_reverse.mp hy)) h1 h2
            · exact q _ γ' (by simp only [smD]; exact ⟨by omega, smL_le (by omega) xs l2⟩) (by simp only [tdep]; omega) (h1.le h2)
          split
          · have px := smD_pure (by omega) _ (smx _ mx)
            generalize xs[m] = xm at mx px
            cases xm with
            | int i =>
              simp [F_whole, pureD, Dl.isInt, F_pick]
              refine ⟨by omega, k + 3, by omega, hD3.le (by omega), fun x γ4 hx hD4 => ?_⟩
              rcases hx with rfl | rfl
              · refine ⟨by omega, by omega, by omega, out _ γ4 _ (by rw [List.length_append, List.length_cons]; omega) (fun y hy => ?_) hD4 (by omega)⟩
                rcases List.mem_append.mp hy with hy | hy
                · exact .inl (mt hy)
                · rcases List.mem_cons.mp hy with rfl | hy
                  · exact .inr ⟨by simp only [smD], by simp only [tdep]; omega⟩
                  · exact .inl (md hy)
              · refine ⟨by omega, by omega, by omega, out _ γ4 _ (by rw [List.length_append, List.length_cons]; omega) (fun y hy => ?_) hD4 (by omega)⟩
                rcases List.mem_append.mp hy with hy | hy
                · exact .inl (mt hy)
                · rcases List.mem_cons.mp hy with rfl | hy
                  · exact .inr ⟨by simp only [smD], by simp only [tdep]; omega⟩
                  · exact .inl (md hy)
            | _ => exact ⟨px, last γ3 _ hD3 (by omega)⟩
          · exact last γ3 _ hD3 (by omega)
      | _ =>
        have ods : ¬ oddL = [] ∧ oddL.length < 1152921504606846976 := by simp [oddL]
        simp [F_odd]
        exact ⟨ods.1, ods.2, odd k γ hD (by omega)⟩

end Ck

set_option maxRecDepth 100000
set_option maxHeartbeats 8000000
namespace Ck
open PySem PySem.Spec PyProof.Rows L2 Dl

abbrev s__law_begun : Stmt := top 32
abbrev N__law_begun : List Str := ["script", "great", "cell"]
theorem sc__law_begun : FnScope N__law_begun ["script"] (defScope s__law_begun) := ⟨rfl, rfl, rfl, by decide +kernel, rfl, by decide +kernel, by decide +kernel⟩
def absI (i : Int) : Int := if i < 0 then -i else i
def greatI (ns : List Int) : List Int := (ns.filter fun i => decide (10 ^ 18 ≤ absI i)).map fun i => absI i - 10 ^ 18
def spBegun (K : PySem.W.Frag) : Sp := fun vs H Q _ => ∃ (a : Addr) (ns : List Int), vs = [.ref a] ∧ FzS K H a (ns.map V.int) ∧ ns.length ≤ 63 ∧
  ∀ (st lg lc : Addr) (H' : Hp), (∀ b o, H b = some o → H' b = some o) → H st = none → H lg = none → H lc = none → lg ≠ lc → H' lg = some (.lst ((greatI ns).map V.int)) → H' lc = some (.lst ((ns.map absI).map V.int)) → H' st = some (.dK (stKV lg lc 0 0)) → Q (.ref st) H'
theorem ok__law_begun {P : Program} {w : World} {K : PySem.W.Frag} {mg : Str → Option Value} {base : Heap} (hAbs : mg "abs" = none) {f cc : Addr} {fd : FuncData} (Fn : FunC K "_law_begun" "_law_begun" s__law_begun f cc fd) :
    FnOk P w K mg base (L2.CX P w) 1 f fd ["script"] (spBegun K) := by
  obtain ⟨oc, od, kV, doc, pm, an, ct, osl, rfl, lk, hcd⟩ := Fn.ex
  refine fn_of lk hcd sc__law_begun (fun vs H Q E h => ?_) fun A outer s H vs Q E hr h => ?_
  · obtain ⟨a, ns, rfl, _⟩ := h
    rfl
  obtain ⟨a, ns, rfl, hF, hl, q⟩ := h
  have GG : ∀ (γ : Gh) (H : Hp), (W0 K a ns).G γ H → FzS (W0 K a ns).K H a (ns.map V.int) := fun γ H h => h.2
  refine ⟨_, pss_cons (ds_setLc (W := W0 K a ns) (H0 := H) (E := fun _ _ _ => False) 1 rfl sc__law_begun.nd (di_scr (gg := GG) rfl (dv1 0)) (blkOk_by (own := [("cell", 2)]) (N := N__law_begun) (sc := defScope s__law_begun) (by decide +kernel)) gd_name (gw_name (by decide)) (fun _ _ _ _ _ => pg_name (i := 2) sc__law_begun.nd rfl (by first | exact Or.inl rfl | exact Or.inr rfl) (by first | exact Or.inr rfl | exact Or.inl rfl)) (fun _ _ _ _ _ => (dts_one (dt_cmp op_ge opD_ge (dp_1 (dp_abs hAbs (dv 2))) (dp_1 (dp_op op_pow opD_pow (dp_1 dp_int) (dp_1 dp_int)))))) (fun _ _ _ _ _ => (dp_op op_sub opD_sub (dp_1 (dp_abs hAbs (dv 2))) (dp_1 (dp_op op_pow opD_pow (dp_1 dp_int) (dp_1 dp_int))))))
    (pss_one (ps_ret (pe_disp (pps_cons pe_str (pe_var (i := 1) rfl (by first | exact Or.inl rfl | exact Or.inr (Or.inl rfl))) (pps_cons pe_str (do_lc (W := W0 K a ns) (H0 := H) (E := fun _ _ _ => False) rfl sc__law_begun.nd (di_scr (gg := GG) rfl (dv1 0)) (blkOk_by (own := [("cell", 2)]) (N := N__law_begun) (sc := defScope s__law_begun) (by decide +kernel)) gd_name (gw_name (by decide)) (fun _ _ _ _ _ => pg_name (i := 2) sc__law_begun.nd rfl (by first | exact Or.inl rfl | exact Or.inr rfl) (by first | exact Or.inr rfl | exact Or.inl rfl)) (fun _ _ _ _ _ => dts_nil) (fun _ _ _ _ _ => (dp_abs hAbs (dv 2)))) (pps_cons pe_str pe_int (pps_cons pe_str pe_int pps_nil)))) rfl rfl (by simp) (by decide)))), ?_⟩
  refine ⟨startE N__law_begun [.ob (.ref a)], start_ok (by simp only [RepL, Rep]; exact ⟨_, _, rfl, rfl, rfl⟩) (by show 1 ≤ 3; decide), Keep.refl _, [], ⟨rfl, hF⟩, ?_⟩
  have zl : (100 : Nat) ≤ sizeLine := by decide
  simp
  have w18 : CPow 10 18 := ⟨by decide, by decide, by decide⟩
  refine ⟨by omega, ?_⟩
  refine compM_filter (i := 2) (q := fun d => match d with | .int i => decide (10 ^ 18 ≤ absI i) | _ => false) (p := fun d => match d with | .int i => .int (absI i - 10 ^ 18) | d => d) rfl (fun x hx γ PP h => ?_) (fun x hx hq γ PP h => ?_) ?_
  · obtain ⟨i, _, rfl⟩ := List.mem_map.mp hx
    simp
    exact ⟨w18, h⟩
  · obtain ⟨i, _, rfl⟩ := List.mem_map.mp hx
    simp
    exact ⟨w18, h⟩
  have eg : ((ns.map D.int).filter fun d => match d with | .int i => decide (10 ^ 18 ≤ absI i) | _ => false).map (fun d => match d with | .int i => D.int (absI i - 10 ^ 18) | d => d) = (greatI ns).map .int := by
    unfold greatI
    rw [List.filter_map, List.map_map, List.map_map]
    rfl
  intro σ1 H1 st1 k1 kf1 g1
  obtain ⟨lg, vs, e1, e2, e3, e4, _⟩ := st1.own 1 _ rfl
  rw [eg] at e3
  have ev := repL_ints e3
  subst ev
  intro p hp
  have kp : Keep (W0 K a ns) H1 (upd H1 p (.dK [])) := Keep.new hp
  have gp : (W0 K a ns).G [] (upd H1 p (.dK [])) := gnew g1 hp
  refine ⟨.ref lg, e1, _, st1.keep g1 kp, k1.trans kp, [], gp, ?_⟩
  simp
  refine ⟨by omega, ?_⟩
  refine compM_map (i := 2) (p := fun d => match d with | .int i => .int (absI i) | d => d) rfl rfl (fun x hx γ PP h => ?_) ?_
  · obtain ⟨i, _, rfl⟩ := List.mem_map.mp hx
    simp
    exact h
  have ec : (ns.map D.int).map (fun d => match d with | .int i => D.int (absI i) | d => d) = (ns.map absI).map .int := by
    rw [List.map_map, List.map_map]
    rfl
  rw [ec]
  intro lc ws H2 n2 k2 g2 h2 r2 _
  have ew := repL_ints r2
  subst ew
  have hp1 : H p = none := k1.freed hp (W := W0 K a ns) (γ := []) ⟨rfl, hF⟩ g1
  have all : ∀ b o, H b = some o → H2 b = some o := fun b o hb => k2 b o (kp b o (k1 b o hb (fun z => z)) (fun z => z)) (fun z => z)
  have pl : p ≠ lg := fun z => by rw [z, e2] at hp; cases hp
  have lcp : lc ≠ p := fun z => by rw [z, upd_same] at n2; cases n2
  have lcl : lg ≠ lc := fun z => by
    rw [← z, upd_ne (Ne.symm pl), e2] at n2
    cases n2
  have hlc : H lc = none := by
    cases y : H lc with
    | none => rfl
    | some o =>
      have := kp lc o (k1 lc o y (fun z => z)) (fun z => z)
      rw [n2] at this
      cases this
  have at_p : H2 p = some (.dK []) := k2 p _ upd_same (fun z => z)
  have at_g : H2 lg = some (.lst ((greatI ns).map V.int)) := k2 lg _ (kp lg _ e2 (fun z => z)) (fun z => z)
  refine ⟨at_p, [(.inr "great", .ref lg), (.inr "cells", .ref lc), (.inr "left", .int 0), (.inr "turn", .int 0)], rfl, by simp, ?_⟩
  refine q p lg lc _ (fun b o hb => ?_) hp1 e4 hlc lcl (by rw [upd_ne (Ne.symm pl)]; exact at_g) (by rw [upd_ne lcp]; exact h2) (by rw [upd_same]; rfl)
  rw [upd_ne (fun z => by rw [z, hp1] at hb; cases hb)]
  exact all b o hb

end Ck

set_option maxRecDepth 100000
set_option maxHeartbeats 8000000
namespace Ck
open PySem PySem.Spec PyProof.Rows L2 Dl

abbrev s__without : Stmt := top 30
abbrev N__without : List Str := ["attributes", "attribute", "other"]
theorem sc__without : FnScope N__without ["attributes", "attribute"] (defScope s__without) := ⟨rfl, rfl, rfl, by decide +kernel, rfl, by decide +kernel, by decide +kernel⟩
theorem ok__without {P : Program} {w : World} {W : Wd} {mg : Str → Option Value} {base : Heap} (T : Txt W mg) {f cc : Addr} {fd : FuncData} (Fn : FunC W.K "_without" "_without" s__without f cc fd) :
    FnOk P w W.K mg base (L2.CX P w) 1 f fd ["attributes", "attribute"] (spD W 2 F_without) := by
  obtain ⟨tL, hL⟩ := T.g_LIMIT
  refine okC (k := 0) Fn sc__without (by decide) fun A outer s H E hr => ⟨_, (ds_one (ds_ret (dp_tupOf rfl T.b_tuple (dp_1 (dp_lock (do_lc rfl sc__without.nd (di_seq rfl (dv1 0)) (blkOk_by (own := [("other", 2)]) (N := N__without) (sc := defScope s__without) (by decide +kernel)) gd_name (gw_name (by decide)) (fun _ _ _ _ _ => pg_name (i := 2) sc__without.nd rfl (by first | exact Or.inl rfl | exact Or.inr rfl) (by first | exact Or.inr rfl | exact Or.inl rfl)) (fun _ _ _ _ _ => (dts_one (dt_cmp (op_neP (u100 hr)) (opD_P rfl) (dv1 2) (dv1 1)))) (fun _ _ _ _ _ => (dv 2)))))))), fun ds hl γ PP XX h => ?_⟩
  match ds, hl, h with
  | [.tup xs, .int a], _, h =>
    unfold F_without at h
    simp only at h
    cases e : intsD xs with
    | none => simp [e] at h
    | some ns =>
      simp only [e, M.run_bind, M.run_need, M.run_pure] at h
      obtain ⟨few, h⟩ := h
      have ex := intsD_eq e
      subst ex
      simp
      refine ⟨Nat.le_trans (Nat.le_of_lt few) (by decide), ?_⟩
      refine comp_T (st := fun (x : Int) e => setS 2 (.int x) e) (q := fun b => decide (b ≠ a)) (p := .int) (fun x _ γ PP z => z) (fun x _ γ PP z => ?_) (fun x _ _ γ PP z => ?_) h
      · simp [toPy, PyData.eqv]
        have e1 : (!x == a) = decide (x ≠ a) := by rw [decide_not]; rfl
        rw [e1]
        exact z
      · simpa using z

abbrev s__meets : Stmt := top 26
abbrev N__meets : List Str := ["lot", "attributes", "part", "attribute"]
theorem sc__meets : FnScope N__meets ["lot", "attributes"] (defScope s__meets) := ⟨rfl, rfl, rfl, by decide +kernel, rfl, by decide +kernel, by decide +kernel⟩
theorem ok__meets {P : Program} {w : World} {W : Wd} {mg : Str → Option Value} {base : Heap} (T : Txt W mg) {f cc : Addr} {fd : FuncData} {PT : Addr} (tb : W.Tb PT (("_meets" : Str) ++ ".<locals>." ++ "<genexpr>") ∧ GxR.TabB base mg cc PT) (Fn : FunC W.K "_meets" "_meets" s__meets f cc fd) :
    FnOk P w W.K mg base (L2.CX P w) 2 f fd ["lot", "attributes"] (spD W 2 F_meets) := by
  obtain ⟨tL, hL⟩ := T.g_LIMIT
  refine okC (k := 1) Fn sc__meets (by decide) fun A outer s H E hr => ⟨_, (ds_one (ds_ret (dp_any2 (own := [("part", 2), ("attribute", 3)]) (vs1 := [3]) (k := 0) tb.1 (hr.mono (by decide)) T.b_any tb.2 rfl sc__meets.nd (Gx.gok_by (own := [("part", 2), ("attribute", 3)]) (N := N__meets) (sc := defScope s__meets) (by decide +kernel)) (by decide) (di_seq rfl (dv1 0)) gd_name (gw_name (by decide)) gd_name (gw_name (by decide)) (fun _ _ _ _ _ _ _ _ hrg => pg_name (i := 2) sc__meets.nd rfl (by first | exact Or.inl rfl | exact Or.inr rfl) (by first | exact Or.inr rfl | exact Or.inl rfl)) (fun _ _ _ _ _ _ _ _ hrg => dts_nil) (fun _ _ _ _ _ _ _ _ hrg => (di_seq rfl (dp_1 (dp_ix rfl (dv1 2) (dp_1 dp_int))))) (fun _ _ _ _ _ _ _ _ hrg => pg_name (i := 3) sc__meets.nd rfl (by first | exact Or.inl rfl | exact Or.inr rfl) (by first | exact Or.inr rfl | exact Or.inl rfl)) (fun _ _ _ _ _ _ _ _ hrg => dts_nil) (fun _ _ _ _ _ _ _ _ hrg => (dp_cmp (op_inP (u100 hrg)) (opD_P rfl) (dv1 3) (dv1 1)))))), fun ds hl γ PP XX h => ?_⟩
  rw [runF_meets] at h
  obtain ⟨l, as, rfl, h1, h2, h⟩ := h
  simp [lotD]
  refine any2_T (st := fun (x : Prt) e => setS 2 x.D e) (p := fun p => p.as.any fun a => as.contains a) rfl (fun x _ γ PP z => z) (fun p hp γ PP z => ?_) (by rw [meets_any]; exact h)
  simp [Prt.D]
  refine z _ (by rw [List.length_map]; exact Nat.le_trans (Nat.le_of_lt (h2 p hp)) (by decide)) fun γ PP z => ?_
  refine all_T (st := fun (x : Int) e => setS 3 (.int x) e) (p := fun a => as.contains a) rfl (fun x _ γ PP z => z) (fun a ha γ PP z => ?_) (by simpa using z)
  simp [toPy, toPyL_int]
  refine ⟨⟨_, rfl, Nat.le_trans (Nat.min_le_right ..) (Nat.zero_le _)⟩, ?_⟩
  rw [inF_intsT]
  exact z

abbrev s__lots : Stmt := top 25
abbrev N__lots : List Str := ["parts", "lots", "part", "linked", "lot", "other"]
theorem sc__lots : FnScope N__lots ["parts"] (defScope s__lots) := ⟨rfl, rfl, rfl, by decide +kernel, rfl, by decide +kernel, by decide +kernel⟩
theorem ok__lots {P : Program} {w : World} {W : Wd} {mg : Str → Option Value} {base : Heap} (T : Txt W mg) {f cc : Addr} {fd : FuncData} (C__meets : Cal P w W mg base "_meets" 2 2 F_meets) (Fn : FunC W.K "_lots" "_lots" s__lots f cc fd) :
    FnOk P w W.K mg base (L2.CX P w) 3 f fd ["parts"] (spD W 1 F_lots) := by
  obtain ⟨tL, hL⟩ := T.g_LIMIT
  refine okC (k := 2) Fn sc__lots (by decide) fun A outer s H E hr => ⟨_, (ds_cons (ds_seto 1 sc__lots.nd rfl (do_lst dpa_nil))
    (ds_cons (ds_for pass_own rfl (df_seq rfl (dv 0)) (pg_name (i := 2) sc__lots.nd rfl (by first | exact Or.inl rfl | exact Or.inr rfl) (by first | exact Or.inr rfl | exact Or.inl rfl)) gd_name (ds_cons (ds_setLc 3 rfl sc__lots.nd (di_seq rfl (dv1 1)) (blkOk_by (own := [("lot", 4)]) (N := N__lots) (sc := defScope s__lots) (by decide +kernel)) gd_name (gw_name (by decide)) (fun _ _ _ _ _ => pg_name (i := 4) sc__lots.nd rfl (by first | exact Or.inl rfl | exact Or.inr rfl) (by first | exact Or.inr rfl | exact Or.inl rfl)) (fun _ _ _ _ _ => (dts_one (dt_val (dp_call C__meets.ok (hr.mono (by decide)) C__meets.mg C__meets.kp C__meets.bd passL (dpa_cons (dv 4) (dpa_cons (dp_ix rfl (dv1 2) (dp_1 dp_int)) dpa_nil)))))) (fun _ _ _ _ _ => (dv 4)))
    (ds_cons (ds_setLc 1 rfl sc__lots.nd (di_seq rfl (dv1 1)) (blkOk_by (own := [("lot", 4)]) (N := N__lots) (sc := defScope s__lots) (by decide +kernel)) gd_name (gw_name (by decide)) (fun _ _ _ _ _ => pg_name (i := 4) sc__lots.nd rfl (by first | exact Or.inl rfl | exact Or.inr rfl) (by first | exact Or.inr rfl | exact Or.inl rfl)) (fun _ _ _ _ _ => (dts_one (dt_not (dt_val (dp_call C__meets.ok (hr.mono (by decide)) C__meets.mg C__meets.kp C__meets.bd passL (dpa_cons (dv 4) (dpa_cons (dp_ix rfl (dv1 2) (dp_1 dp_int)) dpa_nil))))))) (fun _ _ _ _ _ => (dv 4)))
    (ds_one (ds_append 1 (dp_op op_addU (opD_addU _ rfl) (dp_1 (dp_lock (do_lc2 (vs1 := [5]) rfl sc__lots.nd (di_seq rfl (dv1 3)) (blkOk_by (own := [("lot", 4), ("other", 5)]) (N := N__lots) (sc := defScope s__lots) (by decide +kernel)) (by decide) gd_name (gw_name (by decide)) gd_name (gw_name (by decide)) (fun _ _ _ _ _ => pg_name (i := 4) sc__lots.nd rfl (by first | exact Or.inl rfl | exact Or.inr rfl) (by first | exact Or.inr rfl | exact Or.inl rfl)) (fun _ _ _ _ _ => dts_nil) (fun _ _ _ _ _ => (df_seq rfl (dv 4))) (fun _ _ _ _ _ => pg_name (i := 5) sc__lots.nd rfl (by first | exact Or.inl rfl | exact Or.inr rfl) (by first | exact Or.inr rfl | exact Or.inl rfl)) (fun _ _ _ _ _ => dts_nil) (fun _ _ _ _ _ => (dv 5))))) (dp_1 (dp_lock (do_lst (dpa_cons (dv 2) dpa_nil))))))))))
    (ds_frz 1 (ds_one (ds_ret (dv 1)))))), fun ds hl γ PP XX h => ?_⟩
  rw [runF_lots] at h
  obtain ⟨ps, rfl, h1, h2, h⟩ := h
  simp [lotD]
  refine for_T (st := fun (x : Prt) e => setS 2 x.D e) (fun pre e γ1 => γ1 = γ ∧ ∃ (lots : List (List Prt)) (x2 x3 x4 x5 : Option SD), LotsOk pre lots ∧ e = [some (.sh (.lst (ps.map Prt.D))), some (.ow (.lst (lots.map lotD))), x2, x3, x4, x5]) (fun x _ e γ PP z => z) (fun pre p post ex e γ1 hi => ?_) ⟨rfl, [], none, none, none, none, lotsOk_nil, rfl⟩ (fun e γ1 ⟨eγ, lots, x2, x3, x4, x5, ok, he⟩ => ?_)
  · obtain ⟨rfl, lots, x2, x3, x4, x5, ok, rfl⟩ := hi
    obtain ⟨sm, sm2⟩ := ok.small
    have plen : pre.length < ps.length := by rw [ex, List.length_append, List.length_cons]; omega
    have pin : ∀ q ∈ pre, q ∈ ps := fun q hq => by rw [ex]; exact List.mem_append_left _ hq
    have test : ∀ l ∈ lots, ∀ (γ : Gh) (PP : D → Gh → Prop), PP (.bl (decide (Meets l p.as))) γ → (F_meets [lotD l, .tup (p.as.map .int)]).run γ PP (fun _ _ => False) := fun l hl γ PP z => by
      rw [runF_meets]
      obtain ⟨s1, s2⟩ := sm l hl
      exact ⟨l, p.as, rfl, by omega, fun q hq => h2 q (pin q (s2 q hq)), z⟩
    have lz : lots.length ≤ sizeLine := Nat.le_trans (show lots.length ≤ 8 by omega) (by decide)
    simp
    refine ⟨lz, ?_⟩
    refine comp_T (st := fun (l : List Prt) e => setS 4 (lotD l) e) (q := fun l => decide (Meets l p.as)) (p := lotD) (fun x _ γ PP z => z) (fun l hl γ PP z => ?_) (fun l _ _ γ PP z => ?_) ?_
    · simp [Prt.D]
      exact test l hl _ _ (by simpa using z)
    · simpa using z
    refine ⟨lz, ?_⟩
    refine comp_T (st := fun (l : List Prt) e => setS 4 (lotD l) e) (q := fun l => !decide (Meets l p.as)) (p := lotD) (fun x _ γ PP z => z) (fun l hl γ PP z => ?_) (fun l _ _ γ PP z => ?_) ?_
    · simp [Prt.D]
      exact test l hl _ _ (by simpa using z)
    · simpa using z
    simp
    have fl : ((lots.filter fun l => decide (Meets l p.as)).flatMap fun l => l.map Prt.D) = (lots.filter fun l => decide (Meets l p.as)).flatten.map Prt.D := by rw [List.flatMap_def, List.map_flatten]
    have fz : (lots.filter fun l => decide (Meets l p.as)).flatten.length ≤ 8 := by
      have z1 := (flatten_parts (q := fun l => decide (Meets l p.as)) lots).length_eq
      rw [List.length_append, ok.perm.length_eq] at z1
      omega
    have nz : (lots.filter fun l => !decide (Meets l p.as)).length ≤ lots.length := List.length_filter_le _ _
    have s8 : 16 < sizeLine := by decide
    have fz2 : ((lots.filter fun l => decide (Meets l p.as)).flatMap fun l => l.map Prt.D).length ≤ 8 := by rw [fl, List.length_map]; exact fz
    refine comp2_T (st := fun (l : List Prt) e => setS 4 (lotD l) e) (rows := fun l => l.map Prt.D) rfl (fun x _ γ PP z => z) (fun l hl γ PP _ z => ?_) (by omega) ?_
    · simp [lotD]
      refine z _ (by rw [List.length_map]) fun γ PP z => ?_
      refine comp_A (st := fun (q : Prt) e => setS 5 q.D e) (p := Prt.D) (fun x _ γ PP z => z) rfl (fun q hq γ PP z => ?_) z
      simpa using z
    · rw [fl]
      refine ⟨by omega, by rw [List.length_map]; omega, by omega, rfl, _, ok.step p, ?_⟩
      rw [List.map_append, List.map_cons, List.map_nil]
      simp [lotD]
  · subst he eγ
    simp
    exact h lots ok

abbrev s__grouped : Stmt := top 29
abbrev N__grouped : List Str := ["part", "attribute", "attributes", "rows", "place", "groups", "row"]
theorem sc__grouped : FnScope N__grouped ["part", "attribute"] (defScope s__grouped) := ⟨rfl, rfl, rfl, by decide +kernel, rfl, by decide +kernel, by decide +kernel⟩
theorem ok__grouped {P : Program} {w : World} {W : Wd} {mg : Str → Option Value} {base : Heap} (T : Txt W mg) {f cc : Addr} {fd : FuncData} (Fn : FunC W.K "_grouped" "_grouped" s__grouped f cc fd) :
    FnOk P w W.K mg base (L2.CX P w) 1 f fd ["part", "attribute"] (spD W 2 F_grouped) := by
  obtain ⟨tL, hL⟩ := T.g_LIMIT
  refine okC (k := 0) Fn sc__grouped (by decide) fun A outer s H E hr => ⟨_, (ds_cons (ds_asg (dv 0) (pg_tup rfl (pgs_cons (pg_name (i := 2) sc__grouped.nd rfl (by first | exact Or.inl rfl | exact Or.inr rfl) (by first | exact Or.inr rfl | exact Or.inl rfl)) (pgs_cons (pg_name (i := 3) sc__grouped.nd rfl (by first | exact Or.inl rfl | exact Or.inr rfl) (by first | exact Or.inr rfl | exact Or.inl rfl)) pgs_nil))) (gd_tup rfl [2, 3]))
    (ds_cons (ds_set 4 sc__grouped.nd rfl (dp_tindex rfl (dv1 2) (dv 1)))
    (ds_group 5 6 sc__grouped.nd rfl pass_own rfl rfl (by decide) (df_seq rfl (dv 3)) (dp_ix rfl (dv1 6) (dv1 4)) (dp_op op_addU (opD_addU _ rfl) (dp_1 (dp_slice rfl (dv1 6) dpo_none (dpo_some (dv1 4)))) (dp_1 (dp_slice rfl (dv1 6) (dpo_some (dp_1 (dp_op op_addU (opD_addU _ rfl) (dv1 4) (dp_1 dp_int)))) dpo_none)))))), fun ds hl γ PP XX h => ?_⟩
  rw [runF_grouped] at h
  obtain ⟨p, a, rfl, ok, ha, few, h⟩ := h
  obtain ⟨u, v, e, k, fe⟩ := Prt.split ok.nd ha
  have hu : u.length < p.as.length := by rw [e, List.length_append, List.length_cons]; omega
  have sz : 2 ^ 20 < sizeLine := by decide
  simp [Prt.D, intsD_map, ha, k]
  have go : ∀ (b : DE), b = [some (.sh p.D), some (.sh (.int a)), some (.sh (.tup (p.as.map .int))), some (.sh (if p.l = true then .lst (p.rows.map rowD) else .tup (p.rows.map rowD))), some (.sh (.int u.length)), none, none] → True := fun _ _ => trivial
  cases hl : p.l <;> simp
  all_goals
    refine group_T (key := p.col a) (val := fun r => rowD (r.eraseIdx (p.as.idxOf a))) p.rows [] _ [] rfl (fun r hr γ PP z => ?_) (fun r hr γ PP z => ?_) (by simpa using few) List.nodup_nil (fun n => by simp) fun ks nd hm => ?_
    · have lr := ok.len r hr
      have hat : (r.map D.int)[u.length]? = some (.int (p.col a r)) := by
        unfold Prt.col
        rw [k, List.getElem?_map, List.getD_eq_getElem?_getD, List.getElem?_eq_getElem (by omega)]
        rfl
      simp [rowD, atN hat]
      exact z
    · have lr := ok.len r hr
      simp [rowD]
      rw [cut_to (by omega) (by rw [List.length_map]; omega), cut_from (by omega) (by rw [List.length_map]; omega)]
      have z : PP (.tup ((r.eraseIdx (p.as.idxOf a)).map .int)) γ := z
      rw [k, List.eraseIdx_eq_take_drop_succ, List.map_append, List.map_take, List.map_drop] at z
      have e1 : ((u.length : Int) + 1).toNat = u.length + 1 := by omega
      rw [e1]
      have l8 := ok.few
      refine ⟨?_, by simpa using z⟩
      rw [List.length_take, List.length_drop, List.length_map]
      omega
    · simp
      have := h ks nd (fun n => by rw [hm]; simp)
      have e3 : (fun n => D.lst ((p.left a n).map rowD)) = (D.lst ∘ fun n => (p.rows.filter fun r => decide (p.col a r = n)).map fun r => rowD (r.eraseIdx (p.as.idxOf a))) := by
        funext n
        unfold Prt.left
        rw [List.map_map]
        rfl
      rw [e3] at this
      exact this

abbrev s__shared : Stmt := top 28
abbrev N__shared : List Str := ["groups", "shared", "group", "number"]
theorem sc__shared : FnScope N__shared ["groups"] (defScope s__shared) := ⟨rfl, rfl, rfl, by decide +kernel, rfl, by decide +kernel, by decide +kernel⟩
theorem ok__shared {P : Program} {w : World} {W : Wd} {mg : Str → Option Value} {base : Heap} (T : Txt W mg) {f cc : Addr} {fd : FuncData} (Fn : FunC W.K "_shared" "_shared" s__shared f cc fd) :
    FnOk P w W.K mg base (L2.CX P w) 1 f fd ["groups"] (spD W 1 F_shared) := by
  obtain ⟨tL, hL⟩ := T.g_LIMIT
  refine okC (k := 0) Fn sc__shared (by decide) fun A outer s H E hr => ⟨_, (ds_cons (ds_seto 1 sc__shared.nd rfl (do_listZ rfl rfl T.b_list (dp_1 (dp_ix rfl (dv1 0) (dp_1 dp_int)))))
    (ds_cons (ds_for pass_own rfl (df_seq rfl (dp_slice rfl (dv1 0) (dpo_some (dp_1 dp_int)) dpo_none)) (pg_name (i := 2) sc__shared.nd rfl (by first | exact Or.inl rfl | exact Or.inr rfl) (by first | exact Or.inr rfl | exact Or.inl rfl)) gd_name (ds_one (ds_setLc 1 rfl sc__shared.nd (di_seq rfl (dv1 1)) (blkOk_by (own := [("number", 3)]) (N := N__shared) (sc := defScope s__shared) (by decide +kernel)) gd_name (gw_name (by decide)) (fun _ _ _ _ _ => pg_name (i := 3) sc__shared.nd rfl (by first | exact Or.inl rfl | exact Or.inr rfl) (by first | exact Or.inr rfl | exact Or.inl rfl)) (fun _ _ _ _ _ => (dts_one (dt_inZ (u100 hr) (dv1 3) (dv1 2)))) (fun _ _ _ _ _ => (dv 3)))))
    (ds_frz 1 (ds_one (ds_ret (dv 1)))))), fun ds hl γ PP XX h => ?_⟩
  rw [runF_shared] at h
  obtain ⟨gs, rfl, ne, g8, hg, h⟩ := h
  obtain ⟨g0, gr, rfl⟩ := List.exists_cons_of_ne_nil ne
  obtain ⟨nd0, l0, z0⟩ := hg g0 List.mem_cons_self
  simp [at_zero, cut_tail]
  refine for_T (st := fun (g : List Int × List D) e => setS 2 (.dil g.1 g.2) e) (fun pre e γ1 => γ1 = γ ∧ ∃ (s : List Int) (x2 x3 : Option SD), s.Nodup ∧ s.length ≤ 2 ^ 20 ∧ (∀ n, n ∈ s ↔ n ∈ g0.1 ∧ ∀ g ∈ pre, n ∈ g.1) ∧ e = [some (.sh (.lst (.dil g0.1 g0.2 :: gr.map fun g => .dil g.1 g.2))), some (.ow (.lst (s.map .int))), x2, x3]) (fun x _ e γ PP z => z) (fun pre g post ex e γ1 hi => ?_) ⟨rfl, g0.1, none, none, nd0, z0, fun n => by simp, rfl⟩ (fun e γ1 ⟨eγ, s, x2, x3, nd, sz, hm, he⟩ => ?_)
  · obtain ⟨rfl, s, x2, x3, nd, sz, hm, rfl⟩ := hi
    obtain ⟨gd, gl, gz⟩ := hg g (by rw [ex]; simp)
    have s20 : 2 ^ 20 < sizeLine := by decide
    simp
    refine ⟨by omega, ?_⟩
    refine comp_T (st := fun (n : Int) e => setS 3 (.int n) e) (q := fun n => decide (n ∈ g.1)) (p := .int) (fun x _ γ PP z => z) (fun n hn γ PP z => ?_) (fun n _ _ γ PP z => ?_) ?_
    · simp [getZ_mem gl]
      simpa using z
    · simpa using z
    · refine ⟨rfl, s.filter fun n => decide (n ∈ g.1), nd.filter _, Nat.le_trans (List.length_filter_le _ _) sz, fun n => ?_, rfl⟩
      rw [List.mem_filter, hm, decide_eq_true_iff]
      obtain ⟨ga, gb⟩ := g
      constructor
      · rintro ⟨⟨h1, h2⟩, h3⟩
        refine ⟨h1, fun a b hq => hq.elim (fun z => h2 (a, b) z) fun e => ?_⟩
        cases e
        exact h3
      · rintro ⟨h1, h2⟩
        exact ⟨⟨h1, fun q hq => h2 q.1 q.2 (.inl hq)⟩, h2 ga gb (.inr rfl)⟩
  · subst he eγ
    simp
    refine h s nd sz fun n => ?_
    rw [hm]
    simp

end Ck

set_option maxRecDepth 100000
set_option maxHeartbeats 8000000
namespace Ck
open PySem PySem.Spec PyProof.Rows L2 Dl

abbrev s__thinnest : Stmt := top 27
abbrev N__thinnest : List Str := ["lot", "best", "attribute", "shared", "groups", "others", "held", "choices", "number", "rest", "part", "a", "k"]
theorem sc__thinnest : FnScope N__thinnest ["lot"] (defScope s__thinnest) := ⟨rfl, rfl, rfl, by decide +kernel, rfl, by decide +kernel, by decide +kernel⟩
theorem ok__thinnest {P : Program} {w : World} {W : Wd} {mg : Str → Option Value} {base : Heap} (T : Txt W mg) {f cc : Addr} {fd : FuncData} (C__grouped : Cal P w W mg base "_grouped" 1 2 F_grouped) (C__shared : Cal P w W mg base "_shared" 1 1 F_shared) (C__without : Cal P w W mg base "_without" 1 2 F_without) (Fn : FunC W.K "_thinnest" "_thinnest" s__thinnest f cc fd) :
    FnOk P w W.K mg base (L2.CX P w) 3 f fd ["lot"] (spD W 1 F_thinnest) := by
  obtain ⟨tL, hL⟩ := T.g_LIMIT
  refine okC (k := 2) Fn sc__thinnest (by decide) fun A outer s H E hr => ⟨_, (ds_cons (ds_set 1 sc__thinnest.nd rfl dp_non)
    (ds_cons (ds_for pass_own rfl (df_seq rfl (dp_lock (do_sortedSC2 (vs1 := [11]) rfl rfl T.b_sorted sc__thinnest.nd (di_seq rfl (dv1 0)) (blkOk_by (own := [("part", 10), ("a", 11)]) (N := N__thinnest) (sc := defScope s__thinnest) (by decide +kernel)) (by decide) gd_name (gw_name (by decide)) gd_name (gw_name (by decide)) (fun _ _ _ _ _ => pg_name (i := 10) sc__thinnest.nd rfl (by first | exact Or.inl rfl | exact Or.inr rfl) (by first | exact Or.inr rfl | exact Or.inl rfl)) (fun _ _ _ _ _ => dts_nil) (fun _ _ _ _ _ => (df_seq rfl (dp_ix rfl (dv1 10) (dp_1 dp_int)))) (fun _ _ _ _ _ => pg_name (i := 11) sc__thinnest.nd rfl (by first | exact Or.inl rfl | exact Or.inr rfl) (by first | exact Or.inr rfl | exact Or.inl rfl)) (fun _ _ _ _ _ => dts_nil) (fun _ _ _ _ _ => (dv 11))))) (pg_name (i := 2) sc__thinnest.nd rfl (by first | exact Or.inl rfl | exact Or.inr rfl) (by first | exact Or.inr rfl | exact Or.inl rfl)) gd_name (ds_cons (ds_set 4 sc__thinnest.nd rfl (dp_lock (do_lc rfl sc__thinnest.nd (di_seq rfl (dv1 0)) (blkOk_by (own := [("part", 10)]) (N := N__thinnest) (sc := defScope s__thinnest) (by decide +kernel)) gd_name (gw_name (by decide)) (fun _ _ _ _ _ => pg_name (i := 10) sc__thinnest.nd rfl (by first | exact Or.inl rfl | exact Or.inr rfl) (by first | exact Or.inr rfl | exact Or.inl rfl)) (fun _ _ _ _ _ => (dts_one (dt_cmp (op_inP (u100 hr)) (opD_P rfl) (dv1 2) (dp_1 (dp_ix rfl (dv1 10) (dp_1 dp_int)))))) (fun _ _ _ _ _ => (dp_call C__grouped.ok (hr.mono (by decide)) C__grouped.mg C__grouped.kp C__grouped.bd passL (dpa_cons (dv 10) (dpa_cons (dv 2) dpa_nil)))))))
    (ds_cons (ds_set 3 sc__thinnest.nd rfl (dp_call C__shared.ok (hr.mono (by decide)) C__shared.mg C__shared.kp C__shared.bd pass_cx (dpa_cons (dv 4) dpa_nil)))
    (ds_one (ds_if (PW.pt (dw_or (dt_isN (dv1 1)) (dw_or1 (dt_cmp op_lt opD_lt (dp_1 (dp_len rfl T.b_len (dv1 3))) (dp_1 (dp_len rfl T.b_len (dp_1 (dp_ix rfl (dv1 1) (dp_1 dp_int))))))))) (ds_one (ds_set 1 sc__thinnest.nd rfl (dp_tup (dpa_cons (dv 2) (dpa_cons (dv 3) (dpa_cons (dv 4) dpa_nil)))))) ds_nil)))))
    (ds_cons (ds_asg (dv 1) (pg_tup rfl (pgs_cons (pg_name (i := 2) sc__thinnest.nd rfl (by first | exact Or.inl rfl | exact Or.inr rfl) (by first | exact Or.inr rfl | exact Or.inl rfl)) (pgs_cons (pg_name (i := 3) sc__thinnest.nd rfl (by first | exact Or.inl rfl | exact Or.inr rfl) (by first | exact Or.inr rfl | exact Or.inl rfl)) (pgs_cons (pg_name (i := 4) sc__thinnest.nd rfl (by first | exact Or.inl rfl | exact Or.inr rfl) (by first | exact Or.inr rfl | exact Or.inl rfl)) pgs_nil)))) (gd_tup rfl [2, 3, 4]))
    (ds_cons (ds_setLc 5 rfl sc__thinnest.nd (di_seq rfl (dv1 0)) (blkOk_by (own := [("part", 10)]) (N := N__thinnest) (sc := defScope s__thinnest) (by decide +kernel)) gd_name (gw_name (by decide)) (fun _ _ _ _ _ => pg_name (i := 10) sc__thinnest.nd rfl (by first | exact Or.inl rfl | exact Or.inr rfl) (by first | exact Or.inr rfl | exact Or.inl rfl)) (fun _ _ _ _ _ => (dts_one (dt_cmp (op_notInP (u100 hr)) (opD_P rfl) (dv1 2) (dp_1 (dp_ix rfl (dv1 10) (dp_1 dp_int)))))) (fun _ _ _ _ _ => (dv 10)))
    (ds_cons (ds_set 6 sc__thinnest.nd rfl (dp_lock (do_lc rfl sc__thinnest.nd (di_seq rfl (dv1 0)) (blkOk_by (own := [("part", 10)]) (N := N__thinnest) (sc := defScope s__thinnest) (by decide +kernel)) gd_name (gw_name (by decide)) (fun _ _ _ _ _ => pg_name (i := 10) sc__thinnest.nd rfl (by first | exact Or.inl rfl | exact Or.inr rfl) (by first | exact Or.inr rfl | exact Or.inl rfl)) (fun _ _ _ _ _ => (dts_one (dt_cmp (op_inP (u100 hr)) (opD_P rfl) (dv1 2) (dp_1 (dp_ix rfl (dv1 10) (dp_1 dp_int)))))) (fun _ _ _ _ _ => (dp_call C__without.ok (hr.mono (by decide)) C__without.mg C__without.kp C__without.bd passL (dpa_cons (dp_ix rfl (dv1 10) (dp_1 dp_int)) (dpa_cons (dv 2) dpa_nil)))))))
    (ds_cons (ds_seto 7 sc__thinnest.nd rfl (do_lst dpa_nil))
    (ds_cons (ds_for pass_own rfl (df_seq rfl (dv 3)) (pg_name (i := 8) sc__thinnest.nd rfl (by first | exact Or.inl rfl | exact Or.inr rfl) (by first | exact Or.inr rfl | exact Or.inl rfl)) gd_name (ds_cons (ds_setLc 9 rfl sc__thinnest.nd (d_rng1 (.inl rfl) T.b_range (dp_1 (dp_len rfl T.b_len (dv1 6)))) (blkOk_by (own := [("k", 12)]) (N := N__thinnest) (sc := defScope s__thinnest) (by decide +kernel)) gd_name (gw_name (by decide)) (fun _ _ _ _ _ => pg_name (i := 12) sc__thinnest.nd rfl (by first | exact Or.inl rfl | exact Or.inr rfl) (by first | exact Or.inr rfl | exact Or.inl rfl)) (fun _ _ _ _ _ => (dts_one (dt_cmp op_gt opD_gt (dp_1 (dp_len rfl T.b_len (dp_1 (dp_ix rfl (dv1 6) (dv1 12))))) (dp_1 dp_int)))) (fun _ _ _ _ _ => (dp_tup (dpa_cons (dp_ix rfl (dv1 6) (dv1 12)) (dpa_cons (dp_dixZ rfl (u100 hr) (dp_1 (dp_ix rfl (dv1 4) (dv1 12))) (dv1 8)) dpa_nil)))))
    (ds_one (ds_append 7 (dp_tup (dpa_cons (dv 8) (dpa_cons (dp_op op_addU (opD_addU _ rfl) (dv1 9) (dv1 5)) dpa_nil)))))))
    (ds_frz 7 (ds_one (ds_ret (dp_tup (dpa_cons (dv 2) (dpa_cons (dv 7) dpa_nil))))))))))))), fun ds hl γ PP XX h => ?_⟩
  rw [runF_thinnest] at h
  obtain ⟨n, lot, rfl, ok, ne, h⟩ := h
  have few : ∀ p ∈ lot, p.as.length < 8 := fun p hp => (ok.ok p hp).few
  have l8 : lot.length ≤ 8 := ok.sz
  have s20 : 2 ^ 20 < sizeLine := by decide
  simp [lotD]
  refine ⟨l8, ?_⟩
  refine sc2_T (st := fun (p : Prt) e => setS 10 p.D e) (rows := fun p => p.as.map .int) rfl (fun x _ γ PP z => z) (fun p hp γ PP z => ?_) ?_
  · simp [Prt.D]
    refine z _ (by rw [List.length_map]; exact few p hp) fun γ PP z => ?_
    refine comp_A (st := fun (a : Int) e => setS 11 (.int a) e) (p := .int) (fun x _ γ PP z => z) rfl (fun a ha γ PP z => ?_) z
    simpa using z
  have efm : (lot.flatMap fun p => p.as.map D.int) = (lot.flatMap fun p => p.as).map .int := by rw [List.map_flatMap]
  rw [efm, intsD_map]
  simp only [run_ascSet]
  intro as asc mem as64
  have inA : ∀ a, a ∈ as ↔ inAt lot a := fun a => by
    rw [mem, List.mem_flatMap]
    rfl
  have asne : as ≠ [] := by
    obtain ⟨p, lot', rfl⟩ := List.exists_cons_of_ne_nil ne
    obtain ⟨a, as', e⟩ := List.exists_cons_of_ne_nil (ok.ok p List.mem_cons_self).ne
    have := (inA a).mpr ⟨p, List.mem_cons_self, by rw [e]; exact List.mem_cons_self⟩
    exact List.ne_nil_of_mem this
  have test : ∀ (a : Int) (p : Prt), p ∈ lot → ∀ (γ : Gh) (b : Bool) (PP : Bool → Gh → Prop), PP (decide (a ∈ p.as)) γ → PP (inF (.int a) (.tuple (p.as.map .int))) γ := fun a p hp γ b PP z => by
    rw [inF_intsT]
    have : p.as.contains a = decide (a ∈ p.as) := by rw [Bool.eq_iff_iff]; simp
    rw [this]
    exact z
  refine for_T (g := D.int) (st := fun (a : Int) e => setS 2 (.int a) e) (fun pre e γ1 => γ1 = γ ∧ ∃ (b : D) (x2 x3 x4 : Option SD), ((pre = [] ∧ b = .non) ∨ ∃ a ns zs, BestZ lot a ns zs ∧ b = bestD a ns zs) ∧ e = [some (.sh (.lst (lot.map Prt.D))), some (.sh b), x2, x3, x4, none, none, none, none, none, none, none, none]) (fun x _ e γ PP z => z) (fun pre a post ex e γ1 hi => ?_) ⟨rfl, .non, none, none, none, .inl ⟨rfl, rfl⟩, rfl⟩ (fun e γ1 ⟨eγ, b, x2, x3, x4, hb, he⟩ => ?_)
  · obtain ⟨rfl, b, x2, x3, x4, hb, rfl⟩ := hi
    have ha : inAt lot a := (inA a).mp (by rw [ex]; simp)
    simp
    refine ⟨by omega, ?_⟩
    refine comp_pick (β := List Int) (st := fun (p : Prt) e => setS 10 p.D e) (q := fun p => decide (a ∈ p.as)) (R := fun p ks => ks.Nodup ∧ ∀ n, n ∈ ks ↔ ∃ r ∈ p.rows, p.col a r = n) (p := fun p ks => grpD a (p, ks)) (fun x _ γ PP z => z) (fun p hp γ PP z => ?_) (fun p hp hq γ PP z => ?_) fun zs hz hr => ?_
    · simp [Prt.D, toPy, toPyL_int]
      refine ⟨⟨_, rfl, Nat.le_trans (Nat.min_le_right ..) (Nat.zero_le _)⟩, ?_⟩
      exact test a p hp γ true PP z
    · simp
      rw [runF_grouped]
      have rl : p.rows.length ≤ 2 ^ 20 := Nat.le_trans (bdM_mem hp) ok.bd
      exact ⟨p, a, rfl, ok.ok p hp, by simpa using hq, rl, fun ks nd hm => z ks ⟨nd, hm⟩⟩
    rw [runF_shared]
    have zl : zs.length ≤ 8 := by
      have := congrArg List.length hz
      rw [List.length_map] at this
      have := List.length_filter_le (fun p : Prt => decide (a ∈ p.as)) lot
      omega
    have zin : ∀ z ∈ zs, z.1 ∈ lot ∧ a ∈ z.1.as := fun z hz' => by
      have := List.mem_map_of_mem (f := (·.1)) hz'
      rw [hz, List.mem_filter, decide_eq_true_iff] at this
      exact this
    have zne : zs ≠ [] := by
      obtain ⟨p, hp, hpa⟩ := ha
      have : p ∈ zs.map (·.1) := by rw [hz]; exact List.mem_filter.mpr ⟨hp, decide_eq_true hpa⟩
      obtain ⟨z, hz', _⟩ := List.mem_map.mp this
      exact List.ne_nil_of_mem hz'
    refine ⟨zs.map fun z => (z.2, z.2.map fun n => .lst ((z.1.left a n).map rowD)), by rw [List.map_map]; rfl, by simpa using zne, by rw [List.length_map]; exact zl, fun g hg => ?_, fun ns nd nl nm => ?_⟩
    · obtain ⟨z, hz', rfl⟩ := List.mem_map.mp hg
      obtain ⟨k1, k2⟩ := hr z hz'
      refine ⟨k1, by rw [List.length_map], ?_⟩
      have := len_le k1 (m := z.1.rows.map (z.1.col a)) fun n hn => by
        obtain ⟨r, h1, h2⟩ := (k2 n).mp hn
        exact List.mem_map.mpr ⟨r, h1, h2⟩
      rw [List.length_map] at this
      exact Nat.le_trans this (Nat.le_trans (bdM_mem (zin z hz').1) ok.bd)
    have B : BestZ lot a ns zs := ⟨ha, hz, hr, nd, nl, fun n => by
      rw [nm]
      constructor
      · intro z q hq
        exact z _ (List.mem_map_of_mem hq)
      · intro z q hq
        obtain ⟨y, hy, rfl⟩ := List.mem_map.mp hq
        exact z y hy⟩
    rcases hb with ⟨_, rfl⟩ | ⟨a0, ns0, zs0, B0, rfl⟩
    · simp
      exact ⟨by omega, a, ns, zs, B, rfl⟩
    · simp [bestD, at_one]
      split
      · exact ⟨by omega, a, ns, zs, B, rfl, rfl, rfl⟩
      · exact ⟨a0, ns0, zs0, B0, rfl, rfl, rfl⟩
  · subst he eγ
    have hb2 : ∃ a ns zs, BestZ lot a ns zs ∧ b = bestD a ns zs := hb.elim (fun ⟨z, _⟩ => absurd z asne) id
    obtain ⟨a, ns, zs, B, rfl⟩ := hb2
    simp [bestD]
    refine ⟨by omega, ?_⟩
    refine comp_T (st := fun (p : Prt) e => setS 10 p.D e) (q := fun p => decide (a ∉ p.as)) (p := Prt.D) (fun x _ γ PP z => z) (fun p hp γ PP z => ?_) (fun p hp _ γ PP z => ?_) ?_
    · simp [Prt.D, toPy, toPyL_int]
      refine ⟨⟨_, rfl, Nat.le_trans (Nat.min_le_right ..) (Nat.zero_le _)⟩, ?_⟩
      have e : (!inF (.int a) (.tuple (p.as.map .int))) = decide (a ∉ p.as) := by rw [inF_intsT, decide_not]; congr 1; rw [Bool.eq_iff_iff]; simp
      rw [e]
      exact z
    · simpa using z
    refine ⟨by omega, ?_⟩
    refine comp_T (st := fun (p : Prt) e => setS 10 p.D e) (q := fun p => decide (a ∈ p.as)) (p := fun p => .tup ((p.as.filter fun b => decide (b ≠ a)).map .int)) (fun x _ γ PP z => z) (fun p hp γ PP z => ?_) (fun p hp _ γ PP z => ?_) ?_
    · simp [Prt.D, toPy, toPyL_int]
      refine ⟨⟨_, rfl, Nat.le_trans (Nat.min_le_right ..) (Nat.zero_le _)⟩, ?_⟩
      exact test a p hp γ true PP z
    · simp [Prt.D, F_without, intsD_map]
      exact ⟨few p hp, by simpa using z⟩
    simp
    refine for_T (g := D.int) (st := fun (k : Int) e => setS 8 (.int k) e) (fun pre e γ2 => γ2 = γ1 ∧ ∃ (x8 x9 : Option SD), e = [some (.sh (.lst (lot.map Prt.D))), some (.sh (.tup [.int a, .lst (ns.map .int), .lst (zs.map (grpD a))])), some (.sh (.int a)), some (.sh (.lst (ns.map .int))), some (.sh (.lst (zs.map (grpD a)))), some (.ow (.lst ((lot.filter fun p => !decide (a ∈ p.as)).map Prt.D))),
      some (.sh (.lst ((lot.filter fun p => decide (a ∈ p.as)).map fun p => .tup ((p.as.filter fun b => !decide (b = a)).map .int)))), some (.ow (.lst (pre.map fun k => .tup [.int k, lotD (restOf lot a k)]))), x8, x9, none, none, none]) (fun x _ e γ PP z => z) (fun pre k post ek e γ2 hi => ?_) ⟨rfl, none, none, rfl⟩ (fun e γ2 ⟨eγ, x8, x9, he⟩ => ?_)
    · obtain ⟨rfl, x8, x9, rfl⟩ := hi
      have kin : k ∈ ns := by rw [ek]; simp
      have pl : pre.length < ns.length := by rw [ek, List.length_append, List.length_cons]; omega
      have nl := B.few
      have fl := List.length_filter_le (fun p : Prt => decide (a ∈ p.as)) lot
      have fl2 := List.length_filter_le (fun p : Prt => !decide (a ∈ p.as)) lot
      simp
      rw [rangeD_nat]
      refine ⟨by omega, by rw [List.length_map, List.length_range]; omega, ?_⟩
      refine comp_T (α := Nat) (g := fun j => .int (j : Int)) (st := fun (j : Nat) e => setS 12 (.int (j : Int)) e) (q := fun j => decide ((((lot.filter fun p => decide (a ∈ p.as)).getD j default).as.filter fun b => decide (b ≠ a)) ≠ [])) (p := fun j => (((lot.filter fun p => decide (a ∈ p.as)).getD j default).red a k).D) (fun x _ γ PP z => z) (fun j hj γ PP z => ?_) (fun j hj _ γ PP z => ?_) ?_
      · have hj := List.mem_range.mp hj
        simp [at_map hj]
        simpa using z
      · have hj := List.mem_range.mp hj
        obtain ⟨ks, h1, h2⟩ := B.at_k hj
        simp [at_map hj, h1, grpD, getZ_map (h2 k kin)]
        refine ⟨by omega, ?_⟩
        simpa [Prt.D, Prt.red] using z
      · rw [range_pick (lot.filter fun p => decide (a ∈ p.as)) (fun p => decide ((p.as.filter fun b => decide (b ≠ a)) ≠ [])) (fun p => (p.red a k).D)]
        have f3 := List.length_filter_le (fun p : Prt => decide ((p.as.filter fun b => decide (b ≠ a)) ≠ [])) (lot.filter fun p => decide (a ∈ p.as))
        have e9 : (lot.filter fun p => decide (a ∉ p.as)) = lot.filter fun p => !decide (a ∈ p.as) := by
          congr 1
          funext p
          exact decide_not
        refine ⟨by rw [List.length_map]; omega, by omega, by omega, rfl, ?_⟩
        unfold lotD restOf
        rw [List.map_append, List.map_map, e9]
        rfl
    · subst he eγ
      simp
      exact ⟨by omega, h a ns B.at_ B.nd B.few fun k => B.cond k⟩

end Ck

set_option maxRecDepth 100000
set_option maxHeartbeats 8000000
namespace Ck
open PySem PySem.Spec PyProof.Rows L2 Dl

abbrev s__has_way : Stmt := top 24
abbrev N__has_way : List Str := ["lot", "choices", "_", "rest", "part"]
theorem sc__has_way : FnScope N__has_way ["lot"] (defScope s__has_way) := ⟨rfl, rfl, rfl, by decide +kernel, rfl, by decide +kernel, by decide +kernel⟩
theorem dead__has_way {P : Program} {w : World} {W : Wd} {mg : Str → Option Value} {base : Heap} {f cc : Addr} {fd : FuncData} {F : List D → M D} (k : Nat) (hF : ∀ ds γ PP XX, ¬ (F ds).run γ PP XX) (Fn : FunC W.K "_has_way" "_has_way" s__has_way f cc fd) :
    FnOk P w W.K mg base (L2.CX P w) (k + 1) f fd ["lot"] (spD W 1 F) := okC (k := k) Fn sc__has_way (by decide) fun A outer s H E hr => ⟨_, dead_ss, fun ds hl γ PP XX h => absurd h (hF ds γ PP XX)⟩
theorem okn__has_way {P : Program} {w : World} {W : Wd} {mg : Str → Option Value} {base : Heap} (T : Txt W mg) {f cc : Addr} {fd : FuncData} (n : Nat) {PT : Addr} (tb : W.Tb PT (("_has_way" : Str) ++ ".<locals>." ++ "<genexpr>") ∧ GxR.TabB base mg cc PT) (C__thinnest : Cal P w W mg base "_thinnest" (3) 1 (F_thinnest)) (C__has_way : Cal P w W mg base "_has_way" (2 * n + 4) 1 (F_has n)) (C__lots : Cal P w W mg base "_lots" (3) 1 (F_lots)) (Fn : FunC W.K "_has_way" "_has_way" s__has_way f cc fd) :
    FnOk P w W.K mg base (L2.CX P w) (2 * n + 6) f fd ["lot"] (spD W 1 (F_has (n + 1))) := by
  refine okC (k := 2 * n + 5) Fn sc__has_way (by decide) fun A outer s H E hr => ⟨_, (ds_cons (ds_set 1 sc__has_way.nd rfl (dp_ix rfl (dp_1 (dp_call C__thinnest.ok (hr.mono (by omega)) C__thinnest.mg C__thinnest.kp C__thinnest.bd pass_cx (dpa_cons (dv 0) dpa_nil))) (dp_1 dp_int)))
    (ds_cons (ds_for pass_own rfl (df_seq rfl (dv 1)) (pg_tup rfl (pgs_cons (pg_name (i := 2) sc__has_way.nd rfl (by first | exact Or.inl rfl | exact Or.inr rfl) (by first | exact Or.inr rfl | exact Or.inl rfl)) (pgs_cons (pg_name (i := 3) sc__has_way.nd rfl (by first | exact Or.inl rfl | exact Or.inr rfl) (by first | exact Or.inr rfl | exact Or.inl rfl)) pgs_nil))) (gd_tup rfl [2, 3]) (ds_one (ds_if (dt_val (dp_all (own := [("part", 4)]) (k := (2 * n + 4)) tb.1 (hr.mono (by omega)) T.b_all tb.2 rfl sc__has_way.nd (Gx.gok_by (own := [("part", 4)]) (N := N__has_way) (sc := defScope s__has_way) (by decide +kernel)) (di_seq rfl (dp_1 (dp_call C__lots.ok (hr.mono (by omega)) C__lots.mg C__lots.kp C__lots.bd pass_cx (dpa_cons (dv 3) dpa_nil)))) gd_name (gw_name (by decide)) (fun _ _ _ _ _ _ _ _ _ => pg_name (i := 4) sc__has_way.nd rfl (by first | exact Or.inl rfl | exact Or.inr rfl) (by first | exact Or.inr rfl | exact Or.inl rfl)) (fun _ _ _ _ _ _ _ _ hrg => dts_nil) (fun _ _ _ _ _ _ _ _ hrg => (dp_call C__has_way.ok (hrg.mono (by omega)) C__has_way.mg C__has_way.kp C__has_way.bd passL (dpa_cons (dv 4) dpa_nil))))) (ds_one (ds_ret dp_bl)) ds_nil)))
    (ds_one (ds_ret dp_bl)))), fun ds hl γ PP XX h => ?_⟩
  rw [runF_has] at h
  obtain ⟨lot, rfl, ok, ne, h⟩ := h
  simp
  rw [runF_thinnest]
  refine ⟨n + 1, lot, rfl, ok, ne, fun a ns ha nd nl hc => ?_⟩
  simp [at_one]
  have sz8 : 8 < sizeLine := by decide
  refine for_T (g := fun k => .tup [.int k, lotD (restOf lot a k)]) (st := fun (k : Int) e => setS 3 (lotD (restOf lot a k)) (setS 2 (.int k) e)) (fun pre e γ1 => γ1 = γ ∧ (∀ k ∈ pre, ¬ ∃ f, SatF (restOf lot a k) f) ∧ ∃ (x2 x3 x4 : Option SD), e = [some (.sh (lotD lot)), some (.sh (.lst (ns.map fun k => .tup [.int k, lotD (restOf lot a k)]))), x2, x3, x4]) (fun x _ e γ PP z => z) (fun pre k post ex e γ1 hi => ?_) ⟨rfl, fun k hk => (nomatch hk), none, none, none, rfl⟩ (fun e γ1 ⟨eγ, un, x2, x3, x4, he⟩ => ?_)
  · obtain ⟨rfl, un, x2, x3, x4, rfl⟩ := hi
    have R := ok.rest ha k
    have kin : k ∈ ns := by rw [ex]; simp
    simp
    rw [runF_lots]
    refine ⟨_, rfl, R.sz, fun p hp => (R.ok p hp).few, fun lots L => ?_⟩
    simp
    refine all_pick (R := fun (l : List Prt) b => (b = true ↔ ∃ f, SatF l f)) (st := fun (l : List Prt) e => setS 4 (lotD l) e) rfl (fun x _ γ PP z => z) (fun l hl γ PP z => ?_) fun b z1 z2 => ?_
    · simp
      rw [runF_has]
      exact ⟨l, rfl, L.psOk R l hl, L.ne l hl, z⟩
    cases b with
    | true =>
      simp
      refine h true ⟨fun _ => (lot_sol ok.ok hc).mpr ⟨k, kin, L.sol.mpr fun l hl => ((z2 (by decide) l hl).mp rfl)⟩, fun _ => rfl⟩
    | false =>
      simp
      obtain ⟨l, hl, nz⟩ := z1 rfl
      refine fun q hq => ?_
      rcases hq with hq | rfl
      · simpa using un q hq
      · have := fun z => (nz.mpr (L.sol.mp z l hl))
        simpa using this
  · subst he eγ
    simp
    refine h false ⟨fun z => (by cases z), fun z => ?_⟩
    obtain ⟨k, hk, f, hf⟩ := (lot_sol ok.ok hc).mp z
    exact absurd ⟨f, hf⟩ (un k hk)

abbrev s__ways_of_lot : Stmt := top 23
abbrev N__ways_of_lot : List Str := ["lot", "attribute", "choices", "found", "number", "rest", "way"]
theorem sc__ways_of_lot : FnScope N__ways_of_lot ["lot"] (defScope s__ways_of_lot) := ⟨rfl, rfl, rfl, by decide +kernel, rfl, by decide +kernel, by decide +kernel⟩
theorem dead__ways_of_lot {P : Program} {w : World} {W : Wd} {mg : Str → Option Value} {base : Heap} {f cc : Addr} {fd : FuncData} {F : List D → M D} (k : Nat) (hF : ∀ ds γ PP XX, ¬ (F ds).run γ PP XX) (Fn : FunC W.K "_ways_of_lot" "_ways_of_lot" s__ways_of_lot f cc fd) :
    FnOk P w W.K mg base (L2.CX P w) (k + 1) f fd ["lot"] (spD W 1 F) := okC (k := k) Fn sc__ways_of_lot (by decide) fun A outer s H E hr => ⟨_, dead_ss, fun ds hl γ PP XX h => absurd h (hF ds γ PP XX)⟩
theorem okn__ways_of_lot {P : Program} {w : World} {W : Wd} {mg : Str → Option Value} {base : Heap} (T : Txt W mg) {f cc : Addr} {fd : FuncData} (n : Nat) (C__thinnest : Cal P w W mg base "_thinnest" (3) 1 (F_thinnest)) (C__ways : Cal P w W mg base "_ways" (2 * n + 8) 1 (F_ways n)) (Fn : FunC W.K "_ways_of_lot" "_ways_of_lot" s__ways_of_lot f cc fd) :
    FnOk P w W.K mg base (L2.CX P w) (2 * n + 9) f fd ["lot"] (spD W 1 (F_wol (n + 1))) := by
  refine okC (k := 2 * n + 8) Fn sc__ways_of_lot (by decide) fun A outer s H E hr => ⟨_, (ds_cons (ds_asg (dp_call C__thinnest.ok (hr.mono (by omega)) C__thinnest.mg C__thinnest.kp C__thinnest.bd pass_cx (dpa_cons (dv 0) dpa_nil)) (pg_tup rfl (pgs_cons (pg_name (i := 1) sc__ways_of_lot.nd rfl (by first | exact Or.inl rfl | exact Or.inr rfl) (by first | exact Or.inr rfl | exact Or.inl rfl)) (pgs_cons (pg_name (i := 2) sc__ways_of_lot.nd rfl (by first | exact Or.inl rfl | exact Or.inr rfl) (by first | exact Or.inr rfl | exact Or.inl rfl)) pgs_nil))) (gd_tup rfl [1, 2]))
    (ds_cons (ds_seto 3 sc__ways_of_lot.nd rfl (do_lst dpa_nil))
    (ds_cons (ds_for pass_own rfl (df_seq rfl (dv 2)) (pg_tup rfl (pgs_cons (pg_name (i := 4) sc__ways_of_lot.nd rfl (by first | exact Or.inl rfl | exact Or.inr rfl) (by first | exact Or.inr rfl | exact Or.inl rfl)) (pgs_cons (pg_name (i := 5) sc__ways_of_lot.nd rfl (by first | exact Or.inl rfl | exact Or.inr rfl) (by first | exact Or.inr rfl | exact Or.inl rfl)) pgs_nil))) (gd_tup rfl [4, 5]) (ds_one (ds_extend 3 (do_lc rfl sc__ways_of_lot.nd (di_seq rfl (dp_1 (dp_call C__ways.ok (hr.mono (by omega)) C__ways.mg C__ways.kp C__ways.bd pass_cx (dpa_cons (dv 5) dpa_nil)))) (blkOk_by (own := [("way", 6)]) (N := N__ways_of_lot) (sc := defScope s__ways_of_lot) (by decide +kernel)) gd_name (gw_name (by decide)) (fun _ _ _ _ _ => pg_name (i := 6) sc__ways_of_lot.nd rfl (by first | exact Or.inl rfl | exact Or.inr rfl) (by first | exact Or.inr rfl | exact Or.inl rfl)) (fun _ _ _ _ _ => dts_nil) (fun _ _ _ _ _ => (dp_op op_addU (opD_addU _ rfl) (dp_1 (dp_tup (dpa_cons (dp_tup (dpa_cons (dv 1) (dpa_cons (dv 4) dpa_nil))) dpa_nil))) (dv1 6)))))))
    (ds_frz 3 (ds_one (ds_ret (dv 3))))))), fun ds hl γ PP XX h => ?_⟩
  rw [runF_wol] at h
  obtain ⟨lot, rfl, ok, ne, h⟩ := h
  simp
  rw [runF_thinnest]
  refine ⟨n + 1, lot, rfl, ok, ne, fun a ns ha nd nl hc => ?_⟩
  simp
  have s20 : 2 ^ 20 < sizeLine := by decide
  refine for_T (g := fun k => .tup [.int k, lotD (restOf lot a k)]) (st := fun (k : Int) e => setS 5 (lotD (restOf lot a k)) (setS 4 (.int k) e)) (fun pre e γ1 => γ1 = γ ∧ ∃ (Wn : Int → List (List (Int × Int))) (x4 x5 x6 : Option SD), (∀ k ∈ pre, WaysOk (restOf lot a k) (Wn k)) ∧ e = [some (.sh (lotD lot)), some (.sh (.int a)), some (.sh (.lst (ns.map fun k => .tup [.int k, lotD (restOf lot a k)]))), some (.ow (.lst ((pre.flatMap fun n => (Wn n).map fun w => (a, n) :: w).map wayD))), x4, x5, x6]) (fun x _ e γ PP z => z) (fun pre k post ex e γ1 hi => ?_) ⟨rfl, fun _ => [], none, none, none, fun k hk => (nomatch hk), rfl⟩ (fun e γ1 ⟨eγ, Wn, x2, x3, x4, hW, he⟩ => ?_)
  · obtain ⟨rfl, Wn, x4, x5, x6, hW, rfl⟩ := hi
    have R := ok.rest ha k
    have kin : k ∈ ns := by rw [ex]; simp
    have knot : k ∉ pre := fun z => by
      rw [ex, List.nodup_append] at nd
      exact nd.2.2 k z k List.mem_cons_self rfl
    have pnd : (pre ++ [k]).Nodup := by
      rw [ex] at nd
      have : (pre ++ [k]).Sublist (pre ++ k :: post) := List.Sublist.append_left (by simp) pre
      exact nd.sublist this
    simp
    rw [runF_ways]
    refine ⟨_, rfl, R, fun V hV => ?_⟩
    simp
    have lens := way_len hV.toWaysP R
    have hW' : ∀ j ∈ pre ++ [k], WaysOk (restOf lot a j) (if j = k then V else Wn j) := fun j hj => by
      by_cases c : j = k
      · rw [if_pos c, c]
        exact hV
      · rw [if_neg c]
        exact hW j ((List.mem_append.mp hj).elim id fun z => absurd (List.mem_singleton.mp z) c)
    have W1 := (WaysP.lot ok.ok ha pnd (fun j hj => (hc j).mp (by rw [ex]; rw [List.mem_append, List.mem_singleton] at hj; rcases hj with z | z; exact List.mem_append_left _ z; rw [z]; simp)) hW').few
    have ek : ((pre ++ [k]).flatMap fun j => (if j = k then V else Wn j).map fun w => (a, j) :: w) = (pre.flatMap fun n => (Wn n).map fun w => (a, n) :: w) ++ V.map fun w => (a, k) :: w := by
      rw [List.flatMap_append, List.flatMap_singleton, if_pos rfl]
      congr 1
      refine fmap_congr fun j hj => ?_
      rw [if_neg fun (e : j = k) => knot (by rw [← e]; exact hj)]
    rw [ek, List.length_append, List.length_map] at W1
    have bd := ok.bd
    refine ⟨by omega, ?_⟩
    refine comp_A (st := fun (w : List (Int × Int)) e => setS 6 (wayD w) e) (p := fun w => wayD ((a, k) :: w)) (fun x _ γ PP z => z) rfl (fun w hw γ PP z => ?_) ?_
    · have := lens w hw
      simp [wayD]
      exact ⟨by omega, by omega, by omega, z⟩
    · simp only [List.length_flatMap, List.length_map] at W1
      simp only [List.length_map]
      refine ⟨by omega, trivial, fun j => if j = k then V else Wn j, fun j hj => hW' j (by simpa using hj), ?_⟩
      show _ = ((pre.flatMap fun n => (if n = k then V else Wn n).map fun w => (a, n) :: w).map wayD) ++ (if k = k then V else Wn k).map _
      rw [if_pos rfl]
      congr 1
      congr 1
      refine fmap_congr fun j hj => ?_
      rw [if_neg fun (e : j = k) => knot (by rw [← e]; exact hj)]
  · subst he eγ
    simp
    refine h _ (WaysOk.lot ok.ok ha nd hc hW)

abbrev s__ways : Stmt := top 22
abbrev N__ways : List Str := ["parts", "lots", "ways", "lot", "further", "way", "more"]
theorem sc__ways : FnScope N__ways ["parts"] (defScope s__ways) := ⟨rfl, rfl, rfl, by decide +kernel, rfl, by decide +kernel, by decide +kernel⟩
theorem dead__ways {P : Program} {w : World} {W : Wd} {mg : Str → Option Value} {base : Heap} {f cc : Addr} {fd : FuncData} {F : List D → M D} (k : Nat) (hF : ∀ ds γ PP XX, ¬ (F ds).run γ PP XX) (Fn : FunC W.K "_ways" "_ways" s__ways f cc fd) :
    FnOk P w W.K mg base (L2.CX P w) (k + 1) f fd ["parts"] (spD W 1 F) := okC (k := k) Fn sc__ways (by decide) fun A outer s H E hr => ⟨_, dead_ss, fun ds hl γ PP XX h => absurd h (hF ds γ PP XX)⟩
theorem okn__ways {P : Program} {w : World} {W : Wd} {mg : Str → Option Value} {base : Heap} (T : Txt W mg) {f cc : Addr} {fd : FuncData} (n : Nat) {PT : Addr} (tb : W.Tb PT (("_ways" : Str) ++ ".<locals>." ++ "<genexpr>") ∧ GxR.TabB base mg cc PT) (C__lots : Cal P w W mg base "_lots" (3) 1 (F_lots)) (C__has_way : Cal P w W mg base "_has_way" (2 * n + 4) 1 (F_has n)) (C__ways_of_lot : Cal P w W mg base "_ways_of_lot" (2 * n + 7) 1 (F_wol n)) (Fn : FunC W.K "_ways" "_ways" s__ways f cc fd) :
    FnOk P w W.K mg base (L2.CX P w) (2 * n + 8) f fd ["parts"] (spD W 1 (F_ways n)) := by
  refine okC (k := 2 * n + 7) Fn sc__ways (by decide) fun A outer s H E hr => ⟨_, (ds_cons (ds_set 1 sc__ways.nd rfl (dp_call C__lots.ok (hr.mono (by omega)) C__lots.mg C__lots.kp C__lots.bd pass_cx (dpa_cons (dv 0) dpa_nil)))
    (ds_cons (ds_if (PW.pt (dw_and (dt_cmp op_gt opD_gt (dp_1 (dp_len rfl T.b_len (dv1 1))) (dp_1 dp_int)) (dw_and1 (dt_not (dt_val (dp_all (own := [("lot", 3)]) (k := (2 * n + 6)) tb.1 (hr.mono (by omega)) T.b_all tb.2 rfl sc__ways.nd (Gx.gok_by (own := [("lot", 3)]) (N := N__ways) (sc := defScope s__ways) (by decide +kernel)) (di_seq rfl (dv1 1)) gd_name (gw_name (by decide)) (fun _ _ _ _ _ _ _ _ _ => pg_name (i := 3) sc__ways.nd rfl (by first | exact Or.inl rfl | exact Or.inr rfl) (by first | exact Or.inr rfl | exact Or.inl rfl)) (fun _ _ _ _ _ _ _ _ hrg => dts_nil) (fun _ _ _ _ _ _ _ _ hrg => (dp_call C__has_way.ok (hrg.mono (by omega)) C__has_way.mg C__has_way.kp C__has_way.bd passL (dpa_cons (dv 3) dpa_nil))))))))) (ds_one (ds_ret (dp_lock (do_lst dpa_nil)))) ds_nil)
    (ds_cons (ds_seto 2 sc__ways.nd rfl (do_lst (dpa_cons (dp_tup dpa_nil) dpa_nil)))
    (ds_cons (ds_for pass_own rfl (df_seq rfl (dv 1)) (pg_name (i := 3) sc__ways.nd rfl (by first | exact Or.inl rfl | exact Or.inr rfl) (by first | exact Or.inr rfl | exact Or.inl rfl)) gd_name (ds_cons (ds_set 4 sc__ways.nd rfl (dp_call C__ways_of_lot.ok (hr.mono (by omega)) C__ways_of_lot.mg C__ways_of_lot.kp C__ways_of_lot.bd pass_cx (dpa_cons (dv 3) dpa_nil)))
    (ds_one (ds_setLc2 2 (vs1 := [6]) rfl sc__ways.nd (di_seq rfl (dv1 2)) (blkOk_by (own := [("way", 5), ("more", 6)]) (N := N__ways) (sc := defScope s__ways) (by decide +kernel)) (by decide) gd_name (gw_name (by decide)) gd_name (gw_name (by decide)) (fun _ _ _ _ _ => pg_name (i := 5) sc__ways.nd rfl (by first | exact Or.inl rfl | exact Or.inr rfl) (by first | exact Or.inr rfl | exact Or.inl rfl)) (fun _ _ _ _ _ => dts_nil) (fun _ _ _ _ _ => (df_seq rfl (dv 4))) (fun _ _ _ _ _ => pg_name (i := 6) sc__ways.nd rfl (by first | exact Or.inl rfl | exact Or.inr rfl) (by first | exact Or.inr rfl | exact Or.inl rfl)) (fun _ _ _ _ _ => dts_nil) (fun _ _ _ _ _ => (dp_op op_addU (opD_addU _ rfl) (dv1 5) (dv1 6)))))))
    (ds_frz 2 (ds_one (ds_ret (dv 2)))))))), fun ds hl γ PP XX h => ?_⟩
  rw [runF_ways] at h
  obtain ⟨ps, rfl, ok, h⟩ := h
  simp
  rw [runF_lots]
  refine ⟨ps, rfl, ok.sz, fun p hp => (ok.ok p hp).few, fun lots L => ?_⟩
  have s20 : 2 ^ 20 < sizeLine := by decide
  simp
  split
  · refine all_pick (R := fun (l : List Prt) b => (b = true ↔ ∃ f, SatF l f)) (st := fun (l : List Prt) e => setS 3 (lotD l) e) rfl (fun x _ γ PP z => z) (fun l hl γ PP z => ?_) fun b z1 z2 => ?_
    · simp
      rw [runF_has]
      exact ⟨l, rfl, L.psOk ok l hl, L.ne l hl, z⟩
    cases b with
    | false =>
      simp
      obtain ⟨l, hl, nz⟩ := z1 rfl
      exact h [] (waysOk_none fun z => by
        have := nz.mpr (L.sol.mp z l hl)
        cases this)
    | true =>
      simp only [if_true]
      refine ⟨by omega, ?_⟩
      refine for_T (st := fun (l : List Prt) e => setS 3 (lotD l) e) (fun pre e γ1 => γ1 = γ ∧ ∃ (V : List (List (Int × Int))) (x3 x4 x5 x6 : Option SD), WaysOk pre.flatten V ∧ e = [some (.sh (lotD ps)), some (.sh (.lst (lots.map lotD))), some (.ow (.lst (V.map wayD))), x3, x4, x5, x6]) (fun x _ e γ PP z => z) (fun pre l post ex e γ1 hi => ?_) ⟨rfl, [[]], none, none, none, none, waysOk_nil, rfl⟩ (fun e γ1 ⟨eγ, V, x3, x4, x5, x6, hV, he⟩ => ?_)
      · obtain ⟨rfl, V, x3, x4, x5, x6, hV, rfl⟩ := hi
        have hl : l ∈ lots := by rw [ex]; simp
        have R := L.psOk ok l hl
        have sub : (pre.flatten ++ l).Sublist lots.flatten := by
          rw [ex, List.flatten_append, List.flatten_cons, ← List.append_assoc]
          exact List.sublist_append_left _ _
        have dj : ∀ a, inAt pre.flatten a → ¬ inAt l a := fun a h1 h2 => by
          obtain ⟨m, hm, h1⟩ := inAt_flat.mp h1
          have ap := L.apart
          rw [ex, List.pairwise_append] at ap
          exact ap.2.2 m hm l List.mem_cons_self a h1 h2
        have bd : bdM (pre.flatten ++ l) ≤ 2 ^ 20 := Nat.le_trans (bdM_sub sub) (by rw [bdM_perm L.perm]; exact ok.bd)
        have pin : ∀ p ∈ pre.flatten ++ l, p ∈ ps := fun p hp => L.perm.mem_iff.mp (sub.subset hp)
        have Q : PsOk n (pre.flatten ++ l) := ⟨fun p hp => ok.ok p (pin p hp), ok.few.of pin, Nat.le_trans sub.length_le (by rw [L.perm.length_eq]; exact ok.sz), bd⟩
        simp
        rw [runF_wol]
        refine ⟨l, rfl, R, L.ne l hl, fun Y hY => ?_⟩
        have hm := hV.mul hY dj
        have few := hm.toWaysP.few
        have lens := way_len hm.toWaysP Q
        have e1 : (V.flatMap fun w => Y.map fun v => wayD (w ++ v)) = (V.flatMap fun w => Y.map fun v => w ++ v).map wayD := by
          rw [List.map_flatMap]
          refine fmap_congr fun w _ => ?_
          rw [List.map_map]
          rfl
        have e2 : (V.flatMap fun w => Y.map fun v => wayD (w ++ v)).length ≤ sizeLine := by
          rw [e1, List.length_map]
          omega
        refine comp2_T (st := fun (w : List (Int × Int)) e => setS 5 (wayD w) e) (rows := fun w => Y.map fun v => wayD (w ++ v)) rfl (fun x _ γ PP z => z) (fun w hw γ PP _ z => ?_) (by omega) ?_
        · simp
          refine z _ (by rw [List.length_map, List.length_map]) fun γ PP z => ?_
          refine comp_A (st := fun (v : List (Int × Int)) e => setS 6 (wayD v) e) (p := fun v => wayD (w ++ v)) (fun x _ γ PP z => z) rfl (fun v hv γ PP z => ?_) z
          have := lens (w ++ v) (List.mem_flatMap.mpr ⟨w, hw, List.mem_map_of_mem hv⟩)
          rw [List.length_append] at this
          unfold wayD at z
          rw [List.map_append] at z
          simp [wayD]
          exact ⟨by omega, z⟩
        · refine ⟨rfl, V.flatMap fun w => Y.map fun v => w ++ v, hm, ?_⟩
          rw [e1]
      · subst he eγ
        simp
        exact h V (hV.perm fun p => L.perm.mem_iff)
  · refine ⟨by omega, ?_⟩
    refine for_T (st := fun (l : List Prt) e => setS 3 (lotD l) e) (fun pre e γ1 => γ1 = γ ∧ ∃ (V : List (List (Int × Int))) (x3 x4 x5 x6 : Option SD), WaysOk pre.flatten V ∧ e = [some (.sh (lotD ps)), some (.sh (.lst (lots.map lotD))), some (.ow (.lst (V.map wayD))), x3, x4, x5, x6]) (fun x _ e γ PP z => z) (fun pre l post ex e γ1 hi => ?_) ⟨rfl, [[]], none, none, none, none, waysOk_nil, rfl⟩ (fun e γ1 ⟨eγ, V, x3, x4, x5, x6, hV, he⟩ => ?_)
    · obtain ⟨rfl, V, x3, x4, x5, x6, hV, rfl⟩ := hi
      have hl : l ∈ lots := by rw [ex]; simp
      have R := L.psOk ok l hl
      have sub : (pre.flatten ++ l).Sublist lots.flatten := by
        rw [ex, List.flatten_append, List.flatten_cons, ← List.append_assoc]
        exact List.sublist_append_left _ _
      have dj : ∀ a, inAt pre.flatten a → ¬ inAt l a := fun a h1 h2 => by
        obtain ⟨m, hm, h1⟩ := inAt_flat.mp h1
        have ap := L.apart
        rw [ex, List.pairwise_append] at ap
        exact ap.2.2 m hm l List.mem_cons_self a h1 h2
      have bd : bdM (pre.flatten ++ l) ≤ 2 ^ 20 := Nat.le_trans (bdM_sub sub) (by rw [bdM_perm L.perm]; exact ok.bd)
      have pin : ∀ p ∈ pre.flatten ++ l, p ∈ ps := fun p hp => L.perm.mem_iff.mp (sub.subset hp)
      have Q : PsOk n (pre.flatten ++ l) := ⟨fun p hp => ok.ok p (pin p hp), ok.few.of pin, Nat.le_trans sub.length_le (by rw [L.perm.length_eq]; exact ok.sz), bd⟩
      simp
      rw [runF_wol]
      refine ⟨l, rfl, R, L.ne l hl, fun Y hY => ?_⟩
      have hm := hV.mul hY dj
      have few := hm.toWaysP.few
      have lens := way_len hm.toWaysP Q
      have e1 : (V.flatMap fun w => Y.map fun v => wayD (w ++ v)) = (V.flatMap fun w => Y.map fun v => w ++ v).map wayD := by
        rw [List.map_flatMap]
        refine fmap_congr fun w _ => ?_
        rw [List.map_map]
        rfl
      have e2 : (V.flatMap fun w => Y.map fun v => wayD (w ++ v)).length ≤ sizeLine := by
        rw [e1, List.length_map]
        omega
      refine comp2_T (st := fun (w : List (Int × Int)) e => setS 5 (wayD w) e) (rows := fun w => Y.map fun v => wayD (w ++ v)) rfl (fun x _ γ PP z => z) (fun w hw γ PP _ z => ?_) (by omega) ?_
      · simp
        refine z _ (by rw [List.length_map, List.length_map]) fun γ PP z => ?_
        refine comp_A (st := fun (v : List (Int × Int)) e => setS 6 (wayD v) e) (p := fun v => wayD (w ++ v)) (fun x _ γ PP z => z) rfl (fun v hv γ PP z => ?_) z
        have := lens (w ++ v) (List.mem_flatMap.mpr ⟨w, hw, List.mem_map_of_mem hv⟩)
        rw [List.length_append] at this
        unfold wayD at z
        rw [List.map_append] at z
        simp [wayD]
        exact ⟨by omega, z⟩
      · refine ⟨rfl, V.flatMap fun w => Y.map fun v => w ++ v, hm, ?_⟩
        rw [e1]
    · subst he eγ
      simp
      exact h V (hV.perm fun p => L.perm.mem_iff)

end Ck

set_option maxRecDepth 100000
set_option maxHeartbeats 8000000
namespace Ck
open PySem PySem.Spec PyProof.Rows L2 Dl

theorem oks_ways {P : Program} {w : World} {W : Wd} {mg : Str → Option Value} {base : Heap} (T : Txt W mg) {f1 c1 f2 c2 f3 c3 : Addr} {d1 d2 d3 : FuncData} {PT1 PT3 : Addr}
    (t1 : W.Tb PT1 (("_has_way" : Str) ++ ".<locals>." ++ "<genexpr>") ∧ GxR.TabB base mg c1 PT1) (t3 : W.Tb PT3 (("_ways" : Str) ++ ".<locals>." ++ "<genexpr>") ∧ GxR.TabB base mg c3 PT3)
    (C__thinnest : Cal P w W mg base "_thinnest" 3 1 F_thinnest) (C__lots : Cal P w W mg base "_lots" 3 1 F_lots)
    (Fn1 : FunC W.K "_has_way" "_has_way" s__has_way f1 c1 d1) (Fn2 : FunC W.K "_ways_of_lot" "_ways_of_lot" s__ways_of_lot f2 c2 d2) (Fn3 : FunC W.K "_ways" "_ways" s__ways f3 c3 d3) (m1 : mg "_has_way" = some (.ref f1)) (m2 : mg "_ways_of_lot" = some (.ref f2)) (m3 : mg "_ways" = some (.ref f3)) :
    ∀ n : Nat, FnOk P w W.K mg base (L2.CX P w) (2 * n + 4) f1 d1 ["lot"] (spD W 1 (F_has n)) ∧ FnOk P w W.K mg base (L2.CX P w) (2 * n + 7) f2 d2 ["lot"] (spD W 1 (F_wol n)) ∧ FnOk P w W.K mg base (L2.CX P w) (2 * n + 8) f3 d3 ["parts"] (spD W 1 (F_ways n)) := by
  have b1 : Binds W.K d1 ["lot"] [] := Fn1.binds fun _ _ _ _ _ _ us hl => match us, hl with | [_], _ => rfl
  have b2 : Binds W.K d2 ["lot"] [] := Fn2.binds fun _ _ _ _ _ _ us hl => match us, hl with | [_], _ => rfl
  have b3 : Binds W.K d3 ["parts"] [] := Fn3.binds fun _ _ _ _ _ _ us hl => match us, hl with | [_], _ => rfl
  have top : ∀ n, FnOk P w W.K mg base (L2.CX P w) (2 * n + 4) f1 d1 ["lot"] (spD W 1 (F_has n)) → FnOk P w W.K mg base (L2.CX P w) (2 * n + 7) f2 d2 ["lot"] (spD W 1 (F_wol n)) → FnOk P w W.K mg base (L2.CX P w) (2 * n + 8) f3 d3 ["parts"] (spD W 1 (F_ways n)) := fun n h1 h2 =>
    okn__ways T n t3 C__lots ⟨f1, d1, ["lot"], h1, m1, Fn1.kp, b1⟩ ⟨f2, d2, ["lot"], h2, m2, Fn2.kp, b2⟩ Fn3
  intro n
  induction n with
  | zero =>
    have h1 := dead__has_way (F := F_has 0) (P := P) (w := w) (W := W) (mg := mg) (base := base) 3 (fun ds γ PP XX ⟨lot, _, ok, ne, _⟩ => ok.none ne) Fn1
    have h2 := dead__ways_of_lot (F := F_wol 0) (P := P) (w := w) (W := W) (mg := mg) (base := base) 6 (fun ds γ PP XX ⟨lot, _, ok, ne, _⟩ => ok.none ne) Fn2
    exact ⟨h1, h2, top 0 h1 h2⟩
  | succ n ih =>
    obtain ⟨i1, i2, i3⟩ := ih
    have h1 := okn__has_way T n t1 C__thinnest ⟨f1, d1, ["lot"], i1, m1, Fn1.kp, b1⟩ C__lots Fn1
    have h2 := okn__ways_of_lot T n C__thinnest ⟨f3, d3, ["parts"], i3, m3, Fn3.kp, b3⟩ Fn2
    have e1 : 2 * n + 6 = 2 * (n + 1) + 4 := by omega
    have e2 : 2 * n + 9 = 2 * (n + 1) + 7 := by omega
    rw [e1] at h1
    rw [e2] at h2
    exact ⟨h1, h2, top (n + 1) h1 h2⟩

theorem ok__ways {P : Program} {w : World} {W : Wd} {mg : Str → Option Value} {base : Heap} (T : Txt W mg) {f cc : Addr} {fd : FuncData} {f1 c1 f2 c2 : Addr} {d1 d2 : FuncData} {PT PT1 : Addr} (tb : W.Tb PT (("_ways" : Str) ++ ".<locals>." ++ "<genexpr>") ∧ GxR.TabB base mg cc PT) (tbH : W.Tb PT1 (("_has_way" : Str) ++ ".<locals>." ++ "<genexpr>") ∧ GxR.TabB base mg c1 PT1) (C__thinnest : Cal P w W mg base "_thinnest" 3 1 F_thinnest) (C__lots : Cal P w W mg base "_lots" 3 1 F_lots) (Fn1 : FunC W.K "_has_way" "_has_way" s__has_way f1 c1 d1) (Fn2 : FunC W.K "_ways_of_lot" "_ways_of_lot" s__ways_of_lot f2 c2 d2) (m1 : mg "_has_way" = some (.ref f1)) (m2 : mg "_ways_of_lot" = some (.ref f2)) (m3 : mg "_ways" = some (.ref f)) (Fn : FunC W.K "_ways" "_ways" s__ways f cc fd) :
    FnOk P w W.K mg base (L2.CX P w) 24 f fd ["parts"] (spD W 1 (F_ways 8)) := (oks_ways T tbH tb C__thinnest C__lots Fn1 Fn2 Fn m1 m2 m3 8).2.2

abbrev s_answers : Stmt := top 19
abbrev N_answers : List Str := ["query", "store", "parts", "found", "k", "way", "_", "number"]
theorem sc_answers : FnScope N_answers ["query", "store"] (defScope s_answers) := ⟨rfl, rfl, rfl, by decide +kernel, rfl, by decide +kernel, by decide +kernel⟩
theorem ok_answers {P : Program} {w : World} {W : Wd} {mg : Str → Option Value} {base : Heap} (T : Txt W mg) {f cc A_BadQuery A_BadStore : Addr} {fd : FuncData} (C_check_store : Cal P w W mg base "check_store" 9 2 (F_check_store A_BadQuery A_BadStore)) (C__ways : Cal P w W mg base "_ways" 24 1 (F_ways 8)) (Fn : FunC W.K "answers" "answers" s_answers f cc fd) :
    FnOk P w W.K mg base (L2.CX P w) 25 f fd ["query", "store"] (spD W 2 (F_answers A_BadQuery A_BadStore)) := by
  obtain ⟨tL, hL⟩ := T.g_LIMIT
  refine okC (k := 24) Fn sc_answers (by decide) fun A outer s H E hr => ⟨_, (ds_cons (ds_expr (dp_1 (dp_call C_check_store.ok (hr.mono (by decide)) C_check_store.mg C_check_store.kp C_check_store.bd pass_cx (dpa_cons (dv 0) (dpa_cons (dv 1) dpa_nil)))))
    (ds_cons (ds_setLc 2 rfl sc_answers.nd (d_rng1 (.inl rfl) T.b_range (dp_1 (dp_len rfl T.b_len (dv1 1)))) (blkOk_by (own := [("k", 4)]) (N := N_answers) (sc := defScope s_answers) (by decide +kernel)) gd_name (gw_name (by decide)) (fun _ _ _ _ _ => pg_name (i := 4) sc_answers.nd rfl (by first | exact Or.inl rfl | exact Or.inr rfl) (by first | exact Or.inr rfl | exact Or.inl rfl)) (fun _ _ _ _ _ => dts_nil) (fun _ _ _ _ _ => (dp_tup (dpa_cons (dp_ix rfl (dp_1 (dp_ix rfl (dv1 0) (dp_1 dp_int))) (dv1 4)) (dpa_cons (dp_ix rfl (dv1 1) (dv1 4)) dpa_nil)))))
    (ds_frz 2 (ds_cons (ds_setLc 3 rfl sc_answers.nd (di_seq rfl (dp_1 (dp_call C__ways.ok (hr.mono (by decide)) C__ways.mg C__ways.kp C__ways.bd pass_cx (dpa_cons (dv 2) dpa_nil)))) (blkOk_by (own := [("way", 5)]) (N := N_answers) (sc := defScope s_answers) (by decide +kernel)) gd_name (gw_name (by decide)) (fun _ _ _ _ _ => pg_name (i := 5) sc_answers.nd rfl (by first | exact Or.inl rfl | exact Or.inr rfl) (by first | exact Or.inr rfl | exact Or.inl rfl)) (fun _ _ _ _ _ => dts_nil) (fun _ _ _ _ _ => (dp_tupOf rfl T.b_tuple (dp_1 (dp_lock (do_lc rfl sc_answers.nd (di_seq rfl (dp_1 (dp_lock (do_sortedT rfl (u100 hr) T.b_sorted (dv1 5))))) (blkOk_by (own := [("_", 6), ("number", 7)]) (N := N_answers) (sc := relS (scLc (valOf ((defBody s_answers).getD 2 (.Pass ⟨0, 0, 0, 0⟩))) (defScope s_answers)) (defScope s_answers)) (by decide +kernel)) (gd_tup rfl [6, 7]) (gw_tup (is := [6, 7]) (by decide)) (fun _ _ _ _ _ => pg_tup rfl (pgs_cons (pg_name (i := 6) sc_answers.nd rfl (by first | exact Or.inl rfl | exact Or.inr rfl) (by first | exact Or.inr rfl | exact Or.inl rfl)) (pgs_cons (pg_name (i := 7) sc_answers.nd rfl (by first | exact Or.inl rfl | exact Or.inr rfl) (by first | exact Or.inr rfl | exact Or.inl rfl)) pgs_nil))) (fun _ _ _ _ _ => dts_nil) (fun _ _ _ _ _ => (dv 7))))))))
    (ds_one (ds_ret (dp_tupOf rfl T.b_tuple (dp_1 (dp_lock (do_sorted rfl (u100 hr) T.b_sorted (dv1 3))))))))))), fun ds hl γ PP XX h => ?_⟩
  obtain ⟨q, d, rfl, h1, h2, h3⟩ := h
  simp [F_check_store, h1, h2]
  rcases h3 with ⟨hq, hs, h3⟩ | ⟨hq, h3⟩ | ⟨hq, hs, h3⟩
  case inr.inl =>
    simp [hq]
    exact h3
  case inr.inr =>
    simp [hq, hs]
    exact h3
  case inl =>
    · · simp [hq, hs]
        rw [run_ansM] at h3
        obtain ⟨m, rows, tabs, rfl, rfl, ok, h⟩ := h3
        simp [qD]
        have s20 : 2 ^ 20 < sizeLine := by decide
        have pl : (partsOf rows tabs).length = tabs.length := by
          unfold partsOf
          rw [List.length_map, List.length_zip, ok.len, Nat.min_self]
        have p8 := ok.ps.sz
        rw [rangeD_nat]
        refine ⟨by omega, by rw [List.length_map, List.length_range]; omega, ?_⟩
        refine comp_A (α := Nat) (g := fun j => .int (j : Int)) (st := fun (j : Nat) e => setS 4 (.int (j : Int)) e) (p := fun j => ((partsOf rows tabs).getD j default).D) (fun x _ γ PP z => z) rfl (fun j hj γ PP z => ?_) ?_
        · obtain ⟨a1, a2, a3⟩ := parts_at ok.len (List.mem_range.mp hj)
          simp [at_one, a1, a2]
          refine ⟨by omega, ?_⟩
          unfold Prt.D at z
          rw [a3] at z
          simpa using z
        rw [← pl, range_all (partsOf rows tabs) Prt.D]
        rw [runF_ways]
        refine ⟨_, rfl, ok.ps, fun V hV => ?_⟩
        have few := hV.toWaysP.few
        have bd := ok.ps.bd
        have lens := way_len hV.toWaysP ok.ps
        simp
        refine ⟨by omega, ?_⟩
        refine comp_A (st := fun (v : List (Int × Int)) e => setS 5 (wayD v) e) (p := fun v => rowD (rowOf v)) (fun x _ γ PP z => z) rfl (fun v hv γ PP z => ?_) ?_
        · have l64 := lens v hv
          simp [wayD_rows]
          have em : v.map (rowD ∘ prR) = (v.map prR).map rowD := by rw [List.map_map]
          have ls : (((v.map prR).mergeSort leR).map rowD).length ≤ sizeLine := by
            rw [List.length_map, (List.mergeSort_perm _ _).length_eq, List.length_map]
            omega
          rw [em, sortDs_rows]
          refine ⟨sortOk_rows (by rw [List.length_map]; omega) rowOf_len, ls, ?_⟩
          refine comp_A (g := rowD) (st := fun (q : List Int) e => setS 7 (.int (q.getD 1 0)) (setS 6 (.int (q.getD 0 0)) e)) (p := fun q => .int (q.getD 1 0)) (fun q hq γ PP z => ?_) rfl (fun q _ γ PP z => by simpa using z) ?_
          · have hq := (List.mergeSort_perm _ _).mem_iff.mp hq
            obtain ⟨x, _, rfl⟩ := List.mem_map.mp hq
            exact z
          · have z : PP (.tup ((Dl.rowOf v).map .int)) γ := z
            unfold Dl.rowOf at z
            rw [List.map_map] at z
            exact z
        · have em : V.map (fun v => rowD (Dl.rowOf v)) = (V.map Dl.rowOf).map rowD := by
            rw [List.map_map]
            rfl
          rw [em, sortDs_rows]
          refine ⟨sortOk_rows (by rw [List.length_map]; omega) fun r hr => ?_, h _ (ans_of ok.cov hV)⟩
          obtain ⟨w, hw, rfl⟩ := List.mem_map.mp hr
          obtain ⟨nd, hm, f, ag, _⟩ := hV.own w hw
          rw [rowOf_eq nd (fun a => (hm a).trans (ok.cov a)) ag]
          have := ok.lo
          intro e
          have := congrArg List.length e
          rw [List.length_map, List.length_range] at this
          simp at this
          omega

end Ck

set_option maxRecDepth 100000
set_option maxHeartbeats 8000000
namespace Ck
open PySem PySem.Spec PyProof.Rows L2 Dl

abbrev s__law_cj_answers : Stmt := top 43
abbrev N__law_cj_answers : List Str := ["query_here", "store_here", "line", "atom", "table_here", "longer", "known", "row", "pairs", "more", "attribute", "number"]
theorem sc__law_cj_answers : FnScope N__law_cj_answers ["query_here", "store_here"] (defScope s__law_cj_answers) := ⟨rfl, rfl, rfl, by decide +kernel, rfl, by decide +kernel, by decide +kernel⟩
theorem ok__law_cj_answers {P : Program} {w : World} {W : Wd} {mg : Str → Option Value} {base : Heap} (T : Txt W mg) {f cc : Addr} {fd : FuncData} (B_dict : mg "dict" = none) (Fn : FunC W.K "_law_cj_answers" "_law_cj_answers" s__law_cj_answers f cc fd) :
    FnOk P w W.K mg base (L2.CX P w) 2 f fd ["query_here", "store_here"] (spD W 2 F_cja) := by
  obtain ⟨tL, hL⟩ := T.g_LIMIT
  refine okC (k := 1) Fn sc__law_cj_answers (by decide) fun A outer s H E hr => ⟨_, (ds_cons (ds_set 2 sc__law_cj_answers.nd rfl (dp_lock (do_lst (dpa_cons dp_dii0 dpa_nil))))
    (ds_cons (ds_for pass_own rfl (df_zip rfl T.b_zip (dpa_cons (dp_ix rfl (dv1 0) (dp_1 dp_int)) (dpa_cons (dv 1) dpa_nil))) (pg_tup rfl (pgs_cons (pg_name (i := 3) sc__law_cj_answers.nd rfl (by first | exact Or.inl rfl | exact Or.inr rfl) (by first | exact Or.inr rfl | exact Or.inl rfl)) (pgs_cons (pg_name (i := 4) sc__law_cj_answers.nd rfl (by first | exact Or.inl rfl | exact Or.inr rfl) (by first | exact Or.inr rfl | exact Or.inl rfl)) pgs_nil))) (gd_tup rfl [3, 4]) (ds_cons (ds_seto 5 sc__law_cj_answers.nd rfl (do_lst dpa_nil))
    (ds_cons (ds_for pass_own rfl (df_seq rfl (dv 2)) (pg_name (i := 6) sc__law_cj_answers.nd rfl (by first | exact Or.inl rfl | exact Or.inr rfl) (by first | exact Or.inr rfl | exact Or.inl rfl)) gd_name (ds_one (ds_for pass_own rfl (df_seq rfl (dv 4)) (pg_name (i := 7) sc__law_cj_answers.nd rfl (by first | exact Or.inl rfl | exact Or.inr rfl) (by first | exact Or.inr rfl | exact Or.inl rfl)) gd_name (ds_cons (ds_set 8 sc__law_cj_answers.nd rfl (dp_lock (do_listZip rfl rfl T.b_list T.b_zip (dpa_cons (dv 3) (dpa_cons (dv 7) dpa_nil)))))
    (ds_one (ds_if (dt_cmp (op_eqP (u100 hr)) (opD_P rfl) (dp_1 (dp_lock (do_lc rfl sc__law_cj_answers.nd (di_seq rfl (dv1 8)) (blkOk_by (own := [("attribute", 10), ("number", 11)]) (N := N__law_cj_answers) (sc := defScope s__law_cj_answers) (by decide +kernel)) (gd_tup rfl [10, 11]) (gw_tup (is := [10, 11]) (by decide)) (fun _ _ _ _ _ => pg_tup rfl (pgs_cons (pg_name (i := 10) sc__law_cj_answers.nd rfl (by first | exact Or.inl rfl | exact Or.inr rfl) (by first | exact Or.inr rfl | exact Or.inl rfl)) (pgs_cons (pg_name (i := 11) sc__law_cj_answers.nd rfl (by first | exact Or.inl rfl | exact Or.inr rfl) (by first | exact Or.inr rfl | exact Or.inl rfl)) pgs_nil))) (fun _ _ _ _ _ => (dts_one (dt_cmp (op_neP (u100 hr)) (opD_P rfl) (dp_1 (dp_getD (u100 hr) (dv1 6) (dv 10) (dv 11))) (dv1 11)))) (fun _ _ _ _ _ => dp_int)))) (dp_1 (dp_lock (do_lst dpa_nil)))) (ds_cons (ds_setD 9 sc__law_cj_answers.nd rfl B_dict (dv1 6))
    (ds_cons (ds_dupd 9 (dp_dictP rfl rfl B_dict (dv1 8)))
    (ds_frz 9 (ds_one (ds_append 5 (dv 9)))))) ds_nil))))))
    (ds_frz 5 (ds_one (ds_set 2 sc__law_cj_answers.nd rfl (dv 5)))))))
    (ds_one (ds_ret (dp_lock (do_sorted rfl (u100 hr) T.b_sorted (dp_1 (dp_lock (do_lc rfl sc__law_cj_answers.nd (di_seq rfl (dv1 2)) (blkOk_by (own := [("known", 6)]) (N := N__law_cj_answers) (sc := defScope s__law_cj_answers) (by decide +kernel)) gd_name (gw_name (by decide)) (fun _ _ _ _ _ => pg_name (i := 6) sc__law_cj_answers.nd rfl (by first | exact Or.inl rfl | exact Or.inr rfl) (by first | exact Or.inr rfl | exact Or.inl rfl)) (fun _ _ _ _ _ => dts_nil) (fun _ _ _ _ _ => (dp_tupOf rfl T.b_tuple (dp_1 (dp_lock (do_lc rfl sc__law_cj_answers.nd (d_rng1 (.inl rfl) T.b_range (dp_1 (dp_ix rfl (dv1 0) (dp_1 dp_int)))) (blkOk_by (own := [("attribute", 10)]) (N := N__law_cj_answers) (by kernel_rfl)) gd_name (gw_name (by decide)) (fun _ _ _ _ _ => pg_name (i := 10) sc__law_cj_answers.nd rfl (by first | exact Or.inl rfl | exact Or.inr rfl) (by first | exact Or.inr rfl | exact Or.inl rfl)) (fun _ _ _ _ _ => dts_nil) (fun _ _ _ _ _ => (dp_dix (u100 hr) (dv1 6) (dv1 10))))))))))))))))), fun ds hl γ PP XX h => ?_⟩
  rw [runF_cja] at h
  obtain ⟨m, rows, tabs, rfl, S, h⟩ := h
  have tl := S.tlen
  have l8 := S.len2
  have m8 := S.hi
  have s20 : 2 ^ 20 + 1000 < sizeLine := by decide
  have bdz : bdM ((rows.zip tabs).map fun p => (⟨p.1, p.2, false⟩ : Prt)) ≤ 2 ^ 20 := S.bd
  simp [qD, zipDs_map]
  refine ⟨by omega, ?_⟩
  refine for_T (α := AtP) (st := fun p e => setS 4 (tabD p.2) (setS 3 (rowD p.1) e)) (fun pre e γ1 => γ1 = γ ∧ ∃ (L : List (List (Int × Int))) (x3 x4 x5 x6 x7 x8 x9 x10 x11 : Option SD), LineOk pre L ∧ e = ([some (.sh (.tup [.int (m : Int), .tup (rows.map rowD)])), some (.sh (.tup (tabs.map tabD))), some (.sh (.lst (L.map D.dii))), x3, x4, x5, x6, x7, x8, x9, x10, x11] : DE)) (fun x _ e γ PP z => z) (fun pre p post ex e γ1 hi => ?_) ⟨rfl, [[]], none, none, none, none, none, none, none, none, none, LineOk.nil, rfl⟩ (fun e γ1 hi => ?_)
  · obtain ⟨rfl, L, x3, x4, x5, x6, x7, x8, x9, x10, x11, O, rfl⟩ := hi
    obtain ⟨r, t⟩ := p
    have pin : (r, t) ∈ rows.zip tabs := by rw [ex]; simp
    have TT := S.tab _ pin
    have RR := S.row r (List.of_mem_zip pin).1
    have rnd : r.Nodup := nodup_asc RR.1
    have r8 : r.length ≤ 8 := by omega
    have tnd : t.Nodup := nodup_rows TT.asc
    have hw : ∀ w ∈ t, w.length = r.length := fun w hw => (TT.row w hw).1
    have prel : pre.length < 8 := by
      have := congrArg List.length ex
      rw [List.length_zip, List.length_append, List.length_cons] at this
      omega
    have O2 := O.step rnd r8 tnd hw
    have bd2 : (joinL r t L).length ≤ 2 ^ 20 := O2.le (qs := post) (by rw [List.append_assoc]; rw [ex] at bdz; exact bdz)
    simp
    refine for_T (α := List (Int × Int)) (g := D.dii) (st := fun kvs e => setS 6 (.dii kvs) e) (fun pre2 e γ2 => γ2 = γ1 ∧ ∃ (x3 x4 x5 x6 x7 x8 x9 x10 x11 : Option SD), e = ([some (.sh (.tup [.int (m : Int), .tup (rows.map rowD)])), some (.sh (.tup (tabs.map tabD))), some (.sh (.lst (L.map D.dii))), some (.sh (rowD r)), some (.sh (tabD t)), some (.own ((joinL r t pre2).map D.dii)), x6, x7, x8, x9, x10, x11] : DE)) (fun x _ e γ PP z => z) (fun pre2 kvs post2 ex2 e γ2 hi => ?_) ⟨rfl, none, none, none, x6, x7, x8, x9, x10, x11, rfl⟩ (fun e γ2 hi => ?_)
    · obtain ⟨rfl, y3, y4, y5, x6, x7, x8, x9, x10, x11, rfl⟩ := hi
      have kin : kvs ∈ L := by rw [ex2]; simp
      have kfew := O.few kvs kin
      simp [tabD]
      refine for_T (α := List Int) (g := rowD) (st := fun w e => setS 7 (rowD w) e) (fun pre3 e γ3 => γ3 = γ2 ∧ ∃ (x3 x4 x5 x6 x7 x8 x9 x10 x11 : Option SD), e = ([some (.sh (.tup [.int (m : Int), .tup (rows.map rowD)])), some (.sh (.tup (tabs.map tabD))), some (.sh (.lst (L.map D.dii))), some (.sh (rowD r)), some (.sh (tabD t)), some (.own ((joinL r t pre2 ++ (pre3.filter fun w => fits r w kvs).map fun w => joinI r w kvs).map D.dii)), some (.sh (.dii kvs)), x7, x8, x9, x10, x11] : DE)) (fun x _ e γ PP z => z) (fun pre3 w post3 ex3 e γ3 hi => ?_) ⟨rfl, none, none, none, none, x7, x8, x9, x10, x11, by simp [tabD]⟩ (fun e γ3 hi => ?_)
      · obtain ⟨rfl, y3, y4, y5, y6, x7, x8, x9, x10, x11, rfl⟩ := hi
        have win : w ∈ t := by rw [ex3]; simp
        have wl := hw w win
        simp [rowD]
        rw [pairsT_ints, pairsI_map]
        refine ⟨by omega, by rw [List.length_map, List.length_zip]; omega, ?_⟩
        refine comp_T (α := Int × Int) (g := fun p => D.tup [.int p.1, .int p.2]) (st := fun p e => setS 11 (.int p.2) (setS 10 (.int p.1) e)) (q := fun p => !decide ((getI kvs p.1).getD p.2 = p.2)) (p := fun _ => .int 1) (fun x _ γ PP z => z) (fun p hp γ PP z => ?_) (fun p _ _ γ PP z => by simpa using z) ?_
        · simp [toPy, PyData.eqv]
          have e1 : ((getI kvs p.1).getD p.2 == p.2) = decide ((getI kvs p.1).getD p.2 = p.2) := rfl
          rw [e1]
          exact z
        · rw [toPyL_one1]
          have ff : ((r.zip w).filter fun p => !decide ((getI kvs p.1).getD p.2 = p.2)).isEmpty = fits r w kvs := by
            have z := fits_filter r w kvs
            rw [List.map_eq_nil_iff] at z
            rw [Bool.eq_iff_iff, List.isEmpty_iff]
            exact z
          simp
          refine ⟨Nat.le_trans (Nat.min_le_right ..) (by decide), ?_⟩
          rw [ff]
          have part := joinL_part (r := r) (pre := pre2) (post := post2) (kvs := kvs) ex3
          rw [← ex2, List.length_append, List.length_map] at part
          have z1 := merge_len (r.zip w) []
          rw [List.length_zip, List.length_nil] at z1
          cases c : fits r w kvs with
          | true =>
            rw [if_pos rfl]
            exact ⟨by omega, by omega, by simp [c, joinI]⟩
          | false => simp
      · obtain ⟨rfl, y3, y4, y5, y6, x7, x8, x9, x10, x11, rfl⟩ := hi
        rw [joinL_snoc]
        exact ⟨rfl, _, _, _, _, _, _, rfl⟩
    · obtain ⟨rfl, y3, y4, y5, x6, x7, x8, x9, x10, x11, rfl⟩ := hi
      simp
      exact ⟨_, O2, rfl⟩
  · obtain ⟨rfl, L, x3, x4, x5, x6, x7, x8, x9, x10, x11, O, rfl⟩ := hi
    have Lz : L.length ≤ 2 ^ 20 := O.le (qs := []) (by rw [List.append_nil]; exact bdz)
    simp
    refine ⟨by omega, ?_⟩
    refine comp_A (α := List (Int × Int)) (g := D.dii) (st := fun kvs e => setS 6 (.dii kvs) e) (p := fun kvs => rowD ((List.range m).map fun (k : Nat) => valI kvs k)) (fun x _ γ PP z => z) rfl (fun kvs hk γ PP z => ?_) ?_
    · simp [at_zero]
      rw [rangeD_nat]
      refine ⟨by omega, by rw [List.length_map, List.length_range]; omega, ?_⟩
      refine comp_A (α := Nat) (g := fun k => D.int (k : Int)) (st := fun k e => setS 10 (.int (k : Int)) e) (p := fun k => .int (valI kvs k)) (fun x _ γ PP z => z) rfl (fun k hk2 γ PP z => ?_) ?_
      · have hk3 := List.mem_range.mp hk2
        obtain ⟨r, hr, ha⟩ := S.all (k : Int) (by omega) (by omega)
        obtain ⟨t, ht⟩ := zip_left S.tlen r hr
        obtain ⟨v, hv⟩ := Option.isSome_iff_exists.mp ((O.key kvs hk k).mpr ⟨_, ht, ha⟩)
        have e1 : valI kvs k = v := by
          unfold valI
          rw [hv]
          rfl
        rw [e1] at z
        simp [hv]
        exact z
      · unfold rowD at z
        rw [List.map_map] at z
        exact z
    · have em : (L.map fun kvs => rowD ((List.range m).map fun (k : Nat) => valI kvs k)) = (L.map fun kvs => (List.range m).map fun (k : Nat) => valI kvs k).map rowD := by
        rw [List.map_map]
        rfl
      rw [em, sortDs_rows]
      refine ⟨sortOk_rows (by rw [List.length_map]; omega) fun r hr => ?_, h _ (O.ans S)⟩
      obtain ⟨w, hw, rfl⟩ := List.mem_map.mp hr
      have := S.lo
      intro e
      have := congrArg List.length e
      rw [List.length_map, List.length_range] at this
      simp at this
      omega

abbrev s__part : Stmt := top 21
abbrev N__part : List Str := ["answer", "atom", "attribute"]
theorem sc__part : FnScope N__part ["answer", "atom"] (defScope s__part) := ⟨rfl, rfl, rfl, by decide +kernel, rfl, by decide +kernel, by decide +kernel⟩
theorem ok__part {P : Program} {w : World} {W : Wd} {mg : Str → Option Value} {base : Heap} (T : Txt W mg) {f cc : Addr} {fd : FuncData} (Fn : FunC W.K "_part" "_part" s__part f cc fd) :
    FnOk P w W.K mg base (L2.CX P w) 1 f fd ["answer", "atom"] (spD W 2 F_partR) := by
  obtain ⟨tL, hL⟩ := T.g_LIMIT
  refine okC (k := 0) Fn sc__part (by decide) fun A outer s H E hr => ⟨_, (ds_one (ds_ret (dp_tupOf rfl T.b_tuple (dp_1 (dp_lock (do_lc rfl sc__part.nd (di_seq rfl (dv1 1)) (blkOk_by (own := [("attribute", 2)]) (N := N__part) (sc := defScope s__part) (by decide +kernel)) gd_name (gw_name (by decide)) (fun _ _ _ _ _ => pg_name (i := 2) sc__part.nd rfl (by first | exact Or.inl rfl | exact Or.inr rfl) (by first | exact Or.inr rfl | exact Or.inl rfl)) (fun _ _ _ _ _ => dts_nil) (fun _ _ _ _ _ => (dp_ix rfl (dv1 0) (dv1 2))))))))), fun ds hl γ PP XX h => ?_⟩
  rw [runF_partR] at h
  obtain ⟨r, as, rfl, h8, hr, h⟩ := h
  simp [rowD]
  refine ⟨Nat.le_trans h8 (by decide), ?_⟩
  refine comp_A (g := D.int) (st := fun (a : Int) e => setS 2 (.int a) e) (p := fun a => .int (atR r a)) (fun x _ γ PP z => z) rfl (fun a ha γ PP z => ?_) ?_
  · obtain ⟨h0, h1⟩ := hr a ha
    obtain ⟨k, rfl⟩ : ∃ k : Nat, a = k := ⟨a.toNat, by omega⟩
    have hat : (r.map D.int)[k]? = some (.int (atR r k)) := by
      unfold atR
      rw [List.getElem?_map, List.getD_eq_getElem?_getD, Int.toNat_natCast, List.getElem?_eq_getElem (by omega)]
      rfl
    simp [atN hat]
    exact z
  · unfold rowD at h
    rw [List.map_map] at h
    exact h

abbrev s_is_answer : Stmt := top 20
abbrev N_is_answer : List Str := ["query", "store", "value", "many", "atoms", "k"]
theorem sc_is_answer : FnScope N_is_answer ["query", "store", "value"] (defScope s_is_answer) := ⟨rfl, rfl, rfl, by decide +kernel, rfl, by decide +kernel, by decide +kernel⟩
theorem ok_is_answer {P : Program} {w : World} {W : Wd} {mg : Str → Option Value} {base : Heap} (T : Txt W mg) {f cc : Addr} {fd : FuncData} {PT A_BadQuery A_BadStore : Addr} (tb : W.Tb PT (("is_answer" : Str) ++ ".<locals>." ++ "<genexpr>") ∧ GxR.TabB base mg cc PT) (C_check_store : Cal P w W mg base "check_store" 9 2 (F_check_store A_BadQuery A_BadStore)) (C_are_from : Cal P w W mg base "are_from" 4 3 F_are_from) (C__part : Cal P w W mg base "_part" 1 2 F_partR) (Fn : FunC W.K "is_answer" "is_answer" s_is_answer f cc fd) :
    FnOk P w W.K mg base (L2.CX P w) 11 f fd ["query", "store", "value"] (spD W 3 (F_isans A_BadQuery A_BadStore)) := by
  obtain ⟨tL, hL⟩ := T.g_LIMIT
  refine okC (k := 10) Fn sc_is_answer (by decide) fun A outer s H E hr => ⟨_, (ds_cons (ds_expr (dp_1 (dp_call C_check_store.ok (hr.mono (by decide)) C_check_store.mg C_check_store.kp C_check_store.bd pass_cx (dpa_cons (dv 0) (dpa_cons (dv 1) dpa_nil)))))
    (ds_cons (ds_asg (dv 0) (pg_tup rfl (pgs_cons (pg_name (i := 3) sc_is_answer.nd rfl (by first | exact Or.inl rfl | exact Or.inr rfl) (by first | exact Or.inr rfl | exact Or.inl rfl)) (pgs_cons (pg_name (i := 4) sc_is_answer.nd rfl (by first | exact Or.inl rfl | exact Or.inr rfl) (by first | exact Or.inr rfl | exact Or.inl rfl)) pgs_nil))) (gd_tup rfl [3, 4]))
    (ds_cons (ds_if (dt_not (dt_val (dp_call C_are_from.ok (hr.mono (by decide)) C_are_from.mg C_are_from.kp C_are_from.bd pass_cx (dpa_cons (dv 2) (dpa_cons (dv 3) (dpa_cons dp_int dpa_nil)))))) (ds_one (ds_ret dp_bl)) ds_nil)
    (ds_one (ds_ret (dp_all (own := [("k", 5)]) (k := 4) tb.1 (hr.mono (by decide)) T.b_all tb.2 rfl sc_is_answer.nd (Gx.gok_by (own := [("k", 5)]) (N := N_is_answer) (sc := defScope s_is_answer) (by decide +kernel)) (d_rng1 (.inl rfl) T.b_range (dp_1 (dp_len rfl T.b_len (dv1 4)))) gd_name (gw_name (by decide)) (fun _ _ _ _ _ _ _ _ _ => pg_name (i := 5) sc_is_answer.nd rfl (by first | exact Or.inl rfl | exact Or.inr rfl) (by first | exact Or.inr rfl | exact Or.inl rfl)) (fun _ _ _ _ _ _ _ _ hrg => dts_nil) (fun _ _ _ _ _ _ _ _ hrg => (dp_cmp (op_inP (u100 hrg)) (opD_P rfl) (dp_1 (dp_call C__part.ok (hrg.mono (by decide)) C__part.mg C__part.kp C__part.bd passL (dpa_cons (dv 2) (dpa_cons (dp_ix rfl (dv1 4) (dv1 5)) dpa_nil)))) (dp_1 (dp_ix rfl (dv1 1) (dv1 5))))))))))), fun ds hl γ PP XX h => ?_⟩
  rw [runF_isans] at h
  obtain ⟨q, d, v, rfl, p1, p2, p3, h⟩ := h
  simp [F_check_store, p1, p2]
  rcases h with h | h | h
  · have hq := h.1
    simp [hq]
    exact h.2
  · have hq := h.1
    have hs := h.2.1
    simp [hq, hs]
    exact h.2.2
  · obtain ⟨m, rows, tabs, ans, h⟩ := h
    have e1 := h.1
    have e2 := h.2.1
    have S := h.2.2.1
    have A := h.2.2.2.1
    replace h := h.2.2.2.2
    subst e1
    subst e2
    have hq := S.toQOk.query
    have hs := S.store
    have tl := S.tlen
    have l8 := S.len2
    have m8 := S.hi
    have s8 : 8 < sizeLine := by decide
    simp [hq, hs]
    simp [qD, F_are_from, p3]
    cases hf : areFrom m 0 v with
    | false =>
      have e : isB ans v = false := by
        rw [Bool.eq_false_iff]
        intro z
        obtain ⟨r, hr, rfl⟩ := isB_iff.mp z
        obtain ⟨l, n⟩ := S.nums A hr
        rw [areFrom_row l n] at hf
        cases hf
      rw [e] at h
      simp
      exact h
    | true =>
      obtain ⟨r, rfl, rl⟩ := areFrom_shape hf
      simp
      rw [rangeD_nat]
      refine ⟨by omega, ?_⟩
      refine all_T (α := Nat) (g := fun j => D.int (j : Int)) (st := fun (j : Nat) e => setS 5 (.int (j : Int)) e) (p := fun k => decide ((rows.getD k []).map (atR r) ∈ tabs.getD k [])) rfl (fun x _ γ PP z => z) (fun j hj γ PP z => ?_) ?_
      · have hj := List.mem_range.mp hj
        have g1 : L2.atI (rows.map rowD) (j : Int) = some (rowD (rows.getD j [])) := atN (by rw [List.getElem?_map, List.getD_eq_getElem?_getD, List.getElem?_eq_getElem (by omega)]; rfl)
        have g2 : L2.atI (tabs.map tabD) (j : Int) = some (tabD (tabs.getD j [])) := atN (by rw [List.getElem?_map, List.getD_eq_getElem?_getD, List.getElem?_eq_getElem (by omega)]; rfl)
        have hr : rows.getD j [] ∈ rows := by
          rw [List.getD_eq_getElem?_getD, List.getElem?_eq_getElem (by omega)]
          exact List.getElem_mem _
        have RR := S.row _ hr
        simp [g1, g2]
        have rp := depth_row2 [(rows.getD j []).map (atR r)]
        rw [runF_partR]
        refine ⟨r, rows.getD j [], by simp, by omega, fun a ha => ?_, ?_⟩
        · have := RR.2.2.2 a ha
          omega
        · have dr := depth_ints ((rows.getD j []).map (atR r))
          simp only [toPy_row, tabD, toPy, toPyL_rowT]
          simp
          refine ⟨⟨Nat.le_trans (Nat.min_le_right ..) (depth_rowsT _), ⟨_, rfl, Nat.le_trans (Nat.min_le_left ..) (depth_rowT _)⟩⟩, ?_⟩
          have e := inF_rows ((rows.getD j []).map (atR r)) (tabs.getD j [])
          simp only [List.getD_eq_getElem?_getD, List.map_map] at e z ⊢
          rw [e]
          exact z
      · have sr := sat_range tl (atR r)
        have am := A.mem r
        rw [isB_row] at h
        have e : ((List.range rows.length).all fun k => decide ((rows.getD k []).map (atR r) ∈ tabs.getD k [])) = decide (r ∈ ans) := by
          rw [Bool.eq_iff_iff, sr, decide_eq_true_iff, am]
          exact ⟨fun s => ⟨rl, s⟩, fun s => s.2⟩
        simp only [Bool.false_eq_true, if_false]
        rw [e]
        exact h

end Ck

set_option maxRecDepth 100000
set_option maxHeartbeats 4000000
namespace Ck
open PySem PySem.Spec PyProof.Rows L2 Dl

abbrev s_law : Stmt := top 46
abbrev N_law : List Str := ["script", "state", "lap", "query_here", "store_here", "due", "turn", "value", "near", "is_due", "one"]
theorem sc_law : FnScope N_law ["script"] (defScope s_law) := ⟨rfl, rfl, rfl, by decide +kernel, rfl, by decide +kernel, by decide +kernel⟩
abbrev l_law : Stmt := (defBody s_law).getD 1 (.Pass ⟨0, 0, 0, 0⟩)
def forB : Stmt → List Stmt
  | .For _ _ b _ _ => b
  | _ => []
abbrev lb (i : Nat) : Stmt := (forB l_law).getD i (.Pass ⟨0, 0, 0, 0⟩)
section
variable {P : Program} {w : World} {W : Wd} {mg : Str → Option Value} {base : Heap} {sc f cc PT PG : Addr} {A_BadQuery A_BadStore A_JoinError st : Addr}  {A : Around} {outer : List PySem.Env} {s : Shared} {H H0 : Hp} {E : XK}
  (T : Txt W mg)
  (tbl : W.Tb PT ("law" ++ ".<locals>." ++ "<lambda>") ∧ LamX.TabB base mg cc PT)
  (E_BadStore : Exn W mg "BadStore" A_BadStore)
  (E_BadQuery : Exn W mg "BadQuery" A_BadQuery)
  (C__law_cj_query : Cal P w W mg base "_law_cj_query" 5 1 (F_query st))
  (C__law_cj_store : Cal P w W mg base "_law_cj_store" 4 4 (F_store st))
  (C__law_draw : Cal P w W mg base "_law_draw" 2 2 (F_draw st))
  (C__law_pick : Cal P w W mg base "_law_pick" 3 2 (F_pick st))
  (C__law_cj_answers : Cal P w W mg base "_law_cj_answers" 2 2 (F_cja))
  (C_answers : Cal P w W mg base "answers" 25 2 (F_answers A_BadQuery A_BadStore))
  (C__law_cj_bent : Cal P w W mg base "_law_cj_bent" 8 2 (F_bent st 2))
  (C__law_cj_odd : Cal P w W mg base "_law_cj_odd" 4 1 (F_odd st))
  (C__law_is_whole : Cal P w W mg base "_law_is_whole" 1 1 (F_whole))
  (C__law_is_truth : Cal P w W mg base "_law_is_truth" 1 2 (F_truth))
  (C_is_answer : Cal P w W mg base "is_answer" 11 3 (F_isans A_BadQuery A_BadStore))
  (KB_answers : KbA W.K C_answers.fd C_answers.ps 0 ["query", "store"])
  (KB_is_answer : KbA W.K C_is_answer.fd C_is_answer.ps 2 ["value"])
  (CAT : Cat (cxOf (L2.CX P w) P w W.K mg base N_law "law" (defScope s_law) f (.ref cc) A outer s H E) W "_law_caught" A_JoinError)
  (hr : Room 26 (A.deeper (envOfC "law" (defScope s_law) s.heap.objs.size f (.ref cc))))
  {tL : Tok} (hL : mg "LIMIT" = some (.int (10 ^ 18) tL))

def law_s0 : (m : DE → M R) ×' PS (cxOf (L2.CX P w) P w W.K mg base N_law "law" (defScope s_law) f (.ref cc) A outer s H E) (lb 0) (liftS W H0 E m) := ⟨_, (ds_set 3 sc_law.nd rfl (dp_call C__law_cj_query.ok (hr.mono (by decide)) C__law_cj_query.mg C__law_cj_query.kp C__law_cj_query.bd pass_cx (dpa_cons (dv 1) dpa_nil)))⟩
def law_s1 : (m : DE → M R) ×' PS (cxOf (L2.CX P w) P w W.K mg base N_law "law" (defScope s_law) f (.ref cc) A outer s H E) (lb 1) (liftS W H0 E m) := ⟨_, (ds_set 4 sc_law.nd rfl (dp_call C__law_cj_store.ok (hr.mono (by decide)) C__law_cj_store.mg C__law_cj_store.kp C__law_cj_store.bd pass_cx (dpa_cons (dv 1) (dpa_cons (dv 3) (dpa_cons (dp_call C__law_pick.ok (hr.mono (by decide)) C__law_pick.mg C__law_pick.kp C__law_pick.bd pass_cx (dpa_cons (dv 1) (dpa_cons (dp_lock (do_lst (dpa_cons dp_int (dpa_cons dp_int (dpa_cons dp_int dpa_nil))))) dpa_nil))) (dpa_cons (dp_call C__law_pick.ok (hr.mono (by decide)) C__law_pick.mg C__law_pick.kp C__law_pick.bd pass_cx (dpa_cons (dv 1) (dpa_cons (dp_lock (do_lst (dpa_cons dp_int (dpa_cons dp_int (dpa_cons dp_int (dpa_cons dp_int dpa_nil)))))) dpa_nil))) dpa_nil))))))⟩
def law_s2 : (m : DE → M R) ×' PS (cxOf (L2.CX P w) P w W.K mg base N_law "law" (defScope s_law) f (.ref cc) A outer s H E) (lb 2) (liftS W H0 E m) := ⟨_, (ds_set 5 sc_law.nd rfl (dp_tupOf rfl T.b_tuple (dp_1 (dp_call C__law_cj_answers.ok (hr.mono (by decide)) C__law_cj_answers.mg C__law_cj_answers.kp C__law_cj_answers.bd pass_cx (dpa_cons (dv 3) (dpa_cons (dv 4) dpa_nil))))))⟩
def law_s3 : (m : DE → M R) ×' PS (cxOf (L2.CX P w) P w W.K mg base N_law "law" (defScope s_law) f (.ref cc) A outer s H E) (lb 3) (liftS W H0 E m) := ⟨_, (ds_if (dt_cmp (op_neP (u100 hr)) (opD_P rfl) (dp_1 (dp_callK0 C_answers.ok (hr.mono (by decide)) C_answers.mg C_answers.kp KB_answers pass_cx (dpk_cons (dv 3) (dpk_cons (dv 4) dpk_nil)))) (dv1 5)) (ds_one (ds_ret dp_bl)) ds_nil)⟩
def law_s4 : (m : DE → M R) ×' PS (cxOf (L2.CX P w) P w W.K mg base N_law "law" (defScope s_law) f (.ref cc) A outer s H E) (lb 4) (liftS W H0 E m) := ⟨_, (ds_for pass_own rfl (d_rng1 (.inr rfl) T.b_range (dp_1 dp_int)) (pg_name (i := 6) sc_law.nd rfl (by first | exact Or.inl rfl | exact Or.inr rfl) (by first | exact Or.inr rfl | exact Or.inl rfl)) gd_name (ds_cons (ds_set 7 sc_law.nd rfl (dp_tupOf rfl T.b_tuple (dp_1 (dp_lock (do_lc rfl sc_law.nd (d_rng1 (.inl rfl) T.b_range (dp_1 (dp_ix rfl (dv1 3) (dp_1 dp_int)))) (blkOk_by (own := [("one", 10)]) (N := N_law) (sc := defScope s_law) (by decide +kernel)) gd_name (gw_name (by decide)) (fun _ _ _ _ _ => pg_name (i := 10) sc_law.nd rfl (by first | exact Or.inl rfl | exact Or.inr rfl) (by first | exact Or.inr rfl | exact Or.inl rfl)) (fun _ _ _ _ _ => dts_nil) (fun _ _ _ _ _ => (dp_call C__law_draw.ok (hr.mono (by decide)) C__law_draw.mg C__law_draw.kp C__law_draw.bd passL (dpa_cons (dv 1) (dpa_cons dp_int dpa_nil)))))))))
    (ds_cons (ds_set 7 sc_law.nd rfl (dp_call C__law_pick.ok (hr.mono (by decide)) C__law_pick.mg C__law_pick.kp C__law_pick.bd pass_cx (dpa_cons (dv 1) (dpa_cons (dp_op op_addU (opD_addU _ rfl) (dp_1 (dp_lock (do_listOf rfl T.b_list (dv1 5)))) (dp_1 (dp_lock (do_lst (dpa_cons (dv 7) dpa_nil))))) dpa_nil))))
    (ds_one (ds_for pass_own rfl (df_seq rfl (dp_lock (do_lst (dpa_cons (dv 7) (dpa_cons (dp_call C__law_cj_bent.ok (hr.mono (by decide)) C__law_cj_bent.mg C__law_cj_bent.kp C__law_cj_bent.bd pass_cx (dpa_cons (dv 1) (dpa_cons (dv 7) dpa_nil))) (dpa_cons (dp_lock (do_listOf rfl T.b_list (dv1 7))) (dpa_cons (dp_slice rfl (dv1 7) dpo_none (dpo_some (dp_1 (dp_neg (dp_1 dp_int))))) (dpa_cons (dp_call C__law_cj_odd.ok (hr.mono (by decide)) C__law_cj_odd.mg C__law_cj_odd.kp C__law_cj_odd.bd pass_cx (dpa_cons (dv 1) dpa_nil)) dpa_nil)))))))) (pg_name (i := 8) sc_law.nd rfl (by first | exact Or.inl rfl | exact Or.inr rfl) (by first | exact Or.inr rfl | exact Or.inl rfl)) gd_name (ds_cons (ds_set 9 sc_law.nd rfl (dp_and (dp_isi (c := "tuple") rfl T.b_isinstance T.b_tuple (dv1 8)) (dp_one (dp_cmp (op_eqP (u100 hr)) (opD_P rfl) (dp_1 (dp_len rfl T.b_len (dv1 8))) (dp_1 (dp_ix rfl (dv1 3) (dp_1 dp_int)))))))
    (ds_cons (ds_set 9 sc_law.nd rfl (dp_and (dv 9) (dp_and (dp_cmp (op_eqP (u100 hr)) (opD_P rfl) (dp_1 (dp_lock (do_lc rfl sc_law.nd (di_seq rfl (dv1 8)) (blkOk_by (own := [("one", 10)]) (N := N_law) (sc := defScope s_law) (by decide +kernel)) gd_name (gw_name (by decide)) (fun _ _ _ _ _ => pg_name (i := 10) sc_law.nd rfl (by first | exact Or.inl rfl | exact Or.inr rfl) (by first | exact Or.inr rfl | exact Or.inl rfl)) (fun _ _ _ _ _ => (dts_one (dt_not (dt_val (dp_call C__law_is_whole.ok (hr.mono (by decide)) C__law_is_whole.mg C__law_is_whole.kp C__law_is_whole.bd passL (dpa_cons (dv 10) dpa_nil)))))) (fun _ _ _ _ _ => dp_int)))) (dp_1 (dp_lock (do_lst dpa_nil)))) (dp_one (dp_cmp (op_inP (u100 hr)) (opD_P rfl) (dv1 8) (dv1 5))))))
    (ds_one (ds_if (dt_not (dt_val (dp_call C__law_is_truth.ok (hr.mono (by decide)) C__law_is_truth.mg C__law_is_truth.kp C__law_is_truth.bd pass_cx (dpa_cons (dp_callK C_is_answer.ok (hr.mono (by decide)) C_is_answer.mg C_is_answer.kp KB_is_answer pass_cx (dpa_cons (dv 3) (dpa_cons (dv 4) dpa_nil)) (dpk_cons (dv 8) dpk_nil)) (dpa_cons (dv 9) dpa_nil))))) (ds_one (ds_ret dp_bl)) ds_nil)))))))))⟩
def law_s5 : (m : DE → M R) ×' PS (cxOf (L2.CX P w) P w W.K mg base N_law "law" (defScope s_law) f (.ref cc) A outer s H E) (lb 5) (liftS W H0 E m) := ⟨_, (ds_if (dt_not (dt_val (dp_caught (k := 12) CAT rfl tbl.1 tbl.2 rfl (hr.mono (by decide)) (LamX.lamS_by (show LamX.lamSB (defScope s_law) _ = true by decide +kernel)) E_BadStore.mg E_BadStore.kp T.b_isinstance (fun _ _ _ _ _ _ _ _ hrl => (dp_call C_is_answer.ok (hrl.mono (by decide)) C_is_answer.mg C_is_answer.kp C_is_answer.bd pass_lamX (dpa_cons (dv 3) (dpa_cons dp_non (dpa_cons dp_non dpa_nil)))))))) (ds_one (ds_ret dp_bl)) ds_nil)⟩
def law_s6 : (m : DE → M R) ×' PS (cxOf (L2.CX P w) P w W.K mg base N_law "law" (defScope s_law) f (.ref cc) A outer s H E) (lb 6) (liftS W H0 E m) := ⟨_, (ds_if (dt_not (dt_val (dp_caught (k := 12) CAT rfl tbl.1 tbl.2 rfl (hr.mono (by decide)) (LamX.lamS_by (show LamX.lamSB (defScope s_law) _ = true by decide +kernel)) E_BadQuery.mg E_BadQuery.kp T.b_isinstance (fun _ _ _ _ _ _ _ _ hrl => (dp_call C_is_answer.ok (hrl.mono (by decide)) C_is_answer.mg C_is_answer.kp C_is_answer.bd pass_lamX (dpa_cons dp_non (dpa_cons dp_non (dpa_cons dp_non dpa_nil)))))))) (ds_one (ds_ret dp_bl)) ds_nil)⟩
end
end Ck

set_option maxRecDepth 100000
set_option maxHeartbeats 4000000
namespace Ck
open PySem PySem.Spec PyProof.Rows L2 Dl

theorem GoodS.le {a b a' b' : Int} (h1 : a ≤ a') (h2 : b ≤ b') : ∀ {rows : List (List Int)} {tabs : List (List (List Int))}, GoodS a b rows tabs → GoodS a' b' rows tabs
  | _, _, .nil => .nil
  | _, _, .cons g G => .cons ⟨g.asc, by have := g.len; omega, fun r hr => ⟨(g.row r hr).1, fun k hk => by have := (g.row r hr).2 k hk; omega⟩⟩ (GoodS.le h1 h2 G)
theorem smD_row {n : Nat} {ns : List Int} (h : ns.length ≤ n) : smD n (rowD ns) := by
  simp only [rowD, smD, List.length_map]
  refine ⟨h, smL_iff.mpr fun x hx => ?_⟩
  obtain ⟨i, _, rfl⟩ := List.mem_map.mp hx
  simp only [smD]
theorem tdep_row (ns : List Int) : tdep (rowD ns) ≤ 1 := by
  simp only [rowD, tdep]
  have : tdepL (ns.map .int) ≤ 0 := tdepL_le.mpr fun y hy => by
    obtain ⟨i, _, rfl⟩ := List.mem_map.mp hy
    simp only [tdep]
    omega
  omega
section
variable {P : Program} {w : World} {W : Wd} {mg : Str → Option Value} {base : Heap} {sc f cc PT PG : Addr} {A_BadQuery A_BadStore A_JoinError st : Addr}  {A : Around} {outer : List PySem.Env} {s : Shared} {H H0 : Hp} {E : XK}
  (T : Txt W mg)
  (tbl : W.Tb PT ("law" ++ ".<locals>." ++ "<lambda>") ∧ LamX.TabB base mg cc PT)
  (E_BadStore : Exn W mg "BadStore" A_BadStore)
  (E_BadQuery : Exn W mg "BadQuery" A_BadQuery)
  (C__law_cj_query : Cal P w W mg base "_law_cj_query" 5 1 (F_query st))
  (C__law_cj_store : Cal P w W mg base "_law_cj_store" 4 4 (F_store st))
  (C__law_draw : Cal P w W mg base "_law_draw" 2 2 (F_draw st))
  (C__law_pick : Cal P w W mg base "_law_pick" 3 2 (F_pick st))
  (C__law_cj_answers : Cal P w W mg base "_law_cj_answers" 2 2 (F_cja))
  (C_answers : Cal P w W mg base "answers" 25 2 (F_answers A_BadQuery A_BadStore))
  (C__law_cj_bent : Cal P w W mg base "_law_cj_bent" 8 2 (F_bent st 2))
  (C__law_cj_odd : Cal P w W mg base "_law_cj_odd" 4 1 (F_odd st))
  (C__law_is_whole : Cal P w W mg base "_law_is_whole" 1 1 (F_whole))
  (C__law_is_truth : Cal P w W mg base "_law_is_truth" 1 2 (F_truth))
  (C_is_answer : Cal P w W mg base "is_answer" 11 3 (F_isans A_BadQuery A_BadStore))
  (KB_answers : KbA W.K C_answers.fd C_answers.ps 0 ["query", "store"])
  (KB_is_answer : KbA W.K C_is_answer.fd C_is_answer.ps 2 ["value"])
  (CAT : Cat (cxOf (L2.CX P w) P w W.K mg base N_law "law" (defScope s_law) f (.ref cc) A outer s H E) W "_law_caught" A_JoinError)
  (hr : Room 26 (A.deeper (envOfC "law" (defScope s_law) s.heap.objs.size f (.ref cc))))
  {tL : Tok} (hL : mg "LIMIT" = some (.int (10 ^ 18) tL))

theorem r0 {x2 x3 x4 x5 x6 x7 x8 x9 x10 : Option SD} {γ : Gh} {PP : R → Gh → Prop} {XX : Addr → Gh → Prop} {k : Int}  (hk : k + 200 < 2 ^ 40) (hD : Dr k γ) (q : ∀ (m : Nat) rows γ', GoodQ m rows → Dr (k + 200) γ' → PP (.nx [some (.sh (.ob (.ref sc))), some (.sh (.ob (.ref st))), x2, some (.sh (qD m rows)), x4, x5, x6, x7, x8, x9, x10]) γ') : ((law_s0 (P := P) (w := w) (W := W) (mg := mg) (base := base) (f := f) (cc := cc) (A := A) (outer := outer) (s := s) (H := H) (H0 := H0) (E := E) C__law_cj_query hr).1 ([some (.sh (.ob (.ref sc))), some (.sh (.ob (.ref st))), x2, x3, x4, x5, x6, x7, x8, x9, x10] : DE)).run γ PP XX := by
  simp [law_s0, F_query]
  refine ⟨k, hk, hD, fun m r γ' a b => ?_⟩
  have := a.lo
  obtain ⟨n, rfl⟩ : ∃ n : Nat, m = n := ⟨m.toNat, by omega⟩
  exact q n r γ' a b

theorem r1 {x2 x3 x4 x5 x6 x7 x8 x9 x10 : Option SD} {γ : Gh} {PP : R → Gh → Prop} {XX : Addr → Gh → Prop} {k : Int} {m : Nat} {rows : List (List Int)} (G : GoodQ m rows) (hk : k + 2200 < 2 ^ 40) (hD : Dr k γ) (q : ∀ tabs γ', GoodS 9 12 rows tabs → Dr (k + 2102) γ' → PP (.nx [some (.sh (.ob (.ref sc))), some (.sh (.ob (.ref st))), x2, some (.sh (qD m rows)), some (.sh (.tup (tabs.map tabD))), x5, x6, x7, x8, x9, x10]) γ') : ((law_s1 (P := P) (w := w) (W := W) (mg := mg) (base := base) (f := f) (cc := cc) (A := A) (outer := outer) (s := s) (H := H) (H0 := H0) (E := E) C__law_cj_store C__law_pick hr).1 ([some (.sh (.ob (.ref sc))), some (.sh (.ob (.ref st))), x2, some (.sh (qD m rows)), x4, x5, x6, x7, x8, x9, x10] : DE)).run γ PP XX := by
  have l2 := G.len2
  have z100 : (1000 : Nat) ≤ sizeLine := by decide
  have key : ∀ (most top : Int) γ', 0 ≤ most → most ≤ 9 → 1 ≤ top → top ≤ 5 → Dr (k + 2) γ' → (F_store st [.ob (.ref st), .tup [.int (m : Int), .tup (rows.map rowD)], .int most, .int top]).run γ' (fun d γ2 => PP (.nx [some (.sh (.ob (.ref sc))), some (.sh (.ob (.ref st))), x2, some (.sh (.tup [.int (m : Int), .tup (rows.map rowD)])), some (.sh (d)), x5, x6, x7, x8, x9, x10]) γ2) XX := fun most top γ' h0 h1 h2 h3 hd => by
    simp [F_store, rowsD_map]
    refine ⟨by omega, by omega, by omega, by omega, fun r hr => ⟨(G.row r hr).2.1, (G.row r hr).2.2⟩, by omega, k + 2, by omega, hd, fun t γ' a b => q t γ' (GoodS.le h1 (by omega) a) (b.le (by omega))⟩
  simp [law_s1, qD, F_pick]
  refine ⟨by omega, k, by omega, hD, fun x γ1 hx h1 => ⟨by omega, k + 1, by omega, h1, fun y γ2 hy h2 => ?_⟩⟩
  have h3 : Dr (k + 2) γ2 := h2.le (by omega)
  rcases hx with rfl | rfl | rfl <;> rcases hy with rfl | rfl | rfl <;> exact key _ _ γ2 (by omega) (by omega) (by omega) (by omega) h3

theorem r2 {x2 x3 x4 x5 x6 x7 x8 x9 x10 : Option SD} {γ : Gh} {PP : R → Gh → Prop} {XX : Addr → Gh → Prop} {k : Int} {m : Nat} {rows : List (List Int)} (G : GoodQ m rows) {tabs : List (List (List Int))} (S : GoodS 9 12 rows tabs)  (q : ∀ ans, AnsP m (partsOf rows tabs) ans → PP (.nx [some (.sh (.ob (.ref sc))), some (.sh (.ob (.ref st))), x2, some (.sh (qD m rows)), some (.sh (.tup (tabs.map tabD))), some (.sh (.tup (ans.map rowD))), x6, x7, x8, x9, x10]) γ) : ((law_s2 (P := P) (w := w) (W := W) (mg := mg) (base := base) (f := f) (cc := cc) (A := A) (outer := outer) (s := s) (H := H) (H0 := H0) (E := E) T C__law_cj_answers hr).1 ([some (.sh (.ob (.ref sc))), some (.sh (.ob (.ref st))), x2, some (.sh (qD m rows)), some (.sh (.tup (tabs.map tabD))), x5, x6, x7, x8, x9, x10] : DE)).run γ PP XX := by
  simp [law_s2]
  rw [runF_cja]
  exact ⟨m, rows, tabs, rfl, sok_of16 G S (by omega) (by omega), fun a h => by simpa using q a h⟩

theorem r3 {x2 x3 x4 x5 x6 x7 x8 x9 x10 : Option SD} {γ : Gh} {PP : R → Gh → Prop} {XX : Addr → Gh → Prop} {k : Int} {m : Nat} {rows : List (List Int)} (G : GoodQ m rows) {tabs : List (List (List Int))} (S : GoodS 9 12 rows tabs) {ans : List (List Int)} (A1 : AnsP m (partsOf rows tabs) ans)  (q : PP (.nx [some (.sh (.ob (.ref sc))), some (.sh (.ob (.ref st))), x2, some (.sh (qD m rows)), some (.sh (.tup (tabs.map tabD))), some (.sh (.tup (ans.map rowD))), x6, x7, x8, x9, x10]) γ) : ((law_s3 (P := P) (w := w) (W := W) (mg := mg) (base := base) (f := f) (cc := cc) (A := A) (outer := outer) (s := s) (H := H) (H0 := H0) (E := E) C_answers KB_answers hr).1 ([some (.sh (.ob (.ref sc))), some (.sh (.ob (.ref st))), x2, some (.sh (qD m rows)), some (.sh (.tup (tabs.map tabD))), some (.sh (.tup (ans.map rowD))), x6, x7, x8, x9, x10] : DE)).run γ PP XX := by
  simp [law_s3]
  refine (sok_of16 G S (by omega) (by omega)).call fun a3 A3 => ?_
  have ea := ans_unique A3 A1
  subst ea
  simp [toPy, toPyL_rowT, eqv_rowsT]
  exact ⟨depth_rowsT _, q⟩

theorem r4 {x2 x3 x4 x5 x6 x7 x8 x9 x10 : Option SD} {γ : Gh} {PP : R → Gh → Prop} {XX : Addr → Gh → Prop} {k : Int} {m : Nat} {rows : List (List Int)} (G : GoodQ m rows) {tabs : List (List (List Int))} (S : GoodS 9 12 rows tabs) {ans : List (List Int)} (A1 : AnsP m (partsOf rows tabs) ans) (hk : k + 400 < 2 ^ 40) (hD : Dr k γ) (q : ∀ (y6 y7 y8 y9 y10 : Option SD) γ', Dr (k + 300) γ' → PP (.nx [some (.sh (.ob (.ref sc))), some (.sh (.ob (.ref st))), x2, some (.sh (qD m rows)), some (.sh (.tup (tabs.map tabD))), some (.sh (.tup (ans.map rowD))), y6, y7, y8, y9, y10]) γ') : ((law_s4 (P := P) (w := w) (W := W) (mg := mg) (base := base) (f := f) (cc := cc) (A := A) (outer := outer) (s := s) (H := H) (H0 := H0) (E := E) T C__law_draw C__law_pick C__law_cj_bent C__law_cj_odd C__law_is_whole C__law_is_truth C_is_answer KB_is_answer hr).1 ([some (.sh (.ob (.ref sc))), some (.sh (.ob (.ref st))), x2, some (.sh (qD m rows)), some (.sh (.tup (tabs.map tabD))), some (.sh (.tup (ans.map rowD))), x6, x7, x8, x9, x10] : DE)).run γ PP XX := by
  have l5 := G.len2
  have hm := G.hi
  have ml := G.lo
  have z100 : (1000 : Nat) ≤ sizeLine := by decide
  have SK := sok_of16 G S (by omega) (by omega)
  have abd := Nat.le_trans (A1.le SK) SK.bd
  have s20 : 2 ^ 20 + 10 < sizeLine := by decide
  simp [law_s4, qD]
  rw [show rangeD 0 6 = (List.range 6).map fun (i : Nat) => D.int (i : Int) from rangeD_nat 6]
  refine for_T (α := Nat) (st := fun i e => setS 6 (.int (i : Int)) e) (fun pre e γ1 => ∃ (y6 y7 y8 y9 y10 : Option SD), Dr (k + 50 * pre.length) γ1 ∧ e = ([some (.sh (.ob (.ref sc))), some (.sh (.ob (.ref st))), x2, some (.sh (qD m rows)), some (.sh (.tup (tabs.map tabD))), some (.sh (.tup (ans.map rowD))), y6, y7, y8, y9, y10] : DE)) (fun x _ e γ PP z => z) (fun pre ii post ex e γ1 hi => ?_) ⟨_, _, _, _, _, hD.le (by simp), rfl⟩ (fun e γ1 hi => ?_)
  · obtain ⟨y6, y7, y8, y9, y10, hDi, rfl⟩ := hi
    have prel : pre.length < 6 := by
      have := congrArg List.length ex
      rw [List.length_range, List.length_append, List.length_cons] at this
      omega
    simp [qD]
    refine ⟨by omega, by rw [rangeD_len]; omega, ?_⟩
    refine compM_inv (N := m) (J := fun done γ' => ∃ ns : List Int, done = ns.map .int ∧ Dr (k + 50 * pre.length + ns.length) γ') (i := 10) rfl rfl (by rw [rangeD_len]; simp) ⟨[], rfl, hDi.le (by simp)⟩ (fun x hx done γ hdl hJ PP h => ?_) (fun ys γ2 hJ hl => ?_)
    · obtain ⟨ns, rfl, hDn⟩ := hJ
      rw [List.length_map] at hdl
      simp [F_draw]
      refine ⟨_, by omega, hDn, fun b γ3 b0 b1 hDb => h _ γ3 ⟨ns ++ [b], by simp, hDb.le (by simp; omega)⟩⟩
    obtain ⟨ns, hns, hDn⟩ := hJ
    have hns : ys = ns.map .int := hns
    subst hns
    rw [List.length_map, rangeD_len] at hl
    simp [F_pick]
    refine ⟨by omega, by omega, by omega, _, by omega, hDn, fun x γ3 hx hD3 => ?_⟩
    obtain ⟨v, rfl, wl⟩ : ∃ v, x = rowD v ∧ v.length = m := by
      rcases hx with ⟨a, ha, rfl⟩ | rfl
      · exact ⟨a, rfl, ((A1.mem a).mp ha).1⟩
      · exact ⟨ns, rfl, by omega⟩
    simp [F_bent, F_odd, rowD]
    refine ⟨8, smD_row (by omega), by omega, by omega, tdep_row v, _, by omega, hD3, fun bt γ4 b1 b2 hD4 => ?_⟩
    refine ⟨by simp [oddL], by simp [oddL], _, by omega, hD4, fun od γ5 ho hD5 => ⟨by omega, ?_⟩⟩
    have cm : ∀ d, d ∈ Dl.cutD (v.map .int) none (some (-1)) → ∃ j : Int, d = .int j := fun d hd => by
      unfold Dl.cutD at hd
      obtain ⟨j, _, rfl⟩ := List.mem_map.mp (List.mem_of_mem_drop (List.mem_of_mem_take hd))
      exact ⟨j, rfl⟩
    have cl : (Dl.cutD (v.map .int) none (some (-1))).length ≤ 60 := by
      unfold Dl.cutD
      rw [List.length_take, List.length_drop, List.length_map]
      omega
    have sm : ∀ d ∈ [D.tup (v.map .int), bt, .lst (v.map .int), .tup (Dl.cutD (v.map .int) none (some (-1))), od], smD 60 d := fun d hd => by
      have alI : smL 60 (v.map D.int) := smL_iff.mpr fun y hy => by
        obtain ⟨j, _, rfl⟩ := List.mem_map.mp hy
        simp only [smD]
      simp only [List.mem_cons, List.not_mem_nil, or_false] at hd
      rcases hd with rfl | rfl | rfl | rfl | rfl
      · simp only [smD, List.length_map]
        exact ⟨by omega, alI⟩
      · exact smD_le (by omega) _ b1
      · simp only [smD, List.length_map]
        exact ⟨by omega, alI⟩
      · simp only [smD]
        refine ⟨cl, smL_iff.mpr fun y hy => ?_⟩
        obtain ⟨j, rfl⟩ := cm y hy
        simp only [smD]
      · exact smD_le (by omega) _ (odd_small d (by simpa [oddL] using ho)).1
    refine forM_ix (I := fun i e γ' => γ' = γ5 ∧ ∃ y8 y9 y10, e = ([some (.sh (.ob (.ref sc))), some (.sh (.ob (.ref st))), x2, some (.sh (.tup [.int (m : Int), .tup (rows.map rowD)])), some (.sh (.tup (tabs.map tabD))), some (.sh (.tup (ans.map rowD))), some (.sh (.int (ii : Int))), some (.sh (.tup (v.map .int))), y8, y9, y10] : DE)) (fun i x hx e γ6 hi => ?_) ⟨rfl, _, _, _, rfl⟩ (fun e γ6 hi => ?_)
    · obtain ⟨rfl, y8, y9, y10, rfl⟩ := hi
      have sx := sm x (List.mem_of_getElem? hx)
      clear hx
      have px := smD_pure (show 60 ≤ sizeLine by omega) x sx
      have tail : ∀ (bd : Bool) (K : Bool → Gh → Prop), bd = isB ans x → K true γ6 → (F_isans A_BadQuery A_BadStore [.tup [.int (m : Int), .tup (rows.map rowD)], .tup (tabs.map tabD), x]).run γ6 (fun a γ' => (F_truth [a, .bl bd]).run γ' (fun a γ' => (match a with | .bl b => (pure b : M Bool) | _ => M.fail).run γ' K XX) XX) XX := fun bd K hb z => by
        rw [runF_isans]
        exact ⟨_, _, _, rfl, SK.toQOk.pure, SK.pure2, px, .inr (.inr ⟨m, rows, tabs, ans, rfl, rfl, SK, A1, by simp [F_truth, hb]; exact z⟩)⟩
      cases x
      case tup xs =>
        simp only [smD] at sx
        simp
        split
        · rename_i hlen
          refine ⟨by omega, ?_⟩
          refine compM_filter (i := 10) (q := fun d => !isInt d) (p := fun _ => .int 1) rfl (fun d hd γ PP z => ?_) (fun d hd hq γ PP z => by simpa using z) ?_
          · simp [F_whole]
            simp only [pureD] at px
            exact ⟨pureL_mem px.2 hd, z⟩
          · rw [toPyL_ones]
            simp
            refine ⟨Nat.le_trans (Nat.min_le_right ..) (by decide), ?_⟩
            split
            · rename_i hall
              obtain ⟨r, hr⟩ := intsD_of (p := isInt) (fun d h => by cases d <;> first | exact ⟨_, rfl⟩ | cases h) (xs := xs) (List.all_eq_true.mpr hall)
              have ex := intsD_eq hr
              subst ex
              have dr := depth_ints r
              rw [toPyL_int, toPyL_rowT]
              simp
              refine ⟨⟨Nat.le_trans (Nat.min_le_left ..) (by simp only [PyData.depth]; omega), ⟨_, rfl, Nat.le_trans (Nat.min_le_left ..) (depth_rowT _)⟩⟩, ?_⟩
              rw [inF_rows]
              exact tail _ _ (by rw [← isB_row]; rfl) (by simp)
            · rename_i hall
              refine tail false _ ?_ (by simp)
              rw [eq_comm, Bool.eq_false_iff]
              intro hz
              obtain ⟨r, hr, e⟩ := isB_iff.mp hz
              refine hall ?_
              cases e
              intro d hd
              obtain ⟨j, _, rfl⟩ := List.mem_map.mp hd
              rfl
        · rename_i hlen
          refine tail false _ ?_ (by simp)
          rw [eq_comm, Bool.eq_false_iff]
          intro hz
          obtain ⟨r, hr, e⟩ := isB_iff.mp hz
          cases e
          rw [List.length_map] at hlen
          have := ((A1.mem r).mp hr).1
          omega
      all_goals first | (simp only [smD] at sx; done) | (simp; exact tail false _ rfl (by simp))
    · obtain ⟨rfl, y8, y9, y10, rfl⟩ := hi
      exact ⟨hD5.le (by omega), _, _, _, _, _, rfl⟩
  · obtain ⟨y6, y7, y8, y9, y10, hDi, rfl⟩ := hi
    exact q _ _ _ _ _ γ1 (hDi.le (by simp))

theorem r5 {x2 x3 x4 x5 x6 x7 x8 x9 x10 : Option SD} {γ : Gh} {PP : R → Gh → Prop} {XX : Addr → Gh → Prop} {k : Int} {m : Nat} {rows : List (List Int)} (G : GoodQ m rows) {tabs : List (List (List Int))} (S : GoodS 9 12 rows tabs) {ans : List (List Int)} {y6 y7 y8 y9 y10 : Option SD} (J : CtE W.K A_JoinError A_BadStore)  (q : PP (.nx [some (.sh (.ob (.ref sc))), some (.sh (.ob (.ref st))), x2, some (.sh (qD m rows)), some (.sh (.tup (tabs.map tabD))), some (.sh (.tup (ans.map rowD))), y6, y7, y8, y9, y10]) γ) : ((law_s5 (P := P) (w := w) (W := W) (mg := mg) (base := base) (f := f) (cc := cc) (A := A) (outer := outer) (s := s) (H := H) (H0 := H0) (E := E) T tbl E_BadStore C_is_answer CAT hr).1 ([some (.sh (.ob (.ref sc))), some (.sh (.ob (.ref st))), x2, some (.sh (qD m rows)), some (.sh (.tup (tabs.map tabD))), some (.sh (.tup (ans.map rowD))), y6, y7, y8, y9, y10] : DE)).run γ PP XX := by
  have SK := sok_of16 G S (by omega) (by omega)
  simp [law_s5]
  rw [runF_isans]
  refine ⟨_, _, _, rfl, SK.toQOk.pure, by simp only [pureD], by simp only [pureD], .inr (.inl ⟨SK.toQOk.query, rfl, ?_⟩)⟩
  exact ⟨J.exm, J.exc, .inr ⟨J.kit, q⟩⟩

theorem r6 {x2 x3 x4 x5 x6 x7 x8 x9 x10 : Option SD} {γ : Gh} {PP : R → Gh → Prop} {XX : Addr → Gh → Prop} {k : Int} {m : Nat} {rows : List (List Int)} (G : GoodQ m rows) {tabs : List (List (List Int))} (S : GoodS 9 12 rows tabs) {ans : List (List Int)} {y6 y7 y8 y9 y10 : Option SD} (J : CtE W.K A_JoinError A_BadQuery)  (q : PP (.nx [some (.sh (.ob (.ref sc))), some (.sh (.ob (.ref st))), x2, some (.sh (qD m rows)), some (.sh (.tup (tabs.map tabD))), some (.sh (.tup (ans.map rowD))), y6, y7, y8, y9, y10]) γ) : ((law_s6 (P := P) (w := w) (W := W) (mg := mg) (base := base) (f := f) (cc := cc) (A := A) (outer := outer) (s := s) (H := H) (H0 := H0) (E := E) T tbl E_BadQuery C_is_answer CAT hr).1 ([some (.sh (.ob (.ref sc))), some (.sh (.ob (.ref st))), x2, some (.sh (qD m rows)), some (.sh (.tup (tabs.map tabD))), some (.sh (.tup (ans.map rowD))), y6, y7, y8, y9, y10] : DE)).run γ PP XX := by
  simp [law_s6]
  rw [runF_isans]
  refine ⟨_, _, _, rfl, by simp only [pureD], by simp only [pureD], by simp only [pureD], .inl ⟨rfl, ?_⟩⟩
  exact ⟨J.exm, J.exc, .inr ⟨J.kit, q⟩⟩

end
end Ck

set_option maxRecDepth 100000
set_option maxHeartbeats 4000000
namespace Ck
open PySem PySem.Spec PyProof.Rows L2 Dl

section
variable {P : Program} {w : World} {W : Wd} {mg : Str → Option Value} {base : Heap} {sc f cc PT PG : Addr} {A_BadQuery A_BadStore A_JoinError st : Addr}  {A : Around} {outer : List PySem.Env} {s : Shared} {H H0 : Hp} {E : XK}
  (T : Txt W mg)
  (tbl : W.Tb PT ("law" ++ ".<locals>." ++ "<lambda>") ∧ LamX.TabB base mg cc PT)
  (E_BadStore : Exn W mg "BadStore" A_BadStore)
  (E_BadQuery : Exn W mg "BadQuery" A_BadQuery)
  (C__law_cj_query : Cal P w W mg base "_law_cj_query" 5 1 (F_query st))
  (C__law_cj_store : Cal P w W mg base "_law_cj_store" 4 4 (F_store st))
  (C__law_draw : Cal P w W mg base "_law_draw" 2 2 (F_draw st))
  (C__law_pick : Cal P w W mg base "_law_pick" 3 2 (F_pick st))
  (C__law_cj_answers : Cal P w W mg base "_law_cj_answers" 2 2 (F_cja))
  (C_answers : Cal P w W mg base "answers" 25 2 (F_answers A_BadQuery A_BadStore))
  (C__law_cj_bent : Cal P w W mg base "_law_cj_bent" 8 2 (F_bent st 2))
  (C__law_cj_odd : Cal P w W mg base "_law_cj_odd" 4 1 (F_odd st))
  (C__law_is_whole : Cal P w W mg base "_law_is_whole" 1 1 (F_whole))
  (C__law_is_truth : Cal P w W mg base "_law_is_truth" 1 2 (F_truth))
  (C_is_answer : Cal P w W mg base "is_answer" 11 3 (F_isans A_BadQuery A_BadStore))
  (KB_answers : KbA W.K C_answers.fd C_answers.ps 0 ["query", "store"])
  (KB_is_answer : KbA W.K C_is_answer.fd C_is_answer.ps 2 ["value"])
  (CAT : Cat (cxOf (L2.CX P w) P w W.K mg base N_law "law" (defScope s_law) f (.ref cc) A outer s H E) W "_law_caught" A_JoinError)
  (hr : Room 26 (A.deeper (envOfC "law" (defScope s_law) s.heap.objs.size f (.ref cc))))
  {tL : Tok} (hL : mg "LIMIT" = some (.int (10 ^ 18) tL))

def SQ (n : DE → M R) (P : R → Gh → Prop) (X : Addr → Gh → Prop) : R → Gh → Prop
  | .nx e, γ => (n e).run γ P X
  | r, γ => P r γ
theorem seq_run {m n : DE → M R} {e : DE} {γ : Gh} {P : R → Gh → Prop} {X : Addr → Gh → Prop} (h : (m e).run γ (SQ n P X) X) : (seqM m n e).run γ P X := by
  unfold seqM
  simp only [M.run_bind]
  refine (m e).mono (fun r γ' z => ?_) (fun _ _ z => z) h
  cases r <;> exact z
theorem sq_nx {n : DE → M R} {e : DE} {γ : Gh} {P : R → Gh → Prop} {X : Addr → Gh → Prop} : SQ n P X (.nx e) γ = (n e).run γ P X := rfl
/-- how the slots stand at a lap's begin and end -/
def Lap (sc st : Addr) (e : DE) : Prop := ∃ x2 x3 x4 x5 x6 x7 x8 x9 x10 : Option SD, e = ([some (.sh (.ob (.ref sc))), some (.sh (.ob (.ref st))), x2, x3, x4, x5, x6, x7, x8, x9, x10] : DE)
theorem lb_all : forB l_law = [lb 0, lb 1, lb 2, lb 3, lb 4, lb 5, lb 6] := by kernel_rfl
include T tbl E_BadStore E_BadQuery C__law_cj_query C__law_cj_store C__law_draw C__law_pick C__law_cj_answers C_answers C__law_cj_bent C__law_cj_odd C__law_is_whole C__law_is_truth C_is_answer KB_answers KB_is_answer CAT hr
theorem lap_run (J1 : CtE W.K A_JoinError A_BadStore) (J2 : CtE W.K A_JoinError A_BadQuery) :
    ∃ m : DE → M R, PSs (cxOf (L2.CX P w) P w W.K mg base N_law "law" (defScope s_law) f (.ref cc) A outer s H E) (forB l_law) (liftS W H0 E m) ∧ ∀ (e : DE) (k : Int) (γ : Gh) (PP : R → Gh → Prop) (XX : Addr → Gh → Prop), Lap sc st e → k + 3000 < 2 ^ 40 → Dr k γ → (∀ e' γ', Lap sc st e' → Dr (k + 3000) γ' → PP (.nx e') γ') → (m e).run γ PP XX := by
  rw [lb_all]
  refine ⟨_, (ds_cons (law_s0 (P := P) (w := w) (W := W) (mg := mg) (base := base) (f := f) (cc := cc) (A := A) (outer := outer) (s := s) (H := H) (H0 := H0) (E := E) C__law_cj_query hr).2 (ds_cons (law_s1 (P := P) (w := w) (W := W) (mg := mg) (base := base) (f := f) (cc := cc) (A := A) (outer := outer) (s := s) (H := H) (H0 := H0) (E := E) C__law_cj_store C__law_pick hr).2 (ds_cons (law_s2 (P := P) (w := w) (W := W) (mg := mg) (base := base) (f := f) (cc := cc) (A := A) (outer := outer) (s := s) (H := H) (H0 := H0) (E := E) T C__law_cj_answers hr).2 (ds_cons (law_s3 (P := P) (w := w) (W := W) (mg := mg) (base := base) (f := f) (cc := cc) (A := A) (outer := outer) (s := s) (H := H) (H0 := H0) (E := E) C_answers KB_answers hr).2 (ds_cons (law_s4 (P := P) (w := w) (W := W) (mg := mg) (base := base) (f := f) (cc := cc) (A := A) (outer := outer) (s := s) (H := H) (H0 := H0) (E := E) T C__law_draw C__law_pick C__law_cj_bent C__law_cj_odd C__law_is_whole C__law_is_truth C_is_answer KB_is_answer hr).2 (ds_cons (law_s5 (P := P) (w := w) (W := W) (mg := mg) (base := base) (f := f) (cc := cc) (A := A) (outer := outer) (s := s) (H := H) (H0 := H0) (E := E) T tbl E_BadStore C_is_answer CAT hr).2 (ds_one (law_s6 (P := P) (w := w) (W := W) (mg := mg) (base := base) (f := f) (cc := cc) (A := A) (outer := outer) (s := s) (H := H) (H0 := H0) (E := E) T tbl E_BadQuery C_is_answer CAT hr).2))))))), fun e k γ PP XX he hk hD q => ?_⟩
  obtain ⟨x2, x3, x4, x5, x6, x7, x8, x9, x10, rfl⟩ := he
  refine seq_run (r0 (C__law_cj_query := C__law_cj_query) (hr := hr) (by omega) hD fun m rows γ G hD => ?_)
  rw [sq_nx]
  refine seq_run (r1 (C__law_cj_store := C__law_cj_store) (C__law_pick := C__law_pick) (hr := hr) (x3 := none) G (by omega) hD fun tabs γ S hD => ?_)
  rw [sq_nx]
  refine seq_run (r2 (T := T) (C__law_cj_answers := C__law_cj_answers) (hr := hr) (x3 := none) (x4 := none) (k := 0) G S fun ans A1 => ?_)
  rw [sq_nx]
  refine seq_run (r3 (C_answers := C_answers) (KB_answers := KB_answers) (hr := hr) (x3 := none) (x4 := none) (x5 := none) (k := 0) G S A1 ?_)
  rw [sq_nx]
  refine seq_run (r4 (T := T) (C__law_draw := C__law_draw) (C__law_pick := C__law_pick) (C__law_cj_bent := C__law_cj_bent) (C__law_cj_odd := C__law_cj_odd) (C__law_is_whole := C__law_is_whole) (C__law_is_truth := C__law_is_truth) (C_is_answer := C_is_answer) (KB_is_answer := KB_is_answer) (hr := hr) (x3 := none) (x4 := none) (x5 := none) G S A1 (by omega) hD fun y6 y7 y8 y9 y10 γ hD => ?_)
  rw [sq_nx]
  refine seq_run (r5 (T := T) (tbl := tbl) (E_BadStore := E_BadStore) (C_is_answer := C_is_answer) (CAT := CAT) (hr := hr) (x3 := none) (x4 := none) (x5 := none) (x6 := none) (x7 := none) (x8 := none) (x9 := none) (x10 := none) (k := 0) G S J1 ?_)
  rw [sq_nx]
  refine r6 (T := T) (tbl := tbl) (E_BadQuery := E_BadQuery) (C_is_answer := C_is_answer) (CAT := CAT) (hr := hr) (x3 := none) (x4 := none) (x5 := none) (x6 := none) (x7 := none) (x8 := none) (x9 := none) (x10 := none) (k := 0) G S J2 ?_
  exact q _ γ ⟨_, _, _, _, _, _, _, _, _, rfl⟩ (hD.le (by omega))

theorem law_rest {ns : List Int} (GG : ∀ γ H, W.G γ H → FzS W.K H sc (ns.map V.int)) (few : ns.length ≤ 63) (J1 : CtE W.K A_JoinError A_BadStore) (J2 : CtE W.K A_JoinError A_BadQuery) :
    ∃ m : DE → M R, PSs (cxOf (L2.CX P w) P w W.K mg base N_law "law" (defScope s_law) f (.ref cc) A outer s H E) ((defBody s_law).drop 1) (liftS W H0 E m) ∧ ∀ (e : DE) (γ : Gh) (PP : R → Gh → Prop) (XX : Addr → Gh → Prop), Lap sc st e → Dr 0 γ → (∀ γ', PP (.rt (.bl true)) γ') → (m e).run γ PP XX := by
  obtain ⟨m, hm, hrun⟩ := lap_run (sc := sc) (H0 := H0) (T := T) (tbl := tbl) (E_BadStore := E_BadStore) (E_BadQuery := E_BadQuery) (C__law_cj_query := C__law_cj_query) (C__law_cj_store := C__law_cj_store) (C__law_draw := C__law_draw) (C__law_pick := C__law_pick) (C__law_cj_answers := C__law_cj_answers) (C_answers := C_answers) (C__law_cj_bent := C__law_cj_bent) (C__law_cj_odd := C__law_cj_odd) (C__law_is_whole := C__law_is_whole) (C__law_is_truth := C__law_is_truth) (C_is_answer := C_is_answer) (KB_answers := KB_answers) (KB_is_answer := KB_is_answer) (CAT := CAT) (hr := hr) J1 J2
  refine ⟨_, (ds_cons (ds_for pass_own rfl (d_rng1 (.inr rfl) T.b_range (dp_1 (dp_op op_addU (opD_addU _ rfl) (dp_1 dp_int) (dp_1 (dp_min rfl T.b_min (dp_lenS (gg := GG) rfl T.b_len (dv1 0)) dp_int))))) (pg_name (i := 2) sc_law.nd rfl (by first | exact Or.inl rfl | exact Or.inr rfl) (by first | exact Or.inr rfl | exact Or.inl rfl)) gd_name hm) (ds_one (ds_ret dp_bl))), fun e γ PP XX he hD q => ?_⟩
  have he0 := he
  obtain ⟨x2, x3, x4, x5, x6, x7, x8, x9, x10, rfl⟩ := he0
  simp
  have b0 : (2 + if 4 < (ns.length : Int) then 4 else (ns.length : Int)) ≤ 6 := by split <;> omega
  have b1 : 0 ≤ (2 + if 4 < (ns.length : Int) then 4 else (ns.length : Int)) := by split <;> omega
  generalize (2 + if 4 < (ns.length : Int) then 4 else (ns.length : Int)) = n at b0 b1 ⊢
  refine ⟨⟨by omega, by omega⟩, ?_⟩
  refine forM_ix (I := fun i e γ' => Lap sc st e ∧ Dr (3000 * (i : Int)) γ') (fun i x hx e γ' hi => ?_) ⟨he, by simpa using hD⟩ (fun e γ' hi => ?_)
  · obtain ⟨hl, hd⟩ := hi
    have hi6 : i < 6 := by
      have := (List.getElem?_eq_some_iff.mp hx).1
      rw [rangeD_len] at this
      omega
    obtain ⟨y2, y3, y4, y5, y6, y7, y8, y9, y10, rfl⟩ := hl
    refine hrun _ (3000 * (i : Int)) γ' _ _ ⟨_, _, _, _, _, _, _, _, _, rfl⟩ (by omega) hd fun e' γ2 h1 h2 => ⟨h1, ?_⟩
    rw [show 3000 * ((i + 1 : Nat) : Int) = 3000 * (i : Int) + 3000 by omega]
    exact h2
  · exact q _

end
end Ck

set_option maxRecDepth 100000
set_option maxHeartbeats 8000000
namespace Ck
open PySem PySem.Spec PyProof.Rows L2 Dl

/-- all that the law calls, in a world -/
structure Cals (P : Program) (w : World) (W : Wd) (mg : Str → Option Value) (base : Heap) (A_BadQuery A_BadStore A_JoinError st : Addr) where
  T : Txt W mg
  E_BadStore : Exn W mg "BadStore" A_BadStore
  E_BadQuery : Exn W mg "BadQuery" A_BadQuery
  C__law_cj_query : Cal P w W mg base "_law_cj_query" 5 1 (F_query st)
  C__law_cj_store : Cal P w W mg base "_law_cj_store" 4 4 (F_store st)
  C__law_draw : Cal P w W mg base "_law_draw" 2 2 (F_draw st)
  C__law_pick : Cal P w W mg base "_law_pick" 3 2 (F_pick st)
  C__law_cj_answers : Cal P w W mg base "_law_cj_answers" 2 2 (F_cja)
  C_answers : Cal P w W mg base "answers" 25 2 (F_answers A_BadQuery A_BadStore)
  C__law_cj_bent : Cal P w W mg base "_law_cj_bent" 8 2 (F_bent st 2)
  C__law_cj_odd : Cal P w W mg base "_law_cj_odd" 4 1 (F_odd st)
  C__law_is_whole : Cal P w W mg base "_law_is_whole" 1 1 (F_whole)
  C__law_is_truth : Cal P w W mg base "_law_is_truth" 1 2 (F_truth)
  C_is_answer : Cal P w W mg base "is_answer" 11 3 (F_isans A_BadQuery A_BadStore)
  KB_answers : KbA W.K C_answers.fd C_answers.ps 0 ["query", "store"]
  KB_is_answer : KbA W.K C_is_answer.fd C_is_answer.ps 2 ["value"]
def spLaw (K : PySem.W.Frag) (Tt : List (Addr × Str)) : Sp := fun vs H Q _ => ∃ (a : Addr) (ns : List Int), vs = [.ref a] ∧ SqL K H a (ns.map V.int) ∧ ns.length ≤ 63 ∧ (∀ P q, (P, q) ∈ Tt → LamX.TabS H P q) ∧ ∀ H', Q (.bl true) H'
theorem PSs.lockS {X : Cx} {ss : List Stmt} {t : TS} (h : PSs X ss t) : PSs X ss fun D σ H => t D σ H ∨ ∃ a u, H a = some u ∧ Mut (some u) ∧ ∀ o, t D σ (upd H a (.frz o u)) := ⟨fun pins s σ H D I q => by
  rcases q with q | ⟨a, u, ha, mu, q⟩
  · exact h.run pins s σ H D I q
  · obtain ⟨o, I2⟩ := I.lock ha mu
    exact h.run pins s σ _ D I2 (q o)⟩
theorem tabS_sub {H H' : Hp} {P : Addr} {q : Str} (h : LamX.TabS H P q) (k : ∀ b o, H b = some o → H' b = some o) : LamX.TabS H' P q := tabS_keep h fun b o _ e => k b o e
theorem great_dr (ns : List Int) : Dr 0 [.lst ((greatI ns).map .int), .int 0, .int 0] := ⟨greatI ns, 0, 0, rfl, fun g hg => by
  unfold greatI at hg
  obtain ⟨i, hi, rfl⟩ := List.mem_map.mp hg
  have := of_decide_eq_true (List.mem_filter.mp hi).2
  omega, by omega, by omega, by omega⟩
theorem ok_law {P : Program} {w : World} {K : PySem.W.Frag} {mg : Str → Option Value} {base : Heap} {Tt : List (Addr × Str)} {hu : OneName Tt} {f cc PT PG A_BadQuery A_BadStore A_JoinError fB : Addr} {fd fdB : FuncData}
    (Fn : FunC K "law" "law" s_law f cc fd) (hT : (PT, ("law" : Str) ++ ".<locals>." ++ "<lambda>") ∈ Tt) (TB : LamX.TabB base mg cc PT) 
    (Bg : FnOk P w K mg base (L2.CX P w) 1 fB fdB ["script"] (spBegun K)) (mB : mg "_law_begun" = some (.ref fB)) (kB : PySem.W.keepIn K (.ref fB) = true) (bB : Binds K fdB ["script"] [])
    (cals : ∀ (a st lg lc : Addr) (ns cs : List Int), lg ≠ lc → Cals P w (Wk K Tt hu a ns st lg lc cs) mg base A_BadQuery A_BadStore A_JoinError st)
    (CAT : ∀ (A : Around) (outer : List PySem.Env) (s : Shared) (H : Hp) (E : XK) (W : Wd), Cat (cxOf (L2.CX P w) P w K mg base N_law "law" (defScope s_law) f (.ref cc) A outer s H E) W "_law_caught" A_JoinError)
    (J1 : CtE K A_JoinError A_BadStore) (J2 : CtE K A_JoinError A_BadQuery) : FnOk P w K mg base (L2.CX P w) 27 f fd ["script"] (spLaw K Tt) := by
  obtain ⟨oc, od, kV, doc, pm, an, ct, osl, rfl, lk, hcd⟩ := Fn.ex
  refine fn_of lk hcd sc_law (fun vs H Q E h => ?_) fun A outer s H vs Q E hr h => ?_
  · obtain ⟨a, ns, rfl, _⟩ := h
    rfl
  obtain ⟨a, ns, rfl, hF, few, tabs, q⟩ := h
  have rest : ∀ i : {p : (Addr × Addr × Addr) × Hp // p.1.2.1 ≠ p.1.2.2}, ∃ m : DE → M R, PSs (cxOf (L2.CX P w) P w K mg base N_law "law" (defScope s_law) f (.ref cc) A outer s H E) ((defBody s_law).drop 1) (liftS (Wk K Tt hu a ns i.1.1.1 i.1.1.2.1 i.1.1.2.2 (ns.map absI)) i.1.2 E m) ∧
      ∀ (e : DE) (γ : Gh) (PP : R → Gh → Prop) (XX : Addr → Gh → Prop), Lap a i.1.1.1 e → Dr 0 γ → (∀ γ', PP (.rt (.bl true)) γ') → (m e).run γ PP XX := fun i => by
    have c := cals a i.1.1.1 i.1.1.2.1 i.1.1.2.2 ns (ns.map absI) i.2
    exact law_rest (W := Wk K Tt hu a ns i.1.1.1 i.1.1.2.1 i.1.1.2.2 (ns.map absI)) (H0 := i.1.2) (T := c.T) (E_BadStore := c.E_BadStore) (E_BadQuery := c.E_BadQuery) (C__law_cj_query := c.C__law_cj_query) (C__law_cj_store := c.C__law_cj_store) (C__law_draw := c.C__law_draw) (C__law_pick := c.C__law_pick) (C__law_cj_answers := c.C__law_cj_answers) (C_answers := c.C_answers) (C__law_cj_bent := c.C__law_cj_bent) (C__law_cj_odd := c.C__law_cj_odd) (C__law_is_whole := c.C__law_is_whole) (C__law_is_truth := c.C__law_is_truth) (C_is_answer := c.C_is_answer) (KB_answers := c.KB_answers) (KB_is_answer := c.KB_is_answer) (tbl := ⟨hT, TB⟩) (CAT := CAT A outer s H E _) (J1 := J1) (J2 := J2) (hr := hr) (ns := ns) (GG := fun γ H g => g.2.2.1) (few := few)
  have all : ∃ t, PSs (cxOf (L2.CX P w) P w K mg base N_law "law" (defScope s_law) f (.ref cc) A outer s H E) (defBody s_law) t ∧ ∀ H1 : Hp, FzS K H1 a (ns.map V.int) → (∀ P q, (P, q) ∈ Tt → LamX.TabS H1 P q) → t { nx := fun _ H' => Q .non H', rt := Q } (L2.start N_law [.ref a]) H1 := by
    refine ⟨_, pss_cons (ps_set (i := 1) sc_law.nd rfl (by first | exact Or.inl rfl | exact Or.inr rfl) (pe_call Bg (hr.mono (by decide)) rfl mB kB bB .nil pass_cx (pa_cons (pe_var (i := 0) rfl (by first | exact Or.inl rfl | exact Or.inr (Or.inl rfl))) pa_nil))) (PSs.ex fun i => (rest i).choose_spec.1), fun H1 hF tabs => ?_⟩
    refine ⟨.ref a, rfl, a, ns, rfl, hF, few, fun st lg lc H' kH n1 n2 n3 ne g1 g2 g3 => ?_⟩
    have gl : (greatI ns).length < 2 ^ 20 := by
      unfold greatI
      rw [List.length_map]
      have := List.length_filter_le (fun i => decide (10 ^ 18 ≤ absI i)) ns
      omega
    have fz : FzS K H' a (ns.map V.int) := by
      rcases hF with ⟨o, h⟩ | h
      · exact .inl ⟨o, kH _ _ h⟩
      · exact .inr h
    have g : (Wk K Tt hu a ns st lg lc (ns.map absI)).G [.lst ((greatI ns).map .int), .int 0, .int 0] H' := ⟨⟨greatI ns, 0, 0, rfl, gl, g1, g3⟩, g2, fz, fun P q h => tabS_sub (tabs P q h) kH⟩
    have st0 : StOk (Wk K Tt hu a ns st lg lc (ns.map absI)) H' H' (L2.start N_law [.ref a]) (startE N_law [.ob (.ref a)]) := start_ok (by simp only [RepL, Rep]; exact ⟨_, _, rfl, rfl, rfl⟩) (by show 1 ≤ 11; decide)
    have st1 := st0.set (i := 1) (d := .ob (.ref st)) (x := .ref st) (by simp only [Rep])
    refine ⟨⟨((st, lg, lc), H'), ne⟩, ?_⟩
    refine ⟨_, st1, Keep.refl _, _, g, (rest ⟨((st, lg, lc), H'), ne⟩).choose_spec.2 _ _ _ _ ⟨none, none, none, none, none, none, none, none, none, rfl⟩ (great_dr ns) fun γ' => ?_⟩
    intro v H2 k2 g4 r
    simp only [Rep] at r
    subst r
    exact q H2
  obtain ⟨t, ht, main⟩ := all
  refine ⟨_, PSs.lockS ht, ?_⟩
  rcases hF with (h | ⟨o, h⟩) | h
  · refine .inr ⟨a, .lst (ns.map V.int), h, True.intro, fun o => main _ (.inl ⟨o, upd_same⟩) fun P q hq => ?_⟩
    refine tabS_keep (tabs P q hq) fun b u hb e => ?_
    rw [upd_ne (fun z => ?_)]
    · exact e
    · rw [z] at e hb
      rw [h] at e
      cases e
      rcases hb with hb | hb
      · obtain ⟨ps, hP, _⟩ := tabs P q hq
        rw [← hb, h] at hP
        cases hP
      · exact fx_lst hb
  · exact .inl (main H (.inl ⟨o, h⟩) tabs)
  · exact .inl (main H (.inr (.inr h)) tabs)
/-- a def of the text, where it stands -/
structure Df (K : PySem.W.Frag) (mg : Str → Option Value) (x : Str) (st : Stmt) where
  f : Addr
  cc : Addr
  fd : FuncData
  Fn : FunC K x x st f cc fd
  m : mg x = some (.ref f)
structure All (K : PySem.W.Frag) (mg : Str → Option Value) where
  is_number : Df K mg "is_number" s_is_number
  is_from : Df K mg "is_from" s_is_from
  is_below : Df K mg "is_below" s_is_below
  are_from : Df K mg "are_from" s_are_from
  is_pair : Df K mg "is_pair" s_is_pair
  is_ascending : Df K mg "is_ascending" s_is_ascending
  are_below : Df K mg "are_below" s_are_below
  is_query : Df K mg "is_query" s_is_query
  check_query : Df K mg "check_query" s_check_query
  is_table : Df K mg "is_table" s_is_table
  is_store : Df K mg "is_store" s_is_store
  check_store : Df K mg "check_store" s_check_store
  _law_blended : Df K mg "_law_blended" s__law_blended
  _law_draw : Df K mg "_law_draw" s__law_draw
  _law_pick : Df K mg "_law_pick" s__law_pick
  _law_mixed : Df K mg "_law_mixed" s__law_mixed
  _law_cj_some : Df K mg "_law_cj_some" s__law_cj_some
  _law_cj_query : Df K mg "_law_cj_query" s__law_cj_query
  _law_cj_store : Df K mg "_law_cj_store" s__law_cj_store
  _law_is_whole : Df K mg "_law_is_whole" s__law_is_whole
  _law_cj_odd : Df K mg "_law_cj_odd" s__law_cj_odd
  _law_is_truth : Df K mg "_law_is_truth" s__law_is_truth
  _without : Df K mg "_without" s__without
  _meets : Df K mg "_meets" s__meets
  _lots : Df K mg "_lots" s__lots
  _grouped : Df K mg "_grouped" s__grouped
  _shared : Df K mg "_shared" s__shared
  _thinnest : Df K mg "_thinnest" s__thinnest
  _ways : Df K mg "_ways" s__ways
  answers : Df K mg "answers" s_answers
  _law_cj_answers : Df K mg "_law_cj_answers" s__law_cj_answers
  _part : Df K mg "_part" s__part
  is_answer : Df K mg "is_answer" s_is_answer
  _law_cj_bent : Df K mg "_law_cj_bent" s__law_cj_bent
  _has_way : Df K mg "_has_way" s__has_way
  _ways_of_lot : Df K mg "_ways_of_lot" s__ways_of_lot
  P_are_from : Addr
  P_is_ascending : Addr
  P_are_below : Addr
  P_is_query : Addr
  P_is_table : Addr
  P_is_store : Addr
  P__meets : Addr
  P__ways : Addr
  P_is_answer : Addr
  P__has_way : Addr
section
variable {P : Program} {w : World} {W : Wd} {mg : Str → Option Value} {base : Heap} {st lg lc : Addr} {cs : List Int} {A_BadQuery A_BadStore A_JoinError : Addr}
  (T : Txt W mg)
  (All_ : All W.K mg)
  (tb_are_from : W.Tb All_.P_are_from (("are_from" : Str) ++ ".<locals>." ++ "<genexpr>") ∧ GxR.TabB base mg All_.are_from.cc All_.P_are_from)
  (tb_is_ascending : W.Tb All_.P_is_ascending (("is_ascending" : Str) ++ ".<locals>." ++ "<genexpr>") ∧ GxR.TabB base mg All_.is_ascending.cc All_.P_is_ascending)
  (tb_are_below : W.Tb All_.P_are_below (("are_below" : Str) ++ ".<locals>." ++ "<genexpr>") ∧ GxR.TabB base mg All_.are_below.cc All_.P_are_below)
  (tb_is_query : W.Tb All_.P_is_query (("is_query" : Str) ++ ".<locals>." ++ "<genexpr>") ∧ GxR.TabB base mg All_.is_query.cc All_.P_is_query)
  (tb_is_table : W.Tb All_.P_is_table (("is_table" : Str) ++ ".<locals>." ++ "<genexpr>") ∧ GxR.TabB base mg All_.is_table.cc All_.P_is_table)
  (tb_is_store : W.Tb All_.P_is_store (("is_store" : Str) ++ ".<locals>." ++ "<genexpr>") ∧ GxR.TabB base mg All_.is_store.cc All_.P_is_store)
  (tb__meets : W.Tb All_.P__meets (("_meets" : Str) ++ ".<locals>." ++ "<genexpr>") ∧ GxR.TabB base mg All_._meets.cc All_.P__meets)
  (tb__ways : W.Tb All_.P__ways (("_ways" : Str) ++ ".<locals>." ++ "<genexpr>") ∧ GxR.TabB base mg All_._ways.cc All_.P__ways)
  (tb_is_answer : W.Tb All_.P_is_answer (("is_answer" : Str) ++ ".<locals>." ++ "<genexpr>") ∧ GxR.TabB base mg All_.is_answer.cc All_.P_is_answer)
  (tb__has_way : W.Tb All_.P__has_way (("_has_way" : Str) ++ ".<locals>." ++ "<genexpr>") ∧ GxR.TabB base mg All_._has_way.cc All_.P__has_way)
  (F_great : FldL W st lg "great" 0)
  (F_left : FldI W st "left" 1)
  (F_turn : FldI W st "turn" 2)
  (F_cells : FldC W st lc "cells" (cs.map .int))
  (B_dict : mg "dict" = none)
  (E_BadQuery : Exn W mg "BadQuery" A_BadQuery)
  (E_BadStore : Exn W mg "BadStore" A_BadStore)
def c_is_number : Cal P w W mg base "is_number" 1 1 (F_is_number) := ⟨All_.is_number.f, All_.is_number.fd, ["value"], ok_is_number (T := T) (Fn := All_.is_number.Fn), All_.is_number.m, All_.is_number.Fn.kp, All_.is_number.Fn.binds fun _ _ _ _ _ _ us hl => match us, hl with | [_], _ => rfl⟩
def c_is_from : Cal P w W mg base "is_from" 2 2 (F_is_from) := ⟨All_.is_from.f, All_.is_from.fd, ["value", "low"], ok_is_from (T := T) (C_is_number := (c_is_number (T := T) (All_ := All_))) (Fn := All_.is_from.Fn), All_.is_from.m, All_.is_from.Fn.kp, All_.is_from.Fn.binds fun _ _ _ _ _ _ us hl => match us, hl with | [_, _], _ => rfl⟩
def c_is_below : Cal P w W mg base "is_below" 2 2 (F_is_below) := ⟨All_.is_below.f, All_.is_below.fd, ["value", "many"], ok_is_below (T := T) (C_is_number := (c_is_number (T := T) (All_ := All_))) (Fn := All_.is_below.Fn), All_.is_below.m, All_.is_below.Fn.kp, All_.is_below.Fn.binds fun _ _ _ _ _ _ us hl => match us, hl with | [_, _], _ => rfl⟩
def c_are_from : Cal P w W mg base "are_from" 4 3 (F_are_from) := ⟨All_.are_from.f, All_.are_from.fd, ["value", "many", "low"], ok_are_from (T := T) (tb := tb_are_from) (C_is_from := (c_is_from (T := T) (All_ := All_))) (Fn := All_.are_from.Fn), All_.are_from.m, All_.are_from.Fn.kp, All_.are_from.Fn.binds fun _ _ _ _ _ _ us hl => match us, hl with | [_, _, _], _ => rfl⟩
def c_is_pair : Cal P w W mg base "is_pair" 1 1 (F_is_pair) := ⟨All_.is_pair.f, All_.is_pair.fd, ["value"], ok_is_pair (T := T) (Fn := All_.is_pair.Fn), All_.is_pair.m, All_.is_pair.Fn.kp, All_.is_pair.Fn.binds fun _ _ _ _ _ _ us hl => match us, hl with | [_], _ => rfl⟩
def c_is_ascending : Cal P w W mg base "is_ascending" 3 1 (F_is_ascending) := ⟨All_.is_ascending.f, All_.is_ascending.fd, ["items"], ok_is_ascending (T := T) (tb := tb_is_ascending) (Fn := All_.is_ascending.Fn), All_.is_ascending.m, All_.is_ascending.Fn.kp, All_.is_ascending.Fn.binds fun _ _ _ _ _ _ us hl => match us, hl with | [_], _ => rfl⟩
def c_are_below : Cal P w W mg base "are_below" 4 2 (F_are_below) := ⟨All_.are_below.f, All_.are_below.fd, ["value", "many"], ok_are_below (T := T) (tb := tb_are_below) (C_is_below := (c_is_below (T := T) (All_ := All_))) (C_is_ascending := (c_is_ascending (T := T) (All_ := All_) (tb_is_ascending := tb_is_ascending))) (Fn := All_.are_below.Fn), All_.are_below.m, All_.are_below.Fn.kp, All_.are_below.Fn.binds fun _ _ _ _ _ _ us hl => match us, hl with | [_, _], _ => rfl⟩
def c_is_query : Cal P w W mg base "is_query" 6 1 (F_is_query) := ⟨All_.is_query.f, All_.is_query.fd, ["value"], ok_is_query (T := T) (tb := tb_is_query) (C_is_pair := (c_is_pair (T := T) (All_ := All_))) (C_is_number := (c_is_number (T := T) (All_ := All_))) (C_are_below := (c_are_below (T := T) (All_ := All_) (tb_is_ascending := tb_is_ascending) (tb_are_below := tb_are_below))) (Fn := All_.is_query.Fn), All_.is_query.m, All_.is_query.Fn.kp, All_.is_query.Fn.binds fun _ _ _ _ _ _ us hl => match us, hl with | [_], _ => rfl⟩
def c_check_query : Cal P w W mg base "check_query" 7 1 ((F_check_query A_BadQuery)) := ⟨All_.check_query.f, All_.check_query.fd, ["query"], ok_check_query (T := T) (C_is_query := (c_is_query (T := T) (All_ := All_) (tb_is_ascending := tb_is_ascending) (tb_are_below := tb_are_below) (tb_is_query := tb_is_query))) (E_BadQuery := E_BadQuery) (Fn := All_.check_query.Fn), All_.check_query.m, All_.check_query.Fn.kp, All_.check_query.Fn.binds fun _ _ _ _ _ _ us hl => match us, hl with | [_], _ => rfl⟩
def c_is_table : Cal P w W mg base "is_table" 6 2 (F_is_table) := ⟨All_.is_table.f, All_.is_table.fd, ["width", "value"], ok_is_table (T := T) (tb := tb_is_table) (C_are_from := (c_are_from (T := T) (All_ := All_) (tb_are_from := tb_are_from))) (C_is_ascending := (c_is_ascending (T := T) (All_ := All_) (tb_is_ascending := tb_is_ascending))) (Fn := All_.is_table.Fn), All_.is_table.m, All_.is_table.Fn.kp, All_.is_table.Fn.binds fun _ _ _ _ _ _ us hl => match us, hl with | [_, _], _ => rfl⟩
def c_is_store : Cal P w W mg base "is_store" 8 2 ((F_is_store A_BadQuery)) := ⟨All_.is_store.f, All_.is_store.fd, ["query", "value"], ok_is_store (T := T) (tb := tb_is_store) (C_check_query := (c_check_query (T := T) (All_ := All_) (tb_is_ascending := tb_is_ascending) (tb_are_below := tb_are_below) (tb_is_query := tb_is_query) (E_BadQuery := E_BadQuery))) (C_is_table := (c_is_table (T := T) (All_ := All_) (tb_are_from := tb_are_from) (tb_is_ascending := tb_is_ascending) (tb_is_table := tb_is_table))) (Fn := All_.is_store.Fn), All_.is_store.m, All_.is_store.Fn.kp, All_.is_store.Fn.binds fun _ _ _ _ _ _ us hl => match us, hl with | [_, _], _ => rfl⟩
def c_check_store : Cal P w W mg base "check_store" 9 2 ((F_check_store A_BadQuery A_BadStore)) := ⟨All_.check_store.f, All_.check_store.fd, ["query", "store"], ok_check_store (T := T) (C_is_store := (c_is_store (T := T) (All_ := All_) (tb_are_from := tb_are_from) (tb_is_ascending := tb_is_ascending) (tb_are_below := tb_are_below) (tb_is_query := tb_is_query) (tb_is_table := tb_is_table) (tb_is_store := tb_is_store) (E_BadQuery := E_BadQuery))) (E_BadStore := E_BadStore) (Fn := All_.check_store.Fn), All_.check_store.m, All_.check_store.Fn.kp, All_.check_store.Fn.binds fun _ _ _ _ _ _ us hl => match us, hl with | [_, _], _ => rfl⟩
def c__law_blended : Cal P w W mg base "_law_blended" 1 1 ((F_blended st)) := ⟨All_._law_blended.f, All_._law_blended.fd, ["state"], ok__law_blended (T := T) (F_great := F_great) (F_left := F_left) (F_turn := F_turn) (F_cells := F_cells) (Fn := All_._law_blended.Fn), All_._law_blended.m, All_._law_blended.Fn.kp, All_._law_blended.Fn.binds fun _ _ _ _ _ _ us hl => match us, hl with | [_], _ => rfl⟩
def c__law_draw : Cal P w W mg base "_law_draw" 2 2 ((F_draw st)) := ⟨All_._law_draw.f, All_._law_draw.fd, ["state", "size_here"], ok__law_draw (T := T) (C__law_blended := (c__law_blended (T := T) (All_ := All_) (F_great := F_great) (F_left := F_left) (F_turn := F_turn) (F_cells := F_cells))) (F_great := F_great) (F_left := F_left) (F_turn := F_turn) (F_cells := F_cells) (Fn := All_._law_draw.Fn), All_._law_draw.m, All_._law_draw.Fn.kp, All_._law_draw.Fn.binds fun _ _ _ _ _ _ us hl => match us, hl with | [_, _], _ => rfl⟩
def c__law_pick : Cal P w W mg base "_law_pick" 3 2 ((F_pick st)) := ⟨All_._law_pick.f, All_._law_pick.fd, ["state", "several"], ok__law_pick (T := T) (C__law_draw := (c__law_draw (T := T) (All_ := All_) (F_great := F_great) (F_left := F_left) (F_turn := F_turn) (F_cells := F_cells))) (Fn := All_._law_pick.Fn), All_._law_pick.m, All_._law_pick.Fn.kp, All_._law_pick.Fn.binds fun _ _ _ _ _ _ us hl => match us, hl with | [_, _], _ => rfl⟩
def c__law_mixed : Cal P w W mg base "_law_mixed" 3 2 ((F_mixed st)) := ⟨All_._law_mixed.f, All_._law_mixed.fd, ["state", "several"], ok__law_mixed (T := T) (C__law_draw := (c__law_draw (T := T) (All_ := All_) (F_great := F_great) (F_left := F_left) (F_turn := F_turn) (F_cells := F_cells))) (Fn := All_._law_mixed.Fn), All_._law_mixed.m, All_._law_mixed.Fn.kp, All_._law_mixed.Fn.binds fun _ _ _ _ _ _ us hl => match us, hl with | [_, _], _ => rfl⟩
def c__law_cj_some : Cal P w W mg base "_law_cj_some" 4 2 ((F_some st)) := ⟨All_._law_cj_some.f, All_._law_cj_some.fd, ["state", "many"], ok__law_cj_some (T := T) (C__law_draw := (c__law_draw (T := T) (All_ := All_) (F_great := F_great) (F_left := F_left) (F_turn := F_turn) (F_cells := F_cells))) (C__law_mixed := (c__law_mixed (T := T) (All_ := All_) (F_great := F_great) (F_left := F_left) (F_turn := F_turn) (F_cells := F_cells))) (Fn := All_._law_cj_some.Fn), All_._law_cj_some.m, All_._law_cj_some.Fn.kp, All_._law_cj_some.Fn.binds fun _ _ _ _ _ _ us hl => match us, hl with | [_, _], _ => rfl⟩
def c__law_cj_query : Cal P w W mg base "_law_cj_query" 5 1 ((F_query st)) := ⟨All_._law_cj_query.f, All_._law_cj_query.fd, ["state"], ok__law_cj_query (T := T) (C__law_draw := (c__law_draw (T := T) (All_ := All_) (F_great := F_great) (F_left := F_left) (F_turn := F_turn) (F_cells := F_cells))) (C__law_pick := (c__law_pick (T := T) (All_ := All_) (F_great := F_great) (F_left := F_left) (F_turn := F_turn) (F_cells := F_cells))) (C__law_cj_some := (c__law_cj_some (T := T) (All_ := All_) (F_great := F_great) (F_left := F_left) (F_turn := F_turn) (F_cells := F_cells))) (Fn := All_._law_cj_query.Fn), All_._law_cj_query.m, All_._law_cj_query.Fn.kp, All_._law_cj_query.Fn.binds fun _ _ _ _ _ _ us hl => match us, hl with | [_], _ => rfl⟩
def c__law_cj_store : Cal P w W mg base "_law_cj_store" 4 4 ((F_store st)) := ⟨All_._law_cj_store.f, All_._law_cj_store.fd, ["state", "query_here", "most", "top"], ok__law_cj_store (T := T) (C__law_draw := (c__law_draw (T := T) (All_ := All_) (F_great := F_great) (F_left := F_left) (F_turn := F_turn) (F_cells := F_cells))) (C__law_pick := (c__law_pick (T := T) (All_ := All_) (F_great := F_great) (F_left := F_left) (F_turn := F_turn) (F_cells := F_cells))) (Fn := All_._law_cj_store.Fn), All_._law_cj_store.m, All_._law_cj_store.Fn.kp, All_._law_cj_store.Fn.binds fun _ _ _ _ _ _ us hl => match us, hl with | [_, _, _, _], _ => rfl⟩
def c__law_is_whole : Cal P w W mg base "_law_is_whole" 1 1 (F_whole) := ⟨All_._law_is_whole.f, All_._law_is_whole.fd, ["item"], ok__law_is_whole (T := T) (Fn := All_._law_is_whole.Fn), All_._law_is_whole.m, All_._law_is_whole.Fn.kp, All_._law_is_whole.Fn.binds fun _ _ _ _ _ _ us hl => match us, hl with | [_], _ => rfl⟩
def c__law_cj_odd : Cal P w W mg base "_law_cj_odd" 4 1 ((F_odd st)) := ⟨All_._law_cj_odd.f, All_._law_cj_odd.fd, ["state"], ok__law_cj_odd (T := T) (C__law_pick := (c__law_pick (T := T) (All_ := All_) (F_great := F_great) (F_left := F_left) (F_turn := F_turn) (F_cells := F_cells))) (Fn := All_._law_cj_odd.Fn), All_._law_cj_odd.m, All_._law_cj_odd.Fn.kp, All_._law_cj_odd.Fn.binds fun _ _ _ _ _ _ us hl => match us, hl with | [_], _ => rfl⟩
def c__law_is_truth : Cal P w W mg base "_law_is_truth" 1 2 (F_truth) := ⟨All_._law_is_truth.f, All_._law_is_truth.fd, ["found", "due"], ok__law_is_truth (T := T) (Fn := All_._law_is_truth.Fn), All_._law_is_truth.m, All_._law_is_truth.Fn.kp, All_._law_is_truth.Fn.binds fun _ _ _ _ _ _ us hl => match us, hl with | [_, _], _ => rfl⟩
def c__without : Cal P w W mg base "_without" 1 2 (F_without) := ⟨All_._without.f, All_._without.fd, ["attributes", "attribute"], ok__without (T := T) (Fn := All_._without.Fn), All_._without.m, All_._without.Fn.kp, All_._without.Fn.binds fun _ _ _ _ _ _ us hl => match us, hl with | [_, _], _ => rfl⟩
def c__meets : Cal P w W mg base "_meets" 2 2 (F_meets) := ⟨All_._meets.f, All_._meets.fd, ["lot", "attributes"], ok__meets (T := T) (tb := tb__meets) (Fn := All_._meets.Fn), All_._meets.m, All_._meets.Fn.kp, All_._meets.Fn.binds fun _ _ _ _ _ _ us hl => match us, hl with | [_, _], _ => rfl⟩
def c__lots : Cal P w W mg base "_lots" 3 1 (F_lots) := ⟨All_._lots.f, All_._lots.fd, ["parts"], ok__lots (T := T) (C__meets := (c__meets (T := T) (All_ := All_) (tb__meets := tb__meets))) (Fn := All_._lots.Fn), All_._lots.m, All_._lots.Fn.kp, All_._lots.Fn.binds fun _ _ _ _ _ _ us hl => match us, hl with | [_], _ => rfl⟩
def c__grouped : Cal P w W mg base "_grouped" 1 2 (F_grouped) := ⟨All_._grouped.f, All_._grouped.fd, ["part", "attribute"], ok__grouped (T := T) (Fn := All_._grouped.Fn), All_._grouped.m, All_._grouped.Fn.kp, All_._grouped.Fn.binds fun _ _ _ _ _ _ us hl => match us, hl with | [_, _], _ => rfl⟩
def c__shared : Cal P w W mg base "_shared" 1 1 (F_shared) := ⟨All_._shared.f, All_._shared.fd, ["groups"], ok__shared (T := T) (Fn := All_._shared.Fn), All_._shared.m, All_._shared.Fn.kp, All_._shared.Fn.binds fun _ _ _ _ _ _ us hl => match us, hl with | [_], _ => rfl⟩
def c__thinnest : Cal P w W mg base "_thinnest" 3 1 (F_thinnest) := ⟨All_._thinnest.f, All_._thinnest.fd, ["lot"], ok__thinnest (T := T) (C__grouped := (c__grouped (T := T) (All_ := All_))) (C__shared := (c__shared (T := T) (All_ := All_))) (C__without := (c__without (T := T) (All_ := All_))) (Fn := All_._thinnest.Fn), All_._thinnest.m, All_._thinnest.Fn.kp, All_._thinnest.Fn.binds fun _ _ _ _ _ _ us hl => match us, hl with | [_], _ => rfl⟩
def c__ways : Cal P w W mg base "_ways" 24 1 ((F_ways 8)) := ⟨All_._ways.f, All_._ways.fd, ["parts"], ok__ways (T := T) (tb := tb__ways) (tbH := tb__has_way) (C__thinnest := (c__thinnest (T := T) (All_ := All_))) (C__lots := (c__lots (T := T) (All_ := All_) (tb__meets := tb__meets))) (Fn1 := All_._has_way.Fn) (Fn2 := All_._ways_of_lot.Fn) (m1 := All_._has_way.m) (m2 := All_._ways_of_lot.m) (m3 := All_._ways.m) (Fn := All_._ways.Fn), All_._ways.m, All_._ways.Fn.kp, All_._ways.Fn.binds fun _ _ _ _ _ _ us hl => match us, hl with | [_], _ => rfl⟩
def c_answers : Cal P w W mg base "answers" 25 2 ((F_answers A_BadQuery A_BadStore)) := ⟨All_.answers.f, All_.answers.fd, ["query", "store"], ok_answers (T := T) (C_check_store := (c_check_store (T := T) (All_ := All_) (tb_are_from := tb_are_from) (tb_is_ascending := tb_is_ascending) (tb_are_below := tb_are_below) (tb_is_query := tb_is_query) (tb_is_table := tb_is_table) (tb_is_store := tb_is_store) (E_BadQuery := E_BadQuery) (E_BadStore := E_BadStore))) (C__ways := (c__ways (T := T) (All_ := All_) (tb__meets := tb__meets) (tb__ways := tb__ways) (tb__has_way := tb__has_way))) (Fn := All_.answers.Fn), All_.answers.m, All_.answers.Fn.kp, All_.answers.Fn.binds fun _ _ _ _ _ _ us hl => match us, hl with | [_, _], _ => rfl⟩
def c__law_cj_answers : Cal P w W mg base "_law_cj_answers" 2 2 (F_cja) := ⟨All_._law_cj_answers.f, All_._law_cj_answers.fd, ["query_here", "store_here"], ok__law_cj_answers (T := T) (B_dict := B_dict) (Fn := All_._law_cj_answers.Fn), All_._law_cj_answers.m, All_._law_cj_answers.Fn.kp, All_._law_cj_answers.Fn.binds fun _ _ _ _ _ _ us hl => match us, hl with | [_, _], _ => rfl⟩
def c__part : Cal P w W mg base "_part" 1 2 (F_partR) := ⟨All_._part.f, All_._part.fd, ["answer", "atom"], ok__part (T := T) (Fn := All_._part.Fn), All_._part.m, All_._part.Fn.kp, All_._part.Fn.binds fun _ _ _ _ _ _ us hl => match us, hl with | [_, _], _ => rfl⟩
def c_is_answer : Cal P w W mg base "is_answer" 11 3 ((F_isans A_BadQuery A_BadStore)) := ⟨All_.is_answer.f, All_.is_answer.fd, ["query", "store", "value"], ok_is_answer (T := T) (tb := tb_is_answer) (C_check_store := (c_check_store (T := T) (All_ := All_) (tb_are_from := tb_are_from) (tb_is_ascending := tb_is_ascending) (tb_are_below := tb_are_below) (tb_is_query := tb_is_query) (tb_is_table := tb_is_table) (tb_is_store := tb_is_store) (E_BadQuery := E_BadQuery) (E_BadStore := E_BadStore))) (C_are_from := (c_are_from (T := T) (All_ := All_) (tb_are_from := tb_are_from))) (C__part := (c__part (T := T) (All_ := All_))) (Fn := All_.is_answer.Fn), All_.is_answer.m, All_.is_answer.Fn.kp, All_.is_answer.Fn.binds fun _ _ _ _ _ _ us hl => match us, hl with | [_, _, _], _ => rfl⟩
def c__law_cj_bent : Cal P w W mg base "_law_cj_bent" 8 2 (F_bent st 2) := ⟨All_._law_cj_bent.f, All_._law_cj_bent.fd, ["state", "item"], ok__law_cj_bent (T := T) (c__law_draw (T := T) (All_ := All_) (F_great := F_great) (F_left := F_left) (F_turn := F_turn) (F_cells := F_cells)) (c__law_pick (T := T) (All_ := All_) (F_great := F_great) (F_left := F_left) (F_turn := F_turn) (F_cells := F_cells)) (c__law_cj_odd (T := T) (All_ := All_) (F_great := F_great) (F_left := F_left) (F_turn := F_turn) (F_cells := F_cells)) (c__law_is_whole (T := T) (All_ := All_)) All_._law_cj_bent.Fn All_._law_cj_bent.m 2, All_._law_cj_bent.m, All_._law_cj_bent.Fn.kp, All_._law_cj_bent.Fn.binds fun _ _ _ _ _ _ us hl => match us, hl with | [_, _], _ => rfl⟩
def cals_of : Cals P w W mg base A_BadQuery A_BadStore A_JoinError st where
  T := T
  E_BadStore := E_BadStore
  E_BadQuery := E_BadQuery
  C__law_cj_query := (c__law_cj_query (T := T) (All_ := All_) (F_great := F_great) (F_left := F_left) (F_turn := F_turn) (F_cells := F_cells))
  C__law_cj_store := (c__law_cj_store (T := T) (All_ := All_) (F_great := F_great) (F_left := F_left) (F_turn := F_turn) (F_cells := F_cells))
  C__law_draw := (c__law_draw (T := T) (All_ := All_) (F_great := F_great) (F_left := F_left) (F_turn := F_turn) (F_cells := F_cells))
  C__law_pick := (c__law_pick (T := T) (All_ := All_) (F_great := F_great) (F_left := F_left) (F_turn := F_turn) (F_cells := F_cells))
  C__law_cj_answers := (c__law_cj_answers (T := T) (All_ := All_) (B_dict := B_dict))
  C_answers := (c_answers (T := T) (All_ := All_) (tb_are_from := tb_are_from) (tb_is_ascending := tb_is_ascending) (tb_are_below := tb_are_below) (tb_is_query := tb_is_query) (tb_is_table := tb_is_table) (tb_is_store := tb_is_store) (tb__meets := tb__meets) (tb__ways := tb__ways) (tb__has_way := tb__has_way) (E_BadQuery := E_BadQuery) (E_BadStore := E_BadStore))
  C__law_cj_bent := c__law_cj_bent (T := T) (All_ := All_) (F_great := F_great) (F_left := F_left) (F_turn := F_turn) (F_cells := F_cells)
  C__law_cj_odd := (c__law_cj_odd (T := T) (All_ := All_) (F_great := F_great) (F_left := F_left) (F_turn := F_turn) (F_cells := F_cells))
  C__law_is_whole := (c__law_is_whole (T := T) (All_ := All_))
  C__law_is_truth := (c__law_is_truth (T := T) (All_ := All_))
  C_is_answer := (c_is_answer (T := T) (All_ := All_) (tb_are_from := tb_are_from) (tb_is_ascending := tb_is_ascending) (tb_are_below := tb_are_below) (tb_is_query := tb_is_query) (tb_is_table := tb_is_table) (tb_is_store := tb_is_store) (tb_is_answer := tb_is_answer) (E_BadQuery := E_BadQuery) (E_BadStore := E_BadStore))
  KB_answers := All_.answers.Fn.kb fun kV doc pm an cv ct us ws l1 l2 => match us, ws, l1, l2 with | [], [_, _], _, _ => rfl
  KB_is_answer := All_.is_answer.Fn.kb fun kV doc pm an cv ct us ws l1 l2 => match us, ws, l1, l2 with | [_, _], [_], _, _ => rfl
end
end Ck

set_option maxRecDepth 100000
set_option maxHeartbeats 8000000
namespace Ck
open PySem PySem.Spec PyProof.Rows L2 Dl

abbrev s__law_caught : Stmt := top 37
theorem sc__law_caught : FnScope ["work", "caught", "error"] ["work"] (defScope s__law_caught) := ⟨rfl, rfl, rfl, by decide +kernel, rfl, by decide +kernel, by decide +kernel⟩
def mkD (x : Str) (st : Stmt) : He.DefD := ⟨(x, none), x, x, defArgs st, defBody st, defScope st, [], []⟩
def fnL : List He.DefD := [mkD "is_number" s_is_number, mkD "is_from" s_is_from, mkD "is_below" s_is_below, mkD "are_from" s_are_from, mkD "is_pair" s_is_pair, mkD "is_ascending" s_is_ascending, mkD "are_below" s_are_below, mkD "is_query" s_is_query, mkD "check_query" s_check_query, mkD "is_table" s_is_table, mkD "is_store" s_is_store, mkD "check_store" s_check_store, mkD "_law_blended" s__law_blended, mkD "_law_draw" s__law_draw, mkD "_law_pick" s__law_pick, mkD "_law_mixed" s__law_mixed, mkD "_law_cj_some" s__law_cj_some, mkD "_law_cj_query" s__law_cj_query, mkD "_law_cj_store" s__law_cj_store, mkD "_law_is_whole" s__law_is_whole, mkD "_law_cj_odd" s__law_cj_odd, mkD "_law_is_truth" s__law_is_truth, mkD "_without" s__without, mkD "_meets" s__meets, mkD "_lots" s__lots, mkD "_grouped" s__grouped, mkD "_shared" s__shared, mkD "_thinnest" s__thinnest, mkD "_ways" s__ways, mkD "answers" s_answers, mkD "_law_cj_answers" s__law_cj_answers, mkD "_part" s__part, mkD "is_answer" s_is_answer, mkD "_law_cj_bent" s__law_cj_bent, mkD "_has_way" s__has_way, mkD "_ways_of_lot" s__ways_of_lot, mkD "law" s_law, mkD "_law_begun" s__law_begun, mkD "_law_caught" s__law_caught]
def faL : List He.Fa := [.glo "is_number", .glo "is_from", .glo "is_below", .glo "are_from", .glo "is_pair", .glo "is_ascending", .glo "are_below", .glo "is_query", .glo "check_query", .glo "is_table", .glo "is_store", .glo "check_store", .glo "_law_blended", .glo "_law_draw", .glo "_law_pick", .glo "_law_mixed", .glo "_law_cj_some", .glo "_law_cj_query", .glo "_law_cj_store", .glo "_law_is_whole", .glo "_law_cj_odd", .glo "_law_is_truth", .glo "_without", .glo "_meets", .glo "_lots", .glo "_grouped", .glo "_shared", .glo "_thinnest", .glo "_ways", .glo "answers", .glo "_law_cj_answers", .glo "_part", .glo "is_answer", .glo "_law_cj_bent", .glo "_has_way", .glo "_ways_of_lot", .glo "law", .glo "_law_begun", .glo "_law_caught", .free "isinstance", .free "int", .free "bool", .free "tuple", .free "len", .free "all", .free "range", .free "sorted", .free "list", .free "any", .free "min", .free "abs", .free "set", .free "zip", .free "dict", .int "LIMIT" (10 ^ 18), .glo "BadQuery", .glo "BadStore", .glo "JoinError", .exc "BadQuery", .exc "BadStore", .exm "BadStore" "JoinError" true, .exm "BadQuery" "JoinError" true]
def tfL : List He.Defn := [("are_from", none), ("is_ascending", none), ("are_below", none), ("is_query", none), ("is_table", none), ("is_store", none), ("_meets", none), ("_ways", none), ("is_answer", none), ("_has_way", none), ("law", none)]
def excB (K : PySem.W.Frag) (D : Addr) : Bool := He.eqO (PySem.W.findIn K (.ref D) "__getattribute__") (some (some (.builtin "BaseException.__getattribute__"))) && (He.eqO (PySem.W.findIn K (.ref D) "__getattr__") (some none) && (decide (PySem.W.subIn K (.ref D) (.type "BaseException") = some true) && (PySem.W.hasDictIn K D &&
  (He.eqO (PySem.W.findIn K (.ref D) "__class__") (some (some (.builtin "object.__class__"))) && (He.eqO (PySem.W.specialIn K (.builtin "object.__class__") "__get__") (some (some (.builtin "getset_descriptor.__get__"))) && (decide (PySem.W.takesIn K (.builtin "object.__class__") = some true) && decide (PySem.W.mroIn K D (.type "object") = some true)))))))
theorem excB_ok {K : PySem.W.Frag} {D : Addr} (h : excB K D = true) : ExcC K D := by
  obtain ⟨h1, h⟩ := He.ba h
  obtain ⟨h2, h⟩ := He.ba h
  obtain ⟨h3, h⟩ := He.ba h
  obtain ⟨h4, h⟩ := He.ba h
  obtain ⟨h5, h⟩ := He.ba h
  obtain ⟨h6, h⟩ := He.ba h
  obtain ⟨h7, h8⟩ := He.ba h
  exact ⟨He.eqO_ok h1, He.eqO_ok h2, of_decide_eq_true h3, h4, He.eqO_ok h5, He.eqO_ok h6, of_decide_eq_true h7, of_decide_eq_true h8⟩
def apartB : List Addr → Bool
  | [] => true
  | x :: xs => (xs.all fun y => !Nat.beq x y) && apartB xs
theorem apart_ok : ∀ {l : List (Addr × Str)}, apartB (l.map (·.1)) = true → OneName l
  | [], _, P, q, q', h, _ => nomatch h
  | (a, s) :: l, hh, P, q, q', h, h' => by
    obtain ⟨h1, h2⟩ := He.ba (show ((l.map (·.1)).all (fun y => !Nat.beq a y) && apartB (l.map (·.1))) = true from hh)
    have no : ∀ r, (a, r) ∉ l := fun r hr => by
      have := List.all_eq_true.mp h1 a (List.mem_map_of_mem (f := fun p : Addr × Str => p.1) hr)
      rw [Nat.beq_refl] at this
      cases this
    rcases List.mem_cons.mp h with e | e
    · rcases List.mem_cons.mp h' with e' | e'
      · cases e
        cases e'
        rfl
      · cases e
        exact absurd e' (no _)
    · rcases List.mem_cons.mp h' with e' | e'
      · cases e'
        exact absurd e (no _)
      · exact apart_ok h2 P q q' e e'
theorem funC_of {K : PySem.W.Frag} {x : Str} {st : Stmt} {f : Addr} {fd : FuncData} (F : FunD K x x (defArgs st) (defBody st) (defScope st) [] [] f fd) (hf : f = He.fAd K (x, none)) : FunC K x x st f (He.codeOf K (x, none)) fd := by
  obtain ⟨oc, od, dV, kV, doc, pm, an, cdv, ct, osl, e, lk, hcd, hD, hK⟩ := F.ex
  obtain ⟨c, rfl⟩ := He.codeIn_ref hcd
  have hd : dV = .none := by
    rcases hD with ⟨_, h⟩ | ⟨h, _⟩
    · exact h
    · exact absurd rfl h
  subst hd
  have ec : He.codeOf K (x, none) = c := He.codeOf_eq (by rw [← hf]; exact lk) (by rw [e])
  rw [ec]
  exact ⟨⟨oc, od, kV, doc, pm, an, ct, osl, e, lk, hcd⟩, F.kp⟩
theorem ne_of {K : PySem.W.Frag} {x y : Str} {s1 s2 : Stmt} {f f' c c' : Addr} {fd fd' : FuncData} (F : FunC K x x s1 f c fd) (G : FunC K y y s2 f' c' fd') (h : x ≠ y) : f ≠ f' := by
  rintro rfl
  obtain ⟨_, _, _, _, _, _, _, _, e1, l1, _⟩ := F.ex
  obtain ⟨_, _, _, _, _, _, _, _, e2, l2, _⟩ := G.ex
  rw [l1] at l2
  have e := Option.some.inj l2
  injection e with _ _ e3 _
  injection e3 with e4
  rw [e1, e2] at e4
  exact h (congrArg FuncData.name e4)

def exL (K : PySem.W.Frag) : Bool := excB K (He.ga K "BadStore") && (decide (PySem.W.kitOne K (.ref (He.ga K "BadStore")) (.ref (He.ga K "BadStore")) = some true) && (excB K (He.ga K "BadQuery") && (decide (PySem.W.kitOne K (.ref (He.ga K "BadQuery")) (.ref (He.ga K "BadQuery")) = some true) && (apartB (tfL.map fun p => (He.cT K p).2)))))
section
variable {w : World} {K : PySem.W.Frag} {h : Heap} {mg : Str → Option Value}
noncomputable def df_of (X : K.In h) (G : h.Ns mainGlobals mg) {x : Str} {st : Stmt} (e : ∃ fd, FunD K x x (defArgs st) (defBody st) (defScope st) [] [] (He.fAd K (x, none)) fd) (g : (He.Fa.glo x).ok K = true) : Df K mg x st :=
  ⟨He.fAd K (x, none), He.codeOf K (x, none), e.choose, funC_of e.choose_spec rfl, He.glo_ok X G g⟩
def TtL (K : PySem.W.Frag) : List (Addr × Str) := [((He.cT K ("are_from", none)).2, ("are_from" : Str) ++ ".<locals>." ++ "<genexpr>"), ((He.cT K ("is_ascending", none)).2, ("is_ascending" : Str) ++ ".<locals>." ++ "<genexpr>"), ((He.cT K ("are_below", none)).2, ("are_below" : Str) ++ ".<locals>." ++ "<genexpr>"), ((He.cT K ("is_query", none)).2, ("is_query" : Str) ++ ".<locals>." ++ "<genexpr>"), ((He.cT K ("is_table", none)).2, ("is_table" : Str) ++ ".<locals>." ++ "<genexpr>"), ((He.cT K ("is_store", none)).2, ("is_store" : Str) ++ ".<locals>." ++ "<genexpr>"), ((He.cT K ("_meets", none)).2, ("_meets" : Str) ++ ".<locals>." ++ "<genexpr>"), ((He.cT K ("_ways", none)).2, ("_ways" : Str) ++ ".<locals>." ++ "<genexpr>"), ((He.cT K ("is_answer", none)).2, ("is_answer" : Str) ++ ".<locals>." ++ "<genexpr>"), ((He.cT K ("_has_way", none)).2, ("_has_way" : Str) ++ ".<locals>." ++ "<genexpr>"), ((He.cT K ("law", none)).2, ("law" : Str) ++ ".<locals>." ++ "<lambda>")]
noncomputable def all_of (X : K.In h) (G : h.Ns mainGlobals mg) (c : He.SaysD faL fnL K) : All K mg where
  is_number := df_of X G (c.def_ 0 (d := mkD "is_number" s_is_number) rfl) (c.fact 0 rfl)
  is_from := df_of X G (c.def_ 1 (d := mkD "is_from" s_is_from) rfl) (c.fact 1 rfl)
  is_below := df_of X G (c.def_ 2 (d := mkD "is_below" s_is_below) rfl) (c.fact 2 rfl)
  are_from := df_of X G (c.def_ 3 (d := mkD "are_from" s_are_from) rfl) (c.fact 3 rfl)
  is_pair := df_of X G (c.def_ 4 (d := mkD "is_pair" s_is_pair) rfl) (c.fact 4 rfl)
  is_ascending := df_of X G (c.def_ 5 (d := mkD "is_ascending" s_is_ascending) rfl) (c.fact 5 rfl)
  are_below := df_of X G (c.def_ 6 (d := mkD "are_below" s_are_below) rfl) (c.fact 6 rfl)
  is_query := df_of X G (c.def_ 7 (d := mkD "is_query" s_is_query) rfl) (c.fact 7 rfl)
  check_query := df_of X G (c.def_ 8 (d := mkD "check_query" s_check_query) rfl) (c.fact 8 rfl)
  is_table := df_of X G (c.def_ 9 (d := mkD "is_table" s_is_table) rfl) (c.fact 9 rfl)
  is_store := df_of X G (c.def_ 10 (d := mkD "is_store" s_is_store) rfl) (c.fact 10 rfl)
  check_store := df_of X G (c.def_ 11 (d := mkD "check_store" s_check_store) rfl) (c.fact 11 rfl)
  _law_blended := df_of X G (c.def_ 12 (d := mkD "_law_blended" s__law_blended) rfl) (c.fact 12 rfl)
  _law_draw := df_of X G (c.def_ 13 (d := mkD "_law_draw" s__law_draw) rfl) (c.fact 13 rfl)
  _law_pick := df_of X G (c.def_ 14 (d := mkD "_law_pick" s__law_pick) rfl) (c.fact 14 rfl)
  _law_mixed := df_of X G (c.def_ 15 (d := mkD "_law_mixed" s__law_mixed) rfl) (c.fact 15 rfl)
  _law_cj_some := df_of X G (c.def_ 16 (d := mkD "_law_cj_some" s__law_cj_some) rfl) (c.fact 16 rfl)
  _law_cj_query := df_of X G (c.def_ 17 (d := mkD "_law_cj_query" s__law_cj_query) rfl) (c.fact 17 rfl)
  _law_cj_store := df_of X G (c.def_ 18 (d := mkD "_law_cj_store" s__law_cj_store) rfl) (c.fact 18 rfl)
  _law_is_whole := df_of X G (c.def_ 19 (d := mkD "_law_is_whole" s__law_is_whole) rfl) (c.fact 19 rfl)
  _law_cj_odd := df_of X G (c.def_ 20 (d := mkD "_law_cj_odd" s__law_cj_odd) rfl) (c.fact 20 rfl)
  _law_is_truth := df_of X G (c.def_ 21 (d := mkD "_law_is_truth" s__law_is_truth) rfl) (c.fact 21 rfl)
  _without := df_of X G (c.def_ 22 (d := mkD "_without" s__without) rfl) (c.fact 22 rfl)
  _meets := df_of X G (c.def_ 23 (d := mkD "_meets" s__meets) rfl) (c.fact 23 rfl)
  _lots := df_of X G (c.def_ 24 (d := mkD "_lots" s__lots) rfl) (c.fact 24 rfl)
  _grouped := df_of X G (c.def_ 25 (d := mkD "_grouped" s__grouped) rfl) (c.fact 25 rfl)
  _shared := df_of X G (c.def_ 26 (d := mkD "_shared" s__shared) rfl) (c.fact 26 rfl)
  _thinnest := df_of X G (c.def_ 27 (d := mkD "_thinnest" s__thinnest) rfl) (c.fact 27 rfl)
  _ways := df_of X G (c.def_ 28 (d := mkD "_ways" s__ways) rfl) (c.fact 28 rfl)
  answers := df_of X G (c.def_ 29 (d := mkD "answers" s_answers) rfl) (c.fact 29 rfl)
  _law_cj_answers := df_of X G (c.def_ 30 (d := mkD "_law_cj_answers" s__law_cj_answers) rfl) (c.fact 30 rfl)
  _part := df_of X G (c.def_ 31 (d := mkD "_part" s__part) rfl) (c.fact 31 rfl)
  is_answer := df_of X G (c.def_ 32 (d := mkD "is_answer" s_is_answer) rfl) (c.fact 32 rfl)
  _law_cj_bent := df_of X G (c.def_ 33 (d := mkD "_law_cj_bent" s__law_cj_bent) rfl) (c.fact 33 rfl)
  _has_way := df_of X G (c.def_ 34 (d := mkD "_has_way" s__has_way) rfl) (c.fact 34 rfl)
  _ways_of_lot := df_of X G (c.def_ 35 (d := mkD "_ways_of_lot" s__ways_of_lot) rfl) (c.fact 35 rfl)
  P_are_from := (He.cT K ("are_from", none)).2
  P_is_ascending := (He.cT K ("is_ascending", none)).2
  P_are_below := (He.cT K ("are_below", none)).2
  P_is_query := (He.cT K ("is_query", none)).2
  P_is_table := (He.cT K ("is_table", none)).2
  P_is_store := (He.cT K ("is_store", none)).2
  P__meets := (He.cT K ("_meets", none)).2
  P__ways := (He.cT K ("_ways", none)).2
  P_is_answer := (He.cT K ("is_answer", none)).2
  P__has_way := (He.cT K ("_has_way", none)).2
theorem gx {base : Heap} {c P : Addr} (h : LamX.TabB base mg c P) : GxR.TabB base mg c P := ⟨h.code, h.bm, h.gP⟩
theorem cat_ex_law (X : K.In h) (G : h.Ns mainGlobals mg) (c : He.SaysD faL fnL K) {P : Program} {base : Heap} {f cc : Addr} : Nonempty (∀ (A : Around) (outer : List PySem.Env) (s : Shared) (H : Hp) (E : XK) (W : Wd), Cat (cxOf (L2.CX P w) P w K mg base N_law "law" (defScope s_law) f (.ref cc) A outer s H E) W "_law_caught" (He.ga K "JoinError")) := by
  obtain ⟨fd, F⟩ := c.def_ 38 (d := mkD "_law_caught" s__law_caught) rfl
  have b : Binds K fd ["work"] [] := F.bindsN fun _ _ _ _ _ _ us hl => match us, hl with | [_], _ => rfl
  obtain ⟨oc, od, dV, kV, doc, pm, an, cdv, ct, osl, rfl, lk, hcd, hD, hK⟩ := F.ex
  have mJ := He.glo_ok X G (c.fact 57 rfl)
  exact ⟨fun A outer s H E W => { g := _, a := "work", Ng := ["work", "caught", "error"], pg := defArgs s__law_caught, bg := defBody s__law_caught, sg := defScope s__law_caught, dV := dV, kV := kV, doc := doc, pm := pm, cdv := cdv, ct := ct, oc := oc, an := an, od := od, osl := osl, m := He.glo_ok X G (c.fact 38 rfl), kp := F.kp, lk := lk, cd := hcd, bd := b, sc := sc__law_caught, n0 := rfl, vis := (by first | exact Or.inl rfl | exact Or.inr (Or.inl rfl)), dbg := (by decide), cld := (by decide), gives := fun q => caught_gives (q5 := ⟨0, 0, 0, 0⟩) sc__law_caught rfl rfl rfl mJ (by decide) (by decide) (by decide) (by decide) (by decide) (fun _ => rfl) (fun _ => rfl) (fun _ => rfl) }⟩
theorem facts {P : Program} {f : Addr} (X : K.In h) (G : h.Ns mainGlobals mg) (hfa : mg ("law" : Str) = some (.ref f)) (S : He.SaysX faL fnL [] tfL exL w h K) : ∃ (fd : FuncData), (∀ (s : Shared) (v : Value), BindsTo s fd ⟨[v], []⟩ [("script", v)]) ∧ ∀ base : Heap, K.In base → base.Ns mainGlobals mg → (∀ p ∈ tfL.map (He.cT K), LamX.TabB base mg p.1 p.2) → FnOk P w K mg base (L2.CX P w) 27 f fd ["script"] (spLaw K (TtL K)) := by
  have c := S.t.d
  obtain ⟨m0, n0⟩ := He.ba S.more
  obtain ⟨m1, n1⟩ := He.ba n0
  obtain ⟨m2, n2⟩ := He.ba n1
  obtain ⟨m3, n3⟩ := He.ba n2
  have hu : OneName (TtL K) := apart_ok n3
  obtain ⟨fd, F⟩ := c.def_ 36 (d := mkD "law" s_law) rfl
  obtain ⟨fdB, FB⟩ := c.def_ 37 (d := mkD "_law_begun" s__law_begun) rfl
  have e := hfa.symm.trans (He.glo_ok X G (c.fact 36 rfl))
  cases e
  have b := FunD.bindsA (ps := ["script"]) F fun _ _ _ _ _ _ us hl => match us, hl with | [_], _ => rfl
  have bB : Binds K fdB ["script"] [] := FB.bindsN fun _ _ _ _ _ _ us hl => match us, hl with | [_], _ => rfl
  refine ⟨fd, fun s v => b s [v] rfl, fun base _ _ hTB => ?_⟩
  have TB : ∀ p, p ∈ tfL → LamX.TabB base mg (He.cT K p).1 (He.cT K p).2 := fun p hp => hTB _ (List.mem_map_of_mem hp)
  obtain ⟨CAT_law⟩ := cat_ex_law (w := w) X G c (P := P) (base := base) (f := He.fAd K ("law", none)) (cc := He.codeOf K ("law", none))
  have X_BadQuery : ∀ W : Wd, W.K = K → Exn W mg "BadQuery" (He.ga K "BadQuery") := fun W hW => by
    subst hW
    exact ⟨He.glo_ok X G (c.fact 55 rfl), ((He.exc_ok (c.fact 58 rfl))).2.1, ((He.exc_ok (c.fact 58 rfl))).1, ((He.exc_ok (c.fact 58 rfl))).2.2.1, ((He.exc_ok (c.fact 58 rfl))).2.2.2⟩
  have X_BadStore : ∀ W : Wd, W.K = K → Exn W mg "BadStore" (He.ga K "BadStore") := fun W hW => by
    subst hW
    exact ⟨He.glo_ok X G (c.fact 56 rfl), ((He.exc_ok (c.fact 59 rfl))).2.1, ((He.exc_ok (c.fact 59 rfl))).1, ((He.exc_ok (c.fact 59 rfl))).2.2.1, ((He.exc_ok (c.fact 59 rfl))).2.2.2⟩
  have J1v : CtE K (He.ga K "JoinError") (He.ga K "BadStore") := ⟨He.exm_ok (c.fact 60 rfl), excB_ok m0, of_decide_eq_true m1⟩
  have J2v : CtE K (He.ga K "JoinError") (He.ga K "BadQuery") := ⟨He.exm_ok (c.fact 61 rfl), excB_ok m2, of_decide_eq_true m3⟩
  refine ok_law (Tt := TtL K) (hu := hu) (PT := (He.cT K ("law", none)).2) (PG := (He.cT K ("law", none)).2) (A_BadQuery := He.ga K "BadQuery") (A_BadStore := He.ga K "BadStore") (A_JoinError := He.ga K "JoinError") (funC_of F rfl) (List.mem_cons_of_mem _ (List.mem_cons_of_mem _ (List.mem_cons_of_mem _ (List.mem_cons_of_mem _ (List.mem_cons_of_mem _ (List.mem_cons_of_mem _ (List.mem_cons_of_mem _ (List.mem_cons_of_mem _ (List.mem_cons_of_mem _ (List.mem_cons_of_mem _ List.mem_cons_self)))))))))) (TB ("law", none) (List.mem_cons_of_mem _ (List.mem_cons_of_mem _ (List.mem_cons_of_mem _ (List.mem_cons_of_mem _ (List.mem_cons_of_mem _ (List.mem_cons_of_mem _ (List.mem_cons_of_mem _ (List.mem_cons_of_mem _ (List.mem_cons_of_mem _ (List.mem_cons_of_mem _ List.mem_cons_self)))))))))))
    (ok__law_begun (He.free_ok X G (c.fact 50 rfl)) (funC_of FB rfl)) (He.glo_ok X G (c.fact 37 rfl)) FB.kp bB (fun a st lg lc ns cs hne => ?_) CAT_law J1v J2v
  exact cals_of (W := Wk K (TtL K) hu a ns st lg lc cs) (T := ⟨He.free_ok X G (c.fact 39 rfl), He.free_ok X G (c.fact 40 rfl), He.free_ok X G (c.fact 41 rfl), He.free_ok X G (c.fact 42 rfl), He.free_ok X G (c.fact 43 rfl), He.free_ok X G (c.fact 44 rfl), He.free_ok X G (c.fact 45 rfl), He.free_ok X G (c.fact 46 rfl), He.free_ok X G (c.fact 47 rfl), He.free_ok X G (c.fact 48 rfl), He.free_ok X G (c.fact 49 rfl), He.free_ok X G (c.fact 50 rfl), He.free_ok X G (c.fact 51 rfl), He.free_ok X G (c.fact 52 rfl), He.int_ok X G (c.fact 54 rfl)⟩) (All_ := all_of X G c) (tb_are_from := ⟨List.mem_cons_self, gx (TB ("are_from", none) List.mem_cons_self)⟩) (tb_is_ascending := ⟨(List.mem_cons_of_mem _ List.mem_cons_self), gx (TB ("is_ascending", none) (List.mem_cons_of_mem _ List.mem_cons_self))⟩) (tb_are_below := ⟨(List.mem_cons_of_mem _ (List.mem_cons_of_mem _ List.mem_cons_self)), gx (TB ("are_below", none) (List.mem_cons_of_mem _ (List.mem_cons_of_mem _ List.mem_cons_self)))⟩) (tb_is_query := ⟨(List.mem_cons_of_mem _ (List.mem_cons_of_mem _ (List.mem_cons_of_mem _ List.mem_cons_self))), gx (TB ("is_query", none) (List.mem_cons_of_mem _ (List.mem_cons_of_mem _ (List.mem_cons_of_mem _ List.mem_cons_self))))⟩) (tb_is_table := ⟨(List.mem_cons_of_mem _ (List.mem_cons_of_mem _ (List.mem_cons_of_mem _ (List.mem_cons_of_mem _ List.mem_cons_self)))), gx (TB ("is_table", none) (List.mem_cons_of_mem _ (List.mem_cons_of_mem _ (List.mem_cons_of_mem _ (List.mem_cons_of_mem _ List.mem_cons_self)))))⟩) (tb_is_store := ⟨(List.mem_cons_of_mem _ (List.mem_cons_of_mem _ (List.mem_cons_of_mem _ (List.mem_cons_of_mem _ (List.mem_cons_of_mem _ List.mem_cons_self))))), gx (TB ("is_store", none) (List.mem_cons_of_mem _ (List.mem_cons_of_mem _ (List.mem_cons_of_mem _ (List.mem_cons_of_mem _ (List.mem_cons_of_mem _ List.mem_cons_self))))))⟩) (tb__meets := ⟨(List.mem_cons_of_mem _ (List.mem_cons_of_mem _ (List.mem_cons_of_mem _ (List.mem_cons_of_mem _ (List.mem_cons_of_mem _ (List.mem_cons_of_mem _ List.mem_cons_self)))))), gx (TB ("_meets", none) (List.mem_cons_of_mem _ (List.mem_cons_of_mem _ (List.mem_cons_of_mem _ (List.mem_cons_of_mem _ (List.mem_cons_of_mem _ (List.mem_cons_of_mem _ List.mem_cons_self)))))))⟩) (tb__ways := ⟨(List.mem_cons_of_mem _ (List.mem_cons_of_mem _ (List.mem_cons_of_mem _ (List.mem_cons_of_mem _ (List.mem_cons_of_mem _ (List.mem_cons_of_mem _ (List.mem_cons_of_mem _ List.mem_cons_self))))))), gx (TB ("_ways", none) (List.mem_cons_of_mem _ (List.mem_cons_of_mem _ (List.mem_cons_of_mem _ (List.mem_cons_of_mem _ (List.mem_cons_of_mem _ (List.mem_cons_of_mem _ (List.mem_cons_of_mem _ List.mem_cons_self))))))))⟩) (tb_is_answer := ⟨(List.mem_cons_of_mem _ (List.mem_cons_of_mem _ (List.mem_cons_of_mem _ (List.mem_cons_of_mem _ (List.mem_cons_of_mem _ (List.mem_cons_of_mem _ (List.mem_cons_of_mem _ (List.mem_cons_of_mem _ List.mem_cons_self)))))))), gx (TB ("is_answer", none) (List.mem_cons_of_mem _ (List.mem_cons_of_mem _ (List.mem_cons_of_mem _ (List.mem_cons_of_mem _ (List.mem_cons_of_mem _ (List.mem_cons_of_mem _ (List.mem_cons_of_mem _ (List.mem_cons_of_mem _ List.mem_cons_self)))))))))⟩) (tb__has_way := ⟨(List.mem_cons_of_mem _ (List.mem_cons_of_mem _ (List.mem_cons_of_mem _ (List.mem_cons_of_mem _ (List.mem_cons_of_mem _ (List.mem_cons_of_mem _ (List.mem_cons_of_mem _ (List.mem_cons_of_mem _ (List.mem_cons_of_mem _ List.mem_cons_self))))))))), gx (TB ("_has_way", none) (List.mem_cons_of_mem _ (List.mem_cons_of_mem _ (List.mem_cons_of_mem _ (List.mem_cons_of_mem _ (List.mem_cons_of_mem _ (List.mem_cons_of_mem _ (List.mem_cons_of_mem _ (List.mem_cons_of_mem _ (List.mem_cons_of_mem _ List.mem_cons_self))))))))))⟩) (F_great := fld_great hne) (F_left := fld_left) (F_turn := fld_turn) (F_cells := fld_cells) (B_dict := He.free_ok X G (c.fact 53 rfl)) (E_BadQuery := X_BadQuery _ rfl) (E_BadStore := X_BadStore _ rfl)
end
end Ck

set_option maxRecDepth 100000
set_option maxHeartbeats 0
namespace Ck
open PySem PySem.Spec PyProof.Rows L2 Dl
abbrev RR : PySem.W.OpenRow := PySem.W.OpenLaw.row PySem.Challenge.rw_coverjoin_k02_the_plain_answers
def loose1 : List Str := (["__name__", "JoinError", "BadQuery", "BadStore", "LIMIT", "is_number", "is_from", "is_below", "are_from", "is_pair", "is_ascending", "are_below", "is_query", "check_query", "is_table", "is_store", "check_store", "answers", "is_answer", "_part", "_ways", "_ways_of_lot", "_has_way", "_lots", "_meets", "_thinnest", "_shared", "_grouped", "_without", "_law_begun"] : List Str)
def loose2 : List Str := (["_law_blended", "_law_draw", "_law_pick", "_law_mixed", "_law_caught", "_law_is_truth", "_law_is_whole", "_law_cj_query", "_law_cj_some", "_law_cj_store", "_law_cj_answers", "_law_cj_odd", "_law_cj_bent"] : List Str)
abbrev hk : PySem.W.Hook := He.hookX 4 faL fnL [] tfL exL
def ob (s : PySem.W.SharedT) : He.AlX := He.obsX 4 faL fnL [] tfL exL (HandSHeadRun.getT s)
theorem ob_eq (s : PySem.W.SharedT) : ob s = hk.obs s.abs := He.obsX_eq (HandSHeadRun.getT_eq s)
theorem run (w : World) : HandSHeadRun.RunEq RR (PySem.W.view RR.prog [46]) hk ob 20000 (loose1 ++ loose2) w := by
  intro os
  kernel_rfl
end Ck

set_option maxRecDepth 100000
set_option maxHeartbeats 0
namespace Ck
open PySem PySem.Spec PyProof.Rows L2 Dl
theorem at_start {K : PySem.W.Frag} {w : World} {mg : Str → Option Value} {f : Addr} {h : Heap} (X : K.In h) (G : h.Ns mainGlobals mg) (hfa : mg ("law" : Str) = some (.ref f)) (S : He.SaysX faL fnL [] tfL exL w h K) : LamX.LawAtS PySem.Challenge.rw_coverjoin_k02_the_plain_answers w K (L2.CX PySem.Challenge.rw_coverjoin_k02_the_plain_answers.prog w) 27 63 "script" mg f h := by
  obtain ⟨fd, hb, hF⟩ := facts (P := PySem.Challenge.rw_coverjoin_k02_the_plain_answers.prog) X G hfa S
  have cs : ∀ p ∈ tfL.map (He.cT K), ∃ d ∈ tfL, p = He.cT K d := fun p hp => by
    obtain ⟨d, hd, e⟩ := List.mem_map.mp hp
    exact ⟨d, hd, e.symm⟩
  refine ⟨fd, tfL.map (He.cT K), spLaw K (TtL K), fun p hp => ?_, fun p hp => ?_, fun p hp => ?_, hb, fun H a ns hl _ hH hS => ⟨a, ns, rfl, hS, hl, fun P q hq => ?_, fun _ => rfl⟩, hF⟩
  · obtain ⟨d, hd, rfl⟩ := cs p hp
    exact S.empty d hd
  · obtain ⟨d, hd, rfl⟩ := cs p hp
    exact S.out d hd
  · obtain ⟨d, hd, rfl⟩ := cs p hp
    exact PySem.W.codeHd_of_K X (S.hd d hd)
  · have e : (TtL K).map (·.1) = tfL.map fun d => (He.cT K d).2 := rfl
    have m : P ∈ (TtL K).map (·.1) := List.mem_map_of_mem (f := fun p : Addr × Str => p.1) hq
    rw [e] at m
    obtain ⟨d, hd, rfl⟩ := List.mem_map.mp m
    exact ⟨#[], hH _ (List.mem_map_of_mem hd), trivial, fun pos cv hc => by cases hc⟩
end Ck
open PySem PySem.W PySem.Calls PyProof.Rows
theorem PySem.Challenge.cw_coverjoin_k02_the_plain_answers_holds : PySem.Challenge.rw_coverjoin_k02_the_plain_answers.Holds := by
  w_on; o_law
  refine HandSHeadRun.head_any (r := Ck.RR) (q := view Ck.RR.prog [46]) (H := Ck.hk) (ob := Ck.ob) (M := 20000) (loose := Ck.loose1 ++ Ck.loose2) (d := HandSHeadRun.topDef Ck.RR.prog 46) (kwd := []) Ck.ob_eq
    (by kernel_rfl) (fun s => by kernel_rfl) Ck.run (by kernel_rfl) (by kernel_rfl) (by kernel_rfl) (by rfl) (by first | assumption | decide +kernel) (by decide +kernel) ⟨rfl, rfl, rfl, rfl, rfl, by decide +kernel⟩ ?hw ?hc
  case hw => w_witness2
  case hc =>
    refine LamX.walk_ofTsE (l := PySem.Challenge.rw_coverjoin_k02_the_plain_answers) (n := 63) (k := 27) (x := "script") (CX := fun w => L2.CX PySem.Challenge.rw_coverjoin_k02_the_plain_answers.prog w) rfl (by decide) (by kernel_rfl) ⟨rfl, by decide, by decide⟩ ?F fun _ _ _ _ _ z => ?_
    · intro w mg fa h Y G hmg0
      obtain ⟨K, KX, c⟩ := Y
      have hmg : mg ("law" : PySem.Str) = some (.ref fa) := by
        have e : (HandSHeadRun.topDef Ck.RR.prog 46).name = ("law" : PySem.Str) := by kernel_rfl
        rw [← e]
        exact hmg0
      exact ⟨K, KX, Ck.at_start KX G hmg c⟩
    · obtain ⟨_, _, _, _, _, _, _, _, _, _, _, _, z⟩ := z
      exact z
