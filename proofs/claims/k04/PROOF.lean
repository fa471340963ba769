import PyProof.Rows.All
import Wide.All
import OpenK.AllK
import Wide.FinOn
import HandS.AnyAll
import HandS.GenList
import HandS.Words
import HandS.Codes
import HandS.EndTab
import HandS.Walk
import HandS.ForMost
import HandS.IsInst
import HandS.Conv
import HandS.Star
import HandS.DeepEq
import HandS.ListEq
import HandS.SetFor
import HandS.Flow
import KE.KDictSum
import PySem.Challenge.RW_speechloom_k04_what_bundles_let
import HandS.More
set_option Elab.async false
set_option linter.all false
set_option maxRecDepth 100000
set_option maxHeartbeats 4000000
/-! all(elt for target in iter if ..), the element by the layer's own rules, over anything that is walked; the heap may move -/
namespace GX
open PySem PySem.Spec PyProof.Rows L2 GenW

/-- the context of a generator expression's frame that was made at s -/
abbrev gcx (X : Cx) (s : Shared) (H : Hp) (cenv : Env) (fp : List Addr) : Cx :=
  { X with A := X.A.in1.in1.deeper cenv, s_0 := s, H_0 := H, env := cenv, outer := X.stack, stack := cenv :: X.stack, ex := fp, fn := fun _ => false, pn := [], xe := fun _ _ => False }

section
variable {X : Cx} {pins : List (Addr × Obj)} {σ : L2.St} {H : Hp} {s : Shared}
theorem gen_start {scope : Scope} {own : List (Str × Nat)} {fp : List Addr} {h' : Heap} {mm : Str → Option Value} {G : Array GenState} {tk : Nat} {code : Value} (J : Inv X pins σ H s) (blk : BlkOk X.N X.env.scope scope own) (nc : ∀ y ∈ scope.names, y.2 ≠ .cell) (nd : X.N.Nodup)
    (walked : ∀ p ∈ fp, FpOk X pins H p ∧ p < s.heap.objs.size) (frame : h'.Ns s.heap.objs.size mm) (up : ∀ p u, s.heap.get? p = some u → h'.get? p = some u) (bare : AllBare G) :
    Inv (gcx X s H (genEnv scope (cloFrom X.env.cells scope.names []) s.heap.objs.size code builtinsNs X.env) fp) [] (wipe σ (own.map (·.2))) H { s with heap := h', gens := G, toks := tk } := by
  have caught : ∀ n ∈ scope.names, n.2 = .free → ∃ c, X.env.cells.lookup n.1 = some c := fun n hn hf =>
    J.ok.has _ ((blk.free n hn hf).elim .inl .inr)
  -- the closure holds cells of the def alone
  have clo : ∀ {n c}, (n, c) ∈ cloFrom X.env.cells scope.names [] → X.env.cells.lookup n = some c ∧ c < s.heap.objs.size := fun {n c} hin => by
    rcases cloFrom_mem hin with none' | ⟨isFree, rfl⟩
    · exact absurd none' List.not_mem_nil
    · obtain ⟨c₀, at₀⟩ := caught _ isFree rfl
      obtain ⟨val, stands⟩ := J.cell _ _ at₀
      rw [at₀]
      exact ⟨rfl, stands.lt⟩
  generalize env' : genEnv scope (cloFrom X.env.cells scope.names []) s.heap.objs.size code builtinsNs X.env = ge
  have gL : ge.locals = s.heap.objs.size := env' ▸ rfl
  have gC : ge.cells = cloFrom X.env.cells scope.names [] := env' ▸ rfl
  have gS : ge.scope = scope := env' ▸ rfl
  have gF : ge.frame = some ge.locals := env' ▸ rfl
  have down : ∀ {n c}, ge.cells.lookup n = some c → X.env.cells.lookup n = some c ∧ c < s.heap.objs.size := fun {n c} q =>
    clo (PySem.mem_of_lookup (gC ▸ q))
  have freeAt : ∀ {n}, scope.names.lookup n = some .free → ∃ c, ge.cells.lookup n = some c ∧ X.env.cells.lookup n = some c := fun {n} q => by
    obtain ⟨c, inGe⟩ := mem_lookup (cloFrom_has (cells := X.env.cells) (acc := []) (PySem.mem_of_lookup q))
    have inGe' : ge.cells.lookup n = some c := gC ▸ inGe
    exact ⟨c, inGe', (down inGe').1⟩
  have wOk : (gcx X s H ge fp).Ok := {
    mod := J.ok.mod
    kind := by show ge.scope.kind = _; rw [gS]; exact blk.kind
    glob := by show ge.globals = _; rw [← env']; exact J.ok.glob
    blt := by show ge.builtins = _; rw [← env']; rfl
    above := Nat.le_of_eq gL.symm
    inj := fun n n' c q q' => J.ok.inj n n' c (down q).1 (down q').1
    has := fun n kinds => by
      have kinds' : scope.names.lookup n = some .cell ∨ scope.names.lookup n = some .free := gS ▸ kinds
      rcases kinds' with isCell | isFree
      · exact absurd rfl (nc _ (PySem.mem_of_lookup isCell))
      · exact (freeAt isFree).imp fun _ q => q.1
    cab := fun _ _ z _ => absurd z Bool.false_ne_true
    hd := J.ok.hd
    frames := Around.frames_deeper J.ok.frames
    stk := .inr ⟨rfl, gF⟩
    exf := fun p hp => ⟨by show p ≠ ge.locals; rw [gL]; exact Nat.ne_of_lt (walked p hp).2, fun n c q => (walked p hp).1.2.2.2.2.1 n c (down q).1⟩
    bs := J.bs
    bsz := Nat.le_trans J.ok.bsz J.sz
    noex := fun p u q hp => (walked p hp).1.2.2.2.1.elim (J.ok.noex p u q) fun young => Nat.lt_irrefl _ (Nat.lt_of_lt_of_le (Heap.lt_size q) (Nat.le_trans J.ok.bsz young))
    exfs := fun p hp z => (List.mem_cons.mp (J.stkSub p z)).elim (walked p hp).1.2.1 (walked p hp).1.2.2.1
    funs := J.stack
    frf := J.stkFree }
  refine { ok := wOk, os := rfl, bare := bare, base := Un.kept up, loc := ⟨mm, by show Heap.Ns _ ge.locals _; rw [gL]; exact frame, fun k n v atN atS vis => ?_⟩, cell := fun n c q => ?_, free := ?_, freeC := fun n c q => J.freeC n c (down q).1, pin := fun _ none' => absurd none' List.not_mem_nil, hok := J.hok.kept up, len := ?_ }
  · obtain ⟨atS, notOwn⟩ := wipe_some atS
    have isFree : scope.names.lookup n = some .free := by
      have ownNot : ∀ kd, scope.names.lookup n = some kd → ¬ (kd = .local ∨ kd = .cell) := fun kd q two => by
        rcases blk.own _ (PySem.mem_of_lookup q) two with among | out
        · obtain ⟨⟨m₁, k₁⟩, in₁, nm⟩ := List.mem_map.mp among
          have nm' : m₁ = n := nm
          have k₁At := blk.ix _ in₁
          rw [show (m₁, k₁).1 = n from nm'] at k₁At
          exact notOwn (List.mem_map.mpr ⟨_, in₁, nodup_ix nd k₁At atN⟩)
        · exact out (List.mem_of_getElem? atN)
      have vis' : Vis scope n := gS ▸ (show Vis ge.scope n from vis)
      rcases vis' with q | q | q
      · exact absurd (.inl rfl) (ownNot _ q)
      · exact absurd (.inr rfl) (ownNot _ q)
      · exact q
    have inDef := blk.free _ (PySem.mem_of_lookup isFree) rfl
    obtain ⟨_, _, reads⟩ := J.loc
    obtain ⟨val, rel, how⟩ := reads k n v atN atS (.inr inDef)
    obtain ⟨c, c1, c2⟩ := freeAt isFree
    refine ⟨val, rel, .inr ⟨.inr (by show ge.scope.names.lookup n = _; rw [gS]; exact isFree), c, c1, ?_⟩⟩
    rcases how with ⟨isLocal, _⟩ | ⟨_, c₂, c₂At, stands⟩
    · have isLocal' : X.env.scope.names.lookup n = some .local := isLocal
      rw [isLocal'] at inDef
      rcases inDef with q | q <;> cases q
    · rw [c2] at c₂At
      cases c₂At
      exact stands.keeps up
  · obtain ⟨val, stands⟩ := J.cell n c (down q).1
    exact ⟨val, stands.keeps up⟩
  · show H ge.locals = none
    exact gL ▸ J.hok.fresh (Nat.le_refl _)
  · exact (wipe_length σ _).trans J.len
end

/-! ### the protocol -/
section
variable {Y : Cx}
def RG (Y : Cx) (pn : List (Addr × Obj)) (T : Hp → Prop) : GenEnd := fun n s₀ r s₁ => r = .ok .next ∧ ∃ σ H, Inv Y pn σ H s₁ ∧ T H
def YG (Y : Cx) (pn : List (Addr × Obj)) (F : Hp → Prop) : Protocol := fun n s₀ v s kap =>
  ∃ b σ H, v = .bool b ∧ Inv Y pn σ H s ∧ (b = true → ∀ G, AllBare G → kap (.send .none) { s with gens := G }) ∧ (b = false → F H)
theorem inv_gens {pn : List (Addr × Obj)} {σ : L2.St} {H : Hp} {s : Shared} {G : Array GenState} (I : Inv Y pn σ H s) (h : AllBare G) : Inv Y pn σ H { s with gens := G } :=
  I.call' (ch := []) rfl (Un.kept fun _ _ e => e) I.hok h fun b z => by simp at z
theorem inv_kept {pn : List (Addr × Obj)} {σ : L2.St} {H : Hp} {s : Shared} {G : Array GenState} {h' : Heap} (I : Inv Y pn σ H s) (h : AllBare G) (k : ∀ b o, s.heap.get? b = some o → h'.get? b = some o) : Inv Y pn σ H { s with gens := G, heap := h' } :=
  I.call' (ch := []) rfl (Un.kept k) (I.hok.kept k) h fun b z => by simp at z

/-- what a turn of the walk wants -/
def AllTurn (J : It) (g : TG) (tt : TT) (te : TE) (vs : List Nat) (σw : L2.St) (W : Nat → Nat → Hp → Prop) (T F : Hp → Prop) : Prop :=
  ∀ i m H, W i m H → (J.stop i H ∧ T H) ∨ (J.go i H ∧ ∃ Nx : Hp → Prop, (∀ H', Nx H' → ∃ m', m' < m ∧ W (i + 1) m' H') ∧ ∀ x H', J.yld i H x H' → g x σw H' fun σ2 H2 => wipe σ2 vs = σw ∧ tt σ2 H2 fun b H3 =>
    if b = true then te σ2 H3 fun y H4 => ∃ c : Bool, y = .bl c ∧ (c = true → Nx H4) ∧ (c = false → F H4) else Nx H3)

theorem seg_loop {A : Around} {elt tg iter : Expr} {ifs : List Expr} {scope : Scope} {pos : Pos} {it : Addr} {fp : List Addr} {tn : Nat → Heap → Prop} {J : It} {g : TG} {tt : TT} {te : TE} {vs : List Nat} {σw : L2.St} {pn : List (Addr × Obj)} {W : Nat → Nat → Hp → Prop} {T F : Hp → Prop}
    (hov : A.over (.compLoop (.GeneratorExp elt [⟨tg, iter, ifs, 0⟩] scope pos) 0 (.ref it) .none Y.env) [] = Y.A) (hxe : Y.xe = fun _ _ => False) (hcalm : Y.calm = true) (hco : Y.env.scope.isCoroutine = false)
    (Tn : Turn Y.prog Y.w Y.K tg J fp it tn) (pg : PG Y tg g) (pt : PTs Y ifs tt) (pe : PE Y elt te) (hex : ∀ b ∈ fp, b ∈ Y.ex) (hpn : Y.pn = []) (hpins : ∀ p ∈ pn, p.1 ∉ fp) (turn : AllTurn J g tt te vs σw W T F) :
    ∀ (m n i : Nat) (s₀ s : Shared) (H : Hp), m < n → Inv Y pn σw H s → tn i s.heap → (∀ b ∈ fp, H b = none) → W i m H →
      Seg (model Y.prog Y.w) A (RG Y pn T) (YG Y pn F) n s₀ (.compLoop (.GeneratorExp elt [⟨tg, iter, ifs, 0⟩] scope pos) 0 (.ref it) .none Y.env)
        ((model Y.prog Y.w).den (.compLoop (.GeneratorExp elt [⟨tg, iter, ifs, 0⟩] scope pos) 0 (.ref it) .none Y.env)) [] s := by
  have stat : ∀ {σ' : L2.St} {H' : Hp} {s' : Shared}, Inv Y pn σ' H' s' → (∀ b ∈ fp, H' b = none) → ∀ b ∈ fp, FpOk Y pn H' b := fun {σ' H' s'} I' hn b hb =>
    ⟨hn b hb, (I'.ok.exf b (hex b hb)).1, I'.ok.exfs b (hex b hb), .inl (hex b hb), fun x c e => (I'.ok.exf b (hex b hb)).2 x c e, fun p hp => by
      rw [hpn] at hp
      exact fun z => hpins p (by simpa using hp) (by rw [z]; exact hb)⟩
  intro m
  induction m using Nat.strongRecOn with
  | ind m ih =>
    intro n i s₀ s H hmn I st nfp w
    show Seg _ A _ _ _ s₀ _ ((compTurn (.GeneratorExp elt [⟨tg, iter, ifs, 0⟩] scope pos) 0 (.ref it) .none Y.env).onRaise (leaving Y.env)) [] s
    rw [compTurn_gen, Sem.onRaise_eq_wrap]
    refine seg_bind_wrap (wpAny_standAt ?_)
    rcases turn i m H w with ⟨stop, qq⟩ | ⟨go, Nx, hNx, step⟩
    · refine seg_bind_wrap ?_
      rw [hov]
      refine thnF (Tn.done Y rfl rfl rfl hcalm i pn s _ H (fun _ _ => False) I (stat I nfp) st stop) fun r s1 ⟨hr, I1⟩ => ?_
      subst hr
      exact seg_end (.ok .next) ⟨rfl, _, _, I1, qq⟩
    · refine seg_bind_wrap ?_
      rw [hov]
      refine thnF (Tn.item Y rfl rfl rfl hcalm i pn s _ H (fun _ _ => False) I (stat I nfp) st go) fun r s1 ⟨u, hr, h1⟩ => ?_
      subst hr
      refine seg_bind_wrap ?_
      rw [hov]
      refine thnF h1 fun _ s2 ⟨x, H2, I2, r2, y2, st2, n2⟩ => ?_
      have I2' := I2.pinned (stat I2 n2) (Tn.obj _ _ st2)
      have no : ∀ {e : Value} {s' : Shared} {C : Prop}, Y.xe e s' → C := fun {e s' C} h => by
        rw [hxe] at h
        exact h.elim
      refine seg_bind_wrap ?_
      rw [hov]
      refine wpAny_mono (pg.run _ s2 _ H2 x u _ I2' r2 (step x H2 y2)) (fun _ s3 h3 => ?_) fun _ _ e => no e
      obtain ⟨σ3, H3, I3, hw3, q3⟩ := h3
      refine seg_bind_wrap ?_
      rw [hov]
      refine wpAny_mono (pt.run _ s3 σ3 H3 _ I3 q3) (fun b s4 h4 => ?_) fun _ _ e => no e
      obtain ⟨H4, I4, q4⟩ := h4
      -- the turn's end
      have fin : ∀ {s' : Shared} {H' : Hp} {G : Array GenState}, Inv Y (pn ++ pinsAt fp s2.heap) σ3 H' s' → AllBare G → Nx H' → ∃ m', m' < m ∧ Inv Y pn σw H' { s' with gens := G } ∧ tn (i + 1) ({ s' with gens := G } : Shared).heap ∧ (∀ b ∈ fp, H' b = none) ∧ W (i + 1) m' H' := fun {s' H' G} I' hG nx => by
        obtain ⟨m', less, w'⟩ := hNx H' nx
        have pin' : ∀ b ∈ fp, ∀ o, s2.heap.get? b = some o → s'.heap.get? b = some o ∧ H' b = none := fun b hb o e =>
          (I'.pin (b, o) (List.mem_append_right _ (List.mem_append_right _ (mem_pinsAt hb e)))).imp id And.left
        have hl : σw.length = σ3.length := by rw [← hw3, wipe_length]
        refine ⟨m', less, inv_gens ((I'.unpinned (pins := pn)).weak hl (fun j v e => ?_)) hG, Tn.keep _ _ _ st2 fun b hb o e => (pin' b hb o e).1, fun b hb => ?_, w'⟩
        · rw [← hw3] at e
          exact (wipe_some e).1
        · obtain ⟨o, e, _⟩ := Tn.obj _ _ st2 b hb
          exact (pin' b hb o e).2
      cases b with
      | false =>
        simp only [Bool.false_eq_true, if_false] at q4 ⊢
        obtain ⟨m', hm, J1, J2, J3, J4⟩ := fin I4 I4.bare q4
        exact seg_again rfl (ih m' hm n (i + 1) s₀ s4 H4 (by omega) J1 J2 J3 J4)
      | true =>
        simp only [if_true] at q4 ⊢
        have hy : ∀ v, yieldOut Y.env v = yieldValue v := fun v => by simp only [yieldOut, hco, Bool.false_eq_true, if_false]
        simp only [hy]
        rw [Sem.bind_eq_wrap', Sem.bind_eq_wrap', Sem.wrap_wrap, Sem.wrap_wrap]
        refine seg_wrap ?_
        rw [hov]
        refine wpAny_mono (pe.run _ s4 σ3 H4 _ I4 q4) (fun v s5 h5 => ?_) fun _ _ e => no e
        obtain ⟨yv, H5, I5, r5, c, ey, hT, hF⟩ := h5
        subst ey
        obtain rfl : v = Value.bool c := r5
        obtain ⟨n', rfl⟩ : ∃ n', n = n' + 1 := ⟨n - 1, by omega⟩
        refine seg_at (seg_yield rfl rfl rfl ⟨c, σ3, H5, rfl, I5.unpinned (pins := pn), fun hc G hG => ?_, hF⟩)
        obtain ⟨m', hm, J1, J2, J3, J4⟩ := fin I5 hG (hT hc)
        exact seg_again rfl (ih m' hm n' (i + 1) _ _ H5 (by omega) J1 J2 J3 J4)

theorem seg_start {A : Around} {elt tg iter : Expr} {ifs : List Expr} {scope : Scope} {pos : Pos} {it : Addr} {fp : List Addr} {tn : Nat → Heap → Prop} {J : It} {n i : Nat} {R : GenEnd} {Yp : Protocol} {s₀ s : Shared} {cenv : Env} {P : Program} {w : World} {K : PySem.W.Frag}
    (Tn : Turn P w K tg J fp it tn) (st : tn i s.heap)
    (loop : Seg (model P w) A R Yp n s₀ (.compLoop (.GeneratorExp elt [⟨tg, iter, ifs, 0⟩] scope pos) 0 (.ref it) .none cenv) ((model P w).den (.compLoop (.GeneratorExp elt [⟨tg, iter, ifs, 0⟩] scope pos) 0 (.ref it) .none cenv)) [] s) :
    Seg (model P w) A R Yp n s₀ (.compStart (.GeneratorExp elt [⟨tg, iter, ifs, 0⟩] scope pos) 0 (.ref it) .none cenv) ((model P w).den (.compStart (.GeneratorExp elt [⟨tg, iter, ifs, 0⟩] scope pos) 0 (.ref it) .none cenv)) [] s := by
  show Seg _ A _ _ _ s₀ _ ((compStart (.GeneratorExp elt [⟨tg, iter, ifs, 0⟩] scope pos) 0 (.ref it) .none cenv).onRaise (leaving cenv)) [] s
  unfold compStart
  rw [Sem.onRaise_eq_wrap]
  show Seg _ A _ _ _ s₀ _ ((ask >>= _).wrap _ _ _ _) [] s
  refine seg_bind_wrap (wpAny_askSetting ?_)
  split
  · exact seg_again rfl loop
  · first
      | exact seg_bind_wrap (wpAny_rule (seg_bind_wrap (wpAny_standAt (seg_bind_wrap (Tn.self _ i s _ _ st (seg_again rfl loop))))))
      | (refine seg_bind_wrap (wpAny_rule ?_); show Seg _ A _ _ _ s₀ _ ((standAt iter.pos >>= _).wrap _ _ _ _) [] s; exact seg_bind_wrap (wpAny_standAt (seg_bind_wrap (Tn.self _ i s _ _ st (seg_again rfl loop)))))

/-! ### all's loop -/
theorem all_loop {A : Around} {R : Result → Shared → Prop} {a : Addr} {g : Nat} {pn : List (Addr × Obj)} {T F : Hp → Prop} (hh : A.handled = none) (hd : A.depth < recursionLimit)
    (hgen : ∀ σ H s, Inv Y pn σ H s → s.heap.IsGen a g) (hT : ∀ σ H s, Inv Y pn σ H s → T H → R (.ok (.ret (.bool true))) s) (hF : ∀ σ H s, Inv Y pn σ H s → F H → R (.ok (.ret (.bool false))) s) :
    ∀ (n : Nat) (s : Shared), s.heap.IsGen a g → s.heap.NoLimit → (∃ gs, s.gens[g]? = some gs ∧ gs.Goes (model Y.prog Y.w) A.in1.in1 (RG Y pn T) (YG Y pn F) n (.send .none) (s.setGen g .running)) →
      codeAny (model Y.prog Y.w) A (.builtin "all.loop" ⟨[.ref a], []⟩) R s := by
  intro n
  induction n with
  | zero =>
    intro s hg hl ⟨gs, hgs, hgo⟩
    refine codeAny_builtin PySem.F.entry_all_loop ?_
    rw [Around.under_plainId PySem.F.plain_all_loop _]
    show wpAny _ A.in1 (pyNext (.ref a) >>= _) _ _ s
    refine wpAny_bind (wpAny_pyNext_genexpQ (A := A.in1) (P := fun _ _ s₁ => ∃ σ H, Inv Y pn σ H s₁ ∧ T H) hh hl hd hg hgs hgo (fun v s₁ gs' hb hv => ?_) (fun s₁ hp h' hk => ?_))
    · obtain ⟨b, σ, H, rfl, I, h1, h2⟩ := hv
      cases b with
      | true => exact (h1 rfl _ I.bare).elim
      | false =>
        refine wpAny_bind (wpAny_holding (wpAny_truthy_bool ?_))
        refine wpAny_bind (wpAny_letGo ?_)
        simp only [Bool.false_eq_true, if_false]
        exact wpAny_bind (wpAny_rule (wpAny_pure (hF σ H _ (inv_gens I (allBare_setGen I.bare hb)) (h2 rfl))))
    · obtain ⟨σ, H, I, q⟩ := hp
      exact wpAny_bind (wpAny_rule (wpAny_pure (hT σ H _ (inv_kept (s := s₁) (G := (s₁.setGen g .finished).gens) I (allBare_setGen I.bare rfl) hk) q)))
  | succ n ih =>
    intro s hg hl ⟨gs, hgs, hgo⟩
    have hgl : g < s.gens.size := (Array.getElem?_eq_some_iff.mp hgs).1
    refine codeAny_builtin PySem.F.entry_all_loop ?_
    rw [Around.under_plainId PySem.F.plain_all_loop _]
    show wpAny _ A.in1 (pyNext (.ref a) >>= _) _ _ s
    refine wpAny_bind (wpAny_gsz (n := g + 1) hgl (wpAny_pyNext_genexpQ (A := A.in1) (P := fun _ _ s₁ => ∃ σ H, Inv Y pn σ H s₁ ∧ T H) hh hl hd hg hgs hgo (fun v s₁ gs' hb hv => ?_) (fun s₁ hp h' hk => ?_)))
    · intro hsz
      obtain ⟨b, σ, H, rfl, I, h1, h2⟩ := hv
      refine wpAny_bind (wpAny_holding (wpAny_truthy_bool ?_))
      refine wpAny_bind (wpAny_letGo ?_)
      cases b with
      | true =>
        simp only [if_true]
        have hsz1 : g < s₁.gens.size := by
          have q : (s₁.setGen g gs').gens.size = s₁.gens.size := setGen_size _ _ _
          have hsz' : g + 1 ≤ (s₁.setGen g gs').gens.size := hsz
          omega
        refine wpAny_pure ⟨plainId_quiet PySem.F.plain_all_loop _, ih (s₁.setGen g gs') (hgen σ H _ (inv_gens I (allBare_setGen I.bare hb))) (show s₁.heap.NoLimit from I.nolimit) ⟨gs', setGen_at hsz1, ?_⟩⟩
        exact h1 rfl _ (allBare_setGen (s := s₁.setGen g gs') (allBare_setGen I.bare hb) rfl)
      | false =>
        simp only [Bool.false_eq_true, if_false]
        exact wpAny_bind (wpAny_rule (wpAny_pure (hF σ H _ (inv_gens I (allBare_setGen I.bare hb)) (h2 rfl))))
    · intro hsz
      obtain ⟨σ, H, I, q⟩ := hp
      exact wpAny_bind (wpAny_rule (wpAny_pure (hT σ H _ (inv_kept (s := s₁) (G := (s₁.setGen g .finished).gens) I (allBare_setGen I.bare rfl) hk) q)))
end
end GX

namespace GX
open PySem PySem.Spec PyProof.Rows L2 GenW
/-- all(elt for tg in iter if ..): behind it the def's table may have grown -/
def tAll (P : Addr) (wi : TI) (g : TG) (tt : TT) (te : TE) (vs : List Nat) : TE := fun σ H Q => wi σ H fun J H1 => GxR.TabG H1 P ∧ ∀ H2, GxR.Tabbed P H1 H2 →
  ∃ W : Nat → Nat → Hp → Prop, (∃ m, W 0 m H2) ∧ AllTurn J g tt te vs (wipe σ vs) W (fun H' => Q (.bl true) H') (fun H' => Q (.bl false) H')
section
variable {X : Cx}
theorem pe_all {c P : Addr} {elt tg iter : Expr} {ifs : List Expr} {scope : Scope} {own : List (Str × Nat)} {p pos gpos : Pos} {wi : TI} {g : TG} {tt : TT} {te : TE} {k : Nat}
    (hr : Room k X.A) (hgl : Gl X "all") (hm : X.mg "all" = none) (hb : bootBuiltins "all" = some (.builtin "all")) (TB : GxR.TabB X.base X.mg c P) (hcode : X.env.code = .ref c) (hc : X.calm = true) (hN : X.N.Nodup) (hi : PI X tg iter wi) (ok : BlkOk X.N X.env.scope scope own)
    (hco : scope.isCoroutine = false) (nc : ∀ y ∈ scope.names, y.2 ≠ .cell) (h0 : scope.names.lookup (".0" : Str) = some NameKind.local)
    (hg : ∀ (s : Shared) (H : Hp) (C : Addr) (cl : List (Str × Addr)) (code : Value) (fp : List Addr), PG (gcx X s H (genEnv scope cl C code builtinsNs X.env) fp) tg g)
    (ht : ∀ (s : Shared) (H : Hp) (C : Addr) (cl : List (Str × Addr)) (code : Value) (fp : List Addr), PTs (gcx X s H (genEnv scope cl C code builtinsNs X.env) fp) ifs tt)
    (he : ∀ (s : Shared) (H : Hp) (C : Addr) (cl : List (Str × Addr)) (code : Value) (fp : List Addr), PE (gcx X s H (genEnv scope cl C code builtinsNs X.env) fp) elt te)
    (hs : ∀ v, genFold iter X.env v = pure v := by intro _; rfl)
    (hst : starEach [.GeneratorExp elt [⟨tg, iter, ifs, 0⟩] scope gpos] X.env = (false, eval (.GeneratorExp elt [⟨tg, iter, ifs, 0⟩] scope gpos) X.env) :: starEach [] X.env := by rfl) :
    PE X (.Call (.Name "all" p) [.GeneratorExp elt [⟨tg, iter, ifs, 0⟩] scope gpos] [] pos) (tAll P wi g tt te (own.map (·.2))) := by
  refine ⟨fun pins s σ H Q I h => ?_⟩
  have caught : ∀ n ∈ scope.names, n.2 = .free → ∃ c, X.env.cells.lookup n.1 = some c := fun n hn hf => I.ok.has _ ((ok.free n hn hf).elim .inl .inr)
  refine wpAny_Call_Name_kw (ld_blt I hgl hm hb ?_)
  refine PyProof.Rows.callWith_builtin1 ?_ hst (by rfl)
  rw [hst]
  show wpAny _ _ (spliced ((false, eval (.GeneratorExp elt [⟨tg, iter, ifs, 0⟩] scope gpos) X.env) :: backTo pos (starEach [] X.env))) _ _ s
  refine Calls.spliced_cons ?_
  refine wpAny_GeneratorExp_make hco (closure_ok caught) nc h0 ok.kind hr.depth ?_ hs
  refine thn (hi.run pins s σ H _ I h) fun xv s1 hx => thn hx fun itv s2 h2 => ?_
  obtain ⟨it, fp, tn, J, H2, e, I2, T, st2, f2, ⟨ps, hP, ht2⟩, q⟩ := h2
  subst e
  refine ⟨I2.nolimit, ?_⟩
  have hPs : s2.heap.get? P = some { cls := .none, data := .fields ps } := I2.hok P _ hP
  have cd : PySem.W.CodeHd s2.heap c P := TB.code.keeps fun b u e => I2.bk b u e
  have nfP : ∀ b ∈ fp, b ≠ P := fun b hb z => by
    have := (f2 b hb).1
    rw [z, hP] at this
    cases this
  -- behind the code object
  have cont : ∀ (code : Value) (h3 : Heap) (tk : Nat) (ps' : Array Value), Heap.ExtBut P s2.heap h3 → s2.heap.objs.size ≤ h3.objs.size → h3.get? P = some { cls := .none, data := .fields ps' } → (∃ more, ps' = ps ++ more) → TriplesOk ps'.toList →
      wpAny (model X.prog X.w) X.A (builtinsFor X.env.globals X.env.builtins) (fun bi s₄ => ∀ h', h'.Ns s₄.heap.objs.size (fun y => if y = ".0" then some (.ref it) else none) → Heap.SameBut s₄.heap.objs.size (s₄.heap.push { cls := .type "frame", data := .dict #[] }) h' →
          wpAny (model X.prog X.w) X.A (spliced (backTo pos (starEach [] X.env))) (fun vs s6 => wpAny (model X.prog X.w) X.A (call (.builtin "all") (.ref h'.objs.size :: vs)) (EP X pins σ Q) X.xe s6) X.xe { s₄ with
            gens := s₄.gens.push (.fresh (.compStart (.GeneratorExp elt [⟨tg, iter, ifs, 0⟩] scope gpos) 0 (.ref it) .none (genEnv scope (cloFrom X.env.cells scope.names []) s₄.heap.objs.size code bi X.env))),
            toks := s₄.toks + 1 + 1 + 1,
            heap := h'.push { cls := .type "generator", data := .fields #[.int s₄.gens.size 0, .str "<genexpr>" (s₄.toks + 1), .str (X.env.qual ++ "<genexpr>") (s₄.toks + 1 + 1)] } }) X.xe { s2 with heap := h3, toks := tk } := by
    intro code h3 tk ps' hx hsz hP3 ⟨more, em⟩ ht3
    obtain ⟨bmod, bobj, i1, i2, i3, i4, i5, i6, i7, i8⟩ := TB.bm
    have keep3 : ∀ b u, b ≠ P → s2.heap.get? b = some u → h3.get? b = some u := fun b u hb e => hx b u hb e
    refine wpAny_builtinsFor (m := X.mg) (by rw [I2.ok.glob]; exact (I2.mod.glob.keeps I2.bk).extBut hx TB.gP) i1 i2 (keep3 _ _ i4 (I2.bk _ _ i5)) i6 i7 i8 ?_
    intro h' hn' hs'
    -- the state ahead of the frame
    have I3 := GxR.inv_tab (more := more) (h' := h3) (g' := s2.gens) (d' := s2.drawn) (t' := tk) I2 hP (fun b u hb e => keep3 b u hb e) (by rw [← em]; exact hP3) I2.bare
    have hTab : GxR.Tabbed P H2 (upd H2 P (.tbl (ps ++ more))) := ⟨⟨ps ++ more, upd_same, by rw [← em]; exact ht3⟩, fun b hb => upd_ne hb⟩
    obtain ⟨W, ⟨m0, w0⟩, turn⟩ := q _ hTab
    generalize upd H2 P (.tbl (ps ++ more)) = H3 at I3 w0 hTab
    have st3 : tn 0 h3 := T.keep _ _ _ st2 fun b hb o e => keep3 b o (nfP b hb) e
    have f3 : ∀ b ∈ fp, FpOk X pins H3 b ∧ b < h3.objs.size := fun b hb => by
      obtain ⟨o, e, _⟩ := T.obj _ _ st3 b hb
      exact ⟨⟨by rw [hTab.2 b (nfP b hb)]; exact (f2 b hb).1, (f2 b hb).2⟩, Heap.lt_size e⟩
    generalize hs3 : ({ s2 with heap := h3, toks := tk } : Shared) = s3 at I3
    have es3 : h3 = s3.heap := by rw [← hs3]
    have hn'' : h'.Ns s3.heap.objs.size (fun y => if y = ".0" then some (.ref it) else none) := by rw [← es3]; exact hn'
    have hs'' : Heap.SameBut s3.heap.objs.size (s3.heap.push { cls := .type "frame", data := .dict #[] }) h' := by rw [← es3]; exact hs'
    rw [es3] at st3 f3
    show wpAny _ _ _ _ _ { s3 with
            gens := s3.gens.push (.fresh (.compStart (.GeneratorExp elt [⟨tg, iter, ifs, 0⟩] scope gpos) 0 (.ref it) .none (genEnv scope (cloFrom X.env.cells scope.names []) s3.heap.objs.size code builtinsNs X.env))),
            toks := s3.toks + 1 + 1 + 1,
            heap := h'.push { cls := .type "generator", data := .fields #[.int s3.gens.size 0, .str "<genexpr>" (s3.toks + 1), .str (X.env.qual ++ "<genexpr>") (s3.toks + 1 + 1)] } }
    have kp : ∀ b o, s3.heap.get? b = some o → h'.get? b = some o := fun b o e => hs''.extBut b o (Nat.ne_of_lt (Heap.lt_size e)) (Heap.get?_push_of_some _ e)
    have hsz' : h'.objs.size = s3.heap.objs.size + 1 := by rw [hs''.1, Heap.size_push]
    generalize hgo : ({ cls := .type "generator", data := .fields #[.int s3.gens.size 0, .str "<genexpr>" (s3.toks + 1), .str (X.env.qual ++ "<genexpr>") (s3.toks + 1 + 1)] } : Obj) = go
    have hgen0 : ∀ h : Heap, h.get? h'.objs.size = some go → h.IsGen h'.objs.size s3.gens.size := fun h e => ⟨go, _, _, e, by rw [← hgo], by rw [← hgo], by rw [← hgo]⟩
    have ngo : ∀ v, go.data ≠ .cell v := fun v z => by
      rw [← hgo] at z
      cases z
    have hpush : (h'.push go).get? h'.objs.size = some go := by
      rw [← hgo]
      exact Heap.get?_push_size _ rfl
    have kp2 : ∀ b o, s3.heap.get? b = some o → (h'.push go).get? b = some o := fun b o e => Heap.get?_push_of_some _ (kp b o e)
    have pg := hg s3 H3 s3.heap.objs.size (cloFrom X.env.cells scope.names []) code fp
    have pt := ht s3 H3 s3.heap.objs.size (cloFrom X.env.cells scope.names []) code fp
    have pe := he s3 H3 s3.heap.objs.size (cloFrom X.env.cells scope.names []) code fp
    have I4 := gen_start (code := code) (tk := s3.toks + 1 + 1 + 1) (h' := h'.push go) (G := s3.gens.push (.fresh (.compStart (.GeneratorExp elt [⟨tg, iter, ifs, 0⟩] scope gpos) 0 (.ref it) .none (genEnv scope (cloFrom X.env.cells scope.names []) s3.heap.objs.size code builtinsNs X.env)))) I3 ok nc hN f3 (hn''.push _) kp2 (AllBare.push I3.bare rfl)
    generalize hce : genEnv scope (cloFrom X.env.cells scope.names []) s3.heap.objs.size code builtinsNs X.env = ce at pg pt pe I4 ⊢
    have cL : ce.locals = s3.heap.objs.size := by subst hce; rfl
    have cS : ce.scope = scope := by subst hce; rfl
    have hgH : H3 h'.objs.size = none := I3.hok.fresh (by rw [hsz']; exact Nat.le_succ _)
    have nfs : h'.objs.size ∉ frs X.stack := fun z => by
      rcases List.mem_cons.mp (I3.stkSub _ z) with z | z
      · have := I3.lt
        rw [← z, hsz'] at this
        exact absurd (Nat.lt_of_succ_lt this) (Nat.lt_irrefl _)
      · exact I3.nofs (by rw [hsz']; exact Nat.le_succ _) z
    have I5 := I4.pins_of (pins' := [(h'.objs.size, go)]) fun p hp => by
      rw [List.mem_singleton.mp hp]
      refine ⟨hpush, hgH, ?_, nfs, ngo⟩
      show h'.objs.size ≠ ce.locals
      rw [cL, hsz']
      exact Nat.succ_ne_self _
    generalize hs5 : ({ s3 with heap := h'.push go, gens := s3.gens.push (.fresh (.compStart (.GeneratorExp elt [⟨tg, iter, ifs, 0⟩] scope gpos) 0 (.ref it) .none ce)), toks := s3.toks + 1 + 1 + 1 } : Shared) = s5 at I5
    have st5 : tn 0 s5.heap := T.keep _ _ _ st3 fun b _ o e => by rw [← hs5]; exact kp2 b o e
    have back : ∀ σ' H' s', Inv (gcx X s3 H3 ce fp) [(h'.objs.size, go)] σ' H' s' → Inv X pins σ H' s' := fun σ' H' s' I6 =>
      I3.call' (ch := fp) I6.os I6.base I6.hok I6.bare fun b hb => ⟨(f3 b hb).1.2.2.2.1, (f3 b hb).1.2.1, (f3 b hb).1.2.2.2.2.1, (f3 b hb).1.2.2.2.2.2⟩
    have hgen : ∀ σ' H' s', Inv (gcx X s3 H3 ce fp) [(h'.objs.size, go)] σ' H' s' → s'.heap.IsGen h'.objs.size s3.gens.size := fun σ' H' s' I6 =>
      hgen0 _ (I6.pin (h'.objs.size, go) (List.mem_append_right _ (List.mem_singleton.mpr rfl))).1
    have hgs : s5.gens[s3.gens.size]? = some (.fresh (.compStart (.GeneratorExp elt [⟨tg, iter, ifs, 0⟩] scope gpos) 0 (.ref it) .none ce)) := by
      rw [← hs5]
      exact Array.getElem?_push_size ..
    have seg : Seg (model X.prog X.w) X.A.in1.in1 (RG (gcx X s3 H3 ce fp) [(h'.objs.size, go)] fun H' => Q (.bl true) H') (YG (gcx X s3 H3 ce fp) [(h'.objs.size, go)] fun H' => Q (.bl false) H') (m0 + 1) (s5.setGen s3.gens.size .running)
        (.compStart (.GeneratorExp elt [⟨tg, iter, ifs, 0⟩] scope gpos) 0 (.ref it) .none ce) ((model X.prog X.w).den (.compStart (.GeneratorExp elt [⟨tg, iter, ifs, 0⟩] scope gpos) 0 (.ref it) .none ce)) [] (s5.setGen s3.gens.size .running) := by
      refine seg_start (i := 0) T st5 ?_
      exact seg_loop (Y := gcx X s3 H3 ce fp) (vs := own.map (·.2)) rfl rfl hc (by show ce.scope.isCoroutine = false; rw [cS]; exact hco) T pg pt pe (fun b hb => hb) rfl (fun p hp hb => by
          rw [List.mem_singleton.mp hp] at hb
          have := (f3 _ hb).2
          have z : h'.objs.size < s3.heap.objs.size := this
          rw [hsz'] at z
          omega) turn m0 (m0 + 1) 0 _ _ H3 (Nat.lt_succ_self _) (inv_gens I5 (allBare_setGen I5.bare rfl)) st5 (fun b hb => (f3 b hb).1.1) w0
    refine Calls.spliced_nil ?_
    refine call_function_tree F.kind_all F.plain_all F.entry_all (F.args_all1 _) ?_
    unfold Builtin.«all»
    refine wpAny_bind (m := oneArg "all" _) (wpAny_pure ?_)
    refine wpAny_bind (wpAny_pyIter_gen (hgen _ _ _ I5) ?_)
    refine wpAny_pure ⟨plainId_quiet F.plain_all_loop _, ?_⟩
    refine all_loop (Y := gcx X s3 H3 ce fp) (T := fun H' => Q (.bl true) H') (F := fun H' => Q (.bl false) H') hr.hd hr.depth hgen (fun σ' H' s' I6 hq => ?_) (fun σ' H' s' I6 hq => ?_) (m0 + 1) s5 (hgen _ _ _ I5) I5.nolimit ⟨_, hgs, rfl, seg⟩
    · exact ⟨.bl true, H', back _ _ _ I6, rfl, hq⟩
    · exact ⟨.bl false, H', back _ _ _ I6, rfl, hq⟩
  cases hf : codeAmong gpos ps.toList with
  | none =>
    refine wpAny_genexprCodeX hcode (cd.code hPs ht2) (cd.tab hPs) hf fun c' h' tk hx hge hlt hco' _ htab' _ => ?_
    have trip := hco'.choose_spec.choose_spec.choose_spec.choose_spec.choose_spec.choose_spec.choose_spec.choose_spec.choose_spec.choose_spec.2.2.2.2.2.2.2.2.2.1
    exact cont _ h' tk _ hx (Nat.le_trans hge (Nat.le_of_lt hlt)) htab'.2 ⟨#[_, _, _], rfl⟩ trip
  | some cv =>
    refine wpAny_genexprCode_hit hcode (cd.code hPs ht2) hf ?_
    exact cont cv s2.heap s2.toks ps (Heap.ExtBut.refl _ _) (Nat.le_refl _) hPs ⟨#[], by simp⟩ ht2
end
end GX

namespace GX
open PySem PySem.Spec PyProof.Rows L2 GenW
/-- all(..) over a walk -/
theorem all_it {J : It} {n : Nat} {G : Hp → Prop} {Y : Nat → Hp → V → Hp → Prop} (w : Walk J n G Y) {g : TG} {tt : TT} {te : TE} {vs : List Nat} {σw : L2.St} {H2 : Hp} {T F : Hp → Prop} (Pv : Nat → Hp → Prop) (h0 : Pv 0 H2) (hG : ∀ i H, i ≤ n → Pv i H → G H)
    (hs : ∀ i x H H', i < n → Pv i H → Y i H x H' → g x σw H' fun σ2 H2 => wipe σ2 vs = σw ∧ tt σ2 H2 fun b H3 => if b = true then te σ2 H3 fun y H4 => ∃ c : Bool, y = .bl c ∧ (c = true → Pv (i + 1) H4) ∧ (c = false → F H4) else Pv (i + 1) H3) (hd : ∀ H, Pv n H → T H) :
    ∃ W : Nat → Nat → Hp → Prop, (∃ m, W 0 m H2) ∧ AllTurn J g tt te vs σw W T F := by
  refine ⟨fun i left H => i + left = n ∧ Pv i H, ⟨n, Nat.zero_add n, h0⟩, fun i left H ⟨sum, pv⟩ => ?_⟩
  have good := hG i H (by omega) pv
  cases left with
  | zero =>
    have last : i = n := sum
    subst last
    exact .inl ⟨w.stops H good, hd H pv⟩
  | succ left =>
    have below : i < n := by omega
    exact .inr ⟨w.goes i H below good, Pv (i + 1), fun H' pv' => ⟨left, Nat.lt_succ_self _, by omega, pv'⟩, fun x H' y => hs i x H H' below pv (w.yields i H x H' below good y)⟩
/-! ### tables -/
def NT (o : HO) : Prop := ∀ q, o ≠ .tbl q
theorem nt_lst {xs : List V} : NT (.lst xs) := fun _ z => by cases z
theorem nt_tup {xs : List V} : NT (.tup xs) := fun _ z => by cases z
theorem nt_dK {xs : List (Key × V)} : NT (.dK xs) := fun _ z => by cases z
theorem nt_frz {o : Obj} {u : HO} : NT (.frz o u) := fun _ z => by cases z
def Tabs (Ps : List Addr) (H : Hp) : Prop := ∀ P ∈ Ps, GxR.TabG H P
/-- all is kept but the tables, which may have grown -/
structure SameN (Ps : List Addr) (H H' : Hp) : Prop where
  k : ∀ x y, NT y → H x = some y → H' x = some y
  q : ∀ x p, H x = some (.tbl p) → ∃ p', H' x = some (.tbl p')
  t : Tabs Ps H'
section
variable {Ps : List Addr} {H H' H1 H2 : Hp}
theorem SameN.refl (t : Tabs Ps H) : SameN Ps H H := ⟨fun _ _ _ e => e, fun _ p e => ⟨p, e⟩, t⟩
theorem SameN.trans (a : SameN Ps H H1) (b : SameN Ps H1 H2) : SameN Ps H H2 := ⟨fun x y n e => b.k x y n (a.k x y n e), fun x p e => let ⟨p', e'⟩ := a.q x p e; b.q x p' e', b.t⟩
theorem Tabs.same (t : Tabs Ps H) (s : Same H H') : Tabs Ps H' := fun P hP => let ⟨ps, e, h⟩ := t P hP; ⟨ps, s _ _ e, h⟩
theorem SameN.of (t : Tabs Ps H) (s : Same H H') : SameN Ps H H' := ⟨fun x y _ e => s x y e, fun x p e => ⟨p, s _ _ e⟩, t.same s⟩
theorem SameN.tab {P : Addr} (t : Tabs Ps H) (hP : P ∈ Ps) (s : GxR.Tabbed P H H') : SameN Ps H H' := by
  obtain ⟨ps, e0, _⟩ := t P hP
  refine ⟨fun x y n e => ?_, fun x p e => ?_, fun P' hP' => ?_⟩
  · rw [s.2 x fun z => by rw [z, e0] at e; exact n ps (Option.some.inj e).symm]
    exact e
  · by_cases z : x = P
    · obtain ⟨ps', e', _⟩ := s.1
      exact ⟨ps', by rw [z]; exact e'⟩
    · exact ⟨p, by rw [s.2 x z]; exact e⟩
  · by_cases z : P' = P
    · rw [z]
      exact s.1
    · obtain ⟨ps', e', h'⟩ := t P' hP'
      exact ⟨ps', by rw [s.2 P' z]; exact e', h'⟩
theorem SameN.free {p : Addr} (s : SameN Ps H H') (h : H' p = none) : H p = none := by
  cases e : H p with
  | none => rfl
  | some o =>
    by_cases z : ∃ q, o = .tbl q
    · obtain ⟨q, rfl⟩ := z
      obtain ⟨q', e'⟩ := s.q p q e
      rw [e'] at h
      cases h
    · rw [s.k p o (fun q y => z ⟨q, y⟩) e] at h
      cases h
theorem SameN.unlock {a : Addr} {u : HO} {o : Obj} (ha : H a = some u) (hu : NT u) (t : Tabs Ps H) (s : SameN Ps (upd H a (.frz o u)) H') : SameN Ps H (upd H' a u) := by
  have hP : ∀ P ∈ Ps, P ≠ a := fun P h z => by
    obtain ⟨ps, e, _⟩ := t P h
    rw [z, ha] at e
    exact hu ps (Option.some.inj e)
  refine ⟨fun x y n e => ?_, fun x p e => ?_, fun P h => ?_⟩
  · by_cases c : x = a
    · subst c
      rw [upd_same, ← ha]
      exact e
    · rw [upd_ne c]
      exact s.k _ _ n (by rw [upd_ne c]; exact e)
  · by_cases c : x = a
    · subst c
      rw [ha] at e
      exact absurd (Option.some.inj e) (hu p)
    · rw [upd_ne c]
      exact s.q _ _ (by rw [upd_ne c]; exact e)
  · obtain ⟨ps, e, h'⟩ := s.t P h
    exact ⟨ps, by rw [upd_ne (hP P h)]; exact e, h'⟩
theorem Tabs.lock {a : Addr} {u : HO} {o : Obj} (ha : H a = some u) (hu : NT u) (t : Tabs Ps H) : Tabs Ps (upd H a (.frz o u)) := fun P h => by
  obtain ⟨ps, e, h'⟩ := t P h
  refine ⟨ps, ?_, h'⟩
  rw [upd_ne fun z => by rw [z, ha] at e; exact hu ps (Option.some.inj e)]
  exact e
end
/-! ### a def whose code object is known -/
structure FunC (K : PySem.W.Frag) (x qual : Str) (st : Stmt) (f : Addr) (fd : FuncData) (c : Addr) : Prop where
  ex : ∃ (oc : Value) (od : Option Addr) (kV doc pm : Value) (an : Option Addr) (ct : Value) (osl : Array (Option Value)),
    fd = PySem.W.fnOf x qual (defArgs st) (defBody st) (defScope st) .none kV doc pm an (.ref c) ct ∧ K.lookup f = some ⟨oc, od, .func fd, osl⟩ ∧ PySem.W.codeIn K (.ref c) qual = true
  kp : PySem.W.keepIn K (.ref f) = true
section
variable {P : Program} {w : World} {K : PySem.W.Frag} {mg : Str → Option Value} {base : Heap}
theorem FunC.ok {x qual : Str} {st : Stmt} {f c : Addr} {fd : FuncData} {N ps : List Str} {k : Nat} {sp : Sp} (F : FunC K x qual st f fd c) (S : FnScope N ps (defScope st)) (len : ∀ vs H Q E, sp vs H Q E → vs.length = ps.length)
    (hbody : ∀ (A : Around) (outer : List Env) (s : Shared) (H : Hp) (vs : List V) (Q : VK) (E : XK), Room k (A.deeper (envOfC qual (defScope st) s.heap.objs.size f (.ref c))) → sp vs H Q E →
      ∃ t, PSs (cxOf CX0 P w K mg base N qual (defScope st) f (.ref c) A outer s H E).nox (defBody st) t ∧ t { nx := fun _ H' => Q .non H', rt := Q } (start N vs) H) : FnOk P w K mg base CX0 (k + 1) f fd ps sp := by
  obtain ⟨oc, od, kV, doc, pm, an, ct, osl, rfl, lk, hcd⟩ := F.ex
  exact fn_of lk hcd S len fun A outer s H vs Q E room said => (hbody A outer s H vs Q E room said).imp fun _ h => ⟨h.1.nox, h.2⟩
theorem FunC.fun {x qual : Str} {st : Stmt} {f c : Addr} {fd : FuncData} (F : FunC K x qual st f fd c) : Fun K x qual st f fd := by
  obtain ⟨oc, od, kV, doc, pm, an, ct, osl, e, lk, hcd⟩ := F.ex
  exact ⟨⟨oc, od, kV, doc, pm, an, _, ct, osl, e, lk, hcd⟩, F.kp⟩
end
/-! ### the end -/
/-- the table of the code object cd is not among what is written -/
def tabFree (K : PySem.W.Frag) (cd : Value) : Bool := match cd with
  | .ref c => (match K.lookup c with
      | some ⟨_, _, .fields vs, _⟩ => (match vs.toList.drop 11 with | .ref P :: _ => (K.lookup P).isNone | _ => false)
      | _ => false)
  | _ => false
/-- the def x's code object at c, its table at P, empty -/
def TabOf (K : PySem.W.Frag) (cd : Value) (h : Heap) (c P : Addr) : Prop := cd = .ref c ∧ h.get? P = some { cls := .none, data := .fields #[] } ∧ K.lookup P = none ∧ PySem.W.CodeHd h c P
def TabsTop (q : Program) (mg : Str → Option Value) (h : Heap) : Prop := ∀ d ∈ recsOf q, ∃ a o fd c P, mg d.name = some (.ref a) ∧ h.get? a = some o ∧ o.data = .func fd ∧ fd.code = .ref c ∧ h.IsCode c P #[] ∧ h.TableAt c P #[]
theorem tabOf {q : Program} {K : PySem.W.Frag} {mg : Str → Option Value} {h : Heap} {x : Str} {f : Addr} {params : Arguments} {body : List Stmt} {scope : Scope} {dV kV doc pm cd ct oc : Value} {an od : Option Addr} {osl : Array (Option Value)} {qual name : Str}
    (X : K.In h) (T : TabsTop q mg h) (hx : ((recsOf q).any fun e => e.name == x) = true) (hm : mg x = some (.ref f)) (lk : K.lookup f = some ⟨oc, od, .func (PySem.W.fnOf name qual params body scope dV kV doc pm an cd ct), osl⟩) (ht : tabFree K cd = true) :
    ∃ c P, TabOf K cd h c P := by
  obtain ⟨dL, hmem, hn1⟩ := List.any_eq_true.mp hx
  have hn2 : dL.name = x := beq_iff_eq.mp hn1
  obtain ⟨a', o', fd', c', P', h1, h2, h3, h4, h5, h6⟩ := T dL hmem
  rw [hn2, hm] at h1
  cases h1
  have g1 := X _ _ lk
  rw [g1] at h2
  cases h2
  have h3' : Data.func (PySem.W.fnOf name qual params body scope dV kV doc pm an cd ct) = .func fd' := h3
  cases h3'
  have h4' : cd = .ref c' := h4
  subst h4'
  refine ⟨c', P', rfl, h6.2, ?_, .of h5 h6⟩
  obtain ⟨⟨oc', vc, e1, _, e3, e4⟩, _⟩ := h6
  unfold tabFree at ht
  dsimp only at ht
  split at ht
  · rename_i vs sl hk
    have g2 := X _ _ hk
    rw [g2] at e1
    cases e1
    have e3' : Data.fields vs = .fields vc := e3
    cases e3'
    split at ht
    · rename_i P2 r hd
      have e5 : vc.toList[11]? = some (.ref P2) := by
        have : (vc.toList.drop 11)[0]? = some (.ref P2) := by rw [hd]; rfl
        rw [List.getElem?_drop] at this
        exact this
      rw [Array.getElem?_toList, e4] at e5
      cases e5
      exact Option.isNone_iff_eq_none.mp ht
    · cases ht
  · cases ht
theorem walk_ofTabs {l : PySem.W.OpenLaw} {n k : Nat} {q : Program} {loose : List Str} {XP : (Str → Option Value) → Heap → Prop} {YP : World → Heap → Prop} {d : DefRec} {K : Params → PySem.W.Frag} {CX : World → CXT} {x : Str}
    (most : l.most = some n) (small : n ≤ sizeLine) (plain : d.params.defaults = []) (room : Room k callerA) (hY : ∀ (w : World) (h : Heap), YP w h → (K w.params).In h)
    (F : ∀ (w : World) (mg : Str → Option Value) (fa : Addr) (h : Heap), (K w.params).In h → h.Ns mainGlobals mg → mg d.name = some (.ref fa) → TabsTop q mg h → LamX.LawAtS l w (K w.params) (CX w) k n x mg fa h)
    (calm : ∀ (w : World) (H : Hp) (s : Shared) (x : Value) (s' : Shared), CX w [] H s (fun _ _ _ => False) x s' → False) : PySem.W.WalkO q loose XP YP l.row.toRowW d [] (fun f vs => PySem.call f vs) := by
  refine Att.attach_callB most plain fun w _ s₁ mg _ fa _ _ _ _ a _ ns G Y _ _ _ hmg lstAt intsAt lenAt' bitsAt gensAt => ?_
  have KX := hY w _ Y
  obtain ⟨fd, cs, sp, hT, nT, C, hb, hsp, hF⟩ := F w mg fa _ KX G.T.g hmg G.T.tab
  exact LamX.law_callTs KX G.T.g G.T.b G.T.builtins G.T.nolimit gensAt hT nT C G.T.bmain lstAt intsAt (Nat.le_trans lenAt' small) room hF hb (fun H tabs sq => hsp H a ns lenAt' bitsAt tabs sq) fun H x s' => calm w H s₁ x s'
theorem tabB_of {base : Heap} {mg : Str → Option Value} {c P : Addr} (t : LamX.TabB base mg c P) : GxR.TabB base mg c P := ⟨t.code, t.bm, t.gP⟩
end GX

/-! rules of my own over the hand layer -/
namespace PySem.SeqAt
open AutoSeq1 (wpAny_loadPart')
open MeetsSeq MeetsSeq2 MeetsSeq3 SeqRoads2
section
variable {prog : Program} {w : World}
theorem my_neLoop (l b : Addr) (us vs : Array Value) (n m : Nat) (du dv : Option Addr) (su sv : Array (Option Value)) (hz : us.size = vs.size) (k : Nat) : ∀ i : Nat, us.size - i = k →
    MeetsIn prog w (Builtin.«list.__eq__.loop» ⟨[.ref l, .ref b, rawInt i, rawInt 3], []⟩) (fun A R s =>
      s.heap.get? l = some { cls := .type "list", dict := du, data := .seq us n, slots := su } ∧ s.heap.get? b = some { cls := .type "list", dict := dv, data := .seq vs m, slots := sv } ∧
      (∀ j (p : j < us.size) (q : j < vs.size), EqP prog w A.in1 s us[j] vs[j] true) ∧ R (.ok (.ret (.bool false))) s) := by
  induction k with
  | zero =>
    intro i hk A R s h
    obtain ⟨hp, g, d, tk, os⟩ := s
    obtain ⟨hl, hb, he, h⟩ := h
    wp_walk using wpAny_loadPart' hl, wpAny_loadPart' hb
    have e1 : us[((i : Nat) : Int).toNat]? = none := by simp; omega
    have e2 : vs[((i : Nat) : Int).toNat]? = none := by simp; omega
    rw [e1, e2]
    wp_walk using wpAny_loadPart' hl, wpAny_loadPart' hb
    show R (.ok (.ret (.bool (us.size != vs.size)))) _
    rw [hz]
    simpa using h
  | succ k ih =>
    intro i hk A R s h
    obtain ⟨hp, g, d, tk, os⟩ := s
    obtain ⟨hl, hb, he, h⟩ := h
    wp_walk using wpAny_loadPart' hl, wpAny_loadPart' hb
    have p1 : i < us.size := by omega
    have p2 : i < vs.size := by omega
    have e1 : us[((i : Nat) : Int).toNat]? = some us[i] := by simp [p1]
    have e2 : vs[((i : Nat) : Int).toNat]? = some vs[i] := by simp [p2]
    have ec : ((i : Int) + 1) = ((i + 1 : Nat) : Int) := by push_cast; rfl
    rw [e1, e2]
    refine wpAny_bind (he i p1 p2 _ _ ?_)
    wp_walk
    rw [ec]
    exact ⟨plainId_quiet plain_eq_loop _, codeAny_builtin entry_eq_loop (by
      rw [Around.under_plainId plain_eq_loop _]
      exact ih (i + 1) (by omega) A R _ ⟨hl, hb, he, h⟩)⟩
theorem my_listNe (l b : Addr) (us vs : Array Value) (n m : Nat) (du dv : Option Addr) (su sv : Array (Option Value)) (hz : us.size = vs.size) :
    MeetsIn prog w (Builtin.«list.__ne__» ⟨[.ref l, .ref b], []⟩) (fun A R s =>
      s.heap.get? l = some { cls := .type "list", dict := du, data := .seq us n, slots := su } ∧ s.heap.get? b = some { cls := .type "list", dict := dv, data := .seq vs m, slots := sv } ∧
      (∀ j (p : j < us.size) (q : j < vs.size), EqP prog w A.in1 s us[j] vs[j] true) ∧ R (.ok (.ret (.bool false))) s) := by
  intro A R s h
  obtain ⟨hp, g, d, tk, os⟩ := s
  obtain ⟨hl, hb, he, h⟩ := h
  have f3 := AutoSeq1.sub_list_list
  have hn : ¬ (us.size != vs.size) = true := by simp [hz]
  wp_walk using wpAny_loadPart' hl, wpAny_loadPart' hb
  exact ⟨plainId_quiet plain_eq_loop _, codeAny_builtin entry_eq_loop (by
    rw [Around.under_plainId plain_eq_loop _]
    exact my_neLoop l b us vs n m du dv su sv hz _ 0 rfl A R _ ⟨hl, hb, he, h⟩)⟩
theorem my_rcNe {A : Around} {s : Shared} {l b : Addr} {us vs : Array Value} (hl : s.heap.IsList l us) (hb : s.heap.IsList b vs) (hz : us.size = vs.size) (hu : A.units < cLine)
    (he : ∀ j (p : j < us.size) (q : j < vs.size), EqP prog w A.in1 s us[j] vs[j] true) (E Q : Value → Shared → Prop) (h : Q (.bool false) s) : wpAny (model prog w) A (richCompare .NotEq (.ref l) (.ref b)) Q E s := by
  obtain ⟨⟨c1, du, x1, su⟩, ho, hc, n, hd⟩ := id hl
  obtain ⟨⟨c2, dv, x2, sv⟩, ho2, hc2, m, hd2⟩ := id hb
  simp only at hc hd hc2 hd2
  subst hc hd hc2 hd2
  have ta : s.TypeIs (.ref l) "list" := ⟨_, ho, rfl⟩
  have tb : s.TypeIs (.ref b) "list" := ⟨_, ho2, rfl⟩
  exact wpAny_richCompare_same_room (op := .NotEq) ta tb F.slot_list_ne (call_meetsIn F.slot_list_ne ta F.entry_list_ne (F.args_list_ne_2 _ _) (my_listNe l b us vs n m du dv su sv hz)
    ⟨ho, ho2, he, show Value.bool false ≠ Value.notImplemented ∧ Q (.bool false) s from ⟨(fun x => nomatch x), h⟩⟩) hu
end
end PySem.SeqAt
namespace BR
open PySem PySem.Spec PyProof.Rows L2
section
variable {X : Cx}
/-- two lists that are equal to the bottom: a != b is False -/
def rNeV (K : PySem.W.Frag) : R2 := fun x y H Q => ∃ a b xs ys n, x = .ref a ∧ y = .ref b ∧ SqL K H a xs ∧ SqL K H b ys ∧ n ≤ 60 ∧ Paired (EqV K H n) xs ys ∧ Q (.bl false) H
theorem op_neV (hu : X.A.units + 64 < cLine) : OpR X (compareOp .NotEq) (rNeV X.K) := by
  intro pins s σ H x y v u Q I rx ry h
  obtain ⟨a, b, xs, ys, n, rfl, rfl, ha, hb, hn, hp, q⟩ := h
  cases (show v = Value.ref a from rx)
  cases (show u = Value.ref b from ry)
  obtain ⟨us, r1, p1, _⟩ := I.list ha
  obtain ⟨ws, r2, p2, _⟩ := I.list hb
  have hz : us.toArray.size = ws.toArray.size := by
    rw [List.size_toArray, List.size_toArray, ← r1.length, ← r2.length]
    exact Paired.length hp
  refine SeqAt.my_rcNe p1.isList p2.isList hz (by omega) (fun j h1 h2 => ?_) _ _ ⟨.bl false, H, I, rfl, q⟩
  have k := items_run (eqV_run I n X.A.in1 (by show X.A.units + 1 + n < cLine; omega)) hp r1 r2 j (by simpa using h1) (by simpa using h2)
  simpa using k
/-! *d in a display: the keys of a dict -/
theorem star_dK {pins : List (Addr × Obj)} {σ : L2.St} {H : Hp} {s : Shared} {p : Addr} {kvs : List (Key × V)} {E : Value → Shared → Prop} {Q : List Value → Shared → Prop} (hc : X.calm = true) (I : Inv X pins σ H s) (hk : H p = some (.dK kvs))
    (hQ : ∀ us s', Inv X pins σ H s' → Vals (kvs.map fun kv => kV kv.1) us → Q us s') : PySem.W.StarOf (model X.prog X.w) X.A E (.ref p) Q s := by
  obtain ⟨z, lo, vs, rk, hd⟩ := (show ObjOk X.prog X.w H s.heap p (.dK kvs) from I.hok p _ hk)
  obtain ⟨ep, hat⟩ := hd.dictAt
  have hl : kvs.length = vs.length := Paired.length rk
  have hT : s.TypeIs (.ref p) "dict" := hd.typeIs
  have zz : wpAny (model X.prog X.w) X.A (collect (.ref p)) Q E s := by
    refine PySem.W.kdu_collect (PySem.W.kdl_dict (knd := mixKind X.prog X.w) (kvs := vs) (ep := ep) lo) (I.ok.hd hc) hat (by rw [← hl]; exact z) fun h' tk acc hkeep hacc => ?_
    refine hQ acc.toList _ (I.kept (t' := tk) hkeep) ?_
    have el : acc.toList.length = acc.size := by simp
    refine vals_of_at (by rw [List.length_map, el, hacc.1, hl]) fun j x w h1 h2 => ?_
    obtain ⟨k, y, hky, hi⟩ := hacc.2 j w (by rw [← Array.getElem?_toList]; exact h2)
    have e1 : (kvs.map (·.1))[j]? = some k := by
      rw [KV.keys rk, List.getElem?_map, hky] <;> rfl
    have e2 : (kvs.map fun kv => kV kv.1)[j]? = some (kV k) := by
      have e3 : (kvs.map fun kv => kV kv.1) = (kvs.map (·.1)).map kV := by rw [List.map_map] <;> rfl
      rw [e3, List.getElem?_map, e1] <;> rfl
    rw [e2] at h1
    cases h1
    exact keyIs_rel hi
  unfold PySem.W.StarOf notIterableAtAll
  exact wpAny_bind (wpAny_specialOf hT PySem.F.slot_dict_iter.lookup (wpAny_pure ⟨rfl, zz⟩))
def tStarD (te : TE) (t : TA) : TA := fun σ H Q => te σ H fun x H1 => ∃ p kvs, x = V.ref p ∧ H1 p = some (.dK kvs) ∧ t σ H1 fun ys H2 => Q ((kvs.map fun kv => kV kv.1) ++ ys) H2
theorem pa_starD {e : Expr} {es : List Expr} {te : TE} {t : TA} {p : Pos} (hc : X.calm = true) (he : PE X e te) (hr : PA X es t) (hs : starEach (.Starred e p :: es) X.env = (true, eval e X.env) :: starEach es X.env := by rfl) : PA X (.Starred e p :: es) (tStarD te t) := by
  refine ⟨fun pos pins s σ H Q I h => ?_⟩
  refine PySem.W.items_star (thn (he.run pins s σ H _ I h) fun v s1 ⟨y, H1, I1, ry, a, kvs, ey, hx, q⟩ => ?_) hs
  subst ey
  obtain rfl : v = Value.ref a := ry
  refine star_dK hc I1 hx fun us s2 I2 rv => ?_
  exact thn (hr.run pos pins s2 σ H1 _ I2 q) fun ws s3 ⟨vs, H3, I3, r3, q3⟩ => ⟨_ ++ vs, H3, I3, rv.append r3, q3⟩
/-! rules whose reading names the written part, said with a letter for it (for the block of a comprehension) -/
theorem call_listK {K : PySem.W.Frag} (e : X.K = K) : CallR X (.type "list") (fun xs H Q => ∃ p ys, xs = [.ref p] ∧ (SqL K H p ys ∨ SqT K H p ys) ∧ ∀ l, H l = none → Q (.ref l) (upd H l (.lst ys))) := by
  subst e
  exact call_list_of
theorem op_inK {K : PySem.W.Frag} (e : X.K = K) : OpR X (compareOp .In) (rIn K false) := by
  subst e
  exact op_in_seq
theorem pt_truthK {K : PySem.W.Frag} {a : Expr} {ta : TE} (e : X.K = K) (ha : PE X a ta) (he : ∀ whole, isTrue a X.env whole = (do let v ← whole; standAt a.pos; holding [v] (truthy v))) :
    PT X a (fun σ H Q => ta σ H fun x H' => ∃ k, TruV K x H' k ∧ Q k H') := by
  subst e
  exact pt_truth ha he
theorem call_isiX {K : PySem.W.Frag} (e : X.K = K) : CallR X (.builtin "isinstance") (rIsi K) := by
  subst e
  exact call_isi
theorem pe_bmK {K : PySem.W.Frag} {o e : Expr} {es : List Expr} {to : TE} {t : TA} {name : Str} {apos cpos : Pos} {T id : String} {r : V → List V → Hp → VK → Prop} (eK : X.K = K)
    (pa : PlainAttrs T) (slot : Slot T name id) (hty : typeOf (.builtin id) = pure (.type "method_descriptor")) (hm : MtR X id r) (ho : PE X o to) (ha : PA X (e :: es) t)
    (h1 : attributeBase o name X.env (eval o X.env) = eval o X.env := by rfl)
    (h2 : ((backTo cpos (starEach (e :: es) X.env)).all (fun x => !x.1) && (backToKw cpos (keywordEach [] X.env)).all (fun x => x.1.isSome) && decide ((e :: es).length + ([] : List Keyword).length + (if ([] : List Keyword).isEmpty then 0 else 1) < 30)) = true := by rfl)
    (h3 : (apos.endLine == cpos.line) = true := by rfl) (h4 : starEach (e :: es) X.env = (false, eval e X.env) :: starEach es X.env := by rfl) (h5 : (backTo cpos (starEach es X.env)).any (·.1) = false := by rfl) :
    PE X (.Call (.Attribute o name apos) (e :: es) [] cpos) (tBM K T r to t) := by
  subst eK
  exact pe_bm pa slot hty hm ho ha h1 h2 h3 h4 h5
/-! list.count of a text in a list of texts -/
def eqsT (z : Str) : Value → Bool
  | .str y _ => y == z
  | _ => false
theorem eqsT_count {z : Str} : ∀ {ss : List Str} {us : List Value}, Vals (ss.map V.str) us → us.countP (eqsT z) = ss.count z
  | [], _, r => by cases r; rfl
  | y :: ss, _, r => by
    cases r with
    | cons h t =>
      obtain ⟨k, rfl⟩ := h
      rw [List.countP_cons, List.count_cons, eqsT_count t]
      rfl
theorem eqsT_at {A : Around} {s : Shared} {z : Str} {t : Tok} : ∀ {ss : List Str} {us : List Value}, Vals (ss.map V.str) us → ∀ y ∈ us, SeqAt.EqAt A s y (.str z t) (eqsT z y)
  | [], _, r, y, hy => by cases r; cases hy
  | x :: ss, _, r, y, hy => by
    cases r with
    | cons h q =>
      obtain ⟨k, rfl⟩ := h
      rcases List.mem_cons.mp hy with rfl | e
      · exact SeqAt.EqAt.str_str _ _ _ _
      · exact eqsT_at q y e
theorem mt_countS : MtR X "list.count" (fun x vs H Q => ∃ (p : Addr) (ss : List Str) (z : Str), x = .ref p ∧ vs = [.str z] ∧ SqL X.K H p (ss.map V.str) ∧ Q (.int (ss.count z : Nat)) H) := by
  intro pins s σ H x xs v us Q I rx rxs h
  obtain ⟨p, ss, z, rfl, rfl, hs, q⟩ := h
  cases rx
  obtain ⟨u, rfl, ru⟩ := rxs.one
  obtain ⟨t, rfl⟩ := ru
  obtain ⟨its, rv, ⟨⟨c1, dd, x1, sl⟩, n, ho, hc, hdn, hd⟩, hlen⟩ := I.list hs
  simp only at hc hd
  subst hc hd
  refine call_meets PySem.F.slot_list_count ⟨_, ho, rfl⟩ PySem.F.entry_list_count (PySem.F.args_list_count_2 _ _)
    (SeqAt.list_countAt p its.toArray n dd sl (.str z t) (eqsT z)) ⟨ho, fun y hy => eqsT_at rv y (by simpa using hy), ?_⟩
  have ec : its.toArray.toList.countP (eqsT z) = ss.count z := eqsT_count rv
  refine ⟨.int (ss.count z : Nat), H, I.tok _, ⟨s.toks, ?_⟩, q⟩
  show Value.int ((its.toArray.toList.countP (eqsT z) : Nat) : Int) s.toks = Value.int ((ss.count z : Nat) : Int) s.toks
  rw [ec]
theorem mt_countK {K : PySem.W.Frag} (e : X.K = K) : MtR X "list.count" (fun x vs H Q => ∃ (p : Addr) (ss : List Str) (z : Str), x = .ref p ∧ vs = [.str z] ∧ SqL K H p (ss.map V.str) ∧ Q (.int (ss.count z : Nat)) H) := by
  subst e
  exact mt_countS
end
end BR

namespace Bn
open PySem PySem.Spec PyProof.Rows L2 BR
/-! ### heaps -/
def Kp (b : Addr) (H H' : Hp) : Prop := ∀ a o, a ≠ b → H a = some o → H' a = some o
theorem Kp.refl (b : Addr) (H : Hp) : Kp b H H := fun _ _ _ h => h
theorem Kp.trans {b : Addr} {H H1 H2 : Hp} (x : Kp b H H1) (y : Kp b H1 H2) : Kp b H H2 := fun a o n h => y a o n (x a o n h)
theorem Kp.put {b : Addr} {H : Hp} {o : HO} : Kp b H (upd H b o) := fun a x n h => by
  rw [upd_ne n]
  exact h
theorem Kp.new {b p : Addr} {H : Hp} {o : HO} (h : H p = none) : Kp b H (upd H p o) := fun a x n e => by
  rw [upd_ne (ne_of_none e h)]
  exact e
theorem same_new {H : Hp} {p : Addr} {o : HO} (h : H p = none) : Same H (upd H p o) := fun b x e => by
  rw [upd_ne (ne_of_none e h)]
  exact e
theorem Kp.of_same {b : Addr} {H H' : Hp} (h : Same H H') : Kp b H H' := fun a o _ e => h a o e
theorem Same.kp {b : Addr} {H0 H H' : Hp} (s : Same H0 H) (n : H0 b = none) (k : Kp b H H') : Same H0 H' := fun a o e => k a o (ne_of_none e n) (s a o e)
/-- what is new is changed -/
theorem Same.own {p : Addr} {H0 H : Hp} {o : HO} (s : Same H0 H) (n : H0 p = none) : Same H0 (upd H p o) := fun a x e => by
  rw [upd_ne (ne_of_none e n)]
  exact s a x e
def Bx (H : Hp) (b : Addr) : Prop := ∃ x y z t : Int, H b = some (.lst [.int x, .int y, .int z, .int t])
theorem Bx.same {H H' : Hp} {b : Addr} (h : Bx H b) (s : Same H H') : Bx H' b := by
  obtain ⟨x, y, z, t, e⟩ := h
  exact ⟨x, y, z, t, s _ _ e⟩
theorem Bx.ne {H : Hp} {b p : Addr} (h : Bx H b) (n : H p = none) : b ≠ p := by
  obtain ⟨x, y, z, t, e⟩ := h
  exact ne_of_none e n
structure Kb (b : Addr) (H H' : Hp) : Prop where
  k : Kp b H H'
  x : Bx H' b
theorem Kb.refl {b : Addr} {H : Hp} (h : Bx H b) : Kb b H H := ⟨Kp.refl b H, h⟩
theorem Kb.trans {b : Addr} {H H1 H2 : Hp} (p : Kb b H H1) (q : Kb b H1 H2) : Kb b H H2 := ⟨p.k.trans q.k, q.x⟩
theorem Kb.new {b p : Addr} {H : Hp} {o : HO} (hb : Bx H b) (h : H p = none) : Kb b H (upd H p o) := ⟨Kp.new h, hb.same (same_new h)⟩
theorem Kb.free {b a : Addr} {H H' : Hp} (p : Kb b H H') (h : H' a = none) : H a = none := by
  cases e : H a with
  | none => rfl
  | some o =>
    by_cases q : a = b
    · subst q
      obtain ⟨x, y, z, t, e2⟩ := p.x
      rw [e2] at h
      cases h
    · rw [p.k a o q e] at h
      cases h
theorem Kb.own {b p : Addr} {H H' : Hp} {o : HO} (q : Kb b H H') (h : H p = none) (n : p ≠ b) : Kb b H (upd H' p o) := ⟨fun a x na e => by
  rw [upd_ne (ne_of_none e h)]
  exact q.k a x na e, by
  obtain ⟨x, y, z, t, e2⟩ := q.x
  exact ⟨x, y, z, t, by rw [upd_ne n.symm]; exact e2⟩⟩
theorem line1000 {n : Nat} (h : n ≤ 1000) : n ≤ sizeLine := Nat.le_of_lt (small1000 h)
theorem tYes_in {σ : L2.St} {H : Hp} {f g : Hp → Prop} (h : f H) : tYes σ H fun b H3 => if b = true then f H3 else g H3 := by
  show (if true = true then f H else g H)
  exact iteT h
def lenAt (H : Hp) (l : Addr) : Nat := match H l with
  | some (.lst xs) => xs.length
  | _ => 0
theorem lenAt_of {H : Hp} {l : Addr} {xs : List V} (h : H l = some (.lst xs)) : lenAt H l = xs.length := by
  unfold lenAt
  rw [h]
theorem ne_bx {H : Hp} {b p : Addr} {o : HO} (hb : Bx H b) (h : H p = some o) (hn : ∀ x y z t : Int, o ≠ .lst [.int x, .int y, .int z, .int t]) : p ≠ b := fun e => by
  obtain ⟨x, y, z, t, e2⟩ := hb
  rw [e, e2] at h
  exact hn x y z t (Option.some.inj h).symm
/-! ### texts -/
def okS (x : Str) : Prop := ∀ c ∈ TL.tl x, c < 0x110000
theorem okS_iff (x : Str) : PyData.strOk x = true ↔ okS x := by
  unfold PyData.strOk okS TL.tl
  rw [← Array.all_toList, List.all_eq_true]
  exact ⟨fun h c hc => of_decide_eq_true (h c hc), fun h c hc => decide_eq_true (h c hc)⟩
theorem strs_shaped : ∀ (vs : List Str), (∀ x ∈ vs, okS x) → PyData.canLayAll0 (vs.map PyData.str) = true ∧ PyData.depthAll (vs.map PyData.str) = 0
  | [], _ => ⟨rfl, rfl⟩
  | v :: vs, h => by
    obtain ⟨a, b⟩ := strs_shaped vs fun x hx => h x (List.mem_cons_of_mem _ hx)
    refine ⟨?_, ?_⟩
    · show (PyData.strOk v && PyData.canLayAll0 (vs.map PyData.str)) = true
      rw [a, (okS_iff v).mpr (h v (List.mem_cons_self ..))]
      rfl
    · show max 0 (PyData.depthAll (vs.map PyData.str)) = 0
      rw [b]
      rfl
theorem strs_list_shaped {vs : List Str} (h : ∀ x ∈ vs, okS x) : SeqAt.shaped (.list (vs.map PyData.str)) = true := by
  obtain ⟨a, b⟩ := strs_shaped vs h
  show (PyData.canLayAll0 (vs.map PyData.str) && decide (PyData.depthAll (vs.map PyData.str) + 1 ≤ 64)) = true
  rw [a, b]
  rfl
theorem strs_dp {K : PySem.W.Frag} {H : Hp} : ∀ (vs : List Str), DpAll K H (vs.map V.str) (vs.map PyData.str)
  | [] => .nil
  | v :: vs => .cons (.str v) (strs_dp vs)
theorem strs_nil (vs : List Str) : PyData.eqv (.list (vs.map PyData.str)) (.list []) = vs.isEmpty := by
  cases vs with
  | nil => rfl
  | cons v r => rfl
theorem strs_all {ws : List Str} : ∀ {ys : List V}, (∀ y ∈ ys, y ∈ ws.map V.str) → ∃ vs : List Str, ys = vs.map V.str ∧ ∀ v ∈ vs, v ∈ ws
  | [], _ => ⟨[], rfl, fun v hv => by cases hv⟩
  | y :: ys, h => by
    obtain ⟨vs, e, hv⟩ := strs_all (ys := ys) fun z hz => h z (List.mem_cons_of_mem _ hz)
    obtain ⟨x, hx, ex⟩ := List.mem_map.mp (h y (List.mem_cons_self ..))
    refine ⟨x :: vs, ?_, fun v hv' => ?_⟩
    · rw [List.map_cons, ex, e]
    · rcases List.mem_cons.mp hv' with rfl | q
      · exact hx
      · exact hv v q
theorem map_str_inj : ∀ {vs ws : List Str}, vs.map V.str = ws.map V.str → vs = ws
  | [], [], _ => rfl
  | [], _ :: _, h => by cases h
  | _ :: _, [], h => by cases h
  | v :: vs, w :: ws, h => by
    rw [List.map_cons, List.map_cons] at h
    injection h with h1 h2
    rw [V.str.inj h1, map_str_inj h2]
theorem strs_ne_ints {vs : List Str} (h : 1 ≤ vs.length) : ∀ x y z t : Int, HO.lst (vs.map V.str) ≠ .lst [.int x, .int y, .int z, .int t] := fun x y z t e => by
  cases vs with
  | nil => exact absurd h (by decide)
  | cons v r =>
    injection e with e1
    rw [List.map_cons] at e1
    injection e1 with e2 _
    cases e2
/-! ### features -/
structure FtD where
  n : Str
  vs : List Str
  t : Bool
def FtB (d : FtD) : Prop := 1 ≤ d.vs.length ∧ d.vs.length ≤ 6 ∧ okS d.n ∧ ∀ x ∈ d.vs, okS x
def Ft (H : Hp) (v : V) : Prop := ∃ p l d, v = .ref p ∧ H p = some (.tup [.str d.n, .ref l, .bl d.t]) ∧ H l = some (.lst (d.vs.map V.str)) ∧ FtB d
theorem Ft.kp {b : Addr} {H H' : Hp} {v : V} (h : Ft H v) (hb : Bx H b) (k : Kp b H H') : Ft H' v := by
  obtain ⟨p, l, d, rfl, e1, e2, hB⟩ := h
  exact ⟨p, l, d, rfl, k _ _ (ne_bx hb e1 (fun _ _ _ _ z => by cases z)) e1, k _ _ (ne_bx hb e2 (strs_ne_ints hB.1)) e2, hB⟩
theorem Ft.same {H H' : Hp} {v : V} (h : Ft H v) (s : Same H H') : Ft H' v := by
  obtain ⟨p, l, d, rfl, e1, e2, hB⟩ := h
  exact ⟨p, l, d, rfl, s _ _ e1, s _ _ e2, hB⟩
def NameOf (H : Hp) (v : V) (n : Str) : Prop := ∃ p l t, v = .ref p ∧ H p = some (.tup [.str n, .ref l, .bl t])
/-! ### bundles -/
abbrev BD := List (Str × List Str)
inductive Ents (H : Hp) : List (Key × V) → BD → Prop
  | nil : Ents H [] []
  | cons {l : Addr} {n : Str} {vs : List Str} {kvs : List (Key × V)} {b : BD} : H l = some (.lst (vs.map V.str)) → Ents H kvs b → Ents H ((.inr n, .ref l) :: kvs) ((n, vs) :: b)
theorem Ents.mono {H H' : Hp} {kvs : List (Key × V)} {b : BD} (h : Ents H kvs b) (s : ∀ l xs, H l = some (.lst xs) → (∃ n, (n, V.ref l) ∈ kvs) → H' l = some (.lst xs)) : Ents H' kvs b := by
  induction h with
  | nil => exact .nil
  | cons e _ ih => exact .cons (s _ _ e ⟨_, List.mem_cons_self ..⟩) (ih fun l xs h ⟨n, hm⟩ => s l xs h ⟨n, List.mem_cons_of_mem _ hm⟩)
theorem Ents.same {H H' : Hp} {kvs : List (Key × V)} {b : BD} (h : Ents H kvs b) (s : Same H H') : Ents H' kvs b := h.mono fun l xs e _ => s _ _ e
theorem Ents.length {H : Hp} {kvs : List (Key × V)} {b : BD} (h : Ents H kvs b) : kvs.length = b.length := by
  induction h with
  | nil => rfl
  | cons _ _ ih => simp [ih]
theorem Ents.keys {H : Hp} {kvs : List (Key × V)} {b : BD} (h : Ents H kvs b) : kvs.map (·.1) = b.map fun e => Sum.inr e.1 := by
  induction h with
  | nil => rfl
  | cons _ _ ih => rw [List.map_cons, List.map_cons, ih]
theorem Ents.get {H : Hp} {kvs : List (Key × V)} {b : BD} (h : Ents H kvs b) : ∀ {i : Nat} {k : Key} {v : V}, kvs[i]? = some (k, v) → ∃ n l vs, k = .inr n ∧ v = .ref l ∧ H l = some (.lst (vs.map V.str)) ∧ b[i]? = some (n, vs) := by
  induction h with
  | nil => intro i k v e; simp at e
  | cons hl _ ih =>
    intro i k v e
    cases i with
    | zero =>
      have e' := Option.some.inj e
      cases e'
      exact ⟨_, _, _, rfl, rfl, hl, rfl⟩
    | succ j => exact ih e
theorem Ents.app {H : Hp} {kvs ls : List (Key × V)} {b c : BD} (h : Ents H kvs b) (k : Ents H ls c) : Ents H (kvs ++ ls) (b ++ c) := by
  induction h with
  | nil => exact k
  | cons e _ ih => exact .cons e ih
/-- the values of a name, or none -/
def at? (b : BD) (n : Str) : Option (List Str) := (b.find? fun e => decide (e.1 = n)).map (·.2)
theorem at?_nil (n : Str) : at? [] n = none := rfl
theorem at?_cons (e : Str × List Str) (b : BD) (n : Str) : at? (e :: b) n = if e.1 = n then some e.2 else at? b n := by
  unfold at?
  rw [List.find?_cons]
  by_cases h : e.1 = n
  · rw [if_pos h, decide_eq_true h]
    rfl
  · rw [if_neg h, decide_eq_false h]
theorem Ents.val {H : Hp} {kvs : List (Key × V)} {b : BD} (h : Ents H kvs b) (n : Str) : (at? b n = none ∧ valV kvs (.inr n) = none) ∨ ∃ l vs, at? b n = some vs ∧ valV kvs (.inr n) = some (.ref l) ∧ H l = some (.lst (vs.map V.str)) ∧ (Sum.inr n, V.ref l) ∈ kvs := by
  induction h with
  | nil => exact .inl ⟨rfl, rfl⟩
  | @cons l m vs kvs b e _ ih =>
    by_cases q : m = n
    · subst q
      exact .inr ⟨l, vs, by rw [at?_cons, if_pos rfl], valV_pos rfl, e, List.mem_cons_self ..⟩
    · have q2 : ¬ (Sum.inr m : Key) = Sum.inr n := fun z => q (Sum.inr.inj z)
      rcases ih with ⟨h1, h2⟩ | ⟨l', vs', h1, h2, h3, h4⟩
      · exact .inl ⟨by rw [at?_cons, if_neg q]; exact h1, by rw [valV_neg q2]; exact h2⟩
      · exact .inr ⟨l', vs', by rw [at?_cons, if_neg q]; exact h1, by rw [valV_neg q2]; exact h2, h3, List.mem_cons_of_mem _ h4⟩
theorem at?_none_iff (b : BD) (n : Str) : at? b n = none ↔ n ∉ b.map (·.1) := by
  induction b with
  | nil => exact ⟨fun _ h => (nomatch h), fun _ => rfl⟩
  | cons e b ih =>
    rw [at?_cons, List.map_cons, List.mem_cons]
    by_cases h : e.1 = n
    · rw [if_pos h]
      exact ⟨fun z => by (cases z), fun z => absurd (Or.inl h.symm) z⟩
    · rw [if_neg h, ih]
      exact ⟨fun z q => q.elim (fun y => h y.symm) z, fun z y => z (.inr y)⟩
/-- a bundle's dict: names unlike, lists of one to twenty texts -/
def BdB (b : BD) : Prop := (b.map (·.1)).Nodup ∧ b.length ≤ 200 ∧ ∀ e ∈ b, okS e.1 ∧ 1 ≤ e.2.length ∧ e.2.length ≤ 20 ∧ ∀ x ∈ e.2, okS x
def Bd (H : Hp) (a : Addr) (b : BD) : Prop := ∃ kvs, H a = some (.dK kvs) ∧ Ents H kvs b ∧ BdB b
theorem Bd.same {H H' : Hp} {a : Addr} {b : BD} (h : Bd H a b) (s : Same H H') : Bd H' a b := by
  obtain ⟨kvs, e, x, y⟩ := h
  exact ⟨kvs, s _ _ e, x.same s, y⟩
theorem Ents.vals {H : Hp} {kvs : List (Key × V)} {b : BD} (h : Ents H kvs b) : ∀ {n : Key} {l : Addr}, (n, V.ref l) ∈ kvs → ∃ e ∈ b, H l = some (.lst (e.2.map V.str)) := by
  induction h with
  | nil => intro n l hm; cases hm
  | @cons l' m vs kvs b e _ ih =>
    intro n l hm
    rcases List.mem_cons.mp hm with q | q
    · cases q
      exact ⟨_, List.mem_cons_self .., e⟩
    · obtain ⟨x, hx, hl⟩ := ih q
      exact ⟨x, List.mem_cons_of_mem _ hx, hl⟩
theorem Bd.kp {b : Addr} {H H' : Hp} {a : Addr} {d : BD} (h : Bd H a d) (hb : Bx H b) (k : Kp b H H') : Bd H' a d := by
  obtain ⟨kvs, e, x, y⟩ := h
  refine ⟨kvs, k _ _ (ne_bx hb e (fun _ _ _ _ z => by cases z)) e, x.mono fun l xs hl ⟨n, hm⟩ => k _ _ ?_ hl, y⟩
  obtain ⟨e', he', hl'⟩ := x.vals hm
  exact ne_bx hb hl' (strs_ne_ints (y.2.2 e' he').2.1)
theorem rd_lock {H : Hp} {a d : Addr} {u v : HO} {o : Obj} (ha : H a = some v) (hd : H d = some u) : Rd (upd H d (.frz o u)) a v := by
  by_cases e : a = d
  · subst e
    rw [ha] at hd
    cases hd
    exact .inr ⟨o, upd_same⟩
  · exact .inl (by rw [upd_ne e]; exact ha)
theorem unlock {H : Hp} {d : Addr} {u : HO} {o : Obj} (hd : H d = some u) : upd (upd H d (.frz o u)) d u = H := by
  funext x
  by_cases e : x = d
  · subst e
    rw [upd_same, hd]
  · rw [upd_ne e, upd_ne e]
end Bn

namespace Bn
open PySem PySem.Spec PyProof.Rows L2 BR GX
def topS (i : Nat) : Stmt := PySem.Challenge.pw_speechloom_k04_what_bundles_let.main.body.getD i (.Pass ⟨0, 0, 0, 0⟩)
abbrev s_lets : Stmt := topS 1
theorem sc_lets : FnScope ["bundle", "marks", "name"] ["bundle", "marks"] (defScope s_lets) := ⟨rfl, rfl, rfl, by decide +kernel, rfl, by decide +kernel, by decide +kernel⟩
abbrev s_lies_in : Stmt := topS 2
theorem sc_lies_in : FnScope ["one", "other", "name"] ["one", "other"] (defScope s_lies_in) := ⟨rfl, rfl, rfl, by decide +kernel, rfl, by decide +kernel, by decide +kernel⟩
abbrev s_within : Stmt := topS 3
theorem sc_within : FnScope ["inner", "outer", "item"] ["inner", "outer"] (defScope s_within) := ⟨rfl, rfl, rfl, by decide +kernel, rfl, by decide +kernel, by decide +kernel⟩
abbrev s_l_cell : Stmt := topS 5
theorem sc_l_cell : FnScope ["_law_script", "_law_k"] ["_law_script", "_law_k"] (defScope s_l_cell) := ⟨rfl, rfl, rfl, by decide +kernel, rfl, by decide +kernel, by decide +kernel⟩
abbrev s_l_mixed : Stmt := topS 6
theorem sc_l_mixed : FnScope ["_law_number", "_law_k", "_law_once", "_law_twice"] ["_law_number", "_law_k"] (defScope s_l_mixed) := ⟨rfl, rfl, rfl, by decide +kernel, rfl, by decide +kernel, by decide +kernel⟩
abbrev s_l_box : Stmt := topS 7
theorem sc_l_box : FnScope ["_law_cell_here", "_law_k"] ["_law_cell_here", "_law_k"] (defScope s_l_box) := ⟨rfl, rfl, rfl, by decide +kernel, rfl, by decide +kernel, by decide +kernel⟩
abbrev s_l_take : Stmt := topS 8
theorem sc_l_take : FnScope ["_law_box_here", "_law_many", "_law_found"] ["_law_box_here", "_law_many"] (defScope s_l_take) := ⟨rfl, rfl, rfl, by decide +kernel, rfl, by decide +kernel, by decide +kernel⟩
abbrev s_l_some : Stmt := topS 9
theorem sc_l_some : FnScope ["_law_box_here", "_law_words", "_law_many", "_law_left", "_law_found"] ["_law_box_here", "_law_words", "_law_many"] (defScope s_l_some) := ⟨rfl, rfl, rfl, by decide +kernel, rfl, by decide +kernel, by decide +kernel⟩
abbrev s_l_names : Stmt := topS 10
theorem sc_l_names : FnScope ["_law_box_here", "_law_many", "_law_some_here"] ["_law_box_here", "_law_many"] (defScope s_l_names) := ⟨rfl, rfl, rfl, by decide +kernel, rfl, by decide +kernel, by decide +kernel⟩
abbrev s_l_features : Stmt := topS 11
theorem sc_l_features : FnScope ["_law_box_here", "_law_some_here", "_law_found", "_law_name", "_law_values"] ["_law_box_here"] (defScope s_l_features) := ⟨rfl, rfl, rfl, by decide +kernel, rfl, by decide +kernel, by decide +kernel⟩
abbrev s_l_bundle : Stmt := topS 12
theorem sc_l_bundle : FnScope ["_law_box_here", "_law_features_here", "_law_bundle_here", "_law_name", "_law_values", "_law_told", "_law_how", "_law_keep", "_law_value"] ["_law_box_here", "_law_features_here"] (defScope s_l_bundle) := ⟨rfl, rfl, rfl, by decide +kernel, rfl, by decide +kernel, by decide +kernel⟩
abbrev s_l_own : Stmt := topS 13
theorem sc_l_own : FnScope ["_law_bundle_here", "_law_name"] ["_law_bundle_here"] (defScope s_l_own) := ⟨rfl, rfl, rfl, by decide +kernel, rfl, by decide +kernel, by decide +kernel⟩
abbrev s_l_near : Stmt := topS 14
theorem sc_l_near : FnScope ["_law_box_here", "_law_bundle_here", "_law_features_here", "_law_made", "_law_name", "_law_values", "_law_told", "_law_how"] ["_law_box_here", "_law_bundle_here", "_law_features_here"] (defScope s_l_near) := ⟨rfl, rfl, rfl, by decide +kernel, rfl, by decide +kernel, by decide +kernel⟩
abbrev s_l_marks : Stmt := topS 15
theorem sc_l_marks : FnScope ["_law_box_here", "_law_features_here", "_law_bundle_here", "_law_marks_here", "_law_name", "_law_values", "_law_told", "_law_mine", "_law_some_here"] ["_law_box_here", "_law_features_here", "_law_bundle_here"] (defScope s_l_marks) := ⟨rfl, rfl, rfl, by decide +kernel, rfl, by decide +kernel, by decide +kernel⟩
abbrev s_l_lets : Stmt := topS 16
theorem sc_l_lets : FnScope ["_law_bundle_here", "_law_marks_here", "_law_name"] ["_law_bundle_here", "_law_marks_here"] (defScope s_l_lets) := ⟨rfl, rfl, rfl, by decide +kernel, rfl, by decide +kernel, by decide +kernel⟩
abbrev s_l_lies : Stmt := topS 17
theorem sc_l_lies : FnScope ["_law_one", "_law_other", "_law_name", "_law_strange", "_law_value"] ["_law_one", "_law_other"] (defScope s_l_lies) := ⟨rfl, rfl, rfl, by decide +kernel, rfl, by decide +kernel, by decide +kernel⟩
abbrev s_l_same : Stmt := topS 18
theorem sc_l_same : FnScope ["_law_found", "_law_due"] ["_law_found", "_law_due"] (defScope s_l_same) := ⟨rfl, rfl, rfl, by decide +kernel, rfl, by decide +kernel, by decide +kernel⟩
abbrev s_law : Stmt := topS 19
theorem sc_law : FnScope ["_law_script", "_law_k", "_law_cell_here", "_law_box_here", "_law_features_here", "_law_one", "_law_other", "_law_marks_here", "_law_kept", "_law_some_here", "_law_left", "_law_right", "_law_bundle_here", "_law_turn"] ["_law_script"] (defScope s_law) := ⟨rfl, rfl, rfl, by decide +kernel, rfl, by decide +kernel, by decide +kernel⟩
end Bn

namespace Bn
open PySem PySem.Spec PyProof.Rows L2 BR
section
variable {P : Program} {w : World} {K : PySem.W.Frag} {mg : Str → Option Value} {base : Heap}
/-! ### mixed -/
def spMixed : Sp := fun vs H Q _ => ∃ (n k : Int), vs = [.int n, .int k] ∧ ∀ m : Int, Q (.int m) H
theorem ok_mixed {f : Addr} {fd : FuncData} {k : Nat} (F : Fun K "_law_mixed" "_law_mixed" s_l_mixed f fd) : FnOk P w K mg base CX0 (k + 1) f fd ["_law_number", "_law_k"] spMixed := by
  refine F.ok sc_l_mixed (fun vs H Q E h => ?_) (fun cdv A outer s H vs Q E hr h => ?_)
  · obtain ⟨n, k, rfl, _⟩ := h
    rfl
  · obtain ⟨n, k, rfl, q⟩ := h
    refine ⟨_, pss_cons (ps_set (i := 2) sc_l_mixed.nd rfl (.inl rfl) (pe_op op_mod (pe_op op_mul (pe_op op_add (pe_op op_add (pe_op op_mod (pv 0) pe_int) (pe_op op_mul pe_int (pv 1))) pe_int) pe_int) pe_int))
      (pss_cons (ps_set (i := 3) sc_l_mixed.nd rfl (.inl rfl) (pe_op op_mod (pe_op op_mul (pv 2) (pe_op op_add (pe_op op_add (pe_op op_mod (pv 2) pe_int) (pv 1)) pe_int)) pe_int))
      (pss_one (ps_ret (pe_op op_mod (pe_op op_add (pe_op op_mul (pv 3) pe_int) (pv 2)) pe_int)))), ?_⟩
    refine ⟨_, rfl, _, _, rfl, rfl, (by show (0 : Int) < 2147483629; decide), _, rfl, _, _, rfl, rfl, .inl ⟨by decide, by decide⟩, _, _, rfl, rfl, _, _, rfl, rfl, _, _, rfl, rfl, .inr ⟨by decide, by decide⟩, _, _, rfl, rfl, (by show (0 : Int) < 2147483647; decide), ?_⟩
    generalize (n % 2147483629 + 7919 * k + 11) * 48271 = y
    have y0 := Int.emod_nonneg y (show (2147483647 : Int) ≠ 0 by decide)
    have y1 := Int.emod_lt_of_pos y (show (0 : Int) < 2147483647 by decide)
    refine ⟨_, rfl, _, rfl, _, _, rfl, rfl, (by show (0 : Int) < 1009; decide), _, rfl, _, _, rfl, rfl, _, _, rfl, rfl, _, _, rfl, rfl, .inl ⟨by omega, by omega⟩, _, _, rfl, rfl, (by show (0 : Int) < 998244353; decide), ?_⟩
    exact ⟨_, rfl, _, _, rfl, rfl, .inr ⟨by decide, by decide⟩, _, rfl, _, _, rfl, rfl, _, _, rfl, rfl, (by show (0 : Int) < 2147483629; decide), q _⟩
theorem bit_lo (b : Bool) : -(2 ^ 64) < (if b = true then (1 : Int) else 0) := by cases b <;> decide
theorem bit_hi (b : Bool) : (if b = true then (1 : Int) else 0) < 2 ^ 64 := by cases b <;> decide
/-! ### box -/
def spBox : Sp := fun vs H Q _ => ∃ (c k : Int), vs = [.int c, .int k] ∧ ∀ p H', H p = none → Same H H' → Bx H' p → Q (.ref p) H'
theorem ok_box {f : Addr} {fd : FuncData} {k : Nat} (F : Fun K "_law_box" "_law_box" s_l_box f fd) (ma : mg "abs" = none) (mi : mg "int" = none) : FnOk P w K mg base CX0 (k + 1) f fd ["_law_cell_here", "_law_k"] spBox := by
  refine F.ok sc_l_box (fun vs H Q E h => ?_) (fun cdv A outer s H vs Q E hr h => ?_)
  · obtain ⟨c, k, rfl, _⟩ := h
    rfl
  · obtain ⟨c, k, rfl, q⟩ := h
    refine ⟨_, pss_one (ps_ret (pe_lst (pa_cons (pe_op op_mul (pe_callB call_abs (by rfl) ma (by decide +kernel) (pa_cons (pv 0) pa_nil)) (pe_callTy call_int1 (by rfl) mi (by decide +kernel) (pa_cons (pe_cmpR op_ge (pe_callB call_abs (by rfl) ma (by decide +kernel) (pa_cons (pv 0) pa_nil)) (pe_op op_pow pe_int pe_int) (nomark _)) pa_nil)))
        (pa_cons (pv 0) (pa_cons (pv 1) (pa_cons pe_int pa_nil)))))), ?_⟩
    refine ⟨_, rfl, _, rfl, _, rfl, _, rfl, _, _, rfl, rfl, ⟨by decide, by decide, by decide⟩, _, _, rfl, rfl, .inr ⟨_, rfl, _, _, rfl, rfl, .inr ⟨bit_lo _, bit_hi _⟩, _, rfl, _, rfl, (show 4 ≤ sizeLine by decide), fun p np => ?_⟩⟩
    exact q p _ np (same_new np) ⟨_, _, _, _, upd_same⟩
/-! ### take -/
def spTake : Sp := fun vs H Q _ => ∃ (b : Addr) (m : Int), vs = [.ref b, .int m] ∧ Bx H b ∧ 0 < m ∧ m < 1073741824 ∧ ∀ (n : Int) H', 0 ≤ n → n < m → Kb b H H' → Q (.int n) H'
theorem ok_take {f fM : Addr} {fd fdM : FuncData} (F : Fun K "_law_take" "_law_take" s_l_take f fd)
    (FM : Fun K "_law_mixed" "_law_mixed" s_l_mixed fM fdM) (bM : Binds K fdM ["_law_number", "_law_k"] []) (gM : mg "_law_mixed" = some (.ref fM)) (md : mg "divmod" = none) : FnOk P w K mg base CX0 2 f fd ["_law_box_here", "_law_many"] spTake := by
  have GM : FnOk P w K mg base CX0 1 fM fdM ["_law_number", "_law_k"] spMixed := ok_mixed FM
  refine F.ok sc_l_take (fun vs H Q E h => ?_) (fun cdv A outer s H vs Q E hr h => ?_)
  · obtain ⟨b, m, rfl, _⟩ := h
    rfl
  · obtain ⟨b, m, rfl, ⟨x, y, z, t, hb⟩, m0, m1, q⟩ := h
    refine ⟨_, pss_cons (ps_asg (pe_op op_add (pe_ix ix_list (pv 0) pe_int (fun _ _ => rfl)) pe_int) (pg_sub (pv 0) pe_int set_list))
      (pss_cons (ps_if (pt_cmpR op_gt (pe_ix ix_list (pv 0) pe_int (fun _ _ => rfl)) pe_int (nomark _))
        (pss_cons (ps_asg (pe_callB call_divmod (by rfl) md (by decide +kernel) (pa_cons (pe_ix ix_list (pv 0) pe_int (fun _ _ => rfl)) (pa_cons (pv 1) pa_nil))) (pg_tup rfl (pgs_cons (pg_sub (pv 0) pe_int set_list) (pgs_cons (pg_name (i := 2) sc_l_take.nd rfl (.inl rfl)) pgs_nil))))
        (pss_one (ps_ret (pv 2)))) pss_nil)
      (pss_one (ps_ret (pe_op op_mod (pe_op op_fdiv (pe_call GM hr (by rfl) gM FM.kp bM .nil pass0 (pa_cons (pe_call GM hr (by rfl) gM FM.kp bM .nil pass0 (pa_cons (pe_ix ix_list (pv 0) pe_int (fun _ _ => rfl)) (pa_cons (pe_ix ix_list (pv 0) pe_int (fun _ _ => rfl)) pa_nil))) (pa_cons (pe_op op_add (pe_ix ix_list (pv 0) pe_int (fun _ _ => rfl)) (pe_ix ix_list (pv 0) pe_int (fun _ _ => rfl))) pa_nil))) pe_int) (pv 1))))), ?_⟩
    refine ⟨_, rfl, b, _, _, .int t, rfl, rfl, .inl (.inl hb), rfl, _, _, rfl, rfl, _, rfl, b, _, _, 3, rfl, rfl, hb, rfl, ?_⟩
    have hL : SqL K (upd H b (.lst [.int x, .int y, .int z, .int (t + 1)])) b [.int x, .int y, .int z, .int (t + 1)] := .inl (.inl upd_same)
    refine ⟨_, rfl, b, _, _, .int x, rfl, rfl, hL, rfl, _, _, rfl, rfl, _, rfl, ite2 (fun e => ?_) (fun e => ?_)⟩
    · refine ⟨_, rfl, b, _, _, .int x, rfl, rfl, hL, rfl, _, rfl, _, _, rfl, ⟨m0, m1⟩, fun p np => ?_⟩
      have nbp : b ≠ p := fun e => by
        rw [← e, upd_same] at np
        cases np
      have hb2 : (upd (upd H b (.lst [.int x, .int y, .int z, .int (t + 1)])) p (.tup [.int (x / m), .int (x % m)])) b = some (.lst [.int x, .int y, .int z, .int (t + 1)]) := by
        rw [upd_ne nbp, upd_same]
      refine ⟨p, _, rfl, .inl (.inl upd_same), rfl, _, _, rfl, _, rfl, b, _, _, 0, rfl, rfl, hb2, rfl, _, _, rfl, rfl, ?_⟩
      refine ⟨_, rfl, ?_⟩
      refine q _ _ (Int.emod_nonneg x (by omega)) (Int.emod_lt_of_pos x m0) ⟨fun a o n h => ?_, ⟨_, _, _, _, upd_same⟩⟩
      have ea : (upd H b (.lst [.int x, .int y, .int z, .int (t + 1)])) a = some o := by
        rw [upd_ne n]
        exact h
      rw [upd_ne n, upd_ne (ne_of_none ea np)]
      exact ea
    · refine ⟨_, rfl, b, _, _, .int y, rfl, rfl, hL, rfl, _, rfl, b, _, _, .int (t + 1), rfl, rfl, hL, rfl, _, _, rfl, fun n1 => ?_⟩
      refine ⟨_, rfl, b, _, _, .int z, rfl, rfl, hL, rfl, _, rfl, b, _, _, .int (t + 1), rfl, rfl, hL, rfl, _, _, rfl, rfl, _, _, rfl, fun n2 => ?_⟩
      refine ⟨_, _, rfl, rfl, ⟨by show (0 : Int) < 7; decide, by show (7 : Int) < 1073741824; decide⟩, _, rfl, _, _, rfl, rfl, m0, ?_⟩
      exact q _ _ (Int.emod_nonneg _ (by omega)) (Int.emod_lt_of_pos _ m0) ⟨Kp.put, ⟨_, _, _, _, upd_same⟩⟩
/-! ### some -/
def spSome (K : PySem.W.Frag) : Sp := fun vs H Q _ => ∃ (b r : Addr) (xs : List V) (m : Nat), vs = [.ref b, .ref r, .int m] ∧ Bx H b ∧ SqL K H r xs ∧ m ≤ xs.length ∧ xs.length ≤ 100 ∧ ∀ (p : Addr) (ys : List V) H', H p = none → Kb b H H' → H' p = some (.lst ys) → ys.length = m → (∀ y ∈ ys, y ∈ xs) → Q (.ref p) H'
theorem ok_some {f fT : Addr} {fd fdT : FuncData} (F : Fun K "_law_some" "_law_some" s_l_some f fd)
    (kT : PySem.W.keepIn K (.ref fT) = true) (bT : Binds K fdT ["_law_box_here", "_law_many"] []) (gT : mg "_law_take" = some (.ref fT)) (GT : FnOk P w K mg base CX0 2 fT fdT ["_law_box_here", "_law_many"] spTake)
    (ml : mg "len" = none) (mli : mg "list" = none) : FnOk P w K mg base CX0 3 f fd ["_law_box_here", "_law_words", "_law_many"] (spSome K) := by
  refine F.ok sc_l_some (fun vs H Q E h => ?_) (fun cdv A outer s H vs Q E hr h => ?_)
  · obtain ⟨b, r, xs, m, rfl, _⟩ := h
    rfl
  · obtain ⟨b, r, xs, m, rfl, hb, hS, hmx, hlen, q⟩ := h
    refine ⟨_, pss_cons (ps_set (i := 3) sc_l_some.nd rfl (.inl rfl) (pe_callTy call_list_of (by rfl) mli (by decide +kernel) (pa_cons (pv 1) pa_nil)))
      (pss_cons (ps_set (i := 4) sc_l_some.nd rfl (.inl rfl) (pe_lst pa_nil))
      (pss_cons (ps_while PassesOwn.never (pt_cmpR op_lt (pe_callB call_len_seq (by rfl) ml PySem.boot_len (pa_cons (pv 4) pa_nil)) (pv 2) (nomark _))
        (pss_one (ps_expr (pe_bm PySem.F.plainAttrs_list PySem.F.slot_list_append PySem.F.type_list_append mt_append (pv 4) (pa_cons
          (pe_bm PySem.F.plainAttrs_list PySem.F.slot_list_pop PySem.F.type_list_pop mt_popAt (pv 3) (pa_cons (pe_call GT hr (by rfl) gT kT bT .nil pass0 (pa_cons (pv 0) (pa_cons (pe_callB call_len_seq (by rfl) ml PySem.boot_len (pa_cons (pv 3) pa_nil)) pa_nil))) pa_nil)) pa_nil)))))
      (pss_one (ps_ret (pv 4))))), ?_⟩
    refine ⟨_, rfl, r, xs, rfl, .inl hS, fun l nl => ?_⟩
    refine ⟨Nat.zero_le _, fun d nd => ?_⟩
    have nlb : l ≠ b := (hb.ne nl).symm
    have hb1 : Bx (upd H l (.lst xs)) b := hb.same (same_new nl)
    have ndb : d ≠ b := (hb1.ne nd).symm
    have ndl : d ≠ l := fun e => by
      rw [e, upd_same] at nd
      cases nd
    have nd0 : H d = none := by
      rw [upd_ne ndl] at nd
      exact nd
    refine while_by (fun σ H' => ∃ xs' ys, σ = [some (.ref b), some (.ref r), some (.int m), some (.ref l), some (.ref d)] ∧ Kb b H H' ∧ H' l = some (.lst xs') ∧ H' d = some (.lst ys) ∧ xs'.length + ys.length = xs.length ∧ ys.length ≤ m ∧ (∀ y ∈ xs', y ∈ xs) ∧ ∀ y ∈ ys, y ∈ xs) (fun _ H' => lenAt H' l) ?_ (fun σ H' hP => ?_) (fun σ H' Q1 Q2 hq h => ?_)
    · refine ⟨xs, [], rfl, ((Kb.refl hb).own nl nlb).own nd0 ndb, ?_, upd_same, by simp, Nat.zero_le _, fun y hy => hy, fun y hy => by cases hy⟩
      rw [upd_ne ndl.symm, upd_same]
    · obtain ⟨xs', ys, rfl, kb, hl, hd, hle, hym, hx, hy⟩ := hP
      refine ⟨_, rfl, d, ys, rfl, .inl (.inl (.inl hd)), _, rfl, _, _, rfl, rfl, _, rfl, ite2 (fun e => ?_) (fun e => ?_)⟩
      · have e0 : (ys.length : Int) < (m : Int) := of_decide_eq_true e
        refine ⟨_, rfl, .inl ⟨rfl, _, .inl (.inl hd)⟩, _, rfl, .inl ⟨rfl, _, .inl (.inl hl)⟩, _, rfl, _, rfl, l, _, rfl, .inl (.inl (.inl hl)), b, _, rfl, kb.x, by omega, by omega, fun n H2 n0 n1 k2 => ?_⟩
        have hl2 : H2 l = some (.lst xs') := k2.k _ _ nlb hl
        have hd2 : H2 d = some (.lst ys) := k2.k _ _ ndb hd
        have hn : n.toNat < xs'.length := by omega
        refine ⟨l, xs', n, n.toNat, xs'[n.toNat], rfl, rfl, hl2, by omega, by omega, PySem.seqIndex_of n0 (by omega), List.getElem?_eq_getElem hn, ?_⟩
        have hd3 : (upd H2 l (.lst (xs'.eraseIdx n.toNat))) d = some (.lst ys) := by
          rw [upd_ne ndl]
          exact hd2
        refine ⟨d, ys, _, rfl, rfl, hd3, small1000 (by omega), ⟨xs'.eraseIdx n.toNat, ys ++ [xs'[n.toNat]], rfl, ((kb.trans k2).own nl nlb).own nd0 ndb, ?_, upd_same, ?_, ?_, fun y hy' => hx y (List.mem_of_mem_eraseIdx hy'), fun y hy' => ?_⟩, ?_⟩
        · rw [upd_ne ndl.symm, upd_same]
        · rw [List.length_eraseIdx_of_lt hn, List.length_append]
          show xs'.length - 1 + (ys.length + 1) = xs.length
          omega
        · rw [List.length_append]
          show ys.length + 1 ≤ m
          omega
        · rcases List.mem_append.mp hy' with q1 | q1
          · exact hy y q1
          · rw [List.mem_singleton.mp q1]
            exact hx _ (List.getElem_mem hn)
        · rw [lenAt_of hl, lenAt_of (xs := xs'.eraseIdx n.toNat) (by rw [upd_ne ndl.symm, upd_same]), List.length_eraseIdx_of_lt hn]
          omega
      · have e0 : ¬ (ys.length : Int) < (m : Int) := fun z => e (decide_eq_true z)
        exact ⟨_, rfl, q d ys _ nd0 kb hd (by omega) hy⟩
    · obtain ⟨v, hv, a, zs, e, hs, w', hw, i, j, e1, e2, k, hk, h5⟩ := h
      exact ⟨v, hv, a, zs, e, hs, w', hw, i, j, e1, e2, k, hk, hq _ _ h5⟩
end
end Bn

namespace Bn
open PySem PySem.Spec PyProof.Rows L2 BR
def names12 : List Str := ["a", "ab", "abc", "b", "case", "num", "z", "zz", "person", "aa", "quantity", "zzzzzzzz"]
def words12 : List Str := ["a", "b", "sg", "pl", "s", "sgs", "nom", "first", "aa", "pluralis", "x", "num"]
theorem names12_ok : ∀ x ∈ names12, okS x := fun x hx => (okS_iff x).mp ((List.all_eq_true.mp (show names12.all PyData.strOk = true by decide +kernel)) x hx)
theorem words12_ok : ∀ x ∈ words12, okS x := fun x hx => (okS_iff x).mp ((List.all_eq_true.mp (show words12.all PyData.strOk = true by decide +kernel)) x hx)
section
variable {P : Program} {w : World} {K : PySem.W.Frag} {mg : Str → Option Value} {base : Heap}
/-! ### names -/
def spNames : Sp := fun vs H Q _ => ∃ (b : Addr) (m : Nat), vs = [.ref b, .int m] ∧ Bx H b ∧ m ≤ 12 ∧ ∀ (p : Addr) (ns : List Str) H', H p = none → Kb b H H' → H' p = some (.lst (ns.map V.str)) → ns.length = m → (∀ x ∈ ns, okS x) → Q (.ref p) H'
theorem ok_names {f fS : Addr} {fd fdS : FuncData} (F : Fun K "_law_names" "_law_names" s_l_names f fd)
    (kS : PySem.W.keepIn K (.ref fS) = true) (bS : Binds K fdS ["_law_box_here", "_law_words", "_law_many"] []) (gS : mg "_law_some" = some (.ref fS)) (GS : FnOk P w K mg base CX0 3 fS fdS ["_law_box_here", "_law_words", "_law_many"] (spSome K)) : FnOk P w K mg base CX0 4 f fd ["_law_box_here", "_law_many"] spNames := by
  refine F.ok sc_l_names (fun vs H Q E h => ?_) (fun cdv A outer s H vs Q E hr h => ?_)
  · obtain ⟨b, m, rfl, _⟩ := h
    rfl
  · obtain ⟨b, m, rfl, hb, hm, q⟩ := h
    refine ⟨_, pss_cons (ps_set (i := 2) sc_l_names.nd rfl (.inl rfl) (pe_lst (pa_cons pe_str (pa_cons pe_str (pa_cons pe_str (pa_cons pe_str (pa_cons pe_str (pa_cons pe_str (pa_cons pe_str (pa_cons pe_str (pa_cons pe_str (pa_cons pe_str (pa_cons pe_str (pa_cons pe_str pa_nil)))))))))))))) (pss_one (ps_ret (pe_call GS hr (by rfl) gS kS bS .nil pass0 (pa_cons (pv 0) (pa_cons (pv 2) (pa_cons (pv 1) pa_nil)))))), ?_⟩
    refine ⟨(show 12 ≤ sizeLine by decide), fun l nl => ?_⟩
    have hl : (upd H l (.lst (names12.map V.str))) l = some (.lst (names12.map V.str)) := upd_same
    refine ⟨_, rfl, _, rfl, _, rfl, b, l, names12.map V.str, m, rfl, hb.same (same_new nl), .inl (.inl hl), by rw [List.length_map]; exact hm, by rw [List.length_map]; decide, fun p ys H' np k' hp hy hm' => ?_⟩
    obtain ⟨ns, rfl, hn⟩ := strs_all hm'
    rw [List.length_map] at hy
    exact q p ns H' ((Kb.new hb nl).free np) ((Kb.new hb nl).trans k') hp hy fun x hx => names12_ok x (hn x hx)
theorem pick2 (a b : Int) (k : Bool) : atI [V.int a, V.int b] (if k = true then 1 else 0) = some (V.int (if k = true then b else a)) := by cases k <;> rfl
theorem pick3 (a b c n : Int) (h0 : 0 ≤ n) (h1 : n < 3) : ∃ m : Int, atI [V.int a, V.int b, V.int c] n = some (V.int m) ∧ (m = a ∨ m = b ∨ m = c) := by
  have e : n = 0 ∨ n = 1 ∨ n = 2 := by omega
  rcases e with rfl | rfl | rfl
  · exact ⟨a, rfl, .inl rfl⟩
  · exact ⟨b, rfl, .inr (.inl rfl)⟩
  · exact ⟨c, rfl, .inr (.inr rfl)⟩
/-! ### features -/
def spFeatures : Sp := fun vs H Q _ => ∃ (b : Addr), vs = [.ref b] ∧ Bx H b ∧ ∀ (p : Addr) (ys : List V) H', H p = none → Kb b H H' → H' p = some (.lst ys) → ys.length ≤ 6 → (∀ y ∈ ys, Ft H' y) → Q (.ref p) H'
theorem ok_features {f fT fS fN : Addr} {fd fdT fdS fdN : FuncData} (F : Fun K "_law_features" "_law_features" s_l_features f fd)
    (kT : PySem.W.keepIn K (.ref fT) = true) (bT : Binds K fdT ["_law_box_here", "_law_many"] []) (gT : mg "_law_take" = some (.ref fT)) (GT : FnOk P w K mg base CX0 2 fT fdT ["_law_box_here", "_law_many"] spTake)
    (kS : PySem.W.keepIn K (.ref fS) = true) (bS : Binds K fdS ["_law_box_here", "_law_words", "_law_many"] []) (gS : mg "_law_some" = some (.ref fS)) (GS : FnOk P w K mg base CX0 3 fS fdS ["_law_box_here", "_law_words", "_law_many"] (spSome K))
    (kN : PySem.W.keepIn K (.ref fN) = true) (bN : Binds K fdN ["_law_box_here", "_law_many"] []) (gN : mg "_law_names" = some (.ref fN)) (GN : FnOk P w K mg base CX0 4 fN fdN ["_law_box_here", "_law_many"] spNames)
    (mi : mg "int" = none) : FnOk P w K mg base CX0 5 f fd ["_law_box_here"] spFeatures := by
  refine F.ok sc_l_features (fun vs H Q E h => ?_) (fun cdv A outer s H vs Q E hr h => ?_)
  · obtain ⟨b, rfl, _⟩ := h
    rfl
  · obtain ⟨b, rfl, hb, q⟩ := h
    refine ⟨_, pss_cons (ps_set (i := 1) sc_l_features.nd rfl (.inl rfl) (pe_lst (pa_cons pe_str (pa_cons pe_str (pa_cons pe_str (pa_cons pe_str (pa_cons pe_str (pa_cons pe_str (pa_cons pe_str (pa_cons pe_str (pa_cons pe_str (pa_cons pe_str (pa_cons pe_str (pa_cons pe_str pa_nil))))))))))))))
      (pss_cons (ps_set (i := 2) sc_l_features.nd rfl (.inl rfl) (pe_lst pa_nil))
      (pss_cons (ps_for PassesOwn.never rfl (pi_list (pe_call GN hr (by rfl) gN kN bN .nil pass0 (pa_cons (pv 0) (pa_cons (pe_ix ix_list (pe_lst (pa_cons (pe_call GT (hr.mono (by decide)) (by rfl) gT kT bT .nil pass0 (pa_cons (pv 0) (pa_cons pe_int pa_nil))) (pa_cons pe_int pa_nil))) (pe_callTy call_int1 (by rfl) mi (by decide +kernel) (pa_cons (pe_cmpR op_eq (pe_call GT (hr.mono (by decide)) (by rfl) gT kT bT .nil pass0 (pa_cons (pv 0) (pa_cons pe_int pa_nil))) pe_int (nomark _)) pa_nil)) (fun _ _ => rfl)) pa_nil)))) (pg_name (i := 3) sc_l_features.nd rfl (.inl rfl))
        (pss_cons (ps_set (i := 4) sc_l_features.nd rfl (.inl rfl) (pe_call GS (hr.mono (by decide)) (by rfl) gS kS bS .nil pass0 (pa_cons (pv 0) (pa_cons (pv 1) (pa_cons (pe_ix ix_list (pe_lst (pa_cons (pe_op op_add pe_int (pe_call GT (hr.mono (by decide)) (by rfl) gT kT bT .nil pass0 (pa_cons (pv 0) (pa_cons pe_int pa_nil)))) (pa_cons pe_int (pa_cons pe_int pa_nil)))) (pe_call GT (hr.mono (by decide)) (by rfl) gT kT bT .nil pass0 (pa_cons (pv 0) (pa_cons pe_int pa_nil))) (fun _ _ => rfl)) pa_nil)))))
        (pss_one (ps_expr (pe_bm PySem.F.plainAttrs_list PySem.F.slot_list_append PySem.F.type_list_append mt_append (pv 2) (pa_cons (pe_tup (pa_cons (pv 3) (pa_cons (pv 4) (pa_cons (pe_cmpR op_eq (pe_call GT (hr.mono (by decide)) (by rfl) gT kT bT .nil pass0 (pa_cons (pv 0) (pa_cons pe_int pa_nil))) pe_int (nomark _)) pa_nil)))) pa_nil))))))
      (pss_one (ps_ret (pv 2))))), ?_⟩
    -- some_here, found
    refine ⟨(show 12 ≤ sizeLine by decide), fun l nl => ?_⟩
    have hl0 : (upd H l (.lst (words12.map V.str))) l = some (.lst (words12.map V.str)) := upd_same
    have k1 : Kb b H (upd H l (.lst (words12.map V.str))) := Kb.new hb nl
    show _ ∧ _
    refine ⟨Nat.zero_le _, fun d nd => ?_⟩
    have nd' : (upd H l (.lst (words12.map V.str))) d = none := nd
    have nlb : l ≠ b := (hb.ne nl).symm
    have ndb : d ≠ b := (k1.x.ne nd').symm
    have ndH : H d = none := k1.free nd'
    have ndl : d ≠ l := fun e => by
      rw [e, hl0] at nd'
      cases nd'
    have k2 : Kb b H (upd (upd H l (.lst (words12.map V.str))) d (.lst [])) := k1.trans (Kb.new k1.x nd')
    have hd2 : (upd (upd H l (.lst (words12.map V.str))) d (.lst [])) d = some (.lst []) := upd_same
    have hl2 : (upd (upd H l (.lst (words12.map V.str))) d (.lst [])) l = some (.lst (words12.map V.str)) := by
      rw [upd_ne ndl.symm]
      exact hl0
    -- names(box, ..)
    refine ⟨_, rfl, _, rfl, b, 7, rfl, k2.x, by decide, by decide, fun n1 H3 n10 n11 k3 => ⟨(show 2 ≤ sizeLine by decide), fun p np => ?_⟩⟩
    have k4 := (k2.trans k3).trans (Kb.new (o := .lst [.int n1, .int 6]) k3.x np)
    have npb : p ≠ b := (k3.x.ne np).symm
    refine ⟨_, rfl, b, 3, rfl, k4.x, by decide, by decide, fun n2 H5 n20 n21 k5 => ⟨rfl, .inr ⟨_, rfl, p, _, _, _, rfl, rfl, .inl (.inl (k5.k _ _ npb upd_same)), pick2 n1 6 _, ?_⟩⟩⟩
    obtain ⟨m, em, hm⟩ : ∃ m : Nat, (if decide (V.int n2 = V.int 0) = true then (6 : Int) else n1) = (m : Int) ∧ m ≤ 6 := by
      by_cases c : decide (V.int n2 = V.int 0) = true
      · rw [if_pos c]
        exact ⟨6, rfl, Nat.le_refl _⟩
      · rw [if_neg c]
        exact ⟨n1.toNat, by omega, by omega⟩
    rw [em]
    have k6 := k4.trans k5
    have hd6 : H5 d = some (.lst []) := k5.k _ _ ndb (Kp.new (o := .lst [.int n1, .int 6]) np _ _ ndb (k3.k _ _ ndb hd2))
    have hl6 : H5 l = some (.lst (words12.map V.str)) := k5.k _ _ nlb (Kp.new (o := .lst [.int n1, .int 6]) np _ _ nlb (k3.k _ _ nlb hl2))
    refine ⟨b, m, rfl, k6.x, by omega, fun ln ns H7 nln k7 hln hns okn => ?_⟩
    have nlnb : ln ≠ b := (k6.x.ne nln).symm
    have nlnd : ln ≠ d := (ne_of_none hd6 nln).symm
    have k8 := k6.trans k7
    refine ⟨ln, rfl, ⟨_, .inl (.inl hln)⟩, for_list (K := K) (a := ln) (xs := ns.map V.str) (fun i σ H' => ∃ y3 y4, σ = [some (.ref b), some (.ref l), some (.ref d), y3, y4] ∧ Kb b H H' ∧ H' ln = some (.lst (ns.map V.str)) ∧ H' l = some (.lst (words12.map V.str)) ∧ ∃ ys, H' d = some (.lst ys) ∧ ys.length = i ∧ ∀ y ∈ ys, Ft H' y)
      ⟨none, none, rfl, k8, hln, k7.k _ _ nlb hl6, [], k7.k _ _ ndb hd6, rfl, fun y hy => by cases hy⟩ (fun i σ H' _ h => ?_) (fun i x σ H' hx hP => ?_) (fun σ H' hP => ?_)⟩
    · obtain ⟨_, _, _, _, h, _⟩ := h
      exact .inl (.inl h)
    · obtain ⟨y3, y4, rfl, kb, hn', hw', ys, hd', hyl, hy⟩ := hP
      rw [List.getElem?_map] at hx
      obtain ⟨n, en, ex⟩ := Option.map_eq_some_iff.mp hx
      subst ex
      have nmem : n ∈ ns := List.mem_of_getElem? en
      have hil : i < ns.length := (List.getElem?_eq_some_iff.mp en).1
      refine ⟨_, rfl, _, rfl, _, rfl, b, 6, rfl, kb.x, by decide, by decide, fun a1 HA a10 a11 kA => ⟨_, _, rfl, rfl, (show 3 ≤ sizeLine by decide), fun p2 np2 => ?_⟩⟩
      have kB := kA.trans (Kb.new (o := .lst [.int (1 + a1), .int 6, .int 2]) kA.x np2)
      have np2b : p2 ≠ b := (kA.x.ne np2).symm
      refine ⟨_, rfl, b, 3, rfl, kB.x, by decide, by decide, fun a2 HC a20 a21 kC => ?_⟩
      obtain ⟨m2, em2, hm2⟩ := pick3 (1 + a1) 6 2 a2 a20 a21
      obtain ⟨m3, rfl⟩ : ∃ m3 : Nat, m2 = (m3 : Int) := ⟨m2.toNat, by omega⟩
      have kD := kB.trans kC
      refine ⟨p2, _, a2, _, rfl, rfl, .inl (.inl (kC.k _ _ np2b upd_same)), em2, b, l, words12.map V.str, m3, rfl, kD.x, .inl (.inl (kD.k _ _ nlb hw')), ?_, by rw [List.length_map]; decide, fun pv ws HE npv kE hpv hwl hwm => ?_⟩
      · rw [List.length_map]
        show m3 ≤ 12
        omega
      obtain ⟨us, rfl, hus⟩ := strs_all hwm
      rw [List.length_map] at hwl
      have kF := kD.trans kE
      have npvb : pv ≠ b := (kD.x.ne npv).symm
      -- found.append(..)
      refine ⟨_, rfl, .inl ⟨rfl, _, .inl (.inl (kF.k _ _ ndb hd'))⟩, _, rfl, _, rfl, _, rfl, b, 2, rfl, kF.x, by decide, by decide, fun a3 HG a30 a31 kG => ⟨rfl, (show 3 ≤ sizeLine by decide), fun pt npt => ?_⟩⟩
      have kH := kF.trans kG
      have smt : Same HG (upd HG pt (.tup [.str n, .ref pv, .bl (decide (V.int a3 = V.int 1))])) := same_new npt
      have hdG := kH.k _ _ ndb hd'
      refine ⟨d, ys, _, rfl, rfl, smt _ _ hdG, small1000 (by omega), _, _, rfl, ((kb.trans kH).trans (Kb.new kH.x npt)).own ndH ndb, ?_, ?_, ys ++ [.ref pt], upd_same, by rw [List.length_append, hyl]; rfl, fun y hy' => ?_⟩
      · rw [upd_ne nlnd]
        exact smt _ _ (kH.k _ _ nlnb hn')
      · rw [upd_ne ndl.symm]
        exact smt _ _ (kH.k _ _ nlb hw')
      · have keep : ∀ {v : V}, Ft (upd HG pt (.tup [.str n, .ref pv, .bl (decide (V.int a3 = V.int 1))])) v → Ft (upd (upd HG pt (.tup [.str n, .ref pv, .bl (decide (V.int a3 = V.int 1))])) d (.lst (ys ++ [.ref pt]))) v := by
          intro v hv
          obtain ⟨p', l', dd, rfl, e1, e2, hB⟩ := hv
          refine ⟨p', l', dd, rfl, ?_, ?_, hB⟩
          · rw [upd_ne (ne_of e1 (smt _ _ hdG) (by intro z; cases z))]
            exact e1
          · have : l' ≠ d := fun z => by
              subst z
              rw [smt _ _ hdG] at e2
              have e3 := HO.lst.inj (Option.some.inj e2)
              cases hv2 : dd.vs with
              | nil => exact absurd hB.1 (by rw [hv2]; decide)
              | cons v0 r0 =>
                rw [hv2] at e3
                cases hys : ys with
                | nil => rw [hys] at e3; cases e3
                | cons y0 yr =>
                  rw [hys] at e3
                  injection e3 with e4 _
                  obtain ⟨q1, q2, q3, q4, _⟩ := hy y0 (by rw [hys]; exact List.mem_cons_self ..)
                  rw [q4] at e4
                  cases e4
            rw [upd_ne this]
            exact e2
        rcases List.mem_append.mp hy' with q1 | q1
        · exact keep (((hy y q1).kp kb.x kH.k).same smt)
        · rw [List.mem_singleton.mp q1]
          exact keep ⟨pt, pv, ⟨n, us, _⟩, rfl, upd_same, smt _ _ (kG.k _ _ npvb hpv), by show 1 ≤ us.length; omega, by show us.length ≤ 6; omega, okn n nmem, fun x hx => words12_ok x (hus x hx)⟩
    · obtain ⟨y3, y4, rfl, kb, _, _, ys, hd', hyl, hy⟩ := hP
      rw [List.length_map] at hyl
      exact ⟨_, rfl, q d ys _ ndH kb hd' (by omega) hy⟩
end
end Bn

namespace Bn
open PySem PySem.Spec PyProof.Rows L2 BR
/-! ### a bundle's entry put -/
def putB (b : BD) (n : Str) (vs : List Str) : BD := if (b.any fun e => decide (e.1 = n)) = true then b.map (fun e => if e.1 = n then (e.1, vs) else e) else b ++ [(n, vs)]
theorem Ents.any {H : Hp} {kvs : List (Key × V)} {b : BD} (h : Ents H kvs b) (n : Str) : (kvs.any fun kv => decide (kv.1 = Sum.inr n)) = b.any fun e => decide (e.1 = n) := by
  induction h with
  | nil => rfl
  | @cons l m vs kvs b e _ ih =>
    rw [List.any_cons, List.any_cons, ih]
    congr 1
    by_cases q : m = n
    · rw [decide_eq_true q, decide_eq_true (by rw [q])]
    · rw [decide_eq_false q, decide_eq_false (fun z => q (Sum.inr.inj z))]
theorem Ents.repl {H : Hp} {kvs : List (Key × V)} {b : BD} (h : Ents H kvs b) {n : Str} {l : Addr} {vs : List Str} (hl : H l = some (.lst (vs.map V.str))) :
    Ents H (kvs.map fun kv => if kv.1 = Sum.inr n then (kv.1, V.ref l) else kv) (b.map fun e => if e.1 = n then (e.1, vs) else e) := by
  induction h with
  | nil => exact .nil
  | @cons l' m ws kvs b e _ ih =>
    rw [List.map_cons, List.map_cons]
    by_cases q : m = n
    · subst q
      rw [if_pos rfl, if_pos rfl]
      exact .cons hl ih
    · rw [if_neg (fun z => q (Sum.inr.inj z)), if_neg q]
      exact .cons e ih
theorem Ents.put {H : Hp} {kvs : List (Key × V)} {b : BD} (h : Ents H kvs b) {n : Str} {l : Addr} {vs : List Str} (hl : H l = some (.lst (vs.map V.str))) : Ents H (putK kvs (.inr n) (.ref l)) (putB b n vs) := by
  unfold putK putB
  rw [h.any n]
  by_cases q : (b.any fun e => decide (e.1 = n)) = true
  · rw [if_pos q, if_pos q]
    exact h.repl hl
  · rw [if_neg q, if_neg q]
    exact h.app (.cons hl .nil)
theorem putB_len (b : BD) (n : Str) (vs : List Str) : (putB b n vs).length ≤ b.length + 1 := by
  unfold putB
  split
  · rw [List.length_map]
    omega
  · rw [List.length_append]
    exact Nat.le_refl _
theorem repl_keys (n : Str) (vs : List Str) : ∀ b : BD, (b.map fun e => if e.1 = n then (e.1, vs) else e).map (·.1) = b.map (·.1)
  | [] => rfl
  | e :: b => by
    rw [List.map_cons, List.map_cons, List.map_cons, repl_keys n vs b]
    congr 1
    by_cases q : e.1 = n
    · rw [if_pos q]
    · rw [if_neg q]
theorem putB_keys (b : BD) (n : Str) (vs : List Str) (h : (b.map (·.1)).Nodup) : ((putB b n vs).map (·.1)).Nodup := by
  unfold putB
  by_cases q : (b.any fun e => decide (e.1 = n)) = true
  · rw [if_pos q, repl_keys]
    exact h
  · rw [if_neg q, List.map_append]
    refine nd_snoc h fun m => q ?_
    obtain ⟨e, he, en⟩ := List.mem_map.mp m
    exact List.any_eq_true.mpr ⟨e, he, decide_eq_true en⟩
theorem putB_all {p : Str × List Str → Prop} {b : BD} {n : Str} {vs : List Str} (h : ∀ e ∈ b, p e) (hn : p (n, vs)) : ∀ e ∈ putB b n vs, p e := by
  intro e he
  unfold putB at he
  by_cases q : (b.any fun e => decide (e.1 = n)) = true
  · rw [if_pos q] at he
    obtain ⟨x, hx, ex⟩ := List.mem_map.mp he
    by_cases c : x.1 = n
    · rw [if_pos c] at ex
      rw [← ex, c]
      exact hn
    · rw [if_neg c] at ex
      rw [← ex]
      exact h x hx
  · rw [if_neg q] at he
    rcases List.mem_append.mp he with z | z
    · exact h e z
    · rw [List.mem_singleton.mp z]
      exact hn
theorem Ents.upd_dict {H : Hp} {kvs : List (Key × V)} {b : BD} (h : Ents H kvs b) {a : Addr} {ls ms : List (Key × V)} (ha : H a = some (.dK ls)) : Ents (upd H a (.dK ms)) kvs b :=
  h.mono fun l xs e _ => by
    rw [upd_ne (ne_of e ha (by intro z; cases z))]
    exact e
section
variable {P : Program} {w : World} {K : PySem.W.Frag} {mg : Str → Option Value} {base : Heap}
/-! ### bundle -/
def spBundle (K : PySem.W.Frag) : Sp := fun vs H Q _ => ∃ (b a : Addr) (xs : List V), vs = [.ref b, .ref a] ∧ Bx H b ∧ SqL K H a xs ∧ xs.length ≤ 6 ∧ (∀ v ∈ xs, Ft H v) ∧ ∀ (p : Addr) (d : BD) H', H p = none → Kb b H H' → Bd H' p d → d.length ≤ 6 → (∀ e ∈ d, ∃ v ∈ xs, NameOf H v e.1) → Q (.ref p) H'
theorem ok_bundle {f fT fS : Addr} {fd fdT fdS : FuncData} (F : Fun K "_law_bundle" "_law_bundle" s_l_bundle f fd)
    (kT : PySem.W.keepIn K (.ref fT) = true) (bT : Binds K fdT ["_law_box_here", "_law_many"] []) (gT : mg "_law_take" = some (.ref fT)) (GT : FnOk P w K mg base CX0 2 fT fdT ["_law_box_here", "_law_many"] spTake)
    (kS : PySem.W.keepIn K (.ref fS) = true) (bS : Binds K fdS ["_law_box_here", "_law_words", "_law_many"] []) (gS : mg "_law_some" = some (.ref fS)) (GS : FnOk P w K mg base CX0 3 fS fdS ["_law_box_here", "_law_words", "_law_many"] (spSome K))
    (ml : mg "len" = none) : FnOk P w K mg base CX0 4 f fd ["_law_box_here", "_law_features_here"] (spBundle K) := by
  refine F.ok sc_l_bundle (fun vs H Q E h => ?_) (fun cdv A outer s H vs Q E hr h => ?_)
  · obtain ⟨b, a, xs, rfl, _⟩ := h
    rfl
  · obtain ⟨b, a, xs, rfl, hb, hS, hxl, hF, q⟩ := h
    refine ⟨_, pss_cons (ps_set (i := 2) sc_l_bundle.nd rfl (.inl rfl) pe_dnewK)
      (pss_cons (ps_for PassesOwn.never rfl (pi_list (pe_call GS hr (by rfl) gS kS bS .nil pass0 (pa_cons (pv 0) (pa_cons (pv 1) (pa_cons (pe_callB call_len_seq (by rfl) ml PySem.boot_len (pa_cons (pv 1) pa_nil)) pa_nil)))))
          (pg_tup rfl (pgs_cons (pg_name (i := 3) sc_l_bundle.nd rfl (.inl rfl)) (pgs_cons (pg_name (i := 4) sc_l_bundle.nd rfl (.inl rfl)) (pgs_cons (pg_name (i := 5) sc_l_bundle.nd rfl (.inl rfl)) pgs_nil))))
        (pss_cons (ps_set (i := 6) sc_l_bundle.nd rfl (.inl rfl) (pe_call GT (hr.mono (by decide)) (by rfl) gT kT bT .nil pass0 (pa_cons (pv 0) (pa_cons pe_int pa_nil))))
        (pss_cons (ps_setLc (i := 7) (own := [("_law_value", 8)]) (g := gName 8) rfl sc_l_bundle.nd rfl rfl (sw_true rfl rfl rfl (by decide +kernel)) (pi_list (pv 4))
            (blkOk_by (own := [("_law_value", 8)]) (N := ["_law_box_here", "_law_features_here", "_law_bundle_here", "_law_name", "_law_values", "_law_told", "_law_how", "_law_keep", "_law_value"]) (sc := defScope s_l_bundle) (by decide +kernel))
            (fun _ _ _ _ _ => pg_name (i := 8) sc_l_bundle.nd rfl (Or.inl rfl)) (fun _ _ _ _ _ => pts_one (pt_cmpR op_gt (pe_call GT (hr.mono (by decide)) (by rfl) gT kT bT .nil pass0 (pa_cons (pv 0) (pa_cons pe_int pa_nil))) pe_int (nomark _))) (fun _ _ _ _ _ => pv 8))
        (C8.pss_cut (ps_if (pt_cmpR op_eq (pv 6) pe_int (nomark _)) (pss_one (ps_set (i := 7) sc_l_bundle.nd rfl (.inl rfl) (pe_lst (pa_cons (pe_ix ix_list (pv 4) (pe_call GT (hr.mono (by decide)) (by rfl) gT kT bT .nil pass0 (pa_cons (pv 0) (pa_cons (pe_callB call_len_seq (by rfl) ml PySem.boot_len (pa_cons (pv 4) pa_nil)) pa_nil))) (fun _ _ => rfl)) pa_nil)))) pss_nil)
        (pss_one (ps_if (PW.pt (pw_and (pt_cmpR op_gt (pv 6) pe_int (nomark _)) (pw_and1 (pt_cmpR (op_neD hr.units) (pv 7) (pe_lst pa_nil) (nomark _)))))
          (pss_one (ps_dput (hu_of hr) (pv 2) (pv 3) (pv 7) rfl)) pss_nil))))))
      (pss_one (ps_ret (pv 2)))), ?_⟩
    intro d nd
    have k1 : Kb b H (upd H d (.dK [])) := Kb.new hb nd
    have ndb : d ≠ b := (hb.ne nd).symm
    have hS1 : SqL K (upd H d (.dK [])) a xs := (same_new nd).seq hS
    refine ⟨_, rfl, _, rfl, _, rfl, a, xs, rfl, .inl hS1, b, a, xs, xs.length, rfl, k1.x, hS1, Nat.le_refl _, by omega, fun p ys H2 np k2 hp hyl hym => ?_⟩
    have npb : p ≠ b := (k1.x.ne np).symm
    have hd2 : H2 d = some (.dK []) := k2.k _ _ ndb upd_same
    have npd : p ≠ d := (ne_of_none (upd_same (H := H) (a := d) (o := .dK [])) np).symm
    refine ⟨p, rfl, ⟨_, .inl (.inl hp)⟩, for_list (K := K) (a := p) (xs := ys) (fun i σ H' => ∃ y3 y4 y5 y6 y7 y8, σ = [some (.ref b), some (.ref a), some (.ref d), y3, y4, y5, y6, y7, y8] ∧ Kb b H H' ∧ H' p = some (.lst ys) ∧ ∃ kvs bd, H' d = some (.dK kvs) ∧ Ents H' kvs bd ∧ (bd.map (·.1)).Nodup ∧ bd.length ≤ i ∧ (∀ e ∈ bd, okS e.1 ∧ 1 ≤ e.2.length ∧ e.2.length ≤ 20 ∧ ∀ x ∈ e.2, okS x) ∧ ∀ e ∈ bd, ∃ v ∈ xs, NameOf H v e.1)
      ⟨none, none, none, none, none, none, rfl, k1.trans k2, hp, [], [], hd2, .nil, List.nodup_nil, Nat.le_refl _, (fun e he => nomatch he), (fun e he => nomatch he)⟩ (fun i σ H' _ h => ?_) (fun i x σ H' hx hP => ?_) (fun σ H' hP => ?_)⟩
    · obtain ⟨_, _, _, _, _, _, _, _, h, _⟩ := h
      exact .inl (.inl h)
    · obtain ⟨y3, y4, y5, y6, y7, y8, rfl, kb, hp', kvs, bd, hd', hE, hN, hbl, hB', hNm⟩ := hP
      have hil : i < ys.length := (List.getElem?_eq_some_iff.mp hx).1
      obtain ⟨pt, lv, dd, rfl, f1, f2, hB⟩ := hF x (hym x (List.mem_of_getElem? hx))
      have hxm := hym _ (List.mem_of_getElem? hx)
      have hnm : NameOf H (.ref pt) dd.n := ⟨pt, lv, dd.t, rfl, f1⟩
      have e1 := kb.k _ _ (ne_bx hb f1 (fun _ _ _ _ z => by cases z)) f1
      have e2 := kb.k _ _ (ne_bx hb f2 (strs_ne_ints hB.1)) f2
      have nlb : lv ≠ b := ne_bx kb.x e2 (strs_ne_ints hB.1)
      refine ⟨pt, _, rfl, .inl (.inl e1), rfl, _, _, rfl, _, _, rfl, _, _, rfl, rfl, ?_⟩
      refine ⟨_, rfl, b, 5, rfl, kb.x, by decide, by decide, fun h1 HA h10 h11 kA => ?_⟩
      have e2A := kA.k _ _ nlb e2
      refine ⟨_, rfl, lv, rfl, ⟨_, .inl (.inl e2A)⟩, fun D nD => lc_list (K := K) (a := lv) (xs := dd.vs.map V.str) (fun j HX => Kb b HA HX ∧ ∃ ks : List Str, HX D = some (.lst (ks.map V.str)) ∧ ks.length ≤ j ∧ ∀ x ∈ ks, okS x) ⟨Kb.new kA.x nD, [], upd_same, Nat.le_refl _, fun x hx => by cases hx⟩ (fun j HX _ h => .inl (.inl (h.1.k _ _ nlb e2A))) (fun j x HX hxj hP => ?_) (fun HX hP => ?_)⟩
      · obtain ⟨kX, ks, hD, hkl, hko⟩ := hP
        have nDb : D ≠ b := (kA.x.ne nD).symm
        rw [List.getElem?_map] at hxj
        obtain ⟨v, ev, ex⟩ := Option.map_eq_some_iff.mp hxj
        subst ex
        have hvo : okS v := hB.2.2.2 v (List.mem_of_getElem? ev)
        have hjl : j < dd.vs.length := (List.getElem?_eq_some_iff.mp ev).1
        have hvl := hB.2.1
        refine ⟨rfl, _, rfl, b, 3, rfl, kX.x, by decide, by decide, fun n HB n0 n1 kB => ⟨_, _, rfl, rfl, _, rfl, ite2 (fun e => ?_) (fun e => ?_)⟩⟩
        · refine ⟨_, rfl, ks.map V.str, kB.k _ _ nDb hD, by rw [List.length_map]; exact small1000 (by omega), (kX.trans kB).own nD nDb, ks ++ [v], ?_, by rw [List.length_append]; show ks.length + 1 ≤ j + 1; omega, fun x hx' => ?_⟩
          · rw [upd_same, List.map_append]
            rfl
          · rcases List.mem_append.mp hx' with z | z
            · exact hko x z
            · rw [List.mem_singleton.mp z]
              exact hvo
        · exact ⟨kX.trans kB, ks, kB.k _ _ nDb hD, by omega, hko⟩
      · obtain ⟨kX, ks, hD, hkl, hko⟩ := hP
        rw [List.length_map] at hkl
        have hvl := hB.2.1
        have hv1 := hB.1
        refine ⟨fun σ' HM => ∃ (D' : Addr) (ks : List Str), σ' = [some (.ref b), some (.ref a), some (.ref d), some (.str dd.n), some (.ref lv), some (.bl dd.t), some (.int h1), some (.ref D'), y8] ∧ Kb b HA HM ∧ HM D' = some (.lst (ks.map V.str)) ∧ ks.length ≤ 6 ∧ ∀ x ∈ ks, okS x, ?_, fun σ' HM hM => ?_⟩
        · refine ⟨_, rfl, rfl, _, rfl, ite2 (fun e => ?_) (fun e => ⟨D, ks, rfl, kX, hD, by omega, hko⟩)⟩
          have e2X := kX.k _ _ nlb e2A
          refine ⟨_, rfl, _, rfl, _, rfl, lv, _, rfl, .inl (.inl (.inl e2X)), b, _, rfl, kX.x, by rw [List.length_map]; omega, by rw [List.length_map]; omega, fun n HB n0 n1 kB => ?_⟩
          rw [List.length_map] at n1
          have gl : (dd.vs.map V.str)[n.toNat]? = some (V.str dd.vs[n.toNat]) := by
            rw [List.getElem?_map, List.getElem?_eq_getElem (by omega)]
            rfl
          refine ⟨lv, _, n, _, rfl, rfl, .inl (.inl (kB.k _ _ nlb e2X)), at_of (j := n.toNat) (by omega) gl, (show 1 ≤ sizeLine by decide), fun D2 nD2 => ?_⟩
          refine ⟨D2, [dd.vs[n.toNat]], rfl, (kX.trans kB).trans (Kb.new kB.x nD2), upd_same, (show 1 ≤ 6 by decide), fun x hx' => ?_⟩
          rw [List.mem_singleton.mp hx']
          exact hB.2.2.2 _ (List.getElem_mem _)
        · obtain ⟨D', ks', rfl, kM, hD', hkl', hko'⟩ := hM
          have KM := kA.trans kM
          have hdM : HM d = some (.dK kvs) := KM.k _ _ ndb hd'
          have hpM : HM p = some (.lst ys) := KM.k _ _ npb hp'
          have hEM : Ents HM kvs bd := hE.mono fun l zs hl ⟨n, hm⟩ => by
            obtain ⟨e', he', hl'⟩ := hE.vals hm
            exact KM.k _ _ (ne_bx kb.x hl' (strs_ne_ints (hB' e' he').2.1)) hl
          have stay : ∀ {HZ : Hp}, Same HM HZ → Bx HZ b → ∃ z3 z4 z5 z6 z7 z8, [some (V.ref b), some (.ref a), some (.ref d), some (.str dd.n), some (.ref lv), some (.bl dd.t), some (.int h1), some (.ref D'), y8] = [some (.ref b), some (.ref a), some (.ref d), z3, z4, z5, z6, z7, z8] ∧ Kb b H HZ ∧ HZ p = some (.lst ys) ∧ ∃ kvs bd, HZ d = some (.dK kvs) ∧ Ents HZ kvs bd ∧ (bd.map (·.1)).Nodup ∧ bd.length ≤ i + 1 ∧ (∀ e ∈ bd, okS e.1 ∧ 1 ≤ e.2.length ∧ e.2.length ≤ 20 ∧ ∀ x ∈ e.2, okS x) ∧ ∀ e ∈ bd, ∃ v ∈ xs, NameOf H v e.1 := by
            intro HZ sm hbz
            exact ⟨_, _, _, _, _, _, rfl, (kb.trans KM).trans ⟨Kp.of_same sm, hbz⟩, sm _ _ hpM, kvs, bd, sm _ _ hdM, hEM.same sm, hN, by omega, hB', hNm⟩
          refine ⟨_, rfl, _, _, rfl, rfl, _, rfl, ite2 (fun c => ?_) (fun c => iteF (stay (Same.refl _) KM.x))⟩
          · refine ⟨_, rfl, Nat.zero_le _, fun p1 np1 => ?_⟩
            have sm : Same HM (upd HM p1 (.lst [])) := same_new np1
            refine ⟨_, _, .lst (.inl (.inl (sm _ _ hD'))) (strs_dp ks'), .lst (.inl (.inl upd_same)) .nil, strs_list_shaped hko', rfl, _, rfl, ?_⟩
            rw [strs_nil]
            by_cases hks : ks'.isEmpty = true
            · rw [hks]
              exact iteF (stay sm (KM.x.same sm))
            · have hkf : ks'.isEmpty = false := Bool.eq_false_iff.mpr hks
              rw [hkf]
              have hlen : 1 ≤ ks'.length := by
                cases hq : ks' with
                | nil => rw [hq] at hkf; cases hkf
                | cons k0 kr => exact Nat.succ_le_succ (Nat.zero_le _)
              have hE1 := hEM.same sm
              have hd1 := sm _ _ hdM
              have pl := putB_len bd dd.n ks'
              refine iteT ⟨_, rfl, _, rfl, _, rfl, d, _, rfl, DPut.k (k := .inr dd.n) hd1 (by rw [hEM.length]; exact small1000 (by omega)), ?_⟩
              refine ⟨_, _, _, _, _, _, rfl, (kb.trans (KM.trans (Kb.new KM.x np1))).own nd ndb, ?_, _, putB bd dd.n ks', upd_same, (hE1.put (sm _ _ hD')).upd_dict hd1, putB_keys _ _ _ hN, by omega, putB_all hB' ⟨hB.2.2.1, hlen, by show ks'.length ≤ 20; omega, hko'⟩, putB_all hNm ⟨_, hxm, hnm⟩⟩
              rw [upd_ne npd]
              exact sm _ _ hpM
    · obtain ⟨y3, y4, y5, y6, y7, y8, rfl, kb, hp', kvs, bd, hd', hE, hN, hbl, hB', hNm⟩ := hP
      exact ⟨_, rfl, q d bd _ nd kb ⟨kvs, hd', hE, hN, by omega, hB'⟩ (by omega) hNm⟩
end
end Bn

namespace Bn
open PySem PySem.Spec PyProof.Rows L2 BR
theorem Rd.same {H H' : Hp} {a : Addr} {u : HO} (h : Rd H a u) (s : Same H H') : Rd H' a u := by
  rcases h with h | ⟨o, h⟩
  · exact .inl (s _ _ h)
  · exact .inr ⟨o, s _ _ h⟩
theorem valV_get : ∀ {kvs : List (Key × V)} {i : Nat} {k : Key} {v : V}, (kvs.map (·.1)).Nodup → kvs[i]? = some (k, v) → valV kvs k = some v
  | [], i, k, v, _, h => by simp at h
  | p :: r, 0, k, v, _, h => by
    have e := Option.some.inj h
    subst e
    exact valV_pos rfl
  | p :: r, i + 1, k, v, hn, h => by
    obtain ⟨h1, h2⟩ := List.nodup_cons.mp hn
    have h' : r[i]? = some (k, v) := h
    have hm : k ∈ r.map (·.1) := List.mem_map.mpr ⟨(k, v), List.mem_of_getElem? h', rfl⟩
    rw [valV_neg (fun e => h1 (by rw [show (fun x : Key × V => x.fst) p = k from e]; exact hm))]
    exact valV_get h2 h'
theorem keys_nodup {b : BD} (h : (b.map (·.1)).Nodup) : (b.map fun e => (Sum.inr e.1 : Key)).Nodup := by
  have e : (b.map fun e => (Sum.inr e.1 : Key)) = (b.map (·.1)).map Sum.inr := by
    rw [List.map_map]
    rfl
  rw [e]
  exact List.Pairwise.map Sum.inr (fun a b h z => h (Sum.inr.inj z)) h
theorem merge_new : ∀ (more acc : List (Key × V)), ((acc ++ more).map (·.1)).Nodup → mergeK acc more = acc ++ more
  | [], acc, _ => by rw [List.append_nil]; rfl
  | kv :: r, acc, h => by
    have hn : valV acc kv.1 = none := by
      cases e : valV acc kv.1 with
      | none => rfl
      | some v =>
        have hm := valV_in e
        rw [List.map_append, List.map_cons] at h
        exact absurd rfl ((List.pairwise_append.mp h).2.2 kv.1 hm kv.1 (List.mem_cons_self ..))
    show mergeK (putK acc kv.1 kv.2) r = acc ++ kv :: r
    rw [putK_new kv.2 hn, merge_new r (acc ++ [(kv.1, kv.2)]) (by rw [List.append_assoc]; exact h), List.append_assoc]
    rfl
theorem take_get {α : Type} {l : List α} {i : Nat} {x : α} (h : l[i]? = some x) : l.take (i + 1) = l.take i ++ [x] := by
  rw [List.take_add_one, h]
  rfl
theorem strs_ne_refs {vs : List Str} {ps : List Addr} (h : 1 ≤ vs.length) : vs.map V.str ≠ ps.map V.ref := fun e => by
  cases vs with
  | nil => exact absurd h (by decide)
  | cons v r =>
    cases ps with
    | nil => cases e
    | cons p q =>
      rw [List.map_cons, List.map_cons] at e
      injection e with e1 _
      cases e1
theorem paired_mono {α β : Type} {R S : α → β → Prop} {l : List α} {m : List β} (h : Paired R l m) (f : ∀ a b, R a b → S a b) : Paired S l m := by
  induction h with
  | nil => exact .nil
  | cons x _ ih => exact .cons (f _ _ x) ih
theorem paired_snoc {α β : Type} {R : α → β → Prop} {l : List α} {m : List β} {a : α} {b : β} (h : Paired R l m) (x : R a b) : Paired R (l ++ [a]) (m ++ [b]) := by
  induction h with
  | nil => exact .cons x .nil
  | cons y _ ih => exact .cons y ih
theorem Bd.len {H : Hp} {a : Addr} {d : BD} (h : Bd H a d) : d.length ≤ 200 := by
  obtain ⟨_, _, _, _, h, _⟩ := h
  exact h
section
variable {P : Program} {w : World} {K : PySem.W.Frag} {mg : Str → Option Value} {base : Heap}
/-! ### own -/
def spOwn : Sp := fun vs H Q _ => ∃ (a : Addr) (d : BD), vs = [.ref a] ∧ Bd H a d ∧ ∀ (p : Addr) H', H p = none → Same H H' → Bd H' p d → Q (.ref p) H'
theorem ok_own {f : Addr} {fd : FuncData} {k : Nat} (F : Fun K "_law_own" "_law_own" s_l_own f fd) (md : mg "dict" = none) (mli : mg "list" = none) : FnOk P w K mg base CX0 (k + 1) f fd ["_law_bundle_here"] spOwn := by
  refine F.ok sc_l_own (fun vs H Q E h => ?_) (fun cdv A outer s H vs Q E hr h => ?_)
  · obtain ⟨a, d, rfl, _⟩ := h
    rfl
  · obtain ⟨a, bd, rfl, ⟨kvs, ha, hE, hN, hL, hB⟩, q⟩ := h
    refine ⟨_, pss_one (ps_ret (pe_callTy (call_dictP rfl) (by rfl) md (by decide +kernel) (pa_cons (pe_lock (pe_lc (own := [("_law_name", 1)]) (g := gName 1) (tt := tYes) rfl sc_l_own.nd (pi_keys (pv 0))
      (blkOk_by (own := [("_law_name", 1)]) (N := ["_law_bundle_here", "_law_name"]) (sc := defScope s_l_own) (by decide +kernel))
      (fun _ _ _ _ _ => pg_name (i := 1) sc_l_own.nd rfl (Or.inl rfl)) (fun _ _ _ _ _ => pts_nil)
      (fun _ _ _ _ _ => pe_tup (pa_cons (pv 1) (pa_cons (pe_callTy (T := "list") (call_listK (K := K) rfl) (by rfl) mli (by decide +kernel) (pa_cons (pe_dget (hu_of hr) (pv 0) (pv 1) (fun _ _ => rfl)) pa_nil)) pa_nil))))) pa_nil))), ?_⟩
    have hkn : (kvs.map (·.1)).Nodup := by
      rw [hE.keys]
      exact keys_nodup hN
    have hkl := hE.length
    refine ⟨a, _, ha, trivial, fun od => ⟨_, rfl, a, od, rfl, .inl ⟨kvs, upd_same, fun D nD => ?_⟩⟩⟩
    have nDa : D ≠ a := fun e => by
      rw [e, upd_same] at nD
      cases nD
    have hEL : Ents (upd H a (.frz od (.dK kvs))) kvs bd := hE.mono fun l xs e _ => by
      rw [upd_ne (ne_of e ha (by intro z; cases z))]
      exact e
    have haL : (upd H a (.frz od (.dK kvs))) a = some (.frz od (.dK kvs)) := upd_same
    refine lc_it (walk_keys (d := a) (o := od) (kvs := kvs)) (fun i HX => Same (upd H a (.frz od (.dK kvs))) HX ∧ ∃ (ps : List Addr) (kvs' : List (Key × V)), HX D = some (.lst (ps.map V.ref)) ∧ Paired (fun p kv => HX p = some (.tup [kV kv.1, kv.2])) ps kvs' ∧ Ents HX kvs' (bd.take i) ∧ ps.length = i)
      ⟨same_new nD, [], [], upd_same, .nil, .nil, rfl⟩ (fun i HX _ h => h.1 _ _ haL) (fun i x HX HX' hi hP hY => ?_) (fun HX hP => ?_)
    · obtain ⟨rfl, k, v, hkv, rfl⟩ := hY
      obtain ⟨sL, ps, kvs', hD, hp, hE', hpl⟩ := hP
      obtain ⟨n, l, vs, rfl, rfl, hl, hbi⟩ := hEL.get hkv
      have hv1 : 1 ≤ vs.length := (hB _ (List.mem_of_getElem? hbi)).2.1
      refine ⟨rfl, tYes_in ?_⟩
      refine ⟨_, rfl, _, rfl, _, rfl, a, _, rfl, .inl ⟨kvs, .inr n, .inr ⟨od, sL _ _ haL⟩, rfl, (valV_get hkn hkv).symm⟩, l, _, rfl, .inl (.inl (.inl (sL _ _ hl))), fun l' nl' => ⟨(show 2 ≤ sizeLine by decide), fun pt npt => ?_⟩⟩
      have s1 : Same HX' (upd HX' l' (.lst (vs.map V.str))) := same_new nl'
      have s2 := s1.trans (same_new (o := .tup [.str n, .ref l']) npt)
      have hD2 := s2 _ _ hD
      have hl2 : (upd (upd HX' l' (.lst (vs.map V.str))) pt (.tup [.str n, .ref l'])) l' = some (.lst (vs.map V.str)) := same_new npt _ _ upd_same
      refine ⟨ps.map V.ref, hD2, by rw [List.length_map]; exact small1000 (by omega), Same.own (sL.trans s2) nD, ps ++ [pt], kvs' ++ [(.inr n, .ref l')], ?_, ?_, ?_, by rw [List.length_append, hpl]; rfl⟩
      · rw [upd_same, List.map_append]
        rfl
      · refine paired_mono (paired_snoc (R := fun p (kv : Key × V) => (upd (upd HX' l' (.lst (vs.map V.str))) pt (.tup [.str n, .ref l'])) p = some (.tup [kV kv.1, kv.2])) (paired_mono hp fun p kv e => s2 _ _ e) (b := (.inr n, .ref l')) upd_same) fun p kv e => ?_
        rw [upd_ne (ne_of e hD2 (by intro z; cases z))]
        exact e
      · rw [take_get hbi]
        refine ((hE'.same s2).app (.cons hl2 .nil)).mono fun l0 xs e ⟨nm, hm⟩ => ?_
        rw [upd_ne fun z => ?_]
        · exact e
        · obtain ⟨e', he', hl'⟩ := ((hE'.same s2).app (.cons hl2 .nil)).vals hm
          rw [← take_get hbi] at he'
          rw [z, hD2] at hl'
          exact strs_ne_refs (hB e' (List.mem_of_mem_take he')).2.1 (HO.lst.inj (Option.some.inj hl')).symm
    · obtain ⟨sL, ps, kvs', hD, hp, hE', hpl⟩ := hP
      rw [hkl, List.take_length] at hE'
      have haX := sL _ _ haL
      have sU : Same H (upd HX a (.dK kvs)) := fun x o e => by
        by_cases c : x = a
        · subst c
          rw [upd_same, ← ha]
          exact e
        · rw [upd_ne c]
          exact sL _ _ (by rw [upd_ne c]; exact e)
      have hEU : Ents (upd HX a (.dK kvs)) kvs' bd := hE'.mono fun l xs e _ => by
        rw [upd_ne (ne_of e haX (by intro z; cases z))]
        exact e
      refine ⟨haX, D, ps, kvs', rfl, .inl (.inl (by rw [upd_ne nDa]; exact hD)), paired_mono hp fun p kv e => .inl (.inl (by rw [upd_ne (ne_of e haX (by intro z; cases z))]; exact e)), fun p np => ?_⟩
      have hkn' : (kvs'.map (·.1)).Nodup := by
        rw [hE'.keys]
        exact keys_nodup hN
      have em : mergeK [] kvs' = kvs' := merge_new kvs' [] hkn'
      rw [em]
      exact q p _ (sU.free np) (sU.trans (same_new np)) ⟨kvs', upd_same, hEU.same (same_new np), hN, hL, hB⟩
end
end Bn

namespace Bn
open PySem PySem.Spec PyProof.Rows L2 BR GX
theorem Ents.knames {H : Hp} {kvs : List (Key × V)} {b : BD} (h : Ents H kvs b) : (kvs.map fun kv => kV kv.1) = (b.map (·.1)).map V.str := by
  induction h with
  | nil => rfl
  | cons _ _ ih =>
    rw [List.map_cons, List.map_cons, List.map_cons, ih]
    rfl
theorem Ents.frz {H : Hp} {kvs : List (Key × V)} {b : BD} (h : Ents H kvs b) {a : Addr} {ls : List (Key × V)} {o : Obj} {u : HO} (ha : H a = some (.dK ls)) : Ents (upd H a (.frz o u)) kvs b := h.mono fun l xs e _ => by
  rw [upd_ne (ne_of e ha (by intro z; cases z))]
  exact e
theorem Ents.val_isNone {H : Hp} {kvs : List (Key × V)} {b : BD} (h : Ents H kvs b) (n : Str) : (!(valV kvs (.inr n)).isSome) = (at? b n).isNone := by
  rcases h.val n with ⟨h1, h2⟩ | ⟨l, vs, h1, h2, _⟩
  · rw [h1, h2]
    rfl
  · rw [h1, h2]
    rfl
theorem Same.unlock {H HX : Hp} {a : Addr} {u : HO} {o : Obj} (ha : H a = some u) (s : Same (upd H a (.frz o u)) HX) : Same H (upd HX a u) := fun x y e => by
  by_cases c : x = a
  · subst c
    rw [upd_same, ← ha]
    exact e
  · rw [upd_ne c]
    exact s _ _ (by rw [upd_ne c]; exact e)
theorem inV_str (x : Str) : ∀ ws : List Str, inV (.str x) (ws.map V.str) = decide (x ∈ ws)
  | [] => rfl
  | y :: ws => by
    have ih := inV_str x ws
    unfold inV at ih ⊢
    rw [List.map_cons, List.any_cons, ih]
    show ((y == x) || decide (x ∈ ws)) = decide (x ∈ y :: ws)
    rw [Bool.eq_iff_iff, Bool.or_eq_true, beq_iff_eq, decide_eq_true_eq, decide_eq_true_eq, List.mem_cons]
    exact ⟨fun h => h.imp Eq.symm id, fun h => h.imp Eq.symm id⟩
theorem flat_strs (ws : List Str) : (ws.map V.str).all flatV = true := List.all_eq_true.mpr fun x hx => by
  obtain ⟨y, _, rfl⟩ := List.mem_map.mp hx
  rfl
theorem filter_snoc {α : Type} {p : α → Bool} {l : List α} {i : Nat} {x : α} (h : l[i]? = some x) : (l.take (i + 1)).filter p = (l.take i).filter p ++ if p x = true then [x] else [] := by
  rw [take_get h, List.filter_append]
  congr 1
  by_cases c : p x = true
  · rw [if_pos c, List.filter_cons_of_pos c, List.filter_nil]
  · rw [if_neg c, List.filter_cons_of_neg c, List.filter_nil]

/-! ### bundles behind grown tables -/
theorem Ents.sameN {Ps : List Addr} {H H' : Hp} {kvs : List (Key × V)} {b : BD} (h : Ents H kvs b) (s : SameN Ps H H') : Ents H' kvs b := h.mono fun l xs e _ => s.k _ _ nt_lst e
theorem Bd.sameN {Ps : List Addr} {H H' : Hp} {a : Addr} {b : BD} (h : Bd H a b) (s : SameN Ps H H') : Bd H' a b := by
  obtain ⟨kvs, e, x, y⟩ := h
  exact ⟨kvs, s.k _ _ nt_dK e, x.sameN s, y⟩
theorem room_gen {k : Nat} {A : Around} (hr : Room (k + 3) A) (env : Env) : Room k (A.in1.in1.deeper env) := ((hr.in1).in1).deeper env
theorem rd_sameN {Ps : List Addr} {H H' : Hp} {a : Addr} {v : HO} (h : Rd H a v) (hv : NT v) (s : SameN Ps H H') : Rd H' a v := by
  rcases h with e | ⟨o, e⟩
  · exact .inl (s.k _ _ hv e)
  · exact .inr ⟨o, s.k _ _ nt_frz e⟩
end Bn

namespace Bn
open PySem PySem.Spec PyProof.Rows L2 BR GX
section
variable {P : Program} {w : World} {K : PySem.W.Frag} {mg : Str → Option Value} {base : Heap}
/-! ### within -/
def inF (xs ys : List Str) : Bool := xs.all fun x => decide (x ∈ ys)
def spWithin (Ps : List Addr) : Sp := fun vs H Q _ => ∃ (a c : Addr) (xs ys : List Str), vs = [.ref a, .ref c] ∧ H a = some (.lst (xs.map V.str)) ∧ H c = some (.lst (ys.map V.str)) ∧ Tabs Ps H ∧ ∀ H', SameN Ps H H' → Q (.bl (inF xs ys)) H'
theorem ok_within {f c0 pT : Addr} {fd : FuncData} {k : Nat} {Ps : List Addr} (F : FunC K "within" "within" s_within f fd c0) (TB : GxR.TabB base mg c0 pT) (hP : pT ∈ Ps) (ma : mg "all" = none) : FnOk P w K mg base CX0 (k + 4) f fd ["inner", "outer"] (spWithin Ps) := by
  refine F.ok sc_within (fun vs H Q E h => ?_) (fun A outer s H vs Q E hr h => ?_)
  · obtain ⟨a, c, xs, ys, rfl, _⟩ := h
    rfl
  · obtain ⟨a, c, xs, ys, rfl, ha, hc, hT, q⟩ := h
    refine ⟨_, pss_one (ps_ret (pe_all (own := [("item", 2)]) (g := gName 2) hr (by rfl) ma (by decide +kernel) TB rfl rfl sc_within.nd (pi_list (pv 0))
      (blkOk_by (own := [("item", 2)]) (N := ["inner", "outer", "item"]) (sc := defScope s_within) (by decide +kernel)) rfl (by decide +kernel) rfl
      (fun _ _ _ _ _ _ => pg_name (i := 2) sc_within.nd rfl (Or.inl rfl)) (fun _ _ _ _ _ _ => pts_nil)
      (fun _ _ _ _ _ _ => pe_cmpR (op_inK (K := K) rfl) (pv 2) (pv 1) (by rfl)))), ?_⟩
    refine ⟨_, rfl, a, rfl, ⟨_, .inl (.inl ha)⟩, hT _ hP, fun H2 hTb => ?_⟩
    have s0 : SameN Ps H H2 := SameN.tab hT hP hTb
    refine all_it (walk_list (K := K) (a := a) (xs := xs.map V.str)) (fun i HX => SameN Ps H HX ∧ inF (xs.take i) ys = true) ⟨s0, rfl⟩ (fun i HX _ h => .inl (.inl (h.1.k _ _ nt_lst ha))) (fun i x HX HX' hi hP' hY => ?_) (fun HX hP' => ?_)
    · obtain ⟨rfl, hx⟩ := hY
      obtain ⟨sX, hin⟩ := hP'
      rw [List.getElem?_map] at hx
      obtain ⟨y, ey, ex⟩ := Option.map_eq_some_iff.mp hx
      subst ex
      refine ⟨rfl, tYes_in ?_⟩
      refine ⟨_, rfl, _, rfl, c, _, rfl, .inl (.inl (.inl (sX.k _ _ nt_lst hc))), rfl, flat_strs ys, _, rfl, fun e => ⟨sX, ?_⟩, fun e => ?_⟩
      · have e' : inV (V.str y) (ys.map V.str) = true := e
        rw [inV_str] at e'
        unfold inF at hin ⊢
        rw [take_get ey, List.all_append, hin, List.all_cons, e']
        rfl
      · have e' : inV (V.str y) (ys.map V.str) = false := e
        rw [inV_str] at e'
        have z : inF xs ys = false := by
          unfold inF
          rw [List.all_eq_false]
          exact ⟨y, List.mem_of_getElem? ey, by rw [e']; decide⟩
        have := q HX' sX
        rw [z] at this
        exact this
    · obtain ⟨sX, hin⟩ := hP'
      rw [List.length_map, List.take_length] at hin
      have := q HX sX
      rw [hin] at this
      exact this
end
end Bn

namespace Bn
open PySem PySem.Spec PyProof.Rows L2 BR GX
/-! ### marks -/
abbrev MD := List (Str × Str)
def mkv (ms : MD) : List (Key × V) := ms.map fun e => (.inr e.1, .str e.2)
def mAt (ms : MD) (n : Str) : Option Str := (ms.find? fun e => decide (e.1 = n)).map (·.2)
theorem mAt_cons (e : Str × Str) (b : MD) (n : Str) : mAt (e :: b) n = if e.1 = n then some e.2 else mAt b n := by
  unfold mAt
  rw [List.find?_cons]
  by_cases h : e.1 = n
  · rw [if_pos h, decide_eq_true h]
    rfl
  · rw [if_neg h, decide_eq_false h]
theorem mkv_val (n : Str) : ∀ ms : MD, valV (mkv ms) (.inr n) = (mAt ms n).map V.str
  | [] => rfl
  | e :: ms => by
    rw [mAt_cons]
    show valV ((Sum.inr e.1, V.str e.2) :: mkv ms) (.inr n) = _
    by_cases q : e.1 = n
    · rw [if_pos q]
      exact valV_pos (congrArg Sum.inr q)
    · rw [if_neg q, valV_neg (fun z => q (Sum.inr.inj z))]
      exact mkv_val n ms
def Mk (H : Hp) (m : Addr) (ms : MD) : Prop := H m = some (.dK (mkv ms))
theorem Mk.sameN {Ps : List Addr} {H H' : Hp} {m : Addr} {ms : MD} (h : Mk H m ms) (s : SameN Ps H H') : Mk H' m ms := s.k _ _ nt_dK h
def letsF (b : BD) (ms : MD) : Bool := b.all fun e => match mAt ms e.1 with
  | none => false
  | some v => decide (v ∈ e.2)
def liesF (b d : BD) : Bool := d.all fun e => match at? b e.1 with
  | none => false
  | some v => inF v e.2
theorem all_snoc {α : Type} {p : α → Bool} {l : List α} {i : Nat} {x : α} (h : l[i]? = some x) : (l.take (i + 1)).all p = ((l.take i).all p && p x) := by
  rw [take_get h, List.all_append, List.all_cons, List.all_nil, Bool.and_true]
theorem all_bad {α : Type} {p : α → Bool} {l : List α} {i : Nat} {x : α} (h : l[i]? = some x) (hx : p x = false) : l.all p = false := by
  rw [List.all_eq_false]
  exact ⟨x, List.mem_of_getElem? h, by rw [hx]; decide⟩
section
variable {P : Program} {w : World} {K : PySem.W.Frag} {mg : Str → Option Value} {base : Heap}
/-! ### lets -/
def spLets (Ps : List Addr) : Sp := fun vs H Q _ => ∃ (a m : Addr) (b : BD) (ms : MD), vs = [.ref a, .ref m] ∧ Bd H a b ∧ Mk H m ms ∧ Tabs Ps H ∧ ∀ H', SameN Ps H H' → Q (.bl (letsF b ms)) H'
theorem ok_lets {f c0 pT : Addr} {fd : FuncData} {k : Nat} {Ps : List Addr} (F : FunC K "lets" "lets" s_lets f fd c0) (TB : GxR.TabB base mg c0 pT) (hP : pT ∈ Ps) (ma : mg "all" = none) : FnOk P w K mg base CX0 (k + 4) f fd ["bundle", "marks"] (spLets Ps) := by
  refine F.ok sc_lets (fun vs H Q E h => ?_) (fun A outer s H vs Q E hr h => ?_)
  · obtain ⟨a, m, b, ms, rfl, _⟩ := h
    rfl
  · obtain ⟨a, m, b, ms, rfl, ⟨ka, ha, hEa, hNa, hLa, hBa⟩, hm, hT, q⟩ := h
    have hu : ∀ env : Env, (_ : Around).units + 1 < cLine := fun env => hu_of (room_gen hr env)
    refine ⟨_, pss_one (ps_ret (pe_lock (pe_all (own := [("name", 2)]) (g := gName 2) hr (by rfl) ma (by decide +kernel) TB rfl rfl sc_lets.nd (pi_keys (pv 0))
      (blkOk_by (own := [("name", 2)]) (N := ["bundle", "marks", "name"]) (sc := defScope s_lets) (by decide +kernel)) rfl (by decide +kernel) rfl
      (fun _ _ _ _ _ _ => pg_name (i := 2) sc_lets.nd rfl (Or.inl rfl)) (fun _ _ _ _ _ _ => pts_nil)
      (fun _ _ _ _ _ _ => pe_and (pe_cmp (pc_din (hu _) (pv 2) (pv 1))) (pe_one (pe_cmpR (op_inK (K := K) rfl) (pe_dget (hu _) (pv 1) (pv 2) (fun _ _ => rfl)) (pe_dget (hu _) (pv 0) (pv 2) (fun _ _ => rfl)) (by rfl))))))), ?_⟩
    have hkn : (ka.map (·.1)).Nodup := by
      rw [hEa.keys]
      exact keys_nodup hNa
    refine ⟨a, _, ha, trivial, fun od => ⟨_, rfl, a, od, rfl, .inl ⟨ka, upd_same, hT.lock ha nt_dK _ hP, fun H2 hTb => ?_⟩⟩⟩
    have haL : (upd H a (.frz od (.dK ka))) a = some (.frz od (.dK ka)) := upd_same
    have hmL : Rd (upd H a (.frz od (.dK ka))) m (.dK (mkv ms)) := rd_lock hm ha
    have hEaL := hEa.frz (o := od) (u := .dK ka) ha
    have hTL : Tabs Ps (upd H a (.frz od (.dK ka))) := hT.lock ha nt_dK
    have fin : ∀ {HX : Hp} {r : Bool}, SameN Ps (upd H a (.frz od (.dK ka))) HX → letsF b ms = r → HX a = some (.frz od (.dK ka)) ∧ Q (.bl r) (upd HX a (.dK ka)) := fun {HX r} sX e => ⟨sX.k _ _ nt_frz haL, by
      have := q _ (SameN.unlock ha nt_dK hT sX)
      rw [e] at this
      exact this⟩
    refine all_it (walk_keys (d := a) (o := od) (kvs := ka)) (fun i HX => SameN Ps (upd H a (.frz od (.dK ka))) HX ∧ letsF (b.take i) ms = true) ⟨SameN.tab hTL hP hTb, rfl⟩ (fun i HX _ h => h.1.k _ _ nt_frz haL) (fun i x HX HX' hi hP' hY => ?_) (fun HX hP' => ?_)
    · obtain ⟨rfl, kk, v0, hkv, rfl⟩ := hY
      obtain ⟨sX, hin⟩ := hP'
      obtain ⟨n, la, va, rfl, rfl, hla, hbi⟩ := hEaL.get hkv
      have hval := valV_get hkn hkv
      have hmv := mkv_val n ms
      refine ⟨rfl, tYes_in ?_⟩
      refine ⟨_, rfl, _, rfl, m, _, rfl, .inl ⟨mkv ms, .inr n, rd_sameN hmL nt_dK sX, rfl, rfl⟩, _, rfl, ?_⟩
      rw [hmv]
      cases em : mAt ms n with
      | none =>
        refine iteF ⟨_, rfl, fun z => (by cases z), fun _ => fin sX (all_bad hbi ?_)⟩
        show (match mAt ms n with | none => false | some v => decide (v ∈ va)) = false
        rw [em]
      | some v =>
        rw [em] at hmv
        refine iteT ⟨_, rfl, _, rfl, m, V.str v, rfl, .inl ⟨mkv ms, .inr n, rd_sameN hmL nt_dK sX, rfl, hmv.symm⟩, _, rfl, _, rfl, a, V.ref la, rfl, .inl ⟨ka, .inr n, .inr ⟨od, sX.k _ _ nt_frz haL⟩, rfl, hval.symm⟩, la, _, rfl, .inl (.inl (.inl (sX.k _ _ nt_lst hla))), rfl, flat_strs va, _, rfl, fun e => ⟨sX, ?_⟩, fun e => fin sX (all_bad hbi ?_)⟩
        · have e' : inV (V.str v) (va.map V.str) = true := e
          rw [inV_str] at e'
          unfold letsF at hin ⊢
          rw [all_snoc hbi, hin]
          show (true && (match mAt ms n with | none => false | some v => decide (v ∈ va))) = true
          rw [em]
          exact e'
        · have e' : inV (V.str v) (va.map V.str) = false := e
          rw [inV_str] at e'
          show (match mAt ms n with | none => false | some v => decide (v ∈ va)) = false
          rw [em]
          exact e'
    · obtain ⟨sX, hin⟩ := hP'
      rw [hEa.length, List.take_length] at hin
      exact fin sX hin
/-! ### lies_in -/
def spLies (Ps : List Addr) : Sp := fun vs H Q _ => ∃ (a c : Addr) (b d : BD), vs = [.ref a, .ref c] ∧ Bd H a b ∧ Bd H c d ∧ Tabs Ps H ∧ ∀ H', SameN Ps H H' → Q (.bl (liesF b d)) H'
theorem ok_lies {f c0 pT fW : Addr} {fd fdW : FuncData} {k : Nat} {Ps : List Addr} (F : FunC K "lies_in" "lies_in" s_lies_in f fd c0) (TB : GxR.TabB base mg c0 pT) (hP : pT ∈ Ps) (ma : mg "all" = none)
    (kW : PySem.W.keepIn K (.ref fW) = true) (bW : Binds K fdW ["inner", "outer"] []) (gW : mg "within" = some (.ref fW)) (GW : FnOk P w K mg base CX0 k fW fdW ["inner", "outer"] (spWithin Ps)) : FnOk P w K mg base CX0 (k + 4) f fd ["one", "other"] (spLies Ps) := by
  refine F.ok sc_lies_in (fun vs H Q E h => ?_) (fun A outer s H vs Q E hr h => ?_)
  · obtain ⟨a, c, b, d, rfl, _⟩ := h
    rfl
  · obtain ⟨a, c, b, d, rfl, ⟨ka, ha, hEa, hNa, hLa, hBa⟩, ⟨kc, hc, hEc, hNc, hLc, hBc⟩, hT, q⟩ := h
    refine ⟨_, pss_one (ps_ret (pe_lock (pe_all (own := [("name", 2)]) (g := gName 2) hr (by rfl) ma (by decide +kernel) TB rfl rfl sc_lies_in.nd (pi_keys (pv 1))
      (blkOk_by (own := [("name", 2)]) (N := ["one", "other", "name"]) (sc := defScope s_lies_in) (by decide +kernel)) rfl (by decide +kernel) rfl
      (fun _ _ _ _ _ _ => pg_name (i := 2) sc_lies_in.nd rfl (Or.inl rfl)) (fun _ _ _ _ _ _ => pts_nil)
      (fun _ _ _ _ _ _ => pe_and (pe_cmp (pc_din (hu_of (room_gen hr _)) (pv 2) (pv 0))) (pe_one (pe_call GW (room_gen hr _) (by rfl) gW kW bW .nil pass0 (pa_cons (pe_dget (hu_of (room_gen hr _)) (pv 0) (pv 2) (fun _ _ => rfl)) (pa_cons (pe_dget (hu_of (room_gen hr _)) (pv 1) (pv 2) (fun _ _ => rfl)) pa_nil)))))))), ?_⟩
    have hkn : (kc.map (·.1)).Nodup := by
      rw [hEc.keys]
      exact keys_nodup hNc
    refine ⟨c, _, hc, trivial, fun od => ⟨_, rfl, c, od, rfl, .inl ⟨kc, upd_same, hT.lock hc nt_dK _ hP, fun H2 hTb => ?_⟩⟩⟩
    have hcL : (upd H c (.frz od (.dK kc))) c = some (.frz od (.dK kc)) := upd_same
    have haL : Rd (upd H c (.frz od (.dK kc))) a (.dK ka) := rd_lock ha hc
    have hEcL := hEc.frz (o := od) (u := .dK kc) hc
    have hEaL := hEa.frz (o := od) (u := .dK kc) hc
    have hTL : Tabs Ps (upd H c (.frz od (.dK kc))) := hT.lock hc nt_dK
    have fin : ∀ {HX : Hp} {r : Bool}, SameN Ps (upd H c (.frz od (.dK kc))) HX → liesF b d = r → HX c = some (.frz od (.dK kc)) ∧ Q (.bl r) (upd HX c (.dK kc)) := fun {HX r} sX e => ⟨sX.k _ _ nt_frz hcL, by
      have := q _ (SameN.unlock hc nt_dK hT sX)
      rw [e] at this
      exact this⟩
    refine all_it (walk_keys (d := c) (o := od) (kvs := kc)) (fun i HX => SameN Ps (upd H c (.frz od (.dK kc))) HX ∧ liesF b (d.take i) = true) ⟨SameN.tab hTL hP hTb, rfl⟩ (fun i HX _ h => h.1.k _ _ nt_frz hcL) (fun i x HX HX' hi hP' hY => ?_) (fun HX hP' => ?_)
    · obtain ⟨rfl, kk, v0, hkv, rfl⟩ := hY
      obtain ⟨sX, hin⟩ := hP'
      obtain ⟨n, lc, vc, rfl, rfl, hlc, hdi⟩ := hEcL.get hkv
      have hval := valV_get hkn hkv
      refine ⟨rfl, tYes_in ?_⟩
      refine ⟨_, rfl, _, rfl, a, _, rfl, .inl ⟨ka, .inr n, rd_sameN haL nt_dK sX, rfl, rfl⟩, _, rfl, ?_⟩
      rcases hEaL.val n with ⟨a1, a2⟩ | ⟨la, va, a1, a2, a3, a4⟩
      · rw [a2]
        refine iteF ⟨_, rfl, fun z => (by cases z), fun _ => fin sX (all_bad hdi ?_)⟩
        show (match at? b n with | none => false | some v => inF v vc) = false
        rw [a1]
      · rw [a2]
        refine iteT ⟨_, rfl, _, rfl, a, V.ref la, rfl, .inl ⟨ka, .inr n, rd_sameN haL nt_dK sX, rfl, a2.symm⟩, _, rfl, _, rfl, c, V.ref lc, rfl, .inl ⟨kc, .inr n, .inr ⟨od, sX.k _ _ nt_frz hcL⟩, rfl, hval.symm⟩, la, lc, va, vc, rfl, sX.k _ _ nt_lst a3, sX.k _ _ nt_lst hlc, sX.t, fun H5 s5 => ⟨_, rfl, fun e => ⟨sX.trans s5, ?_⟩, fun e => fin (sX.trans s5) (all_bad hdi ?_)⟩⟩
        · unfold liesF at hin ⊢
          rw [all_snoc hdi, hin]
          show (true && (match at? b n with | none => false | some v => inF v vc)) = true
          rw [a1]
          exact e
        · show (match at? b n with | none => false | some v => inF v vc) = false
          rw [a1]
          exact e
    · obtain ⟨sX, hin⟩ := hP'
      rw [hEc.length, List.take_length] at hin
      exact fin sX hin
end
end Bn

namespace Bn
open PySem PySem.Spec PyProof.Rows L2 BR GX
theorem count_zero (x : Str) (ws : List Str) : decide (V.int ((ws.count x : Nat) : Int) = V.int 0) = decide (x ∉ ws) := by
  rw [Bool.eq_iff_iff, decide_eq_true_eq, decide_eq_true_eq]
  constructor
  · intro h
    have h2 : ((ws.count x : Nat) : Int) = 0 := V.int.inj h
    exact List.count_eq_zero.mp (by omega)
  · intro h
    have := List.count_eq_zero.mpr h
    rw [this]
    rfl
section
variable {P : Program} {w : World} {K : PySem.W.Frag} {mg : Str → Option Value} {base : Heap}
/-! ### the law's lets -/
def spLLets : Sp := fun vs H Q _ => ∃ (a m : Addr) (b : BD) (ms : MD), vs = [.ref a, .ref m] ∧ Bd H a b ∧ Mk H m ms ∧ ∀ H', Same H H' → Q (.bl (letsF b ms)) H'
theorem ok_llets {f : Addr} {fd : FuncData} {k : Nat} (F : Fun K "_law_lets" "_law_lets" s_l_lets f fd) : FnOk P w K mg base CX0 (k + 1) f fd ["_law_bundle_here", "_law_marks_here"] spLLets := by
  refine F.ok sc_l_lets (fun vs H Q E h => ?_) (fun cdv A outer s H vs Q E hr h => ?_)
  · obtain ⟨a, m, b, ms, rfl, _⟩ := h
    rfl
  · obtain ⟨a, m, b, ms, rfl, ⟨ka, ha, hEa, hNa, hLa, hBa⟩, hm, q⟩ := h
    refine ⟨_, pss_cons (ps_lock (ps_for PassesOwn.never rfl (pi_keys (pv 0)) (pg_name (i := 2) sc_l_lets.nd rfl (.inl rfl))
        (pss_one (ps_if (PW.pt (pw_or (pt_cmp (pc_dnotin (hu_of hr) (pv 2) (pv 1))) (pw_or1 (pt_cmpR op_eq (pe_bmK (K := K) rfl PySem.F.plainAttrs_list PySem.F.slot_list_count PySem.F.type_list_count (mt_countK (K := K) rfl) (pe_dget (hu_of hr) (pv 0) (pv 2) (fun _ _ => rfl)) (pa_cons (pe_dget (hu_of hr) (pv 1) (pv 2) (fun _ _ => rfl)) pa_nil)) pe_int (nomark _)))))
          (pss_one (ps_ret pe_bl)) pss_nil))))
      (pss_one (ps_ret pe_bl)), ?_⟩
    have hkn : (ka.map (·.1)).Nodup := by
      rw [hEa.keys]
      exact keys_nodup hNa
    refine ⟨a, _, ha, trivial, fun od => ⟨_, rfl, a, od, rfl, .inl ⟨ka, upd_same, ?_⟩⟩⟩
    have haL : (upd H a (.frz od (.dK ka))) a = some (.frz od (.dK ka)) := upd_same
    have hmL : Rd (upd H a (.frz od (.dK ka))) m (.dK (mkv ms)) := rd_lock hm ha
    have hEaL := hEa.frz (o := od) (u := .dK ka) ha
    have fin : ∀ {HX : Hp} {r : Bool}, Same (upd H a (.frz od (.dK ka))) HX → letsF b ms = r → HX a = some (.frz od (.dK ka)) ∧ Q (.bl r) (upd HX a (.dK ka)) := fun {HX r} sX e => ⟨sX _ _ haL, by
      have := q _ (Same.unlock ha sX)
      rw [e] at this
      exact this⟩
    refine for_it (walk_keys (d := a) (o := od) (kvs := ka)) (fun i σ HX => (∃ y2, σ = [some (.ref a), some (.ref m), y2]) ∧ Same (upd H a (.frz od (.dK ka))) HX ∧ letsF (b.take i) ms = true) ⟨⟨_, rfl⟩, Same.refl _, rfl⟩ (fun i σ HX _ h => h.2.1 _ _ haL) (fun i x σ HX HX' hi hP' hY => ?_) (fun σ HX hP' => ?_)
    · obtain ⟨rfl, kk, v0, hkv, rfl⟩ := hY
      obtain ⟨⟨y2, rfl⟩, sX, hin⟩ := hP'
      obtain ⟨n, la, va, rfl, rfl, hla, hbi⟩ := hEaL.get hkv
      have hval := valV_get hkn hkv
      have hmv := mkv_val n ms
      refine ⟨_, rfl, _, rfl, m, _, rfl, .inl ⟨mkv ms, .inr n, Rd.same hmL sX, rfl, rfl⟩, _, rfl, ?_⟩
      rw [hmv]
      cases em : mAt ms n with
      | none =>
        refine iteT (iteT (fin sX (all_bad hbi ?_)))
        show (match mAt ms n with | none => false | some v => decide (v ∈ va)) = false
        rw [em]
      | some v =>
        rw [em] at hmv
        refine iteF ⟨_, rfl, _, rfl, a, V.ref la, rfl, .inl ⟨ka, .inr n, .inr ⟨od, sX _ _ haL⟩, rfl, hval.symm⟩, .inl ⟨rfl, _, .inl (.inl (sX _ _ hla))⟩, _, rfl, _, rfl, m, V.str v, rfl, .inl ⟨mkv ms, .inr n, Rd.same hmL sX, rfl, hmv.symm⟩, la, va, v, rfl, rfl, .inl (.inl (sX _ _ hla)), rfl, _, rfl, ?_⟩
        rw [count_zero]
        by_cases e : v ∈ va
        · rw [decide_eq_false (fun z => z e)]
          refine iteF ⟨⟨_, rfl⟩, sX, ?_⟩
          unfold letsF at hin ⊢
          rw [all_snoc hbi, hin]
          show (true && (match mAt ms n with | none => false | some v => decide (v ∈ va))) = true
          rw [em]
          exact decide_eq_true e
        · rw [decide_eq_true e]
          refine iteT (fin sX (all_bad hbi ?_))
          show (match mAt ms n with | none => false | some v => decide (v ∈ va)) = false
          rw [em]
          exact decide_eq_false e
    · obtain ⟨⟨y2, rfl⟩, sX, hin⟩ := hP'
      rw [hEa.length, List.take_length] at hin
      obtain ⟨h1, h2⟩ := fin sX hin
      exact ⟨h1, h2⟩
/-! ### same -/
def spSame : Sp := fun vs H Q _ => ∃ x : Bool, vs = [.bl x, .bl x] ∧ Q (.bl true) H
theorem ok_same {f : Addr} {fd : FuncData} {k : Nat} (F : Fun K "_law_same" "_law_same" s_l_same f fd) (mis : mg "isinstance" = none) (mb : mg "bool" = none) : FnOk P w K mg base CX0 (k + 1) f fd ["_law_found", "_law_due"] spSame := by
  refine F.ok sc_l_same (fun vs H Q E h => ?_) (fun cdv A outer s H vs Q E hr h => ?_)
  · obtain ⟨x, rfl, _⟩ := h
    rfl
  · obtain ⟨x, rfl, q⟩ := h
    refine ⟨_, pss_one (ps_ret (pe_and (pe_callB call_isi (by rfl) mis (by decide +kernel) (pa_cons (pv 0) (pa_cons (pe_bltn (v := .ty "bool") (by rfl) mb (by decide +kernel) rfl) pa_nil))) (pe_one (pe_cmpR op_eq (pv 0) (pv 1) (nomark _))))), ?_⟩
    refine ⟨_, rfl, _, .ty "bool", .type "bool", .type "bool", true, rfl, .ty "bool", .base (.bl _), kit_ty (by decide +kernel), true, rfl, iteT ⟨_, rfl, _, rfl, rfl, ?_⟩⟩
    show Q (.bl (decide (V.bl x = V.bl x))) H
    rw [decide_eq_true rfl]
    exact q
end
end Bn

namespace Bn
open PySem PySem.Spec PyProof.Rows L2 BR GX
def strangeF (b : BD) (n : Str) (ws : List Str) : List Str := ((at? b n).getD []).filter fun x => decide (x ∉ ws)
theorem inF_filter (xs ys : List Str) : inF xs ys = (xs.filter fun x => decide (x ∉ ys)).isEmpty := by
  unfold inF
  rw [Bool.eq_iff_iff, List.all_eq_true, List.isEmpty_iff, List.filter_eq_nil_iff]
  constructor
  · intro h x hx
    have := of_decide_eq_true (h x hx)
    rw [decide_eq_false (fun z => z this)]
    decide
  · intro h x hx
    have := h x hx
    by_cases c : x ∈ ys
    · exact decide_eq_true c
    · exact absurd (decide_eq_true c) this
theorem at?_mem' {b : BD} {n : Str} {vs : List Str} (h : at? b n = some vs) : (n, vs) ∈ b := by
  unfold at? at h
  obtain ⟨e, he, rfl⟩ := Option.map_eq_some_iff.mp h
  have h1 := List.find?_some he
  have h2 := List.mem_of_find?_eq_some he
  have h3 : e.1 = n := of_decide_eq_true h1
  rw [← h3]
  exact h2
section
variable {P : Program} {w : World} {K : PySem.W.Frag} {mg : Str → Option Value} {base : Heap}
/-! ### the law's lies -/
def spLLies : Sp := fun vs H Q _ => ∃ (a c : Addr) (b d : BD), vs = [.ref a, .ref c] ∧ Bd H a b ∧ Bd H c d ∧ ∀ H', Same H H' → Q (.bl (liesF b d)) H'
theorem ok_llies {f : Addr} {fd : FuncData} {k : Nat} (F : Fun K "_law_lies" "_law_lies" s_l_lies f fd) : FnOk P w K mg base CX0 (k + 1) f fd ["_law_one", "_law_other"] spLLies := by
  refine F.ok sc_l_lies (fun vs H Q E h => ?_) (fun cdv A outer s H vs Q E hr h => ?_)
  · obtain ⟨a, c, b, d, rfl, _⟩ := h
    rfl
  · obtain ⟨a, c, b, d, rfl, ⟨ka, ha, hEa, hNa, hLa, hBa⟩, ⟨kc, hc, hEc, hNc, hLc, hBc⟩, q⟩ := h
    refine ⟨_, pss_cons (ps_lock (ps_for PassesOwn.never rfl (pi_keys (pv 1)) (pg_name (i := 2) sc_l_lies.nd rfl (.inr rfl))
        (C8.pss_cut (ps_setLc (i := 3) (own := [("_law_value", 4)]) (g := gName 4) rfl sc_l_lies.nd rfl rfl (sw_true rfl rfl rfl (by decide +kernel)) (pi_list (pe_dget2 (hu_of hr) (pv 0) (pv 2) (pe_lst pa_nil) ⟨rfl, rfl, rfl, rfl⟩))
          (blkOk_by (own := [("_law_value", 4)]) (N := ["_law_one", "_law_other", "_law_name", "_law_strange", "_law_value"]) (sc := defScope s_l_lies) (by decide +kernel))
          (fun _ _ _ _ _ => pg_name (i := 4) sc_l_lies.nd rfl (Or.inl rfl)) (fun _ _ _ _ _ => pts_one (pt_cmpR op_eq (pe_bmK (K := K) rfl PySem.F.plainAttrs_list PySem.F.slot_list_count PySem.F.type_list_count (mt_countK (K := K) rfl) (pe_dget (hu_of hr) (pv 1) (pv 2) (fun _ _ => rfl)) (pa_cons (pv 4) pa_nil)) pe_int (nomark _))) (fun _ _ _ _ _ => pv 4))
        (pss_one (ps_if (PW.pt (pw_or (pt_cmp (pc_dnotin (hu_of hr) (pv 2) (pv 0))) (pw_or1 (pt_cmpR (op_neD hr.units) (pv 3) (pe_lst pa_nil) (nomark _)))))
          (pss_one (ps_ret pe_bl)) pss_nil)))))
      (pss_one (ps_ret pe_bl)), ?_⟩
    have hkn : (kc.map (·.1)).Nodup := by
      rw [hEc.keys]
      exact keys_nodup hNc
    refine ⟨c, _, hc, trivial, fun od => ⟨_, rfl, c, od, rfl, .inl ⟨kc, upd_same, ?_⟩⟩⟩
    have hcL : (upd H c (.frz od (.dK kc))) c = some (.frz od (.dK kc)) := upd_same
    have haL : Rd (upd H c (.frz od (.dK kc))) a (.dK ka) := rd_lock ha hc
    have hEcL := hEc.frz (o := od) (u := .dK kc) hc
    have hEaL := hEa.frz (o := od) (u := .dK kc) hc
    have fin : ∀ {HX : Hp} {r : Bool}, Same (upd H c (.frz od (.dK kc))) HX → liesF b d = r → HX c = some (.frz od (.dK kc)) ∧ Q (.bl r) (upd HX c (.dK kc)) := fun {HX r} sX e => ⟨sX _ _ hcL, by
      have := q _ (Same.unlock hc sX)
      rw [e] at this
      exact this⟩
    refine for_it (walk_keys (d := c) (o := od) (kvs := kc)) (fun i σ HX => (∃ y2 y3 y4, σ = [some (.ref a), some (.ref c), y2, y3, y4]) ∧ Same (upd H c (.frz od (.dK kc))) HX ∧ liesF b (d.take i) = true) ⟨⟨_, _, _, rfl⟩, Same.refl _, rfl⟩ (fun i σ HX _ h => h.2.1 _ _ hcL) (fun i x σ HX HX' hi hP' hY => ?_) (fun σ HX hP' => ?_)
    · obtain ⟨rfl, kk, v0, hkv, rfl⟩ := hY
      obtain ⟨⟨y2, y3, y4, rfl⟩, sX, hin⟩ := hP'
      obtain ⟨n, lc, vc, rfl, rfl, hlc, hdi⟩ := hEcL.get hkv
      have hval := valV_get hkn hkv
      have okst : ∀ x ∈ strangeF b n vc, okS x := fun x hx => by
        unfold strangeF at hx
        have hx2 := (List.mem_filter.mp hx).1
        cases e : at? b n with
        | none =>
          rw [e] at hx2
          exact absurd hx2 List.not_mem_nil
        | some v =>
          rw [e] at hx2
          exact (hBa _ (at?_mem' e)).2.2.2 x hx2
      refine ⟨fun σ' HM => ∃ D, σ' = [some (.ref a), some (.ref c), some (.str n), some (.ref D), y4] ∧ Same (upd H c (.frz od (.dK kc))) HM ∧ HM D = some (.lst ((strangeF b n vc).map V.str)), ?_, fun σ' HM hM => ?_⟩
      · refine ⟨_, rfl, a, rfl, .inl ⟨ka, Rd.same haL sX⟩, _, rfl, Nat.zero_le _, fun p1 np1 => ⟨valV ka (.inr n), .inl ⟨ka, .inr n, Rd.same (Rd.same haL sX) (same_new np1), rfl, rfl⟩, ?_⟩⟩
        have s1 : Same HX' (upd HX' p1 (.lst [])) := same_new np1
        -- the list that is walked
        obtain ⟨lx, vx, e1, e2, e3, e4⟩ : ∃ lx vx, (valV ka (.inr n)).getD (.ref p1) = .ref lx ∧ (upd HX' p1 (.lst [])) lx = some (.lst (vx.map V.str)) ∧ (at? b n).getD [] = vx ∧ vx.length ≤ 20 := by
          rcases hEaL.val n with ⟨z1, z2⟩ | ⟨l', vs', z1, z2, z3, _⟩
          · exact ⟨p1, [], by rw [z2]; rfl, upd_same, by rw [z1]; rfl, Nat.zero_le _⟩
          · exact ⟨l', vs', by rw [z2]; rfl, s1 _ _ (sX _ _ z3), by rw [z1]; rfl, (hBa _ (at?_mem' z1)).2.2.1⟩
        rw [e1]
        refine ⟨lx, rfl, ⟨_, .inl (.inl e2)⟩, fun D nD => ?_⟩
        have sZ := (sX.trans s1)
        refine lc_list (K := K) (a := lx) (xs := vx.map V.str) (fun j HY => Same (upd HX' p1 (.lst [])) HY ∧ HY D = some (.lst (((vx.take j).filter fun x => decide (x ∉ vc)).map V.str))) ⟨same_new nD, upd_same⟩ (fun j HY _ h => .inl (.inl (h.1 _ _ e2))) (fun j x HY hx hP => ?_) (fun HY hP => ?_)
        · obtain ⟨sY, hD⟩ := hP
          rw [List.getElem?_map] at hx
          obtain ⟨y, ey, ex⟩ := Option.map_eq_some_iff.mp hx
          subst ex
          have hlcY := sY _ _ (sZ _ _ hlc)
          refine ⟨rfl, _, rfl, _, rfl, c, V.ref lc, rfl, .inl ⟨kc, .inr n, .inr ⟨od, sY _ _ (sZ _ _ hcL)⟩, rfl, hval.symm⟩, .inl ⟨rfl, _, .inl (.inl hlcY)⟩, _, rfl, lc, vc, y, rfl, rfl, .inl (.inl hlcY), rfl, _, rfl, ?_⟩
          rw [count_zero]
          by_cases e : y ∈ vc
          · rw [decide_eq_false (fun z => z e)]
            refine iteF ⟨sY, ?_⟩
            rw [filter_snoc ey, if_neg (by rw [decide_eq_false (fun z => z e)]; decide), List.append_nil]
            exact hD
          · rw [decide_eq_true e]
            refine iteT ⟨_, rfl, _, hD, ?_, Same.own sY nD, ?_⟩
            · rw [List.length_map]
              refine small1000 (Nat.le_trans (List.length_filter_le _ _) ?_)
              rw [List.length_take]
              omega
            · rw [upd_same, filter_snoc ey, if_pos (decide_eq_true e), List.map_append]
              rfl
        · obtain ⟨sY, hD⟩ := hP
          rw [List.length_map, List.take_length] at hD
          refine ⟨D, rfl, sZ.trans sY, ?_⟩
          unfold strangeF
          rw [e3]
          exact hD
      · obtain ⟨D, rfl, sM, hD⟩ := hM
        refine ⟨_, rfl, _, rfl, a, _, rfl, .inl ⟨ka, .inr n, Rd.same haL sM, rfl, rfl⟩, _, rfl, ?_⟩
        rcases hEaL.val n with ⟨a1, a2⟩ | ⟨la, va, a1, a2, a3, a4⟩
        · rw [a2]
          refine iteT (iteT (fin sM (all_bad hdi ?_)))
          show (match at? b n with | none => false | some v => inF v vc) = false
          rw [a1]
        · rw [a2]
          have es : strangeF b n vc = va.filter fun x => decide (x ∉ vc) := by
            unfold strangeF
            rw [a1]
            rfl
          refine iteF ⟨_, rfl, Nat.zero_le _, fun p2 np2 => ?_⟩
          have sm : Same HM (upd HM p2 (.lst [])) := same_new np2
          refine ⟨_, _, .lst (.inl (.inl (sm _ _ hD))) (strs_dp _), .lst (.inl (.inl upd_same)) .nil, strs_list_shaped okst, rfl, _, rfl, ?_⟩
          rw [strs_nil, es, ← inF_filter]
          cases e : inF va vc with
          | true =>
            refine iteF ⟨⟨_, _, _, rfl⟩, sM.trans sm, ?_⟩
            unfold liesF at hin ⊢
            rw [all_snoc hdi, hin]
            show (true && (match at? b n with | none => false | some v => inF v vc)) = true
            rw [a1]
            exact e
          | false =>
            refine iteT (fin (sM.trans sm) (all_bad hdi ?_))
            show (match at? b n with | none => false | some v => inF v vc) = false
            rw [a1]
            exact e
    · obtain ⟨⟨y2, y3, y4, rfl⟩, sX, hin⟩ := hP'
      rw [hEc.length, List.take_length] at hin
      obtain ⟨h1, h2⟩ := fin sX hin
      exact ⟨h1, h2⟩
end
end Bn

namespace Bn
open PySem PySem.Spec PyProof.Rows L2 BR GX
theorem cut_strs (vs : List Str) (n : Nat) : cutV (vs.map V.str) none (some (n : Int)) = (vs.take n).map V.str := by
  unfold cutV
  rw [List.length_map, HT.sIx_none, List.drop_zero, HT.sIx_nat, Nat.sub_zero, ← List.map_take]
  congr 1
  by_cases h : n ≤ vs.length
  · rw [Nat.min_eq_left h]
  · rw [Nat.min_eq_right (by omega), List.take_length, List.take_of_length_le (by omega)]
def valV? (e : Str × List Str) : Prop := okS e.1 ∧ 1 ≤ e.2.length ∧ e.2.length ≤ 20 ∧ ∀ x ∈ e.2, okS x
/-- a bundle's dict that is being made at d -/
def Made (H : Hp) (b d : Addr) (i : Nat) (HX : Hp) : Prop := Kb b H HX ∧ ∃ kvs bd, HX d = some (.dK kvs) ∧ Ents HX kvs bd ∧ (bd.map (·.1)).Nodup ∧ bd.length ≤ i ∧ ∀ e ∈ bd, valV? e
theorem Made.kb {H HX HY : Hp} {b d : Addr} {i : Nat} (h : Made H b d i HX) (nd : d ≠ b) (k : Kb b HX HY) : Made H b d i HY := by
  obtain ⟨kb, kvs, bd, h1, h2, h3, h4, h5⟩ := h
  refine ⟨kb.trans k, kvs, bd, k.k _ _ nd h1, h2.mono fun l zs hl ⟨n, hm⟩ => ?_, h3, h4, h5⟩
  obtain ⟨e', he', hl'⟩ := h2.vals hm
  exact k.k _ _ (ne_bx kb.x hl' (strs_ne_ints (h5 e' he').2.1)) hl
theorem Made.more {H HX : Hp} {b d : Addr} {i j : Nat} (h : Made H b d i HX) (hj : i ≤ j) : Made H b d j HX := by
  obtain ⟨kb, kvs, bd, h1, h2, h3, h4, h5⟩ := h
  exact ⟨kb, kvs, bd, h1, h2, h3, Nat.le_trans h4 hj, h5⟩
theorem Made.put {H HX : Hp} {b d l : Addr} {i : Nat} {n : Str} {vs : List Str} (h : Made H b d i HX) (nd : H d = none) (ndb : d ≠ b) (hi : i ≤ 100) (hl : HX l = some (.lst (vs.map V.str))) (hv : valV? (n, vs)) : ∃ H4, DPut HX d (.str n) (.ref l) H4 ∧ Made H b d (i + 1) H4 := by
  obtain ⟨kb, kvs, bd, h1, h2, h3, h4, h5⟩ := h
  have pl := putB_len bd n vs
  exact ⟨_, DPut.k (k := .inr n) h1 (by rw [h2.length]; exact small1000 (by omega)), kb.own nd ndb, _, putB bd n vs, upd_same, (h2.put hl).upd_dict h1, putB_keys _ _ _ h3, by omega, putB_all h5 hv⟩
theorem feats_ne {H : Hp} {xs : List V} (h : ∀ v ∈ xs, Ft H v) : ∀ x y z t : Int, HO.lst xs ≠ .lst [.int x, .int y, .int z, .int t] := fun x y z t e => by
  injection e with e1
  rw [e1] at h
  obtain ⟨p, _, _, e2, _⟩ := h _ (List.mem_cons_self ..)
  cases e2
section
variable {P : Program} {w : World} {K : PySem.W.Frag} {mg : Str → Option Value} {base : Heap}
/-! ### near -/
def spNear (K : PySem.W.Frag) : Sp := fun vs H Q _ => ∃ (b a l : Addr) (xs : List V) (c : BD), vs = [.ref b, .ref a, .ref l] ∧ Bx H b ∧ Bd H a c ∧ H l = some (.lst xs) ∧ xs.length ≤ 6 ∧ (∀ v ∈ xs, Ft H v) ∧ ∀ (p : Addr) (d : BD) H', H p = none → Kb b H H' → Bd H' p d → Q (.ref p) H'
theorem ok_near {f fT : Addr} {fd fdT : FuncData} (F : Fun K "_law_near" "_law_near" s_l_near f fd)
    (kT : PySem.W.keepIn K (.ref fT) = true) (bT : Binds K fdT ["_law_box_here", "_law_many"] []) (gT : mg "_law_take" = some (.ref fT)) (GT : FnOk P w K mg base CX0 2 fT fdT ["_law_box_here", "_law_many"] spTake)
    (ml : mg "len" = none) (mli : mg "list" = none) : FnOk P w K mg base CX0 3 f fd ["_law_box_here", "_law_bundle_here", "_law_features_here"] (spNear K) := by
  refine F.ok sc_l_near (fun vs H Q E h => ?_) (fun cdv A outer s H vs Q E hr h => ?_)
  · obtain ⟨b, a, l, xs, c, rfl, _⟩ := h
    rfl
  · obtain ⟨b, a, l, xs, c, rfl, hb, hA, hS, hxl, hF, q⟩ := h
    refine ⟨_, pss_cons (ps_set (i := 3) sc_l_near.nd rfl (.inl rfl) pe_dnewK)
      (pss_cons (ps_for PassesOwn.never rfl (pi_list (pv 2))
          (pg_tup rfl (pgs_cons (pg_name (i := 4) sc_l_near.nd rfl (.inl rfl)) (pgs_cons (pg_name (i := 5) sc_l_near.nd rfl (.inl rfl)) (pgs_cons (pg_name (i := 6) sc_l_near.nd rfl (.inl rfl)) pgs_nil))))
        (pss_cons (ps_set (i := 7) sc_l_near.nd rfl (.inl rfl) (pe_call GT hr (by rfl) gT kT bT .nil pass0 (pa_cons (pv 0) (pa_cons pe_int pa_nil))))
        (C8.pss_cut (ps_if (PW.pt (pw_and (pt_cmp (pc_din (hu_of hr) (pv 4) (pv 1))) (pw_and1 (pt_cmpR op_gt (pv 7) pe_int (nomark _))))) (pss_one (ps_dput (hu_of hr) (pv 3) (pv 4) (pe_dget (hu_of hr) (pv 1) (pv 4) (fun _ _ => rfl)) rfl)) pss_nil)
        (C8.pss_cut (ps_if (PW.pt (pw_and (pt_cmp (pc_din (hu_of hr) (pv 4) (pv 1))) (pw_and1 (pt_cmpR op_eq (pv 7) pe_int (nomark _))))) (pss_one (ps_dput (hu_of hr) (pv 3) (pv 4) (pe_slice sl_list (pe_dget (hu_of hr) (pv 1) (pv 4) (fun _ _ => rfl)) po_none (po_some (pe_op op_add pe_int (pe_call GT hr (by rfl) gT kT bT .nil pass0 (pa_cons (pv 0) (pa_cons (pe_callB call_len_seq (by rfl) ml PySem.boot_len (pa_cons (pe_dget (hu_of hr) (pv 1) (pv 4) (fun _ _ => rfl)) pa_nil)) pa_nil)))))) rfl)) pss_nil)
        (pss_one (ps_if (PW.pt (pw_and (pt_cmpR op_eq (pv 7) pe_int (nomark _)) (pw_and1 (pt_cmpR op_eq (pe_call GT hr (by rfl) gT kT bT .nil pass0 (pa_cons (pv 0) (pa_cons pe_int pa_nil))) pe_int (nomark _))))) (pss_one (ps_dput (hu_of hr) (pv 3) (pv 4) (pe_callTy call_list_of (by rfl) mli (by decide +kernel) (pa_cons (pv 5) pa_nil)) rfl)) pss_nil))))))
      (pss_one (ps_ret (pv 3)))), ?_⟩
    intro d nd
    have k1 : Kb b H (upd H d (.dK [])) := Kb.new hb nd
    have ndb : d ≠ b := (hb.ne nd).symm
    have hS1 : SqL K (upd H d (.dK [])) l xs := .inl (.inl (same_new nd _ _ hS))
    refine ⟨_, rfl, l, rfl, ⟨_, hS1⟩, ?_⟩
    have hSk : ∀ {HX : Hp}, Kb b H HX → SqL K HX l xs := fun {HX} k => .inl (.inl (k.k _ _ (ne_bx hb hS (feats_ne hF)) hS))
    refine for_list (K := K) (a := l) (xs := xs) (fun i σ H' => (∃ y4 y5 y6 y7, σ = [some (.ref b), some (.ref a), some (.ref l), some (.ref d), y4, y5, y6, y7]) ∧ Made H b d (3 * i) H')
      ⟨⟨_, _, _, _, rfl⟩, k1, [], [], upd_same, .nil, List.nodup_nil, Nat.le_refl _, fun e he => absurd he List.not_mem_nil⟩ (fun i σ H' _ h => hSk h.2.1) (fun i x σ H' hx hP => ?_) (fun σ H' hP => ?_)
    · obtain ⟨⟨y4, y5, y6, y7, rfl⟩, hM⟩ := hP
      have hil : i < xs.length := (List.getElem?_eq_some_iff.mp hx).1
      obtain ⟨pt, lv, dd, rfl, f1, f2, hB⟩ := hF x (List.mem_of_getElem? hx)
      have e1 := hM.1.k _ _ (ne_bx hb f1 (fun _ _ _ _ z => by cases z)) f1
      refine ⟨pt, _, rfl, .inl (.inl e1), rfl, _, _, rfl, _, _, rfl, _, _, rfl, rfl, ?_⟩
      refine ⟨_, rfl, b, 6, rfl, hM.1.x, by decide, by decide, fun h1 HA h10 h11 kA => ?_⟩
      have hMA := hM.kb ndb kA
      -- the first if
      refine ⟨fun σ' HM => σ' = [some (.ref b), some (.ref a), some (.ref l), some (.ref d), some (.str dd.n), some (.ref lv), some (.bl dd.t), some (.int h1)] ∧ Made H b d (3 * i + 1) HM, ?_, fun σ' HM hM1 => ?_⟩
      · obtain ⟨ka, ha, hEa, hNa, hLa, hBa⟩ := hA.kp hb hMA.1.k
        refine ⟨_, rfl, _, rfl, a, _, rfl, DGet.k (k := .inr dd.n) ha, _, rfl, ?_⟩
        rcases hEa.val dd.n with ⟨a1, a2⟩ | ⟨la, va, a1, a2, a3, a4⟩
        · rw [a2]
          exact iteF (iteF ⟨rfl, hMA.more (Nat.le_succ _)⟩)
        · rw [a2]
          refine iteT ⟨_, rfl, _, _, rfl, rfl, _, rfl, ite2 (fun e => ?_) (fun e => ⟨rfl, hMA.more (Nat.le_succ _)⟩)⟩
          obtain ⟨H4, hput, hM4⟩ := hMA.put (n := dd.n) nd ndb (by omega) a3 (hBa _ (at?_mem' a1))
          exact ⟨_, rfl, _, rfl, a, V.ref la, rfl, by rw [← a2]; exact DGet.k (k := .inr dd.n) ha, _, rfl, _, rfl, d, H4, rfl, hput, rfl, hM4⟩
      · obtain ⟨rfl, hM1⟩ := hM1
        -- the second if
        refine ⟨fun σ' HN => σ' = [some (.ref b), some (.ref a), some (.ref l), some (.ref d), some (.str dd.n), some (.ref lv), some (.bl dd.t), some (.int h1)] ∧ Made H b d (3 * i + 2) HN, ?_, fun σ' HN hM2 => ?_⟩
        · have hAM := hA.kp hb hM1.1.k
          obtain ⟨ka, ha, hEa, hNa, hLa, hBa⟩ := hAM
          refine ⟨_, rfl, _, rfl, a, _, rfl, DGet.k (k := .inr dd.n) ha, _, rfl, ?_⟩
          rcases hEa.val dd.n with ⟨a1, a2⟩ | ⟨la, va, a1, a2, a3, a4⟩
          · rw [a2]
            exact iteF (iteF ⟨rfl, hM1.more (Nat.le_succ _)⟩)
          · rw [a2]
            refine iteT ⟨_, rfl, rfl, _, rfl, ite2 (fun e => ?_) (fun e => ⟨rfl, hM1.more (Nat.le_succ _)⟩)⟩
            have hva := hBa _ (at?_mem' a1)
            have va1 : 1 ≤ va.length := hva.2.1
            have va2 : va.length ≤ 20 := hva.2.2.1
            have dg : DGet HM a (.str dd.n) (some (.ref la)) := by rw [← a2]; exact DGet.k (k := .inr dd.n) ha
            refine ⟨_, rfl, _, rfl, a, V.ref la, rfl, dg, _, rfl, _, rfl, _, rfl, a, V.ref la, rfl, dg, la, _, rfl, .inl (.inl (.inl a3)), b, _, rfl, hM1.1.x, by rw [List.length_map]; omega, by rw [List.length_map]; omega, fun n HB n0 n1 kB => ?_⟩
            rw [List.length_map] at n1
            have hMB := hM1.kb ndb kB
            have a3B := kB.k _ _ (ne_bx hM1.1.x a3 (strs_ne_ints va1)) a3
            refine ⟨_, _, rfl, rfl, _, rfl, la, _, rfl, .inl (.inl a3B), fun l1 n1' => ?_⟩
            have ec : cutV (va.map V.str) none (some (1 + n)) = (va.take (1 + n.toNat)).map V.str := by
              rw [show (1 + n : Int) = ((1 + n.toNat : Nat) : Int) by omega]
              exact cut_strs va _
            rw [ec]
            have hMC := hMB.kb ndb (Kb.new (o := .lst ((va.take (1 + n.toNat)).map V.str)) hMB.1.x n1')
            obtain ⟨H4, hput, hM4⟩ := hMC.put (n := dd.n) (l := l1) nd ndb (by omega) upd_same ⟨hva.1, by show 1 ≤ (va.take _).length; rw [List.length_take]; omega, by show (va.take _).length ≤ 20; rw [List.length_take]; omega, fun x hx => hva.2.2.2 x (List.mem_of_mem_take hx)⟩
            exact ⟨_, rfl, _, rfl, d, H4, rfl, hput, rfl, hM4⟩
        · obtain ⟨rfl, hM2⟩ := hM2
          -- the third if
          have done : ∀ {HZ : Hp}, Made H b d (3 * (i + 1)) HZ → (∃ y4 y5 y6 y7, [some (V.ref b), some (.ref a), some (.ref l), some (.ref d), some (.str dd.n), some (.ref lv), some (.bl dd.t), some (.int h1)] = [some (.ref b), some (.ref a), some (.ref l), some (.ref d), y4, y5, y6, y7]) ∧ Made H b d (3 * (i + 1)) HZ := fun h => ⟨⟨_, _, _, _, rfl⟩, h⟩
          refine ⟨_, rfl, rfl, _, rfl, ite2 (fun e => ?_) (fun e => iteF (done (hM2.more (by omega))))⟩
          refine ⟨_, rfl, b, 3, rfl, hM2.1.x, by decide, by decide, fun n HB n0 n1 kB => ⟨rfl, _, rfl, ite2 (fun e => ?_) (fun e => done ((hM2.kb ndb kB).more (by omega)))⟩⟩
          have hMB := hM2.kb ndb kB
          have f2B := hMB.1.k _ _ (ne_bx hb f2 (strs_ne_ints hB.1)) f2
          refine ⟨_, rfl, lv, _, rfl, .inl (.inl (.inl f2B)), fun l1 nl1 => ?_⟩
          have hMC := hMB.kb ndb (Kb.new (o := .lst (dd.vs.map V.str)) hMB.1.x nl1)
          have hvl := hB.2.1
          obtain ⟨H4, hput, hM4⟩ := hMC.put (n := dd.n) (l := l1) nd ndb (by omega) upd_same ⟨hB.2.2.1, hB.1, by show dd.vs.length ≤ 20; omega, hB.2.2.2⟩
          exact ⟨_, rfl, _, rfl, d, H4, rfl, hput, done (hM4.more (by omega))⟩
    · obtain ⟨⟨y4, y5, y6, y7, rfl⟩, kb, kvs, bd, h1, h2, h3, h4, h5⟩ := hP
      exact ⟨_, rfl, q d bd _ nd kb ⟨kvs, h1, h2, h3, by omega, h5⟩⟩
end
end Bn

namespace Bn
open PySem PySem.Spec PyProof.Rows L2 BR GX
def putM (ms : MD) (n v : Str) : MD := if (ms.any fun e => decide (e.1 = n)) = true then ms.map (fun e => if e.1 = n then (e.1, v) else e) else ms ++ [(n, v)]
theorem mkv_put (n v : Str) : ∀ ms : MD, putK (mkv ms) (.inr n) (.str v) = mkv (putM ms n v) := fun ms => by
  have hany : ((mkv ms).any fun kv => decide (kv.1 = (Sum.inr n : Key))) = ms.any fun e => decide (e.1 = n) := by
    induction ms with
    | nil => rfl
    | cons e ms ih =>
      show (decide ((Sum.inr e.1 : Key) = Sum.inr n) || (mkv ms).any fun kv => decide (kv.1 = (Sum.inr n : Key))) = _
      rw [ih, List.any_cons]
      congr 1
      by_cases q : e.1 = n
      · rw [decide_eq_true q, decide_eq_true (by rw [q])]
      · rw [decide_eq_false q, decide_eq_false (fun z => q (Sum.inr.inj z))]
  unfold putK putM
  rw [hany]
  split
  · unfold mkv
    rw [List.map_map, List.map_map]
    apply List.map_congr_left
    intro e _
    show (if (Sum.inr e.1 : Key) = Sum.inr n then ((Sum.inr e.1 : Key), V.str v) else (Sum.inr e.1, V.str e.2)) = _
    by_cases q : e.1 = n
    · rw [if_pos (by rw [q]), Function.comp, if_pos q]
    · rw [if_neg (fun z => q (Sum.inr.inj z)), Function.comp, if_neg q]
  · unfold mkv
    rw [List.map_append]
    rfl
theorem putM_len (ms : MD) (n v : Str) : (putM ms n v).length ≤ ms.length + 1 := by
  unfold putM
  split
  · rw [List.length_map]
    exact Nat.le_succ _
  · rw [List.length_append]
    exact Nat.le_refl _
theorem putM_keys {ms : MD} (n v : Str) (h : (ms.map (·.1)).Nodup) : ((putM ms n v).map (·.1)).Nodup := by
  unfold putM
  split
  · rw [List.map_map]
    have : ((fun e : Str × Str => e.1) ∘ fun e => if e.1 = n then (e.1, v) else e) = fun e => e.1 := by
      funext e
      show (if e.1 = n then (e.1, v) else e).1 = e.1
      split <;> rfl
    rw [this]
    exact h
  · rename_i hn
    rw [List.map_append, List.nodup_append]
    refine ⟨h, List.nodup_cons.mpr ⟨List.not_mem_nil, List.nodup_nil⟩, fun a ha b hb e => hn ?_⟩
    have hb2 : b = n := List.mem_singleton.mp hb
    obtain ⟨x, hx, ex⟩ := List.mem_map.mp ha
    exact List.any_eq_true.mpr ⟨x, hx, decide_eq_true (by rw [show x.1 = a from ex, e, hb2])⟩
/-- marks that are being made at d -/
def MMade (H : Hp) (b d : Addr) (i : Nat) (HX : Hp) : Prop := Kb b H HX ∧ ∃ ms : MD, HX d = some (.dK (mkv ms)) ∧ (ms.map (·.1)).Nodup ∧ ms.length ≤ i
theorem MMade.kb {H HX HY : Hp} {b d : Addr} {i : Nat} (h : MMade H b d i HX) (nd : d ≠ b) (k : Kb b HX HY) : MMade H b d i HY := by
  obtain ⟨kb, ms, h1, h2, h3⟩ := h
  exact ⟨kb.trans k, ms, k.k _ _ nd h1, h2, h3⟩
theorem MMade.more {H HX : Hp} {b d : Addr} {i j : Nat} (h : MMade H b d i HX) (hj : i ≤ j) : MMade H b d j HX := by
  obtain ⟨kb, ms, h1, h2, h3⟩ := h
  exact ⟨kb, ms, h1, h2, Nat.le_trans h3 hj⟩
theorem MMade.put {H HX : Hp} {b d : Addr} {i : Nat} {n v : Str} (h : MMade H b d i HX) (nd : H d = none) (ndb : d ≠ b) (hi : i ≤ 100) : ∃ H4, DPut HX d (.str n) (.str v) H4 ∧ MMade H b d (i + 1) H4 := by
  obtain ⟨kb, ms, h1, h2, h3⟩ := h
  have pl := putM_len ms n v
  refine ⟨_, DPut.k (k := .inr n) h1 (by unfold mkv; rw [List.length_map]; exact small1000 (by omega)), kb.own nd ndb, putM ms n v, ?_, putM_keys n v h2, by omega⟩
  rw [upd_same, mkv_put]
section
variable {P : Program} {w : World} {K : PySem.W.Frag} {mg : Str → Option Value} {base : Heap}
/-! ### marks -/
def spMarks : Sp := fun vs H Q _ => ∃ (b l a : Addr) (xs : List V) (c : BD), vs = [.ref b, .ref l, .ref a] ∧ Bx H b ∧ H l = some (.lst xs) ∧ xs.length ≤ 6 ∧ (∀ v ∈ xs, Ft H v) ∧ Bd H a c ∧ ∀ (p : Addr) (ms : MD) H', H p = none → Kb b H H' → Mk H' p ms → (ms.map (·.1)).Nodup → ms.length ≤ 6 → Q (.ref p) H'
theorem ok_marks {f fT : Addr} {fd fdT : FuncData} (F : Fun K "_law_marks" "_law_marks" s_l_marks f fd)
    (kT : PySem.W.keepIn K (.ref fT) = true) (bT : Binds K fdT ["_law_box_here", "_law_many"] []) (gT : mg "_law_take" = some (.ref fT)) (GT : FnOk P w K mg base CX0 2 fT fdT ["_law_box_here", "_law_many"] spTake)
    (ml : mg "len" = none) : FnOk P w K mg base CX0 3 f fd ["_law_box_here", "_law_features_here", "_law_bundle_here"] spMarks := by
  refine F.ok sc_l_marks (fun vs H Q E h => ?_) (fun cdv A outer s H vs Q E hr h => ?_)
  · obtain ⟨b, l, a, xs, c, rfl, _⟩ := h
    rfl
  · obtain ⟨b, l, a, xs, c, rfl, hb, hS, hxl, hF, hA, q⟩ := h
    refine ⟨_, pss_cons (ps_set (i := 3) sc_l_marks.nd rfl (.inl rfl) pe_dnewK)
      (pss_cons (ps_for PassesOwn.never rfl (pi_list (pv 1))
          (pg_tup rfl (pgs_cons (pg_name (i := 4) sc_l_marks.nd rfl (.inl rfl)) (pgs_cons (pg_name (i := 5) sc_l_marks.nd rfl (.inl rfl)) (pgs_cons (pg_name (i := 6) sc_l_marks.nd rfl (.inl rfl)) pgs_nil))))
        (C8.pss_cut (ps_set (i := 7) sc_l_marks.nd rfl (.inl rfl) (pe_dget2 (hu_of hr) (pv 2) (pv 4) (pv 5) ⟨rfl, rfl, rfl, rfl⟩))
        (C8.pss_cut (ps_set (i := 8) sc_l_marks.nd rfl (.inl rfl) (pe_ix ix_list (pe_lst (pa_cons (pv 5) (pa_cons (pv 7) (pa_cons (pv 7) (pa_cons (pe_lst (pa_cons pe_str (pa_cons pe_str (pa_cons pe_str pa_nil)))) pa_nil))))) (pe_call GT hr (by rfl) gT kT bT .nil pass0 (pa_cons (pv 0) (pa_cons pe_int pa_nil))) (fun _ _ => rfl)))
        (pss_one (ps_if (pt_cmpR op_gt (pe_call GT hr (by rfl) gT kT bT .nil pass0 (pa_cons (pv 0) (pa_cons pe_int pa_nil))) pe_int (nomark _)) (pss_one (ps_dput (hu_of hr) (pv 3) (pv 4) (pe_ix ix_list (pv 8) (pe_call GT hr (by rfl) gT kT bT .nil pass0 (pa_cons (pv 0) (pa_cons (pe_callB call_len_seq (by rfl) ml PySem.boot_len (pa_cons (pv 8) pa_nil)) pa_nil))) (fun _ _ => rfl)) rfl)) pss_nil)))))
      (pss_one (ps_ret (pv 3)))), ?_⟩
    intro d nd
    have k1 : Kb b H (upd H d (.dK [])) := Kb.new hb nd
    have ndb : d ≠ b := (hb.ne nd).symm
    have hS1 : SqL K (upd H d (.dK [])) l xs := .inl (.inl (same_new nd _ _ hS))
    refine ⟨_, rfl, l, rfl, ⟨_, hS1⟩, ?_⟩
    refine for_list (K := K) (a := l) (xs := xs) (fun i σ H' => (∃ y4 y5 y6 y7 y8, σ = [some (.ref b), some (.ref l), some (.ref a), some (.ref d), y4, y5, y6, y7, y8]) ∧ MMade H b d i H')
      ⟨⟨_, _, _, _, _, rfl⟩, k1, [], upd_same, List.nodup_nil, Nat.le_refl _⟩ (fun i σ H' _ h => .inl (.inl (h.2.1.k _ _ (ne_bx hb hS (feats_ne hF)) hS))) (fun i x σ H' hx hP => ?_) (fun σ H' hP => ?_)
    · obtain ⟨⟨y4, y5, y6, y7, y8, rfl⟩, hM⟩ := hP
      have hil : i < xs.length := (List.getElem?_eq_some_iff.mp hx).1
      obtain ⟨pt, lv, dd, rfl, f1, f2, hB⟩ := hF x (List.mem_of_getElem? hx)
      have e1 := hM.1.k _ _ (ne_bx hb f1 (fun _ _ _ _ z => by cases z)) f1
      have f2' := hM.1.k _ _ (ne_bx hb f2 (strs_ne_ints hB.1)) f2
      refine ⟨pt, _, rfl, .inl (.inl e1), rfl, _, _, rfl, _, _, rfl, _, _, rfl, rfl, ?_⟩
      have hvl := hB.2.1
      -- mine
      refine ⟨fun σ' HM => ∃ (lm : Addr) (vm : List Str), σ' = [some (.ref b), some (.ref l), some (.ref a), some (.ref d), some (.str dd.n), some (.ref lv), some (.bl dd.t), some (.ref lm), y8] ∧ HM = H' ∧ HM lm = some (.lst (vm.map V.str)) ∧ 1 ≤ vm.length ∧ vm.length ≤ 20, ?_, fun σ' HM hM1 => ?_⟩
      · obtain ⟨ka, ha, hEa, hNa, hLa, hBa⟩ := hA.kp hb hM.1.k
        refine ⟨_, rfl, a, rfl, .inl ⟨_, .inl ha⟩, _, rfl, _, rfl, _, DGet.k (k := .inr dd.n) ha, ?_⟩
        rcases hEa.val dd.n with ⟨a1, a2⟩ | ⟨la, va, a1, a2, a3, a4⟩
        · rw [a2]
          exact ⟨lv, dd.vs, rfl, rfl, f2', hB.1, by omega⟩
        · rw [a2]
          have hva := hBa _ (at?_mem' a1)
          exact ⟨la, va, rfl, rfl, a3, hva.2.1, hva.2.2.1⟩
      · obtain ⟨lm, vm, rfl, rfl, hlm, vm1, vm2⟩ := hM1
        -- some
        refine ⟨fun σ' HN => ∃ (ls : Addr) (vs : List Str), σ' = [some (.ref b), some (.ref l), some (.ref a), some (.ref d), some (.str dd.n), some (.ref lv), some (.bl dd.t), some (.ref lm), some (.ref ls)] ∧ MMade H b d i HN ∧ HN ls = some (.lst (vs.map V.str)) ∧ 1 ≤ vs.length ∧ vs.length ≤ 20, ?_, fun σ' HN hM2 => ?_⟩
        · refine ⟨_, rfl, _, rfl, _, rfl, (show 3 ≤ sizeLine by decide), fun p1 np1 => ⟨(show 4 ≤ sizeLine by decide), fun p2 np2 => ?_⟩⟩
          have s1 : Same HM (upd HM p1 (.lst [V.str "a", .str "sg", .str "x"])) := same_new np1
          have s2 := same_new (o := .lst [V.ref lv, .ref lm, .ref lm, .ref p1]) np2
          have hp1 := s2 _ _ (upd_same (H := HM) (a := p1) (o := .lst [V.str "a", .str "sg", .str "x"]))
          have hp2 := upd_same (H := upd HM p1 (.lst [V.str "a", .str "sg", .str "x"])) (a := p2) (o := .lst [V.ref lv, .ref lm, .ref lm, .ref p1])
          have kn : Kb b HM (upd (upd HM p1 (.lst [V.str "a", .str "sg", .str "x"])) p2 (.lst [V.ref lv, .ref lm, .ref lm, .ref p1])) := (Kb.new hM.1.x np1).trans (Kb.new (Kb.new hM.1.x np1).x np2)
          have f22 := (s1.trans s2) _ _ f2'
          have hlm2 := (s1.trans s2) _ _ hlm
          generalize upd (upd HM p1 (.lst [V.str "a", .str "sg", .str "x"])) p2 (.lst [V.ref lv, .ref lm, .ref lm, .ref p1]) = H2 at hp1 hp2 kn f22 hlm2 ⊢
          refine ⟨_, rfl, b, 4, rfl, kn.x, by decide, by decide, fun n HB n0 n1 kB => ?_⟩
          have hp2B := kB.k _ _ (ne_bx kn.x hp2 (fun _ _ _ _ z => by cases z)) hp2
          have hMB := (hM.kb ndb kn).kb ndb kB
          have pick : ∃ (ls : Addr) (vs : List Str), [V.ref lv, .ref lm, .ref lm, .ref p1][n.toNat]? = some (V.ref ls) ∧ H2 ls = some (.lst (vs.map V.str)) ∧ 1 ≤ vs.length ∧ vs.length ≤ 20 := by
            have h4 : n.toNat = 0 ∨ n.toNat = 1 ∨ n.toNat = 2 ∨ n.toNat = 3 := by omega
            rcases h4 with e | e | e | e
            · rw [e]
              exact ⟨lv, dd.vs, rfl, f22, hB.1, by omega⟩
            · rw [e]
              exact ⟨lm, vm, rfl, hlm2, vm1, vm2⟩
            · rw [e]
              exact ⟨lm, vm, rfl, hlm2, vm1, vm2⟩
            · rw [e]
              exact ⟨p1, ["a", "sg", "x"], rfl, hp1, (show 1 ≤ 3 by decide), (show 3 ≤ 20 by decide)⟩
          obtain ⟨ls, vs, gl, hls, v1, v2⟩ := pick
          exact ⟨p2, _, n, _, rfl, rfl, .inl (.inl hp2B), at_of (j := n.toNat) (by omega) gl, ls, vs, rfl, hMB, kB.k _ _ (ne_bx kn.x hls (strs_ne_ints v1)) hls, v1, v2⟩
        · obtain ⟨ls, vs, rfl, hM2, hls, v1, v2⟩ := hM2
          have done : ∀ {HZ : Hp}, MMade H b d (i + 1) HZ → (∃ y4 y5 y6 y7 y8, [some (V.ref b), some (.ref l), some (.ref a), some (.ref d), some (.str dd.n), some (.ref lv), some (.bl dd.t), some (.ref lm), some (.ref ls)] = [some (.ref b), some (.ref l), some (.ref a), some (.ref d), y4, y5, y6, y7, y8]) ∧ MMade H b d (i + 1) HZ := fun h => ⟨⟨_, _, _, _, _, rfl⟩, h⟩
          refine ⟨_, rfl, b, 8, rfl, hM2.1.x, by decide, by decide, fun n HB n0 n1 kB => ⟨_, _, rfl, rfl, _, rfl, ite2 (fun e => ?_) (fun e => done ((hM2.kb ndb kB).more (by omega)))⟩⟩
          have hMB := hM2.kb ndb kB
          have hlsB := kB.k _ _ (ne_bx hM2.1.x hls (strs_ne_ints v1)) hls
          refine ⟨_, rfl, _, rfl, _, rfl, ls, _, rfl, .inl (.inl (.inl hlsB)), b, _, rfl, hMB.1.x, by rw [List.length_map]; omega, by rw [List.length_map]; omega, fun n2 HC m0 m1 kC => ?_⟩
          rw [List.length_map] at m1
          have hMC := hMB.kb ndb kC
          have hlsC := kC.k _ _ (ne_bx hMB.1.x hlsB (strs_ne_ints v1)) hlsB
          have gl : (vs.map V.str)[n2.toNat]? = some (V.str (vs[n2.toNat]'(by omega))) := by
            rw [List.getElem?_map, List.getElem?_eq_getElem (by omega)]
            rfl
          obtain ⟨H4, hput, hM4⟩ := hMC.put (n := dd.n) (v := vs[n2.toNat]'(by omega)) nd ndb (by omega)
          exact ⟨ls, _, n2, _, rfl, rfl, .inl (.inl hlsC), at_of (j := n2.toNat) (by omega) gl, _, rfl, _, rfl, d, H4, rfl, hput, done hM4⟩
    · obtain ⟨⟨y4, y5, y6, y7, y8, rfl⟩, kb, ms, h1, h2, h3⟩ := hP
      exact ⟨_, rfl, q d ms _ nd kb h1 h2 (by omega)⟩
end
end Bn

namespace Bn
open PySem PySem.Spec PyProof.Rows L2 BR GX
theorem at?_get {b : BD} (hn : (b.map (·.1)).Nodup) : ∀ {i : Nat} {n : Str} {vs : List Str}, b[i]? = some (n, vs) → at? b n = some vs := by
  induction b with
  | nil => intro i n vs h; simp at h
  | cons e b ih =>
    intro i n vs h
    obtain ⟨h1, h2⟩ := List.nodup_cons.mp hn
    cases i with
    | zero =>
      have e' := Option.some.inj h
      subst e'
      rw [at?_cons, if_pos rfl]
    | succ j =>
      have h' : b[j]? = some (n, vs) := h
      rw [at?_cons, if_neg, ih h2 h']
      intro z
      exact h1 (List.mem_map.mpr ⟨(n, vs), List.mem_of_getElem? h', z.symm⟩)
theorem eq_strsN {K : PySem.W.Frag} {H : Hp} {m : Nat} : ∀ vs : List Str, Paired (EqV K H (m + 1)) (vs.map V.str) (vs.map V.str)
  | [] => .nil
  | v :: vs => .cons (.inl ⟨rfl, rfl⟩) (eq_strsN vs)
theorem eq_bundlesN {K : PySem.W.Frag} {H : Hp} {m : Nat} {p r : Addr} {b : BD} (hp : Bd H p b) (hr : Bd H r b) : EqV K H (m + 3) (.ref p) (.ref r) := by
  obtain ⟨kp, e1, ep, hB⟩ := hp
  obtain ⟨kr, e2, er, _⟩ := hr
  refine .inr (.inr (.inr ⟨p, r, kp, kr, rfl, rfl, e1, e2, by rw [ep.length, er.length], fun q hq => ?_⟩))
  obtain ⟨i, hi⟩ := List.getElem?_of_mem hq
  obtain ⟨n, l, vs, z1, z2, z3, z4⟩ := ep.get (k := q.1) (v := q.2) hi
  have ha := at?_get hB.1 z4
  rcases er.val n with ⟨z, _⟩ | ⟨l', vs', y1, y2, y3, _⟩
  · rw [ha] at z
    cases z
  · rw [ha] at y1
    have y4 := Option.some.inj y1
    subst y4
    exact ⟨.ref l', by rw [z1]; exact y2, by rw [z2]; exact .inr (.inr (.inl ⟨l, l', _, _, rfl, rfl, .inl (.inl z3), .inl (.inl y3), eq_strsN vs⟩))⟩
theorem mkv_keys {ms : MD} (h : (ms.map (·.1)).Nodup) : ((mkv ms).map (·.1)).Nodup := by
  have e : (mkv ms).map (·.1) = (ms.map (·.1)).map Sum.inr := by
    unfold mkv
    rw [List.map_map, List.map_map]
    rfl
  rw [e]
  exact List.Pairwise.map Sum.inr (fun a b h z => h (Sum.inr.inj z)) h
theorem eq_marks {K : PySem.W.Frag} {H : Hp} {m : Nat} {p r : Addr} {ms : MD} (hp : Mk H p ms) (hr : Mk H r ms) (hn : (ms.map (·.1)).Nodup) : EqV K H (m + 2) (.ref p) (.ref r) := by
  refine .inr (.inr (.inr ⟨p, r, mkv ms, mkv ms, rfl, rfl, hp, hr, rfl, fun q hq => ?_⟩))
  obtain ⟨i, hi⟩ := List.getElem?_of_mem hq
  refine ⟨q.2, valV_get (k := q.1) (v := q.2) (mkv_keys hn) hi, .inl ⟨rfl, ?_⟩⟩
  obtain ⟨e, _, ee⟩ := List.mem_map.mp hq
  rw [← ee]
  rfl
def Ms (H : Hp) (rs : List Addr) (mss : List MD) : Prop := Paired (fun r ms => Mk H r ms ∧ (ms.map (·.1)).Nodup) rs mss
theorem Ms.same {H H' : Hp} {rs : List Addr} {mss : List MD} (h : Ms H rs mss) (s : Same H H') : Ms H' rs mss := paired_mono h fun r ms x => ⟨s _ _ x.1, x.2⟩
theorem Ms.kb {b : Addr} {H H' : Hp} {rs : List Addr} {mss : List MD} (h : Ms H rs mss) (hb : Bx H b) (k : Kb b H H') : Ms H' rs mss := paired_mono h fun r ms x => ⟨k.k _ _ (ne_bx hb x.1 (fun _ _ _ _ z => by cases z)) x.1, x.2⟩
theorem Ms.sameN {Ps : List Addr} {H H' : Hp} {rs : List Addr} {mss : List MD} (h : Ms H rs mss) (s : SameN Ps H H') : Ms H' rs mss := paired_mono h fun r ms x => ⟨x.1.sameN s, x.2⟩
theorem Ms.upd {H : Hp} {D : Addr} {xs : List V} {o : HO} {rs : List Addr} {mss : List MD} (h : Ms H rs mss) (hD : H D = some (.lst xs)) : Ms (upd H D o) rs mss := paired_mono h fun r ms x => ⟨by
  show _ = _
  rw [upd_ne (ne_of x.1 hD (by intro z; cases z))]
  exact x.1, x.2⟩
theorem Ms.mem {H : Hp} {rs : List Addr} {mss : List MD} (h : Ms H rs mss) : ∀ {i : Nat} {v : V}, (rs.map V.ref)[i]? = some v → ∃ r ms, v = .ref r ∧ Mk H r ms ∧ mss[i]? = some ms ∧ (ms.map (·.1)).Nodup := by
  induction h with
  | nil => intro i v e; simp at e
  | @cons r ms rs mss x _ ih =>
    intro i v e
    cases i with
    | zero =>
      have e' := Option.some.inj e
      exact ⟨r, ms, e'.symm, x.1, rfl, x.2⟩
    | succ j => exact ih e
theorem eq_allM {K : PySem.W.Frag} {H : Hp} {m : Nat} {rs : List Addr} {mss : List MD} (h : Ms H rs mss) : ∀ {qs : List Addr}, Ms H qs mss → Paired (EqV K H (m + 2)) (rs.map V.ref) (qs.map V.ref) := by
  induction h with
  | nil =>
    intro qs k
    cases k
    exact .nil
  | cons x _ ih =>
    intro qs k
    cases k with
    | cons y t => exact .cons (eq_marks x.1 y.1 x.2) (ih t)
theorem _root_.GX.SameN.kb {Ps : List Addr} {b : Addr} {H0 H H' : Hp} (s : SameN Ps H0 H) (nb : H0 b = none) (hb : Bx H b) (k : Kb b H H') : SameN Ps H0 H' := by
  refine ⟨fun x y n e => k.k _ _ (ne_of_none e nb) (s.k x y n e), fun x p e => ?_, fun P hP => ?_⟩
  · obtain ⟨p', e'⟩ := s.q x p e
    exact ⟨p', k.k _ _ (ne_of_none e nb) e'⟩
  · obtain ⟨ps, e, h⟩ := s.t P hP
    exact ⟨ps, k.k _ _ (ne_bx hb e (fun _ _ _ _ z => by cases z)) e, h⟩
theorem _root_.GX.SameN.same {Ps : List Addr} {H0 H H' : Hp} (s : SameN Ps H0 H) (k : Same H H') : SameN Ps H0 H' := s.trans (SameN.of s.t k)
theorem Bd.empty {H : Hp} {p : Addr} (h : H p = some (.dK [])) : Bd H p [] := ⟨[], h, .nil, List.nodup_nil, Nat.zero_le _, fun e he => absurd he List.not_mem_nil⟩
theorem Bd.updL {H : Hp} {D p : Addr} {d : BD} {ps : List Addr} {o : HO} (h : Bd H p d) (hD : H D = some (.lst (ps.map V.ref))) : Bd (upd H D o) p d := by
  obtain ⟨kk, h1, h2, h3⟩ := h
  refine ⟨kk, by rw [upd_ne (ne_of h1 hD (by intro z; cases z))]; exact h1, h2.mono fun l0 xs e ⟨nm, hm⟩ => ?_, h3⟩
  rw [upd_ne fun z => ?_]
  · exact e
  · obtain ⟨e', he', hl'⟩ := h2.vals hm
    rw [z, hD] at hl'
    exact strs_ne_refs (h3.2.2 e' he').2.1 (HO.lst.inj (Option.some.inj hl')).symm
theorem cells_len {ns : List Int} (n : Int) : ((cutV (ns.map V.int) none (some 12)) ++ [V.int n]).length ≤ 13 := by
  rw [List.length_append]
  unfold cutV
  rw [List.length_take]
  have : HT.sIx (ns.map V.int).length (ns.map V.int).length (some 12) ≤ 12 := by
    rw [show (some (12 : Int)) = some ((12 : Nat) : Int) from rfl, HT.sIx_nat]
    omega
  show min _ _ + 1 ≤ 13
  omega
theorem cells_int {ns : List Int} (n : Int) : ∀ v ∈ ((cutV (ns.map V.int) none (some 12)) ++ [V.int n]), ∃ m : Int, v = .int m := by
  intro v hv
  rcases List.mem_append.mp hv with z | z
  · unfold cutV at z
    obtain ⟨m, _, e⟩ := List.mem_map.mp (List.mem_of_mem_drop (List.mem_of_mem_take z))
    exact ⟨m, e.symm⟩
  · exact ⟨n, List.mem_singleton.mp z⟩
end Bn

namespace Bn
open PySem PySem.Spec PyProof.Rows L2 BR GX
section
variable {P : Program} {w : World} {K : PySem.W.Frag} {mg : Str → Option Value} {base : Heap}
abbrev NL : List Str := ["_law_script", "_law_k", "_law_cell_here", "_law_box_here", "_law_features_here", "_law_one", "_law_other", "_law_marks_here", "_law_kept", "_law_some_here", "_law_left", "_law_right", "_law_bundle_here", "_law_turn"]
def spLaw (K : PySem.W.Frag) (Ps : List Addr) : Sp := fun vs H Q _ => ∃ (a : Addr) (ns : List Int), vs = [.ref a] ∧ SqL K H a (ns.map V.int) ∧ ns.length ≤ 63 ∧ Tabs Ps H ∧ ∀ H', Q (.bl true) H'
theorem ok_law {f f1 f2 f3 f4 f5 f6 f7 f8 f9 f10 f11 f12 : Addr} {fd d1 d2 d3 d4 d5 d6 d7 d8 d9 d10 d11 d12 : FuncData} {Ps : List Addr} (F : Fun K "law" "law" s_law f fd)
    (k1 : PySem.W.keepIn K (.ref f1) = true) (b1 : Binds K d1 ["_law_cell_here", "_law_k"] []) (g1 : mg "_law_box" = some (.ref f1)) (G1 : FnOk P w K mg base CX0 1 f1 d1 ["_law_cell_here", "_law_k"] spBox)
    (k2 : PySem.W.keepIn K (.ref f2) = true) (b2 : Binds K d2 ["_law_box_here"] []) (g2 : mg "_law_features" = some (.ref f2)) (G2 : FnOk P w K mg base CX0 5 f2 d2 ["_law_box_here"] spFeatures)
    (k3 : PySem.W.keepIn K (.ref f3) = true) (b3 : Binds K d3 ["_law_box_here", "_law_features_here"] []) (g3 : mg "_law_bundle" = some (.ref f3)) (G3 : FnOk P w K mg base CX0 4 f3 d3 ["_law_box_here", "_law_features_here"] (spBundle K))
    (k4 : PySem.W.keepIn K (.ref f4) = true) (b4 : Binds K d4 ["_law_box_here", "_law_many"] []) (g4 : mg "_law_take" = some (.ref f4)) (G4 : FnOk P w K mg base CX0 2 f4 d4 ["_law_box_here", "_law_many"] spTake)
    (k5 : PySem.W.keepIn K (.ref f5) = true) (b5 : Binds K d5 ["_law_box_here", "_law_bundle_here", "_law_features_here"] []) (g5 : mg "_law_near" = some (.ref f5)) (G5 : FnOk P w K mg base CX0 3 f5 d5 ["_law_box_here", "_law_bundle_here", "_law_features_here"] (spNear K))
    (k6 : PySem.W.keepIn K (.ref f6) = true) (b6 : Binds K d6 ["_law_box_here", "_law_features_here", "_law_bundle_here"] []) (g6 : mg "_law_marks" = some (.ref f6)) (G6 : FnOk P w K mg base CX0 3 f6 d6 ["_law_box_here", "_law_features_here", "_law_bundle_here"] spMarks)
    (k7 : PySem.W.keepIn K (.ref f7) = true) (b7 : Binds K d7 ["_law_bundle_here"] []) (g7 : mg "_law_own" = some (.ref f7)) (G7 : FnOk P w K mg base CX0 1 f7 d7 ["_law_bundle_here"] spOwn)
    (k8 : PySem.W.keepIn K (.ref f8) = true) (b8 : Binds K d8 ["_law_found", "_law_due"] []) (g8 : mg "_law_same" = some (.ref f8)) (G8 : FnOk P w K mg base CX0 1 f8 d8 ["_law_found", "_law_due"] spSame)
    (k9 : PySem.W.keepIn K (.ref f9) = true) (b9 : Binds K d9 ["_law_one", "_law_other"] []) (g9 : mg "_law_lies" = some (.ref f9)) (G9 : FnOk P w K mg base CX0 1 f9 d9 ["_law_one", "_law_other"] spLLies)
    (k10 : PySem.W.keepIn K (.ref f10) = true) (b10 : Binds K d10 ["_law_bundle_here", "_law_marks_here"] []) (g10 : mg "_law_lets" = some (.ref f10)) (G10 : FnOk P w K mg base CX0 1 f10 d10 ["_law_bundle_here", "_law_marks_here"] spLLets)
    (k11 : PySem.W.keepIn K (.ref f11) = true) (b11 : Binds K d11 ["one", "other"] []) (g11 : mg "lies_in" = some (.ref f11)) (G11 : FnOk P w K mg base CX0 8 f11 d11 ["one", "other"] (spLies Ps))
    (k12 : PySem.W.keepIn K (.ref f12) = true) (b12 : Binds K d12 ["bundle", "marks"] []) (g12 : mg "lets" = some (.ref f12)) (G12 : FnOk P w K mg base CX0 4 f12 d12 ["bundle", "marks"] (spLets Ps))
    (ml : mg "len" = none) (men : mg "enumerate" = none) (mr : mg "range" = none) (md : mg "dict" = none) : FnOk P w K mg base CX0 9 f fd ["_law_script"] (spLaw K Ps) := by
  refine F.ok sc_law (fun vs H Q E h => ?_) (fun cdv A outer s H vs Q E hr h => ?_)
  · obtain ⟨a, ns, rfl, _⟩ := h
    rfl
  · obtain ⟨a, ns, rfl, hS, hlen, hT, q⟩ := h
    refine ⟨_, pss_cons (ps_for PassesOwn.never rfl (pi_enum (by rfl) men (pa_cons (pe_op op_cat (pe_slice sl_list (pv 0) po_none (po_some pe_int)) (pe_lst (pa_cons (pe_callB call_len_seq (by rfl) ml PySem.boot_len (pa_cons (pv 0) pa_nil)) pa_nil))) pa_nil))
        (pg_tup rfl (pgs_cons (pg_name (i := 1) sc_law.nd rfl (.inl rfl)) (pgs_cons (pg_name (i := 2) sc_law.nd rfl (.inl rfl)) pgs_nil)))
        (pss_cons (ps_set (i := 3) sc_law.nd rfl (.inr rfl) (pe_call G1 (hr.mono (by decide)) (by rfl) g1 k1 b1 .nil pass0 (pa_cons (pv 2) (pa_cons (pe_op op_add (pv 1) pe_int) pa_nil))))
        (pss_cons (ps_set (i := 4) sc_law.nd rfl (.inr rfl) (pe_call G2 (hr.mono (by decide)) (by rfl) g2 k2 b2 .nil pass0 (pa_cons (pv 3) pa_nil)))
        (pss_cons (ps_set (i := 5) sc_law.nd rfl (.inr rfl) (pe_call G3 (hr.mono (by decide)) (by rfl) g3 k3 b3 .nil pass0 (pa_cons (pv 3) (pa_cons (pv 4) pa_nil))))
        (pss_cons (ps_set (i := 6) sc_law.nd rfl (.inl rfl) (pe_call G3 (hr.mono (by decide)) (by rfl) g3 k3 b3 .nil pass0 (pa_cons (pv 3) (pa_cons (pv 4) pa_nil))))
        (C8.pss_cut (ps_if (pt_cmpR op_gt (pe_call G4 (hr.mono (by decide)) (by rfl) g4 k4 b4 .nil pass0 (pa_cons (pv 3) (pa_cons pe_int pa_nil))) pe_int (nomark _))
          (pss_one (ps_set (i := 6) sc_law.nd rfl (.inl rfl) (pe_call G5 (hr.mono (by decide)) (by rfl) g5 k5 b5 .nil pass0 (pa_cons (pv 3) (pa_cons (pv 5) (pa_cons (pv 4) pa_nil)))))) pss_nil)
        (C8.pss_cut (ps_setLc (i := 7) (own := [("_law_turn", 13)]) (g := gName 13) (tt := tYes) rfl sc_law.nd rfl rfl (sw_true rfl rfl rfl (by decide +kernel)) (pi_range1 (by rfl) mr (pa_cons pe_int pa_nil))
          (blkOk_by (own := [("_law_turn", 13)]) (N := NL) (sc := defScope s_law) (by decide +kernel))
          (fun _ _ _ _ _ => pg_name (i := 13) sc_law.nd rfl (Or.inl rfl)) (fun _ _ _ _ _ => pts_nil) (fun _ _ _ _ _ => pe_call G6 (hr.mono (by decide)) (by rfl) g6 k6 b6 .nil pass0 (pa_cons (pv 3) (pa_cons (pv 4) (pa_cons (pv 5) pa_nil)))))
        (C8.pss_cut (ps_set (i := 8) sc_law.nd rfl (.inl rfl) (pe_lst (pa_cons (pe_call G7 (hr.mono (by decide)) (by rfl) g7 k7 b7 .nil pass0 (pa_cons (pv 5) pa_nil)) (pa_cons (pe_call G7 (hr.mono (by decide)) (by rfl) g7 k7 b7 .nil pass0 (pa_cons (pv 6) pa_nil))
          (pa_cons (pe_lc (own := [("_law_some_here", 9)]) (g := gName 9) (tt := tYes) rfl sc_law.nd (pi_list (pv 7))
            (blkOk_by (own := [("_law_some_here", 9)]) (N := NL) (sc := defScope s_law) (by decide +kernel))
            (fun _ _ _ _ _ => pg_name (i := 9) sc_law.nd rfl (Or.inl rfl)) (fun _ _ _ _ _ => pts_nil) (fun _ _ _ _ _ => pe_callTy call_dictD (by rfl) md (by decide +kernel) (pa_cons (pv 9) pa_nil))) pa_nil)))))
        (C8.pss_cut (ps_for PassesOwn.never rfl (pi_list (pe_lst (pa_cons (pe_tup (pa_cons (pv 5) (pa_cons (pv 6) pa_nil))) (pa_cons (pe_tup (pa_cons (pv 6) (pa_cons (pv 5) pa_nil))) (pa_cons (pe_tup (pa_cons (pv 5) (pa_cons (pv 5) pa_nil))) (pa_cons (pe_tup (pa_cons (pv 5) (pa_cons pe_dnewK pa_nil))) (pa_cons (pe_tup (pa_cons pe_dnewK (pa_cons (pv 5) pa_nil))) pa_nil)))))))
          (pg_tup rfl (pgs_cons (pg_name (i := 10) sc_law.nd rfl (.inl rfl)) (pgs_cons (pg_name (i := 11) sc_law.nd rfl (.inl rfl)) pgs_nil)))
          (pss_one (ps_if (pt_not (pt_val (pe_call G8 (hr.mono (by decide)) (by rfl) g8 k8 b8 .nil pass0 (pa_cons (pe_call G11 hr (by rfl) g11 k11 b11 .nil pass0 (pa_cons (pv 10) (pa_cons (pv 11) pa_nil))) (pa_cons (pe_call G9 (hr.mono (by decide)) (by rfl) g9 k9 b9 .nil pass0 (pa_cons (pv 10) (pa_cons (pv 11) pa_nil))) pa_nil))))) (pss_one (ps_ret pe_bl)) pss_nil)))
        (C8.pss_cut (ps_for PassesOwn.never rfl (pi_list (pe_op op_cat (pv 7) (pe_lst (pa_cons pe_dnewK pa_nil)))) (pg_name (i := 9) sc_law.nd rfl (.inl rfl))
          (pss_one (ps_for PassesOwn.never rfl (pi_tup (pe_tup (pa_cons (pv 5) (pa_cons (pv 6) (pa_cons pe_dnewK pa_nil))))) (pg_name (i := 12) sc_law.nd rfl (.inl rfl))
            (pss_one (ps_if (pt_not (pt_val (pe_call G8 (hr.mono (by decide)) (by rfl) g8 k8 b8 .nil pass0 (pa_cons (pe_call G12 (hr.mono (by decide)) (by rfl) g12 k12 b12 .nil pass0 (pa_cons (pv 12) (pa_cons (pv 9) pa_nil))) (pa_cons (pe_call G10 (hr.mono (by decide)) (by rfl) g10 k10 b10 .nil pass0 (pa_cons (pv 12) (pa_cons (pv 9) pa_nil))) pa_nil))))) (pss_one (ps_ret pe_bl)) pss_nil)))))
        (pss_one (ps_if (pt_cmpR (op_neV hr.units) (pe_lst (pa_cons (pv 5) (pa_cons (pv 6) (pa_cons (pv 7) pa_nil)))) (pv 8) (nomark _)) (pss_one (ps_ret pe_bl)) pss_nil))))))))))))
      (pss_one (ps_ret pe_bl)), ?_⟩
    refine ⟨_, rfl, 12, rfl, a, _, rfl, hS, fun l1 n1 => ?_⟩
    have s1 : Same H (upd H l1 (.lst (cutV (ns.map V.int) none (some 12)))) := same_new n1
    refine ⟨_, rfl, a, _, rfl, .inl (s1.seq hS), (show 1 ≤ sizeLine by decide), fun l2 n2 => ?_⟩
    have s2 := same_new (o := .lst [.int ((ns.map V.int).length : Int)]) n2
    have hl1 := s2 _ _ (upd_same (H := H) (a := l1) (o := .lst (cutV (ns.map V.int) none (some 12))))
    have hl2 := upd_same (H := upd H l1 (.lst (cutV (ns.map V.int) none (some 12)))) (a := l2) (o := .lst [.int ((ns.map V.int).length : Int)])
    have cl := cells_len (ns := ns) ((ns.map V.int).length : Int)
    have ci := cells_int (ns := ns) ((ns.map V.int).length : Int)
    refine ⟨l1, l2, _, _, rfl, rfl, hl1, hl2, by rw [← List.length_append]; exact line1000 (by omega), fun l3 n3 => ?_⟩
    have s3 := (s1.trans s2).trans (same_new (o := .lst ((cutV (ns.map V.int) none (some 12)) ++ [.int ((ns.map V.int).length : Int)])) n3)
    have hl3 := upd_same (H := upd (upd H l1 (.lst (cutV (ns.map V.int) none (some 12)))) l2 (.lst [.int ((ns.map V.int).length : Int)])) (a := l3) (o := .lst ((cutV (ns.map V.int) none (some 12)) ++ [.int ((ns.map V.int).length : Int)]))
    generalize upd (upd (upd H l1 (.lst (cutV (ns.map V.int) none (some 12)))) l2 (.lst [.int ((ns.map V.int).length : Int)])) l3 (.lst ((cutV (ns.map V.int) none (some 12)) ++ [.int ((ns.map V.int).length : Int)])) = H3 at s3 hl3 ⊢
    generalize (cutV (ns.map V.int) none (some 12)) ++ [V.int ((ns.map V.int).length : Int)] = cells at cl ci hl3 ⊢
    have hT3 : Tabs Ps H3 := hT.same s3
    refine ⟨l3, cells, rfl, .inl (.inl hl3), for_it (walk_enum (K := K) (a := l3) (xs := cells)) (fun i σ H' => (∃ y1 y2 y3 y4 y5 y6 y7 y8 y9 y10 y11 y12 y13, σ = [some (.ref a), y1, y2, y3, y4, y5, y6, y7, y8, y9, y10, y11, y12, y13]) ∧ SameN Ps H3 H') ⟨⟨none, none, none, none, none, none, none, none, none, none, none, none, none, rfl⟩, SameN.refl hT3⟩ (fun i σ H' _ h => .inl (.inl (h.2.k _ _ nt_lst hl3))) (fun i x σ H4 H5 hi hP hY => ?_) (fun σ H' hP => q _)⟩
    obtain ⟨⟨y1, y2, y3, y4, y5, y6, y7, y8, y9, y10, y11, y12, y13, rfl⟩, s34⟩ := hP
    obtain ⟨T, u1, u2, rfl, nT, rfl, e1, e2⟩ := hY
    obtain ⟨cell, rfl⟩ := ci u2 (List.mem_of_getElem? e2)
    have e1' := Option.some.inj e1
    subst e1'
    have s45 : Same H4 (upd H4 T (.tup [.int (i : Nat), .int cell])) := same_new nT
    refine ⟨T, _, rfl, .inl (.inl upd_same), rfl, _, _, rfl, _, _, rfl, rfl, ?_⟩
    refine ⟨_, rfl, _, rfl, _, _, rfl, rfl, cell, _, rfl, fun b H6 nb s6 hb => ?_⟩
    have s36 := (s34.same s45).same s6
    have nb3 : H3 b = none := (s34.same s45).free nb
    refine ⟨_, rfl, b, rfl, hb, fun fe ys H7 nfe k7' hfe hyl hyf => ?_⟩
    have nfb : fe ≠ b := (hb.ne nfe).symm
    have s37 : SameN Ps H3 H7 := s36.kb nb3 hb k7'
    -- one, other
    refine ⟨_, rfl, _, rfl, b, fe, ys, rfl, k7'.x, .inl (.inl hfe), hyl, hyf, fun o dO H8 no k8' hO _ _ => ?_⟩
    have hfe8 := k8'.k _ _ nfb hfe
    have hyf8 : ∀ v ∈ ys, Ft H8 v := fun v hv => (hyf v hv).kp k7'.x k8'.k
    refine ⟨_, rfl, _, rfl, b, fe, ys, rfl, k8'.x, .inl (.inl hfe8), hyl, hyf8, fun t0 dT0 H9 nt0 k9' hT0 _ _ => ?_⟩
    refine ⟨fun σ HM => ∃ (t : Addr) (dT : BD), σ = [some (.ref a), some (.int (i : Nat)), some (.int cell), some (.ref b), some (.ref fe), some (.ref o), some (.ref t), y7, y8, y9, y10, y11, y12, y13] ∧ Kb b H8 HM ∧ Bd HM t dT, ?_, fun σ' HM hM => ?_⟩
    · refine ⟨_, rfl, b, 3, rfl, k9'.x, by decide, by decide, fun n HA m0 m1 kA => ⟨_, _, rfl, rfl, _, rfl, ite2 (fun e => ?_) (fun e => ⟨t0, dT0, rfl, k9'.trans kA, hT0.kp k9'.x kA.k⟩)⟩⟩
      have k8A := k9'.trans kA
      exact ⟨_, rfl, _, rfl, _, rfl, b, o, fe, ys, dO, rfl, k8A.x, hO.kp k8'.x k8A.k, k8A.k _ _ nfb hfe8, hyl, fun v hv => (hyf8 v hv).kp k8'.x k8A.k, fun p d HB np kB hBd => ⟨p, d, rfl, k8A.trans kB, hBd⟩⟩
    obtain ⟨t, dT, rfl, kM, hTM⟩ := hM
    have hOM := hO.kp k8'.x kM.k
    -- marks
    refine ⟨fun σ HN => ∃ (M : Addr) (rs : List Addr) (mss : List MD), σ = [some (.ref a), some (.int (i : Nat)), some (.int cell), some (.ref b), some (.ref fe), some (.ref o), some (.ref t), some (.ref M), y8, y9, y10, y11, y12, y13] ∧ Kb b HM HN ∧ HN M = some (.lst (rs.map V.ref)) ∧ Ms HN rs mss ∧ rs.length = 4, ?_, fun σ' HN hN => ?_⟩
    · refine ⟨4, rfl, by decide, by decide, fun D nD => ?_⟩
      have nDb : D ≠ b := (kM.x.ne nD).symm
      refine lc_range (lo := 0) (n := 4) (fun j HX => Kb b HM HX ∧ ∃ (rs : List Addr) (mss : List MD), HX D = some (.lst (rs.map V.ref)) ∧ Ms HX rs mss ∧ rs.length = j) ⟨Kb.new kM.x nD, [], [], upd_same, .nil, rfl⟩ (fun j HX hj hP => ?_) (fun HX hP => ?_)
      · obtain ⟨kX, rs, mss, hD, hMs, hrl⟩ := hP
        have k8X := kM.trans kX
        refine ⟨rfl, tYes_in ?_⟩
        refine ⟨_, rfl, _, rfl, _, rfl, b, fe, o, ys, dO, rfl, kX.x, k8X.k _ _ nfb hfe8, hyl, fun v hv => (hyf8 v hv).kp k8'.x k8X.k, hO.kp k8'.x k8X.k, fun p ms HZ np kZ hmk hnd hml => ?_⟩
        have hDZ := kZ.k _ _ nDb hD
        refine ⟨_, hDZ, by rw [List.length_map]; exact small1000 (by omega), (kX.trans kZ).own nD nDb, rs ++ [p], mss ++ [ms], ?_, Ms.upd (paired_snoc (hMs.kb kX.x kZ) ⟨hmk, hnd⟩) hDZ, by rw [List.length_append, hrl]; rfl⟩
        rw [upd_same, List.map_append]
        rfl
      · obtain ⟨kX, rs, mss, hD, hMs, hrl⟩ := hP
        exact ⟨D, rs, mss, rfl, kX, hD, hMs, hrl⟩
    obtain ⟨M, rs, mss, rfl, kN, hMl, hMs, hrl⟩ := hN
    have hON := hOM.kp kM.x kN.k
    have hTN := hTM.kp kM.x kN.k
    have s3N : SameN Ps H3 HN := s37.kb nb3 k7'.x ((k8'.trans kM).trans kN)
    -- kept
    refine ⟨fun σ HK => ∃ (kk p1 p2 D3 : Addr) (qs : List Addr), σ = [some (.ref a), some (.int (i : Nat)), some (.int cell), some (.ref b), some (.ref fe), some (.ref o), some (.ref t), some (.ref M), some (.ref kk), y9, y10, y11, y12, y13] ∧ Same HN HK ∧ HK kk = some (.lst [.ref p1, .ref p2, .ref D3]) ∧ Bd HK p1 dO ∧ Bd HK p2 dT ∧ HK D3 = some (.lst (qs.map V.ref)) ∧ Ms HK qs mss, ?_, fun σ' HK hK => ?_⟩
    · refine ⟨_, rfl, o, dO, rfl, hON, fun p1 HA np1 sA hp1 => ⟨_, rfl, t, dT, rfl, hTN.same sA, fun p2 HB np2 sB hp2 => ?_⟩⟩
      have sAB := sA.trans sB
      have hMlB := sAB _ _ hMl
      refine ⟨_, rfl, M, rfl, ⟨_, .inl (.inl hMlB)⟩, fun D nD => ?_⟩
      have hp1B := hp1.same sB
      refine lc_list (K := K) (a := M) (xs := rs.map V.ref) (fun j HX => Same HB HX ∧ ∃ qs : List Addr, HX D = some (.lst (qs.map V.ref)) ∧ Ms HX qs (mss.take j) ∧ qs.length = j) ⟨same_new nD, [], upd_same, .nil, rfl⟩ (fun j HX _ h => .inl (.inl (h.1 _ _ hMlB))) (fun j x HX hx hP => ?_) (fun HX hP => ?_)
      · obtain ⟨sX, qs, hD, hQ, hql⟩ := hP
        obtain ⟨r, ms, rfl, hmk, hmi, hnd⟩ := (hMs.same sAB).mem hx
        have hjl : j < (rs.map V.ref).length := (List.getElem?_eq_some_iff.mp hx).1
        rw [List.length_map] at hjl
        refine ⟨rfl, tYes_in ?_⟩
        refine ⟨_, rfl, r, mkv ms, rfl, .inl (sX _ _ hmk), fun p np => ?_⟩
        have t1 : Same HX (upd HX p (.dK (mkv ms))) := same_new np
        have hpk : Mk (upd HX p (.dK (mkv ms))) p ms := upd_same
        generalize upd HX p (.dK (mkv ms)) = HZ at t1 hpk ⊢
        have hDZ := t1 _ _ hD
        refine ⟨_, hDZ, by rw [List.length_map]; exact small1000 (by omega), Same.own (sX.trans t1) nD, qs ++ [p], ?_, ?_, by rw [List.length_append, hql]; rfl⟩
        · rw [upd_same, List.map_append]
          rfl
        · rw [take_get hmi]
          exact Ms.upd (paired_snoc (hQ.same t1) ⟨hpk, hnd⟩) hDZ
      · obtain ⟨sX, qs, hD, hQ, hql⟩ := hP
        have hml : mss.length = rs.length := (Paired.length hMs).symm
        rw [List.length_map, ← hml, List.take_length] at hQ
        refine ⟨(show 3 ≤ sizeLine by decide), fun kk nkk => ?_⟩
        have sk : Same HX (upd HX kk (.lst [.ref p1, .ref p2, .ref D])) := same_new nkk
        exact ⟨kk, p1, p2, D, qs, rfl, (sAB.trans sX).trans sk, upd_same, (hp1B.same sX).same sk, (hp2.same sX).same sk, sk _ _ hD, hQ.same sk⟩
    obtain ⟨kk, p1, p2, D3, qs, rfl, sK, hkk, hp1, hp2, hD3, hQs⟩ := hK
    have hOK := hON.same sK
    have hTK := hTN.same sK
    have hMK := sK _ _ hMl
    have hMsK := hMs.same sK
    have s3K : SameN Ps H3 HK := s3N.same sK
    -- what lies in what
    refine ⟨fun σ HL => (∃ z9 z10 z11 z12 z13, σ = [some (.ref a), some (.int (i : Nat)), some (.int cell), some (.ref b), some (.ref fe), some (.ref o), some (.ref t), some (.ref M), some (.ref kk), z9, z10, z11, z12, z13]) ∧ SameN Ps HK HL, ?_, fun σ' HL hL => ?_⟩
    · refine ⟨_, rfl, _, rfl, (show 2 ≤ sizeLine by decide), fun t1 nt1 => ?_⟩
      have q1 : Same HK (upd HK t1 (.tup [.ref o, .ref t])) := same_new nt1
      have h1 : (upd HK t1 (.tup [.ref o, .ref t])) t1 = some (.tup [.ref o, .ref t]) := upd_same
      generalize upd HK t1 (.tup [.ref o, .ref t]) = J1 at q1 h1 ⊢
      refine ⟨_, rfl, _, rfl, (show 2 ≤ sizeLine by decide), fun t2 nt2 => ?_⟩
      have q2 : Same J1 (upd J1 t2 (.tup [.ref t, .ref o])) := same_new nt2
      have h2 : (upd J1 t2 (.tup [.ref t, .ref o])) t2 = some (.tup [.ref t, .ref o]) := upd_same
      generalize upd J1 t2 (.tup [.ref t, .ref o]) = J2 at q2 h2 ⊢
      refine ⟨_, rfl, _, rfl, (show 2 ≤ sizeLine by decide), fun t3 nt3 => ?_⟩
      have q3 : Same J2 (upd J2 t3 (.tup [.ref o, .ref o])) := same_new nt3
      have h3 : (upd J2 t3 (.tup [.ref o, .ref o])) t3 = some (.tup [.ref o, .ref o]) := upd_same
      generalize upd J2 t3 (.tup [.ref o, .ref o]) = J3 at q3 h3 ⊢
      refine ⟨_, rfl, fun e1 ne1 => ⟨(show 2 ≤ sizeLine by decide), fun t4 nt4 => ?_⟩⟩
      have q4 : Same J3 (upd J3 e1 (.dK [])) := same_new ne1
      have g4 : (upd J3 e1 (.dK [])) e1 = some (.dK []) := upd_same
      generalize upd J3 e1 (.dK []) = J4 at q4 g4 nt4 ⊢
      have q5 : Same J4 (upd J4 t4 (.tup [.ref o, .ref e1])) := same_new nt4
      have h4 : (upd J4 t4 (.tup [.ref o, .ref e1])) t4 = some (.tup [.ref o, .ref e1]) := upd_same
      generalize upd J4 t4 (.tup [.ref o, .ref e1]) = J5 at q5 h4 ⊢
      refine fun e2 ne2 => ⟨_, rfl, (show 2 ≤ sizeLine by decide), fun t5 nt5 => ?_⟩
      have q6 : Same J5 (upd J5 e2 (.dK [])) := same_new ne2
      have g6' : (upd J5 e2 (.dK [])) e2 = some (.dK []) := upd_same
      generalize upd J5 e2 (.dK []) = J6 at q6 g6' nt5 ⊢
      have q7 : Same J6 (upd J6 t5 (.tup [.ref e2, .ref o])) := same_new nt5
      have h5 : (upd J6 t5 (.tup [.ref e2, .ref o])) t5 = some (.tup [.ref e2, .ref o]) := upd_same
      generalize upd J6 t5 (.tup [.ref e2, .ref o]) = J7 at q7 h5 ⊢
      refine ⟨(show 5 ≤ sizeLine by decide), fun ll nll => ?_⟩
      have q8 : Same J7 (upd J7 ll (.lst [.ref t1, .ref t2, .ref t3, .ref t4, .ref t5])) := same_new nll
      have hll : (upd J7 ll (.lst [.ref t1, .ref t2, .ref t3, .ref t4, .ref t5])) ll = some (.lst [.ref t1, .ref t2, .ref t3, .ref t4, .ref t5]) := upd_same
      generalize upd J7 ll (.lst [.ref t1, .ref t2, .ref t3, .ref t4, .ref t5]) = J8 at q8 hll ⊢
      have q78 := q7.trans q8
      have q68 := q6.trans q78
      have q58 := q5.trans (q6.trans q78)
      have q58' := q6.trans q78
      have q48 := q4.trans q58
      have q38 := q3.trans q48
      have q28 := q2.trans q38
      have q18 := q1.trans q28
      have hO8 := hOK.same q18
      have hT8 := hTK.same q18
      have hE1 : Bd J8 e1 [] := Bd.empty (q58 _ _ g4)
      have hE2 : Bd J8 e2 [] := Bd.empty (q78 _ _ g6')
      have s38 : SameN Ps HK J8 := SameN.of s3K.t q18
      have pairs : ∀ v ∈ [V.ref t1, .ref t2, .ref t3, .ref t4, .ref t5], ∃ tt x y bb dd, v = .ref tt ∧ J8 tt = some (.tup [.ref x, .ref y]) ∧ Bd J8 x bb ∧ Bd J8 y dd := by
        intro v hv
        rcases List.mem_cons.mp hv with rfl | hv
        · exact ⟨t1, o, t, _, _, rfl, q28 _ _ h1, hO8, hT8⟩
        rcases List.mem_cons.mp hv with rfl | hv
        · exact ⟨t2, t, o, _, _, rfl, q38 _ _ h2, hT8, hO8⟩
        rcases List.mem_cons.mp hv with rfl | hv
        · exact ⟨t3, o, o, _, _, rfl, q48 _ _ h3, hO8, hO8⟩
        rcases List.mem_cons.mp hv with rfl | hv
        · exact ⟨t4, o, e1, _, _, rfl, q58' _ _ h4, hO8, hE1⟩
        rw [List.mem_singleton.mp hv]
        exact ⟨t5, e2, o, _, _, rfl, q8 _ _ h5, hE2, hO8⟩
      refine ⟨ll, rfl, ⟨_, .inl (.inl hll)⟩, for_list (K := K) (a := ll) (xs := [V.ref t1, .ref t2, .ref t3, .ref t4, .ref t5]) (fun j σ HX => (∃ z9 z10 z11 z12 z13, σ = [some (.ref a), some (.int (i : Nat)), some (.int cell), some (.ref b), some (.ref fe), some (.ref o), some (.ref t), some (.ref M), some (.ref kk), z9, z10, z11, z12, z13]) ∧ SameN Ps J8 HX) ⟨⟨_, _, _, _, _, rfl⟩, SameN.refl s38.t⟩ (fun j σ HX _ h => .inl (.inl (h.2.k _ _ nt_lst hll))) (fun j x σ HX hx hP => ?_) (fun σ HX hP => ⟨hP.1, s38.trans hP.2⟩)⟩
      obtain ⟨⟨z9, z10, z11, z12, z13, rfl⟩, sX⟩ := hP
      obtain ⟨tt, x1, x2, bb, dd, rfl, htt, hx1, hx2⟩ := pairs x (List.mem_of_getElem? hx)
      refine ⟨tt, _, rfl, .inl (.inl (sX.k _ _ nt_tup htt)), rfl, _, _, rfl, _, _, rfl, rfl, ?_⟩
      refine ⟨_, rfl, _, rfl, x1, x2, bb, dd, rfl, hx1.sameN sX, hx2.sameN sX, sX.t, fun HA sA => ?_⟩
      have sXA := sX.trans sA
      refine ⟨_, rfl, _, rfl, x1, x2, bb, dd, rfl, hx1.sameN sXA, hx2.sameN sXA, fun HB sB => ?_⟩
      exact ⟨_, rfl, true, rfl, iteF ⟨⟨_, _, _, _, _, rfl⟩, sXA.same sB⟩⟩
    obtain ⟨⟨z9, z10, z11, z12, z13, rfl⟩, sL⟩ := hL
    -- what lets what
    refine ⟨fun σ HL => (∃ z9 z10 z11 z12 z13, σ = [some (.ref a), some (.int (i : Nat)), some (.int cell), some (.ref b), some (.ref fe), some (.ref o), some (.ref t), some (.ref M), some (.ref kk), z9, z10, z11, z12, z13]) ∧ SameN Ps HK HL, ?_, fun σ' HR hR => ?_⟩
    · have hML := sL.k _ _ nt_lst hMK
      refine ⟨_, rfl, fun e1 ne1 => ⟨(show 1 ≤ sizeLine by decide), fun l4 nl4 => ?_⟩⟩
      have q4 : Same HL (upd HL e1 (.dK [])) := same_new ne1
      have g4 : (upd HL e1 (.dK [])) e1 = some (.dK []) := upd_same
      generalize upd HL e1 (.dK []) = J4 at q4 g4 nl4 ⊢
      have q5 : Same J4 (upd J4 l4 (.lst [.ref e1])) := same_new nl4
      have hl4 : (upd J4 l4 (.lst [.ref e1])) l4 = some (.lst [.ref e1]) := upd_same
      generalize upd J4 l4 (.lst [.ref e1]) = J5 at q5 hl4 ⊢
      have q45 := q4.trans q5
      refine ⟨M, l4, _, _, rfl, rfl, q45 _ _ hML, hl4, by rw [List.length_map, hrl]; exact line1000 (by show 4 + 1 ≤ 1000; decide), fun l5 nl5 => ?_⟩
      have q6 : Same J5 (upd J5 l5 (.lst (rs.map V.ref ++ [.ref e1]))) := same_new nl5
      have hl5 : (upd J5 l5 (.lst (rs.map V.ref ++ [.ref e1]))) l5 = some (.lst (rs.map V.ref ++ [.ref e1])) := upd_same
      generalize upd J5 l5 (.lst (rs.map V.ref ++ [.ref e1])) = J6 at q6 hl5 ⊢
      have q46 := q45.trans q6
      have sK6 : SameN Ps HK J6 := sL.same q46
      have hO6 := hOK.sameN sK6
      have hT6 := hTK.sameN sK6
      have hMs6 : Ms J6 (rs ++ [e1]) (mss ++ [[]]) := paired_snoc (hMsK.sameN sK6) ⟨(q5.trans q6) _ _ g4, List.nodup_nil⟩
      have el : rs.map V.ref ++ [V.ref e1] = (rs ++ [e1]).map V.ref := by rw [List.map_append]; rfl
      rw [el] at hl5
      refine ⟨l5, rfl, ⟨_, .inl (.inl hl5)⟩, for_list (K := K) (a := l5) (xs := (rs ++ [e1]).map V.ref) (fun j σ HX => (∃ z9 z10 z11 z12 z13, σ = [some (.ref a), some (.int (i : Nat)), some (.int cell), some (.ref b), some (.ref fe), some (.ref o), some (.ref t), some (.ref M), some (.ref kk), z9, z10, z11, z12, z13]) ∧ SameN Ps J6 HX) ⟨⟨_, _, _, _, _, rfl⟩, SameN.refl sK6.t⟩ (fun j σ HX _ h => .inl (.inl (h.2.k _ _ nt_lst hl5))) (fun j x σ HX hx hP => ?_) (fun σ HX hP => ⟨hP.1, sK6.trans hP.2⟩)⟩
      obtain ⟨⟨z9, z10, z11, z12, z13, rfl⟩, sX⟩ := hP
      obtain ⟨r, ms, rfl, hmk, _, _⟩ := hMs6.mem hx
      refine ⟨_, rfl, _, rfl, fun e3 ne3 => ⟨(show 3 ≤ sizeLine by decide), fun tp ntp => ?_⟩⟩
      have r1 : Same HX (upd HX e3 (.dK [])) := same_new ne3
      have g3' : (upd HX e3 (.dK [])) e3 = some (.dK []) := upd_same
      generalize upd HX e3 (.dK []) = J7 at r1 g3' ntp ⊢
      have r2 : Same J7 (upd J7 tp (.tup [.ref o, .ref t, .ref e3])) := same_new ntp
      have htp : (upd J7 tp (.tup [.ref o, .ref t, .ref e3])) tp = some (.tup [.ref o, .ref t, .ref e3]) := upd_same
      generalize upd J7 tp (.tup [.ref o, .ref t, .ref e3]) = J8 at r2 htp ⊢
      have s68 : SameN Ps J6 J8 := sX.same (r1.trans r2)
      have pairs : ∀ v ∈ [V.ref o, .ref t, .ref e3], ∃ x bb, v = .ref x ∧ Bd J8 x bb := by
        intro v hv
        rcases List.mem_cons.mp hv with rfl | hv
        · exact ⟨o, _, rfl, hO6.sameN s68⟩
        rcases List.mem_cons.mp hv with rfl | hv
        · exact ⟨t, _, rfl, hT6.sameN s68⟩
        rw [List.mem_singleton.mp hv]
        exact ⟨e3, [], rfl, Bd.empty (r2 _ _ g3')⟩
      refine ⟨tp, rfl, ⟨_, .inl (.inl htp)⟩, for_tup (K := K) (a := tp) (xs := [V.ref o, .ref t, .ref e3]) (fun j σ HY => (∃ z10 z11 z12 z13, σ = [some (.ref a), some (.int (i : Nat)), some (.int cell), some (.ref b), some (.ref fe), some (.ref o), some (.ref t), some (.ref M), some (.ref kk), some (.ref r), z10, z11, z12, z13]) ∧ SameN Ps J8 HY) ⟨⟨_, _, _, _, rfl⟩, SameN.refl s68.t⟩ (fun j σ HY _ h => .inl (.inl (h.2.k _ _ nt_tup htp))) (fun j x σ HY hx2 hP => ?_) (fun σ HY hP => ?_)⟩
      · obtain ⟨⟨z10, z11, z12, z13, rfl⟩, sY⟩ := hP
        obtain ⟨x1, bb, rfl, hx1⟩ := pairs x (List.mem_of_getElem? hx2)
        have hmkY := (hmk.sameN s68).sameN sY
        refine ⟨_, rfl, _, rfl, x1, r, bb, ms, rfl, hx1.sameN sY, hmkY, sY.t, fun HA sA => ?_⟩
        have sYA := sY.trans sA
        refine ⟨_, rfl, _, rfl, x1, r, bb, ms, rfl, hx1.sameN sYA, hmkY.sameN sA, fun HB sB => ?_⟩
        exact ⟨_, rfl, true, rfl, iteF ⟨⟨_, _, _, _, rfl⟩, sYA.same sB⟩⟩
      · obtain ⟨⟨z10, z11, z12, z13, rfl⟩, sY⟩ := hP
        exact ⟨⟨_, _, _, _, _, rfl⟩, s68.trans sY⟩
    obtain ⟨⟨z9, z10, z11, z12, z13, rfl⟩, sR⟩ := hR
    -- what was handed in stays
    refine ⟨_, rfl, _, rfl, _, rfl, (show 3 ≤ sizeLine by decide), fun lz nlz => ?_⟩
    have q9 : Same HR (upd HR lz (.lst [.ref o, .ref t, .ref M])) := same_new nlz
    have hlz : (upd HR lz (.lst [.ref o, .ref t, .ref M])) lz = some (.lst [.ref o, .ref t, .ref M]) := upd_same
    generalize upd HR lz (.lst [.ref o, .ref t, .ref M]) = HZ at q9 hlz ⊢
    have sZ : SameN Ps HK HZ := sR.same q9
    refine ⟨_, rfl, lz, kk, _, _, 5, rfl, rfl, .inl (.inl hlz), .inl (.inl (sZ.k _ _ nt_lst hkk)), by decide, ?_, false, rfl, iteF ⟨⟨_, _, _, _, _, _, _, _, _, _, _, _, _, rfl⟩, s3K.trans sZ⟩⟩
    refine .cons (eq_bundlesN (m := 2) (hOK.sameN sZ) (hp1.sameN sZ)) (.cons (eq_bundlesN (m := 2) (hTK.sameN sZ) (hp2.sameN sZ)) (.cons ?_ .nil))
    exact .inr (.inr (.inl ⟨M, D3, _, _, rfl, rfl, .inl (.inl (sZ.k _ _ nt_lst hMK)), .inl (.inl (sZ.k _ _ nt_lst hD3)), eq_allM (m := 2) (hMsK.sameN sZ) (hQs.sameN sZ)⟩))
end
end Bn

namespace Bn
open PySem PySem.Spec PyProof.Rows L2 BR GX
theorem all_mk {q : Program} {l : PySem.W.OpenLaw} {w : World} {K : PySem.W.Frag} {h : Heap} {mg : Str → Option Value} {fa f1 f2 f3 f4 f5 f6 f7 f8 f9 f10 f11 f12 f13 f14 f15 f16 f17 : Addr} (X : K.In h) (G : h.Ns mainGlobals mg) (hfa : mg "law" = some (.ref fa)) (T : TabsTop q mg h)
    {od1 an1 od2 an2 od3 an3 od4 an4 od5 an5 od6 an6 od7 an7 od8 an8 od9 an9 od10 an10 od11 an11 od12 an12 od13 an13 od14 an14 od15 an15 od16 an16 od17 an17 : Option Addr} {sl1 sl2 sl3 sl4 sl5 sl6 sl7 sl8 sl9 sl10 sl11 sl12 sl13 sl14 sl15 sl16 sl17 : Array (Option Value)} {oc1 kV1 dc1 pm1 cd1 ct1 oc2 kV2 dc2 pm2 cd2 ct2 oc3 kV3 dc3 pm3 cd3 ct3 oc4 kV4 dc4 pm4 cd4 ct4 oc5 kV5 dc5 pm5 cd5 ct5 oc6 kV6 dc6 pm6 cd6 ct6 oc7 kV7 dc7 pm7 cd7 ct7 oc8 kV8 dc8 pm8 cd8 ct8 oc9 kV9 dc9 pm9 cd9 ct9 oc10 kV10 dc10 pm10 cd10 ct10 oc11 kV11 dc11 pm11 cd11 ct11 oc12 kV12 dc12 pm12 cd12 ct12 oc13 kV13 dc13 pm13 cd13 ct13 oc14 kV14 dc14 pm14 cd14 ct14 oc15 kV15 dc15 pm15 cd15 ct15 oc16 kV16 dc16 pm16 cd16 ct16 oc17 kV17 dc17 pm17 cd17 ct17 : Value}
    (a1 : PySem.W.nsIn K mainGlobals "lets" = some (some (.ref f1))) (l1 : K.lookup f1 = some ⟨oc1, od1, .func (PySem.W.fnOf "lets" "lets" (defArgs s_lets) (defBody s_lets) (defScope s_lets) .none kV1 dc1 pm1 an1 cd1 ct1), sl1⟩) (c1 : PySem.W.codeIn K cd1 "lets" = true) (k1 : PySem.W.keepIn K (.ref f1) = true)
    (a2 : PySem.W.nsIn K mainGlobals "lies_in" = some (some (.ref f2))) (l2 : K.lookup f2 = some ⟨oc2, od2, .func (PySem.W.fnOf "lies_in" "lies_in" (defArgs s_lies_in) (defBody s_lies_in) (defScope s_lies_in) .none kV2 dc2 pm2 an2 cd2 ct2), sl2⟩) (c2 : PySem.W.codeIn K cd2 "lies_in" = true) (k2 : PySem.W.keepIn K (.ref f2) = true)
    (a3 : PySem.W.nsIn K mainGlobals "within" = some (some (.ref f3))) (l3 : K.lookup f3 = some ⟨oc3, od3, .func (PySem.W.fnOf "within" "within" (defArgs s_within) (defBody s_within) (defScope s_within) .none kV3 dc3 pm3 an3 cd3 ct3), sl3⟩) (c3 : PySem.W.codeIn K cd3 "within" = true) (k3 : PySem.W.keepIn K (.ref f3) = true)
    (a4 : PySem.W.nsIn K mainGlobals "_law_mixed" = some (some (.ref f4))) (l4 : K.lookup f4 = some ⟨oc4, od4, .func (PySem.W.fnOf "_law_mixed" "_law_mixed" (defArgs s_l_mixed) (defBody s_l_mixed) (defScope s_l_mixed) .none kV4 dc4 pm4 an4 cd4 ct4), sl4⟩) (c4 : PySem.W.codeIn K cd4 "_law_mixed" = true) (k4 : PySem.W.keepIn K (.ref f4) = true)
    (a5 : PySem.W.nsIn K mainGlobals "_law_box" = some (some (.ref f5))) (l5 : K.lookup f5 = some ⟨oc5, od5, .func (PySem.W.fnOf "_law_box" "_law_box" (defArgs s_l_box) (defBody s_l_box) (defScope s_l_box) .none kV5 dc5 pm5 an5 cd5 ct5), sl5⟩) (c5 : PySem.W.codeIn K cd5 "_law_box" = true) (k5 : PySem.W.keepIn K (.ref f5) = true)
    (a6 : PySem.W.nsIn K mainGlobals "_law_take" = some (some (.ref f6))) (l6 : K.lookup f6 = some ⟨oc6, od6, .func (PySem.W.fnOf "_law_take" "_law_take" (defArgs s_l_take) (defBody s_l_take) (defScope s_l_take) .none kV6 dc6 pm6 an6 cd6 ct6), sl6⟩) (c6 : PySem.W.codeIn K cd6 "_law_take" = true) (k6 : PySem.W.keepIn K (.ref f6) = true)
    (a7 : PySem.W.nsIn K mainGlobals "_law_some" = some (some (.ref f7))) (l7 : K.lookup f7 = some ⟨oc7, od7, .func (PySem.W.fnOf "_law_some" "_law_some" (defArgs s_l_some) (defBody s_l_some) (defScope s_l_some) .none kV7 dc7 pm7 an7 cd7 ct7), sl7⟩) (c7 : PySem.W.codeIn K cd7 "_law_some" = true) (k7 : PySem.W.keepIn K (.ref f7) = true)
    (a8 : PySem.W.nsIn K mainGlobals "_law_names" = some (some (.ref f8))) (l8 : K.lookup f8 = some ⟨oc8, od8, .func (PySem.W.fnOf "_law_names" "_law_names" (defArgs s_l_names) (defBody s_l_names) (defScope s_l_names) .none kV8 dc8 pm8 an8 cd8 ct8), sl8⟩) (c8 : PySem.W.codeIn K cd8 "_law_names" = true) (k8 : PySem.W.keepIn K (.ref f8) = true)
    (a9 : PySem.W.nsIn K mainGlobals "_law_features" = some (some (.ref f9))) (l9 : K.lookup f9 = some ⟨oc9, od9, .func (PySem.W.fnOf "_law_features" "_law_features" (defArgs s_l_features) (defBody s_l_features) (defScope s_l_features) .none kV9 dc9 pm9 an9 cd9 ct9), sl9⟩) (c9 : PySem.W.codeIn K cd9 "_law_features" = true) (k9 : PySem.W.keepIn K (.ref f9) = true)
    (a10 : PySem.W.nsIn K mainGlobals "_law_bundle" = some (some (.ref f10))) (l10 : K.lookup f10 = some ⟨oc10, od10, .func (PySem.W.fnOf "_law_bundle" "_law_bundle" (defArgs s_l_bundle) (defBody s_l_bundle) (defScope s_l_bundle) .none kV10 dc10 pm10 an10 cd10 ct10), sl10⟩) (c10 : PySem.W.codeIn K cd10 "_law_bundle" = true) (k10 : PySem.W.keepIn K (.ref f10) = true)
    (a11 : PySem.W.nsIn K mainGlobals "_law_own" = some (some (.ref f11))) (l11 : K.lookup f11 = some ⟨oc11, od11, .func (PySem.W.fnOf "_law_own" "_law_own" (defArgs s_l_own) (defBody s_l_own) (defScope s_l_own) .none kV11 dc11 pm11 an11 cd11 ct11), sl11⟩) (c11 : PySem.W.codeIn K cd11 "_law_own" = true) (k11 : PySem.W.keepIn K (.ref f11) = true)
    (a12 : PySem.W.nsIn K mainGlobals "_law_near" = some (some (.ref f12))) (l12 : K.lookup f12 = some ⟨oc12, od12, .func (PySem.W.fnOf "_law_near" "_law_near" (defArgs s_l_near) (defBody s_l_near) (defScope s_l_near) .none kV12 dc12 pm12 an12 cd12 ct12), sl12⟩) (c12 : PySem.W.codeIn K cd12 "_law_near" = true) (k12 : PySem.W.keepIn K (.ref f12) = true)
    (a13 : PySem.W.nsIn K mainGlobals "_law_marks" = some (some (.ref f13))) (l13 : K.lookup f13 = some ⟨oc13, od13, .func (PySem.W.fnOf "_law_marks" "_law_marks" (defArgs s_l_marks) (defBody s_l_marks) (defScope s_l_marks) .none kV13 dc13 pm13 an13 cd13 ct13), sl13⟩) (c13 : PySem.W.codeIn K cd13 "_law_marks" = true) (k13 : PySem.W.keepIn K (.ref f13) = true)
    (a14 : PySem.W.nsIn K mainGlobals "_law_lets" = some (some (.ref f14))) (l14 : K.lookup f14 = some ⟨oc14, od14, .func (PySem.W.fnOf "_law_lets" "_law_lets" (defArgs s_l_lets) (defBody s_l_lets) (defScope s_l_lets) .none kV14 dc14 pm14 an14 cd14 ct14), sl14⟩) (c14 : PySem.W.codeIn K cd14 "_law_lets" = true) (k14 : PySem.W.keepIn K (.ref f14) = true)
    (a15 : PySem.W.nsIn K mainGlobals "_law_lies" = some (some (.ref f15))) (l15 : K.lookup f15 = some ⟨oc15, od15, .func (PySem.W.fnOf "_law_lies" "_law_lies" (defArgs s_l_lies) (defBody s_l_lies) (defScope s_l_lies) .none kV15 dc15 pm15 an15 cd15 ct15), sl15⟩) (c15 : PySem.W.codeIn K cd15 "_law_lies" = true) (k15 : PySem.W.keepIn K (.ref f15) = true)
    (a16 : PySem.W.nsIn K mainGlobals "_law_same" = some (some (.ref f16))) (l16 : K.lookup f16 = some ⟨oc16, od16, .func (PySem.W.fnOf "_law_same" "_law_same" (defArgs s_l_same) (defBody s_l_same) (defScope s_l_same) .none kV16 dc16 pm16 an16 cd16 ct16), sl16⟩) (c16 : PySem.W.codeIn K cd16 "_law_same" = true) (k16 : PySem.W.keepIn K (.ref f16) = true)
    (a17 : PySem.W.nsIn K mainGlobals "law" = some (some (.ref f17))) (l17 : K.lookup f17 = some ⟨oc17, od17, .func (PySem.W.fnOf "law" "law" (defArgs s_law) (defBody s_law) (defScope s_law) .none kV17 dc17 pm17 an17 cd17 ct17), sl17⟩) (c17 : PySem.W.codeIn K cd17 "law" = true) (k17 : PySem.W.keepIn K (.ref f17) = true)
    (t1 : tabFree K cd1 = true) (r1 : ((recsOf q).any fun e => e.name == ("lets" : Str)) = true)
    (t2 : tabFree K cd2 = true) (r2 : ((recsOf q).any fun e => e.name == ("lies_in" : Str)) = true)
    (t3 : tabFree K cd3 = true) (r3 : ((recsOf q).any fun e => e.name == ("within" : Str)) = true)
    (z1 : PySem.W.nsIn K mainGlobals "len" = some none) (z2 : PySem.W.nsIn K mainGlobals "abs" = some none) (z3 : PySem.W.nsIn K mainGlobals "int" = some none) (z4 : PySem.W.nsIn K mainGlobals "list" = some none) (z5 : PySem.W.nsIn K mainGlobals "dict" = some none) (z6 : PySem.W.nsIn K mainGlobals "isinstance" = some none) (z7 : PySem.W.nsIn K mainGlobals "bool" = some none) (z8 : PySem.W.nsIn K mainGlobals "enumerate" = some none) (z9 : PySem.W.nsIn K mainGlobals "divmod" = some none) (z10 : PySem.W.nsIn K mainGlobals "all" = some none) (z11 : PySem.W.nsIn K mainGlobals "range" = some none) :
    LamX.LawAtS l w K CX0 9 63 "_law_script" mg fa h := by
  have e := hfa.symm.trans (PySem.W.mg_of X G a17)
  cases e
  obtain ⟨C1, P1, ec1, et1, en1, eh1⟩ := tabOf X T r1 (PySem.W.mg_of X G a1) l1 t1
  subst ec1
  obtain ⟨C2, P2, ec2, et2, en2, eh2⟩ := tabOf X T r2 (PySem.W.mg_of X G a2) l2 t2
  subst ec2
  obtain ⟨C3, P3, ec3, et3, en3, eh3⟩ := tabOf X T r3 (PySem.W.mg_of X G a3) l3 t3
  subst ec3
  have F1 := fun_mk (st := s_lets) l1 c1 k1
  have FC1 : FunC K "lets" "lets" s_lets f1 _ C1 := ⟨⟨_, _, _, _, _, _, _, _, rfl, l1, c1⟩, k1⟩
  have b1 := F1.binds (ps := ["bundle", "marks"]) fun _ _ _ _ _ _ us hl => match us, hl with | [_, _], _ => rfl
  have g1 := PySem.W.mg_of X G a1
  have F2 := fun_mk (st := s_lies_in) l2 c2 k2
  have FC2 : FunC K "lies_in" "lies_in" s_lies_in f2 _ C2 := ⟨⟨_, _, _, _, _, _, _, _, rfl, l2, c2⟩, k2⟩
  have b2 := F2.binds (ps := ["one", "other"]) fun _ _ _ _ _ _ us hl => match us, hl with | [_, _], _ => rfl
  have g2 := PySem.W.mg_of X G a2
  have F3 := fun_mk (st := s_within) l3 c3 k3
  have FC3 : FunC K "within" "within" s_within f3 _ C3 := ⟨⟨_, _, _, _, _, _, _, _, rfl, l3, c3⟩, k3⟩
  have b3 := F3.binds (ps := ["inner", "outer"]) fun _ _ _ _ _ _ us hl => match us, hl with | [_, _], _ => rfl
  have g3 := PySem.W.mg_of X G a3
  have F4 := fun_mk (st := s_l_mixed) l4 c4 k4
  have b4 := F4.binds (ps := ["_law_number", "_law_k"]) fun _ _ _ _ _ _ us hl => match us, hl with | [_, _], _ => rfl
  have g4 := PySem.W.mg_of X G a4
  have F5 := fun_mk (st := s_l_box) l5 c5 k5
  have b5 := F5.binds (ps := ["_law_cell_here", "_law_k"]) fun _ _ _ _ _ _ us hl => match us, hl with | [_, _], _ => rfl
  have g5 := PySem.W.mg_of X G a5
  have F6 := fun_mk (st := s_l_take) l6 c6 k6
  have b6 := F6.binds (ps := ["_law_box_here", "_law_many"]) fun _ _ _ _ _ _ us hl => match us, hl with | [_, _], _ => rfl
  have g6 := PySem.W.mg_of X G a6
  have F7 := fun_mk (st := s_l_some) l7 c7 k7
  have b7 := F7.binds (ps := ["_law_box_here", "_law_words", "_law_many"]) fun _ _ _ _ _ _ us hl => match us, hl with | [_, _, _], _ => rfl
  have g7 := PySem.W.mg_of X G a7
  have F8 := fun_mk (st := s_l_names) l8 c8 k8
  have b8 := F8.binds (ps := ["_law_box_here", "_law_many"]) fun _ _ _ _ _ _ us hl => match us, hl with | [_, _], _ => rfl
  have g8 := PySem.W.mg_of X G a8
  have F9 := fun_mk (st := s_l_features) l9 c9 k9
  have b9 := F9.binds (ps := ["_law_box_here"]) fun _ _ _ _ _ _ us hl => match us, hl with | [_], _ => rfl
  have g9 := PySem.W.mg_of X G a9
  have F10 := fun_mk (st := s_l_bundle) l10 c10 k10
  have b10 := F10.binds (ps := ["_law_box_here", "_law_features_here"]) fun _ _ _ _ _ _ us hl => match us, hl with | [_, _], _ => rfl
  have g10 := PySem.W.mg_of X G a10
  have F11 := fun_mk (st := s_l_own) l11 c11 k11
  have b11 := F11.binds (ps := ["_law_bundle_here"]) fun _ _ _ _ _ _ us hl => match us, hl with | [_], _ => rfl
  have g11 := PySem.W.mg_of X G a11
  have F12 := fun_mk (st := s_l_near) l12 c12 k12
  have b12 := F12.binds (ps := ["_law_box_here", "_law_bundle_here", "_law_features_here"]) fun _ _ _ _ _ _ us hl => match us, hl with | [_, _, _], _ => rfl
  have g12 := PySem.W.mg_of X G a12
  have F13 := fun_mk (st := s_l_marks) l13 c13 k13
  have b13 := F13.binds (ps := ["_law_box_here", "_law_features_here", "_law_bundle_here"]) fun _ _ _ _ _ _ us hl => match us, hl with | [_, _, _], _ => rfl
  have g13 := PySem.W.mg_of X G a13
  have F14 := fun_mk (st := s_l_lets) l14 c14 k14
  have b14 := F14.binds (ps := ["_law_bundle_here", "_law_marks_here"]) fun _ _ _ _ _ _ us hl => match us, hl with | [_, _], _ => rfl
  have g14 := PySem.W.mg_of X G a14
  have F15 := fun_mk (st := s_l_lies) l15 c15 k15
  have b15 := F15.binds (ps := ["_law_one", "_law_other"]) fun _ _ _ _ _ _ us hl => match us, hl with | [_, _], _ => rfl
  have g15 := PySem.W.mg_of X G a15
  have F16 := fun_mk (st := s_l_same) l16 c16 k16
  have b16 := F16.binds (ps := ["_law_found", "_law_due"]) fun _ _ _ _ _ _ us hl => match us, hl with | [_, _], _ => rfl
  have g16 := PySem.W.mg_of X G a16
  have F17 := fun_mk (st := s_law) l17 c17 k17
  have m_len := PySem.W.mg_none_of X G z1
  have m_abs := PySem.W.mg_none_of X G z2
  have m_int := PySem.W.mg_none_of X G z3
  have m_list := PySem.W.mg_none_of X G z4
  have m_dict := PySem.W.mg_none_of X G z5
  have m_isinstance := PySem.W.mg_none_of X G z6
  have m_bool := PySem.W.mg_none_of X G z7
  have m_enumerate := PySem.W.mg_none_of X G z8
  have m_divmod := PySem.W.mg_none_of X G z9
  have m_all := PySem.W.mg_none_of X G z10
  have m_range := PySem.W.mg_none_of X G z11
  have hT1 : ∀ p ∈ [(C1, P1), (C2, P2), (C3, P3)], h.get? p.2 = some { cls := .none, data := .fields #[] } := fun p hp => by
    rcases List.mem_cons.mp hp with rfl | hp
    · exact et1
    rcases List.mem_cons.mp hp with rfl | hp
    · exact et2
    rw [List.mem_singleton.mp hp]
    exact et3

  have hT2 : ∀ p ∈ [(C1, P1), (C2, P2), (C3, P3)], K.lookup p.2 = none := fun p hp => by
    rcases List.mem_cons.mp hp with rfl | hp
    · exact en1
    rcases List.mem_cons.mp hp with rfl | hp
    · exact en2
    rw [List.mem_singleton.mp hp]
    exact en3

  have hT3 : ∀ p ∈ [(C1, P1), (C2, P2), (C3, P3)], PySem.W.CodeHd h p.1 p.2 := fun p hp => by
    rcases List.mem_cons.mp hp with rfl | hp
    · exact eh1
    rcases List.mem_cons.mp hp with rfl | hp
    · exact eh2
    rw [List.mem_singleton.mp hp]
    exact eh3

  refine ⟨PySem.W.fnOf "law" "law" (defArgs s_law) (defBody s_law) (defScope s_law) .none kV17 dc17 pm17 an17 cd17 ct17, [(C1, P1), (C2, P2), (C3, P3)], spLaw K [P1, P2, P3], hT1, hT2, hT3, fun s v => .of_eq rfl, fun H a ns hl _ hT hS => ⟨a, ns, rfl, hS, hl, fun P hP => ?_, fun _ => rfl⟩, fun base _ _ TB => ?_⟩
  · rcases List.mem_cons.mp hP with e | hP
    · rw [e]
      exact ⟨#[], hT (C1, P1) (by simp), trivial⟩
    rcases List.mem_cons.mp hP with e | hP
    · rw [e]
      exact ⟨#[], hT (C2, P2) (by simp), trivial⟩
    rw [List.mem_singleton.mp hP]
    exact ⟨#[], hT (C3, P3) (by simp), trivial⟩
  have TB1 := tabB_of (TB (C1, P1) (by simp))
  have hP1 : P1 ∈ [P1, P2, P3] := by simp
  have TB2 := tabB_of (TB (C2, P2) (by simp))
  have hP2 : P2 ∈ [P1, P2, P3] := by simp
  have TB3 := tabB_of (TB (C3, P3) (by simp))
  have hP3 : P3 ∈ [P1, P2, P3] := by simp
  have GT := ok_take (P := l.prog) (w := w) (mg := mg) (base := base) F6 F4 b4 g4 m_divmod
  have GS := ok_some F7 F6.kp b6 g6 GT m_len m_list
  have GN := ok_names F8 F7.kp b7 g7 GS
  have GF := ok_features F9 F6.kp b6 g6 GT F7.kp b7 g7 GS F8.kp b8 g8 GN m_int
  have GB := ok_bundle F10 F6.kp b6 g6 GT F7.kp b7 g7 GS m_len
  have GO : FnOk l.prog w K mg base CX0 1 f11 _ ["_law_bundle_here"] spOwn := ok_own F11 m_dict m_list
  have GE := ok_near F12 F6.kp b6 g6 GT m_len m_list
  have GM := ok_marks F13 F6.kp b6 g6 GT m_len
  have GSa : FnOk l.prog w K mg base CX0 1 f16 _ ["_law_found", "_law_due"] spSame := ok_same F16 m_isinstance m_bool
  have GLL : FnOk l.prog w K mg base CX0 1 f15 _ ["_law_one", "_law_other"] spLLies := ok_llies F15
  have GLe : FnOk l.prog w K mg base CX0 1 f14 _ ["_law_bundle_here", "_law_marks_here"] spLLets := ok_llets F14
  have GW : FnOk l.prog w K mg base CX0 4 f3 _ ["inner", "outer"] (spWithin [P1, P2, P3]) := ok_within FC3 TB3 hP3 m_all
  have GLi := ok_lies FC2 TB2 hP2 m_all F3.kp b3 g3 GW
  have GLt : FnOk l.prog w K mg base CX0 4 f1 _ ["bundle", "marks"] (spLets [P1, P2, P3]) := ok_lets FC1 TB1 hP1 m_all
  exact ok_law F17 F5.kp b5 g5 (ok_box F5 m_abs m_int) F9.kp b9 g9 GF F10.kp b10 g10 GB F6.kp b6 g6 GT F12.kp b12 g12 GE F13.kp b13 g13 GM F11.kp b11 g11 GO F16.kp b16 g16 GSa F15.kp b15 g15 GLL F14.kp b14 g14 GLe F2.kp b2 g2 GLi F1.kp b1 g1 GLt m_len m_enumerate m_range m_dict
end Bn
open PySem PySem.W PyProof.Rows
set_option maxHeartbeats 0 in
theorem PySem.Challenge.cw_speechloom_k04_what_bundles_let_holds : PySem.Challenge.rw_speechloom_k04_what_bundles_let.Holds := by
  w_on; o_law; k_head; (case hw => w_witness2)
  k_fill
  refine GX.walk_ofTabs (l := PySem.Challenge.rw_speechloom_k04_what_bundles_let) (n := 63) (k := 9) (x := "_law_script") (CX := fun _ => L2.CX0) rfl (by decide) rfl ⟨rfl, by decide, by decide⟩ (fun w h Y => PySem.W.kIn_of Y) ?F (fun _ _ _ _ _ h => h)
  case F =>
    intro w mg fa h KX G hmg T
    refine' Bn.all_mk KX G hmg T ?a1 ?l1 ?c1 ?k1 ?a2 ?l2 ?c2 ?k2 ?a3 ?l3 ?c3 ?k3 ?a4 ?l4 ?c4 ?k4 ?a5 ?l5 ?c5 ?k5 ?a6 ?l6 ?c6 ?k6 ?a7 ?l7 ?c7 ?k7 ?a8 ?l8 ?c8 ?k8 ?a9 ?l9 ?c9 ?k9 ?a10 ?l10 ?c10 ?k10 ?a11 ?l11 ?c11 ?k11 ?a12 ?l12 ?c12 ?k12 ?a13 ?l13 ?c13 ?k13 ?a14 ?l14 ?c14 ?k14 ?a15 ?l15 ?c15 ?k15 ?a16 ?l16 ?c16 ?k16 ?a17 ?l17 ?c17 ?k17 ?t1 ?r1 ?t2 ?r2 ?t3 ?r3 ?z1 ?z2 ?z3 ?z4 ?z5 ?z6 ?z7 ?z8 ?z9 ?z10 ?z11
    (case a1 => k_is); (case l1 => k_is); (case c1 => k_is); (case k1 => k_is); (case a2 => k_is); (case l2 => k_is); (case c2 => k_is); (case k2 => k_is); (case a3 => k_is); (case l3 => k_is); (case c3 => k_is); (case k3 => k_is); (case a4 => k_is); (case l4 => k_is); (case c4 => k_is); (case k4 => k_is); (case a5 => k_is); (case l5 => k_is); (case c5 => k_is); (case k5 => k_is); (case a6 => k_is); (case l6 => k_is); (case c6 => k_is); (case k6 => k_is); (case a7 => k_is); (case l7 => k_is); (case c7 => k_is); (case k7 => k_is); (case a8 => k_is); (case l8 => k_is); (case c8 => k_is); (case k8 => k_is); (case a9 => k_is); (case l9 => k_is); (case c9 => k_is); (case k9 => k_is); (case a10 => k_is); (case l10 => k_is); (case c10 => k_is); (case k10 => k_is); (case a11 => k_is); (case l11 => k_is); (case c11 => k_is); (case k11 => k_is); (case a12 => k_is); (case l12 => k_is); (case c12 => k_is); (case k12 => k_is); (case a13 => k_is); (case l13 => k_is); (case c13 => k_is); (case k13 => k_is); (case a14 => k_is); (case l14 => k_is); (case c14 => k_is); (case k14 => k_is); (case a15 => k_is); (case l15 => k_is); (case c15 => k_is); (case k15 => k_is); (case a16 => k_is); (case l16 => k_is); (case c16 => k_is); (case k16 => k_is); (case a17 => k_is); (case l17 => k_is); (case c17 => k_is); (case k17 => k_is); (case z1 => k_is); (case z2 => k_is); (case z3 => k_is); (case z4 => k_is); (case z5 => k_is); (case z6 => k_is); (case z7 => k_is); (case z8 => k_is); (case z9 => k_is); (case z10 => k_is); (case z11 => k_is)
    case t1 => kernel_rfl
    case t2 => kernel_rfl
    case t3 => kernel_rfl
    case r1 => decide +kernel
    case r2 => decide +kernel
    case r3 => decide +kernel
