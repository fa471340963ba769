import PyProof.Rows.All
import Wide.All
import OpenK.AllK
import Wide.FinOn
import HandS.AnyAll
import HandS.GenList
import HandS.Words
import HandS.Codes
import HandS.EndTab
import HandS.Walk
import HandS.SetBool
import HandS.SetKeys
import HandS.ForMost
import HandS.IsInst
import HandS.Conv
import HandS.Star
import HandS.DeepEq
import HandS.ListEq
import HandS.SetFor
import HandS.Flow
import KE.KDictSum
import HandS.Rev
import HandS.RevTup
import KE.KDictList
import PySem.Challenge.RW_speechloom_k06_groups_agreed
import HandS.More
set_option Elab.async false
set_option linter.all false
set_option maxRecDepth 100000
set_option maxHeartbeats 4000000
/-! all(elt for target in iter if ..), the element by the layer's own rules, over anything that is walked; the heap may move -/
namespace GX
open PySem PySem.Spec PyProof.Rows L2 GenW

/-- the context of a generator expression's frame that was made at s -/
abbrev gcx (X : Cx) (s : Shared) (H : Hp) (cenv : Env) (fp : List Addr) : Cx :=
  { X with A := X.A.in1.in1.deeper cenv, s_0 := s, H_0 := H, env := cenv, outer := X.stack, stack := cenv :: X.stack, ex := fp, fn := fun _ => false, pn := [], xe := fun _ _ => False }

section
variable {X : Cx} {pins : List (Addr × Obj)} {σ : L2.St} {H : Hp} {s : Shared}
theorem gen_start {scope : Scope} {own : List (Str × Nat)} {fp : List Addr} {h' : Heap} {mm : Str → Option Value} {G : Array GenState} {tk : Nat} {code : Value} (J : Inv X pins σ H s) (blk : BlkOk X.N X.env.scope scope own) (nc : ∀ y ∈ scope.names, y.2 ≠ .cell) (nd : X.N.Nodup)
    (walked : ∀ p ∈ fp, FpOk X pins H p ∧ p < s.heap.objs.size) (frame : h'.Ns s.heap.objs.size mm) (up : ∀ p u, s.heap.get? p = some u → h'.get? p = some u) (bare : AllBare G) :
    Inv (gcx X s H (genEnv scope (cloFrom X.env.cells scope.names []) s.heap.objs.size code builtinsNs X.env) fp) [] (wipe σ (own.map (·.2))) H { s with heap := h', gens := G, toks := tk } := by
  have caught : ∀ n ∈ scope.names, n.2 = .free → ∃ c, X.env.cells.lookup n.1 = some c := fun n hn hf =>
    J.ok.has _ ((blk.free n hn hf).elim .inl .inr)
  -- the closure holds cells of the def alone
  have clo : ∀ {n c}, (n, c) ∈ cloFrom X.env.cells scope.names [] → X.env.cells.lookup n = some c ∧ c < s.heap.objs.size := fun {n c} hin => by
    rcases cloFrom_mem hin with none' | ⟨isFree, rfl⟩
    · exact absurd none' List.not_mem_nil
    · obtain ⟨c₀, at₀⟩ := caught _ isFree rfl
      obtain ⟨val, stands⟩ := J.cell _ _ at₀
      rw [at₀]
      exact ⟨rfl, stands.lt⟩
  generalize env' : genEnv scope (cloFrom X.env.cells scope.names []) s.heap.objs.size code builtinsNs X.env = ge
  have gL : ge.locals = s.heap.objs.size := env' ▸ rfl
  have gC : ge.cells = cloFrom X.env.cells scope.names [] := env' ▸ rfl
  have gS : ge.scope = scope := env' ▸ rfl
  have gF : ge.frame = some ge.locals := env' ▸ rfl
  have down : ∀ {n c}, ge.cells.lookup n = some c → X.env.cells.lookup n = some c ∧ c < s.heap.objs.size := fun {n c} q =>
    clo (PySem.mem_of_lookup (gC ▸ q))
  have freeAt : ∀ {n}, scope.names.lookup n = some .free → ∃ c, ge.cells.lookup n = some c ∧ X.env.cells.lookup n = some c := fun {n} q => by
    obtain ⟨c, inGe⟩ := mem_lookup (cloFrom_has (cells := X.env.cells) (acc := []) (PySem.mem_of_lookup q))
    have inGe' : ge.cells.lookup n = some c := gC ▸ inGe
    exact ⟨c, inGe', (down inGe').1⟩
  have wOk : (gcx X s H ge fp).Ok := {
    mod := J.ok.mod
    kind := by show ge.scope.kind = _; rw [gS]; exact blk.kind
    glob := by show ge.globals = _; rw [← env']; exact J.ok.glob
    blt := by show ge.builtins = _; rw [← env']; rfl
    above := Nat.le_of_eq gL.symm
    inj := fun n n' c q q' => J.ok.inj n n' c (down q).1 (down q').1
    has := fun n kinds => by
      have kinds' : scope.names.lookup n = some .cell ∨ scope.names.lookup n = some .free := gS ▸ kinds
      rcases kinds' with isCell | isFree
      · exact absurd rfl (nc _ (PySem.mem_of_lookup isCell))
      · exact (freeAt isFree).imp fun _ q => q.1
    cab := fun _ _ z _ => absurd z Bool.false_ne_true
    hd := J.ok.hd
    frames := Around.frames_deeper J.ok.frames
    stk := .inr ⟨rfl, gF⟩
    exf := fun p hp => ⟨by show p ≠ ge.locals; rw [gL]; exact Nat.ne_of_lt (walked p hp).2, fun n c q => (walked p hp).1.2.2.2.2.1 n c (down q).1⟩
    bs := J.bs
    bsz := Nat.le_trans J.ok.bsz J.sz
    noex := fun p u q hp => (walked p hp).1.2.2.2.1.elim (J.ok.noex p u q) fun young => Nat.lt_irrefl _ (Nat.lt_of_lt_of_le (Heap.lt_size q) (Nat.le_trans J.ok.bsz young))
    exfs := fun p hp z => (List.mem_cons.mp (J.stkSub p z)).elim (walked p hp).1.2.1 (walked p hp).1.2.2.1
    funs := J.stack
    frf := J.stkFree }
  refine { ok := wOk, os := rfl, bare := bare, base := Un.kept up, loc := ⟨mm, by show Heap.Ns _ ge.locals _; rw [gL]; exact frame, fun k n v atN atS vis => ?_⟩, cell := fun n c q => ?_, free := ?_, freeC := fun n c q => J.freeC n c (down q).1, pin := fun _ none' => absurd none' List.not_mem_nil, hok := J.hok.kept up, len := ?_ }
  · obtain ⟨atS, notOwn⟩ := wipe_some atS
    have isFree : scope.names.lookup n = some .free := by
      have ownNot : ∀ kd, scope.names.lookup n = some kd → ¬ (kd = .local ∨ kd = .cell) := fun kd q two => by
        rcases blk.own _ (PySem.mem_of_lookup q) two with among | out
        · obtain ⟨⟨m₁, k₁⟩, in₁, nm⟩ := List.mem_map.mp among
          have nm' : m₁ = n := nm
          have k₁At := blk.ix _ in₁
          rw [show (m₁, k₁).1 = n from nm'] at k₁At
          exact notOwn (List.mem_map.mpr ⟨_, in₁, nodup_ix nd k₁At atN⟩)
        · exact out (List.mem_of_getElem? atN)
      have vis' : Vis scope n := gS ▸ (show Vis ge.scope n from vis)
      rcases vis' with q | q | q
      · exact absurd (.inl rfl) (ownNot _ q)
      · exact absurd (.inr rfl) (ownNot _ q)
      · exact q
    have inDef := blk.free _ (PySem.mem_of_lookup isFree) rfl
    obtain ⟨_, _, reads⟩ := J.loc
    obtain ⟨val, rel, how⟩ := reads k n v atN atS (.inr inDef)
    obtain ⟨c, c1, c2⟩ := freeAt isFree
    refine ⟨val, rel, .inr ⟨.inr (by show ge.scope.names.lookup n = _; rw [gS]; exact isFree), c, c1, ?_⟩⟩
    rcases how with ⟨isLocal, _⟩ | ⟨_, c₂, c₂At, stands⟩
    · have isLocal' : X.env.scope.names.lookup n = some .local := isLocal
      rw [isLocal'] at inDef
      rcases inDef with q | q <;> cases q
    · rw [c2] at c₂At
      cases c₂At
      exact stands.keeps up
  · obtain ⟨val, stands⟩ := J.cell n c (down q).1
    exact ⟨val, stands.keeps up⟩
  · show H ge.locals = none
    exact gL ▸ J.hok.fresh (Nat.le_refl _)
  · exact (wipe_length σ _).trans J.len
end

/-! ### the protocol -/
section
variable {Y : Cx}
def RG (Y : Cx) (pn : List (Addr × Obj)) (T : Hp → Prop) : GenEnd := fun n s₀ r s₁ => r = .ok .next ∧ ∃ σ H, Inv Y pn σ H s₁ ∧ T H
def YG (Y : Cx) (pn : List (Addr × Obj)) (F : Hp → Prop) : Protocol := fun n s₀ v s kap =>
  ∃ b σ H, v = .bool b ∧ Inv Y pn σ H s ∧ (b = true → ∀ G, AllBare G → kap (.send .none) { s with gens := G }) ∧ (b = false → F H)
theorem inv_gens {pn : List (Addr × Obj)} {σ : L2.St} {H : Hp} {s : Shared} {G : Array GenState} (I : Inv Y pn σ H s) (h : AllBare G) : Inv Y pn σ H { s with gens := G } :=
  I.call' (ch := []) rfl (Un.kept fun _ _ e => e) I.hok h fun b z => by simp at z
theorem inv_kept {pn : List (Addr × Obj)} {σ : L2.St} {H : Hp} {s : Shared} {G : Array GenState} {h' : Heap} (I : Inv Y pn σ H s) (h : AllBare G) (k : ∀ b o, s.heap.get? b = some o → h'.get? b = some o) : Inv Y pn σ H { s with gens := G, heap := h' } :=
  I.call' (ch := []) rfl (Un.kept k) (I.hok.kept k) h fun b z => by simp at z

/-- what a turn of the walk wants -/
def AllTurn (J : It) (g : TG) (tt : TT) (te : TE) (vs : List Nat) (σw : L2.St) (W : Nat → Nat → Hp → Prop) (T F : Hp → Prop) : Prop :=
  ∀ i m H, W i m H → (J.stop i H ∧ T H) ∨ (J.go i H ∧ ∃ Nx : Hp → Prop, (∀ H', Nx H' → ∃ m', m' < m ∧ W (i + 1) m' H') ∧ ∀ x H', J.yld i H x H' → g x σw H' fun σ2 H2 => wipe σ2 vs = σw ∧ tt σ2 H2 fun b H3 =>
    if b = true then te σ2 H3 fun y H4 => ∃ c : Bool, y = .bl c ∧ (c = true → Nx H4) ∧ (c = false → F H4) else Nx H3)

theorem seg_loop {A : Around} {elt tg iter : Expr} {ifs : List Expr} {scope : Scope} {pos : Pos} {it : Addr} {fp : List Addr} {tn : Nat → Heap → Prop} {J : It} {g : TG} {tt : TT} {te : TE} {vs : List Nat} {σw : L2.St} {pn : List (Addr × Obj)} {W : Nat → Nat → Hp → Prop} {T F : Hp → Prop}
    (hov : A.over (.compLoop (.GeneratorExp elt [⟨tg, iter, ifs, 0⟩] scope pos) 0 (.ref it) .none Y.env) [] = Y.A) (hxe : Y.xe = fun _ _ => False) (hcalm : Y.calm = true) (hco : Y.env.scope.isCoroutine = false)
    (Tn : Turn Y.prog Y.w Y.K tg J fp it tn) (pg : PG Y tg g) (pt : PTs Y ifs tt) (pe : PE Y elt te) (hex : ∀ b ∈ fp, b ∈ Y.ex) (hpn : Y.pn = []) (hpins : ∀ p ∈ pn, p.1 ∉ fp) (turn : AllTurn J g tt te vs σw W T F) :
    ∀ (m n i : Nat) (s₀ s : Shared) (H : Hp), m < n → Inv Y pn σw H s → tn i s.heap → (∀ b ∈ fp, H b = none) → W i m H →
      Seg (model Y.prog Y.w) A (RG Y pn T) (YG Y pn F) n s₀ (.compLoop (.GeneratorExp elt [⟨tg, iter, ifs, 0⟩] scope pos) 0 (.ref it) .none Y.env)
        ((model Y.prog Y.w).den (.compLoop (.GeneratorExp elt [⟨tg, iter, ifs, 0⟩] scope pos) 0 (.ref it) .none Y.env)) [] s := by
  have stat : ∀ {σ' : L2.St} {H' : Hp} {s' : Shared}, Inv Y pn σ' H' s' → (∀ b ∈ fp, H' b = none) → ∀ b ∈ fp, FpOk Y pn H' b := fun {σ' H' s'} I' hn b hb =>
    ⟨hn b hb, (I'.ok.exf b (hex b hb)).1, I'.ok.exfs b (hex b hb), .inl (hex b hb), fun x c e => (I'.ok.exf b (hex b hb)).2 x c e, fun p hp => by
      rw [hpn] at hp
      exact fun z => hpins p (by simpa using hp) (by rw [z]; exact hb)⟩
  intro m
  induction m using Nat.strongRecOn with
  | ind m ih =>
    intro n i s₀ s H hmn I st nfp w
    show Seg _ A _ _ _ s₀ _ ((compTurn (.GeneratorExp elt [⟨tg, iter, ifs, 0⟩] scope pos) 0 (.ref it) .none Y.env).onRaise (leaving Y.env)) [] s
    rw [compTurn_gen, Sem.onRaise_eq_wrap]
    refine seg_bind_wrap (wpAny_standAt ?_)
    rcases turn i m H w with ⟨stop, qq⟩ | ⟨go, Nx, hNx, step⟩
    · refine seg_bind_wrap ?_
      rw [hov]
      refine thnF (Tn.done Y rfl rfl rfl hcalm i pn s _ H (fun _ _ => False) I (stat I nfp) st stop) fun r s1 ⟨hr, I1⟩ => ?_
      subst hr
      exact seg_end (.ok .next) ⟨rfl, _, _, I1, qq⟩
    · refine seg_bind_wrap ?_
      rw [hov]
      refine thnF (Tn.item Y rfl rfl rfl hcalm i pn s _ H (fun _ _ => False) I (stat I nfp) st go) fun r s1 ⟨u, hr, h1⟩ => ?_
      subst hr
      refine seg_bind_wrap ?_
      rw [hov]
      refine thnF h1 fun _ s2 ⟨x, H2, I2, r2, y2, st2, n2⟩ => ?_
      have I2' := I2.pinned (stat I2 n2) (Tn.obj _ _ st2)
      have no : ∀ {e : Value} {s' : Shared} {C : Prop}, Y.xe e s' → C := fun {e s' C} h => by
        rw [hxe] at h
        exact h.elim
      refine seg_bind_wrap ?_
      rw [hov]
      refine wpAny_mono (pg.run _ s2 _ H2 x u _ I2' r2 (step x H2 y2)) (fun _ s3 h3 => ?_) fun _ _ e => no e
      obtain ⟨σ3, H3, I3, hw3, q3⟩ := h3
      refine seg_bind_wrap ?_
      rw [hov]
      refine wpAny_mono (pt.run _ s3 σ3 H3 _ I3 q3) (fun b s4 h4 => ?_) fun _ _ e => no e
      obtain ⟨H4, I4, q4⟩ := h4
      -- the turn's end
      have fin : ∀ {s' : Shared} {H' : Hp} {G : Array GenState}, Inv Y (pn ++ pinsAt fp s2.heap) σ3 H' s' → AllBare G → Nx H' → ∃ m', m' < m ∧ Inv Y pn σw H' { s' with gens := G } ∧ tn (i + 1) ({ s' with gens := G } : Shared).heap ∧ (∀ b ∈ fp, H' b = none) ∧ W (i + 1) m' H' := fun {s' H' G} I' hG nx => by
        obtain ⟨m', less, w'⟩ := hNx H' nx
        have pin' : ∀ b ∈ fp, ∀ o, s2.heap.get? b = some o → s'.heap.get? b = some o ∧ H' b = none := fun b hb o e =>
          (I'.pin (b, o) (List.mem_append_right _ (List.mem_append_right _ (mem_pinsAt hb e)))).imp id And.left
        have hl : σw.length = σ3.length := by rw [← hw3, wipe_length]
        refine ⟨m', less, inv_gens ((I'.unpinned (pins := pn)).weak hl (fun j v e => ?_)) hG, Tn.keep _ _ _ st2 fun b hb o e => (pin' b hb o e).1, fun b hb => ?_, w'⟩
        · rw [← hw3] at e
          exact (wipe_some e).1
        · obtain ⟨o, e, _⟩ := Tn.obj _ _ st2 b hb
          exact (pin' b hb o e).2
      cases b with
      | false =>
        simp only [Bool.false_eq_true, if_false] at q4 ⊢
        obtain ⟨m', hm, J1, J2, J3, J4⟩ := fin I4 I4.bare q4
        exact seg_again rfl (ih m' hm n (i + 1) s₀ s4 H4 (by omega) J1 J2 J3 J4)
      | true =>
        simp only [if_true] at q4 ⊢
        have hy : ∀ v, yieldOut Y.env v = yieldValue v := fun v => by simp only [yieldOut, hco, Bool.false_eq_true, if_false]
        simp only [hy]
        rw [Sem.bind_eq_wrap', Sem.bind_eq_wrap', Sem.wrap_wrap, Sem.wrap_wrap]
        refine seg_wrap ?_
        rw [hov]
        refine wpAny_mono (pe.run _ s4 σ3 H4 _ I4 q4) (fun v s5 h5 => ?_) fun _ _ e => no e
        obtain ⟨yv, H5, I5, r5, c, ey, hT, hF⟩ := h5
        subst ey
        obtain rfl : v = Value.bool c := r5
        obtain ⟨n', rfl⟩ : ∃ n', n = n' + 1 := ⟨n - 1, by omega⟩
        refine seg_at (seg_yield rfl rfl rfl ⟨c, σ3, H5, rfl, I5.unpinned (pins := pn), fun hc G hG => ?_, hF⟩)
        obtain ⟨m', hm, J1, J2, J3, J4⟩ := fin I5 hG (hT hc)
        exact seg_again rfl (ih m' hm n' (i + 1) _ _ H5 (by omega) J1 J2 J3 J4)

theorem seg_start {A : Around} {elt tg iter : Expr} {ifs : List Expr} {scope : Scope} {pos : Pos} {it : Addr} {fp : List Addr} {tn : Nat → Heap → Prop} {J : It} {n i : Nat} {R : GenEnd} {Yp : Protocol} {s₀ s : Shared} {cenv : Env} {P : Program} {w : World} {K : PySem.W.Frag}
    (Tn : Turn P w K tg J fp it tn) (st : tn i s.heap)
    (loop : Seg (model P w) A R Yp n s₀ (.compLoop (.GeneratorExp elt [⟨tg, iter, ifs, 0⟩] scope pos) 0 (.ref it) .none cenv) ((model P w).den (.compLoop (.GeneratorExp elt [⟨tg, iter, ifs, 0⟩] scope pos) 0 (.ref it) .none cenv)) [] s) :
    Seg (model P w) A R Yp n s₀ (.compStart (.GeneratorExp elt [⟨tg, iter, ifs, 0⟩] scope pos) 0 (.ref it) .none cenv) ((model P w).den (.compStart (.GeneratorExp elt [⟨tg, iter, ifs, 0⟩] scope pos) 0 (.ref it) .none cenv)) [] s := by
  show Seg _ A _ _ _ s₀ _ ((compStart (.GeneratorExp elt [⟨tg, iter, ifs, 0⟩] scope pos) 0 (.ref it) .none cenv).onRaise (leaving cenv)) [] s
  unfold compStart
  rw [Sem.onRaise_eq_wrap]
  show Seg _ A _ _ _ s₀ _ ((ask >>= _).wrap _ _ _ _) [] s
  refine seg_bind_wrap (wpAny_askSetting ?_)
  split
  · exact seg_again rfl loop
  · first
      | exact seg_bind_wrap (wpAny_rule (seg_bind_wrap (wpAny_standAt (seg_bind_wrap (Tn.self _ i s _ _ st (seg_again rfl loop))))))
      | (refine seg_bind_wrap (wpAny_rule ?_); show Seg _ A _ _ _ s₀ _ ((standAt iter.pos >>= _).wrap _ _ _ _) [] s; exact seg_bind_wrap (wpAny_standAt (seg_bind_wrap (Tn.self _ i s _ _ st (seg_again rfl loop)))))

/-! ### all's loop -/
theorem all_loop {A : Around} {R : Result → Shared → Prop} {a : Addr} {g : Nat} {pn : List (Addr × Obj)} {T F : Hp → Prop} (hh : A.handled = none) (hd : A.depth < recursionLimit)
    (hgen : ∀ σ H s, Inv Y pn σ H s → s.heap.IsGen a g) (hT : ∀ σ H s, Inv Y pn σ H s → T H → R (.ok (.ret (.bool true))) s) (hF : ∀ σ H s, Inv Y pn σ H s → F H → R (.ok (.ret (.bool false))) s) :
    ∀ (n : Nat) (s : Shared), s.heap.IsGen a g → s.heap.NoLimit → (∃ gs, s.gens[g]? = some gs ∧ gs.Goes (model Y.prog Y.w) A.in1.in1 (RG Y pn T) (YG Y pn F) n (.send .none) (s.setGen g .running)) →
      codeAny (model Y.prog Y.w) A (.builtin "all.loop" ⟨[.ref a], []⟩) R s := by
  intro n
  induction n with
  | zero =>
    intro s hg hl ⟨gs, hgs, hgo⟩
    refine codeAny_builtin PySem.F.entry_all_loop ?_
    rw [Around.under_plainId PySem.F.plain_all_loop _]
    show wpAny _ A.in1 (pyNext (.ref a) >>= _) _ _ s
    refine wpAny_bind (wpAny_pyNext_genexpQ (A := A.in1) (P := fun _ _ s₁ => ∃ σ H, Inv Y pn σ H s₁ ∧ T H) hh hl hd hg hgs hgo (fun v s₁ gs' hb hv => ?_) (fun s₁ hp h' hk => ?_))
    · obtain ⟨b, σ, H, rfl, I, h1, h2⟩ := hv
      cases b with
      | true => exact (h1 rfl _ I.bare).elim
      | false =>
        refine wpAny_bind (wpAny_holding (wpAny_truthy_bool ?_))
        refine wpAny_bind (wpAny_letGo ?_)
        simp only [Bool.false_eq_true, if_false]
        exact wpAny_bind (wpAny_rule (wpAny_pure (hF σ H _ (inv_gens I (allBare_setGen I.bare hb)) (h2 rfl))))
    · obtain ⟨σ, H, I, q⟩ := hp
      exact wpAny_bind (wpAny_rule (wpAny_pure (hT σ H _ (inv_kept (s := s₁) (G := (s₁.setGen g .finished).gens) I (allBare_setGen I.bare rfl) hk) q)))
  | succ n ih =>
    intro s hg hl ⟨gs, hgs, hgo⟩
    have hgl : g < s.gens.size := (Array.getElem?_eq_some_iff.mp hgs).1
    refine codeAny_builtin PySem.F.entry_all_loop ?_
    rw [Around.under_plainId PySem.F.plain_all_loop _]
    show wpAny _ A.in1 (pyNext (.ref a) >>= _) _ _ s
    refine wpAny_bind (wpAny_gsz (n := g + 1) hgl (wpAny_pyNext_genexpQ (A := A.in1) (P := fun _ _ s₁ => ∃ σ H, Inv Y pn σ H s₁ ∧ T H) hh hl hd hg hgs hgo (fun v s₁ gs' hb hv => ?_) (fun s₁ hp h' hk => ?_)))
    · intro hsz
      obtain ⟨b, σ, H, rfl, I, h1, h2⟩ := hv
      refine wpAny_bind (wpAny_holding (wpAny_truthy_bool ?_))
      refine wpAny_bind (wpAny_letGo ?_)
      cases b with
      | true =>
        simp only [if_true]
        have hsz1 : g < s₁.gens.size := by
          have q : (s₁.setGen g gs').gens.size = s₁.gens.size := setGen_size _ _ _
          have hsz' : g + 1 ≤ (s₁.setGen g gs').gens.size := hsz
          omega
        refine wpAny_pure ⟨plainId_quiet PySem.F.plain_all_loop _, ih (s₁.setGen g gs') (hgen σ H _ (inv_gens I (allBare_setGen I.bare hb))) (show s₁.heap.NoLimit from I.nolimit) ⟨gs', setGen_at hsz1, ?_⟩⟩
        exact h1 rfl _ (allBare_setGen (s := s₁.setGen g gs') (allBare_setGen I.bare hb) rfl)
      | false =>
        simp only [Bool.false_eq_true, if_false]
        exact wpAny_bind (wpAny_rule (wpAny_pure (hF σ H _ (inv_gens I (allBare_setGen I.bare hb)) (h2 rfl))))
    · intro hsz
      obtain ⟨σ, H, I, q⟩ := hp
      exact wpAny_bind (wpAny_rule (wpAny_pure (hT σ H _ (inv_kept (s := s₁) (G := (s₁.setGen g .finished).gens) I (allBare_setGen I.bare rfl) hk) q)))
end
end GX

namespace GX
open PySem PySem.Spec PyProof.Rows L2 GenW
/-- all(elt for tg in iter if ..): behind it the def's table may have grown -/
def tAll (P : Addr) (wi : TI) (g : TG) (tt : TT) (te : TE) (vs : List Nat) : TE := fun σ H Q => wi σ H fun J H1 => GxR.TabG H1 P ∧ ∀ H2, GxR.Tabbed P H1 H2 →
  ∃ W : Nat → Nat → Hp → Prop, (∃ m, W 0 m H2) ∧ AllTurn J g tt te vs (wipe σ vs) W (fun H' => Q (.bl true) H') (fun H' => Q (.bl false) H')
section
variable {X : Cx}
theorem pe_all {c P : Addr} {elt tg iter : Expr} {ifs : List Expr} {scope : Scope} {own : List (Str × Nat)} {p pos gpos : Pos} {wi : TI} {g : TG} {tt : TT} {te : TE} {k : Nat}
    (hr : Room k X.A) (hgl : Gl X "all") (hm : X.mg "all" = none) (hb : bootBuiltins "all" = some (.builtin "all")) (TB : GxR.TabB X.base X.mg c P) (hcode : X.env.code = .ref c) (hc : X.calm = true) (hN : X.N.Nodup) (hi : PI X tg iter wi) (ok : BlkOk X.N X.env.scope scope own)
    (hco : scope.isCoroutine = false) (nc : ∀ y ∈ scope.names, y.2 ≠ .cell) (h0 : scope.names.lookup (".0" : Str) = some NameKind.local)
    (hg : ∀ (s : Shared) (H : Hp) (C : Addr) (cl : List (Str × Addr)) (code : Value) (fp : List Addr), PG (gcx X s H (genEnv scope cl C code builtinsNs X.env) fp) tg g)
    (ht : ∀ (s : Shared) (H : Hp) (C : Addr) (cl : List (Str × Addr)) (code : Value) (fp : List Addr), PTs (gcx X s H (genEnv scope cl C code builtinsNs X.env) fp) ifs tt)
    (he : ∀ (s : Shared) (H : Hp) (C : Addr) (cl : List (Str × Addr)) (code : Value) (fp : List Addr), PE (gcx X s H (genEnv scope cl C code builtinsNs X.env) fp) elt te)
    (hs : ∀ v, genFold iter X.env v = pure v := by intro _; rfl)
    (hst : starEach [.GeneratorExp elt [⟨tg, iter, ifs, 0⟩] scope gpos] X.env = (false, eval (.GeneratorExp elt [⟨tg, iter, ifs, 0⟩] scope gpos) X.env) :: starEach [] X.env := by rfl) :
    PE X (.Call (.Name "all" p) [.GeneratorExp elt [⟨tg, iter, ifs, 0⟩] scope gpos] [] pos) (tAll P wi g tt te (own.map (·.2))) := by
  refine ⟨fun pins s σ H Q I h => ?_⟩
  have caught : ∀ n ∈ scope.names, n.2 = .free → ∃ c, X.env.cells.lookup n.1 = some c := fun n hn hf => I.ok.has _ ((ok.free n hn hf).elim .inl .inr)
  refine wpAny_Call_Name_kw (ld_blt I hgl hm hb ?_)
  refine PyProof.Rows.callWith_builtin1 ?_ hst (by rfl)
  rw [hst]
  show wpAny _ _ (spliced ((false, eval (.GeneratorExp elt [⟨tg, iter, ifs, 0⟩] scope gpos) X.env) :: backTo pos (starEach [] X.env))) _ _ s
  refine Calls.spliced_cons ?_
  refine wpAny_GeneratorExp_make hco (closure_ok caught) nc h0 ok.kind hr.depth ?_ hs
  refine thn (hi.run pins s σ H _ I h) fun xv s1 hx => thn hx fun itv s2 h2 => ?_
  obtain ⟨it, fp, tn, J, H2, e, I2, T, st2, f2, ⟨ps, hP, ht2⟩, q⟩ := h2
  subst e
  refine ⟨I2.nolimit, ?_⟩
  have hPs : s2.heap.get? P = some { cls := .none, data := .fields ps } := I2.hok P _ hP
  have cd : PySem.W.CodeHd s2.heap c P := TB.code.keeps fun b u e => I2.bk b u e
  have nfP : ∀ b ∈ fp, b ≠ P := fun b hb z => by
    have := (f2 b hb).1
    rw [z, hP] at this
    cases this
  -- behind the code object
  have cont : ∀ (code : Value) (h3 : Heap) (tk : Nat) (ps' : Array Value), Heap.ExtBut P s2.heap h3 → s2.heap.objs.size ≤ h3.objs.size → h3.get? P = some { cls := .none, data := .fields ps' } → (∃ more, ps' = ps ++ more) → TriplesOk ps'.toList →
      wpAny (model X.prog X.w) X.A (builtinsFor X.env.globals X.env.builtins) (fun bi s₄ => ∀ h', h'.Ns s₄.heap.objs.size (fun y => if y = ".0" then some (.ref it) else none) → Heap.SameBut s₄.heap.objs.size (s₄.heap.push { cls := .type "frame", data := .dict #[] }) h' →
          wpAny (model X.prog X.w) X.A (spliced (backTo pos (starEach [] X.env))) (fun vs s6 => wpAny (model X.prog X.w) X.A (call (.builtin "all") (.ref h'.objs.size :: vs)) (EP X pins σ Q) X.xe s6) X.xe { s₄ with
            gens := s₄.gens.push (.fresh (.compStart (.GeneratorExp elt [⟨tg, iter, ifs, 0⟩] scope gpos) 0 (.ref it) .none (genEnv scope (cloFrom X.env.cells scope.names []) s₄.heap.objs.size code bi X.env))),
            toks := s₄.toks + 1 + 1 + 1,
            heap := h'.push { cls := .type "generator", data := .fields #[.int s₄.gens.size 0, .str "<genexpr>" (s₄.toks + 1), .str (X.env.qual ++ "<genexpr>") (s₄.toks + 1 + 1)] } }) X.xe { s2 with heap := h3, toks := tk } := by
    intro code h3 tk ps' hx hsz hP3 ⟨more, em⟩ ht3
    obtain ⟨bmod, bobj, i1, i2, i3, i4, i5, i6, i7, i8⟩ := TB.bm
    have keep3 : ∀ b u, b ≠ P → s2.heap.get? b = some u → h3.get? b = some u := fun b u hb e => hx b u hb e
    refine wpAny_builtinsFor (m := X.mg) (by rw [I2.ok.glob]; exact (I2.mod.glob.keeps I2.bk).extBut hx TB.gP) i1 i2 (keep3 _ _ i4 (I2.bk _ _ i5)) i6 i7 i8 ?_
    intro h' hn' hs'
    -- the state ahead of the frame
    have I3 := GxR.inv_tab (more := more) (h' := h3) (g' := s2.gens) (d' := s2.drawn) (t' := tk) I2 hP (fun b u hb e => keep3 b u hb e) (by rw [← em]; exact hP3) I2.bare
    have hTab : GxR.Tabbed P H2 (upd H2 P (.tbl (ps ++ more))) := ⟨⟨ps ++ more, upd_same, by rw [← em]; exact ht3⟩, fun b hb => upd_ne hb⟩
    obtain ⟨W, ⟨m0, w0⟩, turn⟩ := q _ hTab
    generalize upd H2 P (.tbl (ps ++ more)) = H3 at I3 w0 hTab
    have st3 : tn 0 h3 := T.keep _ _ _ st2 fun b hb o e => keep3 b o (nfP b hb) e
    have f3 : ∀ b ∈ fp, FpOk X pins H3 b ∧ b < h3.objs.size := fun b hb => by
      obtain ⟨o, e, _⟩ := T.obj _ _ st3 b hb
      exact ⟨⟨by rw [hTab.2 b (nfP b hb)]; exact (f2 b hb).1, (f2 b hb).2⟩, Heap.lt_size e⟩
    generalize hs3 : ({ s2 with heap := h3, toks := tk } : Shared) = s3 at I3
    have es3 : h3 = s3.heap := by rw [← hs3]
    have hn'' : h'.Ns s3.heap.objs.size (fun y => if y = ".0" then some (.ref it) else none) := by rw [← es3]; exact hn'
    have hs'' : Heap.SameBut s3.heap.objs.size (s3.heap.push { cls := .type "frame", data := .dict #[] }) h' := by rw [← es3]; exact hs'
    rw [es3] at st3 f3
    show wpAny _ _ _ _ _ { s3 with
            gens := s3.gens.push (.fresh (.compStart (.GeneratorExp elt [⟨tg, iter, ifs, 0⟩] scope gpos) 0 (.ref it) .none (genEnv scope (cloFrom X.env.cells scope.names []) s3.heap.objs.size code builtinsNs X.env))),
            toks := s3.toks + 1 + 1 + 1,
            heap := h'.push { cls := .type "generator", data := .fields #[.int s3.gens.size 0, .str "<genexpr>" (s3.toks + 1), .str (X.env.qual ++ "<genexpr>") (s3.toks + 1 + 1)] } }
    have kp : ∀ b o, s3.heap.get? b = some o → h'.get? b = some o := fun b o e => hs''.extBut b o (Nat.ne_of_lt (Heap.lt_size e)) (Heap.get?_push_of_some _ e)
    have hsz' : h'.objs.size = s3.heap.objs.size + 1 := by rw [hs''.1, Heap.size_push]
    generalize hgo : ({ cls := .type "generator", data := .fields #[.int s3.gens.size 0, .str "<genexpr>" (s3.toks + 1), .str (X.env.qual ++ "<genexpr>") (s3.toks + 1 + 1)] } : Obj) = go
    have hgen0 : ∀ h : Heap, h.get? h'.objs.size = some go → h.IsGen h'.objs.size s3.gens.size := fun h e => ⟨go, _, _, e, by rw [← hgo], by rw [← hgo], by rw [← hgo]⟩
    have ngo : ∀ v, go.data ≠ .cell v := fun v z => by
      rw [← hgo] at z
      cases z
    have hpush : (h'.push go).get? h'.objs.size = some go := by
      rw [← hgo]
      exact Heap.get?_push_size _ rfl
    have kp2 : ∀ b o, s3.heap.get? b = some o → (h'.push go).get? b = some o := fun b o e => Heap.get?_push_of_some _ (kp b o e)
    have pg := hg s3 H3 s3.heap.objs.size (cloFrom X.env.cells scope.names []) code fp
    have pt := ht s3 H3 s3.heap.objs.size (cloFrom X.env.cells scope.names []) code fp
    have pe := he s3 H3 s3.heap.objs.size (cloFrom X.env.cells scope.names []) code fp
    have I4 := gen_start (code := code) (tk := s3.toks + 1 + 1 + 1) (h' := h'.push go) (G := s3.gens.push (.fresh (.compStart (.GeneratorExp elt [⟨tg, iter, ifs, 0⟩] scope gpos) 0 (.ref it) .none (genEnv scope (cloFrom X.env.cells scope.names []) s3.heap.objs.size code builtinsNs X.env)))) I3 ok nc hN f3 (hn''.push _) kp2 (AllBare.push I3.bare rfl)
    generalize hce : genEnv scope (cloFrom X.env.cells scope.names []) s3.heap.objs.size code builtinsNs X.env = ce at pg pt pe I4 ⊢
    have cL : ce.locals = s3.heap.objs.size := by subst hce; rfl
    have cS : ce.scope = scope := by subst hce; rfl
    have hgH : H3 h'.objs.size = none := I3.hok.fresh (by rw [hsz']; exact Nat.le_succ _)
    have nfs : h'.objs.size ∉ frs X.stack := fun z => by
      rcases List.mem_cons.mp (I3.stkSub _ z) with z | z
      · have := I3.lt
        rw [← z, hsz'] at this
        exact absurd (Nat.lt_of_succ_lt this) (Nat.lt_irrefl _)
      · exact I3.nofs (by rw [hsz']; exact Nat.le_succ _) z
    have I5 := I4.pins_of (pins' := [(h'.objs.size, go)]) fun p hp => by
      rw [List.mem_singleton.mp hp]
      refine ⟨hpush, hgH, ?_, nfs, ngo⟩
      show h'.objs.size ≠ ce.locals
      rw [cL, hsz']
      exact Nat.succ_ne_self _
    generalize hs5 : ({ s3 with heap := h'.push go, gens := s3.gens.push (.fresh (.compStart (.GeneratorExp elt [⟨tg, iter, ifs, 0⟩] scope gpos) 0 (.ref it) .none ce)), toks := s3.toks + 1 + 1 + 1 } : Shared) = s5 at I5
    have st5 : tn 0 s5.heap := T.keep _ _ _ st3 fun b _ o e => by rw [← hs5]; exact kp2 b o e
    have back : ∀ σ' H' s', Inv (gcx X s3 H3 ce fp) [(h'.objs.size, go)] σ' H' s' → Inv X pins σ H' s' := fun σ' H' s' I6 =>
      I3.call' (ch := fp) I6.os I6.base I6.hok I6.bare fun b hb => ⟨(f3 b hb).1.2.2.2.1, (f3 b hb).1.2.1, (f3 b hb).1.2.2.2.2.1, (f3 b hb).1.2.2.2.2.2⟩
    have hgen : ∀ σ' H' s', Inv (gcx X s3 H3 ce fp) [(h'.objs.size, go)] σ' H' s' → s'.heap.IsGen h'.objs.size s3.gens.size := fun σ' H' s' I6 =>
      hgen0 _ (I6.pin (h'.objs.size, go) (List.mem_append_right _ (List.mem_singleton.mpr rfl))).1
    have hgs : s5.gens[s3.gens.size]? = some (.fresh (.compStart (.GeneratorExp elt [⟨tg, iter, ifs, 0⟩] scope gpos) 0 (.ref it) .none ce)) := by
      rw [← hs5]
      exact Array.getElem?_push_size ..
    have seg : Seg (model X.prog X.w) X.A.in1.in1 (RG (gcx X s3 H3 ce fp) [(h'.objs.size, go)] fun H' => Q (.bl true) H') (YG (gcx X s3 H3 ce fp) [(h'.objs.size, go)] fun H' => Q (.bl false) H') (m0 + 1) (s5.setGen s3.gens.size .running)
        (.compStart (.GeneratorExp elt [⟨tg, iter, ifs, 0⟩] scope gpos) 0 (.ref it) .none ce) ((model X.prog X.w).den (.compStart (.GeneratorExp elt [⟨tg, iter, ifs, 0⟩] scope gpos) 0 (.ref it) .none ce)) [] (s5.setGen s3.gens.size .running) := by
      refine seg_start (i := 0) T st5 ?_
      exact seg_loop (Y := gcx X s3 H3 ce fp) (vs := own.map (·.2)) rfl rfl hc (by show ce.scope.isCoroutine = false; rw [cS]; exact hco) T pg pt pe (fun b hb => hb) rfl (fun p hp hb => by
          rw [List.mem_singleton.mp hp] at hb
          have := (f3 _ hb).2
          have z : h'.objs.size < s3.heap.objs.size := this
          rw [hsz'] at z
          omega) turn m0 (m0 + 1) 0 _ _ H3 (Nat.lt_succ_self _) (inv_gens I5 (allBare_setGen I5.bare rfl)) st5 (fun b hb => (f3 b hb).1.1) w0
    refine Calls.spliced_nil ?_
    refine call_function_tree F.kind_all F.plain_all F.entry_all (F.args_all1 _) ?_
    unfold Builtin.«all»
    refine wpAny_bind (m := oneArg "all" _) (wpAny_pure ?_)
    refine wpAny_bind (wpAny_pyIter_gen (hgen _ _ _ I5) ?_)
    refine wpAny_pure ⟨plainId_quiet F.plain_all_loop _, ?_⟩
    refine all_loop (Y := gcx X s3 H3 ce fp) (T := fun H' => Q (.bl true) H') (F := fun H' => Q (.bl false) H') hr.hd hr.depth hgen (fun σ' H' s' I6 hq => ?_) (fun σ' H' s' I6 hq => ?_) (m0 + 1) s5 (hgen _ _ _ I5) I5.nolimit ⟨_, hgs, rfl, seg⟩
    · exact ⟨.bl true, H', back _ _ _ I6, rfl, hq⟩
    · exact ⟨.bl false, H', back _ _ _ I6, rfl, hq⟩
  cases hf : codeAmong gpos ps.toList with
  | none =>
    refine wpAny_genexprCodeX hcode (cd.code hPs ht2) (cd.tab hPs) hf fun c' h' tk hx hge hlt hco' _ htab' _ => ?_
    have trip := hco'.choose_spec.choose_spec.choose_spec.choose_spec.choose_spec.choose_spec.choose_spec.choose_spec.choose_spec.choose_spec.2.2.2.2.2.2.2.2.2.1
    exact cont _ h' tk _ hx (Nat.le_trans hge (Nat.le_of_lt hlt)) htab'.2 ⟨#[_, _, _], rfl⟩ trip
  | some cv =>
    refine wpAny_genexprCode_hit hcode (cd.code hPs ht2) hf ?_
    exact cont cv s2.heap s2.toks ps (Heap.ExtBut.refl _ _) (Nat.le_refl _) hPs ⟨#[], by simp⟩ ht2
end
end GX

namespace GX
open PySem PySem.Spec PyProof.Rows L2 GenW
/-- all(..) over a walk -/
theorem all_it {J : It} {n : Nat} {G : Hp → Prop} {Y : Nat → Hp → V → Hp → Prop} (w : Walk J n G Y) {g : TG} {tt : TT} {te : TE} {vs : List Nat} {σw : L2.St} {H2 : Hp} {T F : Hp → Prop} (Pv : Nat → Hp → Prop) (h0 : Pv 0 H2) (hG : ∀ i H, i ≤ n → Pv i H → G H)
    (hs : ∀ i x H H', i < n → Pv i H → Y i H x H' → g x σw H' fun σ2 H2 => wipe σ2 vs = σw ∧ tt σ2 H2 fun b H3 => if b = true then te σ2 H3 fun y H4 => ∃ c : Bool, y = .bl c ∧ (c = true → Pv (i + 1) H4) ∧ (c = false → F H4) else Pv (i + 1) H3) (hd : ∀ H, Pv n H → T H) :
    ∃ W : Nat → Nat → Hp → Prop, (∃ m, W 0 m H2) ∧ AllTurn J g tt te vs σw W T F := by
  refine ⟨fun i left H => i + left = n ∧ Pv i H, ⟨n, Nat.zero_add n, h0⟩, fun i left H ⟨sum, pv⟩ => ?_⟩
  have good := hG i H (by omega) pv
  cases left with
  | zero =>
    have last : i = n := sum
    subst last
    exact .inl ⟨w.stops H good, hd H pv⟩
  | succ left =>
    have below : i < n := by omega
    exact .inr ⟨w.goes i H below good, Pv (i + 1), fun H' pv' => ⟨left, Nat.lt_succ_self _, by omega, pv'⟩, fun x H' y => hs i x H H' below pv (w.yields i H x H' below good y)⟩
/-! ### tables -/
def NT (o : HO) : Prop := ∀ q, o ≠ .tbl q
theorem nt_lst {xs : List V} : NT (.lst xs) := fun _ z => by cases z
theorem nt_tup {xs : List V} : NT (.tup xs) := fun _ z => by cases z
theorem nt_dK {xs : List (Key × V)} : NT (.dK xs) := fun _ z => by cases z
theorem nt_frz {o : Obj} {u : HO} : NT (.frz o u) := fun _ z => by cases z
def Tabs (Ps : List Addr) (H : Hp) : Prop := ∀ P ∈ Ps, GxR.TabG H P
/-- all is kept but the tables, which may have grown -/
structure SameN (Ps : List Addr) (H H' : Hp) : Prop where
  k : ∀ x y, NT y → H x = some y → H' x = some y
  q : ∀ x p, H x = some (.tbl p) → ∃ p', H' x = some (.tbl p')
  t : Tabs Ps H'
section
variable {Ps : List Addr} {H H' H1 H2 : Hp}
theorem SameN.refl (t : Tabs Ps H) : SameN Ps H H := ⟨fun _ _ _ e => e, fun _ p e => ⟨p, e⟩, t⟩
theorem SameN.trans (a : SameN Ps H H1) (b : SameN Ps H1 H2) : SameN Ps H H2 := ⟨fun x y n e => b.k x y n (a.k x y n e), fun x p e => let ⟨p', e'⟩ := a.q x p e; b.q x p' e', b.t⟩
theorem Tabs.same (t : Tabs Ps H) (s : Same H H') : Tabs Ps H' := fun P hP => let ⟨ps, e, h⟩ := t P hP; ⟨ps, s _ _ e, h⟩
theorem SameN.of (t : Tabs Ps H) (s : Same H H') : SameN Ps H H' := ⟨fun x y _ e => s x y e, fun x p e => ⟨p, s _ _ e⟩, t.same s⟩
theorem SameN.tab {P : Addr} (t : Tabs Ps H) (hP : P ∈ Ps) (s : GxR.Tabbed P H H') : SameN Ps H H' := by
  obtain ⟨ps, e0, _⟩ := t P hP
  refine ⟨fun x y n e => ?_, fun x p e => ?_, fun P' hP' => ?_⟩
  · rw [s.2 x fun z => by rw [z, e0] at e; exact n ps (Option.some.inj e).symm]
    exact e
  · by_cases z : x = P
    · obtain ⟨ps', e', _⟩ := s.1
      exact ⟨ps', by rw [z]; exact e'⟩
    · exact ⟨p, by rw [s.2 x z]; exact e⟩
  · by_cases z : P' = P
    · rw [z]
      exact s.1
    · obtain ⟨ps', e', h'⟩ := t P' hP'
      exact ⟨ps', by rw [s.2 P' z]; exact e', h'⟩
theorem SameN.free {p : Addr} (s : SameN Ps H H') (h : H' p = none) : H p = none := by
  cases e : H p with
  | none => rfl
  | some o =>
    by_cases z : ∃ q, o = .tbl q
    · obtain ⟨q, rfl⟩ := z
      obtain ⟨q', e'⟩ := s.q p q e
      rw [e'] at h
      cases h
    · rw [s.k p o (fun q y => z ⟨q, y⟩) e] at h
      cases h
theorem SameN.unlock {a : Addr} {u : HO} {o : Obj} (ha : H a = some u) (hu : NT u) (t : Tabs Ps H) (s : SameN Ps (upd H a (.frz o u)) H') : SameN Ps H (upd H' a u) := by
  have hP : ∀ P ∈ Ps, P ≠ a := fun P h z => by
    obtain ⟨ps, e, _⟩ := t P h
    rw [z, ha] at e
    exact hu ps (Option.some.inj e)
  refine ⟨fun x y n e => ?_, fun x p e => ?_, fun P h => ?_⟩
  · by_cases c : x = a
    · subst c
      rw [upd_same, ← ha]
      exact e
    · rw [upd_ne c]
      exact s.k _ _ n (by rw [upd_ne c]; exact e)
  · by_cases c : x = a
    · subst c
      rw [ha] at e
      exact absurd (Option.some.inj e) (hu p)
    · rw [upd_ne c]
      exact s.q _ _ (by rw [upd_ne c]; exact e)
  · obtain ⟨ps, e, h'⟩ := s.t P h
    exact ⟨ps, by rw [upd_ne (hP P h)]; exact e, h'⟩
theorem Tabs.lock {a : Addr} {u : HO} {o : Obj} (ha : H a = some u) (hu : NT u) (t : Tabs Ps H) : Tabs Ps (upd H a (.frz o u)) := fun P h => by
  obtain ⟨ps, e, h'⟩ := t P h
  refine ⟨ps, ?_, h'⟩
  rw [upd_ne fun z => by rw [z, ha] at e; exact hu ps (Option.some.inj e)]
  exact e
end
/-! ### a def whose code object is known -/
structure FunC (K : PySem.W.Frag) (x qual : Str) (st : Stmt) (f : Addr) (fd : FuncData) (c : Addr) : Prop where
  ex : ∃ (oc : Value) (od : Option Addr) (kV doc pm : Value) (an : Option Addr) (ct : Value) (osl : Array (Option Value)),
    fd = PySem.W.fnOf x qual (defArgs st) (defBody st) (defScope st) .none kV doc pm an (.ref c) ct ∧ K.lookup f = some ⟨oc, od, .func fd, osl⟩ ∧ PySem.W.codeIn K (.ref c) qual = true
  kp : PySem.W.keepIn K (.ref f) = true
section
variable {P : Program} {w : World} {K : PySem.W.Frag} {mg : Str → Option Value} {base : Heap}
theorem FunC.ok {x qual : Str} {st : Stmt} {f c : Addr} {fd : FuncData} {N ps : List Str} {k : Nat} {sp : Sp} (F : FunC K x qual st f fd c) (S : FnScope N ps (defScope st)) (len : ∀ vs H Q E, sp vs H Q E → vs.length = ps.length)
    (hbody : ∀ (A : Around) (outer : List Env) (s : Shared) (H : Hp) (vs : List V) (Q : VK) (E : XK), Room k (A.deeper (envOfC qual (defScope st) s.heap.objs.size f (.ref c))) → sp vs H Q E →
      ∃ t, PSs (cxOf CX0 P w K mg base N qual (defScope st) f (.ref c) A outer s H E).nox (defBody st) t ∧ t { nx := fun _ H' => Q .non H', rt := Q } (start N vs) H) : FnOk P w K mg base CX0 (k + 1) f fd ps sp := by
  obtain ⟨oc, od, kV, doc, pm, an, ct, osl, rfl, lk, hcd⟩ := F.ex
  exact fn_of lk hcd S len fun A outer s H vs Q E room said => (hbody A outer s H vs Q E room said).imp fun _ h => ⟨h.1.nox, h.2⟩
theorem FunC.fun {x qual : Str} {st : Stmt} {f c : Addr} {fd : FuncData} (F : FunC K x qual st f fd c) : Fun K x qual st f fd := by
  obtain ⟨oc, od, kV, doc, pm, an, ct, osl, e, lk, hcd⟩ := F.ex
  exact ⟨⟨oc, od, kV, doc, pm, an, _, ct, osl, e, lk, hcd⟩, F.kp⟩
end
/-! ### the end -/
/-- the table of the code object cd is not among what is written -/
def tabFree (K : PySem.W.Frag) (cd : Value) : Bool := match cd with
  | .ref c => (match K.lookup c with
      | some ⟨_, _, .fields vs, _⟩ => (match vs.toList.drop 11 with | .ref P :: _ => (K.lookup P).isNone | _ => false)
      | _ => false)
  | _ => false
/-- the def x's code object at c, its table at P, empty -/
def TabOf (K : PySem.W.Frag) (cd : Value) (h : Heap) (c P : Addr) : Prop := cd = .ref c ∧ h.get? P = some { cls := .none, data := .fields #[] } ∧ K.lookup P = none ∧ PySem.W.CodeHd h c P
def TabsTop (q : Program) (mg : Str → Option Value) (h : Heap) : Prop := ∀ d ∈ recsOf q, ∃ a o fd c P, mg d.name = some (.ref a) ∧ h.get? a = some o ∧ o.data = .func fd ∧ fd.code = .ref c ∧ h.IsCode c P #[] ∧ h.TableAt c P #[]
theorem tabOf {q : Program} {K : PySem.W.Frag} {mg : Str → Option Value} {h : Heap} {x : Str} {f : Addr} {params : Arguments} {body : List Stmt} {scope : Scope} {dV kV doc pm cd ct oc : Value} {an od : Option Addr} {osl : Array (Option Value)} {qual name : Str}
    (X : K.In h) (T : TabsTop q mg h) (hx : ((recsOf q).any fun e => e.name == x) = true) (hm : mg x = some (.ref f)) (lk : K.lookup f = some ⟨oc, od, .func (PySem.W.fnOf name qual params body scope dV kV doc pm an cd ct), osl⟩) (ht : tabFree K cd = true) :
    ∃ c P, TabOf K cd h c P := by
  obtain ⟨dL, hmem, hn1⟩ := List.any_eq_true.mp hx
  have hn2 : dL.name = x := beq_iff_eq.mp hn1
  obtain ⟨a', o', fd', c', P', h1, h2, h3, h4, h5, h6⟩ := T dL hmem
  rw [hn2, hm] at h1
  cases h1
  have g1 := X _ _ lk
  rw [g1] at h2
  cases h2
  have h3' : Data.func (PySem.W.fnOf name qual params body scope dV kV doc pm an cd ct) = .func fd' := h3
  cases h3'
  have h4' : cd = .ref c' := h4
  subst h4'
  refine ⟨c', P', rfl, h6.2, ?_, .of h5 h6⟩
  obtain ⟨⟨oc', vc, e1, _, e3, e4⟩, _⟩ := h6
  unfold tabFree at ht
  dsimp only at ht
  split at ht
  · rename_i vs sl hk
    have g2 := X _ _ hk
    rw [g2] at e1
    cases e1
    have e3' : Data.fields vs = .fields vc := e3
    cases e3'
    split at ht
    · rename_i P2 r hd
      have e5 : vc.toList[11]? = some (.ref P2) := by
        have : (vc.toList.drop 11)[0]? = some (.ref P2) := by rw [hd]; rfl
        rw [List.getElem?_drop] at this
        exact this
      rw [Array.getElem?_toList, e4] at e5
      cases e5
      exact Option.isNone_iff_eq_none.mp ht
    · cases ht
  · cases ht
theorem walk_ofTabs {l : PySem.W.OpenLaw} {n k : Nat} {q : Program} {loose : List Str} {XP : (Str → Option Value) → Heap → Prop} {YP : World → Heap → Prop} {d : DefRec} {K : Params → PySem.W.Frag} {CX : World → CXT} {x : Str}
    (most : l.most = some n) (small : n ≤ sizeLine) (plain : d.params.defaults = []) (room : Room k callerA) (hY : ∀ (w : World) (h : Heap), YP w h → (K w.params).In h)
    (F : ∀ (w : World) (mg : Str → Option Value) (fa : Addr) (h : Heap), (K w.params).In h → h.Ns mainGlobals mg → mg d.name = some (.ref fa) → TabsTop q mg h → LamX.LawAtS l w (K w.params) (CX w) k n x mg fa h)
    (calm : ∀ (w : World) (H : Hp) (s : Shared) (x : Value) (s' : Shared), CX w [] H s (fun _ _ _ => False) x s' → False) : PySem.W.WalkO q loose XP YP l.row.toRowW d [] (fun f vs => PySem.call f vs) := by
  refine Att.attach_callB most plain fun w _ s₁ mg _ fa _ _ _ _ a _ ns G Y _ _ _ hmg lstAt intsAt lenAt' bitsAt gensAt => ?_
  have KX := hY w _ Y
  obtain ⟨fd, cs, sp, hT, nT, C, hb, hsp, hF⟩ := F w mg fa _ KX G.T.g hmg G.T.tab
  exact LamX.law_callTs KX G.T.g G.T.b G.T.builtins G.T.nolimit gensAt hT nT C G.T.bmain lstAt intsAt (Nat.le_trans lenAt' small) room hF hb (fun H tabs sq => hsp H a ns lenAt' bitsAt tabs sq) fun H x s' => calm w H s₁ x s'
theorem tabB_of {base : Heap} {mg : Str → Option Value} {c P : Addr} (t : LamX.TabB base mg c P) : GxR.TabB base mg c P := ⟨t.code, t.bm, t.gP⟩
end GX

/-! {elt for target in iter if ..}, elt an int or a text; len of such a set -/
namespace GX
open PySem PySem.Spec PyProof.Rows L2 GenW
/-- what a turn wants -/
def ScTurn (P : Program) (w : World) (J : It) (g : TG) (tt : TT) (te : TE) (vs : List Nat) (σw : L2.St) (D : Addr) (W : Nat → Nat → Hp → Prop) (T : Hp → Prop) : Prop :=
  ∀ i m H, W i m H → (J.stop i H ∧ T H) ∨ (J.go i H ∧ ∃ Nx : Hp → Prop, (∀ H', Nx H' → ∃ m', m' < m ∧ W (i + 1) m' H') ∧ ∀ x H', J.yld i H x H' → g x σw H' fun σ2 H2 => wipe σ2 vs = σw ∧ tt σ2 H2 fun b H3 =>
    if b = true then te σ2 H3 fun y H4 => ∃ (k : Key) (S : Key → Bool) (n : Nat), y = kV k ∧ H4 D = some (SetK P w D S n) ∧ n + 1 < scanBound ∧ Nx (upd H4 D (SetK P w D (fun j => S j || decide (j = k)) (if S k = true then n else n + 1))) else Nx H3)
def tScK (P : Program) (w : World) (wi : TI) (g : TG) (tt : TT) (te : TE) (vs : List Nat) : TE := fun σ H Q => wi σ H fun J H1 => ∀ D, H1 D = none →
  ∃ W : Nat → Nat → Hp → Prop, (∃ m, W 0 m (upd H1 D (SetK P w D (fun _ => false) 0))) ∧ ScTurn P w J g tt te vs (wipe σ vs) D W fun H' => Q (.ref D) H'
section
variable {X : Cx}
theorem pe_scK {P : Program} {w : World} {elt tg iter : Expr} {ifs : List Expr} {scope : Scope} {own : List (PySem.Str × Nat)} {pos : Pos} {wi : TI} {g : TG} {tt : TT} {te : TE} (eP : X.prog = P) (ew : X.w = w) (calm : X.calm = true) (nd : X.N.Nodup) (hi : PI X tg iter wi) (blk : BlkOk X.N X.env.scope scope own)
    (hg : ∀ (s : Shared) (H : Hp) (C : Addr) (cl : List (PySem.Str × Addr)) (fp : List Addr), PG (X.blk s H scope (compEnvC scope cl C X.env) fp) tg g) (ht : ∀ (s : Shared) (H : Hp) (C : Addr) (cl : List (PySem.Str × Addr)) (fp : List Addr), PTs (X.blk s H scope (compEnvC scope cl C X.env) fp) ifs tt)
    (he : ∀ (s : Shared) (H : Hp) (C : Addr) (cl : List (PySem.Str × Addr)) (fp : List Addr), PE (X.blk s H scope (compEnvC scope cl C X.env) fp) elt te) (fold : ∀ v, foldedSetIterable iter X.env v = pure v := by intro _; rfl) :
    PE X (.SetComp elt [⟨tg, iter, ifs, 0⟩] scope pos) (tScK P w wi g tt te (own.map (·.2))) := by
  subst eP ew
  refine ⟨fun pins s σ H Q J h => ?_⟩
  rw [PpSet.eval_SetComp]
  have caught : ∀ n ∈ scope.names, n.2 = .free → ∃ c, X.env.cells.lookup n.1 = some c := fun n hn hf => J.ok.has _ ((blk.free n hn hf).elim .inl .inr)
  refine wpAny_comprehension_free (use := none) rfl fold (closure_ok caught) blk.kind (fun n hn q => by rw [blk.uniq n hn, q]) (thn (hi.run pins s σ H _ J h) fun xv sA hx => thn hx fun itv sB hB => ?_)
  obtain ⟨it, fp, tn, Jt, HB, rfl, JB, Tn, stB, fB, want⟩ := hB
  refine PpSet.newSet_ok (newEnv_comp ?_)
  generalize eD : sB.heap.objs.size = D
  obtain ⟨W, ⟨m0, w0⟩, turn⟩ := want D (JB.hok.fresh (Nat.le_of_eq eD))
  -- the new set
  generalize eo : ({ cls := .type "set", dict := none, data := .set #[] 0 (.fresh 0 0 (!X.w.params.followText "set-order")) } : Obj) = o
  have fits : (sB.heap.push o).SetOf (mixKind X.prog X.w) sB.heap.objs.size (fun _ => false) 0 := by
    subst eo
    exact ⟨_, #[], 0, _, Heap.get?_push_size _ rfl, ⟨rfl, rfl, rfl⟩, rfl, (fun _ z => absurd z (by simp)), (fun k => by simp), (by decide), (by rfl), rfl⟩
  have JC : Inv X pins σ (upd HB D (SetK X.prog X.w D (fun _ => false) 0)) { sB with heap := sB.heap.push o } := by
    refine JB.laid (t' := sB.toks) (fun p u q => Heap.get?_push_of_some _ q) (Nat.le_of_eq eD) ?_
    rw [← eD]
    exact setK_new fits
  have ltB : ∀ p ∈ fp, p < sB.heap.objs.size := fun p hp => (Tn.obj _ _ stB p hp).elim fun _ q => Heap.lt_size q.1
  have fC : ∀ p ∈ fp, FpOk X pins (upd HB D (SetK X.prog X.w D (fun _ => false) 0)) p ∧ p < (sB.heap.push o).objs.size := fun p hp => by
    refine ⟨⟨?_, (fB p hp).2⟩, by rw [Heap.size_push]; exact Nat.lt_succ_of_lt (ltB p hp)⟩
    rw [upd_ne (by rw [← eD]; exact Nat.ne_of_lt (ltB p hp))]
    exact (fB p hp).1
  have stC : tn 0 (sB.heap.push o) := Tn.keep _ _ _ stB fun p _ u q => Heap.get?_push_of_some _ q
  generalize eHC : upd HB D (SetK X.prog X.w D (fun _ => false) 0) = HC at JC fC w0
  generalize esC : ({ sB with heap := sB.heap.push o } : Shared) = sC at JC
  have hpC : sB.heap.push o = sC.heap := by rw [← esC]
  rw [hpC] at fC stC
  have JD := block_start JC blk nd fC
  have pg := hg sC HC sC.heap.objs.size (cellsFrom (sC.heap.objs.size + 1) scope.names (cloFrom X.env.cells scope.names [])) fp
  have pt := ht sC HC sC.heap.objs.size (cellsFrom (sC.heap.objs.size + 1) scope.names (cloFrom X.env.cells scope.names [])) fp
  have pe := he sC HC sC.heap.objs.size (cellsFrom (sC.heap.objs.size + 1) scope.names (cloFrom X.env.cells scope.names [])) fp
  show codeAny _ _ (.compStart (.SetComp elt [⟨tg, iter, ifs, 0⟩] scope pos) 0 (.ref it) (.ref D) (compEnvC scope (cellsFrom (sC.heap.objs.size + 1) scope.names (cloFrom X.env.cells scope.names [])) sC.heap.objs.size X.env)) (compPost (model X.prog X.w) X.A X.xe none (EP X pins σ Q) (.ref D) sC.heap.objs.size) { sC with heap := pushCells (sC.heap.push { cls := .type "dict", data := .dict #[] }) scope.names }
  generalize ece : compEnvC scope (cellsFrom (sC.heap.objs.size + 1) scope.names (cloFrom X.env.cells scope.names [])) sC.heap.objs.size X.env = ce at JD pg pt pe ⊢
  have ceL : ce.locals = sC.heap.objs.size := ece ▸ rfl
  generalize esD : ({ sC with heap := pushCells (sC.heap.push { cls := .type "dict", data := .dict #[] }) scope.names } : Shared) = sD at JD ⊢
  have stD : tn 0 sD.heap := Tn.keep _ _ _ stC fun p _ u q => by rw [← esD]; exact pushCells_keeps _ _ _ _ (Heap.get?_push_of_some _ q)
  have own' : ∀ {σ' : L2.St} {H' : Hp} {s' : Shared}, Inv (X.blk sC HC scope ce fp) [] σ' H' s' → (∀ p ∈ fp, H' p = none) → ∀ p ∈ fp, FpOk (X.blk sC HC scope ce fp) [] H' p := fun {σ' H' s'} K' hn p hp =>
    ⟨hn p hp, (K'.ok.exf p hp).1, K'.ok.exfs p hp, .inl hp, fun n c q => (K'.ok.exf p hp).2 n c q, fun _ z => absurd z List.not_mem_nil⟩
  have loop : codeAny (model X.prog X.w) X.A (.compLoop (.SetComp elt [⟨tg, iter, ifs, 0⟩] scope pos) 0 (.ref it) (.ref D) ce) (compPost (model X.prog X.w) X.A X.xe none (EP X pins σ Q) (.ref D) sC.heap.objs.size) sD := by
    refine PpSet.compLoopS_any (fun n s' => ∃ i H', Inv (X.blk sC HC scope ce fp) [] (wipe σ (own.map (·.2))) H' s' ∧ tn i s'.heap ∧ (∀ p ∈ fp, H' p = none) ∧ W i n H') (fun n s5 ⟨i, H5, J5, st5, n5, w5⟩ => ?_) m0 ⟨0, HC, JD, stD, fun p hp => (fC p hp).1.1, w0⟩
    rcases turn i n H5 w5 with ⟨stop, said⟩ | ⟨go, Nx, less, step⟩
    · refine thnF (Tn.done (X.blk sC HC scope ce fp) rfl rfl rfl calm i [] s5 _ H5 (fun _ _ => False) J5 (own' J5 n5) st5 stop) fun r s6 ⟨er, J6⟩ => ?_
      subst er
      have J7 : Inv X pins σ H5 s6 := JC.call' (ch := fp) J6.os J6.base J6.hok J6.bare fun p hp => ⟨(fC p hp).1.2.2.2.1, (fC p hp).1.2.1, (fC p hp).1.2.2.2.2.1, (fC p hp).1.2.2.2.2.2⟩
      have nC : H5 sC.heap.objs.size = none := ceL ▸ (show H5 ce.locals = none from J6.free)
      obtain ⟨mm, ns, _⟩ := J6.loc
      have ns' : s6.heap.Ns sC.heap.objs.size mm := ceL ▸ (show s6.heap.Ns ce.locals mm from ns)
      obtain ⟨a0, a1, _, a3, a4, a5⟩ := JC.fpOk (Nat.le_refl _) nC
      exact ⟨mm, ns', fun h7 sb => ⟨.ref D, H5, J7.turned (t' := s6.toks) (fun p u hp q => (sb.2 p hp).trans q) a0 a1 a3 a4 a5, rfl, said⟩⟩
    · refine thnF (Tn.item (X.blk sC HC scope ce fp) rfl rfl rfl calm i [] s5 _ H5 (fun _ _ => False) J5 (own' J5 n5) st5 go) fun r s6 ⟨u, er, h6⟩ => ?_
      subst er
      refine thnF h6 fun _ s7 ⟨x, H7, J7, r7, y7, st7, n7⟩ => ?_
      refine thnF (pg.run _ s7 _ H7 x u _ (J7.pinned (own' J7 n7) (Tn.obj _ _ st7)) r7 (step x H7 y7)) fun _ s8 ⟨σ8, H8, J8, hw, q8⟩ => ?_
      refine thnF (pt.run _ s8 σ8 H8 _ J8 q8) fun b s9 ⟨H9, J9, q9⟩ => ?_
      have fin : ∀ {s' : Shared} {H' : Hp}, Inv (X.blk sC HC scope ce fp) ([] ++ pinsAt fp s7.heap) σ8 H' s' → Nx H' → ∃ m, m < n ∧ ∃ i H', Inv (X.blk sC HC scope ce fp) [] (wipe σ (own.map (·.2))) H' s' ∧ tn i s'.heap ∧ (∀ p ∈ fp, H' p = none) ∧ W i m H' := fun {s' H'} K' nx => by
        obtain ⟨m', lt, w'⟩ := less H' nx
        have held : ∀ p ∈ fp, ∀ u, s7.heap.get? p = some u → s'.heap.get? p = some u ∧ H' p = none := fun p hp u q =>
          (K'.pin (p, u) (List.mem_append_right _ (List.mem_append_right _ (mem_pinsAt hp q)))).imp id And.left
        have len : (wipe σ (own.map (·.2))).length = σ8.length := by rw [← hw, wipe_length]
        refine ⟨m', lt, i + 1, H', (K'.unpinned (pins := [])).weak len (fun j v q => ?_), Tn.keep _ _ _ st7 fun p hp u q => (held p hp u q).1, fun p hp => ?_, w'⟩
        · rw [← hw] at q
          exact (wipe_some q).1
        · obtain ⟨u, q, _⟩ := Tn.obj _ _ st7 p hp
          exact (held p hp u q).2
      cases b with
      | false =>
        simp only [Bool.false_eq_true, if_false] at q9 ⊢
        exact fin J9 q9
      | true =>
        simp only [if_true] at q9 ⊢
        refine thnF (pe.run _ s9 σ8 H9 _ J9 q9) fun z s10 ⟨yv, H10, J10, r10, k, S, c, ey, hD, room, nx⟩ => ?_
        subst ey
        refine thnF (mt_saddK (X := X.blk sC HC scope ce fp) _ s10 σ8 H10 (.ref D) [kV k] (.ref D) [z] (fun _ H11 => Nx H11) J10 rfl (.cons r10 .nil) ⟨D, k, S, c, rfl, rfl, hD, room, nx⟩) fun _ s11 ⟨_, H11, J11, _, nx11⟩ => fin J11 nx11
  exact PpSet.codeAny_compStart_set loop (Tn.self X.A 0 _ _ _ stD loop)
/-- len of such a set -/
theorem call_lenK {P : Program} {w : World} (eP : X.prog = P) (ew : X.w = w) : CallR X (.builtin "len") (fun xs H Q => ∃ D S n, xs = [.ref D] ∧ H D = some (SetK P w D S n) ∧ Q (.int (n : Nat)) H) := by
  subst eP ew
  intro pins s σ H xs us Q J r h
  obtain ⟨D, S, n, rfl, hD, q⟩ := h
  obtain ⟨u, rfl, rx⟩ := vals1 r
  cases rx
  obtain ⟨o, es, ep, t, ho, ex, hd, _, _, small, fits, sz⟩ := setK_get J hD
  refine call_len_set ho ex hd fits (by have : es.size < 4096 := small; omega) ?_
  exact ⟨.int (n : Nat), H, J.tok _, ⟨_, by rw [sz]⟩, q⟩
end
/-- such a comprehension over a walk -/
theorem sc_itK {P : Program} {w : World} {J : It} {n : Nat} {G : Hp → Prop} {Y : Nat → Hp → V → Hp → Prop} (wk : Walk J n G Y) {g : TG} {tt : TT} {te : TE} {vs : List Nat} {σw : L2.St} {D : Addr} {H1 : Hp} {T : Hp → Prop} (Pv : Nat → Hp → Prop) (h0 : Pv 0 (upd H1 D (SetK P w D (fun _ => false) 0))) (hG : ∀ i H, i ≤ n → Pv i H → G H)
    (hs : ∀ i x H H', i < n → Pv i H → Y i H x H' → g x σw H' fun σ2 H2 => wipe σ2 vs = σw ∧ tt σ2 H2 fun b H3 => if b = true then te σ2 H3 fun y H4 => ∃ (k : Key) (S : Key → Bool) (c : Nat), y = kV k ∧ H4 D = some (SetK P w D S c) ∧ c + 1 < scanBound ∧ Pv (i + 1) (upd H4 D (SetK P w D (fun j => S j || decide (j = k)) (if S k = true then c else c + 1))) else Pv (i + 1) H3) (hd : ∀ H, Pv n H → T H) :
    ∃ W : Nat → Nat → Hp → Prop, (∃ m, W 0 m (upd H1 D (SetK P w D (fun _ => false) 0))) ∧ ScTurn P w J g tt te vs σw D W T := by
  refine ⟨fun i left H => i + left = n ∧ Pv i H, ⟨n, Nat.zero_add n, h0⟩, fun i left H ⟨sum, pv⟩ => ?_⟩
  have good := hG i H (by omega) pv
  cases left with
  | zero =>
    have last : i = n := sum
    subst last
    exact .inl ⟨wk.stops H good, hd H pv⟩
  | succ left =>
    have below : i < n := by omega
    exact .inr ⟨wk.goes i H below good, Pv (i + 1), fun H' pv' => ⟨left, Nat.lt_succ_self _, by omega, pv'⟩, fun x H' y => hs i x H H' below pv (wk.yields i H x H' below good y)⟩
end GX

/-! rules of my own over the hand layer -/
namespace PySem.SeqAt
open AutoSeq1 (wpAny_loadPart')
open MeetsSeq MeetsSeq2 MeetsSeq3 SeqRoads2
section
variable {prog : Program} {w : World}
theorem my_neLoop (l b : Addr) (us vs : Array Value) (n m : Nat) (du dv : Option Addr) (su sv : Array (Option Value)) (hz : us.size = vs.size) (k : Nat) : ∀ i : Nat, us.size - i = k →
    MeetsIn prog w (Builtin.«list.__eq__.loop» ⟨[.ref l, .ref b, rawInt i, rawInt 3], []⟩) (fun A R s =>
      s.heap.get? l = some { cls := .type "list", dict := du, data := .seq us n, slots := su } ∧ s.heap.get? b = some { cls := .type "list", dict := dv, data := .seq vs m, slots := sv } ∧
      (∀ j (p : j < us.size) (q : j < vs.size), EqP prog w A.in1 s us[j] vs[j] true) ∧ R (.ok (.ret (.bool false))) s) := by
  induction k with
  | zero =>
    intro i hk A R s h
    obtain ⟨hp, g, d, tk, os⟩ := s
    obtain ⟨hl, hb, he, h⟩ := h
    wp_walk using wpAny_loadPart' hl, wpAny_loadPart' hb
    have e1 : us[((i : Nat) : Int).toNat]? = none := by simp; omega
    have e2 : vs[((i : Nat) : Int).toNat]? = none := by simp; omega
    rw [e1, e2]
    wp_walk using wpAny_loadPart' hl, wpAny_loadPart' hb
    show R (.ok (.ret (.bool (us.size != vs.size)))) _
    rw [hz]
    simpa using h
  | succ k ih =>
    intro i hk A R s h
    obtain ⟨hp, g, d, tk, os⟩ := s
    obtain ⟨hl, hb, he, h⟩ := h
    wp_walk using wpAny_loadPart' hl, wpAny_loadPart' hb
    have p1 : i < us.size := by omega
    have p2 : i < vs.size := by omega
    have e1 : us[((i : Nat) : Int).toNat]? = some us[i] := by simp [p1]
    have e2 : vs[((i : Nat) : Int).toNat]? = some vs[i] := by simp [p2]
    have ec : ((i : Int) + 1) = ((i + 1 : Nat) : Int) := by push_cast; rfl
    rw [e1, e2]
    refine wpAny_bind (he i p1 p2 _ _ ?_)
    wp_walk
    rw [ec]
    exact ⟨plainId_quiet plain_eq_loop _, codeAny_builtin entry_eq_loop (by
      rw [Around.under_plainId plain_eq_loop _]
      exact ih (i + 1) (by omega) A R _ ⟨hl, hb, he, h⟩)⟩
theorem my_listNe (l b : Addr) (us vs : Array Value) (n m : Nat) (du dv : Option Addr) (su sv : Array (Option Value)) (hz : us.size = vs.size) :
    MeetsIn prog w (Builtin.«list.__ne__» ⟨[.ref l, .ref b], []⟩) (fun A R s =>
      s.heap.get? l = some { cls := .type "list", dict := du, data := .seq us n, slots := su } ∧ s.heap.get? b = some { cls := .type "list", dict := dv, data := .seq vs m, slots := sv } ∧
      (∀ j (p : j < us.size) (q : j < vs.size), EqP prog w A.in1 s us[j] vs[j] true) ∧ R (.ok (.ret (.bool false))) s) := by
  intro A R s h
  obtain ⟨hp, g, d, tk, os⟩ := s
  obtain ⟨hl, hb, he, h⟩ := h
  have f3 := AutoSeq1.sub_list_list
  have hn : ¬ (us.size != vs.size) = true := by simp [hz]
  wp_walk using wpAny_loadPart' hl, wpAny_loadPart' hb
  exact ⟨plainId_quiet plain_eq_loop _, codeAny_builtin entry_eq_loop (by
    rw [Around.under_plainId plain_eq_loop _]
    exact my_neLoop l b us vs n m du dv su sv hz _ 0 rfl A R _ ⟨hl, hb, he, h⟩)⟩
theorem my_rcNe {A : Around} {s : Shared} {l b : Addr} {us vs : Array Value} (hl : s.heap.IsList l us) (hb : s.heap.IsList b vs) (hz : us.size = vs.size) (hu : A.units < cLine)
    (he : ∀ j (p : j < us.size) (q : j < vs.size), EqP prog w A.in1 s us[j] vs[j] true) (E Q : Value → Shared → Prop) (h : Q (.bool false) s) : wpAny (model prog w) A (richCompare .NotEq (.ref l) (.ref b)) Q E s := by
  obtain ⟨⟨c1, du, x1, su⟩, ho, hc, n, hd⟩ := id hl
  obtain ⟨⟨c2, dv, x2, sv⟩, ho2, hc2, m, hd2⟩ := id hb
  simp only at hc hd hc2 hd2
  subst hc hd hc2 hd2
  have ta : s.TypeIs (.ref l) "list" := ⟨_, ho, rfl⟩
  have tb : s.TypeIs (.ref b) "list" := ⟨_, ho2, rfl⟩
  exact wpAny_richCompare_same_room (op := .NotEq) ta tb F.slot_list_ne (call_meetsIn F.slot_list_ne ta F.entry_list_ne (F.args_list_ne_2 _ _) (my_listNe l b us vs n m du dv su sv hz)
    ⟨ho, ho2, he, show Value.bool false ≠ Value.notImplemented ∧ Q (.bool false) s from ⟨(fun x => nomatch x), h⟩⟩) hu
end
end PySem.SeqAt
namespace BR
open PySem PySem.Spec PyProof.Rows L2
section
variable {X : Cx}
/-- two lists that are equal to the bottom: a != b is False -/
def rNeV (K : PySem.W.Frag) : R2 := fun x y H Q => ∃ a b xs ys n, x = .ref a ∧ y = .ref b ∧ SqL K H a xs ∧ SqL K H b ys ∧ n ≤ 60 ∧ Paired (EqV K H n) xs ys ∧ Q (.bl false) H
theorem op_neV (hu : X.A.units + 64 < cLine) : OpR X (compareOp .NotEq) (rNeV X.K) := by
  intro pins s σ H x y v u Q I rx ry h
  obtain ⟨a, b, xs, ys, n, rfl, rfl, ha, hb, hn, hp, q⟩ := h
  cases (show v = Value.ref a from rx)
  cases (show u = Value.ref b from ry)
  obtain ⟨us, r1, p1, _⟩ := I.list ha
  obtain ⟨ws, r2, p2, _⟩ := I.list hb
  have hz : us.toArray.size = ws.toArray.size := by
    rw [List.size_toArray, List.size_toArray, ← r1.length, ← r2.length]
    exact Paired.length hp
  refine SeqAt.my_rcNe p1.isList p2.isList hz (by omega) (fun j h1 h2 => ?_) _ _ ⟨.bl false, H, I, rfl, q⟩
  have k := items_run (eqV_run I n X.A.in1 (by show X.A.units + 1 + n < cLine; omega)) hp r1 r2 j (by simpa using h1) (by simpa using h2)
  simpa using k
/-! *d in a display: the keys of a dict -/
theorem star_dK {pins : List (Addr × Obj)} {σ : L2.St} {H : Hp} {s : Shared} {p : Addr} {kvs : List (Key × V)} {E : Value → Shared → Prop} {Q : List Value → Shared → Prop} (hc : X.calm = true) (I : Inv X pins σ H s) (hk : H p = some (.dK kvs))
    (hQ : ∀ us s', Inv X pins σ H s' → Vals (kvs.map fun kv => kV kv.1) us → Q us s') : PySem.W.StarOf (model X.prog X.w) X.A E (.ref p) Q s := by
  obtain ⟨z, lo, vs, rk, hd⟩ := (show ObjOk X.prog X.w H s.heap p (.dK kvs) from I.hok p _ hk)
  obtain ⟨ep, hat⟩ := hd.dictAt
  have hl : kvs.length = vs.length := Paired.length rk
  have hT : s.TypeIs (.ref p) "dict" := hd.typeIs
  have zz : wpAny (model X.prog X.w) X.A (collect (.ref p)) Q E s := by
    refine PySem.W.kdu_collect (PySem.W.kdl_dict (knd := mixKind X.prog X.w) (kvs := vs) (ep := ep) lo) (I.ok.hd hc) hat (by rw [← hl]; exact z) fun h' tk acc hkeep hacc => ?_
    refine hQ acc.toList _ (I.kept (t' := tk) hkeep) ?_
    have el : acc.toList.length = acc.size := by simp
    refine vals_of_at (by rw [List.length_map, el, hacc.1, hl]) fun j x w h1 h2 => ?_
    obtain ⟨k, y, hky, hi⟩ := hacc.2 j w (by rw [← Array.getElem?_toList]; exact h2)
    have e1 : (kvs.map (·.1))[j]? = some k := by
      rw [KV.keys rk, List.getElem?_map, hky] <;> rfl
    have e2 : (kvs.map fun kv => kV kv.1)[j]? = some (kV k) := by
      have e3 : (kvs.map fun kv => kV kv.1) = (kvs.map (·.1)).map kV := by rw [List.map_map] <;> rfl
      rw [e3, List.getElem?_map, e1] <;> rfl
    rw [e2] at h1
    cases h1
    exact keyIs_rel hi
  unfold PySem.W.StarOf notIterableAtAll
  exact wpAny_bind (wpAny_specialOf hT PySem.F.slot_dict_iter.lookup (wpAny_pure ⟨rfl, zz⟩))
def tStarD (te : TE) (t : TA) : TA := fun σ H Q => te σ H fun x H1 => ∃ p kvs, x = V.ref p ∧ H1 p = some (.dK kvs) ∧ t σ H1 fun ys H2 => Q ((kvs.map fun kv => kV kv.1) ++ ys) H2
theorem pa_starD {e : Expr} {es : List Expr} {te : TE} {t : TA} {p : Pos} (hc : X.calm = true) (he : PE X e te) (hr : PA X es t) (hs : starEach (.Starred e p :: es) X.env = (true, eval e X.env) :: starEach es X.env := by rfl) : PA X (.Starred e p :: es) (tStarD te t) := by
  refine ⟨fun pos pins s σ H Q I h => ?_⟩
  refine PySem.W.items_star (thn (he.run pins s σ H _ I h) fun v s1 ⟨y, H1, I1, ry, a, kvs, ey, hx, q⟩ => ?_) hs
  subst ey
  obtain rfl : v = Value.ref a := ry
  refine star_dK hc I1 hx fun us s2 I2 rv => ?_
  exact thn (hr.run pos pins s2 σ H1 _ I2 q) fun ws s3 ⟨vs, H3, I3, r3, q3⟩ => ⟨_ ++ vs, H3, I3, rv.append r3, q3⟩
/-! rules whose reading names the written part, said with a letter for it (for the block of a comprehension) -/
theorem call_listK {K : PySem.W.Frag} (e : X.K = K) : CallR X (.type "list") (fun xs H Q => ∃ p ys, xs = [.ref p] ∧ (SqL K H p ys ∨ SqT K H p ys) ∧ ∀ l, H l = none → Q (.ref l) (upd H l (.lst ys))) := by
  subst e
  exact call_list_of
theorem op_inK {K : PySem.W.Frag} (e : X.K = K) : OpR X (compareOp .In) (rIn K false) := by
  subst e
  exact op_in_seq
theorem pt_truthK {K : PySem.W.Frag} {a : Expr} {ta : TE} (e : X.K = K) (ha : PE X a ta) (he : ∀ whole, isTrue a X.env whole = (do let v ← whole; standAt a.pos; holding [v] (truthy v))) :
    PT X a (fun σ H Q => ta σ H fun x H' => ∃ k, TruV K x H' k ∧ Q k H') := by
  subst e
  exact pt_truth ha he
theorem call_isiX {K : PySem.W.Frag} (e : X.K = K) : CallR X (.builtin "isinstance") (rIsi K) := by
  subst e
  exact call_isi
theorem pe_bmK {K : PySem.W.Frag} {o e : Expr} {es : List Expr} {to : TE} {t : TA} {name : Str} {apos cpos : Pos} {T id : String} {r : V → List V → Hp → VK → Prop} (eK : X.K = K)
    (pa : PlainAttrs T) (slot : Slot T name id) (hty : typeOf (.builtin id) = pure (.type "method_descriptor")) (hm : MtR X id r) (ho : PE X o to) (ha : PA X (e :: es) t)
    (h1 : attributeBase o name X.env (eval o X.env) = eval o X.env := by rfl)
    (h2 : ((backTo cpos (starEach (e :: es) X.env)).all (fun x => !x.1) && (backToKw cpos (keywordEach [] X.env)).all (fun x => x.1.isSome) && decide ((e :: es).length + ([] : List Keyword).length + (if ([] : List Keyword).isEmpty then 0 else 1) < 30)) = true := by rfl)
    (h3 : (apos.endLine == cpos.line) = true := by rfl) (h4 : starEach (e :: es) X.env = (false, eval e X.env) :: starEach es X.env := by rfl) (h5 : (backTo cpos (starEach es X.env)).any (·.1) = false := by rfl) :
    PE X (.Call (.Attribute o name apos) (e :: es) [] cpos) (tBM K T r to t) := by
  subst eK
  exact pe_bm pa slot hty hm ho ha h1 h2 h3 h4 h5
/-! list.count of a text in a list of texts -/
def eqsT (z : Str) : Value → Bool
  | .str y _ => y == z
  | _ => false
theorem eqsT_count {z : Str} : ∀ {ss : List Str} {us : List Value}, Vals (ss.map V.str) us → us.countP (eqsT z) = ss.count z
  | [], _, r => by cases r; rfl
  | y :: ss, _, r => by
    cases r with
    | cons h t =>
      obtain ⟨k, rfl⟩ := h
      rw [List.countP_cons, List.count_cons, eqsT_count t]
      rfl
theorem eqsT_at {A : Around} {s : Shared} {z : Str} {t : Tok} : ∀ {ss : List Str} {us : List Value}, Vals (ss.map V.str) us → ∀ y ∈ us, SeqAt.EqAt A s y (.str z t) (eqsT z y)
  | [], _, r, y, hy => by cases r; cases hy
  | x :: ss, _, r, y, hy => by
    cases r with
    | cons h q =>
      obtain ⟨k, rfl⟩ := h
      rcases List.mem_cons.mp hy with rfl | e
      · exact SeqAt.EqAt.str_str _ _ _ _
      · exact eqsT_at q y e
theorem mt_countS : MtR X "list.count" (fun x vs H Q => ∃ (p : Addr) (ss : List Str) (z : Str), x = .ref p ∧ vs = [.str z] ∧ SqL X.K H p (ss.map V.str) ∧ Q (.int (ss.count z : Nat)) H) := by
  intro pins s σ H x xs v us Q I rx rxs h
  obtain ⟨p, ss, z, rfl, rfl, hs, q⟩ := h
  cases rx
  obtain ⟨u, rfl, ru⟩ := rxs.one
  obtain ⟨t, rfl⟩ := ru
  obtain ⟨its, rv, ⟨⟨c1, dd, x1, sl⟩, n, ho, hc, hdn, hd⟩, hlen⟩ := I.list hs
  simp only at hc hd
  subst hc hd
  refine call_meets PySem.F.slot_list_count ⟨_, ho, rfl⟩ PySem.F.entry_list_count (PySem.F.args_list_count_2 _ _)
    (SeqAt.list_countAt p its.toArray n dd sl (.str z t) (eqsT z)) ⟨ho, fun y hy => eqsT_at rv y (by simpa using hy), ?_⟩
  have ec : its.toArray.toList.countP (eqsT z) = ss.count z := eqsT_count rv
  refine ⟨.int (ss.count z : Nat), H, I.tok _, ⟨s.toks, ?_⟩, q⟩
  show Value.int ((its.toArray.toList.countP (eqsT z) : Nat) : Int) s.toks = Value.int ((ss.count z : Nat) : Int) s.toks
  rw [ec]
theorem mt_countK {K : PySem.W.Frag} (e : X.K = K) : MtR X "list.count" (fun x vs H Q => ∃ (p : Addr) (ss : List Str) (z : Str), x = .ref p ∧ vs = [.str z] ∧ SqL K H p (ss.map V.str) ∧ Q (.int (ss.count z : Nat)) H) := by
  subst e
  exact mt_countS
end
end BR

/-! list(reversed(a list)) -/
namespace RT
open PySem PySem.Spec PyProof.Rows
section
variable {prog : Program} {w : World} {A : Around} {E : Value → Shared → Prop} {s : Shared}
theorem my_extend {it l S : Addr} {its : Array Value} {c₀ : Nat} {R : Result → Shared → Prop} (hh : A.handled = none) (hit : s.heap.IsRevIter it l ((its.size : Int) - 1)) (hl : s.heap.IsList l its) (hne : l ≠ it) (hn : its.size ≤ sizeLine)
    (hSi : S ≠ it) (hSl : S ≠ l) (hS : s.heap.get? S = some { cls := .type "list", data := .seq #[] c₀ })
    (hR : ∀ (h' : Heap) (tk : Nat) (acc : Array Value) (c' : Nat), (∀ b o, b ≠ S → b ≠ it → s.heap.get? b = some o → h'.get? b = some o) → h'.get? S = some { cls := .type "list", dict := none, data := .seq acc c', slots := #[] } → ItemsOf (fun i v => its[its.size - 1 - i]? = some v) acc its.size → R (.ok (.ret .none)) { s with heap := h', toks := tk }) :
    wpAny (model prog w) A.in1 (Builtin.List.listExtendWith (.ref S) (.ref it) .none) (fun fin s' => match fin with | .done f => R (.ok f) s' | .again c' => c'.quiet = true ∧ codeAny (model prog w) A c' R s') (fun e s' => R (.error e) s') s := by
  have W := (Walks.listRev (prog := prog) (w := w) (A := A.in1) hh it l hne its).toS
  have hSf : S ∉ [it, l] := by simp only [List.mem_cons, List.not_mem_nil, or_false, not_or]; exact ⟨hSi, hSl⟩
  have hT : s.TypeIs (.ref it) "list_reverseiterator" := Heap.IsRevIter.typeIs hit
  have h1 : Builtin.List.listSameRef (.ref S) (.ref it) = false := by simp [Builtin.List.listSameRef, hSi]
  unfold Builtin.List.listExtendWith
  refine wpAny_bind (wpAny_typeOf hT ?_)
  rw [if_neg (by rw [h1]; decide)]
  refine wpAny_bind (wpAny_pyIter_revIter hit ?_)
  refine wpAny_bind (wpAny_holding ?_)
  unfold Builtin.List.listLengthHint
  refine wpAny_bind (wpAny_specialOf hT nolen_lri ?_)
  show wpAny _ A.in1 (specialOf (Value.ref it) (Str.ofString "__length_hint__") >>= _) _ _ _
  refine wpAny_bind (wpAny_specialOf hT hint_lri ?_)
  generalize hid : ("list_reverseiterator.__length_hint__" : String) = id0
  wp_delta
  rw [show splitId id0 = some ("list_reverseiterator", "__length_hint__") from by subst hid; decide +kernel]
  subst hid
  refine wpAny_bind (wpAny_isInstance (b := true) hT (by rw [isSubtype_type]; kernel_rfl) ?_)
  refine wpAny_pure ?_
  rw [if_neg (by decide)]
  have e0 : ((its.size : Nat) : Int) - 1 - ((0 : Nat) : Int) = (its.size : Int) - 1 := by omega
  refine wpAny_pure ⟨plainId_quiet F.plain_extend_loop _, codeAny_extend_loopS W hn S hSf .none its.size 0 _ #[] c₀ rfl (Nat.zero_le _) ⟨Nat.zero_le _, by rw [e0]; exact hit, hl⟩ hS (ItemsOf.nil _) fun s' acc' c' hm hS' hacc => ?_⟩
  rw [Moved.eq_with hm]
  refine hR s'.heap s'.toks acc' c' (fun b o hb hb2 e => hm.heap b o (fun hmem => ?_) e) hS' hacc
  rcases List.mem_cons.mp hmem with e' | hmem
  · exact hb e'
  · exact hb2 (List.mem_singleton.mp hmem)
theorem my_listRev {it l : Addr} {its : Array Value} {Q : Value → Shared → Prop} (hh : A.handled = none) (hit : s.heap.IsRevIter it l ((its.size : Int) - 1)) (hl : s.heap.IsList l its) (hne : l ≠ it) (hn : its.size ≤ sizeLine)
    (hQ : ∀ (h' : Heap) (tk : Nat) (acc : Array Value) (c' : Nat), (∀ b o, b ≠ it → s.heap.get? b = some o → h'.get? b = some o) → h'.get? s.heap.objs.size = some { cls := .type "list", dict := none, data := .seq acc c', slots := #[] } → ItemsOf (fun i v => its[its.size - 1 - i]? = some v) acc its.size → Q (.ref s.heap.objs.size) { s with heap := h', toks := tk }) :
    wpAny (model prog w) A (call (.type "list") [.ref it]) Q E s := by
  refine PySem.callType_codes (Q₁ := fun obj s₁ => obj = .ref s.heap.objs.size ∧ s₁ = { s with heap := s.heap.push { cls := .type "list", data := .seq #[] } }) PySem.F.called_list (PySem.F.typeCall_list_1 _) PySem.F.entry_list_init (code_list_new _ ⟨rfl, rfl⟩) fun obj s₁ h₁ => ?_
  obtain ⟨rfl, rfl⟩ := h₁
  obtain ⟨oi, hoi, _⟩ := id hit
  obtain ⟨ol, hol, _⟩ := id hl
  have hSi : s.heap.objs.size ≠ it := Nat.ne_of_gt (Heap.lt_size hoi)
  have hSl : s.heap.objs.size ≠ l := Nat.ne_of_gt (Heap.lt_size hol)
  have hS : (s.heap.push { cls := .type "list", data := .seq #[] }).get? s.heap.objs.size = some { cls := .type "list", data := .seq #[] } := Heap.get?_push_size _ rfl
  refine ⟨⟨_, hS, rfl⟩, PySem.F.args_list_init_2 _ _, ?_⟩
  show wpAny _ A.in1.in1 (do let old ← Builtin.List.listItems (.ref s.heap.objs.size); Builtin.List.listUpdate (.ref s.heap.objs.size) (fun _ => #[]); letGo old.toList.reverse; Builtin.List.listExtendWith (.ref s.heap.objs.size) (.ref it) .none) _ _ _
  refine wpAny_bind ?_
  unfold Builtin.List.listItems
  refine wpAny_bind (wpAny_seqItems hS rfl (wpAny_pure ?_))
  show wpAny _ _ (updateSeq s.heap.objs.size (fun _ => #[]) >>= fun _ => letGo (#[] : Array Value).toList.reverse >>= fun _ => Builtin.List.listExtendWith (.ref s.heap.objs.size) (.ref it) .none) _ _ _
  refine wpAny_bind (wpAny_updateSeq hS rfl ?_)
  have hS2 := Heap.get?_update_self (Obj.mapSeq (fun _ => (#[] : Array Value))) hS rfl
  have oth : ∀ b o, b ≠ s.heap.objs.size → s.heap.get? b = some o → ((s.heap.push { cls := .type "list", data := .seq #[] }).update s.heap.objs.size (Obj.mapSeq (fun _ => (#[] : Array Value)))).get? b = some o :=
    fun b o hb e => (Heap.get?_update_other _ _ (Ne.symm hb)).trans (Heap.get?_push_of_some _ e)
  refine wpAny_bind (wpAny_letGo ?_)
  refine my_extend (A := A.in1) hh (hit.at fun o e => oth _ _ hSi.symm e) ?_ hne hn hSi hSl hS2 (fun h' tk acc c' hk hS' hacc => ?_)
  · obtain ⟨o, h1, h2, h3⟩ := hl
    exact ⟨o, oth _ _ hSl.symm h1, h2, h3⟩
  · exact ⟨rfl, hQ h' tk acc c' (fun b o hb e => hk b o (Nat.ne_of_lt (Heap.lt_size e)) hb (oth b o (Nat.ne_of_lt (Heap.lt_size e)) e)) hS' hacc⟩
end
end RT
namespace BR
open PySem PySem.Spec PyProof.Rows L2 RT
section
variable {X : Cx}
def tLstRev (K : PySem.W.Frag) (te : TE) : TE := fun σ H Q => te σ H fun v H1 => ∃ (a : Addr) (xs : List V), v = .ref a ∧ SqL K H1 a xs ∧ ∀ q, H1 q = none → Q (.ref q) (upd H1 q (.lst xs.reverse))
theorem pe_listRev {e : Expr} {te : TE} {p p2 pos pos2 : Pos} (hc : X.calm = true) (hg : Gl X "list") (hm : X.mg "list" = none) (hg2 : Gl X "reversed") (hm2 : X.mg "reversed" = none) (he : PE X e te)
    (hs : starEach [e] X.env = (false, eval e X.env) :: starEach [] X.env := by rfl)
    (hs2 : starEach [.Call (.Name "reversed" p2) [e] [] pos2] X.env = (false, eval (.Call (.Name "reversed" p2) [e] [] pos2) X.env) :: starEach [] X.env := by rfl) :
    PE X (.Call (.Name "list" p) [.Call (.Name "reversed" p2) [e] [] pos2] [] pos) (tLstRev X.K te) := by
  refine ⟨fun pins s σ H Q I h => ?_⟩
  refine Call_ (ld_blt I hg hm PyProof.Rows.boot_list (PyProof.Rows.callWith_type1 (args_cons (Call_ (ld_blt I hg2 hm2 PyProof.Rows.boot_reversed (PyProof.Rows.callWith_type1 (args_cons (thn (he.run pins s σ H _ I h) fun u s1 ⟨v, H1, I1, r1, q1⟩ => args_nil ?_) hs) hs rfl))) hs2) hs2 rfl))
  obtain ⟨a, xs, ev, hq, q⟩ := q1
  subst ev
  obtain rfl : u = Value.ref a := r1
  obtain ⟨its, rv, p', hz⟩ := I1.list hq
  refine call_reversed_list p'.isList (args_nil ?_)
  have k0 : ∀ b o, s1.heap.get? b = some o → (s1.heap.push (revObj a ((its.toArray.size : Int) - 1))).get? b = some o := fun b o e => Heap.get?_push_of_some _ e
  have I2 : Inv X pins σ H1 { s1 with heap := s1.heap.push (revObj a ((its.toArray.size : Int) - 1)) } := I1.kept (t' := s1.toks) k0
  obtain ⟨f0, f1, f2, f3, f4, f5⟩ := I1.fpOk (H' := H1) (b := s1.heap.objs.size) (Nat.le_refl _) (I1.hok.fresh (Nat.le_refl _))
  have hl := p'.isList
  obtain ⟨ol, hol, _⟩ := id hl
  have hne : a ≠ s1.heap.objs.size := Nat.ne_of_lt (Heap.lt_size hol)
  have hn : its.toArray.size ≤ sizeLine := by rw [List.size_toArray, ← rv.length]; exact hz
  refine my_listRev (s := { s1 with heap := s1.heap.push (revObj a ((its.toArray.size : Int) - 1)) }) (I1.ok.hd hc) ⟨_, Heap.get?_push_size _ rfl, rfl, rfl⟩ (hl.push _) hne hn fun h' tk acc c' hk hS hi => ?_
  refine ⟨.ref _, upd H1 (s1.heap.push (revObj a ((its.toArray.size : Int) - 1))).objs.size (.lst xs.reverse), I2.turnedNew (ch := [s1.heap.objs.size]) (t' := tk) (fun b o hb e => hk b o (fun z => hb (List.mem_singleton.mpr z)) e) (fun b hb => ?_) (Nat.le_refl _)
    (show ObjOk X.prog X.w _ _ _ (.lst xs.reverse) from ⟨by rw [List.length_reverse]; exact hz, acc.toList, c', vals_rev rv hi, by rw [Array.toArray_toList]; exact hS⟩), rfl, q _ (I2.hok.fresh (Nat.le_refl _))⟩
  rw [List.mem_singleton.mp hb]
  exact I1.fpOk (Nat.le_refl _) (I1.hok.fresh (Nat.le_refl _))
end
end BR

namespace Bn
open PySem PySem.Spec PyProof.Rows L2 BR
/-! ### heaps -/
def Kp (b : Addr) (H H' : Hp) : Prop := ∀ a o, a ≠ b → H a = some o → H' a = some o
theorem Kp.refl (b : Addr) (H : Hp) : Kp b H H := fun _ _ _ h => h
theorem Kp.trans {b : Addr} {H H1 H2 : Hp} (x : Kp b H H1) (y : Kp b H1 H2) : Kp b H H2 := fun a o n h => y a o n (x a o n h)
theorem Kp.put {b : Addr} {H : Hp} {o : HO} : Kp b H (upd H b o) := fun a x n h => by
  rw [upd_ne n]
  exact h
theorem Kp.new {b p : Addr} {H : Hp} {o : HO} (h : H p = none) : Kp b H (upd H p o) := fun a x n e => by
  rw [upd_ne (ne_of_none e h)]
  exact e
theorem same_new {H : Hp} {p : Addr} {o : HO} (h : H p = none) : Same H (upd H p o) := fun b x e => by
  rw [upd_ne (ne_of_none e h)]
  exact e
theorem Kp.of_same {b : Addr} {H H' : Hp} (h : Same H H') : Kp b H H' := fun a o _ e => h a o e
theorem Same.kp {b : Addr} {H0 H H' : Hp} (s : Same H0 H) (n : H0 b = none) (k : Kp b H H') : Same H0 H' := fun a o e => k a o (ne_of_none e n) (s a o e)
/-- what is new is changed -/
theorem Same.own {p : Addr} {H0 H : Hp} {o : HO} (s : Same H0 H) (n : H0 p = none) : Same H0 (upd H p o) := fun a x e => by
  rw [upd_ne (ne_of_none e n)]
  exact s a x e
def Bx (H : Hp) (b : Addr) : Prop := ∃ x y z t : Int, H b = some (.lst [.int x, .int y, .int z, .int t])
theorem Bx.same {H H' : Hp} {b : Addr} (h : Bx H b) (s : Same H H') : Bx H' b := by
  obtain ⟨x, y, z, t, e⟩ := h
  exact ⟨x, y, z, t, s _ _ e⟩
theorem Bx.ne {H : Hp} {b p : Addr} (h : Bx H b) (n : H p = none) : b ≠ p := by
  obtain ⟨x, y, z, t, e⟩ := h
  exact ne_of_none e n
structure Kb (b : Addr) (H H' : Hp) : Prop where
  k : Kp b H H'
  x : Bx H' b
theorem Kb.refl {b : Addr} {H : Hp} (h : Bx H b) : Kb b H H := ⟨Kp.refl b H, h⟩
theorem Kb.trans {b : Addr} {H H1 H2 : Hp} (p : Kb b H H1) (q : Kb b H1 H2) : Kb b H H2 := ⟨p.k.trans q.k, q.x⟩
theorem Kb.new {b p : Addr} {H : Hp} {o : HO} (hb : Bx H b) (h : H p = none) : Kb b H (upd H p o) := ⟨Kp.new h, hb.same (same_new h)⟩
theorem Kb.free {b a : Addr} {H H' : Hp} (p : Kb b H H') (h : H' a = none) : H a = none := by
  cases e : H a with
  | none => rfl
  | some o =>
    by_cases q : a = b
    · subst q
      obtain ⟨x, y, z, t, e2⟩ := p.x
      rw [e2] at h
      cases h
    · rw [p.k a o q e] at h
      cases h
theorem Kb.own {b p : Addr} {H H' : Hp} {o : HO} (q : Kb b H H') (h : H p = none) (n : p ≠ b) : Kb b H (upd H' p o) := ⟨fun a x na e => by
  rw [upd_ne (ne_of_none e h)]
  exact q.k a x na e, by
  obtain ⟨x, y, z, t, e2⟩ := q.x
  exact ⟨x, y, z, t, by rw [upd_ne n.symm]; exact e2⟩⟩
theorem line1000 {n : Nat} (h : n ≤ 1000) : n ≤ sizeLine := Nat.le_of_lt (small1000 h)
theorem tYes_in {σ : L2.St} {H : Hp} {f g : Hp → Prop} (h : f H) : tYes σ H fun b H3 => if b = true then f H3 else g H3 := by
  show (if true = true then f H else g H)
  exact iteT h
def lenAt (H : Hp) (l : Addr) : Nat := match H l with
  | some (.lst xs) => xs.length
  | _ => 0
theorem lenAt_of {H : Hp} {l : Addr} {xs : List V} (h : H l = some (.lst xs)) : lenAt H l = xs.length := by
  unfold lenAt
  rw [h]
theorem ne_bx {H : Hp} {b p : Addr} {o : HO} (hb : Bx H b) (h : H p = some o) (hn : ∀ x y z t : Int, o ≠ .lst [.int x, .int y, .int z, .int t]) : p ≠ b := fun e => by
  obtain ⟨x, y, z, t, e2⟩ := hb
  rw [e, e2] at h
  exact hn x y z t (Option.some.inj h).symm
/-! ### texts -/
def okS (x : Str) : Prop := ∀ c ∈ TL.tl x, c < 0x110000
theorem okS_iff (x : Str) : PyData.strOk x = true ↔ okS x := by
  unfold PyData.strOk okS TL.tl
  rw [← Array.all_toList, List.all_eq_true]
  exact ⟨fun h c hc => of_decide_eq_true (h c hc), fun h c hc => decide_eq_true (h c hc)⟩
theorem strs_shaped : ∀ (vs : List Str), (∀ x ∈ vs, okS x) → PyData.canLayAll0 (vs.map PyData.str) = true ∧ PyData.depthAll (vs.map PyData.str) = 0
  | [], _ => ⟨rfl, rfl⟩
  | v :: vs, h => by
    obtain ⟨a, b⟩ := strs_shaped vs fun x hx => h x (List.mem_cons_of_mem _ hx)
    refine ⟨?_, ?_⟩
    · show (PyData.strOk v && PyData.canLayAll0 (vs.map PyData.str)) = true
      rw [a, (okS_iff v).mpr (h v (List.mem_cons_self ..))]
      rfl
    · show max 0 (PyData.depthAll (vs.map PyData.str)) = 0
      rw [b]
      rfl
theorem strs_list_shaped {vs : List Str} (h : ∀ x ∈ vs, okS x) : SeqAt.shaped (.list (vs.map PyData.str)) = true := by
  obtain ⟨a, b⟩ := strs_shaped vs h
  show (PyData.canLayAll0 (vs.map PyData.str) && decide (PyData.depthAll (vs.map PyData.str) + 1 ≤ 64)) = true
  rw [a, b]
  rfl
theorem strs_dp {K : PySem.W.Frag} {H : Hp} : ∀ (vs : List Str), DpAll K H (vs.map V.str) (vs.map PyData.str)
  | [] => .nil
  | v :: vs => .cons (.str v) (strs_dp vs)
theorem strs_nil (vs : List Str) : PyData.eqv (.list (vs.map PyData.str)) (.list []) = vs.isEmpty := by
  cases vs with
  | nil => rfl
  | cons v r => rfl
theorem strs_all {ws : List Str} : ∀ {ys : List V}, (∀ y ∈ ys, y ∈ ws.map V.str) → ∃ vs : List Str, ys = vs.map V.str ∧ ∀ v ∈ vs, v ∈ ws
  | [], _ => ⟨[], rfl, fun v hv => by cases hv⟩
  | y :: ys, h => by
    obtain ⟨vs, e, hv⟩ := strs_all (ys := ys) fun z hz => h z (List.mem_cons_of_mem _ hz)
    obtain ⟨x, hx, ex⟩ := List.mem_map.mp (h y (List.mem_cons_self ..))
    refine ⟨x :: vs, ?_, fun v hv' => ?_⟩
    · rw [List.map_cons, ex, e]
    · rcases List.mem_cons.mp hv' with rfl | q
      · exact hx
      · exact hv v q
theorem map_str_inj : ∀ {vs ws : List Str}, vs.map V.str = ws.map V.str → vs = ws
  | [], [], _ => rfl
  | [], _ :: _, h => by cases h
  | _ :: _, [], h => by cases h
  | v :: vs, w :: ws, h => by
    rw [List.map_cons, List.map_cons] at h
    injection h with h1 h2
    rw [V.str.inj h1, map_str_inj h2]
theorem strs_ne_ints {vs : List Str} (h : 1 ≤ vs.length) : ∀ x y z t : Int, HO.lst (vs.map V.str) ≠ .lst [.int x, .int y, .int z, .int t] := fun x y z t e => by
  cases vs with
  | nil => exact absurd h (by decide)
  | cons v r =>
    injection e with e1
    rw [List.map_cons] at e1
    injection e1 with e2 _
    cases e2
/-! ### features -/
structure FtD where
  n : Str
  vs : List Str
  t : Bool
def FtB (d : FtD) : Prop := 1 ≤ d.vs.length ∧ d.vs.length ≤ 6 ∧ okS d.n ∧ ∀ x ∈ d.vs, okS x
def Ft (H : Hp) (v : V) : Prop := ∃ p l d, v = .ref p ∧ H p = some (.tup [.str d.n, .ref l, .bl d.t]) ∧ H l = some (.lst (d.vs.map V.str)) ∧ FtB d
theorem Ft.kp {b : Addr} {H H' : Hp} {v : V} (h : Ft H v) (hb : Bx H b) (k : Kp b H H') : Ft H' v := by
  obtain ⟨p, l, d, rfl, e1, e2, hB⟩ := h
  exact ⟨p, l, d, rfl, k _ _ (ne_bx hb e1 (fun _ _ _ _ z => by cases z)) e1, k _ _ (ne_bx hb e2 (strs_ne_ints hB.1)) e2, hB⟩
theorem Ft.same {H H' : Hp} {v : V} (h : Ft H v) (s : Same H H') : Ft H' v := by
  obtain ⟨p, l, d, rfl, e1, e2, hB⟩ := h
  exact ⟨p, l, d, rfl, s _ _ e1, s _ _ e2, hB⟩
def NameOf (H : Hp) (v : V) (n : Str) : Prop := ∃ p l t, v = .ref p ∧ H p = some (.tup [.str n, .ref l, .bl t])
/-! ### bundles -/
abbrev BD := List (Str × List Str)
inductive Ents (H : Hp) : List (Key × V) → BD → Prop
  | nil : Ents H [] []
  | cons {l : Addr} {n : Str} {vs : List Str} {kvs : List (Key × V)} {b : BD} : H l = some (.lst (vs.map V.str)) → Ents H kvs b → Ents H ((.inr n, .ref l) :: kvs) ((n, vs) :: b)
theorem Ents.mono {H H' : Hp} {kvs : List (Key × V)} {b : BD} (h : Ents H kvs b) (s : ∀ l xs, H l = some (.lst xs) → (∃ n, (n, V.ref l) ∈ kvs) → H' l = some (.lst xs)) : Ents H' kvs b := by
  induction h with
  | nil => exact .nil
  | cons e _ ih => exact .cons (s _ _ e ⟨_, List.mem_cons_self ..⟩) (ih fun l xs h ⟨n, hm⟩ => s l xs h ⟨n, List.mem_cons_of_mem _ hm⟩)
theorem Ents.same {H H' : Hp} {kvs : List (Key × V)} {b : BD} (h : Ents H kvs b) (s : Same H H') : Ents H' kvs b := h.mono fun l xs e _ => s _ _ e
theorem Ents.length {H : Hp} {kvs : List (Key × V)} {b : BD} (h : Ents H kvs b) : kvs.length = b.length := by
  induction h with
  | nil => rfl
  | cons _ _ ih => simp [ih]
theorem Ents.keys {H : Hp} {kvs : List (Key × V)} {b : BD} (h : Ents H kvs b) : kvs.map (·.1) = b.map fun e => Sum.inr e.1 := by
  induction h with
  | nil => rfl
  | cons _ _ ih => rw [List.map_cons, List.map_cons, ih]
theorem Ents.get {H : Hp} {kvs : List (Key × V)} {b : BD} (h : Ents H kvs b) : ∀ {i : Nat} {k : Key} {v : V}, kvs[i]? = some (k, v) → ∃ n l vs, k = .inr n ∧ v = .ref l ∧ H l = some (.lst (vs.map V.str)) ∧ b[i]? = some (n, vs) := by
  induction h with
  | nil => intro i k v e; simp at e
  | cons hl _ ih =>
    intro i k v e
    cases i with
    | zero =>
      have e' := Option.some.inj e
      cases e'
      exact ⟨_, _, _, rfl, rfl, hl, rfl⟩
    | succ j => exact ih e
theorem Ents.app {H : Hp} {kvs ls : List (Key × V)} {b c : BD} (h : Ents H kvs b) (k : Ents H ls c) : Ents H (kvs ++ ls) (b ++ c) := by
  induction h with
  | nil => exact k
  | cons e _ ih => exact .cons e ih
/-- the values of a name, or none -/
def at? (b : BD) (n : Str) : Option (List Str) := (b.find? fun e => decide (e.1 = n)).map (·.2)
theorem at?_nil (n : Str) : at? [] n = none := rfl
theorem at?_cons (e : Str × List Str) (b : BD) (n : Str) : at? (e :: b) n = if e.1 = n then some e.2 else at? b n := by
  unfold at?
  rw [List.find?_cons]
  by_cases h : e.1 = n
  · rw [if_pos h, decide_eq_true h]
    rfl
  · rw [if_neg h, decide_eq_false h]
theorem Ents.val {H : Hp} {kvs : List (Key × V)} {b : BD} (h : Ents H kvs b) (n : Str) : (at? b n = none ∧ valV kvs (.inr n) = none) ∨ ∃ l vs, at? b n = some vs ∧ valV kvs (.inr n) = some (.ref l) ∧ H l = some (.lst (vs.map V.str)) ∧ (Sum.inr n, V.ref l) ∈ kvs := by
  induction h with
  | nil => exact .inl ⟨rfl, rfl⟩
  | @cons l m vs kvs b e _ ih =>
    by_cases q : m = n
    · subst q
      exact .inr ⟨l, vs, by rw [at?_cons, if_pos rfl], valV_pos rfl, e, List.mem_cons_self ..⟩
    · have q2 : ¬ (Sum.inr m : Key) = Sum.inr n := fun z => q (Sum.inr.inj z)
      rcases ih with ⟨h1, h2⟩ | ⟨l', vs', h1, h2, h3, h4⟩
      · exact .inl ⟨by rw [at?_cons, if_neg q]; exact h1, by rw [valV_neg q2]; exact h2⟩
      · exact .inr ⟨l', vs', by rw [at?_cons, if_neg q]; exact h1, by rw [valV_neg q2]; exact h2, h3, List.mem_cons_of_mem _ h4⟩
theorem at?_none_iff (b : BD) (n : Str) : at? b n = none ↔ n ∉ b.map (·.1) := by
  induction b with
  | nil => exact ⟨fun _ h => (nomatch h), fun _ => rfl⟩
  | cons e b ih =>
    rw [at?_cons, List.map_cons, List.mem_cons]
    by_cases h : e.1 = n
    · rw [if_pos h]
      exact ⟨fun z => by (cases z), fun z => absurd (Or.inl h.symm) z⟩
    · rw [if_neg h, ih]
      exact ⟨fun z q => q.elim (fun y => h y.symm) z, fun z y => z (.inr y)⟩
/-- a bundle's dict: names unlike, lists of one to twenty texts -/
def BdB (b : BD) : Prop := (b.map (·.1)).Nodup ∧ b.length ≤ 200 ∧ ∀ e ∈ b, okS e.1 ∧ 1 ≤ e.2.length ∧ e.2.length ≤ 20 ∧ ∀ x ∈ e.2, okS x
def Bd (H : Hp) (a : Addr) (b : BD) : Prop := ∃ kvs, H a = some (.dK kvs) ∧ Ents H kvs b ∧ BdB b
theorem Bd.same {H H' : Hp} {a : Addr} {b : BD} (h : Bd H a b) (s : Same H H') : Bd H' a b := by
  obtain ⟨kvs, e, x, y⟩ := h
  exact ⟨kvs, s _ _ e, x.same s, y⟩
theorem Ents.vals {H : Hp} {kvs : List (Key × V)} {b : BD} (h : Ents H kvs b) : ∀ {n : Key} {l : Addr}, (n, V.ref l) ∈ kvs → ∃ e ∈ b, H l = some (.lst (e.2.map V.str)) := by
  induction h with
  | nil => intro n l hm; cases hm
  | @cons l' m vs kvs b e _ ih =>
    intro n l hm
    rcases List.mem_cons.mp hm with q | q
    · cases q
      exact ⟨_, List.mem_cons_self .., e⟩
    · obtain ⟨x, hx, hl⟩ := ih q
      exact ⟨x, List.mem_cons_of_mem _ hx, hl⟩
theorem Bd.kp {b : Addr} {H H' : Hp} {a : Addr} {d : BD} (h : Bd H a d) (hb : Bx H b) (k : Kp b H H') : Bd H' a d := by
  obtain ⟨kvs, e, x, y⟩ := h
  refine ⟨kvs, k _ _ (ne_bx hb e (fun _ _ _ _ z => by cases z)) e, x.mono fun l xs hl ⟨n, hm⟩ => k _ _ ?_ hl, y⟩
  obtain ⟨e', he', hl'⟩ := x.vals hm
  exact ne_bx hb hl' (strs_ne_ints (y.2.2 e' he').2.1)
theorem rd_lock {H : Hp} {a d : Addr} {u v : HO} {o : Obj} (ha : H a = some v) (hd : H d = some u) : Rd (upd H d (.frz o u)) a v := by
  by_cases e : a = d
  · subst e
    rw [ha] at hd
    cases hd
    exact .inr ⟨o, upd_same⟩
  · exact .inl (by rw [upd_ne e]; exact ha)
theorem unlock {H : Hp} {d : Addr} {u : HO} {o : Obj} (hd : H d = some u) : upd (upd H d (.frz o u)) d u = H := by
  funext x
  by_cases e : x = d
  · subst e
    rw [upd_same, hd]
  · rw [upd_ne e, upd_ne e]
end Bn

namespace Bn
open PySem PySem.Spec PyProof.Rows L2 BR GX
def topS (i : Nat) : Stmt := PySem.Challenge.pw_speechloom_k06_groups_agreed.main.body.getD i (.Pass ⟨0, 0, 0, 0⟩)
abbrev s_agreed : Stmt := topS 1
theorem sc_agreed : FnScope ["groups", "rows", "number", "feature", "group"] ["groups", "rows"] (defScope s_agreed) := ⟨rfl, rfl, rfl, by decide +kernel, rfl, by decide +kernel, by decide +kernel⟩
abbrev s_l_cell : Stmt := topS 3
theorem sc_l_cell : FnScope ["_law_script", "_law_k"] ["_law_script", "_law_k"] (defScope s_l_cell) := ⟨rfl, rfl, rfl, by decide +kernel, rfl, by decide +kernel, by decide +kernel⟩
abbrev s_l_mixed : Stmt := topS 4
theorem sc_l_mixed : FnScope ["_law_number", "_law_k", "_law_once", "_law_twice"] ["_law_number", "_law_k"] (defScope s_l_mixed) := ⟨rfl, rfl, rfl, by decide +kernel, rfl, by decide +kernel, by decide +kernel⟩
abbrev s_l_box : Stmt := topS 5
theorem sc_l_box : FnScope ["_law_cell_here", "_law_k"] ["_law_cell_here", "_law_k"] (defScope s_l_box) := ⟨rfl, rfl, rfl, by decide +kernel, rfl, by decide +kernel, by decide +kernel⟩
abbrev s_l_take : Stmt := topS 6
theorem sc_l_take : FnScope ["_law_box_here", "_law_many", "_law_found"] ["_law_box_here", "_law_many"] (defScope s_l_take) := ⟨rfl, rfl, rfl, by decide +kernel, rfl, by decide +kernel, by decide +kernel⟩
abbrev s_l_some : Stmt := topS 7
theorem sc_l_some : FnScope ["_law_box_here", "_law_words", "_law_many", "_law_left", "_law_found"] ["_law_box_here", "_law_words", "_law_many"] (defScope s_l_some) := ⟨rfl, rfl, rfl, by decide +kernel, rfl, by decide +kernel, by decide +kernel⟩
abbrev s_l_names : Stmt := topS 8
theorem sc_l_names : FnScope ["_law_box_here", "_law_many", "_law_some_here"] ["_law_box_here", "_law_many"] (defScope s_l_names) := ⟨rfl, rfl, rfl, by decide +kernel, rfl, by decide +kernel, by decide +kernel⟩
abbrev s_l_rows : Stmt := topS 9
theorem sc_l_rows : FnScope ["_law_box_here", "_law_names_here", "_law_words", "_law_main", "_law_often", "_law_rows_here", "_law_k", "_law_row", "_law_name"] ["_law_box_here", "_law_names_here"] (defScope s_l_rows) := ⟨rfl, rfl, rfl, by decide +kernel, rfl, by decide +kernel, by decide +kernel⟩
abbrev s_l_group : Stmt := topS 10
theorem sc_l_group : FnScope ["_law_box_here", "_law_rows_here", "_law_names_here", "_law_group_here", "_law_k", "_law_number"] ["_law_box_here", "_law_rows_here", "_law_names_here"] (defScope s_l_group) := ⟨rfl, rfl, rfl, by decide +kernel, rfl, by decide +kernel, by decide +kernel⟩
abbrev s_l_due : Stmt := topS 11
theorem sc_l_due : FnScope ["_law_groups", "_law_rows_here", "_law_group_here", "_law_values", "_law_number", "_law_name", "_law_row", "_law_k"] ["_law_groups", "_law_rows_here"] (defScope s_l_due) := ⟨rfl, rfl, rfl, by decide +kernel, rfl, by decide +kernel, by decide +kernel⟩
abbrev s_law : Stmt := topS 12
theorem sc_law : FnScope ["_law_script", "_law_k", "_law_cell_here", "_law_box_here", "_law_names_here", "_law_rows_here", "_law_many", "_law_groups", "_law_kept", "_law_some_here", "_law_found", "_law_turn", "_law_group_here", "_law_row"] ["_law_script"] (defScope s_law) := ⟨rfl, rfl, rfl, by decide +kernel, rfl, by decide +kernel, by decide +kernel⟩
end Bn

namespace Bn
open PySem PySem.Spec PyProof.Rows L2 BR
section
variable {P : Program} {w : World} {K : PySem.W.Frag} {mg : Str → Option Value} {base : Heap}
/-! ### mixed -/
def spMixed : Sp := fun vs H Q _ => ∃ (n k : Int), vs = [.int n, .int k] ∧ ∀ m : Int, Q (.int m) H
theorem ok_mixed {f : Addr} {fd : FuncData} {k : Nat} (F : Fun K "_law_mixed" "_law_mixed" s_l_mixed f fd) : FnOk P w K mg base CX0 (k + 1) f fd ["_law_number", "_law_k"] spMixed := by
  refine F.ok sc_l_mixed (fun vs H Q E h => ?_) (fun cdv A outer s H vs Q E hr h => ?_)
  · obtain ⟨n, k, rfl, _⟩ := h
    rfl
  · obtain ⟨n, k, rfl, q⟩ := h
    refine ⟨_, pss_cons (ps_set (i := 2) sc_l_mixed.nd rfl (.inl rfl) (pe_op op_mod (pe_op op_mul (pe_op op_add (pe_op op_add (pe_op op_mod (pv 0) pe_int) (pe_op op_mul pe_int (pv 1))) pe_int) pe_int) pe_int))
      (pss_cons (ps_set (i := 3) sc_l_mixed.nd rfl (.inl rfl) (pe_op op_mod (pe_op op_mul (pv 2) (pe_op op_add (pe_op op_add (pe_op op_mod (pv 2) pe_int) (pv 1)) pe_int)) pe_int))
      (pss_one (ps_ret (pe_op op_mod (pe_op op_add (pe_op op_mul (pv 3) pe_int) (pv 2)) pe_int)))), ?_⟩
    refine ⟨_, rfl, _, _, rfl, rfl, (by show (0 : Int) < 2147483629; decide), _, rfl, _, _, rfl, rfl, .inl ⟨by decide, by decide⟩, _, _, rfl, rfl, _, _, rfl, rfl, _, _, rfl, rfl, .inr ⟨by decide, by decide⟩, _, _, rfl, rfl, (by show (0 : Int) < 2147483647; decide), ?_⟩
    generalize (n % 2147483629 + 7919 * k + 11) * 48271 = y
    have y0 := Int.emod_nonneg y (show (2147483647 : Int) ≠ 0 by decide)
    have y1 := Int.emod_lt_of_pos y (show (0 : Int) < 2147483647 by decide)
    refine ⟨_, rfl, _, rfl, _, _, rfl, rfl, (by show (0 : Int) < 1009; decide), _, rfl, _, _, rfl, rfl, _, _, rfl, rfl, _, _, rfl, rfl, .inl ⟨by omega, by omega⟩, _, _, rfl, rfl, (by show (0 : Int) < 998244353; decide), ?_⟩
    exact ⟨_, rfl, _, _, rfl, rfl, .inr ⟨by decide, by decide⟩, _, rfl, _, _, rfl, rfl, _, _, rfl, rfl, (by show (0 : Int) < 2147483629; decide), q _⟩
theorem bit_lo (b : Bool) : -(2 ^ 64) < (if b = true then (1 : Int) else 0) := by cases b <;> decide
theorem bit_hi (b : Bool) : (if b = true then (1 : Int) else 0) < 2 ^ 64 := by cases b <;> decide
/-! ### box -/
def spBox : Sp := fun vs H Q _ => ∃ (c k : Int), vs = [.int c, .int k] ∧ ∀ p H', H p = none → Same H H' → Bx H' p → Q (.ref p) H'
theorem ok_box {f : Addr} {fd : FuncData} {k : Nat} (F : Fun K "_law_box" "_law_box" s_l_box f fd) (ma : mg "abs" = none) (mi : mg "int" = none) : FnOk P w K mg base CX0 (k + 1) f fd ["_law_cell_here", "_law_k"] spBox := by
  refine F.ok sc_l_box (fun vs H Q E h => ?_) (fun cdv A outer s H vs Q E hr h => ?_)
  · obtain ⟨c, k, rfl, _⟩ := h
    rfl
  · obtain ⟨c, k, rfl, q⟩ := h
    refine ⟨_, pss_one (ps_ret (pe_lst (pa_cons (pe_op op_mul (pe_callB call_abs (by rfl) ma (by decide +kernel) (pa_cons (pv 0) pa_nil)) (pe_callTy call_int1 (by rfl) mi (by decide +kernel) (pa_cons (pe_cmpR op_ge (pe_callB call_abs (by rfl) ma (by decide +kernel) (pa_cons (pv 0) pa_nil)) (pe_op op_pow pe_int pe_int) (nomark _)) pa_nil)))
        (pa_cons (pv 0) (pa_cons (pv 1) (pa_cons pe_int pa_nil)))))), ?_⟩
    refine ⟨_, rfl, _, rfl, _, rfl, _, rfl, _, _, rfl, rfl, ⟨by decide, by decide, by decide⟩, _, _, rfl, rfl, .inr ⟨_, rfl, _, _, rfl, rfl, .inr ⟨bit_lo _, bit_hi _⟩, _, rfl, _, rfl, (show 4 ≤ sizeLine by decide), fun p np => ?_⟩⟩
    exact q p _ np (same_new np) ⟨_, _, _, _, upd_same⟩
/-! ### take -/
def spTake : Sp := fun vs H Q _ => ∃ (b : Addr) (m : Int), vs = [.ref b, .int m] ∧ Bx H b ∧ 0 < m ∧ m < 1073741824 ∧ ∀ (n : Int) H', 0 ≤ n → n < m → Kb b H H' → Q (.int n) H'
theorem ok_take {f fM : Addr} {fd fdM : FuncData} (F : Fun K "_law_take" "_law_take" s_l_take f fd)
    (FM : Fun K "_law_mixed" "_law_mixed" s_l_mixed fM fdM) (bM : Binds K fdM ["_law_number", "_law_k"] []) (gM : mg "_law_mixed" = some (.ref fM)) (md : mg "divmod" = none) : FnOk P w K mg base CX0 2 f fd ["_law_box_here", "_law_many"] spTake := by
  have GM : FnOk P w K mg base CX0 1 fM fdM ["_law_number", "_law_k"] spMixed := ok_mixed FM
  refine F.ok sc_l_take (fun vs H Q E h => ?_) (fun cdv A outer s H vs Q E hr h => ?_)
  · obtain ⟨b, m, rfl, _⟩ := h
    rfl
  · obtain ⟨b, m, rfl, ⟨x, y, z, t, hb⟩, m0, m1, q⟩ := h
    refine ⟨_, pss_cons (ps_asg (pe_op op_add (pe_ix ix_list (pv 0) pe_int (fun _ _ => rfl)) pe_int) (pg_sub (pv 0) pe_int set_list))
      (pss_cons (ps_if (pt_cmpR op_gt (pe_ix ix_list (pv 0) pe_int (fun _ _ => rfl)) pe_int (nomark _))
        (pss_cons (ps_asg (pe_callB call_divmod (by rfl) md (by decide +kernel) (pa_cons (pe_ix ix_list (pv 0) pe_int (fun _ _ => rfl)) (pa_cons (pv 1) pa_nil))) (pg_tup rfl (pgs_cons (pg_sub (pv 0) pe_int set_list) (pgs_cons (pg_name (i := 2) sc_l_take.nd rfl (.inl rfl)) pgs_nil))))
        (pss_one (ps_ret (pv 2)))) pss_nil)
      (pss_one (ps_ret (pe_op op_mod (pe_op op_fdiv (pe_call GM hr (by rfl) gM FM.kp bM .nil pass0 (pa_cons (pe_call GM hr (by rfl) gM FM.kp bM .nil pass0 (pa_cons (pe_ix ix_list (pv 0) pe_int (fun _ _ => rfl)) (pa_cons (pe_ix ix_list (pv 0) pe_int (fun _ _ => rfl)) pa_nil))) (pa_cons (pe_op op_add (pe_ix ix_list (pv 0) pe_int (fun _ _ => rfl)) (pe_ix ix_list (pv 0) pe_int (fun _ _ => rfl))) pa_nil))) pe_int) (pv 1))))), ?_⟩
    refine ⟨_, rfl, b, _, _, .int t, rfl, rfl, .inl (.inl hb), rfl, _, _, rfl, rfl, _, rfl, b, _, _, 3, rfl, rfl, hb, rfl, ?_⟩
    have hL : SqL K (upd H b (.lst [.int x, .int y, .int z, .int (t + 1)])) b [.int x, .int y, .int z, .int (t + 1)] := .inl (.inl upd_same)
    refine ⟨_, rfl, b, _, _, .int x, rfl, rfl, hL, rfl, _, _, rfl, rfl, _, rfl, ite2 (fun e => ?_) (fun e => ?_)⟩
    · refine ⟨_, rfl, b, _, _, .int x, rfl, rfl, hL, rfl, _, rfl, _, _, rfl, ⟨m0, m1⟩, fun p np => ?_⟩
      have nbp : b ≠ p := fun e => by
        rw [← e, upd_same] at np
        cases np
      have hb2 : (upd (upd H b (.lst [.int x, .int y, .int z, .int (t + 1)])) p (.tup [.int (x / m), .int (x % m)])) b = some (.lst [.int x, .int y, .int z, .int (t + 1)]) := by
        rw [upd_ne nbp, upd_same]
      refine ⟨p, _, rfl, .inl (.inl upd_same), rfl, _, _, rfl, _, rfl, b, _, _, 0, rfl, rfl, hb2, rfl, _, _, rfl, rfl, ?_⟩
      refine ⟨_, rfl, ?_⟩
      refine q _ _ (Int.emod_nonneg x (by omega)) (Int.emod_lt_of_pos x m0) ⟨fun a o n h => ?_, ⟨_, _, _, _, upd_same⟩⟩
      have ea : (upd H b (.lst [.int x, .int y, .int z, .int (t + 1)])) a = some o := by
        rw [upd_ne n]
        exact h
      rw [upd_ne n, upd_ne (ne_of_none ea np)]
      exact ea
    · refine ⟨_, rfl, b, _, _, .int y, rfl, rfl, hL, rfl, _, rfl, b, _, _, .int (t + 1), rfl, rfl, hL, rfl, _, _, rfl, fun n1 => ?_⟩
      refine ⟨_, rfl, b, _, _, .int z, rfl, rfl, hL, rfl, _, rfl, b, _, _, .int (t + 1), rfl, rfl, hL, rfl, _, _, rfl, rfl, _, _, rfl, fun n2 => ?_⟩
      refine ⟨_, _, rfl, rfl, ⟨by show (0 : Int) < 7; decide, by show (7 : Int) < 1073741824; decide⟩, _, rfl, _, _, rfl, rfl, m0, ?_⟩
      exact q _ _ (Int.emod_nonneg _ (by omega)) (Int.emod_lt_of_pos _ m0) ⟨Kp.put, ⟨_, _, _, _, upd_same⟩⟩
/-! ### some -/
def spSome (K : PySem.W.Frag) : Sp := fun vs H Q _ => ∃ (b r : Addr) (xs : List V) (m : Nat), vs = [.ref b, .ref r, .int m] ∧ Bx H b ∧ SqL K H r xs ∧ m ≤ xs.length ∧ xs.length ≤ 100 ∧ ∀ (p : Addr) (ys : List V) H', H p = none → Kb b H H' → H' p = some (.lst ys) → ys.length = m → (∀ y ∈ ys, y ∈ xs) → Q (.ref p) H'
theorem ok_some {f fT : Addr} {fd fdT : FuncData} (F : Fun K "_law_some" "_law_some" s_l_some f fd)
    (kT : PySem.W.keepIn K (.ref fT) = true) (bT : Binds K fdT ["_law_box_here", "_law_many"] []) (gT : mg "_law_take" = some (.ref fT)) (GT : FnOk P w K mg base CX0 2 fT fdT ["_law_box_here", "_law_many"] spTake)
    (ml : mg "len" = none) (mli : mg "list" = none) : FnOk P w K mg base CX0 3 f fd ["_law_box_here", "_law_words", "_law_many"] (spSome K) := by
  refine F.ok sc_l_some (fun vs H Q E h => ?_) (fun cdv A outer s H vs Q E hr h => ?_)
  · obtain ⟨b, r, xs, m, rfl, _⟩ := h
    rfl
  · obtain ⟨b, r, xs, m, rfl, hb, hS, hmx, hlen, q⟩ := h
    refine ⟨_, pss_cons (ps_set (i := 3) sc_l_some.nd rfl (.inl rfl) (pe_callTy call_list_of (by rfl) mli (by decide +kernel) (pa_cons (pv 1) pa_nil)))
      (pss_cons (ps_set (i := 4) sc_l_some.nd rfl (.inl rfl) (pe_lst pa_nil))
      (pss_cons (ps_while PassesOwn.never (pt_cmpR op_lt (pe_callB call_len_seq (by rfl) ml PySem.boot_len (pa_cons (pv 4) pa_nil)) (pv 2) (nomark _))
        (pss_one (ps_expr (pe_bm PySem.F.plainAttrs_list PySem.F.slot_list_append PySem.F.type_list_append mt_append (pv 4) (pa_cons
          (pe_bm PySem.F.plainAttrs_list PySem.F.slot_list_pop PySem.F.type_list_pop mt_popAt (pv 3) (pa_cons (pe_call GT hr (by rfl) gT kT bT .nil pass0 (pa_cons (pv 0) (pa_cons (pe_callB call_len_seq (by rfl) ml PySem.boot_len (pa_cons (pv 3) pa_nil)) pa_nil))) pa_nil)) pa_nil)))))
      (pss_one (ps_ret (pv 4))))), ?_⟩
    refine ⟨_, rfl, r, xs, rfl, .inl hS, fun l nl => ?_⟩
    refine ⟨Nat.zero_le _, fun d nd => ?_⟩
    have nlb : l ≠ b := (hb.ne nl).symm
    have hb1 : Bx (upd H l (.lst xs)) b := hb.same (same_new nl)
    have ndb : d ≠ b := (hb1.ne nd).symm
    have ndl : d ≠ l := fun e => by
      rw [e, upd_same] at nd
      cases nd
    have nd0 : H d = none := by
      rw [upd_ne ndl] at nd
      exact nd
    refine while_by (fun σ H' => ∃ xs' ys, σ = [some (.ref b), some (.ref r), some (.int m), some (.ref l), some (.ref d)] ∧ Kb b H H' ∧ H' l = some (.lst xs') ∧ H' d = some (.lst ys) ∧ xs'.length + ys.length = xs.length ∧ ys.length ≤ m ∧ (∀ y ∈ xs', y ∈ xs) ∧ ∀ y ∈ ys, y ∈ xs) (fun _ H' => lenAt H' l) ?_ (fun σ H' hP => ?_) (fun σ H' Q1 Q2 hq h => ?_)
    · refine ⟨xs, [], rfl, ((Kb.refl hb).own nl nlb).own nd0 ndb, ?_, upd_same, by simp, Nat.zero_le _, fun y hy => hy, fun y hy => by cases hy⟩
      rw [upd_ne ndl.symm, upd_same]
    · obtain ⟨xs', ys, rfl, kb, hl, hd, hle, hym, hx, hy⟩ := hP
      refine ⟨_, rfl, d, ys, rfl, .inl (.inl (.inl hd)), _, rfl, _, _, rfl, rfl, _, rfl, ite2 (fun e => ?_) (fun e => ?_)⟩
      · have e0 : (ys.length : Int) < (m : Int) := of_decide_eq_true e
        refine ⟨_, rfl, .inl ⟨rfl, _, .inl (.inl hd)⟩, _, rfl, .inl ⟨rfl, _, .inl (.inl hl)⟩, _, rfl, _, rfl, l, _, rfl, .inl (.inl (.inl hl)), b, _, rfl, kb.x, by omega, by omega, fun n H2 n0 n1 k2 => ?_⟩
        have hl2 : H2 l = some (.lst xs') := k2.k _ _ nlb hl
        have hd2 : H2 d = some (.lst ys) := k2.k _ _ ndb hd
        have hn : n.toNat < xs'.length := by omega
        refine ⟨l, xs', n, n.toNat, xs'[n.toNat], rfl, rfl, hl2, by omega, by omega, PySem.seqIndex_of n0 (by omega), List.getElem?_eq_getElem hn, ?_⟩
        have hd3 : (upd H2 l (.lst (xs'.eraseIdx n.toNat))) d = some (.lst ys) := by
          rw [upd_ne ndl]
          exact hd2
        refine ⟨d, ys, _, rfl, rfl, hd3, small1000 (by omega), ⟨xs'.eraseIdx n.toNat, ys ++ [xs'[n.toNat]], rfl, ((kb.trans k2).own nl nlb).own nd0 ndb, ?_, upd_same, ?_, ?_, fun y hy' => hx y (List.mem_of_mem_eraseIdx hy'), fun y hy' => ?_⟩, ?_⟩
        · rw [upd_ne ndl.symm, upd_same]
        · rw [List.length_eraseIdx_of_lt hn, List.length_append]
          show xs'.length - 1 + (ys.length + 1) = xs.length
          omega
        · rw [List.length_append]
          show ys.length + 1 ≤ m
          omega
        · rcases List.mem_append.mp hy' with q1 | q1
          · exact hy y q1
          · rw [List.mem_singleton.mp q1]
            exact hx _ (List.getElem_mem hn)
        · rw [lenAt_of hl, lenAt_of (xs := xs'.eraseIdx n.toNat) (by rw [upd_ne ndl.symm, upd_same]), List.length_eraseIdx_of_lt hn]
          omega
      · have e0 : ¬ (ys.length : Int) < (m : Int) := fun z => e (decide_eq_true z)
        exact ⟨_, rfl, q d ys _ nd0 kb hd (by omega) hy⟩
    · obtain ⟨v, hv, a, zs, e, hs, w', hw, i, j, e1, e2, k, hk, h5⟩ := h
      exact ⟨v, hv, a, zs, e, hs, w', hw, i, j, e1, e2, k, hk, hq _ _ h5⟩
end
end Bn

namespace Bn
open PySem PySem.Spec PyProof.Rows L2 BR
def names12 : List Str := ["a", "ab", "abc", "b", "case", "num", "z", "zz", "person", "aa", "quantity", "zzzzzzzz"]
def words12 : List Str := ["a", "b", "sg", "pl", "s", "sgs", "nom", "first", "aa", "pluralis", "x", "num"]
theorem names12_ok : ∀ x ∈ names12, okS x := fun x hx => (okS_iff x).mp ((List.all_eq_true.mp (show names12.all PyData.strOk = true by decide +kernel)) x hx)
theorem words12_ok : ∀ x ∈ words12, okS x := fun x hx => (okS_iff x).mp ((List.all_eq_true.mp (show words12.all PyData.strOk = true by decide +kernel)) x hx)
section
variable {P : Program} {w : World} {K : PySem.W.Frag} {mg : Str → Option Value} {base : Heap}
/-! ### names -/
def spNames : Sp := fun vs H Q _ => ∃ (b : Addr) (m : Nat), vs = [.ref b, .int m] ∧ Bx H b ∧ m ≤ 12 ∧ ∀ (p : Addr) (ns : List Str) H', H p = none → Kb b H H' → H' p = some (.lst (ns.map V.str)) → ns.length = m → (∀ x ∈ ns, okS x) → Q (.ref p) H'
theorem ok_names {f fS : Addr} {fd fdS : FuncData} (F : Fun K "_law_names" "_law_names" s_l_names f fd)
    (kS : PySem.W.keepIn K (.ref fS) = true) (bS : Binds K fdS ["_law_box_here", "_law_words", "_law_many"] []) (gS : mg "_law_some" = some (.ref fS)) (GS : FnOk P w K mg base CX0 3 fS fdS ["_law_box_here", "_law_words", "_law_many"] (spSome K)) : FnOk P w K mg base CX0 4 f fd ["_law_box_here", "_law_many"] spNames := by
  refine F.ok sc_l_names (fun vs H Q E h => ?_) (fun cdv A outer s H vs Q E hr h => ?_)
  · obtain ⟨b, m, rfl, _⟩ := h
    rfl
  · obtain ⟨b, m, rfl, hb, hm, q⟩ := h
    refine ⟨_, pss_cons (ps_set (i := 2) sc_l_names.nd rfl (.inl rfl) (pe_lst (pa_cons pe_str (pa_cons pe_str (pa_cons pe_str (pa_cons pe_str (pa_cons pe_str (pa_cons pe_str (pa_cons pe_str (pa_cons pe_str (pa_cons pe_str (pa_cons pe_str (pa_cons pe_str (pa_cons pe_str pa_nil)))))))))))))) (pss_one (ps_ret (pe_call GS hr (by rfl) gS kS bS .nil pass0 (pa_cons (pv 0) (pa_cons (pv 2) (pa_cons (pv 1) pa_nil)))))), ?_⟩
    refine ⟨(show 12 ≤ sizeLine by decide), fun l nl => ?_⟩
    have hl : (upd H l (.lst (names12.map V.str))) l = some (.lst (names12.map V.str)) := upd_same
    refine ⟨_, rfl, _, rfl, _, rfl, b, l, names12.map V.str, m, rfl, hb.same (same_new nl), .inl (.inl hl), by rw [List.length_map]; exact hm, by rw [List.length_map]; decide, fun p ys H' np k' hp hy hm' => ?_⟩
    obtain ⟨ns, rfl, hn⟩ := strs_all hm'
    rw [List.length_map] at hy
    exact q p ns H' ((Kb.new hb nl).free np) ((Kb.new hb nl).trans k') hp hy fun x hx => names12_ok x (hn x hx)
theorem pick2 (a b : Int) (k : Bool) : atI [V.int a, V.int b] (if k = true then 1 else 0) = some (V.int (if k = true then b else a)) := by cases k <;> rfl
theorem pick3 (a b c n : Int) (h0 : 0 ≤ n) (h1 : n < 3) : ∃ m : Int, atI [V.int a, V.int b, V.int c] n = some (V.int m) ∧ (m = a ∨ m = b ∨ m = c) := by
  have e : n = 0 ∨ n = 1 ∨ n = 2 := by omega
  rcases e with rfl | rfl | rfl
  · exact ⟨a, rfl, .inl rfl⟩
  · exact ⟨b, rfl, .inr (.inl rfl)⟩
  · exact ⟨c, rfl, .inr (.inr rfl)⟩
end
end Bn

namespace BR
open PySem PySem.Spec PyProof.Rows L2
theorem ix_listK {X : Cx} {K : PySem.W.Frag} (e : X.K = K) : IxR X (rIxL K) := by
  subst e
  exact ix_list
theorem pi_listK {X : Cx} {K : PySem.W.Frag} {tg l : Expr} {tl : TE} (e : X.K = K) (h : PE X l tl) : PI X tg l (iList K tl) := by
  subst e
  exact pi_list h
theorem pg_tupK {X : Cx} {K : PySem.W.Frag} {es : List Expr} {k : Nat} {t : TGs} {n : Nat} {pos : Pos} (eK : X.K = K) (h : PG X (.Tuple es k pos) (gTup X.K n t)) : PG X (.Tuple es k pos) (gTup K n t) := by
  subst eK
  exact h
end BR
namespace Bn
open PySem PySem.Spec PyProof.Rows L2 BR GX
theorem take_get {α : Type} {l : List α} {i : Nat} {x : α} (h : l[i]? = some x) : l.take (i + 1) = l.take i ++ [x] := by
  rw [List.take_add_one, h]
  rfl
theorem paired_mono {α β : Type} {R S : α → β → Prop} {l : List α} {m : List β} (h : Paired R l m) (f : ∀ a b, R a b → S a b) : Paired S l m := by
  induction h with
  | nil => exact .nil
  | cons x _ ih => exact .cons (f _ _ x) ih
theorem paired_snoc {α β : Type} {R : α → β → Prop} {l : List α} {m : List β} {a : α} {b : β} (h : Paired R l m) (x : R a b) : Paired R (l ++ [a]) (m ++ [b]) := by
  induction h with
  | nil => exact .cons x .nil
  | cons y _ ih => exact .cons y ih
theorem paired_keep {α β : Type} {R S : α → β → Prop} {l : List α} {m : List β} (h : Paired R l m) (f : ∀ a b, a ∈ l → R a b → S a b) : Paired S l m := by
  induction h with
  | nil => exact .nil
  | cons x _ ih => exact .cons (f _ _ (List.mem_cons_self ..) x) (ih fun a b ha => f a b (List.mem_cons_of_mem _ ha))
theorem paired_get {α β : Type} {R : α → β → Prop} {l : List α} {m : List β} (h : Paired R l m) : ∀ {i : Nat} {a : α}, l[i]? = some a → ∃ b, m[i]? = some b ∧ R a b := by
  induction h with
  | nil => intro i a e; simp at e
  | cons x _ ih =>
    intro i a e
    cases i with
    | zero =>
      have e' := Option.some.inj e
      subst e'
      exact ⟨_, rfl, x⟩
    | succ j => exact ih e
theorem valV_get : ∀ {kvs : List (Key × V)} {i : Nat} {k : Key} {v : V}, (kvs.map (·.1)).Nodup → kvs[i]? = some (k, v) → valV kvs k = some v
  | [], i, k, v, _, h => by simp at h
  | p :: r, 0, k, v, _, h => by
    have e := Option.some.inj h
    subst e
    exact valV_pos rfl
  | p :: r, i + 1, k, v, hn, h => by
    obtain ⟨h1, h2⟩ := List.nodup_cons.mp hn
    have h' : r[i]? = some (k, v) := h
    have hm : k ∈ r.map (·.1) := List.mem_map.mpr ⟨(k, v), List.mem_of_getElem? h', rfl⟩
    rw [valV_neg (fun e => h1 (by rw [show (fun x : Key × V => x.fst) p = k from e]; exact hm))]
    exact valV_get h2 h'
/-! ### marks (rows) -/
abbrev MD := List (Str × Str)
def mkv (ms : MD) : List (Key × V) := ms.map fun e => (.inr e.1, .str e.2)
def mAt (ms : MD) (n : Str) : Option Str := (ms.find? fun e => decide (e.1 = n)).map (·.2)
theorem mAt_cons (e : Str × Str) (b : MD) (n : Str) : mAt (e :: b) n = if e.1 = n then some e.2 else mAt b n := by
  unfold mAt
  rw [List.find?_cons]
  by_cases h : e.1 = n
  · rw [if_pos h, decide_eq_true h]
    rfl
  · rw [if_neg h, decide_eq_false h]
theorem mkv_val (n : Str) : ∀ ms : MD, valV (mkv ms) (.inr n) = (mAt ms n).map V.str
  | [] => rfl
  | e :: ms => by
    rw [mAt_cons]
    show valV ((Sum.inr e.1, V.str e.2) :: mkv ms) (.inr n) = _
    by_cases q : e.1 = n
    · rw [if_pos q]
      exact valV_pos (congrArg Sum.inr q)
    · rw [if_neg q, valV_neg (fun z => q (Sum.inr.inj z))]
      exact mkv_val n ms
def Mk (H : Hp) (m : Addr) (ms : MD) : Prop := H m = some (.dK (mkv ms))
theorem Mk.sameN {Ps : List Addr} {H H' : Hp} {m : Addr} {ms : MD} (h : Mk H m ms) (s : SameN Ps H H') : Mk H' m ms := s.k _ _ nt_dK h
/-! ### rows, groups -/
def Rws (H : Hp) (ns : List Str) (rs : List Addr) (R : List MD) : Prop := Paired (fun r m => Mk H r m ∧ (m.map (·.1)).Nodup ∧ ∀ n ∈ ns, mAt m n ≠ none) rs R
abbrev GD := List (Int × Str)
def Grp (H : Hp) (g : Addr) (ps : GD) : Prop := ∃ ts : List Addr, H g = some (.lst (ts.map V.ref)) ∧ Paired (fun t p => H t = some (.tup [.int p.1, .str p.2])) ts ps
def Gs (H : Hp) (gs : List Addr) (G : List GD) : Prop := Paired (Grp H) gs G
/-- a group's pairs: numbers of rows, or -1, and names -/
def GOk (k : Nat) (ns : List Str) (ps : GD) : Prop := ps.length ≤ 12 ∧ ∀ p ∈ ps, -1 ≤ p.1 ∧ p.1 < k ∧ p.2 ∈ ns
theorem refs_ne_ints (ts : List Addr) : ∀ x y z t : Int, HO.lst (ts.map V.ref) ≠ .lst [.int x, .int y, .int z, .int t] := fun x y z t e => by
  injection e with e1
  cases ts with
  | nil => cases e1
  | cons v r =>
    rw [List.map_cons] at e1
    injection e1 with e2 _
    cases e2
theorem Rws.same {H H' : Hp} {ns : List Str} {rs : List Addr} {R : List MD} (h : Rws H ns rs R) (s : Same H H') : Rws H' ns rs R := paired_mono h fun r m x => ⟨s _ _ x.1, x.2⟩
theorem Rws.sameN {Ps : List Addr} {H H' : Hp} {ns : List Str} {rs : List Addr} {R : List MD} (h : Rws H ns rs R) (s : SameN Ps H H') : Rws H' ns rs R := paired_mono h fun r m x => ⟨s.k _ _ nt_dK x.1, x.2⟩
theorem Rws.kb {b : Addr} {H H' : Hp} {ns : List Str} {rs : List Addr} {R : List MD} (h : Rws H ns rs R) (hb : Bx H b) (k : Kb b H H') : Rws H' ns rs R := paired_mono h fun r m x => ⟨k.k _ _ (ne_bx hb x.1 (fun _ _ _ _ z => by cases z)) x.1, x.2⟩
theorem Grp.same {H H' : Hp} {g : Addr} {ps : GD} (h : Grp H g ps) (s : Same H H') : Grp H' g ps := by
  obtain ⟨ts, h1, h2⟩ := h
  exact ⟨ts, s _ _ h1, paired_mono h2 fun t p e => s _ _ e⟩
theorem Grp.sameN {Ps : List Addr} {H H' : Hp} {g : Addr} {ps : GD} (h : Grp H g ps) (s : SameN Ps H H') : Grp H' g ps := by
  obtain ⟨ts, h1, h2⟩ := h
  exact ⟨ts, s.k _ _ nt_lst h1, paired_mono h2 fun t p e => s.k _ _ nt_tup e⟩
theorem Grp.kb {b : Addr} {H H' : Hp} {g : Addr} {ps : GD} (h : Grp H g ps) (hb : Bx H b) (k : Kb b H H') : Grp H' g ps := by
  obtain ⟨ts, h1, h2⟩ := h
  exact ⟨ts, k.k _ _ (ne_bx hb h1 (refs_ne_ints ts)) h1, paired_mono h2 fun t p e => k.k _ _ (ne_bx hb e (fun _ _ _ _ z => by cases z)) e⟩
theorem Gs.same {H H' : Hp} {gs : List Addr} {G : List GD} (h : Gs H gs G) (s : Same H H') : Gs H' gs G := paired_mono h fun _ _ x => x.same s
theorem Gs.sameN {Ps : List Addr} {H H' : Hp} {gs : List Addr} {G : List GD} (h : Gs H gs G) (s : SameN Ps H H') : Gs H' gs G := paired_mono h fun _ _ x => x.sameN s
theorem Gs.kb {b : Addr} {H H' : Hp} {gs : List Addr} {G : List GD} (h : Gs H gs G) (hb : Bx H b) (k : Kb b H H') : Gs H' gs G := paired_mono h fun _ _ x => x.kb hb k
/-! ### what is asked -/
def aeB (l : List Str) : Bool := l.all fun x => l.all fun y => decide (x = y)
theorem aeB_iff (l : List Str) : aeB l = true ↔ ∀ x ∈ l, ∀ y ∈ l, x = y := by
  unfold aeB
  rw [List.all_eq_true]
  constructor
  · intro h x hx y hy
    exact of_decide_eq_true (List.all_eq_true.mp (h x hx) y hy)
  · intro h x hx
    exact List.all_eq_true.mpr fun y hy => decide_eq_true (h x hx y hy)
def rowI (R : List MD) (n : Int) : Option MD := if 0 ≤ n then R[n.toNat]? else R[R.length - 1]?
def valAt (R : List MD) (n : Int) (f : Str) : Str := ((rowI R n).bind fun m => mAt m f).getD ""
def valsF (R : List MD) (g : GD) : List Str := g.map fun p => valAt R p.1 p.2
def agreedF (R : List MD) (G : List GD) : Bool := G.all fun g => aeB (valsF R g)
/-- the row that a number tells -/
theorem row_at {H : Hp} {ns : List Str} {rs : List Addr} {R : List MD} (h : Rws H ns rs R) {n : Int} {f : Str} (h1 : -1 ≤ n) (h2 : n < R.length) (hR : 1 ≤ R.length) (hf : f ∈ ns) :
    ∃ r m, atI (rs.map V.ref) n = some (V.ref r) ∧ Mk H r m ∧ valV (mkv m) (.inr f) = some (.str (valAt R n f)) ∧ (0 ≤ n → (rs.map V.ref)[n.toNat]? = some (V.ref r)) ∧ (n < 0 → (rs.map V.ref)[rs.length - 1]? = some (V.ref r)) := by
  have hl : rs.length = R.length := Paired.length h
  have key : ∀ j, j < rs.length → rowI R n = R[j]? → atI (rs.map V.ref) n = (rs.map V.ref)[j]? → ∃ r m, atI (rs.map V.ref) n = some (V.ref r) ∧ Mk H r m ∧ valV (mkv m) (.inr f) = some (.str (valAt R n f)) ∧ (rs.map V.ref)[j]? = some (V.ref r) := by
    intro j hj e1 e2
    have hr : rs[j]? = some rs[j] := List.getElem?_eq_getElem hj
    obtain ⟨m, hm, hk, hn, hns⟩ := paired_get h hr
    have e3 : (rs.map V.ref)[j]? = some (V.ref rs[j]) := by rw [List.getElem?_map, hr]; rfl
    refine ⟨rs[j], m, by rw [e2, e3], hk, ?_, e3⟩
    rw [mkv_val]
    cases e : mAt m f with
    | none => exact absurd e (hns f hf)
    | some v =>
      show some (V.str v) = some (V.str (valAt R n f))
      unfold valAt
      rw [e1, hm]
      show _ = some (V.str ((mAt m f).getD ""))
      rw [e]
      rfl
  by_cases c : 0 ≤ n
  · have hj : n.toNat < rs.length := by omega
    obtain ⟨r, m, a1, a2, a3, a4⟩ := key n.toNat hj (by unfold rowI; rw [if_pos c]) (by
      rw [at_of (xs := rs.map V.ref) (z := n) (j := n.toNat) (v := V.ref rs[n.toNat]) (by omega) (by rw [List.getElem?_map, List.getElem?_eq_getElem hj]; rfl), List.getElem?_map, List.getElem?_eq_getElem hj]
      rfl)
    exact ⟨r, m, a1, a2, a3, fun _ => a4, fun z => by omega⟩
  · have e : n = -1 := by omega
    subst e
    have hj : rs.length - 1 < rs.length := by omega
    obtain ⟨r, m, a1, a2, a3, a4⟩ := key (rs.length - 1) hj (by unfold rowI; rw [if_neg c, hl]) (by
      unfold atI ixN
      rw [if_neg c, List.length_map, if_pos (by omega)]
      show (rs.map V.ref)[(-1 + (rs.length : Int)).toNat]? = _
      rw [show (-1 + (rs.length : Int)).toNat = rs.length - 1 by omega])
    exact ⟨r, m, a1, a2, a3, fun z => absurd z c, fun _ => a4⟩
end Bn

namespace Bn
open PySem PySem.Spec PyProof.Rows L2 BR GX
/-- the scope of the generator expression that a def returns all of -/
def gexScope (s : Stmt) : Scope := match defBody s with
  | [.Return (some (.Call _ [.GeneratorExp _ _ sc _] _ _)) _] => sc
  | _ => defScope s
theorem nt_setK {P : Program} {w : World} {a : Addr} {S : Key → Bool} {n : Nat} : NT (SetK P w a S n) := fun _ z => by cases z
/-- how many unlike ones there are, as far as it is asked -/
def CntOk (l : List Str) (c : Nat) : Prop := (c ≤ 1 ↔ aeB l = true) ∧ (c = 0 ↔ l = []) ∧ c ≤ l.length
theorem CntOk.nil : CntOk [] 0 := ⟨⟨fun _ => rfl, fun _ => Nat.zero_le _⟩, ⟨fun _ => rfl, fun _ => rfl⟩, Nat.le_refl _⟩
theorem CntOk.snoc {l : List Str} {c : Nat} (h : CntOk l c) (v : Str) : CntOk (l ++ [v]) (if decide (v ∈ l) = true then c else c + 1) := by
  obtain ⟨h1, h2, h3⟩ := h
  have hne : l ++ [v] ≠ [] := by simp
  have hlen : (l ++ [v]).length = l.length + 1 := by rw [List.length_append]; rfl
  by_cases e : v ∈ l
  · rw [decide_eq_true e, if_pos rfl]
    have hc : c ≠ 0 := fun z => by
      rw [h2.mp z] at e
      cases e
    refine ⟨h1.trans ?_, ⟨fun z => absurd z hc, fun z => absurd z hne⟩, by omega⟩
    rw [aeB_iff, aeB_iff]
    constructor
    · intro h x hx y hy
      have m : ∀ z ∈ l ++ [v], z ∈ l := fun z hz => by
        rcases List.mem_append.mp hz with q | q
        · exact q
        · rw [List.mem_singleton.mp q]
          exact e
      exact h x (m x hx) y (m y hy)
    · intro h x hx y hy
      exact h x (List.mem_append_left _ hx) y (List.mem_append_left _ hy)
  · rw [decide_eq_false e, if_neg Bool.false_ne_true]
    refine ⟨?_, ⟨fun z => absurd z (Nat.succ_ne_zero _), fun z => absurd z hne⟩, by omega⟩
    rw [aeB_iff]
    constructor
    · intro h
      have hl : l = [] := h2.mp (by omega)
      subst hl
      intro x hx y hy
      rw [List.mem_singleton.mp hx, List.mem_singleton.mp hy]
    · intro h
      cases l with
      | nil =>
        have := h2.mpr rfl
        omega
      | cons a r => exact absurd (h v (List.mem_append_right _ (List.mem_singleton.mpr rfl)) a (List.mem_append_left _ (List.mem_cons_self ..))) fun z => e (by rw [z]; exact List.mem_cons_self ..)
def setF (l : List Str) : Key → Bool
  | .inr v => decide (v ∈ l)
  | .inl _ => false
theorem setF_has (l : List Str) (v : Str) : setF l (.inr v) = decide (v ∈ l) := rfl
theorem setF_nil : setF [] = fun _ => false := by
  funext j
  cases j with
  | inl i => rfl
  | inr x => exact decide_eq_false (p := x ∈ ([] : List Str)) List.not_mem_nil
theorem setF_snoc (l : List Str) (v : Str) : (fun j => setF l j || decide (j = (.inr v : Key))) = setF (l ++ [v]) := by
  funext j
  cases j with
  | inl i =>
    show (false || decide ((.inl i : Key) = .inr v)) = false
    rw [decide_eq_false (fun z => by cases z)]
    rfl
  | inr x =>
    show (decide (x ∈ l) || decide ((.inr x : Key) = .inr v)) = decide (x ∈ l ++ [v])
    rw [Bool.eq_iff_iff, Bool.or_eq_true, decide_eq_true_eq, decide_eq_true_eq, decide_eq_true_eq, List.mem_append]
    exact ⟨fun h => h.imp id fun z => List.mem_singleton.mpr (Sum.inr.inj z), fun h => h.imp id fun z => congrArg Sum.inr (List.mem_singleton.mp z)⟩
theorem all_snoc {α : Type} {p : α → Bool} {l : List α} {i : Nat} {x : α} (h : l[i]? = some x) : (l.take (i + 1)).all p = ((l.take i).all p && p x) := by
  rw [take_get h, List.all_append, List.all_cons, List.all_nil, Bool.and_true]
theorem all_bad {α : Type} {p : α → Bool} {l : List α} {i : Nat} {x : α} (h : l[i]? = some x) (hx : p x = false) : l.all p = false := by
  rw [List.all_eq_false]
  exact ⟨x, List.mem_of_getElem? h, by rw [hx]; decide⟩
theorem room_gen {k : Nat} {A : Around} (hr : Room (k + 3) A) (env : Env) : Room k (A.in1.in1.deeper env) := ((hr.in1).in1).deeper env
section
variable {P : Program} {w : World} {K : PySem.W.Frag} {mg : Str → Option Value} {base : Heap}
def spAgreed (Ps : List Addr) : Sp := fun vs H Q _ => ∃ (gl rl : Addr) (gs rs : List Addr) (G : List GD) (R : List MD) (ns : List Str), vs = [.ref gl, .ref rl] ∧ H gl = some (.lst (gs.map V.ref)) ∧ Gs H gs G ∧ H rl = some (.lst (rs.map V.ref)) ∧ Rws H ns rs R ∧ 1 ≤ R.length ∧ (∀ g ∈ G, GOk R.length ns g) ∧ Tabs Ps H ∧
  ∀ H', SameN Ps H H' → Q (.bl (agreedF R G)) H'
theorem ok_agreed {f c0 pT : Addr} {fd : FuncData} {k : Nat} {Ps : List Addr} (F : FunC K "agreed" "agreed" s_agreed f fd c0) (TB : GxR.TabB base mg c0 pT) (hP : pT ∈ Ps) (ma : mg "all" = none) (ml : mg "len" = none) : FnOk P w K mg base CX0 (k + 4) f fd ["groups", "rows"] (spAgreed Ps) := by
  refine F.ok sc_agreed (fun vs H Q E h => ?_) (fun A outer s H vs Q E hr h => ?_)
  · obtain ⟨gl, rl, gs, rs, G, R, ns, rfl, _⟩ := h
    rfl
  · obtain ⟨gl, rl, gs, rs, G, R, ns, rfl, hgl, hG, hrl, hR, hR1, hok, hT, q⟩ := h
    refine ⟨_, pss_one (ps_ret (pe_all (own := [("group", 4)]) (g := gName 4) hr (by rfl) ma (by decide +kernel) TB rfl rfl sc_agreed.nd (pi_list (pv 0))
      (blkOk_by (own := [("group", 4)]) (N := ["groups", "rows", "number", "feature", "group"]) (sc := defScope s_agreed) (by decide +kernel)) rfl (by decide +kernel) rfl
      (fun _ _ _ _ _ _ => pg_name (i := 4) sc_agreed.nd rfl (Or.inl rfl)) (fun _ _ _ _ _ _ => pts_nil)
      (fun _ _ _ _ _ _ => pe_cmpR op_le (pe_callB (call_lenK (P := P) (w := w) rfl rfl) (by rfl) ml PySem.boot_len (pa_cons (pe_scK (P := P) (w := w) (own := [("number", 2), ("feature", 3)]) (tt := tYes) rfl rfl rfl sc_agreed.nd (pi_listK (K := K) rfl (pv 4))
        (blkOk_by (own := [("number", 2), ("feature", 3)]) (N := ["groups", "rows", "number", "feature", "group"]) (sc := gexScope s_agreed) (by decide +kernel))
        (fun _ _ _ _ _ => pg_tupK (K := K) (n := 2) rfl (pg_tup (n := 2) rfl (pgs_cons (pg_name (i := 2) sc_agreed.nd rfl (Or.inl rfl)) (pgs_cons (pg_name (i := 3) sc_agreed.nd rfl (Or.inl rfl)) pgs_nil)))) (fun _ _ _ _ _ => pts_nil)
        (fun _ _ _ _ _ => pe_dget (hu_of (room_gen hr _)) (pe_ix (ix_listK (K := K) rfl) (pv 1) (pv 2) (fun _ _ => rfl)) (pv 3) (fun _ _ => rfl))) pa_nil)) pe_int (nomark _)))), ?_⟩
    refine ⟨_, rfl, gl, rfl, ⟨_, .inl (.inl hgl)⟩, hT _ hP, fun H2 hTb => ?_⟩
    have hlG : gs.length = G.length := Paired.length hG
    have hlR : rs.length = R.length := Paired.length hR
    refine all_it (walk_list (K := K) (a := gl) (xs := gs.map V.ref)) (fun i HX => SameN Ps H HX ∧ agreedF R (G.take i) = true) ⟨SameN.tab hT hP hTb, rfl⟩ (fun i HX _ h => .inl (.inl (h.1.k _ _ nt_lst hgl))) (fun i x HX HX' hi hP' hY => ?_) (fun HX hP' => ?_)
    · obtain ⟨rfl, hx⟩ := hY
      obtain ⟨sX, hin⟩ := hP'
      rw [List.getElem?_map] at hx
      obtain ⟨g, eg, ex⟩ := Option.map_eq_some_iff.mp hx
      subst ex
      obtain ⟨ps, hgi, hg⟩ := paired_get hG eg
      obtain ⟨ts, hgt, hts⟩ := hg.sameN sX
      have hgok := hok ps (List.mem_of_getElem? hgi)
      have hRX := hR.sameN sX
      have hrlX := sX.k _ _ nt_lst hrl
      have hlt : ts.length = ps.length := Paired.length hts
      refine ⟨rfl, tYes_in ?_⟩
      refine ⟨_, rfl, g, rfl, ⟨_, .inl (.inl hgt)⟩, fun D nD => ?_⟩
      refine sc_itK (P := P) (w := w) (walk_list (K := K) (a := g) (xs := ts.map V.ref)) (fun j HY => Same HX' HY ∧ ∃ c, HY D = some (SetK P w D (setF (valsF R (ps.take j))) c) ∧ CntOk (valsF R (ps.take j)) c) ⟨same_new nD, 0, by rw [upd_same]; show _ = some (SetK P w D (setF []) 0); rw [setF_nil], .nil⟩ (fun j HY _ h => .inl (.inl (h.1 _ _ hgt))) (fun j x HY HY' hj hP2 hY2 => ?_) (fun HY hP2 => ?_)
      · obtain ⟨rfl, hx2⟩ := hY2
        obtain ⟨sY, c, hD, hcn⟩ := hP2
        rw [List.getElem?_map] at hx2
        obtain ⟨t, et, ex⟩ := Option.map_eq_some_iff.mp hx2
        subst ex
        obtain ⟨p, hpj, htp⟩ := paired_get hts et
        obtain ⟨v1, v2, v3⟩ := hgok.2 p (List.mem_of_getElem? hpj)
        obtain ⟨r, m, a1, a2, a3, _⟩ := row_at hRX v1 v2 hR1 v3
        have hcl : c ≤ 12 := by
          have := hcn.2.2
          unfold valsF at this
          rw [List.length_map, List.length_take] at this
          have := hgok.1
          omega
        refine ⟨t, _, rfl, .inl (.inl (sY _ _ htp)), rfl, _, _, rfl, _, _, rfl, rfl, rfl, tYes_in ?_⟩
        refine ⟨_, rfl, _, rfl, rl, _, p.1, V.ref r, rfl, rfl, .inl (.inl (sY _ _ hrlX)), a1, _, rfl, r, V.str (valAt R p.1 p.2), rfl, by rw [← a3]; exact DGet.k (k := .inr p.2) (sY _ _ a2), .inr (valAt R p.1 p.2), _, c, rfl, hD, Nat.lt_of_le_of_lt (show c + 1 ≤ 13 by omega) (by decide), Same.own sY nD, ?_⟩
        have ev : valsF R (ps.take (j + 1)) = valsF R (ps.take j) ++ [valAt R p.1 p.2] := by
          rw [take_get hpj]
          unfold valsF
          rw [List.map_append]
          rfl
        rw [ev, setF_has]
        exact ⟨_, by rw [upd_same, setF_snoc], hcn.snoc _⟩
      · obtain ⟨sY, c, hD, hcn⟩ := hP2
        rw [List.length_map, hlt, List.take_length] at hD hcn
        have sXY := sX.trans (SameN.of sX.t sY)
        refine ⟨D, _, c, rfl, hD, _, _, rfl, rfl, _, rfl, fun e => ⟨sXY, ?_⟩, fun e => ?_⟩
        · have e' : ((c : Nat) : Int) ≤ 1 := of_decide_eq_true e
          unfold agreedF at hin ⊢
          rw [all_snoc hgi, hin]
          show (true && aeB (valsF R ps)) = true
          rw [hcn.1.mp (by omega)]
          rfl
        · have e' : ¬ ((c : Nat) : Int) ≤ 1 := of_decide_eq_false e
          have z : agreedF R G = false := by
            unfold agreedF
            refine all_bad hgi ?_
            show aeB (valsF R ps) = false
            rw [Bool.eq_false_iff]
            exact fun y => e' (by have := hcn.1.mpr y; omega)
          have := q HY sXY
          rw [z] at this
          exact this
    · obtain ⟨sX, hin⟩ := hP'
      rw [List.length_map, hlG, List.take_length] at hin
      have := q HX sX
      rw [hin] at this
      exact this
end
end Bn

namespace Bn
open PySem PySem.Spec PyProof.Rows L2 BR GX
theorem cut_strs (vs : List Str) (n : Nat) : cutV (vs.map V.str) none (some (n : Int)) = (vs.take n).map V.str := by
  unfold cutV
  rw [List.length_map, HT.sIx_none, List.drop_zero, HT.sIx_nat, Nat.sub_zero, ← List.map_take]
  congr 1
  by_cases h : n ≤ vs.length
  · rw [Nat.min_eq_left h]
  · rw [Nat.min_eq_right (by omega), List.take_length, List.take_of_length_le (by omega)]
def putM (ms : MD) (n v : Str) : MD := if (ms.any fun e => decide (e.1 = n)) = true then ms.map (fun e => if e.1 = n then (e.1, v) else e) else ms ++ [(n, v)]
theorem mkv_put (n v : Str) : ∀ ms : MD, putK (mkv ms) (.inr n) (.str v) = mkv (putM ms n v) := fun ms => by
  have hany : ((mkv ms).any fun kv => decide (kv.1 = (Sum.inr n : Key))) = ms.any fun e => decide (e.1 = n) := by
    induction ms with
    | nil => rfl
    | cons e ms ih =>
      show (decide ((Sum.inr e.1 : Key) = Sum.inr n) || (mkv ms).any fun kv => decide (kv.1 = (Sum.inr n : Key))) = _
      rw [ih, List.any_cons]
      congr 1
      by_cases q : e.1 = n
      · rw [decide_eq_true q, decide_eq_true (by rw [q])]
      · rw [decide_eq_false q, decide_eq_false (fun z => q (Sum.inr.inj z))]
  unfold putK putM
  rw [hany]
  split
  · unfold mkv
    rw [List.map_map, List.map_map]
    apply List.map_congr_left
    intro e _
    show (if (Sum.inr e.1 : Key) = Sum.inr n then ((Sum.inr e.1 : Key), V.str v) else (Sum.inr e.1, V.str e.2)) = _
    by_cases q : e.1 = n
    · rw [if_pos (by rw [q]), Function.comp, if_pos q]
    · rw [if_neg (fun z => q (Sum.inr.inj z)), Function.comp, if_neg q]
  · unfold mkv
    rw [List.map_append]
    rfl
theorem putM_len (ms : MD) (n v : Str) : (putM ms n v).length ≤ ms.length + 1 := by
  unfold putM
  split
  · rw [List.length_map]
    exact Nat.le_succ _
  · rw [List.length_append]
    exact Nat.le_refl _
theorem putM_keys {ms : MD} (n v : Str) (h : (ms.map (·.1)).Nodup) : ((putM ms n v).map (·.1)).Nodup := by
  unfold putM
  split
  · rw [List.map_map]
    have : ((fun e : Str × Str => e.1) ∘ fun e => if e.1 = n then (e.1, v) else e) = fun e => e.1 := by
      funext e
      show (if e.1 = n then (e.1, v) else e).1 = e.1
      split <;> rfl
    rw [this]
    exact h
  · rename_i hn
    rw [List.map_append, List.nodup_append]
    refine ⟨h, List.nodup_cons.mpr ⟨List.not_mem_nil, List.nodup_nil⟩, fun a ha b hb e => hn ?_⟩
    have hb2 : b = n := List.mem_singleton.mp hb
    obtain ⟨x, hx, ex⟩ := List.mem_map.mp ha
    exact List.any_eq_true.mpr ⟨x, hx, decide_eq_true (by rw [show x.1 = a from ex, e, hb2])⟩
theorem mAt_put (ms : MD) (n v x : Str) : mAt (putM ms n v) x ≠ none ↔ (x = n ∨ mAt ms x ≠ none) := by
  have e := mkv_val x (putM ms n v)
  rw [← mkv_put, valV_put, mkv_val] at e
  by_cases c : x = n
  · rw [if_pos (by rw [c])] at e
    refine ⟨fun _ => .inl c, fun _ z => ?_⟩
    rw [z] at e
    cases e
  · rw [if_neg (fun z => c (Sum.inr.inj z))] at e
    constructor
    · intro h
      refine .inr fun z => h ?_
      rw [z] at e
      cases q : mAt (putM ms n v) x with
      | none => rfl
      | some y =>
        rw [q] at e
        cases e
    · rintro (h | h)
      · exact absurd h c
      · intro z
        rw [z] at e
        cases q : mAt ms x with
        | none => exact h q
        | some y =>
          rw [q] at e
          cases e
theorem pickV (a b : V) (k : Bool) : atI [a, b] (if k = true then 1 else 0) = some (if k = true then b else a) := by cases k <;> rfl
theorem pickI (a b : Int) (k : Bool) : atI [V.int a, V.int b] (if k = true then 1 else 0) = some (V.int (if k = true then b else a)) := by cases k <;> rfl
theorem Rws.updL {H : Hp} {D : Addr} {xs : List V} {o : HO} {ns : List Str} {rs : List Addr} {R : List MD} (h : Rws H ns rs R) (hD : H D = some (.lst xs)) : Rws (upd H D o) ns rs R := paired_mono h fun r m x => ⟨by
  show _ = _
  rw [upd_ne (ne_of x.1 hD (by intro z; cases z))]
  exact x.1, x.2⟩
def words4 : List Str := ["a", "b", "sg", "pl"]
section
variable {P : Program} {w : World} {K : PySem.W.Frag} {mg : Str → Option Value} {base : Heap}
/-! ### rows -/
def spRows : Sp := fun vs H Q _ => ∃ (b nl : Addr) (ns : List Str), vs = [.ref b, .ref nl] ∧ Bx H b ∧ H nl = some (.lst (ns.map V.str)) ∧ 1 ≤ ns.length ∧ ns.length ≤ 6 ∧
  ∀ (p : Addr) (rs : List Addr) (R : List MD) H', H p = none → Kb b H H' → H' p = some (.lst (rs.map V.ref)) → Rws H' ns rs R → 1 ≤ rs.length → rs.length ≤ 12 → Q (.ref p) H'
theorem ok_rows {f fT : Addr} {fd fdT : FuncData} (F : Fun K "_law_rows" "_law_rows" s_l_rows f fd)
    (kT : PySem.W.keepIn K (.ref fT) = true) (bT : Binds K fdT ["_law_box_here", "_law_many"] []) (gT : mg "_law_take" = some (.ref fT)) (GT : FnOk P w K mg base CX0 2 fT fdT ["_law_box_here", "_law_many"] spTake)
    (ml : mg "len" = none) (mr : mg "range" = none) (mi : mg "int" = none) : FnOk P w K mg base CX0 3 f fd ["_law_box_here", "_law_names_here"] spRows := by
  refine F.ok sc_l_rows (fun vs H Q E h => ?_) (fun cdv A outer s H vs Q E hr h => ?_)
  · obtain ⟨b, nl, ns, rfl, _⟩ := h
    rfl
  · obtain ⟨b, nl, ns, rfl, hb, hnl, hn1, hn2, q⟩ := h
    refine ⟨_, pss_cons (ps_set (i := 2) sc_l_rows.nd rfl (.inl rfl) (pe_slice sl_list (pe_lst (pa_cons pe_str (pa_cons pe_str (pa_cons pe_str (pa_cons pe_str pa_nil))))) po_none (po_some (pe_op op_add pe_int (pe_call GT hr (by rfl) gT kT bT .nil pass0 (pa_cons (pv 0) (pa_cons pe_int pa_nil)))))))
      (pss_cons (ps_set (i := 3) sc_l_rows.nd rfl (.inl rfl) (pe_ix ix_list (pv 2) (pe_call GT hr (by rfl) gT kT bT .nil pass0 (pa_cons (pv 0) (pa_cons (pe_callB call_len_seq (by rfl) ml PySem.boot_len (pa_cons (pv 2) pa_nil)) pa_nil))) (fun _ _ => rfl)))
      (pss_cons (ps_set (i := 4) sc_l_rows.nd rfl (.inl rfl) (pe_op op_add pe_int (pe_call GT hr (by rfl) gT kT bT .nil pass0 (pa_cons (pv 0) (pa_cons pe_int pa_nil)))))
      (pss_cons (ps_set (i := 5) sc_l_rows.nd rfl (.inl rfl) (pe_lst pa_nil))
      (pss_cons (ps_for PassesOwn.never rfl (pi_range1 (by rfl) mr (pa_cons (pe_ix ix_list (pe_lst (pa_cons (pe_op op_add pe_int (pe_call GT hr (by rfl) gT kT bT .nil pass0 (pa_cons (pv 0) (pa_cons pe_int pa_nil)))) (pa_cons (pe_op op_add pe_int (pe_call GT hr (by rfl) gT kT bT .nil pass0 (pa_cons (pv 0) (pa_cons pe_int pa_nil)))) pa_nil))) (pe_callTy call_int1 (by rfl) mi (by decide +kernel) (pa_cons (pe_cmpR op_eq (pe_call GT hr (by rfl) gT kT bT .nil pass0 (pa_cons (pv 0) (pa_cons pe_int pa_nil))) pe_int (nomark _)) pa_nil)) (fun _ _ => rfl)) pa_nil)) (pg_name (i := 6) sc_l_rows.nd rfl (.inl rfl))
        (pss_cons (ps_set (i := 7) sc_l_rows.nd rfl (.inl rfl) pe_dnewK)
        (pss_cons (ps_for PassesOwn.never rfl (pi_list (pv 1)) (pg_name (i := 8) sc_l_rows.nd rfl (.inl rfl))
          (pss_one (ps_dput (hu_of hr) (pv 7) (pv 8) (pe_ix ix_list (pe_lst (pa_cons (pe_ix ix_list (pv 2) (pe_call GT hr (by rfl) gT kT bT .nil pass0 (pa_cons (pv 0) (pa_cons (pe_callB call_len_seq (by rfl) ml PySem.boot_len (pa_cons (pv 2) pa_nil)) pa_nil))) (fun _ _ => rfl)) (pa_cons (pv 3) pa_nil))) (pe_callTy call_int1 (by rfl) mi (by decide +kernel) (pa_cons (pe_cmpR op_gt (pe_call GT hr (by rfl) gT kT bT .nil pass0 (pa_cons (pv 0) (pa_cons (pv 4) pa_nil))) pe_int (nomark _)) pa_nil)) (fun _ _ => rfl)) rfl)))
        (pss_one (ps_expr (pe_bm PySem.F.plainAttrs_list PySem.F.slot_list_append PySem.F.type_list_append mt_append (pv 5) (pa_cons (pv 7) pa_nil)))))))
      (pss_one (ps_ret (pv 5))))))), ?_⟩
    -- words
    refine ⟨(show 4 ≤ sizeLine by decide), fun p1 np1 => ?_⟩
    have k1 : Kb b H (upd H p1 (.lst (words4.map V.str))) := Kb.new hb np1
    have hp1 : (upd H p1 (.lst (words4.map V.str))) p1 = some (.lst (words4.map V.str)) := upd_same
    refine ⟨_, rfl, b, 3, rfl, k1.x, by decide, by decide, fun n HA n0 n1 kA => ?_⟩
    have hp1A := kA.k _ _ (ne_bx k1.x hp1 (strs_ne_ints (show 1 ≤ 4 by decide))) hp1
    refine ⟨_, _, rfl, rfl, _, rfl, p1, _, rfl, .inl (.inl hp1A), fun lw nlw => ?_⟩
    obtain ⟨ws, ew, w1, w2⟩ : ∃ ws : List Str, cutV (words4.map V.str) none (some (2 + n)) = ws.map V.str ∧ 1 ≤ ws.length ∧ ws.length ≤ 4 := by
      refine ⟨words4.take (2 + n.toNat), ?_, ?_, ?_⟩
      · rw [show (2 + n : Int) = ((2 + n.toNat : Nat) : Int) by omega]
        exact cut_strs words4 _
      · rw [List.length_take, show words4.length = 4 from rfl]
        omega
      · rw [List.length_take, show words4.length = 4 from rfl]
        omega
    show _
    have kw := (k1.trans kA).trans (Kb.new (o := .lst (ws.map V.str)) kA.x nlw)
    have hlw : (upd HA lw (.lst (ws.map V.str))) lw = some (.lst (ws.map V.str)) := upd_same
    rw [ew]
    generalize upd HA lw (.lst (ws.map V.str)) = H1 at kw hlw ⊢
    have nwb : ∀ {HX : Hp}, Kb b H1 HX → HX lw = some (.lst (ws.map V.str)) := fun k => k.k _ _ (ne_bx kw.x hlw (strs_ne_ints w1)) hlw
    have nnb : ∀ {HX : Hp}, Kb b H1 HX → HX nl = some (.lst (ns.map V.str)) := fun k => (kw.trans k).k _ _ (ne_bx hb hnl (strs_ne_ints hn1)) hnl
    -- main
    refine ⟨_, rfl, _, rfl, _, rfl, lw, _, rfl, .inl (.inl (.inl hlw)), b, _, rfl, kw.x, by rw [List.length_map]; omega, by rw [List.length_map]; omega, fun m HB m0 m1 kB => ?_⟩
    rw [List.length_map] at m1
    have pickw : ∀ (m : Int), 0 ≤ m → m < ws.length → ∃ x : Str, atI (ws.map V.str) m = some (V.str x) := fun m m0 m1 => ⟨ws[m.toNat]'(by omega), at_of (j := m.toNat) (by omega) (by rw [List.getElem?_map, List.getElem?_eq_getElem (by omega)]; rfl)⟩
    obtain ⟨mn, emn⟩ := pickw m m0 m1
    refine ⟨lw, _, m, _, rfl, rfl, .inl (.inl (nwb kB)), emn, ?_⟩
    -- often
    refine ⟨_, rfl, b, 12, rfl, kB.x, by decide, by decide, fun o HC o0 o1 kC => ⟨_, _, rfl, rfl, ?_⟩⟩
    have kBC := kB.trans kC
    -- rows = []
    refine ⟨Nat.zero_le _, fun d nd => ?_⟩
    have kd := kBC.trans (Kb.new (o := .lst []) kC.x nd)
    have nd1 : H1 d = none := kBC.free nd
    have ndb : d ≠ b := (kC.x.ne nd).symm
    have hd : (upd HC d (.lst [])) d = some (.lst []) := upd_same
    generalize upd HC d (.lst []) = HD at kd hd ⊢
    -- the range
    refine ⟨_, rfl, b, 6, rfl, kd.x, by decide, by decide, fun u1 HE u10 u11 kE => ⟨_, _, rfl, rfl, _, rfl, b, 6, rfl, kE.x, by decide, by decide, fun u2 HF u20 u21 kF => ⟨_, _, rfl, rfl, (show 2 ≤ sizeLine by decide), fun p2 np2 => ?_⟩⟩⟩
    have kG := ((kd.trans kE).trans kF).trans (Kb.new (o := .lst [.int (1 + u1), .int (7 + u2)]) kF.x np2)
    have hdG : (upd HF p2 (.lst [.int (1 + u1), .int (7 + u2)])) d = some (.lst []) := (Kb.new (o := .lst [.int (1 + u1), .int (7 + u2)]) kF.x np2).k _ _ ndb ((kE.trans kF).k _ _ ndb hd)
    have hp2 : (upd HF p2 (.lst [.int (1 + u1), .int (7 + u2)])) p2 = some (.lst [.int (1 + u1), .int (7 + u2)]) := upd_same
    have n2b : p2 ≠ b := (kF.x.ne np2).symm
    generalize upd HF p2 (.lst [.int (1 + u1), .int (7 + u2)]) = HG at kG hdG hp2 ⊢
    refine ⟨_, rfl, b, 4, rfl, kG.x, by decide, by decide, fun u3 HI u30 u31 kI => ⟨rfl, .inr ⟨_, rfl, p2, _, _, _, rfl, rfl, .inl (.inl (kI.k _ _ n2b hp2)), pickI _ _ _, ?_⟩⟩⟩
    have kI1 := kG.trans kI
    have hdI := kI.k _ _ ndb hdG
    obtain ⟨cnt, ec, c1, c2⟩ : ∃ cnt : Nat, (if decide (V.int u3 = V.int 0) = true then 7 + u2 else 1 + u1) = ((cnt : Nat) : Int) ∧ 1 ≤ cnt ∧ cnt ≤ 12 := by
      by_cases c : decide (V.int u3 = V.int 0) = true
      · rw [if_pos c]
        exact ⟨(7 + u2).toNat, by omega, by omega, by omega⟩
      · rw [if_neg c]
        exact ⟨(1 + u1).toNat, by omega, by omega, by omega⟩
    rw [ec]
    refine ⟨((cnt : Nat) : Int), rfl, by omega, by omega, ?_⟩
    rw [Int.toNat_natCast]
    refine for_it (walk_range (lo := 0) (n := cnt)) (fun i σ HX => (∃ y6 y7 y8, σ = [some (.ref b), some (.ref nl), some (.ref lw), some (.str mn), some (.int (1 + o)), some (.ref d), y6, y7, y8]) ∧ Kb b H1 HX ∧ ∃ rs R, HX d = some (.lst (rs.map V.ref)) ∧ Rws HX ns rs R ∧ rs.length = i)
      ⟨⟨_, _, _, rfl⟩, kI1, [], [], hdI, .nil, rfl⟩ (fun i σ HX _ _ => trivial) (fun i x σ HX HX' hi hP hY => ?_) (fun σ HX hP => ?_)
    · obtain ⟨rfl, rfl⟩ := hY
      obtain ⟨⟨y6, y7, y8, rfl⟩, kX, rs, R, hdX, hRX, hrl⟩ := hP
      intro r nr
      have nrb : r ≠ b := (kX.x.ne nr).symm
      have ndr : d ≠ r := ne_of_none hdX nr
      have k7 := kX.trans (Kb.new (o := .dK []) kX.x nr)
      have nr1 : H1 r = none := kX.free nr
      have s7 : Same HX' (upd HX' r (.dK [])) := same_new nr
      have hr7 : (upd HX' r (.dK [])) r = some (.dK []) := upd_same
      have hd7 := s7 _ _ hdX
      have hR7 := hRX.same s7
      generalize upd HX' r (.dK []) = HJ at k7 hr7 hd7 hR7 ⊢
      refine ⟨_, rfl, nl, rfl, ⟨_, .inl (.inl (nnb k7))⟩, for_list (K := K) (a := nl) (xs := ns.map V.str) (fun j σ HY => (∃ z8, σ = [some (.ref b), some (.ref nl), some (.ref lw), some (.str mn), some (.int (1 + o)), some (.ref d), some (.int (0 + (i : Nat))), some (.ref r), z8]) ∧ Kb b H1 HY ∧ HY d = some (.lst (rs.map V.ref)) ∧ Rws HY ns rs R ∧ (∀ a ∈ rs, a ≠ r) ∧ ∃ ms : MD, HY r = some (.dK (mkv ms)) ∧ (ms.map (·.1)).Nodup ∧ ms.length ≤ j ∧ ∀ x ∈ ns.take j, mAt ms x ≠ none)
        ⟨⟨_, rfl⟩, k7, hd7, hR7, fun a ha z => ?_, [], hr7, List.nodup_nil, Nat.le_refl _, fun x hx => absurd hx List.not_mem_nil⟩ (fun j σ HY _ h => .inl (.inl (nnb h.2.1))) (fun j x σ HY hx hP => ?_) (fun σ HY hP => ?_)⟩
      · obtain ⟨jj, hj⟩ := List.getElem?_of_mem ha
        obtain ⟨m', _, hm', _⟩ := paired_get hRX hj
        have hm2 : HX' a = some (.dK (mkv m')) := hm'
        rw [z, nr] at hm2
        cases hm2
      · obtain ⟨⟨z8, rfl⟩, kY, hdY, hRY, hne, ms, hrY, hnd, hml, hall⟩ := hP
        rw [List.getElem?_map] at hx
        obtain ⟨nm, en, ex⟩ := Option.map_eq_some_iff.mp hx
        subst ex
        have hjl : j < ns.length := (List.getElem?_eq_some_iff.mp en).1
        -- the value
        refine ⟨_, rfl, _, rfl, _, rfl, lw, _, rfl, .inl (.inl (.inl (nwb kY))), b, _, rfl, kY.x, by rw [List.length_map]; omega, by rw [List.length_map]; omega, fun v1 HZ v10 v11 kZ => ?_⟩
        rw [List.length_map] at v11
        obtain ⟨x1, ex1⟩ := pickw v1 v10 v11
        have kYZ := kY.trans kZ
        refine ⟨lw, _, v1, _, rfl, rfl, .inl (.inl (nwb kYZ)), ex1, _, rfl, (show 2 ≤ sizeLine by decide), fun p3 np3 => ?_⟩
        have k3 := kZ.trans (Kb.new (o := .lst [.str x1, .str mn]) kZ.x np3)
        have hp3 : (upd HZ p3 (.lst [.str x1, .str mn])) p3 = some (.lst [.str x1, .str mn]) := upd_same
        have n3b : p3 ≠ b := (kZ.x.ne np3).symm
        generalize upd HZ p3 (.lst [.str x1, .str mn]) = HW at k3 hp3 ⊢
        refine ⟨_, rfl, _, rfl, b, _, rfl, k3.x, by omega, by omega, fun v2 HV v20 v21 kV' => ⟨_, _, rfl, rfl, .inr ⟨_, rfl, p3, _, _, _, rfl, rfl, .inl (.inl (kV'.k _ _ n3b hp3)), pickV _ _ _, ?_⟩⟩⟩
        have kYV := k3.trans kV'
        have hrV := kYV.k _ _ nrb hrY
        have hdV := kYV.k _ _ ndb hdY
        have hRV := hRY.kb kY.x kYV
        obtain ⟨xv, exv⟩ : ∃ xv : Str, (if decide ((0 : Int) < v2) = true then V.str mn else V.str x1) = V.str xv := by
          by_cases c : decide ((0 : Int) < v2) = true
          · exact ⟨mn, if_pos c⟩
          · exact ⟨x1, if_neg c⟩
        rw [exv]
        have pl := putM_len ms nm xv
        refine ⟨_, rfl, _, rfl, r, _, rfl, DPut.k (k := .inr nm) hrV (by unfold mkv; rw [List.length_map]; exact small1000 (by omega)), ⟨_, rfl⟩, ?_, ?_, ?_, hne, putM ms nm xv, ?_, putM_keys nm xv hnd, by omega, fun x hx => ?_⟩
        · exact (kY.trans kYV).own nr1 nrb
        · rw [upd_ne ndr]
          exact hdV
        · refine paired_keep hRV fun a m ha x => ?_
          have hx := x.1
          exact ⟨by show _ = _; rw [upd_ne (hne a ha)]; exact hx, x.2⟩
        · rw [upd_same, mkv_put]
        · rw [take_get en] at hx
          rw [mAt_put]
          rcases List.mem_append.mp hx with z | z
          · exact .inr (hall x z)
          · exact .inl (List.mem_singleton.mp z)
      · obtain ⟨⟨z8, rfl⟩, kY, hdY, hRY, hne, ms, hrY, hnd, hml, hall⟩ := hP
        rw [List.length_map, List.take_length] at hall
        refine ⟨_, rfl, .inl ⟨rfl, _, .inl (.inl hdY)⟩, _, rfl, d, _, V.ref r, rfl, rfl, hdY, by rw [List.length_map]; exact small1000 (by omega), ⟨_, _, _, rfl⟩, kY.own nd1 ndb, rs ++ [r], R ++ [ms], ?_, Rws.updL (paired_snoc hRY ⟨hrY, hnd, hall⟩) hdY, by rw [List.length_append, hrl]; rfl⟩
        rw [upd_same, List.map_append]
        rfl
    · obtain ⟨⟨y6, y7, y8, rfl⟩, kX, rs, R, hdX, hRX, hrl⟩ := hP
      exact ⟨_, rfl, q d rs R _ (kw.free nd1) (kw.trans kX) hdX hRX (by omega) (by omega)⟩
end
end Bn

namespace Bn
open PySem PySem.Spec PyProof.Rows L2 BR GX
/-! ### neighbours -/
def unlike (vs : List Str) (j : Nat) : Bool := decide (vs[j + 1]? ≠ vs[j]?)
theorem neighbours (vs : List Str) : ((List.range (vs.length - 1)).filter (unlike vs)).isEmpty = aeB vs := by
  rw [Bool.eq_iff_iff, List.isEmpty_iff, List.filter_eq_nil_iff, aeB_iff]
  constructor
  · intro h
    have step : ∀ i, i < vs.length → vs[i]? = vs[0]? := by
      intro i
      induction i with
      | zero => intro _; rfl
      | succ i ih =>
        intro hi
        have h1 := h i (List.mem_range.mpr (by omega))
        have h2 : vs[i + 1]? = vs[i]? := by
          by_cases c : vs[i + 1]? = vs[i]?
          · exact c
          · exact absurd (decide_eq_true c) h1
        rw [h2]
        exact ih (by omega)
    intro x hx y hy
    obtain ⟨i, hi⟩ := List.getElem?_of_mem hx
    obtain ⟨j, hj⟩ := List.getElem?_of_mem hy
    have li := (List.getElem?_eq_some_iff.mp hi).1
    have lj := (List.getElem?_eq_some_iff.mp hj).1
    have e := (step i li).trans (step j lj).symm
    rw [hi, hj] at e
    exact Option.some.inj e
  · intro h j hj hu
    have lj := List.mem_range.mp hj
    have e1 : vs[j + 1]? = some (vs[j + 1]'(by omega)) := List.getElem?_eq_getElem (by omega)
    have e2 : vs[j]? = some (vs[j]'(by omega)) := List.getElem?_eq_getElem (by omega)
    have hu' : vs[j + 1]? ≠ vs[j]? := of_decide_eq_true hu
    refine hu' ?_
    rw [e1, e2]
    exact congrArg some (h _ (List.mem_of_getElem? e1) _ (List.mem_of_getElem? e2))
theorem filter_range_succ (p : Nat → Bool) (i : Nat) : (List.range (i + 1)).filter p = (List.range i).filter p ++ if p i = true then [i] else [] := by
  rw [List.range_succ, List.filter_append]
  congr 1
  by_cases c : p i = true
  · rw [if_pos c, List.filter_cons_of_pos c, List.filter_nil]
  · rw [if_neg c, List.filter_cons_of_neg c, List.filter_nil]
theorem ints_dp {K : PySem.W.Frag} {H : Hp} (f : Nat → Int) : ∀ ks : List Nat, DpAll K H (ks.map fun j => V.int (f j)) (ks.map fun j => PyData.int (f j))
  | [] => .nil
  | k :: ks => .cons (.int _) (ints_dp f ks)
theorem ints_shaped (f : Nat → Int) : ∀ ks : List Nat, PyData.canLayAll0 (ks.map fun j => PyData.int (f j)) = true ∧ PyData.depthAll (ks.map fun j => PyData.int (f j)) = 0
  | [] => ⟨rfl, rfl⟩
  | k :: ks => by
    obtain ⟨a, b⟩ := ints_shaped f ks
    refine ⟨?_, ?_⟩
    · show (true && PyData.canLayAll0 (ks.map fun j => PyData.int (f j))) = true
      rw [a]
      rfl
    · show max 0 (PyData.depthAll (ks.map fun j => PyData.int (f j))) = 0
      rw [b]
      rfl
theorem ints_list_shaped (f : Nat → Int) (ks : List Nat) : SeqAt.shaped (.list (ks.map fun j => PyData.int (f j))) = true := by
  obtain ⟨a, b⟩ := ints_shaped f ks
  show (PyData.canLayAll0 (ks.map fun j => PyData.int (f j)) && decide (PyData.depthAll (ks.map fun j => PyData.int (f j)) + 1 ≤ 64)) = true
  rw [a, b]
  rfl
theorem ints_nil (f : Nat → Int) (ks : List Nat) : PyData.eqv (.list (ks.map fun j => PyData.int (f j))) (.list []) = ks.isEmpty := by
  cases ks with
  | nil => rfl
  | cons v r => rfl
section
variable {P : Program} {w : World} {K : PySem.W.Frag} {mg : Str → Option Value} {base : Heap}
/-! ### group -/
def spGroup : Sp := fun vs H Q _ => ∃ (b rl nl : Addr) (rs : List Addr) (ns : List Str), vs = [.ref b, .ref rl, .ref nl] ∧ Bx H b ∧ H rl = some (.lst (rs.map V.ref)) ∧ 1 ≤ rs.length ∧ rs.length ≤ 12 ∧ H nl = some (.lst (ns.map V.str)) ∧ 1 ≤ ns.length ∧ ns.length ≤ 6 ∧
  ∀ (p : Addr) (ps : GD) H', H p = none → Kb b H H' → Grp H' p ps → GOk rs.length ns ps → Q (.ref p) H'
theorem ok_group {f fT : Addr} {fd fdT : FuncData} (F : Fun K "_law_group" "_law_group" s_l_group f fd)
    (kT : PySem.W.keepIn K (.ref fT) = true) (bT : Binds K fdT ["_law_box_here", "_law_many"] []) (gT : mg "_law_take" = some (.ref fT)) (GT : FnOk P w K mg base CX0 2 fT fdT ["_law_box_here", "_law_many"] spTake)
    (ml : mg "len" = none) (mr : mg "range" = none) (mi : mg "int" = none) : FnOk P w K mg base CX0 3 f fd ["_law_box_here", "_law_rows_here", "_law_names_here"] spGroup := by
  refine F.ok sc_l_group (fun vs H Q E h => ?_) (fun cdv A outer s H vs Q E hr h => ?_)
  · obtain ⟨b, rl, nl, rs, ns, rfl, _⟩ := h
    rfl
  · obtain ⟨b, rl, nl, rs, ns, rfl, hb, hrl, hr1, hr2, hnl, hn1, hn2, q⟩ := h
    refine ⟨_, pss_cons (ps_set (i := 3) sc_l_group.nd rfl (.inl rfl) (pe_lst pa_nil))
      (pss_cons (ps_for PassesOwn.never rfl (pi_range1 (by rfl) mr (pa_cons (pe_ix ix_list (pe_lst (pa_cons (pe_op op_add pe_int (pe_call GT hr (by rfl) gT kT bT .nil pass0 (pa_cons (pv 0) (pa_cons pe_int pa_nil)))) (pa_cons (pe_op op_add pe_int (pe_call GT hr (by rfl) gT kT bT .nil pass0 (pa_cons (pv 0) (pa_cons pe_int pa_nil)))) pa_nil))) (pe_callTy call_int1 (by rfl) mi (by decide +kernel) (pa_cons (pe_cmpR op_eq (pe_call GT hr (by rfl) gT kT bT .nil pass0 (pa_cons (pv 0) (pa_cons pe_int pa_nil))) pe_int (nomark _)) pa_nil)) (fun _ _ => rfl)) pa_nil)) (pg_name (i := 4) sc_l_group.nd rfl (.inl rfl))
        (pss_cons (ps_set (i := 5) sc_l_group.nd rfl (.inl rfl) (pe_op op_sub (pe_call GT hr (by rfl) gT kT bT .nil pass0 (pa_cons (pv 0) (pa_cons (pe_op op_add (pe_callB call_len_seq (by rfl) ml PySem.boot_len (pa_cons (pv 1) pa_nil)) pe_int) pa_nil))) pe_int))
        (pss_one (ps_expr (pe_bm PySem.F.plainAttrs_list PySem.F.slot_list_append PySem.F.type_list_append mt_append (pv 3) (pa_cons (pe_tup (pa_cons (pv 5) (pa_cons (pe_ix ix_list (pv 2) (pe_call GT hr (by rfl) gT kT bT .nil pass0 (pa_cons (pv 0) (pa_cons (pe_callB call_len_seq (by rfl) ml PySem.boot_len (pa_cons (pv 2) pa_nil)) pa_nil))) (fun _ _ => rfl)) pa_nil))) pa_nil))))))
      (pss_one (ps_ret (pv 3)))), ?_⟩
    refine ⟨Nat.zero_le _, fun d nd => ?_⟩
    have kd : Kb b H (upd H d (.lst [])) := Kb.new hb nd
    have ndb : d ≠ b := (hb.ne nd).symm
    have hd : (upd H d (.lst [])) d = some (.lst []) := upd_same
    generalize upd H d (.lst []) = HD at kd hd ⊢
    refine ⟨_, rfl, b, 3, rfl, kd.x, by decide, by decide, fun u1 HE u10 u11 kE => ⟨_, _, rfl, rfl, _, rfl, b, 12, rfl, kE.x, by decide, by decide, fun u2 HF u20 u21 kF => ⟨_, _, rfl, rfl, (show 2 ≤ sizeLine by decide), fun p2 np2 => ?_⟩⟩⟩
    have kG := ((kd.trans kE).trans kF).trans (Kb.new (o := .lst [.int (1 + u1), .int (1 + u2)]) kF.x np2)
    have hdG : (upd HF p2 (.lst [.int (1 + u1), .int (1 + u2)])) d = some (.lst []) := (Kb.new (o := .lst [.int (1 + u1), .int (1 + u2)]) kF.x np2).k _ _ ndb ((kE.trans kF).k _ _ ndb hd)
    have hp2 : (upd HF p2 (.lst [.int (1 + u1), .int (1 + u2)])) p2 = some (.lst [.int (1 + u1), .int (1 + u2)]) := upd_same
    have n2b : p2 ≠ b := (kF.x.ne np2).symm
    generalize upd HF p2 (.lst [.int (1 + u1), .int (1 + u2)]) = HG at kG hdG hp2 ⊢
    refine ⟨_, rfl, b, 3, rfl, kG.x, by decide, by decide, fun u3 HI u30 u31 kI => ⟨rfl, .inr ⟨_, rfl, p2, _, _, _, rfl, rfl, .inl (.inl (kI.k _ _ n2b hp2)), pickI _ _ _, ?_⟩⟩⟩
    have kI1 := kG.trans kI
    have hdI := kI.k _ _ ndb hdG
    obtain ⟨cnt, ec, c1, c2⟩ : ∃ cnt : Nat, (if decide (V.int u3 = V.int 0) = true then 1 + u2 else 1 + u1) = ((cnt : Nat) : Int) ∧ 1 ≤ cnt ∧ cnt ≤ 12 := by
      by_cases c : decide (V.int u3 = V.int 0) = true
      · rw [if_pos c]
        exact ⟨(1 + u2).toNat, by omega, by omega, by omega⟩
      · rw [if_neg c]
        exact ⟨(1 + u1).toNat, by omega, by omega, by omega⟩
    rw [ec]
    refine ⟨((cnt : Nat) : Int), rfl, by omega, by omega, ?_⟩
    rw [Int.toNat_natCast]
    have hrk : ∀ {HX : Hp}, Kb b H HX → HX rl = some (.lst (rs.map V.ref)) := fun k => k.k _ _ (ne_bx hb hrl (refs_ne_ints rs)) hrl
    have hnk : ∀ {HX : Hp}, Kb b H HX → HX nl = some (.lst (ns.map V.str)) := fun k => k.k _ _ (ne_bx hb hnl (strs_ne_ints hn1)) hnl
    refine for_it (walk_range (lo := 0) (n := cnt)) (fun i σ HX => (∃ y4 y5, σ = [some (.ref b), some (.ref rl), some (.ref nl), some (.ref d), y4, y5]) ∧ Kb b H HX ∧ ∃ (ts : List Addr) (ps : GD), HX d = some (.lst (ts.map V.ref)) ∧ Paired (fun t p => HX t = some (.tup [.int p.1, .str p.2])) ts ps ∧ ps.length = i ∧ ∀ p ∈ ps, -1 ≤ p.1 ∧ p.1 < rs.length ∧ p.2 ∈ ns)
      ⟨⟨_, _, rfl⟩, kI1, [], [], hdI, .nil, rfl, fun p hp => absurd hp List.not_mem_nil⟩ (fun i σ HX _ _ => trivial) (fun i x σ HX HX' hi hP hY => ?_) (fun σ HX hP => ?_)
    · obtain ⟨rfl, rfl⟩ := hY
      obtain ⟨⟨y4, y5, rfl⟩, kX, ts, ps, hdX, hts, hpl, hok⟩ := hP
      have hlt : ts.length = ps.length := Paired.length hts
      refine ⟨_, rfl, _, rfl, rl, _, rfl, .inl (.inl (.inl (hrk kX))), _, _, rfl, rfl, b, _, rfl, kX.x, by rw [List.length_map]; omega, by rw [List.length_map]; omega, fun v1 HZ v10 v11 kZ => ⟨_, _, rfl, rfl, ?_⟩⟩
      rw [List.length_map] at v11
      have kXZ := kX.trans kZ
      have hdZ := kZ.k _ _ ndb hdX
      have htsZ := paired_mono hts fun t p e => kZ.k _ _ (ne_bx kX.x e (fun _ _ _ _ z => by cases z)) e
      refine ⟨_, rfl, .inl ⟨rfl, _, .inl (.inl hdZ)⟩, _, rfl, _, rfl, _, rfl, _, rfl, nl, _, rfl, .inl (.inl (.inl (hnk kXZ))), b, _, rfl, kXZ.x, by rw [List.length_map]; omega, by rw [List.length_map]; omega, fun v2 HV v20 v21 kV' => ?_⟩
      rw [List.length_map] at v21
      have kXV := kXZ.trans kV'
      have hdV := kV'.k _ _ ndb hdZ
      have htsV := paired_mono htsZ fun t p e => kV'.k _ _ (ne_bx kXZ.x e (fun _ _ _ _ z => by cases z)) e
      refine ⟨nl, _, v2, _, rfl, rfl, .inl (.inl (hnk kXV)), at_of (j := v2.toNat) (v := V.str (ns[v2.toNat]'(by omega))) (by omega) (by rw [List.getElem?_map, List.getElem?_eq_getElem (by omega)]; rfl), (show 2 ≤ sizeLine by decide), fun t nt => ?_⟩
      have sT : Same HV (upd HV t (.tup [.int (v1 - 1), .str (ns[v2.toNat]'(by omega))])) := same_new nt
      have kT' : Kb b HV (upd HV t (.tup [.int (v1 - 1), .str (ns[v2.toNat]'(by omega))])) := Kb.new kV'.x nt
      have ht : (upd HV t (.tup [.int (v1 - 1), .str (ns[v2.toNat]'(by omega))])) t = some (.tup [.int (v1 - 1), .str (ns[v2.toNat]'(by omega))]) := upd_same
      generalize upd HV t (.tup [.int (v1 - 1), .str (ns[v2.toNat]'(by omega))]) = HW at sT kT' ht ⊢
      have hdW := sT _ _ hdV
      refine ⟨d, _, V.ref t, rfl, rfl, hdW, by rw [List.length_map]; exact small1000 (by omega), ⟨_, _, rfl⟩, (kXV.trans kT').own nd ndb, ts ++ [t], ps ++ [(v1 - 1, ns[v2.toNat]'(by omega))], ?_, ?_, by rw [List.length_append, hpl]; rfl, fun p hp => ?_⟩
      · rw [upd_same, List.map_append]
        rfl
      · refine paired_mono (paired_snoc (R := fun t (p : Int × Str) => HW t = some (.tup [.int p.1, .str p.2])) (paired_mono htsV fun t p e => sT _ _ e) (b := (v1 - 1, ns[v2.toNat]'(by omega))) ht) fun t' p e => ?_
        rw [upd_ne (ne_of e hdW (by intro z; cases z))]
        exact e
      · rcases List.mem_append.mp hp with z | z
        · exact hok p z
        · rw [List.mem_singleton.mp z]
          exact ⟨by show -1 ≤ v1 - 1; omega, by show v1 - 1 < _; omega, List.getElem_mem _⟩
    · obtain ⟨⟨y4, y5, rfl⟩, kX, ts, ps, hdX, hts, hpl, hok⟩ := hP
      exact ⟨_, rfl, q d ps _ nd kX ⟨ts, hdX, hts⟩ ⟨by omega, hok⟩⟩
/-! ### due -/
def spDue : Sp := fun vs H Q _ => ∃ (gl rl : Addr) (gs rs : List Addr) (G : List GD) (R : List MD) (ns : List Str), vs = [.ref gl, .ref rl] ∧ H gl = some (.lst (gs.map V.ref)) ∧ Gs H gs G ∧ H rl = some (.lst (rs.map V.ref)) ∧ Rws H ns rs R ∧ 1 ≤ R.length ∧ (∀ g ∈ G, GOk R.length ns g) ∧
  ∀ H', Same H H' → Q (.bl (agreedF R G)) H'
theorem ok_due {f : Addr} {fd : FuncData} {k : Nat} (F : Fun K "_law_due" "_law_due" s_l_due f fd) (ml : mg "len" = none) (mr : mg "range" = none) : FnOk P w K mg base CX0 (k + 1) f fd ["_law_groups", "_law_rows_here"] spDue := by
  refine F.ok sc_l_due (fun vs H Q E h => ?_) (fun cdv A outer s H vs Q E hr h => ?_)
  · obtain ⟨gl, rl, gs, rs, G, R, ns, rfl, _⟩ := h
    rfl
  · obtain ⟨gl, rl, gs, rs, G, R, ns, rfl, hgl, hG, hrl, hR, hR1, hok, q⟩ := h
    refine ⟨_, pss_cons (ps_for PassesOwn.never rfl (pi_list (pv 0)) (pg_name (i := 2) sc_l_due.nd rfl (.inl rfl))
        (pss_cons (ps_set (i := 3) sc_l_due.nd rfl (.inr rfl) (pe_lst pa_nil))
        (C8.pss_cut (ps_for PassesOwn.never rfl (pi_list (pv 2)) (pg_tup rfl (pgs_cons (pg_name (i := 4) sc_l_due.nd rfl (.inl rfl)) (pgs_cons (pg_name (i := 5) sc_l_due.nd rfl (.inl rfl)) pgs_nil)))
          (pss_cons (ps_set (i := 6) sc_l_due.nd rfl (.inl rfl) (pe_ix ix_list (pv 1) (pe_op op_sub (pe_callB call_len_seq (by rfl) ml PySem.boot_len (pa_cons (pv 1) pa_nil)) pe_int) (fun _ _ => rfl)))
          (C8.pss_cut (ps_if (pt_cmpR op_ge (pv 4) pe_int (nomark _)) (pss_one (ps_set (i := 6) sc_l_due.nd rfl (.inl rfl) (pe_ix ix_list (pv 1) (pv 4) (fun _ _ => rfl)))) pss_nil)
          (pss_one (ps_expr (pe_bm PySem.F.plainAttrs_list PySem.F.slot_list_append PySem.F.type_list_append mt_append (pv 3) (pa_cons (pe_dget (hu_of hr) (pv 6) (pv 5) (fun _ _ => rfl)) pa_nil)))))))
        (pss_one (ps_if (pt_cmpR (op_neD hr.units) (pe_lc (own := [("_law_k", 7)]) (g := gName 7) rfl sc_l_due.nd (pi_range2 (by rfl) mr (pa_cons pe_int (pa_cons (pe_callB call_len_seq (by rfl) ml PySem.boot_len (pa_cons (pv 3) pa_nil)) pa_nil)))
            (blkOk_by (own := [("_law_k", 7)]) (N := ["_law_groups", "_law_rows_here", "_law_group_here", "_law_values", "_law_number", "_law_name", "_law_row", "_law_k"]) (sc := defScope s_l_due) (by decide +kernel))
            (fun _ _ _ _ _ => pg_name (i := 7) sc_l_due.nd rfl (Or.inl rfl)) (fun _ _ _ _ _ => pts_one (pt_cmpR op_ne (pe_ix (ix_listK (K := K) rfl) (pv 3) (pv 7) (fun _ _ => rfl)) (pe_ix (ix_listK (K := K) rfl) (pv 3) (pe_op op_sub (pv 7) pe_int) (fun _ _ => rfl)) (nomark _))) (fun _ _ _ _ _ => pv 7)) (pe_lst pa_nil) (nomark _))
          (pss_one (ps_ret pe_bl)) pss_nil)))))
      (pss_one (ps_ret pe_bl)), ?_⟩
    have hlG : gs.length = G.length := Paired.length hG
    have hlR : rs.length = R.length := Paired.length hR
    refine ⟨_, rfl, gl, rfl, ⟨_, .inl (.inl hgl)⟩, for_list (K := K) (a := gl) (xs := gs.map V.ref) (fun i σ HX => (∃ y2 y3 y4 y5 y6 y7, σ = [some (.ref gl), some (.ref rl), y2, y3, y4, y5, y6, y7]) ∧ Same H HX ∧ agreedF R (G.take i) = true) ⟨⟨_, _, _, _, _, _, rfl⟩, Same.refl _, rfl⟩ (fun i σ HX _ h => .inl (.inl (h.2.1 _ _ hgl))) (fun i x σ HX hx hP => ?_) (fun σ HX hP => ?_)⟩
    · obtain ⟨⟨y2, y3, y4, y5, y6, y7, rfl⟩, sX, hin⟩ := hP
      rw [List.getElem?_map] at hx
      obtain ⟨g, eg, ex⟩ := Option.map_eq_some_iff.mp hx
      subst ex
      obtain ⟨ps, hgi, hg⟩ := paired_get hG eg
      obtain ⟨ts, hgt, hts⟩ := hg.same sX
      have hgok := hok ps (List.mem_of_getElem? hgi)
      have hRX := hR.same sX
      have hrlX := sX _ _ hrl
      have hlt : ts.length = ps.length := Paired.length hts
      refine ⟨Nat.zero_le _, fun d nd => ?_⟩
      have sd : Same HX (upd HX d (.lst [])) := same_new nd
      have hd : (upd HX d (.lst [])) d = some (.lst []) := upd_same
      generalize upd HX d (.lst []) = HD at sd hd ⊢
      refine ⟨fun σ HM => (∃ y4 y5 y6 y7, σ = [some (.ref gl), some (.ref rl), some (.ref g), some (.ref d), y4, y5, y6, y7]) ∧ Same HX HM ∧ HM d = some (.lst ((valsF R ps).map V.str)), ?_, fun σ' HM hM => ?_⟩
      · refine ⟨_, rfl, g, rfl, ⟨_, .inl (.inl (sd _ _ hgt))⟩, for_list (K := K) (a := g) (xs := ts.map V.ref) (fun j σ HY => (∃ y4 y5 y6 y7, σ = [some (.ref gl), some (.ref rl), some (.ref g), some (.ref d), y4, y5, y6, y7]) ∧ Same HX HY ∧ HY d = some (.lst ((valsF R (ps.take j)).map V.str))) ⟨⟨_, _, _, _, rfl⟩, sd, hd⟩ (fun j σ HY _ h => .inl (.inl (h.2.1 _ _ hgt))) (fun j x σ HY hx2 hP => ?_) (fun σ HY hP => ?_)⟩
        · obtain ⟨⟨y4, y5, y6, y7, rfl⟩, sY, hdY⟩ := hP
          rw [List.getElem?_map] at hx2
          obtain ⟨t, et, ex⟩ := Option.map_eq_some_iff.mp hx2
          subst ex
          obtain ⟨p, hpj, htp⟩ := paired_get hts et
          obtain ⟨v1, v2, v3⟩ := hgok.2 p (List.mem_of_getElem? hpj)
          obtain ⟨r, m, a1, a2, a3, a4, a5⟩ := row_at hRX v1 v2 hR1 v3
          refine ⟨t, _, rfl, .inl (.inl (sY _ _ htp)), rfl, _, _, rfl, _, _, rfl, rfl, ?_⟩
          -- row = rows[len(rows) - 1]
          have hl1 : rs.length - 1 < rs.length := by omega
          have elast : (rs.map V.ref)[rs.length - 1]? = some (V.ref (rs[rs.length - 1]'hl1)) := by
            rw [List.getElem?_map, List.getElem?_eq_getElem hl1]
            rfl
          refine ⟨_, rfl, _, rfl, rl, _, rfl, .inl (.inl (.inl (sY _ _ hrlX))), _, _, rfl, rfl, rl, _, _, V.ref (rs[rs.length - 1]'hl1), rfl, rfl, .inl (.inl (sY _ _ hrlX)), at_of (j := rs.length - 1) (by rw [List.length_map]; omega) elast, ?_⟩
          refine ⟨fun σ HM => σ = [some (.ref gl), some (.ref rl), some (.ref g), some (.ref d), some (.int p.1), some (.str p.2), some (.ref r), y7] ∧ HM = HY, ?_, fun σ' HM hM => ?_⟩
          · refine ⟨_, rfl, _, _, rfl, rfl, _, rfl, ite2 (fun e => ?_) (fun e => ⟨?_, rfl⟩)⟩
            · exact ⟨_, rfl, _, rfl, rl, _, p.1, V.ref r, rfl, rfl, .inl (.inl (sY _ _ hrlX)), a1, rfl, rfl⟩
            · have e' : ¬ (0 : Int) ≤ p.1 := fun z => e (decide_eq_true z)
              have a6 := a5 (by omega)
              rw [elast] at a6
              rw [V.ref.inj (Option.some.inj a6)]
              rfl
          · obtain ⟨rfl, rfl⟩ := hM
            refine ⟨_, rfl, .inl ⟨rfl, _, .inl (.inl hdY)⟩, _, rfl, _, rfl, r, V.str (valAt R p.1 p.2), rfl, by rw [← a3]; exact DGet.k (k := .inr p.2) (sY _ _ a2), d, _, V.str (valAt R p.1 p.2), rfl, rfl, hdY, ?_, ⟨_, _, _, _, rfl⟩, Same.own sY nd, ?_⟩
            · rw [List.length_map]
              unfold valsF
              rw [List.length_map, List.length_take]
              have := hgok.1
              exact small1000 (by omega)
            · rw [upd_same, take_get hpj]
              unfold valsF
              rw [List.map_append, List.map_append]
              rfl
        · obtain ⟨⟨y4, y5, y6, y7, rfl⟩, sY, hdY⟩ := hP
          rw [List.length_map, hlt, List.take_length] at hdY
          exact ⟨⟨_, _, _, _, rfl⟩, sY, hdY⟩
      · obtain ⟨⟨y4, y5, y6, y7, rfl⟩, sM, hdM⟩ := hM
        have hvl : (valsF R ps).length = ps.length := by
          unfold valsF
          rw [List.length_map]
        have hpl := hgok.1
        refine ⟨_, rfl, d, _, rfl, .inl (.inl (.inl hdM)), 1, _, rfl, ⟨by decide, by decide, by rw [List.length_map]; omega, by rw [List.length_map]; omega⟩, fun D nD => ?_⟩
        have en : (((((valsF R ps).map V.str).length : Nat) : Int) - 1).toNat = (valsF R ps).length - 1 := by
          rw [List.length_map]
          omega
        rw [en]
        refine lc_range (lo := 1) (n := (valsF R ps).length - 1) (fun j HY => Same HM HY ∧ HY D = some (.lst (((List.range j).filter (unlike (valsF R ps))).map fun j => V.int (1 + (j : Nat))))) ⟨same_new nD, upd_same⟩ (fun j HY hj hP => ?_) (fun HY hP => ?_)
        · obtain ⟨sY, hD⟩ := hP
          have hdY := sY _ _ hdM
          have e1 : ((valsF R ps).map V.str)[j + 1]? = some (V.str ((valsF R ps)[j + 1]'(by omega))) := by
            rw [List.getElem?_map, List.getElem?_eq_getElem (by omega)]
            rfl
          have e2 : ((valsF R ps).map V.str)[j]? = some (V.str ((valsF R ps)[j]'(by omega))) := by
            rw [List.getElem?_map, List.getElem?_eq_getElem (by omega)]
            rfl
          refine ⟨rfl, _, rfl, _, rfl, d, _, _, V.str ((valsF R ps)[j + 1]'(by omega)), rfl, rfl, .inl (.inl hdY), at_of (j := j + 1) (by omega) e1, _, rfl, _, rfl, _, _, rfl, rfl, d, _, _, V.str ((valsF R ps)[j]'(by omega)), rfl, rfl, .inl (.inl hdY), at_of (j := j) (by omega) e2, rfl, _, rfl, ?_⟩
          have eu : (!decide (V.str ((valsF R ps)[j + 1]'(by omega)) = V.str ((valsF R ps)[j]'(by omega)))) = unlike (valsF R ps) j := by
            unfold unlike
            rw [List.getElem?_eq_getElem (show j + 1 < (valsF R ps).length by omega), List.getElem?_eq_getElem (show j < (valsF R ps).length by omega)]
            by_cases c : (valsF R ps)[j + 1]'(by omega) = (valsF R ps)[j]'(by omega)
            · rw [decide_eq_true (by rw [c]), decide_eq_false (fun z => z (by rw [c]))]
              rfl
            · rw [decide_eq_false (fun z => c (V.str.inj z))]
              exact (decide_eq_true (p := some ((valsF R ps)[j + 1]'(by omega)) ≠ some ((valsF R ps)[j]'(by omega))) (fun z => c (Option.some.inj z))).symm
          rw [eu]
          cases hu : unlike (valsF R ps) j with
          | true =>
            refine iteT ⟨_, rfl, _, hD, ?_, Same.own sY nD, ?_⟩
            · rw [List.length_map]
              refine small1000 (Nat.le_trans (List.length_filter_le _ _) ?_)
              rw [List.length_range]
              omega
            · rw [upd_same, filter_range_succ, if_pos hu, List.map_append]
              rfl
          | false =>
            refine iteF ⟨sY, ?_⟩
            rw [filter_range_succ, if_neg (by rw [hu]; decide), List.append_nil]
            exact hD
        · obtain ⟨sY, hD⟩ := hP
          refine ⟨Nat.zero_le _, fun p2 np2 => ?_⟩
          have sm : Same HY (upd HY p2 (.lst [])) := same_new np2
          have sA := (sX.trans sM).trans (sY.trans sm)
          refine ⟨_, _, .lst (.inl (.inl (sm _ _ hD))) (ints_dp _ _), .lst (.inl (.inl upd_same)) .nil, ints_list_shaped _ _, rfl, _, rfl, ?_⟩
          rw [ints_nil, neighbours]
          cases e : aeB (valsF R ps) with
          | true =>
            refine iteF ⟨⟨_, _, _, _, _, _, rfl⟩, sA, ?_⟩
            unfold agreedF at hin ⊢
            rw [all_snoc hgi, hin]
            show (true && aeB (valsF R ps)) = true
            rw [e]
            rfl
          | false =>
            have z : agreedF R G = false := by
              unfold agreedF
              exact all_bad hgi e
            have := q _ sA
            rw [z] at this
            exact iteT this
    · obtain ⟨⟨y2, y3, y4, y5, y6, y7, rfl⟩, sX, hin⟩ := hP
      rw [List.length_map, hlG, List.take_length] at hin
      have := q _ sX
      rw [hin] at this
      exact this
end
end Bn

namespace Bn
open PySem PySem.Spec PyProof.Rows L2 BR GX
theorem _root_.GX.SameN.kb {Ps : List Addr} {b : Addr} {H0 H H' : Hp} (s : SameN Ps H0 H) (nb : H0 b = none) (hb : Bx H b) (k : Kb b H H') : SameN Ps H0 H' := by
  refine ⟨fun x y n e => k.k _ _ (ne_of_none e nb) (s.k x y n e), fun x p e => ?_, fun P hP => ?_⟩
  · obtain ⟨p', e'⟩ := s.q x p e
    exact ⟨p', k.k _ _ (ne_of_none e nb) e'⟩
  · obtain ⟨ps, e, h⟩ := s.t P hP
    exact ⟨ps, k.k _ _ (ne_bx hb e (fun _ _ _ _ z => by cases z)) e, h⟩
theorem _root_.GX.SameN.same {Ps : List Addr} {H0 H H' : Hp} (s : SameN Ps H0 H) (k : Same H H') : SameN Ps H0 H' := s.trans (SameN.of s.t k)
theorem Gs.updD {H : Hp} {D : Addr} {xs : List V} {o : HO} {gs : List Addr} {G : List GD} (h : Gs H gs G) (hn : ∀ g ∈ gs, g ≠ D) (hD : H D = some (.lst xs)) : Gs (upd H D o) gs G := paired_keep h fun g ps hg x => by
  obtain ⟨ts, h1, h2⟩ := x
  refine ⟨ts, by rw [upd_ne (hn g hg)]; exact h1, paired_mono h2 fun t p e => ?_⟩
  rw [upd_ne (ne_of e hD (by intro z; cases z))]
  exact e
theorem paired_rev {α β : Type} {R : α → β → Prop} {l : List α} {m : List β} (h : Paired R l m) : Paired R l.reverse m.reverse := by
  induction h with
  | nil => exact .nil
  | cons x _ ih =>
    rw [List.reverse_cons, List.reverse_cons]
    exact paired_snoc ih x
theorem paired_take {α β : Type} {R : α → β → Prop} {l : List α} {m : List β} (h : Paired R l m) : ∀ n, Paired R (l.take n) (m.take n) := by
  induction h with
  | nil => intro n; rw [List.take_nil, List.take_nil]; exact .nil
  | cons x _ ih =>
    intro n
    cases n with
    | zero => exact .nil
    | succ k => exact .cons x (ih k)
theorem cut_refs (ps : List Addr) : cutV (ps.map V.ref) none (some 1) = (ps.take 1).map V.ref := by
  unfold cutV
  rw [List.length_map, HT.sIx_none, List.drop_zero, show (some (1 : Int)) = some ((1 : Nat) : Int) from rfl, HT.sIx_nat, Nat.sub_zero, ← List.map_take]
  congr 1
  cases ps with
  | nil => rfl
  | cons v r => rw [show min 1 (v :: r).length = 1 by rw [List.length_cons]; omega]
theorem cells_len {ns : List Int} (n : Int) : ((cutV (ns.map V.int) none (some 12)) ++ [V.int n]).length ≤ 13 := by
  rw [List.length_append]
  unfold cutV
  rw [List.length_take]
  have : HT.sIx (ns.map V.int).length (ns.map V.int).length (some 12) ≤ 12 := by
    rw [show (some (12 : Int)) = some ((12 : Nat) : Int) from rfl, HT.sIx_nat]
    omega
  show min _ _ + 1 ≤ 13
  omega
theorem cells_int {ns : List Int} (n : Int) : ∀ v ∈ ((cutV (ns.map V.int) none (some 12)) ++ [V.int n]), ∃ m : Int, v = .int m := by
  intro v hv
  rcases List.mem_append.mp hv with z | z
  · unfold cutV at z
    obtain ⟨m, _, e⟩ := List.mem_map.mp (List.mem_of_mem_drop (List.mem_of_mem_take z))
    exact ⟨m, e.symm⟩
  · exact ⟨n, List.mem_singleton.mp z⟩
/-! ### what was handed in stays -/
def Cps (H : Hp) (gs : List Addr) (tss : List (List Addr)) : Prop := Paired (fun g ts => H g = some (.lst (ts.map V.ref))) gs tss
theorem Gs.cps {H : Hp} {gs : List Addr} {G : List GD} (h : Gs H gs G) : ∃ tss, Cps H gs tss := by
  induction h with
  | nil => exact ⟨[], .nil⟩
  | cons x _ ih =>
    obtain ⟨tss, h⟩ := ih
    obtain ⟨ts, h1, _⟩ := x
    exact ⟨ts :: tss, .cons h1 h⟩
theorem Cps.same {H H' : Hp} {gs : List Addr} {tss : List (List Addr)} (h : Cps H gs tss) (s : Same H H') : Cps H' gs tss := paired_mono h fun _ _ e => s _ _ e
theorem Cps.sameN {Ps : List Addr} {H H' : Hp} {gs : List Addr} {tss : List (List Addr)} (h : Cps H gs tss) (s : SameN Ps H H') : Cps H' gs tss := paired_mono h fun _ _ e => s.k _ _ nt_lst e
theorem eq_same {K : PySem.W.Frag} {H : Hp} {m : Nat} : ∀ ts : List Addr, Paired (EqV K H (m + 1)) (ts.map V.ref) (ts.map V.ref)
  | [] => .nil
  | t :: ts => .cons (.inr (.inl ⟨t, rfl, rfl⟩)) (eq_same ts)
theorem eq_cps {K : PySem.W.Frag} {H : Hp} {m : Nat} {gs : List Addr} {tss : List (List Addr)} (h : Cps H gs tss) : ∀ {qs : List Addr}, Cps H qs tss → Paired (EqV K H (m + 2)) (gs.map V.ref) (qs.map V.ref) := by
  induction h with
  | nil =>
    intro qs k
    cases k
    exact .nil
  | cons x _ ih =>
    intro qs k
    cases k with
    | cons y t => exact .cons (.inr (.inr (.inl ⟨_, _, _, _, rfl, rfl, .inl (.inl x), .inl (.inl y), eq_same _⟩))) (ih t)
theorem mkv_keys {ms : MD} (h : (ms.map (·.1)).Nodup) : ((mkv ms).map (·.1)).Nodup := by
  have e : (mkv ms).map (·.1) = (ms.map (·.1)).map Sum.inr := by
    unfold mkv
    rw [List.map_map, List.map_map]
    rfl
  rw [e]
  exact List.Pairwise.map Sum.inr (fun a b h z => h (Sum.inr.inj z)) h
theorem eq_marks {K : PySem.W.Frag} {H : Hp} {m : Nat} {p r : Addr} {ms : MD} (hp : Mk H p ms) (hr : Mk H r ms) (hn : (ms.map (·.1)).Nodup) : EqV K H (m + 2) (.ref p) (.ref r) := by
  refine .inr (.inr (.inr ⟨p, r, mkv ms, mkv ms, rfl, rfl, hp, hr, rfl, fun q hq => ?_⟩))
  obtain ⟨i, hi⟩ := List.getElem?_of_mem hq
  refine ⟨q.2, valV_get (k := q.1) (v := q.2) (mkv_keys hn) hi, .inl ⟨rfl, ?_⟩⟩
  obtain ⟨e, _, ee⟩ := List.mem_map.mp hq
  rw [← ee]
  rfl
theorem eq_rows {K : PySem.W.Frag} {H : Hp} {m : Nat} {ns : List Str} {rs : List Addr} {R : List MD} (h : Rws H ns rs R) : ∀ {qs : List Addr}, Rws H ns qs R → Paired (EqV K H (m + 2)) (rs.map V.ref) (qs.map V.ref) := by
  induction h with
  | nil =>
    intro qs k
    cases k
    exact .nil
  | cons x _ ih =>
    intro qs k
    cases k with
    | cons y t => exact .cons (eq_marks x.1 y.1 x.2.1) (ih t)
section
variable {P : Program} {w : World} {K : PySem.W.Frag} {mg : Str → Option Value} {base : Heap}
abbrev NL : List Str := ["_law_script", "_law_k", "_law_cell_here", "_law_box_here", "_law_names_here", "_law_rows_here", "_law_many", "_law_groups", "_law_kept", "_law_some_here", "_law_found", "_law_turn", "_law_group_here", "_law_row"]
def spLaw (K : PySem.W.Frag) (Ps : List Addr) : Sp := fun vs H Q _ => ∃ (a : Addr) (ns : List Int), vs = [.ref a] ∧ SqL K H a (ns.map V.int) ∧ ns.length ≤ 63 ∧ Tabs Ps H ∧ ∀ H', Q (.bl true) H'
theorem ok_law {f f1 f2 f3 f4 f5 f6 f7 : Addr} {fd d1 d2 d3 d4 d5 d6 d7 : FuncData} {Ps : List Addr} (F : Fun K "law" "law" s_law f fd)
    (k1 : PySem.W.keepIn K (.ref f1) = true) (b1 : Binds K d1 ["_law_cell_here", "_law_k"] []) (g1 : mg "_law_box" = some (.ref f1)) (G1 : FnOk P w K mg base CX0 1 f1 d1 ["_law_cell_here", "_law_k"] spBox)
    (k2 : PySem.W.keepIn K (.ref f2) = true) (b2 : Binds K d2 ["_law_box_here", "_law_many"] []) (g2 : mg "_law_names" = some (.ref f2)) (G2 : FnOk P w K mg base CX0 4 f2 d2 ["_law_box_here", "_law_many"] spNames)
    (k3 : PySem.W.keepIn K (.ref f3) = true) (b3 : Binds K d3 ["_law_box_here", "_law_names_here"] []) (g3 : mg "_law_rows" = some (.ref f3)) (G3 : FnOk P w K mg base CX0 3 f3 d3 ["_law_box_here", "_law_names_here"] spRows)
    (k4 : PySem.W.keepIn K (.ref f4) = true) (b4 : Binds K d4 ["_law_box_here", "_law_many"] []) (g4 : mg "_law_take" = some (.ref f4)) (G4 : FnOk P w K mg base CX0 2 f4 d4 ["_law_box_here", "_law_many"] spTake)
    (k5 : PySem.W.keepIn K (.ref f5) = true) (b5 : Binds K d5 ["_law_box_here", "_law_rows_here", "_law_names_here"] []) (g5 : mg "_law_group" = some (.ref f5)) (G5 : FnOk P w K mg base CX0 3 f5 d5 ["_law_box_here", "_law_rows_here", "_law_names_here"] spGroup)
    (k6 : PySem.W.keepIn K (.ref f6) = true) (b6 : Binds K d6 ["_law_groups", "_law_rows_here"] []) (g6 : mg "_law_due" = some (.ref f6)) (G6 : FnOk P w K mg base CX0 1 f6 d6 ["_law_groups", "_law_rows_here"] spDue)
    (k7 : PySem.W.keepIn K (.ref f7) = true) (b7 : Binds K d7 ["groups", "rows"] []) (g7 : mg "agreed" = some (.ref f7)) (G7 : FnOk P w K mg base CX0 4 f7 d7 ["groups", "rows"] (spAgreed Ps))
    (ml : mg "len" = none) (men : mg "enumerate" = none) (mr : mg "range" = none) (md : mg "dict" = none) (mli : mg "list" = none) (mrv : mg "reversed" = none) (mi : mg "int" = none) (mis : mg "isinstance" = none) (mb : mg "bool" = none) : FnOk P w K mg base CX0 5 f fd ["_law_script"] (spLaw K Ps) := by
  refine F.ok sc_law (fun vs H Q E h => ?_) (fun cdv A outer s H vs Q E hr h => ?_)
  · obtain ⟨a, ns, rfl, _⟩ := h
    rfl
  · obtain ⟨a, ns, rfl, hS, hlen, hT, q⟩ := h
    refine ⟨_, pss_cons (ps_for PassesOwn.never rfl (pi_enum (by rfl) men (pa_cons (pe_op op_cat (pe_slice sl_list (pv 0) po_none (po_some pe_int)) (pe_lst (pa_cons (pe_callB call_len_seq (by rfl) ml PySem.boot_len (pa_cons (pv 0) pa_nil)) pa_nil))) pa_nil))
        (pg_tup rfl (pgs_cons (pg_name (i := 1) sc_law.nd rfl (.inl rfl)) (pgs_cons (pg_name (i := 2) sc_law.nd rfl (.inl rfl)) pgs_nil)))
        (pss_cons (ps_set (i := 3) sc_law.nd rfl (.inr rfl) (pe_call G1 (hr.mono (by decide)) (by rfl) g1 k1 b1 .nil pass0 (pa_cons (pv 2) (pa_cons (pe_op op_add (pv 1) pe_int) pa_nil))))
        (pss_cons (ps_set (i := 4) sc_law.nd rfl (.inr rfl) (pe_call G2 hr (by rfl) g2 k2 b2 .nil pass0 (pa_cons (pv 3) (pa_cons (pe_op op_add pe_int (pe_call G4 (hr.mono (by decide)) (by rfl) g4 k4 b4 .nil pass0 (pa_cons (pv 3) (pa_cons pe_int pa_nil)))) pa_nil))))
        (pss_cons (ps_set (i := 5) sc_law.nd rfl (.inr rfl) (pe_call G3 (hr.mono (by decide)) (by rfl) g3 k3 b3 .nil pass0 (pa_cons (pv 3) (pa_cons (pv 4) pa_nil))))
        (pss_cons (ps_set (i := 6) sc_law.nd rfl (.inl rfl) (pe_ix ix_list (pe_lst (pa_cons (pe_call G4 (hr.mono (by decide)) (by rfl) g4 k4 b4 .nil pass0 (pa_cons (pv 3) (pa_cons pe_int pa_nil))) (pa_cons (pe_call G4 (hr.mono (by decide)) (by rfl) g4 k4 b4 .nil pass0 (pa_cons (pv 3) (pa_cons pe_int pa_nil))) pa_nil))) (pe_callTy call_int1 (by rfl) mi (by decide +kernel) (pa_cons (pe_cmpR op_eq (pe_call G4 (hr.mono (by decide)) (by rfl) g4 k4 b4 .nil pass0 (pa_cons (pv 3) (pa_cons pe_int pa_nil))) pe_int (nomark _)) pa_nil)) (fun _ _ => rfl)))
        (C8.pss_cut (ps_setLc (i := 7) (own := [("_law_turn", 11)]) (g := gName 11) (tt := tYes) rfl sc_law.nd rfl rfl (sw_true rfl rfl rfl (by decide +kernel)) (pi_range1 (by rfl) mr (pa_cons (pv 6) pa_nil))
          (blkOk_by (own := [("_law_turn", 11)]) (N := NL) (sc := defScope s_law) (by decide +kernel))
          (fun _ _ _ _ _ => pg_name (i := 11) sc_law.nd rfl (Or.inl rfl)) (fun _ _ _ _ _ => pts_nil) (fun _ _ _ _ _ => pe_call G5 (hr.mono (by decide)) (by rfl) g5 k5 b5 .nil pass0 (pa_cons (pv 3) (pa_cons (pv 5) (pa_cons (pv 4) pa_nil)))))
        (C8.pss_cut (ps_set (i := 8) sc_law.nd rfl (.inl rfl) (pe_lst (pa_cons
          (pe_lc (own := [("_law_group_here", 12)]) (g := gName 12) (tt := tYes) rfl sc_law.nd (pi_list (pv 7))
            (blkOk_by (own := [("_law_group_here", 12)]) (N := NL) (sc := defScope s_law) (by decide +kernel))
            (fun _ _ _ _ _ => pg_name (i := 12) sc_law.nd rfl (Or.inl rfl)) (fun _ _ _ _ _ => pts_nil) (fun _ _ _ _ _ => pe_callTy (T := "list") (call_listK (K := K) rfl) (by rfl) mli (by decide +kernel) (pa_cons (pv 12) pa_nil)))
          (pa_cons (pe_lc (own := [("_law_row", 13)]) (g := gName 13) (tt := tYes) rfl sc_law.nd (pi_list (pv 5))
            (blkOk_by (own := [("_law_row", 13)]) (N := NL) (sc := defScope s_law) (by decide +kernel))
            (fun _ _ _ _ _ => pg_name (i := 13) sc_law.nd rfl (Or.inl rfl)) (fun _ _ _ _ _ => pts_nil) (fun _ _ _ _ _ => pe_callTy call_dictD (by rfl) md (by decide +kernel) (pa_cons (pv 13) pa_nil))) pa_nil))))
        (C8.pss_cut (ps_for PassesOwn.never rfl (pi_list (pe_lst (pa_cons (pv 7) (pa_cons (pe_slice sl_list (pv 7) po_none (po_some pe_int)) (pa_cons (pe_lst pa_nil) (pa_cons (pe_listRev rfl (by rfl) mli (by rfl) mrv (pv 7)) pa_nil)))))) (pg_name (i := 9) sc_law.nd rfl (.inl rfl))
          (pss_cons (ps_set (i := 10) sc_law.nd rfl (.inl rfl) (pe_call G7 hr (by rfl) g7 k7 b7 .nil pass0 (pa_cons (pv 9) (pa_cons (pv 5) pa_nil))))
          (pss_cons (ps_if (PW.pt (pw_or (pt_not (pt_val (pe_callB call_isi (by rfl) mis (by decide +kernel) (pa_cons (pv 10) (pa_cons (pe_bltn (v := .ty "bool") (by rfl) mb (by decide +kernel) rfl) pa_nil))))) (pw_or1 (pt_cmpR op_ne (pv 10) (pe_call G6 (hr.mono (by decide)) (by rfl) g6 k6 b6 .nil pass0 (pa_cons (pv 9) (pa_cons (pv 5) pa_nil))) (nomark _))))) (pss_one (ps_ret pe_bl)) pss_nil)
          (pss_one (ps_if (pt_cmpR op_ne (pe_call G7 hr (by rfl) g7 k7 b7 .nil pass0 (pa_cons (pv 9) (pa_cons (pv 5) pa_nil))) (pv 10) (nomark _)) (pss_one (ps_ret pe_bl)) pss_nil)))))
        (pss_one (ps_if (pt_cmpR (op_neV hr.units) (pe_lst (pa_cons (pv 7) (pa_cons (pv 5) pa_nil))) (pv 8) (nomark _)) (pss_one (ps_ret pe_bl)) pss_nil))))))))))
      (pss_one (ps_ret pe_bl)), ?_⟩
    refine ⟨_, rfl, 12, rfl, a, _, rfl, hS, fun l1 n1 => ?_⟩
    have s1 : Same H (upd H l1 (.lst (cutV (ns.map V.int) none (some 12)))) := same_new n1
    refine ⟨_, rfl, a, _, rfl, .inl (s1.seq hS), (show 1 ≤ sizeLine by decide), fun l2 n2 => ?_⟩
    have s2 := same_new (o := .lst [.int ((ns.map V.int).length : Int)]) n2
    have hl1 := s2 _ _ (upd_same (H := H) (a := l1) (o := .lst (cutV (ns.map V.int) none (some 12))))
    have hl2 := upd_same (H := upd H l1 (.lst (cutV (ns.map V.int) none (some 12)))) (a := l2) (o := .lst [.int ((ns.map V.int).length : Int)])
    have cl := cells_len (ns := ns) ((ns.map V.int).length : Int)
    have ci := cells_int (ns := ns) ((ns.map V.int).length : Int)
    refine ⟨l1, l2, _, _, rfl, rfl, hl1, hl2, by rw [← List.length_append]; exact line1000 (by omega), fun l3 n3 => ?_⟩
    have s3 := (s1.trans s2).trans (same_new (o := .lst ((cutV (ns.map V.int) none (some 12)) ++ [.int ((ns.map V.int).length : Int)])) n3)
    have hl3 := upd_same (H := upd (upd H l1 (.lst (cutV (ns.map V.int) none (some 12)))) l2 (.lst [.int ((ns.map V.int).length : Int)])) (a := l3) (o := .lst ((cutV (ns.map V.int) none (some 12)) ++ [.int ((ns.map V.int).length : Int)]))
    generalize upd (upd (upd H l1 (.lst (cutV (ns.map V.int) none (some 12)))) l2 (.lst [.int ((ns.map V.int).length : Int)])) l3 (.lst ((cutV (ns.map V.int) none (some 12)) ++ [.int ((ns.map V.int).length : Int)])) = H3 at s3 hl3 ⊢
    generalize (cutV (ns.map V.int) none (some 12)) ++ [V.int ((ns.map V.int).length : Int)] = cells at cl ci hl3 ⊢
    have hT3 : Tabs Ps H3 := hT.same s3
    refine ⟨l3, cells, rfl, .inl (.inl hl3), for_it (walk_enum (K := K) (a := l3) (xs := cells)) (fun i σ H' => (∃ y1 y2 y3 y4 y5 y6 y7 y8 y9 y10 y11 y12 y13, σ = [some (.ref a), y1, y2, y3, y4, y5, y6, y7, y8, y9, y10, y11, y12, y13]) ∧ SameN Ps H3 H') ⟨⟨none, none, none, none, none, none, none, none, none, none, none, none, none, rfl⟩, SameN.refl hT3⟩ (fun i σ H' _ h => .inl (.inl (h.2.k _ _ nt_lst hl3))) (fun i x σ H4 H5 hi hP hY => ?_) (fun σ H' hP => q _)⟩
    obtain ⟨⟨y1, y2, y3, y4, y5, y6, y7, y8, y9, y10, y11, y12, y13, rfl⟩, s34⟩ := hP
    obtain ⟨T, u1, u2, rfl, nT, rfl, e1, e2⟩ := hY
    obtain ⟨cell, rfl⟩ := ci u2 (List.mem_of_getElem? e2)
    have e1' := Option.some.inj e1
    subst e1'
    have s45 : Same H4 (upd H4 T (.tup [.int (i : Nat), .int cell])) := same_new nT
    refine ⟨T, _, rfl, .inl (.inl upd_same), rfl, _, _, rfl, _, _, rfl, rfl, ?_⟩
    refine ⟨_, rfl, _, rfl, _, _, rfl, rfl, cell, _, rfl, fun b H6 nb s6 hb => ?_⟩
    have s36 := (s34.same s45).same s6
    have nb3 : H3 b = none := (s34.same s45).free nb
    -- names
    refine ⟨_, rfl, _, rfl, b, 6, rfl, hb, by decide, by decide, fun n HA n0 n1' kA => ⟨_, _, rfl, rfl, b, (1 + n).toNat, by show [V.ref b, V.int (1 + n)] = [V.ref b, V.int (((1 + n).toNat : Nat) : Int)]; rw [Int.toNat_of_nonneg (by omega)], kA.x, by omega, fun nl nms H7 nnl k7' hnl hnlen hnok => ?_⟩⟩
    have k67 := kA.trans k7'
    have hn1 : 1 ≤ nms.length := by omega
    have hn2 : nms.length ≤ 6 := by omega
    -- rows
    refine ⟨_, rfl, _, rfl, b, nl, nms, rfl, k7'.x, hnl, hn1, hn2, fun rl rs R H8 nrl k8' hrl hR hr1 hr2 => ?_⟩
    have hlR : rs.length = R.length := Paired.length hR
    have hnl8 := k8'.k _ _ (ne_bx k7'.x hnl (strs_ne_ints hn1)) hnl
    -- many
    refine ⟨_, rfl, b, 4, rfl, k8'.x, by decide, by decide, fun v1 HB v10 v11 kB => ⟨_, rfl, b, 13, rfl, kB.x, by decide, by decide, fun v2 HC v20 v21 kC => ⟨(show 2 ≤ sizeLine by decide), fun p2 np2 => ?_⟩⟩⟩
    have kD := (kB.trans kC).trans (Kb.new (o := .lst [.int v1, .int v2]) kC.x np2)
    have hp2 : (upd HC p2 (.lst [.int v1, .int v2])) p2 = some (.lst [.int v1, .int v2]) := upd_same
    have n2b : p2 ≠ b := (kC.x.ne np2).symm
    generalize upd HC p2 (.lst [.int v1, .int v2]) = HD at kD hp2 ⊢
    refine ⟨_, rfl, b, 4, rfl, kD.x, by decide, by decide, fun v3 HE v30 v31 kE => ⟨rfl, .inr ⟨_, rfl, p2, _, _, _, rfl, rfl, .inl (.inl (kE.k _ _ n2b hp2)), pickI _ _ _, ?_⟩⟩⟩
    have k8E := kD.trans kE
    obtain ⟨cnt, ec, c2⟩ : ∃ cnt : Nat, (if decide (V.int v3 = V.int 0) = true then v2 else v1) = ((cnt : Nat) : Int) ∧ cnt ≤ 12 := by
      by_cases c : decide (V.int v3 = V.int 0) = true
      · rw [if_pos c]
        exact ⟨v2.toNat, by omega, by omega⟩
      · rw [if_neg c]
        exact ⟨v1.toNat, by omega, by omega⟩
    rw [ec]
    have hrlE := k8E.k _ _ (ne_bx k8'.x hrl (refs_ne_ints rs)) hrl
    have hnlE := k8E.k _ _ (ne_bx k8'.x hnl8 (strs_ne_ints hn1)) hnl8
    have hRE := hR.kb k8'.x k8E
    -- groups
    refine ⟨fun σ HN => ∃ (M : Addr) (gs : List Addr) (G : List GD), σ = [some (.ref a), some (.int (i : Nat)), some (.int cell), some (.ref b), some (.ref nl), some (.ref rl), some (.int (cnt : Nat)), some (.ref M), y8, y9, y10, y11, y12, y13] ∧ Kb b HE HN ∧ HN M = some (.lst (gs.map V.ref)) ∧ Gs HN gs G ∧ gs.length ≤ 12 ∧ ∀ g ∈ G, GOk rs.length nms g, ?_, fun σ' HN hN => ?_⟩
    · refine ⟨_, rfl, ((cnt : Nat) : Int), rfl, by omega, by omega, fun D nD => ?_⟩
      have nDb : D ≠ b := (kE.x.ne nD).symm
      rw [Int.toNat_natCast]
      refine lc_range (lo := 0) (n := cnt) (fun j HX => Kb b HE HX ∧ ∃ (gs : List Addr) (G : List GD), HX D = some (.lst (gs.map V.ref)) ∧ Gs HX gs G ∧ gs.length = j ∧ (∀ g ∈ gs, g ≠ D) ∧ ∀ g ∈ G, GOk rs.length nms g) ⟨Kb.new kE.x nD, [], [], upd_same, .nil, rfl, (fun g hg => absurd hg List.not_mem_nil), fun g hg => absurd hg List.not_mem_nil⟩ (fun j HX hj hP => ?_) (fun HX hP => ?_)
      · obtain ⟨kX, gs, G, hD, hGs, hgl, hne, hok⟩ := hP
        refine ⟨rfl, tYes_in ?_⟩
        refine ⟨_, rfl, _, rfl, _, rfl, b, rl, nl, rs, nms, rfl, kX.x, kX.k _ _ (ne_bx kE.x hrlE (refs_ne_ints rs)) hrlE, hr1, hr2, kX.k _ _ (ne_bx kE.x hnlE (strs_ne_ints hn1)) hnlE, hn1, hn2, fun p ps HZ np kZ hgp hgok => ?_⟩
        have hDZ := kZ.k _ _ nDb hD
        have hpD : p ≠ D := (ne_of_none hD np).symm
        refine ⟨_, hDZ, by rw [List.length_map]; exact small1000 (by omega), (kX.trans kZ).own nD nDb, gs ++ [p], G ++ [ps], ?_, ?_, by rw [List.length_append, hgl]; rfl, fun g hg => ?_, fun g hg => ?_⟩
        · rw [upd_same, List.map_append]
          rfl
        · refine Gs.updD (paired_snoc (hGs.kb kX.x kZ) hgp) (fun g hg => ?_) hDZ
          rcases List.mem_append.mp hg with z | z
          · exact hne g z
          · rw [List.mem_singleton.mp z]
            exact hpD
        · rcases List.mem_append.mp hg with z | z
          · exact hne g z
          · rw [List.mem_singleton.mp z]
            exact hpD
        · rcases List.mem_append.mp hg with z | z
          · exact hok g z
          · rw [List.mem_singleton.mp z]
            exact hgok
      · obtain ⟨kX, gs, G, hD, hGs, hgl, hne, hok⟩ := hP
        exact ⟨D, gs, G, rfl, kX, hD, hGs, by omega, hok⟩
    obtain ⟨M, gs, G, rfl, kN, hMl, hGs, hgsl, hok⟩ := hN
    have hrlN := kN.k _ _ (ne_bx kE.x hrlE (refs_ne_ints rs)) hrlE
    have hRN := hRE.kb kE.x kN
    have s3N : SameN Ps H3 HN := s36.kb nb3 hb ((k67.trans (k8'.trans k8E)).trans kN)
    obtain ⟨tss, hcp⟩ := hGs.cps
    have hlt : gs.length = tss.length := Paired.length hcp
    -- kept
    refine ⟨fun σ HK => ∃ (kk D1 D2 : Addr) (qs ss : List Addr), σ = [some (.ref a), some (.int (i : Nat)), some (.int cell), some (.ref b), some (.ref nl), some (.ref rl), some (.int (cnt : Nat)), some (.ref M), some (.ref kk), y9, y10, y11, y12, y13] ∧ Same HN HK ∧ HK kk = some (.lst [.ref D1, .ref D2]) ∧ HK D1 = some (.lst (qs.map V.ref)) ∧ Cps HK qs tss ∧ HK D2 = some (.lst (ss.map V.ref)) ∧ Rws HK nms ss R, ?_, fun σ' HK hK => ?_⟩
    · refine ⟨_, rfl, M, rfl, ⟨_, .inl (.inl hMl)⟩, fun D nD => ?_⟩
      refine lc_list (K := K) (a := M) (xs := gs.map V.ref) (fun j HX => Same HN HX ∧ ∃ qs : List Addr, HX D = some (.lst (qs.map V.ref)) ∧ Cps HX qs (tss.take j) ∧ qs.length = j ∧ ∀ g ∈ qs, g ≠ D) ⟨same_new nD, [], upd_same, .nil, rfl, fun g hg => absurd hg List.not_mem_nil⟩ (fun j HX _ h => .inl (.inl (h.1 _ _ hMl))) (fun j x HX hx hP => ?_) (fun HX hP => ?_)
      · obtain ⟨sX, qs, hD, hQ, hql, hne⟩ := hP
        rw [List.getElem?_map] at hx
        obtain ⟨g, eg, ex⟩ := Option.map_eq_some_iff.mp hx
        subst ex
        have hjl : j < gs.length := (List.getElem?_eq_some_iff.mp eg).1
        obtain ⟨ts, hti, hg⟩ := paired_get hcp eg
        refine ⟨rfl, tYes_in ?_⟩
        refine ⟨_, rfl, g, _, rfl, .inl (.inl (.inl (sX _ _ hg))), fun p np => ?_⟩
        have t1 : Same HX (upd HX p (.lst (ts.map V.ref))) := same_new np
        have hp : (upd HX p (.lst (ts.map V.ref))) p = some (.lst (ts.map V.ref)) := upd_same
        have hpD : p ≠ D := (ne_of_none hD np).symm
        generalize upd HX p (.lst (ts.map V.ref)) = HZ at t1 hp ⊢
        have hDZ := t1 _ _ hD
        have hne2 : ∀ g ∈ qs ++ [p], g ≠ D := fun g hg => by
          rcases List.mem_append.mp hg with z | z
          · exact hne g z
          · rw [List.mem_singleton.mp z]
            exact hpD
        refine ⟨_, hDZ, by rw [List.length_map]; exact small1000 (by omega), Same.own (sX.trans t1) nD, qs ++ [p], ?_, ?_, by rw [List.length_append, hql]; rfl, hne2⟩
        · rw [upd_same, List.map_append]
          rfl
        · rw [take_get hti]
          refine paired_keep (paired_snoc (R := fun (g : Addr) (ts : List Addr) => HZ g = some (.lst (ts.map V.ref))) (hQ.same t1) hp) fun g ts' hg e => ?_
          rw [upd_ne (hne2 g hg)]
          exact e
      · obtain ⟨sX, qs, hD, hQ, hql, hne⟩ := hP
        rw [List.length_map, hlt, List.take_length] at hQ
        have hrlX := sX _ _ hrlN
        have hRX := hRN.same sX
        refine ⟨_, rfl, rl, rfl, ⟨_, .inl (.inl hrlX)⟩, fun D2 nD2 => ?_⟩
        refine lc_list (K := K) (a := rl) (xs := rs.map V.ref) (fun j HY => Same HX HY ∧ ∃ ss : List Addr, HY D2 = some (.lst (ss.map V.ref)) ∧ Rws HY nms ss (R.take j) ∧ ss.length = j) ⟨same_new nD2, [], upd_same, .nil, rfl⟩ (fun j HY _ h => .inl (.inl (h.1 _ _ hrlX))) (fun j x HY hx hP => ?_) (fun HY hP => ?_)
        · obtain ⟨sY, ss, hD2, hSs, hsl⟩ := hP
          rw [List.getElem?_map] at hx
          obtain ⟨r, er, ex⟩ := Option.map_eq_some_iff.mp hx
          subst ex
          have hjl : j < rs.length := (List.getElem?_eq_some_iff.mp er).1
          obtain ⟨m, hmi, hmk, hmr⟩ := paired_get hRX er
          refine ⟨rfl, tYes_in ?_⟩
          refine ⟨_, rfl, r, mkv m, rfl, .inl (sY _ _ hmk), fun p np => ?_⟩
          have t1 : Same HY (upd HY p (.dK (mkv m))) := same_new np
          have hpk : Mk (upd HY p (.dK (mkv m))) p m := upd_same
          generalize upd HY p (.dK (mkv m)) = HZ at t1 hpk ⊢
          have hDZ := t1 _ _ hD2
          refine ⟨_, hDZ, by rw [List.length_map]; exact small1000 (by omega), Same.own (sY.trans t1) nD2, ss ++ [p], ?_, ?_, by rw [List.length_append, hsl]; rfl⟩
          · rw [upd_same, List.map_append]
            rfl
          · rw [take_get hmi]
            exact Rws.updL (paired_snoc (hSs.same t1) ⟨hpk, hmr⟩) hDZ
        · obtain ⟨sY, ss, hD2, hSs, hsl⟩ := hP
          rw [List.length_map, hlR, List.take_length] at hSs
          refine ⟨(show 2 ≤ sizeLine by decide), fun kk nkk => ?_⟩
          have sk : Same HY (upd HY kk (.lst [.ref D, .ref D2])) := same_new nkk
          exact ⟨kk, D, D2, qs, ss, rfl, (sX.trans sY).trans sk, upd_same, sk _ _ (sY _ _ hD), (hQ.same sY).same sk, sk _ _ hD2, hSs.same sk⟩
    obtain ⟨kk, D1, D2, qs, ss, rfl, sK, hkk, hD1, hQ, hD2, hSs⟩ := hK
    have hMK := sK _ _ hMl
    have hGK := hGs.same sK
    have hcK := hcp.same sK
    have hrlK := sK _ _ hrlN
    have hRK := hRN.same sK
    have s3K : SameN Ps H3 HK := s3N.same sK
    have hR1 : 1 ≤ R.length := by omega
    rw [hlR] at hok
    -- the asks
    refine ⟨fun σ HL => (∃ z9 z10 z11 z12 z13, σ = [some (.ref a), some (.int (i : Nat)), some (.int cell), some (.ref b), some (.ref nl), some (.ref rl), some (.int (cnt : Nat)), some (.ref M), some (.ref kk), z9, z10, z11, z12, z13]) ∧ SameN Ps HK HL, ?_, fun σ' HL hL => ?_⟩
    · refine ⟨_, rfl, _, rfl, 1, rfl, M, _, rfl, .inl (.inl hMK), fun q1 nq1 => ?_⟩
      rw [cut_refs]
      have t1 : Same HK (upd HK q1 (.lst ((gs.take 1).map V.ref))) := same_new nq1
      have hq1 : (upd HK q1 (.lst ((gs.take 1).map V.ref))) q1 = some (.lst ((gs.take 1).map V.ref)) := upd_same
      generalize upd HK q1 (.lst ((gs.take 1).map V.ref)) = JA at t1 hq1 ⊢
      refine ⟨Nat.zero_le _, fun q2 nq2 => ?_⟩
      have t2 : Same JA (upd JA q2 (.lst [])) := same_new nq2
      have hq2 : (upd JA q2 (.lst [])) q2 = some (.lst []) := upd_same
      generalize upd JA q2 (.lst []) = JB at t2 hq2 ⊢
      refine ⟨_, rfl, M, _, rfl, .inl (.inl ((t1.trans t2) _ _ hMK)), fun q3 nq3 => ?_⟩
      rw [← List.map_reverse]
      have t3 : Same JB (upd JB q3 (.lst (gs.reverse.map V.ref))) := same_new nq3
      have hq3 : (upd JB q3 (.lst (gs.reverse.map V.ref))) q3 = some (.lst (gs.reverse.map V.ref)) := upd_same
      generalize upd JB q3 (.lst (gs.reverse.map V.ref)) = JC at t3 hq3 ⊢
      refine ⟨(show 4 ≤ sizeLine by decide), fun t nt => ?_⟩
      have t4 : Same JC (upd JC t (.lst [.ref M, .ref q1, .ref q2, .ref q3])) := same_new nt
      have ht : (upd JC t (.lst [.ref M, .ref q1, .ref q2, .ref q3])) t = some (.lst [.ref M, .ref q1, .ref q2, .ref q3]) := upd_same
      generalize upd JC t (.lst [.ref M, .ref q1, .ref q2, .ref q3]) = JD at t4 ht ⊢
      have tt := ((t1.trans t2).trans t3).trans t4
      have items : ∀ (j : Nat) (x : V), [V.ref M, .ref q1, .ref q2, .ref q3][j]? = some x → ∃ (l : Addr) (hs : List Addr) (G' : List GD), x = .ref l ∧ JD l = some (.lst (hs.map V.ref)) ∧ Gs JD hs G' ∧ ∀ g ∈ G', GOk R.length nms g := by
        intro j x hx
        match j, hx with
        | 0, hx => exact ⟨M, gs, G, (Option.some.inj hx).symm, tt _ _ hMK, hGK.same tt, hok⟩
        | 1, hx => exact ⟨q1, gs.take 1, G.take 1, (Option.some.inj hx).symm, ((t2.trans t3).trans t4) _ _ hq1, paired_take (hGK.same tt) 1, fun g hg => hok g (List.mem_of_mem_take hg)⟩
        | 2, hx => exact ⟨q2, [], [], (Option.some.inj hx).symm, (t3.trans t4) _ _ hq2, .nil, fun g hg => absurd hg List.not_mem_nil⟩
        | 3, hx => exact ⟨q3, gs.reverse, G.reverse, (Option.some.inj hx).symm, t4 _ _ hq3, paired_rev (hGK.same tt), fun g hg => hok g (List.mem_reverse.mp hg)⟩
        | j + 4, hx => exact absurd hx (by simp)
      have sKD : SameN Ps HK JD := SameN.of s3K.t tt
      have hrlD := tt _ _ hrlK
      have hRD := hRK.same tt
      refine ⟨t, rfl, ⟨_, .inl (.inl ht)⟩, for_list (K := K) (a := t) (xs := [.ref M, .ref q1, .ref q2, .ref q3]) (fun j σ HX => (∃ z9 z10 z11 z12 z13, σ = [some (.ref a), some (.int (i : Nat)), some (.int cell), some (.ref b), some (.ref nl), some (.ref rl), some (.int (cnt : Nat)), some (.ref M), some (.ref kk), z9, z10, z11, z12, z13]) ∧ SameN Ps JD HX) ⟨⟨_, _, _, _, _, rfl⟩, SameN.refl sKD.t⟩ (fun j σ HX _ h => .inl (.inl (h.2.k _ _ nt_lst ht))) (fun j x σ HX hx hP => ?_) (fun σ HX hP => ⟨hP.1, sKD.trans hP.2⟩)⟩
      obtain ⟨⟨z9, z10, z11, z12, z13, rfl⟩, sX⟩ := hP
      obtain ⟨l, hs, G', rfl, hl, hG', hok'⟩ := items j x hx
      refine ⟨_, rfl, _, rfl, l, rl, hs, rs, G', R, nms, rfl, sX.k _ _ nt_lst hl, hG'.sameN sX, sX.k _ _ nt_lst hrlD, hRD.sameN sX, hR1, hok', sX.t, fun HA sA => ?_⟩
      have sXA := sX.trans sA
      refine ⟨_, rfl, _, .ty "bool", .type "bool", .type "bool", true, rfl, .ty "bool", .base (.bl _), kit_ty (by decide +kernel), true, rfl, iteF ?_⟩
      refine ⟨_, rfl, _, rfl, _, rfl, l, rl, hs, rs, G', R, nms, rfl, sXA.k _ _ nt_lst hl, hG'.sameN sXA, sXA.k _ _ nt_lst hrlD, hRD.sameN sXA, hR1, hok', fun HB sB => ⟨rfl, false, ?_, iteF ?_⟩⟩
      · show V.bl (!decide (V.bl _ = V.bl _)) = V.bl false
        rw [decide_eq_true rfl]
        rfl
      · have sXB := sXA.same sB
        refine ⟨_, rfl, _, rfl, l, rl, hs, rs, G', R, nms, rfl, sXB.k _ _ nt_lst hl, hG'.sameN sXB, sXB.k _ _ nt_lst hrlD, hRD.sameN sXB, hR1, hok', sXB.t, fun HC sC => ⟨_, rfl, rfl, false, ?_, iteF ⟨⟨_, _, _, _, _, rfl⟩, sXB.trans sC⟩⟩⟩
        show V.bl (!decide (V.bl _ = V.bl _)) = V.bl false
        rw [decide_eq_true rfl]
        rfl
    obtain ⟨⟨z9, z10, z11, z12, z13, rfl⟩, sR⟩ := hL
    -- what was handed in stays
    refine ⟨_, rfl, _, rfl, (show 2 ≤ sizeLine by decide), fun lz nlz => ?_⟩
    have q9 : Same HL (upd HL lz (.lst [.ref M, .ref rl])) := same_new nlz
    have hlz : (upd HL lz (.lst [.ref M, .ref rl])) lz = some (.lst [.ref M, .ref rl]) := upd_same
    generalize upd HL lz (.lst [.ref M, .ref rl]) = HZ at q9 hlz ⊢
    have sZ : SameN Ps HK HZ := sR.same q9
    refine ⟨_, rfl, lz, kk, _, _, 5, rfl, rfl, .inl (.inl hlz), .inl (.inl (sZ.k _ _ nt_lst hkk)), by decide, ?_, false, rfl, iteF ⟨⟨_, _, _, _, _, _, _, _, _, _, _, _, _, rfl⟩, s3K.trans sZ⟩⟩
    refine .cons (.inr (.inr (.inl ⟨M, D1, _, _, rfl, rfl, .inl (.inl (sZ.k _ _ nt_lst hMK)), .inl (.inl (sZ.k _ _ nt_lst hD1)), eq_cps (m := 2) (hcK.sameN sZ) (hQ.sameN sZ)⟩))) (.cons ?_ .nil)
    exact .inr (.inr (.inl ⟨rl, D2, _, _, rfl, rfl, .inl (.inl (sZ.k _ _ nt_lst hrlK)), .inl (.inl (sZ.k _ _ nt_lst hD2)), eq_rows (m := 2) (hRK.sameN sZ) (hSs.sameN sZ)⟩))
end
end Bn

namespace Bn
open PySem PySem.Spec PyProof.Rows L2 BR GX
theorem all_mk {q : Program} {l : PySem.W.OpenLaw} {w : World} {K : PySem.W.Frag} {h : Heap} {mg : Str → Option Value} {fa f1 f2 f3 f4 f5 f6 f7 f8 f9 f10 : Addr} (X : K.In h) (G : h.Ns mainGlobals mg) (hfa : mg "law" = some (.ref fa)) (T : TabsTop q mg h)
    {od1 an1 od2 an2 od3 an3 od4 an4 od5 an5 od6 an6 od7 an7 od8 an8 od9 an9 od10 an10 : Option Addr} {sl1 sl2 sl3 sl4 sl5 sl6 sl7 sl8 sl9 sl10 : Array (Option Value)} {oc1 kV1 dc1 pm1 cd1 ct1 oc2 kV2 dc2 pm2 cd2 ct2 oc3 kV3 dc3 pm3 cd3 ct3 oc4 kV4 dc4 pm4 cd4 ct4 oc5 kV5 dc5 pm5 cd5 ct5 oc6 kV6 dc6 pm6 cd6 ct6 oc7 kV7 dc7 pm7 cd7 ct7 oc8 kV8 dc8 pm8 cd8 ct8 oc9 kV9 dc9 pm9 cd9 ct9 oc10 kV10 dc10 pm10 cd10 ct10 : Value}
    (a1 : PySem.W.nsIn K mainGlobals "agreed" = some (some (.ref f1))) (l1 : K.lookup f1 = some ⟨oc1, od1, .func (PySem.W.fnOf "agreed" "agreed" (defArgs s_agreed) (defBody s_agreed) (defScope s_agreed) .none kV1 dc1 pm1 an1 cd1 ct1), sl1⟩) (c1 : PySem.W.codeIn K cd1 "agreed" = true) (k1 : PySem.W.keepIn K (.ref f1) = true)
    (a2 : PySem.W.nsIn K mainGlobals "_law_mixed" = some (some (.ref f2))) (l2 : K.lookup f2 = some ⟨oc2, od2, .func (PySem.W.fnOf "_law_mixed" "_law_mixed" (defArgs s_l_mixed) (defBody s_l_mixed) (defScope s_l_mixed) .none kV2 dc2 pm2 an2 cd2 ct2), sl2⟩) (c2 : PySem.W.codeIn K cd2 "_law_mixed" = true) (k2 : PySem.W.keepIn K (.ref f2) = true)
    (a3 : PySem.W.nsIn K mainGlobals "_law_box" = some (some (.ref f3))) (l3 : K.lookup f3 = some ⟨oc3, od3, .func (PySem.W.fnOf "_law_box" "_law_box" (defArgs s_l_box) (defBody s_l_box) (defScope s_l_box) .none kV3 dc3 pm3 an3 cd3 ct3), sl3⟩) (c3 : PySem.W.codeIn K cd3 "_law_box" = true) (k3 : PySem.W.keepIn K (.ref f3) = true)
    (a4 : PySem.W.nsIn K mainGlobals "_law_take" = some (some (.ref f4))) (l4 : K.lookup f4 = some ⟨oc4, od4, .func (PySem.W.fnOf "_law_take" "_law_take" (defArgs s_l_take) (defBody s_l_take) (defScope s_l_take) .none kV4 dc4 pm4 an4 cd4 ct4), sl4⟩) (c4 : PySem.W.codeIn K cd4 "_law_take" = true) (k4 : PySem.W.keepIn K (.ref f4) = true)
    (a5 : PySem.W.nsIn K mainGlobals "_law_some" = some (some (.ref f5))) (l5 : K.lookup f5 = some ⟨oc5, od5, .func (PySem.W.fnOf "_law_some" "_law_some" (defArgs s_l_some) (defBody s_l_some) (defScope s_l_some) .none kV5 dc5 pm5 an5 cd5 ct5), sl5⟩) (c5 : PySem.W.codeIn K cd5 "_law_some" = true) (k5 : PySem.W.keepIn K (.ref f5) = true)
    (a6 : PySem.W.nsIn K mainGlobals "_law_names" = some (some (.ref f6))) (l6 : K.lookup f6 = some ⟨oc6, od6, .func (PySem.W.fnOf "_law_names" "_law_names" (defArgs s_l_names) (defBody s_l_names) (defScope s_l_names) .none kV6 dc6 pm6 an6 cd6 ct6), sl6⟩) (c6 : PySem.W.codeIn K cd6 "_law_names" = true) (k6 : PySem.W.keepIn K (.ref f6) = true)
    (a7 : PySem.W.nsIn K mainGlobals "_law_rows" = some (some (.ref f7))) (l7 : K.lookup f7 = some ⟨oc7, od7, .func (PySem.W.fnOf "_law_rows" "_law_rows" (defArgs s_l_rows) (defBody s_l_rows) (defScope s_l_rows) .none kV7 dc7 pm7 an7 cd7 ct7), sl7⟩) (c7 : PySem.W.codeIn K cd7 "_law_rows" = true) (k7 : PySem.W.keepIn K (.ref f7) = true)
    (a8 : PySem.W.nsIn K mainGlobals "_law_group" = some (some (.ref f8))) (l8 : K.lookup f8 = some ⟨oc8, od8, .func (PySem.W.fnOf "_law_group" "_law_group" (defArgs s_l_group) (defBody s_l_group) (defScope s_l_group) .none kV8 dc8 pm8 an8 cd8 ct8), sl8⟩) (c8 : PySem.W.codeIn K cd8 "_law_group" = true) (k8 : PySem.W.keepIn K (.ref f8) = true)
    (a9 : PySem.W.nsIn K mainGlobals "_law_due" = some (some (.ref f9))) (l9 : K.lookup f9 = some ⟨oc9, od9, .func (PySem.W.fnOf "_law_due" "_law_due" (defArgs s_l_due) (defBody s_l_due) (defScope s_l_due) .none kV9 dc9 pm9 an9 cd9 ct9), sl9⟩) (c9 : PySem.W.codeIn K cd9 "_law_due" = true) (k9 : PySem.W.keepIn K (.ref f9) = true)
    (a10 : PySem.W.nsIn K mainGlobals "law" = some (some (.ref f10))) (l10 : K.lookup f10 = some ⟨oc10, od10, .func (PySem.W.fnOf "law" "law" (defArgs s_law) (defBody s_law) (defScope s_law) .none kV10 dc10 pm10 an10 cd10 ct10), sl10⟩) (c10 : PySem.W.codeIn K cd10 "law" = true) (k10 : PySem.W.keepIn K (.ref f10) = true)
    (t1 : tabFree K cd1 = true) (r1 : ((recsOf q).any fun e => e.name == ("agreed" : Str)) = true)
    (z1 : PySem.W.nsIn K mainGlobals "len" = some none) (z2 : PySem.W.nsIn K mainGlobals "abs" = some none) (z3 : PySem.W.nsIn K mainGlobals "int" = some none) (z4 : PySem.W.nsIn K mainGlobals "list" = some none) (z5 : PySem.W.nsIn K mainGlobals "dict" = some none) (z6 : PySem.W.nsIn K mainGlobals "isinstance" = some none) (z7 : PySem.W.nsIn K mainGlobals "bool" = some none) (z8 : PySem.W.nsIn K mainGlobals "enumerate" = some none) (z9 : PySem.W.nsIn K mainGlobals "divmod" = some none) (z10 : PySem.W.nsIn K mainGlobals "all" = some none) (z11 : PySem.W.nsIn K mainGlobals "range" = some none) (z12 : PySem.W.nsIn K mainGlobals "reversed" = some none) :
    LamX.LawAtS l w K CX0 5 63 "_law_script" mg fa h := by
  have e := hfa.symm.trans (PySem.W.mg_of X G a10)
  cases e
  obtain ⟨C1, P1, ec1, et1, en1, eh1⟩ := tabOf X T r1 (PySem.W.mg_of X G a1) l1 t1
  subst ec1
  have F1 := fun_mk (st := s_agreed) l1 c1 k1
  have FC1 : FunC K "agreed" "agreed" s_agreed f1 _ C1 := ⟨⟨_, _, _, _, _, _, _, _, rfl, l1, c1⟩, k1⟩
  have b1 := F1.binds (ps := ["groups", "rows"]) fun _ _ _ _ _ _ us hl => match us, hl with | [_, _], _ => rfl
  have g1 := PySem.W.mg_of X G a1
  have F2 := fun_mk (st := s_l_mixed) l2 c2 k2
  have b2 := F2.binds (ps := ["_law_number", "_law_k"]) fun _ _ _ _ _ _ us hl => match us, hl with | [_, _], _ => rfl
  have g2 := PySem.W.mg_of X G a2
  have F3 := fun_mk (st := s_l_box) l3 c3 k3
  have b3 := F3.binds (ps := ["_law_cell_here", "_law_k"]) fun _ _ _ _ _ _ us hl => match us, hl with | [_, _], _ => rfl
  have g3 := PySem.W.mg_of X G a3
  have F4 := fun_mk (st := s_l_take) l4 c4 k4
  have b4 := F4.binds (ps := ["_law_box_here", "_law_many"]) fun _ _ _ _ _ _ us hl => match us, hl with | [_, _], _ => rfl
  have g4 := PySem.W.mg_of X G a4
  have F5 := fun_mk (st := s_l_some) l5 c5 k5
  have b5 := F5.binds (ps := ["_law_box_here", "_law_words", "_law_many"]) fun _ _ _ _ _ _ us hl => match us, hl with | [_, _, _], _ => rfl
  have g5 := PySem.W.mg_of X G a5
  have F6 := fun_mk (st := s_l_names) l6 c6 k6
  have b6 := F6.binds (ps := ["_law_box_here", "_law_many"]) fun _ _ _ _ _ _ us hl => match us, hl with | [_, _], _ => rfl
  have g6 := PySem.W.mg_of X G a6
  have F7 := fun_mk (st := s_l_rows) l7 c7 k7
  have b7 := F7.binds (ps := ["_law_box_here", "_law_names_here"]) fun _ _ _ _ _ _ us hl => match us, hl with | [_, _], _ => rfl
  have g7 := PySem.W.mg_of X G a7
  have F8 := fun_mk (st := s_l_group) l8 c8 k8
  have b8 := F8.binds (ps := ["_law_box_here", "_law_rows_here", "_law_names_here"]) fun _ _ _ _ _ _ us hl => match us, hl with | [_, _, _], _ => rfl
  have g8 := PySem.W.mg_of X G a8
  have F9 := fun_mk (st := s_l_due) l9 c9 k9
  have b9 := F9.binds (ps := ["_law_groups", "_law_rows_here"]) fun _ _ _ _ _ _ us hl => match us, hl with | [_, _], _ => rfl
  have g9 := PySem.W.mg_of X G a9
  have F10 := fun_mk (st := s_law) l10 c10 k10
  have m_len := PySem.W.mg_none_of X G z1
  have m_abs := PySem.W.mg_none_of X G z2
  have m_int := PySem.W.mg_none_of X G z3
  have m_list := PySem.W.mg_none_of X G z4
  have m_dict := PySem.W.mg_none_of X G z5
  have m_isinstance := PySem.W.mg_none_of X G z6
  have m_bool := PySem.W.mg_none_of X G z7
  have m_enumerate := PySem.W.mg_none_of X G z8
  have m_divmod := PySem.W.mg_none_of X G z9
  have m_all := PySem.W.mg_none_of X G z10
  have m_range := PySem.W.mg_none_of X G z11
  have m_reversed := PySem.W.mg_none_of X G z12
  have hT1 : ∀ p ∈ [(C1, P1)], h.get? p.2 = some { cls := .none, data := .fields #[] } := fun p hp => by
    rw [List.mem_singleton.mp hp]
    exact et1

  have hT2 : ∀ p ∈ [(C1, P1)], K.lookup p.2 = none := fun p hp => by
    rw [List.mem_singleton.mp hp]
    exact en1

  have hT3 : ∀ p ∈ [(C1, P1)], PySem.W.CodeHd h p.1 p.2 := fun p hp => by
    rw [List.mem_singleton.mp hp]
    exact eh1

  refine ⟨PySem.W.fnOf "law" "law" (defArgs s_law) (defBody s_law) (defScope s_law) .none kV10 dc10 pm10 an10 cd10 ct10, [(C1, P1)], spLaw K [P1], hT1, hT2, hT3, fun s v => .of_eq rfl, fun H a ns hl _ hT hS => ⟨a, ns, rfl, hS, hl, fun P hP => ?_, fun _ => rfl⟩, fun base _ _ TB => ?_⟩
  · rw [List.mem_singleton.mp hP]
    exact ⟨#[], hT (C1, P1) (by simp), trivial⟩
  have TB1 := tabB_of (TB (C1, P1) (by simp))
  have hP1 : P1 ∈ [P1] := by simp
  have GT := ok_take (P := l.prog) (w := w) (mg := mg) (base := base) F4 F2 b2 g2 m_divmod
  have GS := ok_some F5 F4.kp b4 g4 GT m_len m_list
  have GN := ok_names F6 F5.kp b5 g5 GS
  have GR := ok_rows F7 F4.kp b4 g4 GT m_len m_range m_int
  have GG := ok_group F8 F4.kp b4 g4 GT m_len m_range m_int
  have GD : FnOk l.prog w K mg base CX0 1 f9 _ ["_law_groups", "_law_rows_here"] spDue := ok_due F9 m_len m_range
  have GA : FnOk l.prog w K mg base CX0 4 f1 _ ["groups", "rows"] (spAgreed [P1]) := ok_agreed FC1 TB1 hP1 m_all m_len
  exact ok_law F10 F3.kp b3 g3 (ok_box F3 m_abs m_int) F6.kp b6 g6 GN F7.kp b7 g7 GR F4.kp b4 g4 GT F8.kp b8 g8 GG F9.kp b9 g9 GD F1.kp b1 g1 GA m_len m_enumerate m_range m_dict m_list m_reversed m_int m_isinstance m_bool
end Bn
open PySem PySem.W PyProof.Rows
set_option maxHeartbeats 0 in
theorem PySem.Challenge.cw_speechloom_k06_groups_agreed_holds : PySem.Challenge.rw_speechloom_k06_groups_agreed.Holds := by
  w_on; o_law; k_head; (case hw => w_witness2)
  k_fill
  refine GX.walk_ofTabs (l := PySem.Challenge.rw_speechloom_k06_groups_agreed) (n := 63) (k := 5) (x := "_law_script") (CX := fun _ => L2.CX0) rfl (by decide) rfl ⟨rfl, by decide, by decide⟩ (fun w h Y => PySem.W.kIn_of Y) ?F (fun _ _ _ _ _ h => h)
  case F =>
    intro w mg fa h KX G hmg T
    refine' Bn.all_mk KX G hmg T ?a1 ?l1 ?c1 ?k1 ?a2 ?l2 ?c2 ?k2 ?a3 ?l3 ?c3 ?k3 ?a4 ?l4 ?c4 ?k4 ?a5 ?l5 ?c5 ?k5 ?a6 ?l6 ?c6 ?k6 ?a7 ?l7 ?c7 ?k7 ?a8 ?l8 ?c8 ?k8 ?a9 ?l9 ?c9 ?k9 ?a10 ?l10 ?c10 ?k10 ?t1 ?r1 ?z1 ?z2 ?z3 ?z4 ?z5 ?z6 ?z7 ?z8 ?z9 ?z10 ?z11 ?z12
    (case a1 => k_is); (case l1 => k_is); (case c1 => k_is); (case k1 => k_is); (case a2 => k_is); (case l2 => k_is); (case c2 => k_is); (case k2 => k_is); (case a3 => k_is); (case l3 => k_is); (case c3 => k_is); (case k3 => k_is); (case a4 => k_is); (case l4 => k_is); (case c4 => k_is); (case k4 => k_is); (case a5 => k_is); (case l5 => k_is); (case c5 => k_is); (case k5 => k_is); (case a6 => k_is); (case l6 => k_is); (case c6 => k_is); (case k6 => k_is); (case a7 => k_is); (case l7 => k_is); (case c7 => k_is); (case k7 => k_is); (case a8 => k_is); (case l8 => k_is); (case c8 => k_is); (case k8 => k_is); (case a9 => k_is); (case l9 => k_is); (case c9 => k_is); (case k9 => k_is); (case a10 => k_is); (case l10 => k_is); (case c10 => k_is); (case k10 => k_is); (case z1 => k_is); (case z2 => k_is); (case z3 => k_is); (case z4 => k_is); (case z5 => k_is); (case z6 => k_is); (case z7 => k_is); (case z8 => k_is); (case z9 => k_is); (case z10 => k_is); (case z11 => k_is); (case z12 => k_is)
    case t1 => kernel_rfl
    case r1 => decide +kernel
