import PyProof.Rows.All
import Wide.All
import OpenK.AllK
import Wide.FinOn
import HandS.AnyAll
import HandS.GenList
import HandS.Words
import HandS.Codes
import HandS.EndTab
import HandS.Walk
import PyProof.SumAny
import HandS.Conv
import PyProof.TupleOfGen
import HandS.ForMost
import HandS.IsInst
import HandS.Star
import HandS.DeepEq
import HandS.ListEq
import HandS.SetFor
import HandS.Flow
import KE.KDictSum
import HandS.DictComp
import KE.GoesMore
import KE.KEqDict
import HandS.Deep
import HandS.ListItems
import KE.SortData
import HandS.SortKw
import KE.GoesEnum
import HandS.Lambda
import HandS.Nested
import HandS.CallLocal
import HandS.Strs
import PyProof.StrOps2
import PyProof.DictUpdate
import PySem.Challenge.RW_speechloom_k14_whole_everyday_words
import HandS.Style
import HandS.SetKeys
import HandS.Rev
import HandS.RevRange
import KE.KDictZip
import KE.GoesZip
import HandS.TupAny
set_option Elab.async false
set_option linter.all false
set_option maxRecDepth 100000
set_option maxHeartbeats 4000000
/-! all(elt for target in iter if ..), the element by the layer's own rules, over anything that is walked; the heap may move -/
namespace GX
open PySem PySem.Spec PyProof.Rows L2 GenW

/-- the context of a generator expression's frame that was made at s -/
abbrev gcx (X : Cx) (s : Shared) (H : Hp) (cenv : Env) (fp : List Addr) : Cx :=
  { X with A := X.A.in1.in1.deeper cenv, s_0 := s, H_0 := H, env := cenv, outer := X.stack, stack := cenv :: X.stack, ex := fp, fn := fun _ => false, pn := [], xe := fun _ _ => False }

section
variable {X : Cx} {pins : List (Addr × Obj)} {σ : L2.St} {H : Hp} {s : Shared}
theorem gen_start {scope : Scope} {own : List (Str × Nat)} {fp : List Addr} {h' : Heap} {mm : Str → Option Value} {G : Array GenState} {tk : Nat} {code : Value} (J : Inv X pins σ H s) (blk : BlkOk X.N X.env.scope scope own) (nc : ∀ y ∈ scope.names, y.2 ≠ .cell) (nd : X.N.Nodup)
    (walked : ∀ p ∈ fp, FpOk X pins H p ∧ p < s.heap.objs.size) (frame : h'.Ns s.heap.objs.size mm) (up : ∀ p u, s.heap.get? p = some u → h'.get? p = some u) (bare : AllBare G) :
    Inv (gcx X s H (genEnv scope (cloFrom X.env.cells scope.names []) s.heap.objs.size code builtinsNs X.env) fp) [] (wipe σ (own.map (·.2))) H { s with heap := h', gens := G, toks := tk } := by
  have caught : ∀ n ∈ scope.names, n.2 = .free → ∃ c, X.env.cells.lookup n.1 = some c := fun n hn hf =>
    J.ok.has _ ((blk.free n hn hf).elim .inl .inr)
  -- the closure holds cells of the def alone
  have clo : ∀ {n c}, (n, c) ∈ cloFrom X.env.cells scope.names [] → X.env.cells.lookup n = some c ∧ c < s.heap.objs.size := fun {n c} hin => by
    rcases cloFrom_mem hin with none' | ⟨isFree, rfl⟩
    · exact absurd none' List.not_mem_nil
    · obtain ⟨c₀, at₀⟩ := caught _ isFree rfl
      obtain ⟨val, stands⟩ := J.cell _ _ at₀
      rw [at₀]
      exact ⟨rfl, stands.lt⟩
  generalize env' : genEnv scope (cloFrom X.env.cells scope.names []) s.heap.objs.size code builtinsNs X.env = ge
  have gL : ge.locals = s.heap.objs.size := env' ▸ rfl
  have gC : ge.cells = cloFrom X.env.cells scope.names [] := env' ▸ rfl
  have gS : ge.scope = scope := env' ▸ rfl
  have gF : ge.frame = some ge.locals := env' ▸ rfl
  have down : ∀ {n c}, ge.cells.lookup n = some c → X.env.cells.lookup n = some c ∧ c < s.heap.objs.size := fun {n c} q =>
    clo (PySem.mem_of_lookup (gC ▸ q))
  have freeAt : ∀ {n}, scope.names.lookup n = some .free → ∃ c, ge.cells.lookup n = some c ∧ X.env.cells.lookup n = some c := fun {n} q => by
    obtain ⟨c, inGe⟩ := mem_lookup (cloFrom_has (cells := X.env.cells) (acc := []) (PySem.mem_of_lookup q))
    have inGe' : ge.cells.lookup n = some c := gC ▸ inGe
    exact ⟨c, inGe', (down inGe').1⟩
  have wOk : (gcx X s H ge fp).Ok := {
    mod := J.ok.mod
    kind := by show ge.scope.kind = _; rw [gS]; exact blk.kind
    glob := by show ge.globals = _; rw [← env']; exact J.ok.glob
    blt := by show ge.builtins = _; rw [← env']; rfl
    above := Nat.le_of_eq gL.symm
    inj := fun n n' c q q' => J.ok.inj n n' c (down q).1 (down q').1
    has := fun n kinds => by
      have kinds' : scope.names.lookup n = some .cell ∨ scope.names.lookup n = some .free := gS ▸ kinds
      rcases kinds' with isCell | isFree
      · exact absurd rfl (nc _ (PySem.mem_of_lookup isCell))
      · exact (freeAt isFree).imp fun _ q => q.1
    cab := fun _ _ z _ => absurd z Bool.false_ne_true
    hd := J.ok.hd
    frames := Around.frames_deeper J.ok.frames
    stk := .inr ⟨rfl, gF⟩
    exf := fun p hp => ⟨by show p ≠ ge.locals; rw [gL]; exact Nat.ne_of_lt (walked p hp).2, fun n c q => (walked p hp).1.2.2.2.2.1 n c (down q).1⟩
    bs := J.bs
    bsz := Nat.le_trans J.ok.bsz J.sz
    noex := fun p u q hp => (walked p hp).1.2.2.2.1.elim (J.ok.noex p u q) fun young => Nat.lt_irrefl _ (Nat.lt_of_lt_of_le (Heap.lt_size q) (Nat.le_trans J.ok.bsz young))
    exfs := fun p hp z => (List.mem_cons.mp (J.stkSub p z)).elim (walked p hp).1.2.1 (walked p hp).1.2.2.1
    funs := J.stack
    frf := J.stkFree }
  refine { ok := wOk, os := rfl, bare := bare, base := Un.kept up, loc := ⟨mm, by show Heap.Ns _ ge.locals _; rw [gL]; exact frame, fun k n v atN atS vis => ?_⟩, cell := fun n c q => ?_, free := ?_, freeC := fun n c q => J.freeC n c (down q).1, pin := fun _ none' => absurd none' List.not_mem_nil, hok := J.hok.kept up, len := ?_ }
  · obtain ⟨atS, notOwn⟩ := wipe_some atS
    have isFree : scope.names.lookup n = some .free := by
      have ownNot : ∀ kd, scope.names.lookup n = some kd → ¬ (kd = .local ∨ kd = .cell) := fun kd q two => by
        rcases blk.own _ (PySem.mem_of_lookup q) two with among | out
        · obtain ⟨⟨m₁, k₁⟩, in₁, nm⟩ := List.mem_map.mp among
          have nm' : m₁ = n := nm
          have k₁At := blk.ix _ in₁
          rw [show (m₁, k₁).1 = n from nm'] at k₁At
          exact notOwn (List.mem_map.mpr ⟨_, in₁, nodup_ix nd k₁At atN⟩)
        · exact out (List.mem_of_getElem? atN)
      have vis' : Vis scope n := gS ▸ (show Vis ge.scope n from vis)
      rcases vis' with q | q | q
      · exact absurd (.inl rfl) (ownNot _ q)
      · exact absurd (.inr rfl) (ownNot _ q)
      · exact q
    have inDef := blk.free _ (PySem.mem_of_lookup isFree) rfl
    obtain ⟨_, _, reads⟩ := J.loc
    obtain ⟨val, rel, how⟩ := reads k n v atN atS (.inr inDef)
    obtain ⟨c, c1, c2⟩ := freeAt isFree
    refine ⟨val, rel, .inr ⟨.inr (by show ge.scope.names.lookup n = _; rw [gS]; exact isFree), c, c1, ?_⟩⟩
    rcases how with ⟨isLocal, _⟩ | ⟨_, c₂, c₂At, stands⟩
    · have isLocal' : X.env.scope.names.lookup n = some .local := isLocal
      rw [isLocal'] at inDef
      rcases inDef with q | q <;> cases q
    · rw [c2] at c₂At
      cases c₂At
      exact stands.keeps up
  · obtain ⟨val, stands⟩ := J.cell n c (down q).1
    exact ⟨val, stands.keeps up⟩
  · show H ge.locals = none
    exact gL ▸ J.hok.fresh (Nat.le_refl _)
  · exact (wipe_length σ _).trans J.len
end

/-! ### the protocol -/
section
variable {Y : Cx}
def RG (Y : Cx) (pn : List (Addr × Obj)) (T : Hp → Prop) : GenEnd := fun n s₀ r s₁ => r = .ok .next ∧ ∃ σ H, Inv Y pn σ H s₁ ∧ T H
def YG (Y : Cx) (pn : List (Addr × Obj)) (F : Hp → Prop) : Protocol := fun n s₀ v s kap =>
  ∃ b σ H, v = .bool b ∧ Inv Y pn σ H s ∧ (b = true → ∀ G, AllBare G → kap (.send .none) { s with gens := G }) ∧ (b = false → F H)
theorem inv_gens {pn : List (Addr × Obj)} {σ : L2.St} {H : Hp} {s : Shared} {G : Array GenState} (I : Inv Y pn σ H s) (h : AllBare G) : Inv Y pn σ H { s with gens := G } :=
  I.call' (ch := []) rfl (Un.kept fun _ _ e => e) I.hok h fun b z => by simp at z
theorem inv_kept {pn : List (Addr × Obj)} {σ : L2.St} {H : Hp} {s : Shared} {G : Array GenState} {h' : Heap} (I : Inv Y pn σ H s) (h : AllBare G) (k : ∀ b o, s.heap.get? b = some o → h'.get? b = some o) : Inv Y pn σ H { s with gens := G, heap := h' } :=
  I.call' (ch := []) rfl (Un.kept k) (I.hok.kept k) h fun b z => by simp at z

/-- what a turn of the walk wants -/
def AllTurn (J : It) (g : TG) (tt : TT) (te : TE) (vs : List Nat) (σw : L2.St) (W : Nat → Nat → Hp → Prop) (T F : Hp → Prop) : Prop :=
  ∀ i m H, W i m H → (J.stop i H ∧ T H) ∨ (J.go i H ∧ ∃ Nx : Hp → Prop, (∀ H', Nx H' → ∃ m', m' < m ∧ W (i + 1) m' H') ∧ ∀ x H', J.yld i H x H' → g x σw H' fun σ2 H2 => wipe σ2 vs = σw ∧ tt σ2 H2 fun b H3 =>
    if b = true then te σ2 H3 fun y H4 => ∃ c : Bool, y = .bl c ∧ (c = true → Nx H4) ∧ (c = false → F H4) else Nx H3)

theorem seg_loop {A : Around} {elt tg iter : Expr} {ifs : List Expr} {scope : Scope} {pos : Pos} {it : Addr} {fp : List Addr} {tn : Nat → Heap → Prop} {J : It} {g : TG} {tt : TT} {te : TE} {vs : List Nat} {σw : L2.St} {pn : List (Addr × Obj)} {W : Nat → Nat → Hp → Prop} {T F : Hp → Prop}
    (hov : A.over (.compLoop (.GeneratorExp elt [⟨tg, iter, ifs, 0⟩] scope pos) 0 (.ref it) .none Y.env) [] = Y.A) (hxe : Y.xe = fun _ _ => False) (hcalm : Y.calm = true) (hco : Y.env.scope.isCoroutine = false)
    (Tn : Turn Y.prog Y.w Y.K tg J fp it tn) (pg : PG Y tg g) (pt : PTs Y ifs tt) (pe : PE Y elt te) (hex : ∀ b ∈ fp, b ∈ Y.ex) (hpn : Y.pn = []) (hpins : ∀ p ∈ pn, p.1 ∉ fp) (turn : AllTurn J g tt te vs σw W T F) :
    ∀ (m n i : Nat) (s₀ s : Shared) (H : Hp), m < n → Inv Y pn σw H s → tn i s.heap → (∀ b ∈ fp, H b = none) → W i m H →
      Seg (model Y.prog Y.w) A (RG Y pn T) (YG Y pn F) n s₀ (.compLoop (.GeneratorExp elt [⟨tg, iter, ifs, 0⟩] scope pos) 0 (.ref it) .none Y.env)
        ((model Y.prog Y.w).den (.compLoop (.GeneratorExp elt [⟨tg, iter, ifs, 0⟩] scope pos) 0 (.ref it) .none Y.env)) [] s := by
  have stat : ∀ {σ' : L2.St} {H' : Hp} {s' : Shared}, Inv Y pn σ' H' s' → (∀ b ∈ fp, H' b = none) → ∀ b ∈ fp, FpOk Y pn H' b := fun {σ' H' s'} I' hn b hb =>
    ⟨hn b hb, (I'.ok.exf b (hex b hb)).1, I'.ok.exfs b (hex b hb), .inl (hex b hb), fun x c e => (I'.ok.exf b (hex b hb)).2 x c e, fun p hp => by
      rw [hpn] at hp
      exact fun z => hpins p (by simpa using hp) (by rw [z]; exact hb)⟩
  intro m
  induction m using Nat.strongRecOn with
  | ind m ih =>
    intro n i s₀ s H hmn I st nfp w
    show Seg _ A _ _ _ s₀ _ ((compTurn (.GeneratorExp elt [⟨tg, iter, ifs, 0⟩] scope pos) 0 (.ref it) .none Y.env).onRaise (leaving Y.env)) [] s
    rw [compTurn_gen, Sem.onRaise_eq_wrap]
    refine seg_bind_wrap (wpAny_standAt ?_)
    rcases turn i m H w with ⟨stop, qq⟩ | ⟨go, Nx, hNx, step⟩
    · refine seg_bind_wrap ?_
      rw [hov]
      refine thnF (Tn.done Y rfl rfl rfl hcalm i pn s _ H (fun _ _ => False) I (stat I nfp) st stop) fun r s1 ⟨hr, I1⟩ => ?_
      subst hr
      exact seg_end (.ok .next) ⟨rfl, _, _, I1, qq⟩
    · refine seg_bind_wrap ?_
      rw [hov]
      refine thnF (Tn.item Y rfl rfl rfl hcalm i pn s _ H (fun _ _ => False) I (stat I nfp) st go) fun r s1 ⟨u, hr, h1⟩ => ?_
      subst hr
      refine seg_bind_wrap ?_
      rw [hov]
      refine thnF h1 fun _ s2 ⟨x, H2, I2, r2, y2, st2, n2⟩ => ?_
      have I2' := I2.pinned (stat I2 n2) (Tn.obj _ _ st2)
      have no : ∀ {e : Value} {s' : Shared} {C : Prop}, Y.xe e s' → C := fun {e s' C} h => by
        rw [hxe] at h
        exact h.elim
      refine seg_bind_wrap ?_
      rw [hov]
      refine wpAny_mono (pg.run _ s2 _ H2 x u _ I2' r2 (step x H2 y2)) (fun _ s3 h3 => ?_) fun _ _ e => no e
      obtain ⟨σ3, H3, I3, hw3, q3⟩ := h3
      refine seg_bind_wrap ?_
      rw [hov]
      refine wpAny_mono (pt.run _ s3 σ3 H3 _ I3 q3) (fun b s4 h4 => ?_) fun _ _ e => no e
      obtain ⟨H4, I4, q4⟩ := h4
      -- the turn's end
      have fin : ∀ {s' : Shared} {H' : Hp} {G : Array GenState}, Inv Y (pn ++ pinsAt fp s2.heap) σ3 H' s' → AllBare G → Nx H' → ∃ m', m' < m ∧ Inv Y pn σw H' { s' with gens := G } ∧ tn (i + 1) ({ s' with gens := G } : Shared).heap ∧ (∀ b ∈ fp, H' b = none) ∧ W (i + 1) m' H' := fun {s' H' G} I' hG nx => by
        obtain ⟨m', less, w'⟩ := hNx H' nx
        have pin' : ∀ b ∈ fp, ∀ o, s2.heap.get? b = some o → s'.heap.get? b = some o ∧ H' b = none := fun b hb o e =>
          (I'.pin (b, o) (List.mem_append_right _ (List.mem_append_right _ (mem_pinsAt hb e)))).imp id And.left
        have hl : σw.length = σ3.length := by rw [← hw3, wipe_length]
        refine ⟨m', less, inv_gens ((I'.unpinned (pins := pn)).weak hl (fun j v e => ?_)) hG, Tn.keep _ _ _ st2 fun b hb o e => (pin' b hb o e).1, fun b hb => ?_, w'⟩
        · rw [← hw3] at e
          exact (wipe_some e).1
        · obtain ⟨o, e, _⟩ := Tn.obj _ _ st2 b hb
          exact (pin' b hb o e).2
      cases b with
      | false =>
        simp only [Bool.false_eq_true, if_false] at q4 ⊢
        obtain ⟨m', hm, J1, J2, J3, J4⟩ := fin I4 I4.bare q4
        exact seg_again rfl (ih m' hm n (i + 1) s₀ s4 H4 (by omega) J1 J2 J3 J4)
      | true =>
        simp only [if_true] at q4 ⊢
        have hy : ∀ v, yieldOut Y.env v = yieldValue v := fun v => by simp only [yieldOut, hco, Bool.false_eq_true, if_false]
        simp only [hy]
        rw [Sem.bind_eq_wrap', Sem.bind_eq_wrap', Sem.wrap_wrap, Sem.wrap_wrap]
        refine seg_wrap ?_
        rw [hov]
        refine wpAny_mono (pe.run _ s4 σ3 H4 _ I4 q4) (fun v s5 h5 => ?_) fun _ _ e => no e
        obtain ⟨yv, H5, I5, r5, c, ey, hT, hF⟩ := h5
        subst ey
        obtain rfl : v = Value.bool c := r5
        obtain ⟨n', rfl⟩ : ∃ n', n = n' + 1 := ⟨n - 1, by omega⟩
        refine seg_at (seg_yield rfl rfl rfl ⟨c, σ3, H5, rfl, I5.unpinned (pins := pn), fun hc G hG => ?_, hF⟩)
        obtain ⟨m', hm, J1, J2, J3, J4⟩ := fin I5 hG (hT hc)
        exact seg_again rfl (ih m' hm n' (i + 1) _ _ H5 (by omega) J1 J2 J3 J4)

theorem seg_start {A : Around} {elt tg iter : Expr} {ifs : List Expr} {scope : Scope} {pos : Pos} {it : Addr} {fp : List Addr} {tn : Nat → Heap → Prop} {J : It} {n i : Nat} {R : GenEnd} {Yp : Protocol} {s₀ s : Shared} {cenv : Env} {P : Program} {w : World} {K : PySem.W.Frag}
    (Tn : Turn P w K tg J fp it tn) (st : tn i s.heap)
    (loop : Seg (model P w) A R Yp n s₀ (.compLoop (.GeneratorExp elt [⟨tg, iter, ifs, 0⟩] scope pos) 0 (.ref it) .none cenv) ((model P w).den (.compLoop (.GeneratorExp elt [⟨tg, iter, ifs, 0⟩] scope pos) 0 (.ref it) .none cenv)) [] s) :
    Seg (model P w) A R Yp n s₀ (.compStart (.GeneratorExp elt [⟨tg, iter, ifs, 0⟩] scope pos) 0 (.ref it) .none cenv) ((model P w).den (.compStart (.GeneratorExp elt [⟨tg, iter, ifs, 0⟩] scope pos) 0 (.ref it) .none cenv)) [] s := by
  show Seg _ A _ _ _ s₀ _ ((compStart (.GeneratorExp elt [⟨tg, iter, ifs, 0⟩] scope pos) 0 (.ref it) .none cenv).onRaise (leaving cenv)) [] s
  unfold compStart
  rw [Sem.onRaise_eq_wrap]
  show Seg _ A _ _ _ s₀ _ ((ask >>= _).wrap _ _ _ _) [] s
  refine seg_bind_wrap (wpAny_askSetting ?_)
  split
  · exact seg_again rfl loop
  · first
      | exact seg_bind_wrap (wpAny_rule (seg_bind_wrap (wpAny_standAt (seg_bind_wrap (Tn.self _ i s _ _ st (seg_again rfl loop))))))
      | (refine seg_bind_wrap (wpAny_rule ?_); show Seg _ A _ _ _ s₀ _ ((standAt iter.pos >>= _).wrap _ _ _ _) [] s; exact seg_bind_wrap (wpAny_standAt (seg_bind_wrap (Tn.self _ i s _ _ st (seg_again rfl loop)))))

/-! ### all's loop -/
theorem all_loop {A : Around} {R : Result → Shared → Prop} {a : Addr} {g : Nat} {pn : List (Addr × Obj)} {T F : Hp → Prop} (hh : A.handled = none) (hd : A.depth < recursionLimit)
    (hgen : ∀ σ H s, Inv Y pn σ H s → s.heap.IsGen a g) (hT : ∀ σ H s, Inv Y pn σ H s → T H → R (.ok (.ret (.bool true))) s) (hF : ∀ σ H s, Inv Y pn σ H s → F H → R (.ok (.ret (.bool false))) s) :
    ∀ (n : Nat) (s : Shared), s.heap.IsGen a g → s.heap.NoLimit → (∃ gs, s.gens[g]? = some gs ∧ gs.Goes (model Y.prog Y.w) A.in1.in1 (RG Y pn T) (YG Y pn F) n (.send .none) (s.setGen g .running)) →
      codeAny (model Y.prog Y.w) A (.builtin "all.loop" ⟨[.ref a], []⟩) R s := by
  intro n
  induction n with
  | zero =>
    intro s hg hl ⟨gs, hgs, hgo⟩
    refine codeAny_builtin PySem.F.entry_all_loop ?_
    rw [Around.under_plainId PySem.F.plain_all_loop _]
    show wpAny _ A.in1 (pyNext (.ref a) >>= _) _ _ s
    refine wpAny_bind (wpAny_pyNext_genexpQ (A := A.in1) (P := fun _ _ s₁ => ∃ σ H, Inv Y pn σ H s₁ ∧ T H) hh hl hd hg hgs hgo (fun v s₁ gs' hb hv => ?_) (fun s₁ hp h' hk => ?_))
    · obtain ⟨b, σ, H, rfl, I, h1, h2⟩ := hv
      cases b with
      | true => exact (h1 rfl _ I.bare).elim
      | false =>
        refine wpAny_bind (wpAny_holding (wpAny_truthy_bool ?_))
        refine wpAny_bind (wpAny_letGo ?_)
        simp only [Bool.false_eq_true, if_false]
        exact wpAny_bind (wpAny_rule (wpAny_pure (hF σ H _ (inv_gens I (allBare_setGen I.bare hb)) (h2 rfl))))
    · obtain ⟨σ, H, I, q⟩ := hp
      exact wpAny_bind (wpAny_rule (wpAny_pure (hT σ H _ (inv_kept (s := s₁) (G := (s₁.setGen g .finished).gens) I (allBare_setGen I.bare rfl) hk) q)))
  | succ n ih =>
    intro s hg hl ⟨gs, hgs, hgo⟩
    have hgl : g < s.gens.size := (Array.getElem?_eq_some_iff.mp hgs).1
    refine codeAny_builtin PySem.F.entry_all_loop ?_
    rw [Around.under_plainId PySem.F.plain_all_loop _]
    show wpAny _ A.in1 (pyNext (.ref a) >>= _) _ _ s
    refine wpAny_bind (wpAny_gsz (n := g + 1) hgl (wpAny_pyNext_genexpQ (A := A.in1) (P := fun _ _ s₁ => ∃ σ H, Inv Y pn σ H s₁ ∧ T H) hh hl hd hg hgs hgo (fun v s₁ gs' hb hv => ?_) (fun s₁ hp h' hk => ?_)))
    · intro hsz
      obtain ⟨b, σ, H, rfl, I, h1, h2⟩ := hv
      refine wpAny_bind (wpAny_holding (wpAny_truthy_bool ?_))
      refine wpAny_bind (wpAny_letGo ?_)
      cases b with
      | true =>
        simp only [if_true]
        have hsz1 : g < s₁.gens.size := by
          have q : (s₁.setGen g gs').gens.size = s₁.gens.size := setGen_size _ _ _
          have hsz' : g + 1 ≤ (s₁.setGen g gs').gens.size := hsz
          omega
        refine wpAny_pure ⟨plainId_quiet PySem.F.plain_all_loop _, ih (s₁.setGen g gs') (hgen σ H _ (inv_gens I (allBare_setGen I.bare hb))) (show s₁.heap.NoLimit from I.nolimit) ⟨gs', setGen_at hsz1, ?_⟩⟩
        exact h1 rfl _ (allBare_setGen (s := s₁.setGen g gs') (allBare_setGen I.bare hb) rfl)
      | false =>
        simp only [Bool.false_eq_true, if_false]
        exact wpAny_bind (wpAny_rule (wpAny_pure (hF σ H _ (inv_gens I (allBare_setGen I.bare hb)) (h2 rfl))))
    · intro hsz
      obtain ⟨σ, H, I, q⟩ := hp
      exact wpAny_bind (wpAny_rule (wpAny_pure (hT σ H _ (inv_kept (s := s₁) (G := (s₁.setGen g .finished).gens) I (allBare_setGen I.bare rfl) hk) q)))
end
end GX

namespace GX
open PySem PySem.Spec PyProof.Rows L2 GenW
/-- all(elt for tg in iter if ..): behind it the def's table may have grown -/
def tAll (P : Addr) (wi : TI) (g : TG) (tt : TT) (te : TE) (vs : List Nat) : TE := fun σ H Q => wi σ H fun J H1 => GxR.TabG H1 P ∧ ∀ H2, GxR.Tabbed P H1 H2 →
  ∃ W : Nat → Nat → Hp → Prop, (∃ m, W 0 m H2) ∧ AllTurn J g tt te vs (wipe σ vs) W (fun H' => Q (.bl true) H') (fun H' => Q (.bl false) H')
section
variable {X : Cx}
theorem pe_all {c P : Addr} {elt tg iter : Expr} {ifs : List Expr} {scope : Scope} {own : List (Str × Nat)} {p pos gpos : Pos} {wi : TI} {g : TG} {tt : TT} {te : TE} {k : Nat}
    (hr : Room k X.A) (hgl : Gl X "all") (hm : X.mg "all" = none) (hb : bootBuiltins "all" = some (.builtin "all")) (TB : GxR.TabB X.base X.mg c P) (hcode : X.env.code = .ref c) (hc : X.calm = true) (hN : X.N.Nodup) (hi : PI X tg iter wi) (ok : BlkOk X.N X.env.scope scope own)
    (hco : scope.isCoroutine = false) (nc : ∀ y ∈ scope.names, y.2 ≠ .cell) (h0 : scope.names.lookup (".0" : Str) = some NameKind.local)
    (hg : ∀ (s : Shared) (H : Hp) (C : Addr) (cl : List (Str × Addr)) (code : Value) (fp : List Addr), PG (gcx X s H (genEnv scope cl C code builtinsNs X.env) fp) tg g)
    (ht : ∀ (s : Shared) (H : Hp) (C : Addr) (cl : List (Str × Addr)) (code : Value) (fp : List Addr), PTs (gcx X s H (genEnv scope cl C code builtinsNs X.env) fp) ifs tt)
    (he : ∀ (s : Shared) (H : Hp) (C : Addr) (cl : List (Str × Addr)) (code : Value) (fp : List Addr), PE (gcx X s H (genEnv scope cl C code builtinsNs X.env) fp) elt te)
    (hs : ∀ v, genFold iter X.env v = pure v := by intro _; rfl)
    (hst : starEach [.GeneratorExp elt [⟨tg, iter, ifs, 0⟩] scope gpos] X.env = (false, eval (.GeneratorExp elt [⟨tg, iter, ifs, 0⟩] scope gpos) X.env) :: starEach [] X.env := by rfl) :
    PE X (.Call (.Name "all" p) [.GeneratorExp elt [⟨tg, iter, ifs, 0⟩] scope gpos] [] pos) (tAll P wi g tt te (own.map (·.2))) := by
  refine ⟨fun pins s σ H Q I h => ?_⟩
  have caught : ∀ n ∈ scope.names, n.2 = .free → ∃ c, X.env.cells.lookup n.1 = some c := fun n hn hf => I.ok.has _ ((ok.free n hn hf).elim .inl .inr)
  refine wpAny_Call_Name_kw (ld_blt I hgl hm hb ?_)
  refine PyProof.Rows.callWith_builtin1 ?_ hst (by rfl)
  rw [hst]
  show wpAny _ _ (spliced ((false, eval (.GeneratorExp elt [⟨tg, iter, ifs, 0⟩] scope gpos) X.env) :: backTo pos (starEach [] X.env))) _ _ s
  refine Calls.spliced_cons ?_
  refine wpAny_GeneratorExp_make hco (closure_ok caught) nc h0 ok.kind hr.depth ?_ hs
  refine thn (hi.run pins s σ H _ I h) fun xv s1 hx => thn hx fun itv s2 h2 => ?_
  obtain ⟨it, fp, tn, J, H2, e, I2, T, st2, f2, ⟨ps, hP, ht2⟩, q⟩ := h2
  subst e
  refine ⟨I2.nolimit, ?_⟩
  have hPs : s2.heap.get? P = some { cls := .none, data := .fields ps } := I2.hok P _ hP
  have cd : PySem.W.CodeHd s2.heap c P := TB.code.keeps fun b u e => I2.bk b u e
  have nfP : ∀ b ∈ fp, b ≠ P := fun b hb z => by
    have := (f2 b hb).1
    rw [z, hP] at this
    cases this
  -- behind the code object
  have cont : ∀ (code : Value) (h3 : Heap) (tk : Nat) (ps' : Array Value), Heap.ExtBut P s2.heap h3 → s2.heap.objs.size ≤ h3.objs.size → h3.get? P = some { cls := .none, data := .fields ps' } → (∃ more, ps' = ps ++ more) → TriplesOk ps'.toList →
      wpAny (model X.prog X.w) X.A (builtinsFor X.env.globals X.env.builtins) (fun bi s₄ => ∀ h', h'.Ns s₄.heap.objs.size (fun y => if y = ".0" then some (.ref it) else none) → Heap.SameBut s₄.heap.objs.size (s₄.heap.push { cls := .type "frame", data := .dict #[] }) h' →
          wpAny (model X.prog X.w) X.A (spliced (backTo pos (starEach [] X.env))) (fun vs s6 => wpAny (model X.prog X.w) X.A (call (.builtin "all") (.ref h'.objs.size :: vs)) (EP X pins σ Q) X.xe s6) X.xe { s₄ with
            gens := s₄.gens.push (.fresh (.compStart (.GeneratorExp elt [⟨tg, iter, ifs, 0⟩] scope gpos) 0 (.ref it) .none (genEnv scope (cloFrom X.env.cells scope.names []) s₄.heap.objs.size code bi X.env))),
            toks := s₄.toks + 1 + 1 + 1,
            heap := h'.push { cls := .type "generator", data := .fields #[.int s₄.gens.size 0, .str "<genexpr>" (s₄.toks + 1), .str (X.env.qual ++ "<genexpr>") (s₄.toks + 1 + 1)] } }) X.xe { s2 with heap := h3, toks := tk } := by
    intro code h3 tk ps' hx hsz hP3 ⟨more, em⟩ ht3
    obtain ⟨bmod, bobj, i1, i2, i3, i4, i5, i6, i7, i8⟩ := TB.bm
    have keep3 : ∀ b u, b ≠ P → s2.heap.get? b = some u → h3.get? b = some u := fun b u hb e => hx b u hb e
    refine wpAny_builtinsFor (m := X.mg) (by rw [I2.ok.glob]; exact (I2.mod.glob.keeps I2.bk).extBut hx TB.gP) i1 i2 (keep3 _ _ i4 (I2.bk _ _ i5)) i6 i7 i8 ?_
    intro h' hn' hs'
    -- the state ahead of the frame
    have I3 := GxR.inv_tab (more := more) (h' := h3) (g' := s2.gens) (d' := s2.drawn) (t' := tk) I2 hP (fun b u hb e => keep3 b u hb e) (by rw [← em]; exact hP3) I2.bare
    have hTab : GxR.Tabbed P H2 (upd H2 P (.tbl (ps ++ more))) := ⟨⟨ps ++ more, upd_same, by rw [← em]; exact ht3⟩, fun b hb => upd_ne hb⟩
    obtain ⟨W, ⟨m0, w0⟩, turn⟩ := q _ hTab
    generalize upd H2 P (.tbl (ps ++ more)) = H3 at I3 w0 hTab
    have st3 : tn 0 h3 := T.keep _ _ _ st2 fun b hb o e => keep3 b o (nfP b hb) e
    have f3 : ∀ b ∈ fp, FpOk X pins H3 b ∧ b < h3.objs.size := fun b hb => by
      obtain ⟨o, e, _⟩ := T.obj _ _ st3 b hb
      exact ⟨⟨by rw [hTab.2 b (nfP b hb)]; exact (f2 b hb).1, (f2 b hb).2⟩, Heap.lt_size e⟩
    generalize hs3 : ({ s2 with heap := h3, toks := tk } : Shared) = s3 at I3
    have es3 : h3 = s3.heap := by rw [← hs3]
    have hn'' : h'.Ns s3.heap.objs.size (fun y => if y = ".0" then some (.ref it) else none) := by rw [← es3]; exact hn'
    have hs'' : Heap.SameBut s3.heap.objs.size (s3.heap.push { cls := .type "frame", data := .dict #[] }) h' := by rw [← es3]; exact hs'
    rw [es3] at st3 f3
    show wpAny _ _ _ _ _ { s3 with
            gens := s3.gens.push (.fresh (.compStart (.GeneratorExp elt [⟨tg, iter, ifs, 0⟩] scope gpos) 0 (.ref it) .none (genEnv scope (cloFrom X.env.cells scope.names []) s3.heap.objs.size code builtinsNs X.env))),
            toks := s3.toks + 1 + 1 + 1,
            heap := h'.push { cls := .type "generator", data := .fields #[.int s3.gens.size 0, .str "<genexpr>" (s3.toks + 1), .str (X.env.qual ++ "<genexpr>") (s3.toks + 1 + 1)] } }
    have kp : ∀ b o, s3.heap.get? b = some o → h'.get? b = some o := fun b o e => hs''.extBut b o (Nat.ne_of_lt (Heap.lt_size e)) (Heap.get?_push_of_some _ e)
    have hsz' : h'.objs.size = s3.heap.objs.size + 1 := by rw [hs''.1, Heap.size_push]
    generalize hgo : ({ cls := .type "generator", data := .fields #[.int s3.gens.size 0, .str "<genexpr>" (s3.toks + 1), .str (X.env.qual ++ "<genexpr>") (s3.toks + 1 + 1)] } : Obj) = go
    have hgen0 : ∀ h : Heap, h.get? h'.objs.size = some go → h.IsGen h'.objs.size s3.gens.size := fun h e => ⟨go, _, _, e, by rw [← hgo], by rw [← hgo], by rw [← hgo]⟩
    have ngo : ∀ v, go.data ≠ .cell v := fun v z => by
      rw [← hgo] at z
      cases z
    have hpush : (h'.push go).get? h'.objs.size = some go := by
      rw [← hgo]
      exact Heap.get?_push_size _ rfl
    have kp2 : ∀ b o, s3.heap.get? b = some o → (h'.push go).get? b = some o := fun b o e => Heap.get?_push_of_some _ (kp b o e)
    have pg := hg s3 H3 s3.heap.objs.size (cloFrom X.env.cells scope.names []) code fp
    have pt := ht s3 H3 s3.heap.objs.size (cloFrom X.env.cells scope.names []) code fp
    have pe := he s3 H3 s3.heap.objs.size (cloFrom X.env.cells scope.names []) code fp
    have I4 := gen_start (code := code) (tk := s3.toks + 1 + 1 + 1) (h' := h'.push go) (G := s3.gens.push (.fresh (.compStart (.GeneratorExp elt [⟨tg, iter, ifs, 0⟩] scope gpos) 0 (.ref it) .none (genEnv scope (cloFrom X.env.cells scope.names []) s3.heap.objs.size code builtinsNs X.env)))) I3 ok nc hN f3 (hn''.push _) kp2 (AllBare.push I3.bare rfl)
    generalize hce : genEnv scope (cloFrom X.env.cells scope.names []) s3.heap.objs.size code builtinsNs X.env = ce at pg pt pe I4 ⊢
    have cL : ce.locals = s3.heap.objs.size := by subst hce; rfl
    have cS : ce.scope = scope := by subst hce; rfl
    have hgH : H3 h'.objs.size = none := I3.hok.fresh (by rw [hsz']; exact Nat.le_succ _)
    have nfs : h'.objs.size ∉ frs X.stack := fun z => by
      rcases List.mem_cons.mp (I3.stkSub _ z) with z | z
      · have := I3.lt
        rw [← z, hsz'] at this
        exact absurd (Nat.lt_of_succ_lt this) (Nat.lt_irrefl _)
      · exact I3.nofs (by rw [hsz']; exact Nat.le_succ _) z
    have I5 := I4.pins_of (pins' := [(h'.objs.size, go)]) fun p hp => by
      rw [List.mem_singleton.mp hp]
      refine ⟨hpush, hgH, ?_, nfs, ngo⟩
      show h'.objs.size ≠ ce.locals
      rw [cL, hsz']
      exact Nat.succ_ne_self _
    generalize hs5 : ({ s3 with heap := h'.push go, gens := s3.gens.push (.fresh (.compStart (.GeneratorExp elt [⟨tg, iter, ifs, 0⟩] scope gpos) 0 (.ref it) .none ce)), toks := s3.toks + 1 + 1 + 1 } : Shared) = s5 at I5
    have st5 : tn 0 s5.heap := T.keep _ _ _ st3 fun b _ o e => by rw [← hs5]; exact kp2 b o e
    have back : ∀ σ' H' s', Inv (gcx X s3 H3 ce fp) [(h'.objs.size, go)] σ' H' s' → Inv X pins σ H' s' := fun σ' H' s' I6 =>
      I3.call' (ch := fp) I6.os I6.base I6.hok I6.bare fun b hb => ⟨(f3 b hb).1.2.2.2.1, (f3 b hb).1.2.1, (f3 b hb).1.2.2.2.2.1, (f3 b hb).1.2.2.2.2.2⟩
    have hgen : ∀ σ' H' s', Inv (gcx X s3 H3 ce fp) [(h'.objs.size, go)] σ' H' s' → s'.heap.IsGen h'.objs.size s3.gens.size := fun σ' H' s' I6 =>
      hgen0 _ (I6.pin (h'.objs.size, go) (List.mem_append_right _ (List.mem_singleton.mpr rfl))).1
    have hgs : s5.gens[s3.gens.size]? = some (.fresh (.compStart (.GeneratorExp elt [⟨tg, iter, ifs, 0⟩] scope gpos) 0 (.ref it) .none ce)) := by
      rw [← hs5]
      exact Array.getElem?_push_size ..
    have seg : Seg (model X.prog X.w) X.A.in1.in1 (RG (gcx X s3 H3 ce fp) [(h'.objs.size, go)] fun H' => Q (.bl true) H') (YG (gcx X s3 H3 ce fp) [(h'.objs.size, go)] fun H' => Q (.bl false) H') (m0 + 1) (s5.setGen s3.gens.size .running)
        (.compStart (.GeneratorExp elt [⟨tg, iter, ifs, 0⟩] scope gpos) 0 (.ref it) .none ce) ((model X.prog X.w).den (.compStart (.GeneratorExp elt [⟨tg, iter, ifs, 0⟩] scope gpos) 0 (.ref it) .none ce)) [] (s5.setGen s3.gens.size .running) := by
      refine seg_start (i := 0) T st5 ?_
      exact seg_loop (Y := gcx X s3 H3 ce fp) (vs := own.map (·.2)) rfl rfl hc (by show ce.scope.isCoroutine = false; rw [cS]; exact hco) T pg pt pe (fun b hb => hb) rfl (fun p hp hb => by
          rw [List.mem_singleton.mp hp] at hb
          have := (f3 _ hb).2
          have z : h'.objs.size < s3.heap.objs.size := this
          rw [hsz'] at z
          omega) turn m0 (m0 + 1) 0 _ _ H3 (Nat.lt_succ_self _) (inv_gens I5 (allBare_setGen I5.bare rfl)) st5 (fun b hb => (f3 b hb).1.1) w0
    refine Calls.spliced_nil ?_
    refine call_function_tree F.kind_all F.plain_all F.entry_all (F.args_all1 _) ?_
    unfold Builtin.«all»
    refine wpAny_bind (m := oneArg "all" _) (wpAny_pure ?_)
    refine wpAny_bind (wpAny_pyIter_gen (hgen _ _ _ I5) ?_)
    refine wpAny_pure ⟨plainId_quiet F.plain_all_loop _, ?_⟩
    refine all_loop (Y := gcx X s3 H3 ce fp) (T := fun H' => Q (.bl true) H') (F := fun H' => Q (.bl false) H') hr.hd hr.depth hgen (fun σ' H' s' I6 hq => ?_) (fun σ' H' s' I6 hq => ?_) (m0 + 1) s5 (hgen _ _ _ I5) I5.nolimit ⟨_, hgs, rfl, seg⟩
    · exact ⟨.bl true, H', back _ _ _ I6, rfl, hq⟩
    · exact ⟨.bl false, H', back _ _ _ I6, rfl, hq⟩
  cases hf : codeAmong gpos ps.toList with
  | none =>
    refine wpAny_genexprCodeX hcode (cd.code hPs ht2) (cd.tab hPs) hf fun c' h' tk hx hge hlt hco' _ htab' _ => ?_
    have trip := hco'.choose_spec.choose_spec.choose_spec.choose_spec.choose_spec.choose_spec.choose_spec.choose_spec.choose_spec.choose_spec.2.2.2.2.2.2.2.2.2.1
    exact cont _ h' tk _ hx (Nat.le_trans hge (Nat.le_of_lt hlt)) htab'.2 ⟨#[_, _, _], rfl⟩ trip
  | some cv =>
    refine wpAny_genexprCode_hit hcode (cd.code hPs ht2) hf ?_
    exact cont cv s2.heap s2.toks ps (Heap.ExtBut.refl _ _) (Nat.le_refl _) hPs ⟨#[], by simp⟩ ht2
end
end GX

namespace GX
open PySem PySem.Spec PyProof.Rows L2 GenW
/-- all(..) over a walk -/
theorem all_it {J : It} {n : Nat} {G : Hp → Prop} {Y : Nat → Hp → V → Hp → Prop} (w : Walk J n G Y) {g : TG} {tt : TT} {te : TE} {vs : List Nat} {σw : L2.St} {H2 : Hp} {T F : Hp → Prop} (Pv : Nat → Hp → Prop) (h0 : Pv 0 H2) (hG : ∀ i H, i ≤ n → Pv i H → G H)
    (hs : ∀ i x H H', i < n → Pv i H → Y i H x H' → g x σw H' fun σ2 H2 => wipe σ2 vs = σw ∧ tt σ2 H2 fun b H3 => if b = true then te σ2 H3 fun y H4 => ∃ c : Bool, y = .bl c ∧ (c = true → Pv (i + 1) H4) ∧ (c = false → F H4) else Pv (i + 1) H3) (hd : ∀ H, Pv n H → T H) :
    ∃ W : Nat → Nat → Hp → Prop, (∃ m, W 0 m H2) ∧ AllTurn J g tt te vs σw W T F := by
  refine ⟨fun i left H => i + left = n ∧ Pv i H, ⟨n, Nat.zero_add n, h0⟩, fun i left H ⟨sum, pv⟩ => ?_⟩
  have good := hG i H (by omega) pv
  cases left with
  | zero =>
    have last : i = n := sum
    subst last
    exact .inl ⟨w.stops H good, hd H pv⟩
  | succ left =>
    have below : i < n := by omega
    exact .inr ⟨w.goes i H below good, Pv (i + 1), fun H' pv' => ⟨left, Nat.lt_succ_self _, by omega, pv'⟩, fun x H' y => hs i x H H' below pv (w.yields i H x H' below good y)⟩
/-! ### tables -/
def NT (o : HO) : Prop := ∀ q, o ≠ .tbl q
theorem nt_lst {xs : List V} : NT (.lst xs) := fun _ z => by cases z
theorem nt_tup {xs : List V} : NT (.tup xs) := fun _ z => by cases z
theorem nt_dK {xs : List (Key × V)} : NT (.dK xs) := fun _ z => by cases z
theorem nt_frz {o : Obj} {u : HO} : NT (.frz o u) := fun _ z => by cases z
def Tabs (Ps : List Addr) (H : Hp) : Prop := ∀ P ∈ Ps, GxR.TabG H P
/-- all is kept but the tables, which may have grown -/
structure SameN (Ps : List Addr) (H H' : Hp) : Prop where
  k : ∀ x y, NT y → H x = some y → H' x = some y
  q : ∀ x p, H x = some (.tbl p) → ∃ p', H' x = some (.tbl p')
  t : Tabs Ps H'
section
variable {Ps : List Addr} {H H' H1 H2 : Hp}
theorem SameN.refl (t : Tabs Ps H) : SameN Ps H H := ⟨fun _ _ _ e => e, fun _ p e => ⟨p, e⟩, t⟩
theorem SameN.trans (a : SameN Ps H H1) (b : SameN Ps H1 H2) : SameN Ps H H2 := ⟨fun x y n e => b.k x y n (a.k x y n e), fun x p e => let ⟨p', e'⟩ := a.q x p e; b.q x p' e', b.t⟩
theorem Tabs.same (t : Tabs Ps H) (s : Same H H') : Tabs Ps H' := fun P hP => let ⟨ps, e, h⟩ := t P hP; ⟨ps, s _ _ e, h⟩
theorem SameN.of (t : Tabs Ps H) (s : Same H H') : SameN Ps H H' := ⟨fun x y _ e => s x y e, fun x p e => ⟨p, s _ _ e⟩, t.same s⟩
theorem SameN.tab {P : Addr} (t : Tabs Ps H) (hP : P ∈ Ps) (s : GxR.Tabbed P H H') : SameN Ps H H' := by
  obtain ⟨ps, e0, _⟩ := t P hP
  refine ⟨fun x y n e => ?_, fun x p e => ?_, fun P' hP' => ?_⟩
  · rw [s.2 x fun z => by rw [z, e0] at e; exact n ps (Option.some.inj e).symm]
    exact e
  · by_cases z : x = P
    · obtain ⟨ps', e', _⟩ := s.1
      exact ⟨ps', by rw [z]; exact e'⟩
    · exact ⟨p, by rw [s.2 x z]; exact e⟩
  · by_cases z : P' = P
    · rw [z]
      exact s.1
    · obtain ⟨ps', e', h'⟩ := t P' hP'
      exact ⟨ps', by rw [s.2 P' z]; exact e', h'⟩
theorem SameN.free {p : Addr} (s : SameN Ps H H') (h : H' p = none) : H p = none := by
  cases e : H p with
  | none => rfl
  | some o =>
    by_cases z : ∃ q, o = .tbl q
    · obtain ⟨q, rfl⟩ := z
      obtain ⟨q', e'⟩ := s.q p q e
      rw [e'] at h
      cases h
    · rw [s.k p o (fun q y => z ⟨q, y⟩) e] at h
      cases h
theorem SameN.unlock {a : Addr} {u : HO} {o : Obj} (ha : H a = some u) (hu : NT u) (t : Tabs Ps H) (s : SameN Ps (upd H a (.frz o u)) H') : SameN Ps H (upd H' a u) := by
  have hP : ∀ P ∈ Ps, P ≠ a := fun P h z => by
    obtain ⟨ps, e, _⟩ := t P h
    rw [z, ha] at e
    exact hu ps (Option.some.inj e)
  refine ⟨fun x y n e => ?_, fun x p e => ?_, fun P h => ?_⟩
  · by_cases c : x = a
    · subst c
      rw [upd_same, ← ha]
      exact e
    · rw [upd_ne c]
      exact s.k _ _ n (by rw [upd_ne c]; exact e)
  · by_cases c : x = a
    · subst c
      rw [ha] at e
      exact absurd (Option.some.inj e) (hu p)
    · rw [upd_ne c]
      exact s.q _ _ (by rw [upd_ne c]; exact e)
  · obtain ⟨ps, e, h'⟩ := s.t P h
    exact ⟨ps, by rw [upd_ne (hP P h)]; exact e, h'⟩
theorem Tabs.lock {a : Addr} {u : HO} {o : Obj} (ha : H a = some u) (hu : NT u) (t : Tabs Ps H) : Tabs Ps (upd H a (.frz o u)) := fun P h => by
  obtain ⟨ps, e, h'⟩ := t P h
  refine ⟨ps, ?_, h'⟩
  rw [upd_ne fun z => by rw [z, ha] at e; exact hu ps (Option.some.inj e)]
  exact e
end
/-! ### a def whose code object is known -/
structure FunC (K : PySem.W.Frag) (x qual : Str) (st : Stmt) (f : Addr) (fd : FuncData) (c : Addr) : Prop where
  ex : ∃ (oc : Value) (od : Option Addr) (kV doc pm : Value) (an : Option Addr) (ct : Value) (osl : Array (Option Value)),
    fd = PySem.W.fnOf x qual (defArgs st) (defBody st) (defScope st) .none kV doc pm an (.ref c) ct ∧ K.lookup f = some ⟨oc, od, .func fd, osl⟩ ∧ PySem.W.codeIn K (.ref c) qual = true
  kp : PySem.W.keepIn K (.ref f) = true
section
variable {P : Program} {w : World} {K : PySem.W.Frag} {mg : Str → Option Value} {base : Heap}
theorem FunC.ok {x qual : Str} {st : Stmt} {f c : Addr} {fd : FuncData} {N ps : List Str} {k : Nat} {sp : Sp} (F : FunC K x qual st f fd c) (S : FnScope N ps (defScope st)) (len : ∀ vs H Q E, sp vs H Q E → vs.length = ps.length)
    (hbody : ∀ (A : Around) (outer : List Env) (s : Shared) (H : Hp) (vs : List V) (Q : VK) (E : XK), Room k (A.deeper (envOfC qual (defScope st) s.heap.objs.size f (.ref c))) → sp vs H Q E →
      ∃ t, PSs (cxOf CX0 P w K mg base N qual (defScope st) f (.ref c) A outer s H E).nox (defBody st) t ∧ t { nx := fun _ H' => Q .non H', rt := Q } (start N vs) H) : FnOk P w K mg base CX0 (k + 1) f fd ps sp := by
  obtain ⟨oc, od, kV, doc, pm, an, ct, osl, rfl, lk, hcd⟩ := F.ex
  exact fn_of lk hcd S len fun A outer s H vs Q E room said => (hbody A outer s H vs Q E room said).imp fun _ h => ⟨h.1.nox, h.2⟩
theorem FunC.fun {x qual : Str} {st : Stmt} {f c : Addr} {fd : FuncData} (F : FunC K x qual st f fd c) : Fun K x qual st f fd := by
  obtain ⟨oc, od, kV, doc, pm, an, ct, osl, e, lk, hcd⟩ := F.ex
  exact ⟨⟨oc, od, kV, doc, pm, an, _, ct, osl, e, lk, hcd⟩, F.kp⟩
end
/-! ### the end -/
/-- the table of the code object cd is not among what is written -/
def tabFree (K : PySem.W.Frag) (cd : Value) : Bool := match cd with
  | .ref c => (match K.lookup c with
      | some ⟨_, _, .fields vs, _⟩ => (match vs.toList.drop 11 with | .ref P :: _ => (K.lookup P).isNone | _ => false)
      | _ => false)
  | _ => false
/-- the def x's code object at c, its table at P, empty -/
def TabOf (K : PySem.W.Frag) (cd : Value) (h : Heap) (c P : Addr) : Prop := cd = .ref c ∧ h.get? P = some { cls := .none, data := .fields #[] } ∧ K.lookup P = none ∧ PySem.W.CodeHd h c P
def TabsTop (q : Program) (mg : Str → Option Value) (h : Heap) : Prop := ∀ d ∈ recsOf q, ∃ a o fd c P, mg d.name = some (.ref a) ∧ h.get? a = some o ∧ o.data = .func fd ∧ fd.code = .ref c ∧ h.IsCode c P #[] ∧ h.TableAt c P #[]
theorem tabOf {q : Program} {K : PySem.W.Frag} {mg : Str → Option Value} {h : Heap} {x : Str} {f : Addr} {params : Arguments} {body : List Stmt} {scope : Scope} {dV kV doc pm cd ct oc : Value} {an od : Option Addr} {osl : Array (Option Value)} {qual name : Str}
    (X : K.In h) (T : TabsTop q mg h) (hx : ((recsOf q).any fun e => e.name == x) = true) (hm : mg x = some (.ref f)) (lk : K.lookup f = some ⟨oc, od, .func (PySem.W.fnOf name qual params body scope dV kV doc pm an cd ct), osl⟩) (ht : tabFree K cd = true) :
    ∃ c P, TabOf K cd h c P := by
  obtain ⟨dL, hmem, hn1⟩ := List.any_eq_true.mp hx
  have hn2 : dL.name = x := beq_iff_eq.mp hn1
  obtain ⟨a', o', fd', c', P', h1, h2, h3, h4, h5, h6⟩ := T dL hmem
  rw [hn2, hm] at h1
  cases h1
  have g1 := X _ _ lk
  rw [g1] at h2
  cases h2
  have h3' : Data.func (PySem.W.fnOf name qual params body scope dV kV doc pm an cd ct) = .func fd' := h3
  cases h3'
  have h4' : cd = .ref c' := h4
  subst h4'
  refine ⟨c', P', rfl, h6.2, ?_, .of h5 h6⟩
  obtain ⟨⟨oc', vc, e1, _, e3, e4⟩, _⟩ := h6
  unfold tabFree at ht
  dsimp only at ht
  split at ht
  · rename_i vs sl hk
    have g2 := X _ _ hk
    rw [g2] at e1
    cases e1
    have e3' : Data.fields vs = .fields vc := e3
    cases e3'
    split at ht
    · rename_i P2 r hd
      have e5 : vc.toList[11]? = some (.ref P2) := by
        have : (vc.toList.drop 11)[0]? = some (.ref P2) := by rw [hd]; rfl
        rw [List.getElem?_drop] at this
        exact this
      rw [Array.getElem?_toList, e4] at e5
      cases e5
      exact Option.isNone_iff_eq_none.mp ht
    · cases ht
  · cases ht
theorem walk_ofTabs {l : PySem.W.OpenLaw} {n k : Nat} {q : Program} {loose : List Str} {XP : (Str → Option Value) → Heap → Prop} {YP : World → Heap → Prop} {d : DefRec} {K : Params → PySem.W.Frag} {CX : World → CXT} {x : Str}
    (most : l.most = some n) (small : n ≤ sizeLine) (plain : d.params.defaults = []) (room : Room k callerA) (hY : ∀ (w : World) (h : Heap), YP w h → (K w.params).In h)
    (F : ∀ (w : World) (mg : Str → Option Value) (fa : Addr) (h : Heap), (K w.params).In h → h.Ns mainGlobals mg → mg d.name = some (.ref fa) → TabsTop q mg h → LamX.LawAtS l w (K w.params) (CX w) k n x mg fa h)
    (calm : ∀ (w : World) (H : Hp) (s : Shared) (x : Value) (s' : Shared), CX w [] H s (fun _ _ _ => False) x s' → False) : PySem.W.WalkO q loose XP YP l.row.toRowW d [] (fun f vs => PySem.call f vs) := by
  refine Att.attach_callB most plain fun w _ s₁ mg _ fa _ _ _ _ a _ ns G Y _ _ _ hmg lstAt intsAt lenAt' bitsAt gensAt => ?_
  have KX := hY w _ Y
  obtain ⟨fd, cs, sp, hT, nT, C, hb, hsp, hF⟩ := F w mg fa _ KX G.T.g hmg G.T.tab
  exact LamX.law_callTs KX G.T.g G.T.b G.T.builtins G.T.nolimit gensAt hT nT C G.T.bmain lstAt intsAt (Nat.le_trans lenAt' small) room hF hb (fun H tabs sq => hsp H a ns lenAt' bitsAt tabs sq) fun H x s' => calm w H s₁ x s'
theorem tabB_of {base : Heap} {mg : Str → Option Value} {c P : Addr} (t : LamX.TabB base mg c P) : GxR.TabB base mg c P := ⟨t.code, t.bm, t.gP⟩
end GX

/-! a generator expression handed to whatever takes its items one by one: the taker's own state (a) is pinned (Pn), D tells what it does with an item -/
namespace GY
open PySem PySem.Spec PyProof.Rows L2 GenW GX
section
variable {Y : Cx} {α : Type}
def RGa (Y : Cx) (Pn : α → List (Addr × Obj) → Prop) (T : α → Hp → Prop) : GenEnd := fun n s₀ r s₁ => r = .ok .next ∧ ∃ a pn σ H, Pn a pn ∧ (∀ p ∈ pn, s₀.heap.get? p.1 = some p.2) ∧ Inv Y pn σ H s₁ ∧ T a H
def YGa (Y : Cx) (fp : List Addr) (Pn : α → List (Addr × Obj) → Prop) (D : α → V → Hp → (α → Prop) → Prop) : Protocol := fun n s₀ v s kap =>
  ∃ a pn y σ H, Pn a pn ∧ (∀ p ∈ pn, s₀.heap.get? p.1 = some p.2) ∧ RelV y v ∧ Inv Y pn σ H s ∧ D a y H fun a' => ∀ pn' s', Pn a' pn' → Inv Y pn' σ H s' → (∀ b ∈ fp, ∀ o, s.heap.get? b = some o → s'.heap.get? b = some o) → kap (.send .none) s'
/-- what a turn of the walk wants -/
def TurnG (J : It) (g : TG) (tt : TT) (te : TE) (vs : List Nat) (σw : L2.St) (W : Nat → Nat → α → Hp → Prop) (T : α → Hp → Prop) (D : α → V → Hp → (α → Prop) → Prop) : Prop :=
  ∀ i m a H, W i m a H → (J.stop i H ∧ T a H) ∨ (J.go i H ∧ ∃ Nx : α → Hp → Prop, (∀ a' H', Nx a' H' → ∃ m', m' < m ∧ W (i + 1) m' a' H') ∧ ∀ x H', J.yld i H x H' → g x σw H' fun σ2 H2 => wipe σ2 vs = σw ∧ tt σ2 H2 fun b H3 =>
    if b = true then te σ2 H3 fun y H4 => D a y H4 (fun a' => Nx a' H4) else Nx a H3)
theorem seg_loopA {A : Around} {elt tg iter : Expr} {ifs : List Expr} {scope : Scope} {pos : Pos} {it : Addr} {fp : List Addr} {tn : Nat → Heap → Prop} {J : It} {g : TG} {tt : TT} {te : TE} {vs : List Nat} {σw : L2.St} {Pn : α → List (Addr × Obj) → Prop} {W : Nat → Nat → α → Hp → Prop} {T : α → Hp → Prop} {D : α → V → Hp → (α → Prop) → Prop}
    (hov : A.over (.compLoop (.GeneratorExp elt [⟨tg, iter, ifs, 0⟩] scope pos) 0 (.ref it) .none Y.env) [] = Y.A) (hxe : Y.xe = fun _ _ => False) (hcalm : Y.calm = true) (hco : Y.env.scope.isCoroutine = false)
    (Tn : Turn Y.prog Y.w Y.K tg J fp it tn) (pg : PG Y tg g) (pt : PTs Y ifs tt) (pe : PE Y elt te) (hex : ∀ b ∈ fp, b ∈ Y.ex) (hpn : Y.pn = []) (hpins : ∀ a pn, Pn a pn → ∀ p ∈ pn, p.1 ∉ fp)
    (mono : ∀ a y H (k k' : α → Prop), (∀ a', k a' → k' a') → D a y H k → D a y H k') (turn : TurnG J g tt te vs σw W T D) :
    ∀ (m n i : Nat) (a : α) (pn : List (Addr × Obj)) (s₀ s : Shared) (H : Hp), m < n → Pn a pn → (∀ p ∈ pn, s₀.heap.get? p.1 = some p.2) → Inv Y pn σw H s → tn i s.heap → (∀ b ∈ fp, H b = none) → W i m a H →
      Seg (model Y.prog Y.w) A (RGa Y Pn T) (YGa Y fp Pn D) n s₀ (.compLoop (.GeneratorExp elt [⟨tg, iter, ifs, 0⟩] scope pos) 0 (.ref it) .none Y.env)
        ((model Y.prog Y.w).den (.compLoop (.GeneratorExp elt [⟨tg, iter, ifs, 0⟩] scope pos) 0 (.ref it) .none Y.env)) [] s := by
  have stat : ∀ {pn : List (Addr × Obj)} {σ' : L2.St} {H' : Hp} {s' : Shared}, (∀ p ∈ pn, p.1 ∉ fp) → Inv Y pn σ' H' s' → (∀ b ∈ fp, H' b = none) → ∀ b ∈ fp, FpOk Y pn H' b := fun {pn σ' H' s'} hpins I' hn b hb =>
    ⟨hn b hb, (I'.ok.exf b (hex b hb)).1, I'.ok.exfs b (hex b hb), .inl (hex b hb), fun x c e => (I'.ok.exf b (hex b hb)).2 x c e, fun p hp => by
      rw [hpn] at hp
      exact fun z => hpins p (by simpa using hp) (by rw [z]; exact hb)⟩
  intro m
  induction m using Nat.strongRecOn with
  | ind m ih =>
    intro n i a pn s₀ s H hmn hPn hs0 I st nfp w
    have hpo := hpins a pn hPn
    show Seg _ A _ _ _ s₀ _ ((compTurn (.GeneratorExp elt [⟨tg, iter, ifs, 0⟩] scope pos) 0 (.ref it) .none Y.env).onRaise (leaving Y.env)) [] s
    rw [compTurn_gen, Sem.onRaise_eq_wrap]
    refine seg_bind_wrap (wpAny_standAt ?_)
    rcases turn i m a H w with ⟨stop, qq⟩ | ⟨go, Nx, hNx, step⟩
    · refine seg_bind_wrap ?_
      rw [hov]
      refine thnF (Tn.done Y rfl rfl rfl hcalm i pn s _ H (fun _ _ => False) I (stat hpo I nfp) st stop) fun r s1 ⟨hr, I1⟩ => ?_
      subst hr
      exact seg_end (.ok .next) ⟨rfl, _, _, _, _, hPn, hs0, I1, qq⟩
    · refine seg_bind_wrap ?_
      rw [hov]
      refine thnF (Tn.item Y rfl rfl rfl hcalm i pn s _ H (fun _ _ => False) I (stat hpo I nfp) st go) fun r s1 ⟨u, hr, h1⟩ => ?_
      subst hr
      refine seg_bind_wrap ?_
      rw [hov]
      refine thnF h1 fun _ s2 ⟨x, H2, I2, r2, y2, st2, n2⟩ => ?_
      have I2' := I2.pinned (stat hpo I2 n2) (Tn.obj _ _ st2)
      have no : ∀ {e : Value} {s' : Shared} {C : Prop}, Y.xe e s' → C := fun {e s' C} h => by
        rw [hxe] at h
        exact h.elim
      refine seg_bind_wrap ?_
      rw [hov]
      refine wpAny_mono (pg.run _ s2 _ H2 x u _ I2' r2 (step x H2 y2)) (fun _ s3 h3 => ?_) fun _ _ e => no e
      obtain ⟨σ3, H3, I3, hw3, q3⟩ := h3
      refine seg_bind_wrap ?_
      rw [hov]
      refine wpAny_mono (pt.run _ s3 σ3 H3 _ I3 q3) (fun b s4 h4 => ?_) fun _ _ e => no e
      obtain ⟨H4, I4, q4⟩ := h4
      -- what stands of the walk at the turn's end
      have kept : ∀ {s' : Shared} {H' : Hp}, Inv Y (pn ++ pinsAt fp s2.heap) σ3 H' s' → (∀ b ∈ fp, ∀ o, s2.heap.get? b = some o → s'.heap.get? b = some o) ∧ (∀ b ∈ fp, H' b = none) := fun {s' H'} I' => by
        have pin' : ∀ b ∈ fp, ∀ o, s2.heap.get? b = some o → s'.heap.get? b = some o ∧ H' b = none := fun b hb o e =>
          (I'.pin (b, o) (List.mem_append_right _ (List.mem_append_right _ (mem_pinsAt hb e)))).imp id And.left
        refine ⟨fun b hb o e => (pin' b hb o e).1, fun b hb => ?_⟩
        obtain ⟨o, e, _⟩ := Tn.obj _ _ st2 b hb
        exact (pin' b hb o e).2
      have weak : ∀ {s' : Shared} {H' : Hp} {pn' : List (Addr × Obj)}, Inv Y pn' σ3 H' s' → Inv Y pn' σw H' s' := fun {s' H' pn'} I' => by
        have hl : σw.length = σ3.length := by rw [← hw3, wipe_length]
        refine I'.weak hl (fun j v e => ?_)
        rw [← hw3] at e
        exact (wipe_some e).1
      cases b with
      | false =>
        simp only [Bool.false_eq_true, if_false] at q4 ⊢
        obtain ⟨m', hm, w'⟩ := hNx a H4 q4
        obtain ⟨k1, k2⟩ := kept I4
        exact seg_again rfl (ih m' hm n (i + 1) a pn s₀ s4 H4 (by omega) hPn hs0 (weak (I4.unpinned (pins := pn))) (Tn.keep _ _ _ st2 k1) k2 w')
      | true =>
        simp only [if_true] at q4 ⊢
        have hy : ∀ v, yieldOut Y.env v = yieldValue v := fun v => by simp only [yieldOut, hco, Bool.false_eq_true, if_false]
        simp only [hy]
        rw [Sem.bind_eq_wrap', Sem.bind_eq_wrap', Sem.wrap_wrap, Sem.wrap_wrap]
        refine seg_wrap ?_
        rw [hov]
        refine wpAny_mono (pe.run _ s4 σ3 H4 _ I4 q4) (fun v s5 h5 => ?_) fun _ _ e => no e
        obtain ⟨yv, H5, I5, r5, q5⟩ := h5
        obtain ⟨n', rfl⟩ : ∃ n', n = n' + 1 := ⟨n - 1, by omega⟩
        obtain ⟨k1, k2⟩ := kept I5
        refine seg_at (seg_yield rfl rfl rfl ⟨a, pn, yv, σ3, H5, hPn, hs0, r5, I5.unpinned (pins := pn), mono _ _ _ _ _ (fun a' nx pn' s' hPn' I' kb => ?_) q5⟩)
        obtain ⟨m', hm, w'⟩ := hNx a' H5 nx
        exact seg_again rfl (ih m' hm n' (i + 1) a' pn' _ _ H5 (by omega) hPn' (fun p hp => (I'.pin p (List.mem_append_right _ hp)).1) (weak I') (Tn.keep _ _ _ st2 fun b hb o e => kb b hb o (k1 b hb o e)) k2 w')
end
end GY

namespace GY
open PySem PySem.Spec PyProof.Rows L2 GenW GX
/-- a generator expression's generator, made and not yet woken -/
structure GenAt (X : Cx) (pins : List (Addr × Obj)) (σ : L2.St) (J : It) (g : TG) (tt : TT) (te : TE) (vs : List Nat) (fp : List Addr) (H3 : Hp) (ga gi : Nat) (Y : Cx) (go : Obj) (s5 : Shared) : Prop where
  prog : Y.prog = X.prog
  w : Y.w = X.w
  inv : Inv Y [(ga, go)] (wipe σ vs) H3 s5
  ypn : Y.pn = []
  isgen : ∀ h : Heap, h.get? ga = some go → h.IsGen ga gi
  gafp : ga ∉ fp
  fplt : ∀ b ∈ fp, b < s5.heap.objs.size
  back : ∀ pn σ' H' s', Inv Y pn σ' H' s' → Inv X pins σ H' s'
  goes : ∀ {α : Type} (Pn : α → List (Addr × Obj) → Prop) (T : α → Hp → Prop) (D : α → V → Hp → (α → Prop) → Prop) (W : Nat → Nat → α → Hp → Prop), (∀ a pn, Pn a pn → ∀ p ∈ pn, p.1 ∉ fp) → (∀ a y H (k k' : α → Prop), (∀ a', k a' → k' a') → D a y H k → D a y H k') → TurnG J g tt te vs (wipe σ vs) W T D →
    ∀ (m0 : Nat) (a0 : α) (pn0 : List (Addr × Obj)) (s6 : Shared), Pn a0 pn0 → Inv Y pn0 (wipe σ vs) H3 s6 → (∀ b ∈ fp, ∀ o, s5.heap.get? b = some o → s6.heap.get? b = some o) → s6.gens = s5.gens → W 0 m0 a0 H3 →
      ∃ gs, s6.gens[gi]? = some gs ∧ gs.Goes (model X.prog X.w) X.A.in1.in1 (RGa Y Pn T) (YGa Y fp Pn D) (m0 + 1) (.send .none) (s6.setGen gi .running)
section
variable {X : Cx}
theorem gen_made {c P : Addr} {elt tg iter : Expr} {ifs : List Expr} {scope : Scope} {own : List (Str × Nat)} {gpos : Pos} {wi : TI} {g : TG} {tt : TT} {te : TE} {k : Nat}
    (hr : Room k X.A) (TB : GxR.TabB X.base X.mg c P) (hcode : X.env.code = .ref c) (hc : X.calm = true) (hN : X.N.Nodup) (hi : PI X tg iter wi) (ok : BlkOk X.N X.env.scope scope own)
    (hco : scope.isCoroutine = false) (nc : ∀ y ∈ scope.names, y.2 ≠ .cell) (h0 : scope.names.lookup (".0" : Str) = some NameKind.local)
    (hg : ∀ (s : Shared) (H : Hp) (C : Addr) (cl : List (Str × Addr)) (code : Value) (fp : List Addr), PG (gcx X s H (genEnv scope cl C code builtinsNs X.env) fp) tg g)
    (ht : ∀ (s : Shared) (H : Hp) (C : Addr) (cl : List (Str × Addr)) (code : Value) (fp : List Addr), PTs (gcx X s H (genEnv scope cl C code builtinsNs X.env) fp) ifs tt)
    (he : ∀ (s : Shared) (H : Hp) (C : Addr) (cl : List (Str × Addr)) (code : Value) (fp : List Addr), PE (gcx X s H (genEnv scope cl C code builtinsNs X.env) fp) elt te)
    (hs : ∀ v, genFold iter X.env v = pure v)
    {pins : List (Addr × Obj)} {s : Shared} {σ : L2.St} {H : Hp} {Kt : It → Hp → Prop} (I : Inv X pins σ H s) (h : wi σ H fun J H1 => GxR.TabG H1 P ∧ ∀ H2, GxR.Tabbed P H1 H2 → Kt J H2)
    {Q : Value → Shared → Prop} (hq : ∀ (J : It) (fp : List Addr) (H3 : Hp) (ga gi : Nat) (Y : Cx) (go : Obj) (s5 : Shared), Kt J H3 → GenAt X pins σ J g tt te (own.map (·.2)) fp H3 ga gi Y go s5 → Q (.ref ga) s5) :
    wpAny (model X.prog X.w) X.A (eval (.GeneratorExp elt [⟨tg, iter, ifs, 0⟩] scope gpos) X.env) Q X.xe s := by
  have caught : ∀ n ∈ scope.names, n.2 = .free → ∃ c, X.env.cells.lookup n.1 = some c := fun n hn hf => I.ok.has _ ((ok.free n hn hf).elim .inl .inr)
  refine wpAny_GeneratorExp_make hco (closure_ok caught) nc h0 ok.kind hr.depth ?_ hs
  refine thn (hi.run pins s σ H _ I h) fun xv s1 hx => thn hx fun itv s2 h2 => ?_
  obtain ⟨it, fp, tn, J, H2, e, I2, T, st2, f2, ⟨ps, hP, ht2⟩, q⟩ := h2
  subst e
  refine ⟨I2.nolimit, ?_⟩
  have hPs : s2.heap.get? P = some { cls := .none, data := .fields ps } := I2.hok P _ hP
  have cd : PySem.W.CodeHd s2.heap c P := TB.code.keeps fun b u e => I2.bk b u e
  have nfP : ∀ b ∈ fp, b ≠ P := fun b hb z => by
    have := (f2 b hb).1
    rw [z, hP] at this
    cases this
  -- behind the code object
  have cont : ∀ (code : Value) (h3 : Heap) (tk : Nat) (ps' : Array Value), Heap.ExtBut P s2.heap h3 → s2.heap.objs.size ≤ h3.objs.size → h3.get? P = some { cls := .none, data := .fields ps' } → (∃ more, ps' = ps ++ more) → TriplesOk ps'.toList →
      wpAny (model X.prog X.w) X.A (builtinsFor X.env.globals X.env.builtins) (fun bi s₄ => ∀ h', h'.Ns s₄.heap.objs.size (fun y => if y = ".0" then some (.ref it) else none) → Heap.SameBut s₄.heap.objs.size (s₄.heap.push { cls := .type "frame", data := .dict #[] }) h' →
          Q (.ref h'.objs.size) { s₄ with
            gens := s₄.gens.push (.fresh (.compStart (.GeneratorExp elt [⟨tg, iter, ifs, 0⟩] scope gpos) 0 (.ref it) .none (genEnv scope (cloFrom X.env.cells scope.names []) s₄.heap.objs.size code bi X.env))),
            toks := s₄.toks + 1 + 1 + 1,
            heap := h'.push { cls := .type "generator", data := .fields #[.int s₄.gens.size 0, .str "<genexpr>" (s₄.toks + 1), .str (X.env.qual ++ "<genexpr>") (s₄.toks + 1 + 1)] } }) X.xe { s2 with heap := h3, toks := tk } := by
    intro code h3 tk ps' hx hsz hP3 ⟨more, em⟩ ht3
    obtain ⟨bmod, bobj, i1, i2, i3, i4, i5, i6, i7, i8⟩ := TB.bm
    have keep3 : ∀ b u, b ≠ P → s2.heap.get? b = some u → h3.get? b = some u := fun b u hb e => hx b u hb e
    refine wpAny_builtinsFor (m := X.mg) (by rw [I2.ok.glob]; exact (I2.mod.glob.keeps I2.bk).extBut hx TB.gP) i1 i2 (keep3 _ _ i4 (I2.bk _ _ i5)) i6 i7 i8 ?_
    intro h' hn' hs'
    -- the state ahead of the frame
    have I3 := GxR.inv_tab (more := more) (h' := h3) (g' := s2.gens) (d' := s2.drawn) (t' := tk) I2 hP (fun b u hb e => keep3 b u hb e) (by rw [← em]; exact hP3) I2.bare
    have hTab : GxR.Tabbed P H2 (upd H2 P (.tbl (ps ++ more))) := ⟨⟨ps ++ more, upd_same, by rw [← em]; exact ht3⟩, fun b hb => upd_ne hb⟩
    have hK := q _ hTab
    generalize upd H2 P (.tbl (ps ++ more)) = H3 at I3 hK hTab
    have st3 : tn 0 h3 := T.keep _ _ _ st2 fun b hb o e => keep3 b o (nfP b hb) e
    have f3 : ∀ b ∈ fp, FpOk X pins H3 b ∧ b < h3.objs.size := fun b hb => by
      obtain ⟨o, e, _⟩ := T.obj _ _ st3 b hb
      exact ⟨⟨by rw [hTab.2 b (nfP b hb)]; exact (f2 b hb).1, (f2 b hb).2⟩, Heap.lt_size e⟩
    generalize hs3 : ({ s2 with heap := h3, toks := tk } : Shared) = s3 at I3
    have es3 : h3 = s3.heap := by rw [← hs3]
    have hn'' : h'.Ns s3.heap.objs.size (fun y => if y = ".0" then some (.ref it) else none) := by rw [← es3]; exact hn'
    have hs'' : Heap.SameBut s3.heap.objs.size (s3.heap.push { cls := .type "frame", data := .dict #[] }) h' := by rw [← es3]; exact hs'
    rw [es3] at st3 f3
    show Q _ { s3 with
            gens := s3.gens.push (.fresh (.compStart (.GeneratorExp elt [⟨tg, iter, ifs, 0⟩] scope gpos) 0 (.ref it) .none (genEnv scope (cloFrom X.env.cells scope.names []) s3.heap.objs.size code builtinsNs X.env))),
            toks := s3.toks + 1 + 1 + 1,
            heap := h'.push { cls := .type "generator", data := .fields #[.int s3.gens.size 0, .str "<genexpr>" (s3.toks + 1), .str (X.env.qual ++ "<genexpr>") (s3.toks + 1 + 1)] } }
    have kp : ∀ b o, s3.heap.get? b = some o → h'.get? b = some o := fun b o e => hs''.extBut b o (Nat.ne_of_lt (Heap.lt_size e)) (Heap.get?_push_of_some _ e)
    have hsz' : h'.objs.size = s3.heap.objs.size + 1 := by rw [hs''.1, Heap.size_push]
    generalize hgo : ({ cls := .type "generator", data := .fields #[.int s3.gens.size 0, .str "<genexpr>" (s3.toks + 1), .str (X.env.qual ++ "<genexpr>") (s3.toks + 1 + 1)] } : Obj) = go
    have hgen0 : ∀ h : Heap, h.get? h'.objs.size = some go → h.IsGen h'.objs.size s3.gens.size := fun h e => ⟨go, _, _, e, by rw [← hgo], by rw [← hgo], by rw [← hgo]⟩
    have ngo : ∀ v, go.data ≠ .cell v := fun v z => by
      rw [← hgo] at z
      cases z
    have hpush : (h'.push go).get? h'.objs.size = some go := by
      rw [← hgo]
      exact Heap.get?_push_size _ rfl
    have kp2 : ∀ b o, s3.heap.get? b = some o → (h'.push go).get? b = some o := fun b o e => Heap.get?_push_of_some _ (kp b o e)
    have pg := hg s3 H3 s3.heap.objs.size (cloFrom X.env.cells scope.names []) code fp
    have pt := ht s3 H3 s3.heap.objs.size (cloFrom X.env.cells scope.names []) code fp
    have pe := he s3 H3 s3.heap.objs.size (cloFrom X.env.cells scope.names []) code fp
    have I4 := gen_start (code := code) (tk := s3.toks + 1 + 1 + 1) (h' := h'.push go) (G := s3.gens.push (.fresh (.compStart (.GeneratorExp elt [⟨tg, iter, ifs, 0⟩] scope gpos) 0 (.ref it) .none (genEnv scope (cloFrom X.env.cells scope.names []) s3.heap.objs.size code builtinsNs X.env)))) I3 ok nc hN f3 (hn''.push _) kp2 (AllBare.push I3.bare rfl)
    generalize hce : genEnv scope (cloFrom X.env.cells scope.names []) s3.heap.objs.size code builtinsNs X.env = ce at pg pt pe I4 ⊢
    have cL : ce.locals = s3.heap.objs.size := by subst hce; rfl
    have cS : ce.scope = scope := by subst hce; rfl
    have hgH : H3 h'.objs.size = none := I3.hok.fresh (by rw [hsz']; exact Nat.le_succ _)
    have nfs : h'.objs.size ∉ frs X.stack := fun z => by
      rcases List.mem_cons.mp (I3.stkSub _ z) with z | z
      · have := I3.lt
        rw [← z, hsz'] at this
        exact absurd (Nat.lt_of_succ_lt this) (Nat.lt_irrefl _)
      · exact I3.nofs (by rw [hsz']; exact Nat.le_succ _) z
    have I5 := I4.pins_of (pins' := [(h'.objs.size, go)]) fun p hp => by
      rw [List.mem_singleton.mp hp]
      refine ⟨hpush, hgH, ?_, nfs, ngo⟩
      show h'.objs.size ≠ ce.locals
      rw [cL, hsz']
      exact Nat.succ_ne_self _
    generalize hs5 : ({ s3 with heap := h'.push go, gens := s3.gens.push (.fresh (.compStart (.GeneratorExp elt [⟨tg, iter, ifs, 0⟩] scope gpos) 0 (.ref it) .none ce)), toks := s3.toks + 1 + 1 + 1 } : Shared) = s5 at I5
    have st5 : tn 0 s5.heap := T.keep _ _ _ st3 fun b _ o e => by rw [← hs5]; exact kp2 b o e
    have hgs : s5.gens[s3.gens.size]? = some (.fresh (.compStart (.GeneratorExp elt [⟨tg, iter, ifs, 0⟩] scope gpos) 0 (.ref it) .none ce)) := by
      rw [← hs5]
      exact Array.getElem?_push_size ..
    have hz5 : s5.heap.objs.size = h'.objs.size + 1 := by
      rw [← hs5]
      exact Heap.size_push ..
    refine hq J fp H3 h'.objs.size s3.gens.size (gcx X s3 H3 ce fp) go s5 hK ⟨rfl, rfl, I5, rfl, hgen0, fun hb => ?_, fun b hb => ?_, fun pn σ' H' s' I6 => ?_, fun {α} Pn T' D W hpins mono turn m0 a0 pn0 s6 hPn I6 k6 hg6 w0 => ?_⟩
    · have z : h'.objs.size < s3.heap.objs.size := (f3 _ hb).2
      rw [hsz'] at z
      omega
    · have z : b < s3.heap.objs.size := (f3 b hb).2
      rw [hz5, hsz']
      exact Nat.lt_succ_of_lt (Nat.lt_succ_of_lt z)
    · exact I3.call' (ch := fp) I6.os I6.base I6.hok I6.bare fun b hb => ⟨(f3 b hb).1.2.2.2.1, (f3 b hb).1.2.1, (f3 b hb).1.2.2.2.2.1, (f3 b hb).1.2.2.2.2.2⟩
    · have hgs6 : s6.gens[s3.gens.size]? = some (.fresh (.compStart (.GeneratorExp elt [⟨tg, iter, ifs, 0⟩] scope gpos) 0 (.ref it) .none ce)) := by
        rw [hg6]
        exact hgs
      refine ⟨_, hgs6, rfl, ?_⟩
      have st6 : tn 0 s6.heap := T.keep _ _ _ st5 k6
      refine seg_start (i := 0) T st6 ?_
      exact seg_loopA (Y := gcx X s3 H3 ce fp) (vs := own.map (·.2)) rfl rfl hc (by show ce.scope.isCoroutine = false; rw [cS]; exact hco) T pg pt pe (fun b hb => hb) rfl hpins mono turn m0 (m0 + 1) 0 a0 pn0 _ _ H3 (Nat.lt_succ_self _) hPn (fun p hp => (I6.pin p (List.mem_append_right _ hp)).1) (inv_gens I6 (allBare_setGen I6.bare rfl)) st6 (fun b hb => (f3 b hb).1.1) w0
  cases hf : codeAmong gpos ps.toList with
  | none =>
    refine wpAny_genexprCodeX hcode (cd.code hPs ht2) (cd.tab hPs) hf fun c' h' tk hx hge hlt hco' _ htab' _ => ?_
    have trip := hco'.choose_spec.choose_spec.choose_spec.choose_spec.choose_spec.choose_spec.choose_spec.choose_spec.choose_spec.choose_spec.2.2.2.2.2.2.2.2.2.1
    exact cont _ h' tk _ hx (Nat.le_trans hge (Nat.le_of_lt hlt)) htab'.2 ⟨#[_, _, _], rfl⟩ trip
  | some cv =>
    refine wpAny_genexprCode_hit hcode (cd.code hPs ht2) hf ?_
    exact cont cv s2.heap s2.toks ps (Heap.ExtBut.refl _ _) (Nat.le_refl _) hPs ⟨#[], by simp⟩ ht2
end
end GY

namespace GY
open PySem PySem.Spec PyProof.Rows L2 GenW GX
section
variable {Y : Cx}
/-! ### any -/
abbrev dAny (F : Hp → Prop) : Unit → V → Hp → (Unit → Prop) → Prop := fun _ y H k => ∃ c : Bool, y = .bl c ∧ (c = false → k ()) ∧ (c = true → F H)
theorem dAny_mono (F : Hp → Prop) : ∀ a y H (k k' : Unit → Prop), (∀ a', k a' → k' a') → dAny F a y H k → dAny F a y H k' := fun _ _ _ _ _ h ⟨c, e, h1, h2⟩ => ⟨c, e, fun z => h _ (h1 z), h2⟩
theorem any_loop {A : Around} {R : Result → Shared → Prop} {ga gi : Nat} {go : Obj} {fp : List Addr} {T F : Hp → Prop} (hh : A.handled = none) (hd : A.depth < recursionLimit) (isgen : ∀ h : Heap, h.get? ga = some go → h.IsGen ga gi) (hT : ∀ σ H s, Inv Y [(ga, go)] σ H s → T H → R (.ok (.ret (.bool false))) s) (hF : ∀ σ H s, Inv Y [(ga, go)] σ H s → F H → R (.ok (.ret (.bool true))) s) :
    ∀ (n : Nat) (s : Shared), s.heap.get? ga = some go → s.heap.NoLimit → (∃ gs, s.gens[gi]? = some gs ∧ gs.Goes (model Y.prog Y.w) A.in1.in1 (RGa Y (fun (_ : Unit) pn => pn = [(ga, go)]) fun _ => T) (YGa Y fp (fun (_ : Unit) pn => pn = [(ga, go)]) (dAny F)) n (.send .none) (s.setGen gi .running)) →
      codeAny (model Y.prog Y.w) A (.builtin "any.loop" ⟨[.ref ga], []⟩) R s := by
  intro n
  induction n with
  | zero =>
    intro s hg hl ⟨gs, hgs, hgo⟩
    refine codeAny_builtin PySem.F.entry_any_loop ?_
    rw [Around.under_plainId PySem.F.plain_any_loop _]
    show wpAny _ A.in1 (pyNext (.ref ga) >>= _) _ _ s
    refine wpAny_bind (wpAny_pyNext_genexpQ (A := A.in1) (P := fun _ s₀ s₁ => ∃ (a : Unit) (pn : List (Addr × Obj)) (σ : L2.St) (H : Hp), pn = [(ga, go)] ∧ (∀ p ∈ pn, s₀.heap.get? p.1 = some p.2) ∧ Inv Y pn σ H s₁ ∧ T H) hh hl hd (isgen _ hg) hgs hgo (fun v s₁ gs' hb hv => ?_) (fun s₁ hp h' hk => ?_))
    · obtain ⟨a, pn, y, σ, H, rfl, _, ry, I, c, rfl, h1, h2⟩ := hv
      obtain rfl : v = Value.bool c := ry
      cases c with
      | false => exact (h1 rfl _ _ rfl I (fun _ _ _ e => e)).elim
      | true =>
        refine wpAny_bind (wpAny_holding (wpAny_truthy_bool ?_))
        refine wpAny_bind (wpAny_letGo ?_)
        simp only [if_true]
        exact wpAny_bind (wpAny_rule (wpAny_pure (hF σ H _ (inv_gens I (allBare_setGen I.bare hb)) (h2 rfl))))
    · obtain ⟨_, pn, σ, H, rfl, _, I, q⟩ := hp
      exact wpAny_bind (wpAny_rule (wpAny_pure (hT σ H _ (inv_kept (s := s₁) (G := (s₁.setGen gi .finished).gens) I (allBare_setGen I.bare rfl) hk) q)))
  | succ n ih =>
    intro s hg hl ⟨gs, hgs, hgo⟩
    have hgl : gi < s.gens.size := (Array.getElem?_eq_some_iff.mp hgs).1
    refine codeAny_builtin PySem.F.entry_any_loop ?_
    rw [Around.under_plainId PySem.F.plain_any_loop _]
    show wpAny _ A.in1 (pyNext (.ref ga) >>= _) _ _ s
    refine wpAny_bind (wpAny_gsz (n := gi + 1) hgl (wpAny_pyNext_genexpQ (A := A.in1) (P := fun _ s₀ s₁ => ∃ (a : Unit) (pn : List (Addr × Obj)) (σ : L2.St) (H : Hp), pn = [(ga, go)] ∧ (∀ p ∈ pn, s₀.heap.get? p.1 = some p.2) ∧ Inv Y pn σ H s₁ ∧ T H) hh hl hd (isgen _ hg) hgs hgo (fun v s₁ gs' hb hv => ?_) (fun s₁ hp h' hk => ?_)))
    · intro hsz
      obtain ⟨a, pn, y, σ, H, rfl, _, ry, I, c, rfl, h1, h2⟩ := hv
      obtain rfl : v = Value.bool c := ry
      refine wpAny_bind (wpAny_holding (wpAny_truthy_bool ?_))
      refine wpAny_bind (wpAny_letGo ?_)
      cases c with
      | false =>
        simp only [Bool.false_eq_true, if_false]
        have hsz1 : gi < s₁.gens.size := by
          have q : (s₁.setGen gi gs').gens.size = s₁.gens.size := setGen_size _ _ _
          have hsz' : gi + 1 ≤ (s₁.setGen gi gs').gens.size := hsz
          omega
        refine wpAny_pure ⟨plainId_quiet PySem.F.plain_any_loop _, ih (s₁.setGen gi gs') (I.pin (ga, go) (List.mem_append_right _ (List.mem_singleton.mpr rfl))).1 (show s₁.heap.NoLimit from I.nolimit) ⟨gs', setGen_at hsz1, ?_⟩⟩
        exact h1 rfl _ _ rfl (inv_gens (inv_gens I (allBare_setGen (g := gi) I.bare hb)) (allBare_setGen (s := s₁.setGen gi gs') (allBare_setGen I.bare hb) rfl)) (fun _ _ _ e => e)
      | true =>
        simp only [if_true]
        exact wpAny_bind (wpAny_rule (wpAny_pure (hF σ H _ (inv_gens I (allBare_setGen I.bare hb)) (h2 rfl))))
    · intro hsz
      obtain ⟨_, pn, σ, H, rfl, _, I, q⟩ := hp
      exact wpAny_bind (wpAny_rule (wpAny_pure (hT σ H _ (inv_kept (s := s₁) (G := (s₁.setGen gi .finished).gens) I (allBare_setGen I.bare rfl) hk) q)))
/-! ### sum -/
abbrev dSum : Int → V → Hp → (Int → Prop) → Prop := fun t y _ k => ∃ i : Int, y = .int i ∧ k (t + i)
theorem dSum_mono : ∀ a y H (k k' : Int → Prop), (∀ a', k a' → k' a') → dSum a y H k → dSum a y H k' := fun _ _ _ _ _ h ⟨i, e, h1⟩ => ⟨i, e, h _ h1⟩
abbrev sumO (t : Int) (tok : Tok) (c : Nat) : Obj := { cls := .type "list", dict := none, data := .seq #[.int t tok] c, slots := #[] }
abbrev pnSum (ga : Addr) (go : Obj) (L : Addr) : Int → List (Addr × Obj) → Prop := fun t pn => ∃ tok c, pn = [(ga, go), (L, sumO t tok c)]
/-- the taker's own list, new when the generator was made -/
structure OwnL (Y : Cx) (ga L : Addr) (fp : List Addr) : Prop where
  young : Y.s_0.heap.objs.size ≤ L
  cells : ∀ x c, Y.env.cells.lookup x = some c → c ≠ L
  ypn : Y.pn = []
  ne : L ≠ ga
  nfp : L ∉ fp
theorem own_put {ga L : Addr} {fp : List Addr} {go : Obj} {o o' : Obj} {σ : L2.St} {H : Hp} {s : Shared} {h' : Heap} {tk : Nat} (O : OwnL Y ga L fp) (I : Inv Y [(ga, go), (L, o)] σ H s) (hL : h'.get? L = some o') (hk : ∀ b u, b ≠ L → s.heap.get? b = some u → h'.get? b = some u) (nc : ∀ v, o'.data ≠ .cell v) : Inv Y [(ga, go), (L, o')] σ H { s with heap := h', toks := tk } := by
  have pL := I.pin (L, o) (by simp)
  have pG := I.pin (ga, go) (by simp)
  have J := (I.pins_of (pins' := [(ga, go)]) fun p hp => by rw [List.mem_singleton.mp hp]; exact pG).turned (it := L) (h' := h') (t' := tk) (fun b u hb e => hk b u hb e) pL.2.1 pL.2.2.1 (.inr O.young) O.cells (fun p hp => by
    rw [O.ypn] at hp
    have : p = (ga, go) := by simpa using hp
    rw [this]
    exact O.ne.symm)
  refine J.pins_of fun p hp => ?_
  have two : p = (ga, go) ∨ p = (L, o') := by simpa using hp
  rcases two with rfl | rfl
  · exact ⟨hk _ _ O.ne.symm pG.1, pG.2⟩
  · exact ⟨hL, pL.2.1, pL.2.2.1, pL.2.2.2.1, nc⟩
theorem sum_loop {A : Around} {R : Result → Shared → Prop} {ga gi L : Nat} {go : Obj} {fp : List Addr} {T : Int → Hp → Prop} (hh : A.handled = none) (hd : A.depth < recursionLimit) (isgen : ∀ h : Heap, h.get? ga = some go → h.IsGen ga gi) (O : OwnL Y ga L fp) (hT : ∀ t tok pn σ H s, Inv Y pn σ H s → T t H → R (.ok (.ret (.int t tok))) s) :
    ∀ (n : Nat) (s : Shared) (t : Int) (tok : Tok) (c : Nat) (st : Int), (st = 0 ∨ st = 2) → s.heap.get? L = some (sumO t tok c) → s.heap.get? ga = some go → s.heap.NoLimit → (∃ gs, s.gens[gi]? = some gs ∧ gs.Goes (model Y.prog Y.w) A.in1.in1 (RGa Y (pnSum ga go L) T) (YGa Y fp (pnSum ga go L) dSum) n (.send .none) (s.setGen gi .running)) →
      codeAny (model Y.prog Y.w) A (.builtin "sum.loop" ⟨[.ref ga, .ref L, rawInt st, rawInt 0], []⟩) R s := by
  intro n
  induction n with
  | zero =>
    intro s t tok c st hst hL hg hl ⟨gs, hgs, hgo⟩
    refine codeAny_builtin PySem.F.entry_sum_loop ?_
    rw [Around.under_plainId PySem.F.plain_sum_loop _]
    show wpAny _ A.in1 (seqItems? (.ref L) >>= _) _ _ s
    refine wpAny_bind (wpAny_seqItems hL rfl ?_)
    show wpAny _ A.in1 (tryCatch (pyNext (.ref ga)) _ >>= _) _ _ s
    refine wpAny_bind (wpAny_tryCatch (wpAny_pyNext_genexpQ (A := A.in1) (P := fun _ s₀ s₁ => ∃ a pn σ H, pnSum ga go L a pn ∧ (∀ p ∈ pn, s₀.heap.get? p.1 = some p.2) ∧ Inv Y pn σ H s₁ ∧ T a H) hh hl hd (isgen _ hg) hgs hgo (fun v s₁ gs' hb hv => ?_) (fun s₁ hp h' hk => ?_)))
    · obtain ⟨a, pn, y, σ, H, ⟨tok', c', rfl⟩, h0, ry, I, i, rfl, h1⟩ := hv
      have IL := own_put (tk := s₁.toks) (o' := sumO (a + i) tok' c') (h' := s₁.heap.update L fun _ => sumO (a + i) tok' c') O I (Heap.get?_update_self _ (I.pin (L, sumO a tok' c') (by simp)).1 rfl) (fun b u hb e => (Heap.get?_update_other _ _ (fun h : L = b => hb h.symm)).trans e) (fun v z => by cases z)
      exact (h1 _ _ ⟨tok', c', rfl⟩ IL fun b hb o e => (Heap.get?_update_other _ _ (fun h : L = b => O.nfp (h ▸ hb))).trans e).elim
    · obtain ⟨a, pn, σ, H, ⟨tok', c', rfl⟩, h0, I, q⟩ := hp
      have e0 := h0 (L, sumO a tok' c') (by simp)
      have e1 : s.heap.get? L = some (sumO a tok' c') := e0
      rw [hL] at e1
      have ea : t = a := by
        injection e1 with e1
        injection e1 with _ _ e1
        injection e1 with e1 _
        injection e1 with e1
        injection e1 with e1 _
        injection e1 with e1 _
      subst ea
      exact wpAny_pure (hT t tok _ σ H _ (inv_kept (s := s₁) (G := (s₁.setGen gi .finished).gens) I (allBare_setGen I.bare rfl) hk) q)
  | succ n ih =>
    intro s t tok c st hst hL hg hl ⟨gs, hgs, hgo⟩
    have hgl : gi < s.gens.size := (Array.getElem?_eq_some_iff.mp hgs).1
    refine codeAny_builtin PySem.F.entry_sum_loop ?_
    rw [Around.under_plainId PySem.F.plain_sum_loop _]
    show wpAny _ A.in1 (seqItems? (.ref L) >>= _) _ _ s
    refine wpAny_bind (wpAny_seqItems hL rfl ?_)
    show wpAny _ A.in1 (tryCatch (pyNext (.ref ga)) _ >>= _) _ _ s
    refine wpAny_bind (wpAny_tryCatch (wpAny_gsz (n := gi + 1) hgl (wpAny_pyNext_genexpQ (A := A.in1) (P := fun _ s₀ s₁ => ∃ a pn σ H, pnSum ga go L a pn ∧ (∀ p ∈ pn, s₀.heap.get? p.1 = some p.2) ∧ Inv Y pn σ H s₁ ∧ T a H) hh hl hd (isgen _ hg) hgs hgo (fun v s₁ gs' hb hv => ?_) (fun s₁ hp h' hk => ?_))))
    · intro hsz
      obtain ⟨a, pn, y, σ, H, ⟨tok', c', rfl⟩, h0, ry, I, i, rfl, h1⟩ := hv
      obtain ⟨tv, rfl⟩ := ry
      have e0 := h0 (L, sumO a tok' c') (by simp)
      have e1 : s.heap.get? L = some (sumO a tok' c') := e0
      rw [hL] at e1
      have ea : t = a ∧ tok = tok' ∧ c = c' := by
        injection e1 with e1
        injection e1 with _ _ e1
        injection e1 with e1 e2
        injection e1 with e1
        injection e1 with e1 _
        injection e1 with e1 e3
        exact ⟨e1, e3, e2⟩
      obtain ⟨rfl, rfl, rfl⟩ := ea
      have hsz1 : gi < s₁.gens.size := by
        have q : (s₁.setGen gi gs').gens.size = s₁.gens.size := setGen_size _ _ _
        have hsz' : gi + 1 ≤ (s₁.setGen gi gs').gens.size := hsz
        omega
      have I' := inv_gens I (allBare_setGen (g := gi) I.bare hb)
      have hS' : (s₁.setGen gi gs').heap.get? L = some (sumO t tok c) := (I'.pin (L, sumO t tok c) (by simp)).1
      have hG' : (s₁.setGen gi gs').heap.get? ga = some go := (I'.pin (ga, go) (by simp)).1
      -- what follows a turn
      have fin : ∀ (h' : Heap) (tk : Nat) (tok2 : Tok) (c2 : Nat) (st2 : Int), (st2 = 0 ∨ st2 = 2) → h'.get? L = some (sumO (t + i) tok2 c2) → (∀ b u, b ≠ L → (s₁.setGen gi gs').heap.get? b = some u → h'.get? b = some u) →
          codeAny (model Y.prog Y.w) A (.builtin "sum.loop" ⟨[.ref ga, .ref L, rawInt st2, rawInt 0], []⟩) R { s₁.setGen gi gs' with heap := h', toks := tk } := fun h' tk tok2 c2 st2 hst2 hL2 hk2 => by
        have IL := own_put (tk := tk) (o' := sumO (t + i) tok2 c2) O I' hL2 hk2 (fun v z => by cases z)
        refine ih _ (t + i) tok2 c2 st2 hst2 hL2 (hk2 _ _ O.ne.symm hG') (IL.nolimit) ⟨gs', setGen_at hsz1, ?_⟩
        exact h1 _ _ ⟨tok2, c2, rfl⟩ (inv_gens IL (allBare_setGen IL.bare rfl)) fun b hb' o e => hk2 b o (fun z => O.nfp (z ▸ hb')) e
      rcases hst with rfl | rfl
      · show wpAny _ A.in1 (if (_ : Bool) = true then (mkInt (t + i) >>= _) else _) _ _ _
        split
        · refine wpAny_bind (wpAny_mkInt ?_)
          show wpAny _ A.in1 (updateSeq L (fun _ => #[.int (t + i) _]) >>= _) _ _ _
          refine wpAny_bind ?_
          refine wpAny_updateSeq hS' rfl (wpAny_pure ⟨plainId_quiet F.plain_sum_loop _, ?_⟩)
          exact fin _ _ _ _ 0 (.inl rfl) (Heap.get?_update_self _ hS' rfl) fun b u hb e => (Heap.get?_update_other _ _ (fun h : L = b => hb h.symm)).trans e
        · refine wpAny_bind (wpAny_rule ?_)
          refine wpAny_bind (wpAny_attempt (wpAny_holding (wpAny_add_int ?_)))
          show wpAny _ A.in1 (updateSeq L (fun _ => #[.int (t + i) _]) >>= _) _ _ _
          refine wpAny_bind (wpAny_updateSeq hS' rfl ?_)
          have hS₂ := Heap.get?_update_self (Obj.mapSeq fun _ => #[Value.int (t + i) (s₁.setGen gi gs').toks]) hS' rfl
          refine wpAny_bind (wpAny_letGo ?_)
          refine wpAny_bind (wpAny_updateSeq hS₂ rfl (wpAny_pure ⟨plainId_quiet F.plain_sum_loop _, ?_⟩))
          exact fin _ _ _ _ 2 (.inr rfl) (Heap.get?_update_self _ hS₂ rfl) fun b u hb e => (Heap.get?_update_other _ _ (fun h : L = b => hb h.symm)).trans ((Heap.get?_update_other _ _ (fun h : L = b => hb h.symm)).trans e)
      · show wpAny _ A.in1 ((holding [Value.int i tv] (binaryOp .Add (.int t tok) (.int i tv))).attempt >>= _) _ _ _
        refine wpAny_bind (wpAny_attempt (wpAny_holding (wpAny_add_int ?_)))
        show wpAny _ A.in1 (updateSeq L (fun _ => #[.int (t + i) _]) >>= _) _ _ _
        refine wpAny_bind (wpAny_updateSeq hS' rfl ?_)
        have hS₂ := Heap.get?_update_self (Obj.mapSeq fun _ => #[Value.int (t + i) (s₁.setGen gi gs').toks]) hS' rfl
        refine wpAny_bind (wpAny_letGo ?_)
        refine wpAny_bind (wpAny_updateSeq hS₂ rfl (wpAny_pure ⟨plainId_quiet F.plain_sum_loop _, ?_⟩))
        exact fin _ _ _ _ 2 (.inr rfl) (Heap.get?_update_self _ hS₂ rfl) fun b u hb e => (Heap.get?_update_other _ _ (fun h : L = b => hb h.symm)).trans ((Heap.get?_update_other _ _ (fun h : L = b => hb h.symm)).trans e)
    · intro hsz
      obtain ⟨a, pn, σ, H, ⟨tok', c', rfl⟩, h0, I, q⟩ := hp
      have e0 := h0 (L, sumO a tok' c') (by simp)
      have e1 : s.heap.get? L = some (sumO a tok' c') := e0
      rw [hL] at e1
      have ea : t = a := by
        injection e1 with e1
        injection e1 with _ _ e1
        injection e1 with e1 _
        injection e1 with e1
        injection e1 with e1 _
        injection e1 with e1 _
      subst ea
      exact wpAny_pure (hT t tok _ σ H _ (inv_kept (s := s₁) (G := (s₁.setGen gi .finished).gens) I (allBare_setGen I.bare rfl) hk) q)
end
end GY

namespace GY
open PySem PySem.Spec PyProof.Rows L2 GenW GX
/-- f(elt for tg in iter if ..): the taker begins with a0, T is what holds of it at the end, D what it does with an item -/
def tGx {α : Type} (P : Addr) (wi : TI) (g : TG) (tt : TT) (te : TE) (vs : List Nat) (a0 : α) (T : VK → α → Hp → Prop) (D : VK → α → V → Hp → (α → Prop) → Prop) : TE := fun σ H Q => wi σ H fun J H1 => GxR.TabG H1 P ∧ ∀ H2, GxR.Tabbed P H1 H2 →
  ∃ W : Nat → Nat → α → Hp → Prop, (∃ m, W 0 m a0 H2) ∧ TurnG J g tt te vs (wipe σ vs) W (T Q) (D Q)
section
variable {X : Cx}
theorem pe_sum {c P : Addr} {elt tg iter : Expr} {ifs : List Expr} {scope : Scope} {own : List (Str × Nat)} {p pos gpos : Pos} {wi : TI} {g : TG} {tt : TT} {te : TE} {k : Nat}
    (hr : Room k X.A) (hgl : Gl X "sum") (hm : X.mg "sum" = none) (TB : GxR.TabB X.base X.mg c P) (hcode : X.env.code = .ref c) (hc : X.calm = true) (hN : X.N.Nodup) (hi : PI X tg iter wi) (ok : BlkOk X.N X.env.scope scope own)
    (hco : scope.isCoroutine = false) (nc : ∀ y ∈ scope.names, y.2 ≠ .cell) (h0 : scope.names.lookup (".0" : Str) = some NameKind.local)
    (hg : ∀ (s : Shared) (H : Hp) (C : Addr) (cl : List (Str × Addr)) (code : Value) (fp : List Addr), PG (gcx X s H (genEnv scope cl C code builtinsNs X.env) fp) tg g)
    (ht : ∀ (s : Shared) (H : Hp) (C : Addr) (cl : List (Str × Addr)) (code : Value) (fp : List Addr), PTs (gcx X s H (genEnv scope cl C code builtinsNs X.env) fp) ifs tt)
    (he : ∀ (s : Shared) (H : Hp) (C : Addr) (cl : List (Str × Addr)) (code : Value) (fp : List Addr), PE (gcx X s H (genEnv scope cl C code builtinsNs X.env) fp) elt te)
    (hs : ∀ v, genFold iter X.env v = pure v := by intro _; rfl)
    (hst : starEach [.GeneratorExp elt [⟨tg, iter, ifs, 0⟩] scope gpos] X.env = (false, eval (.GeneratorExp elt [⟨tg, iter, ifs, 0⟩] scope gpos) X.env) :: starEach [] X.env := by rfl) :
    PE X (.Call (.Name "sum" p) [.GeneratorExp elt [⟨tg, iter, ifs, 0⟩] scope gpos] [] pos) (tGx P wi g tt te (own.map (·.2)) (0 : Int) (fun Q t H => Q (.int t) H) (fun _ => dSum)) := by
  refine ⟨fun pins s σ H Q I h => ?_⟩
  refine wpAny_Call_Name_kw (ld_blt I hgl hm boot_sum ?_)
  refine PyProof.Rows.callWith_builtin1 ?_ hst (by rfl)
  rw [hst]
  show wpAny _ _ (spliced ((false, eval (.GeneratorExp elt [⟨tg, iter, ifs, 0⟩] scope gpos) X.env) :: backTo pos (starEach [] X.env))) _ _ s
  refine Calls.spliced_cons (gen_made hr TB hcode hc hN hi ok hco nc h0 hg ht he hs I h fun J fp H3 ga gi Y go s5 ⟨W, ⟨m0, w0⟩, turn⟩ G => ?_)
  refine Calls.spliced_nil ?_
  have hg5 := (G.inv.pin (ga, go) (List.mem_append_right _ (List.mem_singleton.mpr rfl))).1
  refine call_function_tree F.kind_sum F.plain_sum F.entry_sum (F.args_sum1 _) ?_
  unfold Builtin.«sum»
  simp only [List.length_cons, List.length_nil]
  rw [if_neg (by decide)]
  refine wpAny_bind (wpAny_of_eq (show Builtin.Builtins.bindParams "sum" ["start"] 0 { } = pure [none] from rfl) ?_)
  refine wpAny_bind (wpAny_pyIter_gen (G.isgen _ hg5) ?_)
  refine wpAny_bind (wpAny_mkInt ?_)
  refine wpAny_bind (wpAny_pure ?_)
  simp only [List.forIn_cons, List.forIn_nil]
  refine wpAny_bind (wpAny_bind (wpAny_bind (wpAny_isInstance (T := "int") (b := false) (typeIs_int _ _ _) PySem.sub_int_str ?_)))
  simp only [Bool.false_eq_true, if_false]
  refine wpAny_pure (wpAny_bind (wpAny_bind (wpAny_isInstance (T := "int") (b := false) (typeIs_int _ _ _) PySem.sub_int_bytes ?_)))
  simp only [Bool.false_eq_true, if_false]
  refine wpAny_pure (wpAny_bind (wpAny_bind (wpAny_isInstance (T := "int") (b := false) (typeIs_int _ _ _) PySem.sub_int_bytearray ?_)))
  simp only [Bool.false_eq_true, if_false]
  refine wpAny_pure (wpAny_pure ?_)
  refine wpAny_bind (wpAny_newObj_type ?_)
  have fL := G.inv.fpOk (b := s5.heap.objs.size) (Nat.le_refl _) (G.inv.hok.fresh (Nat.le_refl _))
  have O : OwnL Y ga s5.heap.objs.size fp := ⟨fL.2.2.2.1.elim (fun z => Nat.le_trans G.inv.sz (Nat.le_refl _)) id, fL.2.2.2.2.1, G.ypn, Nat.ne_of_gt (Heap.lt_size hg5), fun hb => Nat.lt_irrefl _ (G.fplt _ hb)⟩
  have kp : ∀ b u, s5.heap.get? b = some u → (s5.heap.push (sumO 0 s5.toks 0)).get? b = some u := fun b u e => Heap.get?_push_of_some _ e
  have I6 : Inv Y [(ga, go), (s5.heap.objs.size, sumO 0 s5.toks 0)] (wipe σ (own.map (·.2))) H3 { s5 with heap := s5.heap.push (sumO 0 s5.toks 0), toks := s5.toks + 1 } := by
    refine (G.inv.kept (t' := s5.toks + 1) kp).pins_of fun q hq => ?_
    have two : q = (ga, go) ∨ q = (s5.heap.objs.size, sumO 0 s5.toks 0) := by simpa using hq
    have pG := G.inv.pin (ga, go) (List.mem_append_right _ (List.mem_singleton.mpr rfl))
    rcases two with rfl | rfl
    · exact ⟨kp _ _ pG.1, pG.2⟩
    · exact ⟨Heap.get?_push_size _ rfl, fL.1, fL.2.1, fL.2.2.1, fun v z => by cases z⟩
  have go6 := G.goes (pnSum ga go s5.heap.objs.size) (fun t H => Q (.int t) H) dSum W (fun a pn ⟨tok, c, e⟩ q hq => by
    rw [e] at hq
    have two : q = (ga, go) ∨ q = (s5.heap.objs.size, sumO a tok c) := by simpa using hq
    rcases two with rfl | rfl
    · exact G.gafp
    · exact O.nfp) dSum_mono turn m0 0 _ _ ⟨_, _, rfl⟩ I6 (fun b _ o e => kp b o e) rfl w0
  rw [← G.prog, ← G.w] at go6 ⊢
  refine wpAny_pure ⟨plainId_quiet F.plain_sum_loop _, sum_loop (Y := Y) hr.hd hr.depth G.isgen O (fun t tok pn σ' H' s' I7 q => ⟨.int t, H', G.back _ _ _ _ I7, ⟨tok, rfl⟩, q⟩) (m0 + 1) _ 0 s5.toks 0 0 (.inl rfl) (Heap.get?_push_size _ rfl) (kp _ _ hg5) I6.nolimit go6⟩
theorem pe_any {c P : Addr} {elt tg iter : Expr} {ifs : List Expr} {scope : Scope} {own : List (Str × Nat)} {p pos gpos : Pos} {wi : TI} {g : TG} {tt : TT} {te : TE} {k : Nat}
    (hr : Room k X.A) (hgl : Gl X "any") (hm : X.mg "any" = none) (TB : GxR.TabB X.base X.mg c P) (hcode : X.env.code = .ref c) (hc : X.calm = true) (hN : X.N.Nodup) (hi : PI X tg iter wi) (ok : BlkOk X.N X.env.scope scope own)
    (hco : scope.isCoroutine = false) (nc : ∀ y ∈ scope.names, y.2 ≠ .cell) (h0 : scope.names.lookup (".0" : Str) = some NameKind.local)
    (hg : ∀ (s : Shared) (H : Hp) (C : Addr) (cl : List (Str × Addr)) (code : Value) (fp : List Addr), PG (gcx X s H (genEnv scope cl C code builtinsNs X.env) fp) tg g)
    (ht : ∀ (s : Shared) (H : Hp) (C : Addr) (cl : List (Str × Addr)) (code : Value) (fp : List Addr), PTs (gcx X s H (genEnv scope cl C code builtinsNs X.env) fp) ifs tt)
    (he : ∀ (s : Shared) (H : Hp) (C : Addr) (cl : List (Str × Addr)) (code : Value) (fp : List Addr), PE (gcx X s H (genEnv scope cl C code builtinsNs X.env) fp) elt te)
    (hs : ∀ v, genFold iter X.env v = pure v := by intro _; rfl)
    (hst : starEach [.GeneratorExp elt [⟨tg, iter, ifs, 0⟩] scope gpos] X.env = (false, eval (.GeneratorExp elt [⟨tg, iter, ifs, 0⟩] scope gpos) X.env) :: starEach [] X.env := by rfl) :
    PE X (.Call (.Name "any" p) [.GeneratorExp elt [⟨tg, iter, ifs, 0⟩] scope gpos] [] pos) (tGx P wi g tt te (own.map (·.2)) () (fun Q _ H => Q (.bl false) H) (fun Q => dAny fun H => Q (.bl true) H)) := by
  refine ⟨fun pins s σ H Q I h => ?_⟩
  refine wpAny_Call_Name_kw (ld_blt I hgl hm (by decide +kernel : bootBuiltins "any" = some (.builtin "any")) ?_)
  refine PyProof.Rows.callWith_builtin1 ?_ hst (by rfl)
  rw [hst]
  show wpAny _ _ (spliced ((false, eval (.GeneratorExp elt [⟨tg, iter, ifs, 0⟩] scope gpos) X.env) :: backTo pos (starEach [] X.env))) _ _ s
  refine Calls.spliced_cons (gen_made hr TB hcode hc hN hi ok hco nc h0 hg ht he hs I h fun J fp H3 ga gi Y go s5 ⟨W, ⟨m0, w0⟩, turn⟩ G => ?_)
  refine Calls.spliced_nil ?_
  have hg5 := (G.inv.pin (ga, go) (List.mem_append_right _ (List.mem_singleton.mpr rfl))).1
  refine call_function_tree F.kind_any F.plain_any F.entry_any (F.args_any1 _) ?_
  unfold Builtin.«any»
  refine wpAny_bind (m := oneArg "any" _) (wpAny_pure ?_)
  refine wpAny_bind (wpAny_pyIter_gen (G.isgen _ hg5) ?_)
  have go6 := G.goes (fun (_ : Unit) pn => pn = [(ga, go)]) (fun _ H => Q (.bl false) H) (dAny fun H => Q (.bl true) H) W (fun a pn e q hq => by
    rw [e] at hq
    rw [List.mem_singleton.mp hq]
    exact G.gafp) (dAny_mono _) turn m0 () _ _ rfl G.inv (fun b _ o e => e) rfl w0
  rw [← G.prog, ← G.w] at go6 ⊢
  refine wpAny_pure ⟨plainId_quiet F.plain_any_loop _, any_loop (Y := Y) hr.hd hr.depth G.isgen (fun σ' H' s' I7 q => ⟨.bl false, H', G.back _ _ _ _ I7, rfl, q⟩) (fun σ' H' s' I7 q => ⟨.bl true, H', G.back _ _ _ _ I7, rfl, q⟩) (m0 + 1) _ hg5 G.inv.nolimit go6⟩
/-- such a taker over a walk -/
theorem gx_it {α : Type} {J : It} {n : Nat} {G : Hp → Prop} {Y : Nat → Hp → V → Hp → Prop} (w : Walk J n G Y) {g : TG} {tt : TT} {te : TE} {vs : List Nat} {σw : L2.St} {H2 : Hp} {a0 : α} {T : α → Hp → Prop} {D : α → V → Hp → (α → Prop) → Prop} (Pv : Nat → α → Hp → Prop) (h0 : Pv 0 a0 H2) (hG : ∀ i a H, i ≤ n → Pv i a H → G H)
    (hs : ∀ i x a H H', i < n → Pv i a H → Y i H x H' → g x σw H' fun σ2 H2 => wipe σ2 vs = σw ∧ tt σ2 H2 fun b H3 => if b = true then te σ2 H3 fun y H4 => D a y H4 (fun a' => Pv (i + 1) a' H4) else Pv (i + 1) a H3) (hd : ∀ a H, Pv n a H → T a H) :
    ∃ W : Nat → Nat → α → Hp → Prop, (∃ m, W 0 m a0 H2) ∧ TurnG J g tt te vs σw W T D := by
  refine ⟨fun i left a H => i + left = n ∧ Pv i a H, ⟨n, Nat.zero_add n, h0⟩, fun i left a H ⟨sum, pv⟩ => ?_⟩
  have good := hG i a H (by omega) pv
  cases left with
  | zero =>
    have last : i = n := sum
    subst last
    exact .inl ⟨w.stops H good, hd a H pv⟩
  | succ left =>
    have below : i < n := by omega
    exact .inr ⟨w.goes i H below good, Pv (i + 1), fun a' H' pv' => ⟨left, Nat.lt_succ_self _, by omega, pv'⟩, fun x H' y => hs i x a H H' below pv (w.yields i H x H' below good y)⟩
end
end GY

namespace GY
open PySem PySem.Spec PyProof.Rows L2 GenW GX
/-- two calls deeper -/
abbrev up (X : Cx) : Cx := { X with A := X.A.in1.in1 }
theorem inv_up {X : Cx} {pins : List (Addr × Obj)} {σ : L2.St} {H : Hp} {s : Shared} (I : Inv X pins σ H s) : Inv (up X) pins σ H s :=
  { ok := { mod := I.ok.mod, kind := I.ok.kind, glob := I.ok.glob, blt := I.ok.blt, above := I.ok.above, inj := I.ok.inj, has := I.ok.has, cab := I.ok.cab, hd := I.ok.hd, frames := I.ok.frames, stk := I.ok.stk, exf := I.ok.exf, bs := I.ok.bs, bsz := I.ok.bsz, noex := I.ok.noex, exfs := I.ok.exfs, funs := I.ok.funs, frf := I.ok.frf }, os := I.os, bare := I.bare, base := I.base, loc := I.loc, cell := I.cell, free := I.free, freeC := I.freeC, pin := I.pin, hok := I.hok, len := I.len }
theorem inv_down {X : Cx} {pins : List (Addr × Obj)} {σ : L2.St} {H : Hp} {s : Shared} (I : Inv (up X) pins σ H s) : Inv X pins σ H s :=
  { ok := { mod := I.ok.mod, kind := I.ok.kind, glob := I.ok.glob, blt := I.ok.blt, above := I.ok.above, inj := I.ok.inj, has := I.ok.has, cab := I.ok.cab, hd := I.ok.hd, frames := I.ok.frames, stk := I.ok.stk, exf := I.ok.exf, bs := I.ok.bs, bsz := I.ok.bsz, noex := I.ok.noex, exfs := I.ok.exfs, funs := I.ok.funs, frf := I.ok.frf }, os := I.os, bare := I.bare, base := I.base, loc := I.loc, cell := I.cell, free := I.free, freeC := I.freeC, pin := I.pin, hok := I.hok, len := I.len }
section
variable {X : Cx}
theorem gen_madeU {c P : Addr} {elt tg iter : Expr} {ifs : List Expr} {scope : Scope} {own : List (Str × Nat)} {gpos : Pos} {wi : TI} {g : TG} {tt : TT} {te : TE} {k : Nat}
    (hr : Room k X.A) (TB : GxR.TabB X.base X.mg c P) (hcode : X.env.code = .ref c) (hc : X.calm = true) (hN : X.N.Nodup) (hi : PI X tg iter wi) (ok : BlkOk X.N X.env.scope scope own)
    (hco : scope.isCoroutine = false) (nc : ∀ y ∈ scope.names, y.2 ≠ .cell) (h0 : scope.names.lookup (".0" : Str) = some NameKind.local)
    (hg : ∀ (s : Shared) (H : Hp) (C : Addr) (cl : List (Str × Addr)) (code : Value) (fp : List Addr), PG (gcx (up X) s H (genEnv scope cl C code builtinsNs X.env) fp) tg g)
    (ht : ∀ (s : Shared) (H : Hp) (C : Addr) (cl : List (Str × Addr)) (code : Value) (fp : List Addr), PTs (gcx (up X) s H (genEnv scope cl C code builtinsNs X.env) fp) ifs tt)
    (he : ∀ (s : Shared) (H : Hp) (C : Addr) (cl : List (Str × Addr)) (code : Value) (fp : List Addr), PE (gcx (up X) s H (genEnv scope cl C code builtinsNs X.env) fp) elt te)
    (hs : ∀ v, genFold iter X.env v = pure v)
    {pins : List (Addr × Obj)} {s : Shared} {σ : L2.St} {H : Hp} {Kt : It → Hp → Prop} (I : Inv X pins σ H s) (h : wi σ H fun J H1 => GxR.TabG H1 P ∧ ∀ H2, GxR.Tabbed P H1 H2 → Kt J H2)
    {Q : Value → Shared → Prop} (hq : ∀ (J : It) (fp : List Addr) (H3 : Hp) (ga gi : Nat) (Y : Cx) (go : Obj) (s5 : Shared), Kt J H3 → GenAt (up X) pins σ J g tt te (own.map (·.2)) fp H3 ga gi Y go s5 → Q (.ref ga) s5) :
    wpAny (model X.prog X.w) X.A (eval (.GeneratorExp elt [⟨tg, iter, ifs, 0⟩] scope gpos) X.env) Q X.xe s := by
  have caught : ∀ n ∈ scope.names, n.2 = .free → ∃ c, X.env.cells.lookup n.1 = some c := fun n hn hf => I.ok.has _ ((ok.free n hn hf).elim .inl .inr)
  refine wpAny_GeneratorExp_make hco (closure_ok caught) nc h0 ok.kind hr.depth ?_ hs
  refine thn (hi.run pins s σ H _ I h) fun xv s1 hx => thn hx fun itv s2 h2 => ?_
  obtain ⟨it, fp, tn, J, H2, e, I2, T, st2, f2, ⟨ps, hP, ht2⟩, q⟩ := h2
  subst e
  refine ⟨I2.nolimit, ?_⟩
  have hPs : s2.heap.get? P = some { cls := .none, data := .fields ps } := I2.hok P _ hP
  have cd : PySem.W.CodeHd s2.heap c P := TB.code.keeps fun b u e => I2.bk b u e
  have nfP : ∀ b ∈ fp, b ≠ P := fun b hb z => by
    have := (f2 b hb).1
    rw [z, hP] at this
    cases this
  -- behind the code object
  have cont : ∀ (code : Value) (h3 : Heap) (tk : Nat) (ps' : Array Value), Heap.ExtBut P s2.heap h3 → s2.heap.objs.size ≤ h3.objs.size → h3.get? P = some { cls := .none, data := .fields ps' } → (∃ more, ps' = ps ++ more) → TriplesOk ps'.toList →
      wpAny (model X.prog X.w) X.A (builtinsFor X.env.globals X.env.builtins) (fun bi s₄ => ∀ h', h'.Ns s₄.heap.objs.size (fun y => if y = ".0" then some (.ref it) else none) → Heap.SameBut s₄.heap.objs.size (s₄.heap.push { cls := .type "frame", data := .dict #[] }) h' →
          Q (.ref h'.objs.size) { s₄ with
            gens := s₄.gens.push (.fresh (.compStart (.GeneratorExp elt [⟨tg, iter, ifs, 0⟩] scope gpos) 0 (.ref it) .none (genEnv scope (cloFrom X.env.cells scope.names []) s₄.heap.objs.size code bi X.env))),
            toks := s₄.toks + 1 + 1 + 1,
            heap := h'.push { cls := .type "generator", data := .fields #[.int s₄.gens.size 0, .str "<genexpr>" (s₄.toks + 1), .str (X.env.qual ++ "<genexpr>") (s₄.toks + 1 + 1)] } }) X.xe { s2 with heap := h3, toks := tk } := by
    intro code h3 tk ps' hx hsz hP3 ⟨more, em⟩ ht3
    obtain ⟨bmod, bobj, i1, i2, i3, i4, i5, i6, i7, i8⟩ := TB.bm
    have keep3 : ∀ b u, b ≠ P → s2.heap.get? b = some u → h3.get? b = some u := fun b u hb e => hx b u hb e
    refine wpAny_builtinsFor (m := X.mg) (by rw [I2.ok.glob]; exact (I2.mod.glob.keeps I2.bk).extBut hx TB.gP) i1 i2 (keep3 _ _ i4 (I2.bk _ _ i5)) i6 i7 i8 ?_
    intro h' hn' hs'
    -- the state ahead of the frame
    have I3 := GxR.inv_tab (more := more) (h' := h3) (g' := s2.gens) (d' := s2.drawn) (t' := tk) I2 hP (fun b u hb e => keep3 b u hb e) (by rw [← em]; exact hP3) I2.bare
    have hTab : GxR.Tabbed P H2 (upd H2 P (.tbl (ps ++ more))) := ⟨⟨ps ++ more, upd_same, by rw [← em]; exact ht3⟩, fun b hb => upd_ne hb⟩
    have hK := q _ hTab
    generalize upd H2 P (.tbl (ps ++ more)) = H3 at I3 hK hTab
    have st3 : tn 0 h3 := T.keep _ _ _ st2 fun b hb o e => keep3 b o (nfP b hb) e
    have f3 : ∀ b ∈ fp, FpOk X pins H3 b ∧ b < h3.objs.size := fun b hb => by
      obtain ⟨o, e, _⟩ := T.obj _ _ st3 b hb
      exact ⟨⟨by rw [hTab.2 b (nfP b hb)]; exact (f2 b hb).1, (f2 b hb).2⟩, Heap.lt_size e⟩
    generalize hs3 : ({ s2 with heap := h3, toks := tk } : Shared) = s3 at I3
    have es3 : h3 = s3.heap := by rw [← hs3]
    have hn'' : h'.Ns s3.heap.objs.size (fun y => if y = ".0" then some (.ref it) else none) := by rw [← es3]; exact hn'
    have hs'' : Heap.SameBut s3.heap.objs.size (s3.heap.push { cls := .type "frame", data := .dict #[] }) h' := by rw [← es3]; exact hs'
    rw [es3] at st3 f3
    show Q _ { s3 with
            gens := s3.gens.push (.fresh (.compStart (.GeneratorExp elt [⟨tg, iter, ifs, 0⟩] scope gpos) 0 (.ref it) .none (genEnv scope (cloFrom X.env.cells scope.names []) s3.heap.objs.size code builtinsNs X.env))),
            toks := s3.toks + 1 + 1 + 1,
            heap := h'.push { cls := .type "generator", data := .fields #[.int s3.gens.size 0, .str "<genexpr>" (s3.toks + 1), .str (X.env.qual ++ "<genexpr>") (s3.toks + 1 + 1)] } }
    have kp : ∀ b o, s3.heap.get? b = some o → h'.get? b = some o := fun b o e => hs''.extBut b o (Nat.ne_of_lt (Heap.lt_size e)) (Heap.get?_push_of_some _ e)
    have hsz' : h'.objs.size = s3.heap.objs.size + 1 := by rw [hs''.1, Heap.size_push]
    generalize hgo : ({ cls := .type "generator", data := .fields #[.int s3.gens.size 0, .str "<genexpr>" (s3.toks + 1), .str (X.env.qual ++ "<genexpr>") (s3.toks + 1 + 1)] } : Obj) = go
    have hgen0 : ∀ h : Heap, h.get? h'.objs.size = some go → h.IsGen h'.objs.size s3.gens.size := fun h e => ⟨go, _, _, e, by rw [← hgo], by rw [← hgo], by rw [← hgo]⟩
    have ngo : ∀ v, go.data ≠ .cell v := fun v z => by
      rw [← hgo] at z
      cases z
    have hpush : (h'.push go).get? h'.objs.size = some go := by
      rw [← hgo]
      exact Heap.get?_push_size _ rfl
    have kp2 : ∀ b o, s3.heap.get? b = some o → (h'.push go).get? b = some o := fun b o e => Heap.get?_push_of_some _ (kp b o e)
    have pg := hg s3 H3 s3.heap.objs.size (cloFrom X.env.cells scope.names []) code fp
    have pt := ht s3 H3 s3.heap.objs.size (cloFrom X.env.cells scope.names []) code fp
    have pe := he s3 H3 s3.heap.objs.size (cloFrom X.env.cells scope.names []) code fp
    have I3u := inv_up I3
    have I4 := gen_start (X := up X) (code := code) (tk := s3.toks + 1 + 1 + 1) (h' := h'.push go) (G := s3.gens.push (.fresh (.compStart (.GeneratorExp elt [⟨tg, iter, ifs, 0⟩] scope gpos) 0 (.ref it) .none (genEnv scope (cloFrom X.env.cells scope.names []) s3.heap.objs.size code builtinsNs X.env)))) I3u ok nc hN f3 (hn''.push _) kp2 (AllBare.push I3.bare rfl)
    generalize hce : genEnv scope (cloFrom X.env.cells scope.names []) s3.heap.objs.size code builtinsNs X.env = ce at pg pt pe I4 ⊢
    have cL : ce.locals = s3.heap.objs.size := by subst hce; rfl
    have cS : ce.scope = scope := by subst hce; rfl
    have hgH : H3 h'.objs.size = none := I3.hok.fresh (by rw [hsz']; exact Nat.le_succ _)
    have nfs : h'.objs.size ∉ frs X.stack := fun z => by
      rcases List.mem_cons.mp (I3.stkSub _ z) with z | z
      · have := I3.lt
        rw [← z, hsz'] at this
        exact absurd (Nat.lt_of_succ_lt this) (Nat.lt_irrefl _)
      · exact I3.nofs (by rw [hsz']; exact Nat.le_succ _) z
    have I5 := I4.pins_of (pins' := [(h'.objs.size, go)]) fun p hp => by
      rw [List.mem_singleton.mp hp]
      refine ⟨hpush, hgH, ?_, nfs, ngo⟩
      show h'.objs.size ≠ ce.locals
      rw [cL, hsz']
      exact Nat.succ_ne_self _
    generalize hs5 : ({ s3 with heap := h'.push go, gens := s3.gens.push (.fresh (.compStart (.GeneratorExp elt [⟨tg, iter, ifs, 0⟩] scope gpos) 0 (.ref it) .none ce)), toks := s3.toks + 1 + 1 + 1 } : Shared) = s5 at I5
    have st5 : tn 0 s5.heap := T.keep _ _ _ st3 fun b _ o e => by rw [← hs5]; exact kp2 b o e
    have hgs : s5.gens[s3.gens.size]? = some (.fresh (.compStart (.GeneratorExp elt [⟨tg, iter, ifs, 0⟩] scope gpos) 0 (.ref it) .none ce)) := by
      rw [← hs5]
      exact Array.getElem?_push_size ..
    have hz5 : s5.heap.objs.size = h'.objs.size + 1 := by
      rw [← hs5]
      exact Heap.size_push ..
    refine hq J fp H3 h'.objs.size s3.gens.size (gcx (up X) s3 H3 ce fp) go s5 hK ⟨rfl, rfl, I5, rfl, hgen0, fun hb => ?_, fun b hb => ?_, fun pn σ' H' s' I6 => ?_, fun {α} Pn T' D W hpins mono turn m0 a0 pn0 s6 hPn I6 k6 hg6 w0 => ?_⟩
    · have z : h'.objs.size < s3.heap.objs.size := (f3 _ hb).2
      rw [hsz'] at z
      omega
    · have z : b < s3.heap.objs.size := (f3 b hb).2
      rw [hz5, hsz']
      exact Nat.lt_succ_of_lt (Nat.lt_succ_of_lt z)
    · exact I3u.call' (ch := fp) I6.os I6.base I6.hok I6.bare fun b hb => ⟨(f3 b hb).1.2.2.2.1, (f3 b hb).1.2.1, (f3 b hb).1.2.2.2.2.1, (f3 b hb).1.2.2.2.2.2⟩
    · have hgs6 : s6.gens[s3.gens.size]? = some (.fresh (.compStart (.GeneratorExp elt [⟨tg, iter, ifs, 0⟩] scope gpos) 0 (.ref it) .none ce)) := by
        rw [hg6]
        exact hgs
      refine ⟨_, hgs6, rfl, ?_⟩
      have st6 : tn 0 s6.heap := T.keep _ _ _ st5 k6
      refine seg_start (i := 0) T st6 ?_
      exact seg_loopA (Y := gcx (up X) s3 H3 ce fp) (vs := own.map (·.2)) rfl rfl hc (by show ce.scope.isCoroutine = false; rw [cS]; exact hco) T pg pt pe (fun b hb => hb) rfl hpins mono turn m0 (m0 + 1) 0 a0 pn0 _ _ H3 (Nat.lt_succ_self _) hPn (fun p hp => (I6.pin p (List.mem_append_right _ hp)).1) (inv_gens I6 (allBare_setGen I6.bare rfl)) st6 (fun b hb => (f3 b hb).1.1) w0
  cases hf : codeAmong gpos ps.toList with
  | none =>
    refine wpAny_genexprCodeX hcode (cd.code hPs ht2) (cd.tab hPs) hf fun c' h' tk hx hge hlt hco' _ htab' _ => ?_
    have trip := hco'.choose_spec.choose_spec.choose_spec.choose_spec.choose_spec.choose_spec.choose_spec.choose_spec.choose_spec.choose_spec.2.2.2.2.2.2.2.2.2.1
    exact cont _ h' tk _ hx (Nat.le_trans hge (Nat.le_of_lt hlt)) htab'.2 ⟨#[_, _, _], rfl⟩ trip
  | some cv =>
    refine wpAny_genexprCode_hit hcode (cd.code hPs ht2) hf ?_
    exact cont cv s2.heap s2.toks ps (Heap.ExtBut.refl _ _) (Nat.le_refl _) hPs ⟨#[], by simp⟩ ht2
end
end GY

/-! tuple(elt for target in iter if ..) -/
namespace GY
open PySem PySem.Spec PyProof.Rows L2 GenW GX
section
variable {Y : Cx}
abbrev colO (us : Array Value) (c : Nat) : Obj := { cls := .type "list", dict := none, data := .seq us c, slots := #[] }
abbrev dCol : List V → V → Hp → (List V → Prop) → Prop := fun ys y _ k => ys.length < sizeLine ∧ k (ys ++ [y])
theorem dCol_mono : ∀ a y H (k k' : List V → Prop), (∀ a', k a' → k' a') → dCol a y H k → dCol a y H k' := fun _ _ _ _ _ h ⟨i, h1⟩ => ⟨i, h _ h1⟩
abbrev pnCol (ga : Addr) (go : Obj) (L : Addr) : List V → List (Addr × Obj) → Prop := fun ys pn => ∃ (us : Array Value) (c : Nat), Vals ys us.toList ∧ ys.length ≤ sizeLine ∧ pn = [(ga, go), (L, colO us c)]
theorem col_loop {A : Around} {R : Result → Shared → Prop} {ga gi L : Nat} {go : Obj} {fp : List Addr} {T : List V → Hp → Prop} {res : Value} (hh : A.handled = none) (hd : A.depth < recursionLimit) (isgen : ∀ h : Heap, h.get? ga = some go → h.IsGen ga gi) (O : OwnL Y ga L fp)
    (hT : ∀ ys us c σ H s, Vals ys us.toList → ys.length ≤ sizeLine → Inv Y [(ga, go), (L, colO us c)] σ H s → T ys H → R (.ok (.ret res)) s) :
    ∀ (n : Nat) (s : Shared), s.heap.get? ga = some go → s.heap.NoLimit → (∃ gs, s.gens[gi]? = some gs ∧ gs.Goes (model Y.prog Y.w) A.in1.in1 (RGa Y (pnCol ga go L) T) (YGa Y fp (pnCol ga go L) dCol) n (.send .none) (s.setGen gi .running)) →
      codeAny (model Y.prog Y.w) A (.builtin "list.extend.loop" ⟨[.ref L, .ref ga, res], []⟩) R s := by
  intro n
  induction n with
  | zero =>
    intro s hg hl ⟨gs, hgs, hgo⟩
    refine codeAny_builtin PySem.F.entry_extend_loop ?_
    rw [Around.under_plainId PySem.F.plain_extend_loop _]
    show wpAny _ A.in1 (pyNext (.ref ga) >>= _) _ _ s
    refine wpAny_bind (wpAny_pyNext_genexpQ (A := A.in1) (P := fun _ s₀ s₁ => ∃ a pn σ H, pnCol ga go L a pn ∧ (∀ p ∈ pn, s₀.heap.get? p.1 = some p.2) ∧ Inv Y pn σ H s₁ ∧ T a H) hh hl hd (isgen _ hg) hgs hgo (fun v s₁ gs' hb hv => ?_) (fun s₁ hp h' hk => ?_))
    · obtain ⟨a, pn, y, σ, H, ⟨us, c, rv, rz, rfl⟩, h0, ry, I, hlt, h1⟩ := hv
      have IL := own_put (tk := s₁.toks) (o' := colO (us.push v) c) (h' := s₁.heap.update L fun _ => colO (us.push v) c) O I (Heap.get?_update_self _ (I.pin (L, colO us c) (by simp)).1 rfl) (fun b u hb e => (Heap.get?_update_other _ _ (fun h : L = b => hb h.symm)).trans e) (fun v z => by cases z)
      exact (h1 _ _ ⟨us.push v, c, by rw [Array.toList_push]; exact rv.append (.cons ry .nil), by rw [List.length_append]; exact hlt, rfl⟩ IL fun b hb o e => (Heap.get?_update_other _ _ (fun h : L = b => O.nfp (h ▸ hb))).trans e).elim
    · obtain ⟨a, pn, σ, H, ⟨us, c, rv, rz, rfl⟩, h0, I, q⟩ := hp
      exact wpAny_pure (hT a us c σ H _ rv rz (inv_kept (s := s₁) (G := (s₁.setGen gi .finished).gens) I (allBare_setGen I.bare rfl) hk) q)
  | succ n ih =>
    intro s hg hl ⟨gs, hgs, hgo⟩
    have hgl : gi < s.gens.size := (Array.getElem?_eq_some_iff.mp hgs).1
    refine codeAny_builtin PySem.F.entry_extend_loop ?_
    rw [Around.under_plainId PySem.F.plain_extend_loop _]
    show wpAny _ A.in1 (pyNext (.ref ga) >>= _) _ _ s
    refine wpAny_bind (wpAny_gsz (n := gi + 1) hgl (wpAny_pyNext_genexpQ (A := A.in1) (P := fun _ s₀ s₁ => ∃ a pn σ H, pnCol ga go L a pn ∧ (∀ p ∈ pn, s₀.heap.get? p.1 = some p.2) ∧ Inv Y pn σ H s₁ ∧ T a H) hh hl hd (isgen _ hg) hgs hgo (fun v s₁ gs' hb hv => ?_) (fun s₁ hp h' hk => ?_)))
    · intro hsz
      obtain ⟨a, pn, y, σ, H, ⟨us, c, rv, rz, rfl⟩, h0, ry, I, hlt, h1⟩ := hv
      have hsz1 : gi < s₁.gens.size := by
        have q : (s₁.setGen gi gs').gens.size = s₁.gens.size := setGen_size _ _ _
        have hsz' : gi + 1 ≤ (s₁.setGen gi gs').gens.size := hsz
        omega
      have I' := inv_gens I (allBare_setGen (g := gi) I.bare hb)
      have hS' : (s₁.setGen gi gs').heap.get? L = some (colO us c) := (I'.pin (L, colO us c) (by simp)).1
      have hG' : (s₁.setGen gi gs').heap.get? ga = some go := (I'.pin (ga, go) (by simp)).1
      have hul : us.size = a.length := by
        have := rv.length
        rw [Array.length_toList] at this
        exact this.symm
      show wpAny _ A.in1 (updateSeq L (·.push v) >>= _) _ _ _
      refine wpAny_bind (wpAny_updateSeq hS' rfl (wpAny_pure ⟨plainId_quiet PySem.F.plain_extend_loop _, ?_⟩) (by omega) (by show (us.push v).size ≤ sizeLine + 1; rw [Array.size_push]; omega))
      have hL2 := Heap.get?_update_self (Obj.mapSeq (·.push v)) hS' rfl
      have hk2 : ∀ b u, b ≠ L → (s₁.setGen gi gs').heap.get? b = some u → ((s₁.setGen gi gs').heap.update L (Obj.mapSeq (·.push v))).get? b = some u := fun b u hb e => (Heap.get?_update_other _ _ (fun h : L = b => hb h.symm)).trans e
      have IL := own_put (tk := s₁.toks) O I' hL2 hk2 (fun v z => by cases z)
      refine ih _ (hk2 _ _ O.ne.symm hG') (IL.nolimit) ⟨gs', setGen_at hsz1, ?_⟩
      exact h1 _ _ ⟨us.push v, _, by rw [Array.toList_push]; exact rv.append (.cons ry .nil), by rw [List.length_append]; exact hlt, rfl⟩ (inv_gens IL (allBare_setGen IL.bare rfl)) fun b hb' o e => hk2 b o (fun z => O.nfp (z ▸ hb')) e
    · intro hsz
      obtain ⟨a, pn, σ, H, ⟨us, c, rv, rz, rfl⟩, h0, I, q⟩ := hp
      exact wpAny_pure (hT a us c σ H _ rv rz (inv_kept (s := s₁) (G := (s₁.setGen gi .finished).gens) I (allBare_setGen I.bare rfl) hk) q)
end
end GY

namespace GY
open PySem PySem.Spec PyProof.Rows L2 GenW GX
/-- what a generator gives, gathered: the loop is told by itself -/
theorem collect_by {prog : Program} {w : World} {A : Around} {s : Shared} {ga gi : Nat} {R : Result → Shared → Prop} (hgen : ∀ h : Heap, (∀ b o, s.heap.get? b = some o → h.get? b = some o) → h.IsGen ga gi) (hlt : ga < s.heap.objs.size)
    (hloop : ∀ (h' : Heap) (c : Nat), (∀ b o, s.heap.get? b = some o → h'.get? b = some o) → h'.get? s.heap.objs.size = some (colO #[] c) →
      codeAny (model prog w) A (.builtin "list.extend.loop" ⟨[.ref s.heap.objs.size, .ref ga, .ref s.heap.objs.size], []⟩) R { s with heap := h' }) :
    codeAny (model prog w) A (.builtin "proto.collect" ⟨[.ref ga], []⟩) R s := by
  refine codeAny_builtin PySem.F.entry_proto_collect ?_
  rw [Around.under_plainId PySem.F.plain_proto_collect _]
  show wpAny _ A.in1 (newList [] >>= fun nl => again (.builtin "list.__iadd__" ⟨[nl, .ref ga], []⟩)) _ _ s
  refine wpAny_bind (wpAny_newObj_type ?_)
  refine (wpAny_pure ⟨plainId_quiet PySem.F.plain_list_iadd _, codeAny_builtin PySem.F.entry_list_iadd ?_⟩)
  rw [Around.under_plainId PySem.F.plain_list_iadd _]
  show wpAny _ A.in1 (Builtin.List.listExtendWith (.ref s.heap.objs.size) (.ref ga) (.ref s.heap.objs.size)) _ _ _
  unfold Builtin.List.listExtendWith
  have kp : ∀ b o, s.heap.get? b = some o → (s.heap.push (colO #[] 0)).get? b = some o := fun b o e => Heap.get?_push_of_some _ e
  have ig := hgen _ kp
  have hS : (s.heap.push (colO #[] 0)).get? s.heap.objs.size = some (colO #[] 0) := Heap.get?_push_size _ rfl
  have ne : s.heap.objs.size ≠ ga := Nat.ne_of_gt hlt
  refine wpAny_bind (wpAny_typeOf ig.typeIs ?_)
  have g1 : Builtin.List.listSameRef (.ref s.heap.objs.size) (.ref ga) = false := by simp [Builtin.List.listSameRef, ne]
  have g2 : (Value.type "generator" == Value.type "list") = false := by decide
  have g3 : (Value.type "generator" == Value.type "tuple") = false := by decide
  rw [g1, g2, g3]
  simp only [Bool.or_false, Bool.false_eq_true, if_false]
  refine wpAny_bind (wpAny_pyIter_gen ig ?_)
  refine wpAny_bind (wpAny_holding ?_)
  unfold Builtin.List.listLengthHint
  refine (wpAny_bind (wpAny_specialOf ig.typeIs PySem.F.gen_no_len ?_))
  show wpAny _ A.in1 (specialOf (Value.ref ga) (Str.ofString "__length_hint__") >>= _) _ _ _
  refine (wpAny_bind (wpAny_specialOf ig.typeIs PySem.F.gen_no_hint ?_))
  refine wpAny_pure ?_
  show wpAny _ A.in1 (rule "list.extend.makes-room" >>= fun _ => Builtin.List.listTouch (.ref s.heap.objs.size) >>= fun _ => again (.builtin "list.extend.loop" ⟨[.ref s.heap.objs.size, .ref ga, .ref s.heap.objs.size], []⟩)) _ _ _
  refine wpAny_bind (wpAny_rule (wpAny_bind ?_))
  show wpAny _ A.in1 (updateSeq s.heap.objs.size (fun xs => xs.push .none) >>= fun _ => updateSeq s.heap.objs.size (fun xs => xs.pop)) _ _ _
  refine wpAny_bind (wpAny_updateSeq hS rfl ?_)
  have hS2 := Heap.get?_update_self (Obj.mapSeq (fun xs => xs.push Value.none)) hS rfl
  refine wpAny_updateSeq hS2 rfl ?_
  have hS3 := Heap.get?_update_self (Obj.mapSeq (fun xs => xs.pop)) hS2 rfl
  have oth : ∀ b o, s.heap.get? b = some o → (((s.heap.push (colO #[] 0)).update s.heap.objs.size (Obj.mapSeq (fun xs => xs.push Value.none))).update s.heap.objs.size (Obj.mapSeq (fun xs => xs.pop))).get? b = some o := fun b o e => by
    have hb : s.heap.objs.size ≠ b := Nat.ne_of_gt (Heap.lt_size e)
    exact (Heap.get?_update_other _ _ hb).trans ((Heap.get?_update_other _ _ hb).trans (kp b o e))
  refine wpAny_pure ⟨plainId_quiet PySem.F.plain_extend_loop _, ?_⟩
  exact hloop _ _ oth hS3
section
variable {X : Cx}
theorem pe_tupG {c P : Addr} {elt tg iter : Expr} {ifs : List Expr} {scope : Scope} {own : List (Str × Nat)} {p pos gpos : Pos} {wi : TI} {g : TG} {tt : TT} {te : TE} {k : Nat}
    (hr : Room (k + 5) X.A) (hgl : Gl X "tuple") (hm : X.mg "tuple" = none) (TB : GxR.TabB X.base X.mg c P) (hcode : X.env.code = .ref c) (hc : X.calm = true) (hN : X.N.Nodup) (hi : PI X tg iter wi) (ok : BlkOk X.N X.env.scope scope own)
    (hco : scope.isCoroutine = false) (nc : ∀ y ∈ scope.names, y.2 ≠ .cell) (h0 : scope.names.lookup (".0" : Str) = some NameKind.local)
    (hg : ∀ (s : Shared) (H : Hp) (C : Addr) (cl : List (Str × Addr)) (code : Value) (fp : List Addr), PG (gcx (up X) s H (genEnv scope cl C code builtinsNs X.env) fp) tg g)
    (ht : ∀ (s : Shared) (H : Hp) (C : Addr) (cl : List (Str × Addr)) (code : Value) (fp : List Addr), PTs (gcx (up X) s H (genEnv scope cl C code builtinsNs X.env) fp) ifs tt)
    (he : ∀ (s : Shared) (H : Hp) (C : Addr) (cl : List (Str × Addr)) (code : Value) (fp : List Addr), PE (gcx (up X) s H (genEnv scope cl C code builtinsNs X.env) fp) elt te)
    (hs : ∀ v, genFold iter X.env v = pure v := by intro _; rfl)
    (hst : starEach [.GeneratorExp elt [⟨tg, iter, ifs, 0⟩] scope gpos] X.env = (false, eval (.GeneratorExp elt [⟨tg, iter, ifs, 0⟩] scope gpos) X.env) :: starEach [] X.env := by rfl) :
    PE X (.Call (.Name "tuple" p) [.GeneratorExp elt [⟨tg, iter, ifs, 0⟩] scope gpos] [] pos) (tGx P wi g tt te (own.map (·.2)) ([] : List V) (fun Q ys H => ∀ l, H l = none → Q (.ref l) (upd H l (.tup ys))) (fun _ => dCol)) := by
  refine ⟨fun pins s σ H Q I h => ?_⟩
  refine wpAny_Call_Name_kw (ld_blt I hgl hm boot_tuple ?_)
  refine PyProof.Rows.callWith_type1 ?_ hst (by rfl)
  rw [hst]
  show wpAny _ _ (spliced ((false, eval (.GeneratorExp elt [⟨tg, iter, ifs, 0⟩] scope gpos) X.env) :: backTo pos (starEach [] X.env))) _ _ s
  refine Calls.spliced_cons (gen_madeU (k := k) (hr.mono (by omega)) TB hcode hc hN hi ok hco nc h0 hg ht he hs I h fun J fp H3 ga gi Y go s5 ⟨W, ⟨m0, w0⟩, turn⟩ G => ?_)
  refine Calls.spliced_nil ?_
  have hg5 := (G.inv.pin (ga, go) (List.mem_append_right _ (List.mem_singleton.mpr rfl))).1
  refine callType_codes (Q₁ := fun obj s₁ => s₁.TypeIs obj "tuple" ∧ EP X pins σ Q obj s₁) PySem.F.called_tuple (PySem.F.typeCall_tuple_1 _) PySem.F.entry_object_init ?_ fun obj s₁ h₁ => ⟨h₁.1, PySem.F.args_object_init_2 obj _, object_init_meets PySem.F.called_tuple.init.lookup PySem.F.called_tuple.made (by decide) _ _ _ _ s₁ ⟨h₁.1, rfl, h₁.2⟩⟩
  refine codeAny_of_tree ?_
  show wpAny _ X.A.in1.in1 (do checkBuiltinCall "tuple.__new__" ⟨[.type "tuple", .ref ga], []⟩; again (.builtin "tuple.__new__" ⟨[.type "tuple", .ref ga], []⟩)) _ _ s5
  refine (wpAny_bind (wpAny_of_eq (PySem.F.newCall_tuple_1 _) (wpAny_pure ⟨plainId_quiet PySem.F.plain_tuple_new _, codeAny_builtin PySem.F.entry_tuple_new ?_⟩)))
  rw [Around.under_plainId PySem.F.plain_tuple_new _]
  have s1 := sub_tuple_self
  have s2 := init_tuple_lookup
  have s3 := madeHere_tuple
  have s4 := (G.isgen _ hg5).typeIs
  wp_walk using wpAny_typeOf s4
  refine collect_by (fun h k => G.isgen h (k _ _ hg5)) (Heap.lt_size hg5) fun h' c0 kp hL => ?_
  have fL := G.inv.fpOk (b := s5.heap.objs.size) (Nat.le_refl _) (G.inv.hok.fresh (Nat.le_refl _))
  have O : OwnL Y ga s5.heap.objs.size fp := ⟨fL.2.2.2.1.elim (fun z => Nat.le_trans G.inv.sz (Nat.le_refl _)) id, fL.2.2.2.2.1, G.ypn, Nat.ne_of_gt (Heap.lt_size hg5), fun hb => Nat.lt_irrefl _ (G.fplt _ hb)⟩
  have I6 : Inv Y [(ga, go), (s5.heap.objs.size, colO #[] c0)] (wipe σ (own.map (·.2))) H3 { s5 with heap := h' } := by
    refine (G.inv.kept (t' := s5.toks) kp).pins_of fun q hq => ?_
    have two : q = (ga, go) ∨ q = (s5.heap.objs.size, colO #[] c0) := by simpa using hq
    have pG := G.inv.pin (ga, go) (List.mem_append_right _ (List.mem_singleton.mpr rfl))
    rcases two with rfl | rfl
    · exact ⟨kp _ _ pG.1, pG.2⟩
    · exact ⟨hL, fL.1, fL.2.1, fL.2.2.1, fun v z => by cases z⟩
  have go6 := G.goes (pnCol ga go s5.heap.objs.size) (fun ys H => ∀ l, H l = none → Q (.ref l) (upd H l (.tup ys))) dCol W (fun a pn ⟨us, c, _, _, e⟩ q hq => by
    rw [e] at hq
    have two : q = (ga, go) ∨ q = (s5.heap.objs.size, colO us c) := by simpa using hq
    rcases two with rfl | rfl
    · exact G.gafp
    · exact O.nfp) dCol_mono turn m0 [] _ { s5 with heap := h' } ⟨#[], c0, .nil, Nat.zero_le _, rfl⟩ I6 (fun b _ o e => kp b o e) rfl w0
  have eprog : Y.prog = X.prog := G.prog
  have ew : Y.w = X.w := G.w
  have go7 : ∃ gs, s5.gens[gi]? = some gs ∧ gs.Goes (model X.prog X.w) X.A.in1.in1.in1.in1 (RGa Y (pnCol ga go s5.heap.objs.size) fun ys H => ∀ l, H l = none → Q (.ref l) (upd H l (.tup ys))) (YGa Y fp (pnCol ga go s5.heap.objs.size) dCol) (m0 + 1) (.send .none) (({ s5 with heap := h' } : Shared).setGen gi .running) := go6
  rw [← eprog, ← ew] at go7 ⊢
  refine col_loop (Y := Y) (A := X.A.in1.in1) (T := fun ys H => ∀ l, H l = none → Q (.ref l) (upd H l (.tup ys))) hr.hd hr.depth G.isgen O (fun ys us c' σ' H' s' rv hz I7 q => ?_) (m0 + 1) _ (kp _ _ hg5) I6.nolimit go7
  have hL7 := (I7.pin (s5.heap.objs.size, colO us c') (by simp)).1
  show wpAny _ X.A.in1.in1 (load s5.heap.objs.size >>= _) _ _ s'
  refine wpAny_bind (wpAny_load hL7 (wpAny_pure ?_))
  refine wpAny_bind (wpAny_pure ?_)
  show wpAny _ _ (Builtin.Tuple.tupleExact us.toList.toArray >>= fun tv => ret tv) _ _ _
  unfold Builtin.Tuple.tupleExact
  have hul : us.toList.length = ys.length := rv.length.symm
  refine wpAny_bind (wpAny_newObj_type ?_ (by show us.toList.toArray.size ≤ sizeLine; rw [List.size_toArray, hul]; exact hz))
  refine wpAny_pure ?_
  have I8 : Inv X pins σ H' s' := inv_down (G.back _ _ _ _ I7)
  refine ⟨⟨_, Heap.get?_push_size _ rfl, rfl⟩, .ref s'.heap.objs.size, upd H' s'.heap.objs.size (.tup ys), I8.laid (t' := s'.toks) (fun b o e => Heap.get?_push_of_some _ e) (Nat.le_refl _) (show ObjOk X.prog X.w _ _ _ (.tup ys) from ⟨hz, us.toList, rv, IsTup.new _ _⟩), rfl, q _ (I8.hok.fresh (Nat.le_refl _))⟩
end
end GY

/-! rules of my own over the hand layer -/
namespace PySem.SeqAt
open AutoSeq1 (wpAny_loadPart')
open MeetsSeq MeetsSeq2 MeetsSeq3 SeqRoads2
section
variable {prog : Program} {w : World}
theorem my_neLoop (l b : Addr) (us vs : Array Value) (n m : Nat) (du dv : Option Addr) (su sv : Array (Option Value)) (hz : us.size = vs.size) (k : Nat) : ∀ i : Nat, us.size - i = k →
    MeetsIn prog w (Builtin.«list.__eq__.loop» ⟨[.ref l, .ref b, rawInt i, rawInt 3], []⟩) (fun A R s =>
      s.heap.get? l = some { cls := .type "list", dict := du, data := .seq us n, slots := su } ∧ s.heap.get? b = some { cls := .type "list", dict := dv, data := .seq vs m, slots := sv } ∧
      (∀ j (p : j < us.size) (q : j < vs.size), EqP prog w A.in1 s us[j] vs[j] true) ∧ R (.ok (.ret (.bool false))) s) := by
  induction k with
  | zero =>
    intro i hk A R s h
    obtain ⟨hp, g, d, tk, os⟩ := s
    obtain ⟨hl, hb, he, h⟩ := h
    wp_walk using wpAny_loadPart' hl, wpAny_loadPart' hb
    have e1 : us[((i : Nat) : Int).toNat]? = none := by simp; omega
    have e2 : vs[((i : Nat) : Int).toNat]? = none := by simp; omega
    rw [e1, e2]
    wp_walk using wpAny_loadPart' hl, wpAny_loadPart' hb
    show R (.ok (.ret (.bool (us.size != vs.size)))) _
    rw [hz]
    simpa using h
  | succ k ih =>
    intro i hk A R s h
    obtain ⟨hp, g, d, tk, os⟩ := s
    obtain ⟨hl, hb, he, h⟩ := h
    wp_walk using wpAny_loadPart' hl, wpAny_loadPart' hb
    have p1 : i < us.size := by omega
    have p2 : i < vs.size := by omega
    have e1 : us[((i : Nat) : Int).toNat]? = some us[i] := by simp [p1]
    have e2 : vs[((i : Nat) : Int).toNat]? = some vs[i] := by simp [p2]
    have ec : ((i : Int) + 1) = ((i + 1 : Nat) : Int) := by push_cast; rfl
    rw [e1, e2]
    refine wpAny_bind (he i p1 p2 _ _ ?_)
    wp_walk
    rw [ec]
    exact ⟨plainId_quiet plain_eq_loop _, codeAny_builtin entry_eq_loop (by
      rw [Around.under_plainId plain_eq_loop _]
      exact ih (i + 1) (by omega) A R _ ⟨hl, hb, he, h⟩)⟩
theorem my_listNe (l b : Addr) (us vs : Array Value) (n m : Nat) (du dv : Option Addr) (su sv : Array (Option Value)) (hz : us.size = vs.size) :
    MeetsIn prog w (Builtin.«list.__ne__» ⟨[.ref l, .ref b], []⟩) (fun A R s =>
      s.heap.get? l = some { cls := .type "list", dict := du, data := .seq us n, slots := su } ∧ s.heap.get? b = some { cls := .type "list", dict := dv, data := .seq vs m, slots := sv } ∧
      (∀ j (p : j < us.size) (q : j < vs.size), EqP prog w A.in1 s us[j] vs[j] true) ∧ R (.ok (.ret (.bool false))) s) := by
  intro A R s h
  obtain ⟨hp, g, d, tk, os⟩ := s
  obtain ⟨hl, hb, he, h⟩ := h
  have f3 := AutoSeq1.sub_list_list
  have hn : ¬ (us.size != vs.size) = true := by simp [hz]
  wp_walk using wpAny_loadPart' hl, wpAny_loadPart' hb
  exact ⟨plainId_quiet plain_eq_loop _, codeAny_builtin entry_eq_loop (by
    rw [Around.under_plainId plain_eq_loop _]
    exact my_neLoop l b us vs n m du dv su sv hz _ 0 rfl A R _ ⟨hl, hb, he, h⟩)⟩
theorem my_rcNe {A : Around} {s : Shared} {l b : Addr} {us vs : Array Value} (hl : s.heap.IsList l us) (hb : s.heap.IsList b vs) (hz : us.size = vs.size) (hu : A.units < cLine)
    (he : ∀ j (p : j < us.size) (q : j < vs.size), EqP prog w A.in1 s us[j] vs[j] true) (E Q : Value → Shared → Prop) (h : Q (.bool false) s) : wpAny (model prog w) A (richCompare .NotEq (.ref l) (.ref b)) Q E s := by
  obtain ⟨⟨c1, du, x1, su⟩, ho, hc, n, hd⟩ := id hl
  obtain ⟨⟨c2, dv, x2, sv⟩, ho2, hc2, m, hd2⟩ := id hb
  simp only at hc hd hc2 hd2
  subst hc hd hc2 hd2
  have ta : s.TypeIs (.ref l) "list" := ⟨_, ho, rfl⟩
  have tb : s.TypeIs (.ref b) "list" := ⟨_, ho2, rfl⟩
  exact wpAny_richCompare_same_room (op := .NotEq) ta tb F.slot_list_ne (call_meetsIn F.slot_list_ne ta F.entry_list_ne (F.args_list_ne_2 _ _) (my_listNe l b us vs n m du dv su sv hz)
    ⟨ho, ho2, he, show Value.bool false ≠ Value.notImplemented ∧ Q (.bool false) s from ⟨(fun x => nomatch x), h⟩⟩) hu
end
end PySem.SeqAt
namespace BR
open PySem PySem.Spec PyProof.Rows L2
section
variable {X : Cx}
/-- two lists that are equal to the bottom: a != b is False -/
def rNeV (K : PySem.W.Frag) : R2 := fun x y H Q => ∃ a b xs ys n, x = .ref a ∧ y = .ref b ∧ SqL K H a xs ∧ SqL K H b ys ∧ n ≤ 60 ∧ Paired (EqV K H n) xs ys ∧ Q (.bl false) H
theorem op_neV (hu : X.A.units + 64 < cLine) : OpR X (compareOp .NotEq) (rNeV X.K) := by
  intro pins s σ H x y v u Q I rx ry h
  obtain ⟨a, b, xs, ys, n, rfl, rfl, ha, hb, hn, hp, q⟩ := h
  cases (show v = Value.ref a from rx)
  cases (show u = Value.ref b from ry)
  obtain ⟨us, r1, p1, _⟩ := I.list ha
  obtain ⟨ws, r2, p2, _⟩ := I.list hb
  have hz : us.toArray.size = ws.toArray.size := by
    rw [List.size_toArray, List.size_toArray, ← r1.length, ← r2.length]
    exact Paired.length hp
  refine SeqAt.my_rcNe p1.isList p2.isList hz (by omega) (fun j h1 h2 => ?_) _ _ ⟨.bl false, H, I, rfl, q⟩
  have k := items_run (eqV_run I n X.A.in1 (by show X.A.units + 1 + n < cLine; omega)) hp r1 r2 j (by simpa using h1) (by simpa using h2)
  simpa using k
/-! *d in a display: the keys of a dict -/
theorem star_dK {pins : List (Addr × Obj)} {σ : L2.St} {H : Hp} {s : Shared} {p : Addr} {kvs : List (Key × V)} {E : Value → Shared → Prop} {Q : List Value → Shared → Prop} (hc : X.calm = true) (I : Inv X pins σ H s) (hk : H p = some (.dK kvs))
    (hQ : ∀ us s', Inv X pins σ H s' → Vals (kvs.map fun kv => kV kv.1) us → Q us s') : PySem.W.StarOf (model X.prog X.w) X.A E (.ref p) Q s := by
  obtain ⟨z, lo, vs, rk, hd⟩ := (show ObjOk X.prog X.w H s.heap p (.dK kvs) from I.hok p _ hk)
  obtain ⟨ep, hat⟩ := hd.dictAt
  have hl : kvs.length = vs.length := Paired.length rk
  have hT : s.TypeIs (.ref p) "dict" := hd.typeIs
  have zz : wpAny (model X.prog X.w) X.A (collect (.ref p)) Q E s := by
    refine PySem.W.kdu_collect (PySem.W.kdl_dict (knd := mixKind X.prog X.w) (kvs := vs) (ep := ep) lo) (I.ok.hd hc) hat (by rw [← hl]; exact z) fun h' tk acc hkeep hacc => ?_
    refine hQ acc.toList _ (I.kept (t' := tk) hkeep) ?_
    have el : acc.toList.length = acc.size := by simp
    refine vals_of_at (by rw [List.length_map, el, hacc.1, hl]) fun j x w h1 h2 => ?_
    obtain ⟨k, y, hky, hi⟩ := hacc.2 j w (by rw [← Array.getElem?_toList]; exact h2)
    have e1 : (kvs.map (·.1))[j]? = some k := by
      rw [KV.keys rk, List.getElem?_map, hky] <;> rfl
    have e2 : (kvs.map fun kv => kV kv.1)[j]? = some (kV k) := by
      have e3 : (kvs.map fun kv => kV kv.1) = (kvs.map (·.1)).map kV := by rw [List.map_map] <;> rfl
      rw [e3, List.getElem?_map, e1] <;> rfl
    rw [e2] at h1
    cases h1
    exact keyIs_rel hi
  unfold PySem.W.StarOf notIterableAtAll
  exact wpAny_bind (wpAny_specialOf hT PySem.F.slot_dict_iter.lookup (wpAny_pure ⟨rfl, zz⟩))
def tStarD (te : TE) (t : TA) : TA := fun σ H Q => te σ H fun x H1 => ∃ p kvs, x = V.ref p ∧ H1 p = some (.dK kvs) ∧ t σ H1 fun ys H2 => Q ((kvs.map fun kv => kV kv.1) ++ ys) H2
theorem pa_starD {e : Expr} {es : List Expr} {te : TE} {t : TA} {p : Pos} (hc : X.calm = true) (he : PE X e te) (hr : PA X es t) (hs : starEach (.Starred e p :: es) X.env = (true, eval e X.env) :: starEach es X.env := by rfl) : PA X (.Starred e p :: es) (tStarD te t) := by
  refine ⟨fun pos pins s σ H Q I h => ?_⟩
  refine PySem.W.items_star (thn (he.run pins s σ H _ I h) fun v s1 ⟨y, H1, I1, ry, a, kvs, ey, hx, q⟩ => ?_) hs
  subst ey
  obtain rfl : v = Value.ref a := ry
  refine star_dK hc I1 hx fun us s2 I2 rv => ?_
  exact thn (hr.run pos pins s2 σ H1 _ I2 q) fun ws s3 ⟨vs, H3, I3, r3, q3⟩ => ⟨_ ++ vs, H3, I3, rv.append r3, q3⟩
/-! rules whose reading names the written part, said with a letter for it (for the block of a comprehension) -/
theorem call_listK {K : PySem.W.Frag} (e : X.K = K) : CallR X (.type "list") (fun xs H Q => ∃ p ys, xs = [.ref p] ∧ (SqL K H p ys ∨ SqT K H p ys) ∧ ∀ l, H l = none → Q (.ref l) (upd H l (.lst ys))) := by
  subst e
  exact call_list_of
theorem op_inK {K : PySem.W.Frag} (e : X.K = K) : OpR X (compareOp .In) (rIn K false) := by
  subst e
  exact op_in_seq
theorem pt_truthK {K : PySem.W.Frag} {a : Expr} {ta : TE} (e : X.K = K) (ha : PE X a ta) (he : ∀ whole, isTrue a X.env whole = (do let v ← whole; standAt a.pos; holding [v] (truthy v))) :
    PT X a (fun σ H Q => ta σ H fun x H' => ∃ k, TruV K x H' k ∧ Q k H') := by
  subst e
  exact pt_truth ha he
theorem call_isiX {K : PySem.W.Frag} (e : X.K = K) : CallR X (.builtin "isinstance") (rIsi K) := by
  subst e
  exact call_isi
theorem pe_bmK {K : PySem.W.Frag} {o e : Expr} {es : List Expr} {to : TE} {t : TA} {name : Str} {apos cpos : Pos} {T id : String} {r : V → List V → Hp → VK → Prop} (eK : X.K = K)
    (pa : PlainAttrs T) (slot : Slot T name id) (hty : typeOf (.builtin id) = pure (.type "method_descriptor")) (hm : MtR X id r) (ho : PE X o to) (ha : PA X (e :: es) t)
    (h1 : attributeBase o name X.env (eval o X.env) = eval o X.env := by rfl)
    (h2 : ((backTo cpos (starEach (e :: es) X.env)).all (fun x => !x.1) && (backToKw cpos (keywordEach [] X.env)).all (fun x => x.1.isSome) && decide ((e :: es).length + ([] : List Keyword).length + (if ([] : List Keyword).isEmpty then 0 else 1) < 30)) = true := by rfl)
    (h3 : (apos.endLine == cpos.line) = true := by rfl) (h4 : starEach (e :: es) X.env = (false, eval e X.env) :: starEach es X.env := by rfl) (h5 : (backTo cpos (starEach es X.env)).any (·.1) = false := by rfl) :
    PE X (.Call (.Attribute o name apos) (e :: es) [] cpos) (tBM K T r to t) := by
  subst eK
  exact pe_bm pa slot hty hm ho ha h1 h2 h3 h4 h5
/-! list.count of a text in a list of texts -/
def eqsT (z : Str) : Value → Bool
  | .str y _ => y == z
  | _ => false
theorem eqsT_count {z : Str} : ∀ {ss : List Str} {us : List Value}, Vals (ss.map V.str) us → us.countP (eqsT z) = ss.count z
  | [], _, r => by cases r; rfl
  | y :: ss, _, r => by
    cases r with
    | cons h t =>
      obtain ⟨k, rfl⟩ := h
      rw [List.countP_cons, List.count_cons, eqsT_count t]
      rfl
theorem eqsT_at {A : Around} {s : Shared} {z : Str} {t : Tok} : ∀ {ss : List Str} {us : List Value}, Vals (ss.map V.str) us → ∀ y ∈ us, SeqAt.EqAt A s y (.str z t) (eqsT z y)
  | [], _, r, y, hy => by cases r; cases hy
  | x :: ss, _, r, y, hy => by
    cases r with
    | cons h q =>
      obtain ⟨k, rfl⟩ := h
      rcases List.mem_cons.mp hy with rfl | e
      · exact SeqAt.EqAt.str_str _ _ _ _
      · exact eqsT_at q y e
theorem mt_countS : MtR X "list.count" (fun x vs H Q => ∃ (p : Addr) (ss : List Str) (z : Str), x = .ref p ∧ vs = [.str z] ∧ SqL X.K H p (ss.map V.str) ∧ Q (.int (ss.count z : Nat)) H) := by
  intro pins s σ H x xs v us Q I rx rxs h
  obtain ⟨p, ss, z, rfl, rfl, hs, q⟩ := h
  cases rx
  obtain ⟨u, rfl, ru⟩ := rxs.one
  obtain ⟨t, rfl⟩ := ru
  obtain ⟨its, rv, ⟨⟨c1, dd, x1, sl⟩, n, ho, hc, hdn, hd⟩, hlen⟩ := I.list hs
  simp only at hc hd
  subst hc hd
  refine call_meets PySem.F.slot_list_count ⟨_, ho, rfl⟩ PySem.F.entry_list_count (PySem.F.args_list_count_2 _ _)
    (SeqAt.list_countAt p its.toArray n dd sl (.str z t) (eqsT z)) ⟨ho, fun y hy => eqsT_at rv y (by simpa using hy), ?_⟩
  have ec : its.toArray.toList.countP (eqsT z) = ss.count z := eqsT_count rv
  refine ⟨.int (ss.count z : Nat), H, I.tok _, ⟨s.toks, ?_⟩, q⟩
  show Value.int ((its.toArray.toList.countP (eqsT z) : Nat) : Int) s.toks = Value.int ((ss.count z : Nat) : Int) s.toks
  rw [ec]
theorem mt_countK {K : PySem.W.Frag} (e : X.K = K) : MtR X "list.count" (fun x vs H Q => ∃ (p : Addr) (ss : List Str) (z : Str), x = .ref p ∧ vs = [.str z] ∧ SqL K H p (ss.map V.str) ∧ Q (.int (ss.count z : Nat)) H) := by
  subst e
  exact mt_countS
end
end BR

namespace Bn
open PySem PySem.Spec PyProof.Rows L2 BR
/-! ### heaps -/
def Kp (b : Addr) (H H' : Hp) : Prop := ∀ a o, a ≠ b → H a = some o → H' a = some o
theorem Kp.refl (b : Addr) (H : Hp) : Kp b H H := fun _ _ _ h => h
theorem Kp.trans {b : Addr} {H H1 H2 : Hp} (x : Kp b H H1) (y : Kp b H1 H2) : Kp b H H2 := fun a o n h => y a o n (x a o n h)
theorem Kp.put {b : Addr} {H : Hp} {o : HO} : Kp b H (upd H b o) := fun a x n h => by
  rw [upd_ne n]
  exact h
theorem Kp.new {b p : Addr} {H : Hp} {o : HO} (h : H p = none) : Kp b H (upd H p o) := fun a x n e => by
  rw [upd_ne (ne_of_none e h)]
  exact e
theorem same_new {H : Hp} {p : Addr} {o : HO} (h : H p = none) : Same H (upd H p o) := fun b x e => by
  rw [upd_ne (ne_of_none e h)]
  exact e
theorem Kp.of_same {b : Addr} {H H' : Hp} (h : Same H H') : Kp b H H' := fun a o _ e => h a o e
theorem Same.kp {b : Addr} {H0 H H' : Hp} (s : Same H0 H) (n : H0 b = none) (k : Kp b H H') : Same H0 H' := fun a o e => k a o (ne_of_none e n) (s a o e)
/-- what is new is changed -/
theorem Same.own {p : Addr} {H0 H : Hp} {o : HO} (s : Same H0 H) (n : H0 p = none) : Same H0 (upd H p o) := fun a x e => by
  rw [upd_ne (ne_of_none e n)]
  exact s a x e
def Bx (H : Hp) (b : Addr) : Prop := ∃ x y z : Int, H b = some (.lst [.int x, .int y, .int z])
theorem Bx.same {H H' : Hp} {b : Addr} (h : Bx H b) (s : Same H H') : Bx H' b := by
  obtain ⟨x, y, z, e⟩ := h
  exact ⟨x, y, z, s _ _ e⟩
theorem Bx.ne {H : Hp} {b p : Addr} (h : Bx H b) (n : H p = none) : b ≠ p := by
  obtain ⟨x, y, z, e⟩ := h
  exact ne_of_none e n
structure Kb (b : Addr) (H H' : Hp) : Prop where
  k : Kp b H H'
  x : Bx H' b
theorem Kb.refl {b : Addr} {H : Hp} (h : Bx H b) : Kb b H H := ⟨Kp.refl b H, h⟩
theorem Kb.trans {b : Addr} {H H1 H2 : Hp} (p : Kb b H H1) (q : Kb b H1 H2) : Kb b H H2 := ⟨p.k.trans q.k, q.x⟩
theorem Kb.new {b p : Addr} {H : Hp} {o : HO} (hb : Bx H b) (h : H p = none) : Kb b H (upd H p o) := ⟨Kp.new h, hb.same (same_new h)⟩
theorem Kb.free {b a : Addr} {H H' : Hp} (p : Kb b H H') (h : H' a = none) : H a = none := by
  cases e : H a with
  | none => rfl
  | some o =>
    by_cases q : a = b
    · subst q
      obtain ⟨x, y, z, e2⟩ := p.x
      rw [e2] at h
      cases h
    · rw [p.k a o q e] at h
      cases h
theorem Kb.own {b p : Addr} {H H' : Hp} {o : HO} (q : Kb b H H') (h : H p = none) (n : p ≠ b) : Kb b H (upd H' p o) := ⟨fun a x na e => by
  rw [upd_ne (ne_of_none e h)]
  exact q.k a x na e, by
  obtain ⟨x, y, z, e2⟩ := q.x
  exact ⟨x, y, z, by rw [upd_ne n.symm]; exact e2⟩⟩
theorem line1000 {n : Nat} (h : n ≤ 1000) : n ≤ sizeLine := Nat.le_of_lt (small1000 h)
theorem tYes_in {σ : L2.St} {H : Hp} {f g : Hp → Prop} (h : f H) : tYes σ H fun b H3 => if b = true then f H3 else g H3 := by
  show (if true = true then f H else g H)
  exact iteT h
def lenAt (H : Hp) (l : Addr) : Nat := match H l with
  | some (.lst xs) => xs.length
  | _ => 0
theorem lenAt_of {H : Hp} {l : Addr} {xs : List V} (h : H l = some (.lst xs)) : lenAt H l = xs.length := by
  unfold lenAt
  rw [h]
theorem ne_bx {H : Hp} {b p : Addr} {o : HO} (hb : Bx H b) (h : H p = some o) (hn : ∀ x y z : Int, o ≠ .lst [.int x, .int y, .int z]) : p ≠ b := fun e => by
  obtain ⟨x, y, z, e2⟩ := hb
  rw [e, e2] at h
  exact hn x y z (Option.some.inj h).symm
/-! ### texts -/
def okS (x : Str) : Prop := ∀ c ∈ TL.tl x, c < 0x110000
theorem okS_iff (x : Str) : PyData.strOk x = true ↔ okS x := by
  unfold PyData.strOk okS TL.tl
  rw [← Array.all_toList, List.all_eq_true]
  exact ⟨fun h c hc => of_decide_eq_true (h c hc), fun h c hc => decide_eq_true (h c hc)⟩
theorem strs_shaped : ∀ (vs : List Str), (∀ x ∈ vs, okS x) → PyData.canLayAll0 (vs.map PyData.str) = true ∧ PyData.depthAll (vs.map PyData.str) = 0
  | [], _ => ⟨rfl, rfl⟩
  | v :: vs, h => by
    obtain ⟨a, b⟩ := strs_shaped vs fun x hx => h x (List.mem_cons_of_mem _ hx)
    refine ⟨?_, ?_⟩
    · show (PyData.strOk v && PyData.canLayAll0 (vs.map PyData.str)) = true
      rw [a, (okS_iff v).mpr (h v (List.mem_cons_self ..))]
      rfl
    · show max 0 (PyData.depthAll (vs.map PyData.str)) = 0
      rw [b]
      rfl
theorem strs_list_shaped {vs : List Str} (h : ∀ x ∈ vs, okS x) : SeqAt.shaped (.list (vs.map PyData.str)) = true := by
  obtain ⟨a, b⟩ := strs_shaped vs h
  show (PyData.canLayAll0 (vs.map PyData.str) && decide (PyData.depthAll (vs.map PyData.str) + 1 ≤ 64)) = true
  rw [a, b]
  rfl
theorem strs_dp {K : PySem.W.Frag} {H : Hp} : ∀ (vs : List Str), DpAll K H (vs.map V.str) (vs.map PyData.str)
  | [] => .nil
  | v :: vs => .cons (.str v) (strs_dp vs)
theorem strs_nil (vs : List Str) : PyData.eqv (.list (vs.map PyData.str)) (.list []) = vs.isEmpty := by
  cases vs with
  | nil => rfl
  | cons v r => rfl
theorem strs_all {ws : List Str} : ∀ {ys : List V}, (∀ y ∈ ys, y ∈ ws.map V.str) → ∃ vs : List Str, ys = vs.map V.str ∧ ∀ v ∈ vs, v ∈ ws
  | [], _ => ⟨[], rfl, fun v hv => by cases hv⟩
  | y :: ys, h => by
    obtain ⟨vs, e, hv⟩ := strs_all (ys := ys) fun z hz => h z (List.mem_cons_of_mem _ hz)
    obtain ⟨x, hx, ex⟩ := List.mem_map.mp (h y (List.mem_cons_self ..))
    refine ⟨x :: vs, ?_, fun v hv' => ?_⟩
    · rw [List.map_cons, ex, e]
    · rcases List.mem_cons.mp hv' with rfl | q
      · exact hx
      · exact hv v q
theorem map_str_inj : ∀ {vs ws : List Str}, vs.map V.str = ws.map V.str → vs = ws
  | [], [], _ => rfl
  | [], _ :: _, h => by cases h
  | _ :: _, [], h => by cases h
  | v :: vs, w :: ws, h => by
    rw [List.map_cons, List.map_cons] at h
    injection h with h1 h2
    rw [V.str.inj h1, map_str_inj h2]
theorem strs_ne_ints {vs : List Str} (h : 1 ≤ vs.length) : ∀ x y z : Int, HO.lst (vs.map V.str) ≠ .lst [.int x, .int y, .int z] := fun x y z e => by
  cases vs with
  | nil => exact absurd h (by decide)
  | cons v r =>
    injection e with e1
    rw [List.map_cons] at e1
    injection e1 with e2 _
    cases e2
theorem rd_lock {H : Hp} {a d : Addr} {u v : HO} {o : Obj} (ha : H a = some v) (hd : H d = some u) : Rd (upd H d (.frz o u)) a v := by
  by_cases e : a = d
  · subst e
    rw [ha] at hd
    cases hd
    exact .inr ⟨o, upd_same⟩
  · exact .inl (by rw [upd_ne e]; exact ha)
theorem unlock {H : Hp} {d : Addr} {u : HO} {o : Obj} (hd : H d = some u) : upd (upd H d (.frz o u)) d u = H := by
  funext x
  by_cases e : x = d
  · subst e
    rw [upd_same, hd]
  · rw [upd_ne e, upd_ne e]
end Bn

/-! rules of my own: zip of a list and a tuple, y = {k: v for ..}, != of lists of data and dicts -/
namespace RM
open PySem PySem.Spec PyProof.Rows L2
/-- a list at a and a tuple at b, walked together -/
def ItzM (K : PySem.W.Frag) (a b : Addr) (xs ys : List V) : It where
  go := fun i H => SqL K H a xs ∧ SqT K H b ys ∧ i < xs.length ∧ i < ys.length
  yld := fun i H v H' => ∃ T x y, v = .ref T ∧ H T = none ∧ H' = upd H T (.tup [x, y]) ∧ xs[i]? = some x ∧ ys[i]? = some y
  stop := fun i H => SqL K H a xs ∧ SqT K H b ys ∧ i ≤ xs.length ∧ i ≤ ys.length ∧ (i = xs.length ∨ i = ys.length)
theorem off_ne (n : Nat) {i j : Nat} (h : i ≠ j) : n + i ≠ n + j := by omega
theorem old_ne {n a : Nat} (h : a < n) (i : Nat) : n + i ≠ a := by omega
theorem sep_mix {a b : Addr} (n : Nat) (ha : Nat.lt a n) (hb : Nat.lt b n) : ZipSep2 (n + 4) (n + 2) (n + 3) n (n + 1) [n, a] [n + 1, b] where
  TIz := off_ne n (by decide)
  TOz := off_ne n (by decide)
  TITO := off_ne n (by decide)
  TIi1 := off_ne n (j := 0) (by decide)
  mem1 := List.mem_cons_self ..
  zf1 := fun z => (List.mem_cons.mp z).elim (off_ne n (j := 0) (by decide)) fun z => old_ne ha 4 (List.mem_singleton.mp z)
  Tf1 := fun z => (List.mem_cons.mp z).elim (off_ne n (j := 0) (by decide)) fun z => old_ne ha 3 (List.mem_singleton.mp z)
  TIi2 := off_ne n (by decide)
  mem2 := List.mem_cons_self ..
  zf2 := fun z => (List.mem_cons.mp z).elim (off_ne n (by decide)) fun z => old_ne hb 4 (List.mem_singleton.mp z)
  Tf2 := fun z => (List.mem_cons.mp z).elim (off_ne n (by decide)) fun z => old_ne hb 3 (List.mem_singleton.mp z)
  sep1_2 := fun z => (List.mem_cons.mp z).elim (off_ne n (i := 0) (by decide)) fun z => old_ne hb 0 (List.mem_singleton.mp z)
  sep2_1 := fun z => (List.mem_cons.mp z).elim (off_ne n (j := 0) (by decide)) fun z => old_ne ha 1 (List.mem_singleton.mp z)
theorem turn_zipM {P : Program} {w : World} {K : PySem.W.Frag} {elts : List Expr} {kk : Nat} {tpos : Pos} {a b z TI TO i1 i2 : Addr} {xs ys : List V} (S : ZipSep2 z TI TO i1 i2 [i1, a] [i2, b]) (na : a ≠ i1) (nb : b ≠ i2) :
    Turn P w K (.Tuple elts kk tpos) (ItzM K a b xs ys) [z, TI, TO, i1, i2] z (fun i h => IsZip h z TI TO .none ∧ IsTupOf2 h TI (.ref i1) (.ref i2) ∧ (∃ x y, IsTupOf2 h TO x y) ∧ h.IsListIter i1 a i ∧ h.IsTupleIter i2 b i) where
  mem := List.mem_cons_self ..
  obj := fun i h st c hc => by
    obtain ⟨sz, sI, ⟨x, y, sO⟩, ⟨o1, e1, _, d1⟩, o2, e2, _, d2⟩ := st
    have five : c = z ∨ c = TI ∨ c = TO ∨ c = i1 ∨ c = i2 := by simpa using hc
    rcases five with rfl | rfl | rfl | rfl | rfl
    · exact ⟨_, sz, fun _ no => nomatch no⟩
    · exact ⟨_, sI, fun _ no => nomatch no⟩
    · exact ⟨_, sO, fun _ no => nomatch no⟩
    · exact ⟨o1, e1, fun _ no => by rw [d1] at no; cases no⟩
    · exact ⟨o2, e2, fun _ no => by rw [d2] at no; cases no⟩
  keep := fun i h h' ⟨sz, sI, ⟨x, y, sO⟩, s1, s2⟩ up =>
    ⟨up z (by simp) _ sz, up TI (by simp) _ sI, ⟨x, y, up TO (by simp) _ sO⟩, s1.at fun o q => up i1 (by simp) o q, s2.at fun o q => up i2 (by simp) o q⟩
  item := by
    intro X eP ew eK calm i pins s σ H E J foot st go
    subst eP ew eK
    obtain ⟨sz, sI, ⟨x0, y0, sO⟩, s1, s2⟩ := st
    obtain ⟨qx, qy, lx, ly⟩ := go
    obtain ⟨us, rx, px, _⟩ := J.list qx
    obtain ⟨vs, ry, py, _⟩ := J.tuple qy
    have hh : X.A.in1.handled = none := J.ok.hd calm
    have lu : i < us.toArray.size := by rw [List.size_toArray, ← rx.length]; exact lx
    have lv : i < vs.toArray.size := by rw [List.size_toArray, ← ry.length]; exact ly
    have zlt : z < s.heap.objs.size := Heap.lt_size sz
    refine wpAny_pyNext_zipD2_item S (Draws.list hh i1 a na us.toArray) (Draws.tuple hh i2 b nb vs.toArray) sz sI sO ⟨s1, px.isList⟩ ⟨s2, py⟩ lu lv fun u v h' tk hu hv zz oo t1 t2 pr _ same => ?_
    refine ⟨_, rfl, wpAny_letOwnedTupleGo_zip (s := { s with heap := h', toks := tk }) zz fun h2 z2 sb => ?_⟩
    have gx : xs[i]? = some xs[i] := List.getElem?_eq_getElem lx
    have gy : ys[i]? = some ys[i] := List.getElem?_eq_getElem ly
    obtain ⟨u', hu', ru⟩ := rx.get gx
    obtain ⟨v', hv', rv⟩ := ry.get gy
    have hu2 : us[i]? = some u := by simpa using hu
    have hv2 : vs[i]? = some v := by simpa using hv
    rw [hu2] at hu'
    rw [hv2] at hv'
    cases hu'
    cases hv'
    have pr2 : h2.get? s.heap.objs.size = some { cls := .type "tuple", data := .seq #[u, v] } := (sb.2 _ (Nat.ne_of_gt zlt)).trans pr
    have fits : ObjOk X.prog X.w (upd H s.heap.objs.size (.tup [xs[i], ys[i]])) h2 s.heap.objs.size (.tup [xs[i], ys[i]]) :=
      ⟨(by show 2 ≤ sizeLine; decide), [u, v], .cons ru (.cons rv .nil), _, pr2, rfl, _, rfl⟩
    have J2 : Inv X pins σ (upd H s.heap.objs.size (.tup [xs[i], ys[i]])) { s with heap := h2, toks := tk } :=
      J.turnedNew (t' := tk) (ch := [z, TI, TO, i1, i2]) (fun c o out q => (sb.2 c fun e => out (by simp [e])).trans (same c o (fun e => out (by simp [e])) (fun e => out (by simp [e])) (fun e => out (by simp [e])) (fun e => out (by simp [e])) q)) foot (Nat.le_refl _) fits
    refine ⟨.ref s.heap.objs.size, _, J2, rfl, ⟨_, xs[i], ys[i], rfl, J.hok.fresh (Nat.le_refl _), rfl, gx, gy⟩, ⟨z2, ?_, ⟨u, v, ?_⟩, ?_, ?_⟩, fun c hc => ?_⟩
    · exact (sb.2 _ S.TIz).trans (same _ _ S.TIz S.TITO S.TIi1 S.TIi2 sI)
    · exact (sb.2 _ S.TOz).trans oo
    · exact t1.1.at fun o q => (sb.2 _ S.zi1.symm).trans q
    · exact t2.1.at fun o q => (sb.2 _ S.zi2.symm).trans q
    · have five : c = z ∨ c = TI ∨ c = TO ∨ c = i1 ∨ c = i2 := by simpa using hc
      have clt : c < s.heap.objs.size := by
        rcases five with rfl | rfl | rfl | rfl | rfl
        · exact zlt
        · exact Heap.lt_size sI
        · exact Heap.lt_size sO
        · exact Heap.lt_size s1.choose_spec.1
        · exact Heap.lt_size s2.choose_spec.1
      rw [upd_ne (Nat.ne_of_lt clt)]
      exact (foot c hc).1
  done := by
    intro X eP ew eK calm i pins s σ H E J foot st stop
    subst eP ew eK
    obtain ⟨sz, sI, ⟨x0, y0, sO⟩, s1, s2⟩ := st
    obtain ⟨qx, qy, lx, ly, fin⟩ := stop
    obtain ⟨us, rx, px, _⟩ := J.list qx
    obtain ⟨vs, ry, py, _⟩ := J.tuple qy
    have hh : X.A.in1.handled = none := J.ok.hd calm
    have nu : us.toArray.size = xs.length := by rw [List.size_toArray, ← rx.length]
    have nv : vs.toArray.size = ys.length := by rw [List.size_toArray, ← ry.length]
    refine wpAny_pyNext_zipD2_end S (Draws.list hh i1 a na us.toArray) (Draws.tuple hh i2 b nb vs.toArray) sz sI sO ⟨s1, px.isList⟩ ⟨s2, py⟩ (by rw [nu]; exact lx) (by rw [nv]; exact ly) (by rw [nu, nv]; exact fin) fun h' tk same => ?_
    exact ⟨rfl, J.turnedL (t' := tk) (ch := [z, TI, TO, i1, i2]) (fun c o out q => same c o (fun e => out (by simp [e])) (fun e => out (by simp [e])) (fun e => out (by simp [e])) (fun e => out (by simp [e])) q) foot⟩
  self := fun _ _ _ _ _ st q => wpAny_pyIter_zip st.1 q
def iZipM (K : PySem.W.Frag) (ta : TA) : TI := fun σ H R => ta σ H fun vs H1 => ∃ a b xs ys, vs = [.ref a, .ref b] ∧ SqL K H1 a xs ∧ SqT K H1 b ys ∧ R (ItzM K a b xs ys) H1
theorem pi_zipM {X : Cx} {e e2 : Expr} {ta : TA} {p pos tpos : Pos} {elts : List Expr} {kk : Nat} (glo : Gl X "zip") (own : X.mg "zip" = none) (args : PA X [e, e2] ta)
    (st1 : starEach [e, e2] X.env = (false, eval e X.env) :: starEach [e2] X.env := by rfl) (st2 : (backTo pos (starEach [e2] X.env)).any (·.1) = false := by rfl) :
    PI X (.Tuple elts kk tpos) (.Call (.Name "zip" p) [e, e2] [] pos) (iZipM X.K ta) := by
  refine ⟨fun pins s σ H R J h => Call_ (ld_blt J glo own PyProof.Rows.boot_zip (PyProof.Rows.callWith_type1 (thn (args.run pos pins s σ H _ J h) fun us s1 ⟨vs, H1, J1, r1, a, b, xs, ys, ev, qx, qy, q⟩ => ?_) st1 st2))⟩
  subst ev
  cases r1 with
  | cons ra rest =>
    cases rest with
    | cons rb none' =>
      cases none'
      cases ra
      cases rb
      obtain ⟨its, _, px, _⟩ := J1.list qx
      obtain ⟨its2, _, py, _⟩ := J1.tuple qy
      have la : a < s1.heap.objs.size := px.lt
      have lb : b < s1.heap.objs.size := Heap.lt_size py.choose_spec.1
      refine zip_begins2 (begins_list a its.toArray) (begins_tuple b its2.toArray) px.isList py fun h' zz tI tO o1 o2 _ up => wpAny_pyIter_zip zz ?_
      have J2 : Inv X pins σ H1 { s1 with heap := h' } := J1.kept (t' := s1.toks) up
      refine ⟨s1.heap.objs.size + 4, [s1.heap.objs.size + 4, s1.heap.objs.size + 2, s1.heap.objs.size + 3, s1.heap.objs.size, s1.heap.objs.size + 1], _, _, H1, rfl, J2, turn_zipM (sep_mix _ la lb) (Nat.ne_of_lt la) (Nat.ne_of_lt (Nat.lt_succ_of_lt lb)), ⟨zz, tI, ⟨_, _, tO⟩, ⟨_, o1, rfl, rfl⟩, _, o2, rfl, rfl⟩, fun c hc => ?_, q⟩
      have old : s1.heap.objs.size ≤ c := by
        have five : c = s1.heap.objs.size + 4 ∨ c = s1.heap.objs.size + 2 ∨ c = s1.heap.objs.size + 3 ∨ c = s1.heap.objs.size ∨ c = s1.heap.objs.size + 1 := by simpa using hc
        rcases five with rfl | rfl | rfl | rfl | rfl
        · exact Nat.le_add_right _ 4
        · exact Nat.le_add_right _ 2
        · exact Nat.le_add_right _ 3
        · exact Nat.le_refl _
        · exact Nat.le_add_right _ 1
      exact J1.fpOk old (J1.hok.fresh old)
/-- both of one length -/
theorem walk_zipM {K : PySem.W.Frag} {a b : Addr} {xs ys : List V} (hl : xs.length = ys.length) : Walk (ItzM K a b xs ys) xs.length (fun H => SqL K H a xs ∧ SqT K H b ys) (YPair (fun i => xs[i]?) (fun i => ys[i]?)) :=
  ⟨fun i H hi q => ⟨q.1, q.2, hi, by omega⟩, fun H q => ⟨q.1, q.2, Nat.le_refl _, by omega, .inl rfl⟩, fun _ _ _ _ _ _ y => y⟩
section
variable {X : Cx}
/-- y = {k: v for ..}, y a local -/
theorem ps_setDc {i : Nat} {y : Str} {py : Pos} {kx vx tg iter : Expr} {ifs : List Expr} {scope : Scope} {own : List (Str × Nat)} {pos spos : Pos} {wi : TI} {g : TG} {tt : TT} {tk tv : TE} (calm : X.calm = true) (nd : X.N.Nodup) (slot : X.N[i]? = some y) (here : X.env.scope.names.lookup y = some .local)
    (sw : swapsWith (.DictComp kx vx [⟨tg, iter, ifs, 0⟩] scope pos) (some (.Name y py)) spos.line X.env = pure true) (hi : PI X tg iter wi) (blk : BlkOk X.N X.env.scope scope own)
    (hg : ∀ (s : Shared) (H : Hp) (C : Addr) (cl : List (PySem.Str × Addr)) (fp : List Addr), PG (X.blk s H scope (compEnvC scope cl C X.env) fp) tg g) (ht : ∀ (s : Shared) (H : Hp) (C : Addr) (cl : List (PySem.Str × Addr)) (fp : List Addr), PTs (X.blk s H scope (compEnvC scope cl C X.env) fp) ifs tt)
    (hk : ∀ (s : Shared) (H : Hp) (C : Addr) (cl : List (PySem.Str × Addr)) (fp : List Addr), PE (X.blk s H scope (compEnvC scope cl C X.env) fp) kx tk)
    (hv : ∀ (s : Shared) (H : Hp) (C : Addr) (cl : List (PySem.Str × Addr)) (fp : List Addr), PE (X.blk s H scope (compEnvC scope cl C X.env) fp) vx tv) (fold : ∀ x, foldedSetIterable iter X.env x = pure x := by intro _; rfl) :
    PS X (.Assign [.Name y py] (.DictComp kx vx [⟨tg, iter, ifs, 0⟩] scope pos) spos) (tAsg (tDc wi g tt tk tv (own.map (·.2))) (gName i)) := by
  refine ⟨fun pins s σ H D J h => ?_⟩
  rw [exec_Assign_Name_used _ _ _ _ sw]
  refine wpAny_bind (wpAny_standAt (wpAny_bind ?_))
  have want : tDc wi g tt tk tv (own.map (·.2)) σ H (fun x H1 => gName i x σ H1 D.nx) := h
  show wpAny _ X.A (do let _ ← comprehension (.DictComp kx vx [⟨tg, iter, ifs, 0⟩] scope pos) scope X.env (firstIterPos [⟨tg, iter, ifs, 0⟩] pos) newDict false (eval iter X.env) (some (assign (.Name y py) X.env))) _ _ s
  refine wpAny_bind (thn (dc_core (Qf := fun _ s' => SP X pins D .next s') calm nd J hi blk hg ht hk hv fold want fun L C s' m H' J' q ns fp => ?_) fun _ s' hq => wpAny_pure (wpAny_pure hq))
  obtain ⟨f0, f1, _, f3, f4, f5⟩ := fp
  show wpAny _ _ (assign (.Name y py) X.env (.ref L)) _ _ _
  refine wpAny_assign_Name (store_ok2 (v := V.ref L) J' nd slot (.inl here) rfl (fun s2 J2 ⟨a, sb, ha⟩ => ?_) (.inr here))
  have apart : C ≠ a := ha.elim (fun z => by rw [z]; exact f1) fun z e => f4 y a z e.symm
  exact ⟨m, ns.sameBut sb apart, fun h3 sb3 => ⟨_, H', J2.turned (t' := s2.toks) (fun b o hb e => (sb3.2 b hb).trans e) f0 f1 f3 f4 f5, q⟩⟩
theorem sw_dict {kx vx : Expr} {gs : List Comprehension} {scope : Scope} {pos py : Pos} {y : Str} {l : Nat} {env : Env} (fn : env.scope.kind = .function) (here : env.scope.names.lookup y = some .local) (line : (py.line == pos.line) = true)
    (off : (scope.names.any fun (n, k) => n == y && (k == .local || k == .cell)) = false) : swapsWith (.DictComp kx vx gs scope pos) (some (.Name y py)) l env = pure true := by
  have k1 : env.kindOf y = some .local := here
  have k2 : env.blockKind = .function := by unfold Env.blockKind; rw [fn]; rfl
  unfold swapsWith
  simp only [k2, k1, off, Expr.pos, line]
  rfl
/-- such a comprehension over a walk -/
theorem dc_it {J : It} {n : Nat} {G : Hp → Prop} {Y : Nat → Hp → V → Hp → Prop} (wk : Walk J n G Y) {g : TG} {tt : TT} {tk tv : TE} {vs : List Nat} {σ : L2.St} {H1 : Hp} {D : Addr} {Qd : Hp → Prop} (Pv : Nat → Hp → Prop) (h0 : Pv 0 (upd H1 D (.dK []))) (hG : ∀ i H, i ≤ n → Pv i H → G H)
    (hs : ∀ i x H H', i < n → Pv i H → Y i H x H' → g x (wipe σ vs) H' fun σ2 H2 => wipe σ2 vs = wipe σ vs ∧ tt σ2 H2 fun b H3 =>
      if b = true then tk σ2 H3 fun y H4 => tv σ2 H4 fun z H5 => ∃ kvs k, y = kV k ∧ H5 D = some (.dK kvs) ∧ kvs.length < sizeLine ∧ Pv (i + 1) (upd H5 D (.dK (putK kvs k z))) else Pv (i + 1) H3) (hd : ∀ H, Pv n H → Qd H) :
    ∃ W : Nat → Nat → Hp → Prop, (∃ m, W 0 m (upd H1 D (.dK []))) ∧ ∀ i m H, W i m H →
      (J.stop i H ∧ Qd H) ∨ (J.go i H ∧ ∃ Nx : Hp → Prop, (∀ H', Nx H' → ∃ m', m' < m ∧ W (i + 1) m' H') ∧ ∀ x H', J.yld i H x H' → g x (wipe σ vs) H' fun σ2 H2 => wipe σ2 vs = wipe σ vs ∧ tt σ2 H2 fun b H3 =>
        if b = true then tk σ2 H3 fun y H4 => tv σ2 H4 fun z H5 => ∃ kvs k, y = kV k ∧ H5 D = some (.dK kvs) ∧ kvs.length < sizeLine ∧ Nx (upd H5 D (.dK (putK kvs k z))) else Nx H3) := by
  refine ⟨fun i left H => i + left = n ∧ Pv i H, ⟨n, Nat.zero_add n, h0⟩, fun i left H ⟨sum, pv⟩ => ?_⟩
  have good := hG i H (by omega) pv
  cases left with
  | zero =>
    have last : i = n := sum
    subst last
    exact .inl ⟨wk.stops H good, hd H pv⟩
  | succ left =>
    have below : i < n := by omega
    exact .inr ⟨wk.goes i H below good, Pv (i + 1), fun H' pv' => ⟨left, Nat.lt_succ_self _, by omega, pv'⟩, fun x H' y => hs i x H H' below pv (wk.yields i H x H' below good y)⟩
/-! lists of data and of dicts -/
/-- one and the same data, or equal by EqV -/
def EqW (K : PySem.W.Frag) (H : Hp) (n : Nat) (x y : V) : Prop := (∃ d, Dp K H x d ∧ Dp K H y d ∧ d.canLay0 = true ∧ d.depth ≤ 60) ∨ EqV K H n x y
theorem eqW_run {pins : List (Addr × Obj)} {σ : L2.St} {H : Hp} {s : Shared} (J : Inv X pins σ H s) (n : Nat) (A : Around) (hn : n ≤ 60) (hu : A.units + 60 < cLine) (x y : V) (v u : Value) (h : EqW X.K H n x y) (rx : RelV x v) (ry : RelV y u) : SeqAt.EqP X.prog X.w A s v u true := by
  rcases h with ⟨d, dx, dy, can, dep⟩ | h
  · obtain ⟨as, ra⟩ := Dp.reads J d x v dx rx
    obtain ⟨bs, rb⟩ := Dp.reads J d y u dy ry
    have e := SeqAt.eqAt_reads d d A s v u as bs ra rb can can (by rw [Nat.min_self]; omega)
    rw [SeqAt.eqv_refl d can] at e
    exact e.eqP
  · exact eqV_run J n A (by omega) x y v u h rx ry
def rNeW (K : PySem.W.Frag) : R2 := fun x y H Q => ∃ a b xs ys n, x = .ref a ∧ y = .ref b ∧ SqL K H a xs ∧ SqL K H b ys ∧ n ≤ 60 ∧ Paired (EqW K H n) xs ys ∧ Q (.bl false) H
theorem op_neW (hu : X.A.units + 64 < cLine) : OpR X (compareOp .NotEq) (rNeW X.K) := by
  intro pins s σ H x y v u Q J rx ry h
  obtain ⟨a, b, xs, ys, n, rfl, rfl, ha, hb, hn, hp, q⟩ := h
  cases (show v = Value.ref a from rx)
  cases (show u = Value.ref b from ry)
  obtain ⟨us, r1, p1, _⟩ := J.list ha
  obtain ⟨ws, r2, p2, _⟩ := J.list hb
  have size : us.toArray.size = ws.toArray.size := by
    rw [List.size_toArray, List.size_toArray, ← r1.length, ← r2.length]
    exact Paired.length hp
  refine SeqAt.my_rcNe p1.isList p2.isList size (by omega) (fun j h1 h2 => ?_) _ _ ⟨.bl false, H, J, rfl, q⟩
  have k := items_run (eqW_run J n X.A.in1 (by omega) (by show X.A.units + 1 + 60 < cLine; omega)) hp r1 r2 j (by simpa using h1) (by simpa using h2)
  simpa using k
end
end RM

namespace RM
open PySem PySem.Spec PyProof.Rows L2
/-- the second clause's loop -/
def In2 (J1 : It) (g1 : TG) (tt1 : TT) (te : TE) (vs1 : List Nat) (D : Addr) (σ2 : L2.St) (H4 : Hp) (Nx : Hp → Prop) : Prop :=
  ∃ W1 : Nat → Nat → Hp → Prop, (∃ m, W1 0 m H4) ∧ ∀ j k H, W1 j k H →
      (J1.stop j H ∧ Nx H) ∨ (J1.go j H ∧ ∃ Nx1 : Hp → Prop, (∀ H', Nx1 H' → ∃ k', k' < k ∧ W1 (j + 1) k' H') ∧ ∀ x H', J1.yld j H x H' → g1 x (wipe σ2 vs1) H' fun σ3 H5 => wipe σ3 vs1 = wipe σ2 vs1 ∧ tt1 σ3 H5 fun b H6 =>
        if b = true then te σ3 H6 fun y H7 => ∃ acc, H7 D = some (.lst acc) ∧ acc.length < sizeLine ∧ Nx1 (upd H7 D (.lst (acc ++ [y]))) else Nx1 H6)
theorem in2_it {J : It} {n : Nat} {G : Hp → Prop} {Y : Nat → Hp → V → Hp → Prop} (wk : Walk J n G Y) {g : TG} {tt : TT} {te : TE} {vs : List Nat} {σ : L2.St} {H1 : Hp} {D : Addr} {Nx : Hp → Prop} (Pv : Nat → Hp → Prop) (h0 : Pv 0 H1) (hG : ∀ i H, i ≤ n → Pv i H → G H)
    (hs : ∀ i x H H', i < n → Pv i H → Y i H x H' → g x (wipe σ vs) H' fun σ2 H2 => wipe σ2 vs = wipe σ vs ∧ tt σ2 H2 fun b H3 =>
      if b = true then te σ2 H3 fun y H4 => ∃ acc, H4 D = some (.lst acc) ∧ acc.length < sizeLine ∧ Pv (i + 1) (upd H4 D (.lst (acc ++ [y]))) else Pv (i + 1) H3) (hd : ∀ H, Pv n H → Nx H) : In2 J g tt te vs D σ H1 Nx := by
  refine ⟨fun i left H => i + left = n ∧ Pv i H, ⟨n, Nat.zero_add n, h0⟩, fun i left H ⟨sum, pv⟩ => ?_⟩
  have good := hG i H (by omega) pv
  cases left with
  | zero =>
    have last : i = n := sum
    subst last
    exact .inl ⟨wk.stops H good, hd H pv⟩
  | succ left =>
    have below : i < n := by omega
    exact .inr ⟨wk.goes i H below good, Pv (i + 1), fun H' pv' => ⟨left, Nat.lt_succ_self _, by omega, pv'⟩, fun x H' y => hs i x H H' below pv (wk.yields i H x H' below good y)⟩
theorem lc2_it {J : It} {n : Nat} {G : Hp → Prop} {Y : Nat → Hp → V → Hp → Prop} (wk : Walk J n G Y) {g g1 : TG} {tt tt1 : TT} {wi1 : TI} {te : TE} {vs vs1 : List Nat} {σ : L2.St} {H1 : Hp} {D : Addr} {Qd : Hp → Prop} (Pv : Nat → Hp → Prop) (h0 : Pv 0 (upd H1 D (.lst []))) (hG : ∀ i H, i ≤ n → Pv i H → G H)
    (hs : ∀ i x H H', i < n → Pv i H → Y i H x H' → g x (wipe σ vs) H' fun σ2 H2 => wipe σ2 vs = wipe σ vs ∧ tt σ2 H2 fun b H3 => if b = true then wi1 σ2 H3 fun J1 H4 => In2 J1 g1 tt1 te vs1 D σ2 H4 (Pv (i + 1)) else Pv (i + 1) H3) (hd : ∀ H, Pv n H → Qd H) :
    ∃ W : Nat → Nat → Hp → Prop, (∃ m, W 0 m (upd H1 D (.lst []))) ∧ ∀ i m H, W i m H →
      (J.stop i H ∧ Qd H) ∨ (J.go i H ∧ ∃ Nx : Hp → Prop, (∀ H', Nx H' → ∃ m', m' < m ∧ W (i + 1) m' H') ∧ ∀ x H', J.yld i H x H' → g x (wipe σ vs) H' fun σ2 H2 => wipe σ2 vs = wipe σ vs ∧ tt σ2 H2 fun b H3 => if b = true then wi1 σ2 H3 fun J1 H4 => In2 J1 g1 tt1 te vs1 D σ2 H4 Nx else Nx H3) := by
  refine ⟨fun i left H => i + left = n ∧ Pv i H, ⟨n, Nat.zero_add n, h0⟩, fun i left H ⟨sum, pv⟩ => ?_⟩
  have good := hG i H (by omega) pv
  cases left with
  | zero =>
    have last : i = n := sum
    subst last
    exact .inl ⟨wk.stops H good, hd H pv⟩
  | succ left =>
    have below : i < n := by omega
    exact .inr ⟨wk.goes i H below good, Pv (i + 1), fun H' pv' => ⟨left, Nat.lt_succ_self _, by omega, pv'⟩, fun x H' y => hs i x H H' below pv (wk.yields i H x H' below good y)⟩
end RM

namespace RM
open PySem PySem.Spec PyProof.Rows L2
section
variable {X : Cx}
/-- keys of the one, each with the same data in the other -/
def SameD (K : PySem.W.Frag) (H : Hp) (ks ls : List (Key × V)) : Prop := ∀ p ∈ ks, ∃ u d, valV ls p.1 = some u ∧ Dp K H p.2 d ∧ Dp K H u d ∧ d.canLay0 = true ∧ d.depth ≤ 60
theorem hits_data {pins : List (Addr × Obj)} {σ : L2.St} {H : Hp} {s : Shared} (J : Inv X pins σ H s) {A : Around} (hu : A.units + 60 < cLine) {ls : List (Key × V)} {vb : List (Key × Value)} (rb : KV ls vb) {ks : List (Key × V)} {va : List (Key × Value)} (ra : KV ks va) : SameD X.K H ks ls → PySem.W.KeqHits A s vb va true := by
  unfold KV at ra
  induction ra with
  | nil => exact fun _ => .nil
  | @cons p q ps qs h t ih =>
    intro hp
    obtain ⟨k1, k2⟩ := h
    obtain ⟨u, d, e, d1, d2, can, dep⟩ := hp p List.mem_cons_self
    have found : RelO (some u) (valueAt vb p.1) := by rw [← e]; exact rb.val p.1
    obtain ⟨y, hy, ry⟩ := found.some_of
    obtain ⟨key, v⟩ := q
    have k1' : p.1 = key := k1
    rw [k1'] at hy
    obtain ⟨as, r1⟩ := Dp.reads J d p.2 v d1 k2
    obtain ⟨bs, r2⟩ := Dp.reads J d u y d2 ry
    have eq := SeqAt.eqAt_reads d d A s v y as bs r1 r2 can can (by rw [Nat.min_self]; omega)
    rw [SeqAt.eqv_refl d can] at eq
    show PySem.W.KeqHits A s vb ((key, v) :: qs) (true && true)
    exact .hit hy eq (ih fun p' hm => hp p' (List.mem_cons_of_mem _ hm))
def rNeDD (K : PySem.W.Frag) : R2 := fun x y H Q => ((x = .non ∧ y = .non) ∨ ∃ a b ks ls, x = .ref a ∧ y = .ref b ∧ H a = some (.dK ks) ∧ H b = some (.dK ls) ∧ ks.length = ls.length ∧ SameD K H ks ls) ∧ Q (.bl false) H
theorem op_neDD (hu : X.A.units + 64 < cLine) : OpR X (compareOp .NotEq) (rNeDD X.K) := by
  intro pins s σ H x y v u Q J rx ry h
  obtain ⟨⟨rfl, rfl⟩ | ⟨a, b, ks, ls, rfl, rfl, ea, eb, hlen, hp⟩, q⟩ := h
  · exact op_ne pins s σ H .non .non v u Q J rx ry ⟨rfl, q⟩
  · obtain rfl : v = Value.ref a := rx
    obtain rfl : u = Value.ref b := ry
    obtain ⟨_, ya, va, ra, da⟩ := (show ObjOk X.prog X.w H s.heap a (.dK ks) from J.hok a _ ea)
    obtain ⟨_, yb, vb, rb, db⟩ := (show ObjOk X.prog X.w H s.heap b (.dK ls) from J.hok b _ eb)
    have size : va.length = vb.length := by rw [← ra.length, ← rb.length]; exact hlen
    refine PySem.W.keq_ne (knd := mixKind X.prog X.w) (r := true) ya yb da db (by omega) (fun _ => hits_data J (by show X.A.units + 1 + 60 < cLine; omega) rb ra hp) ?_
    refine ⟨.bl false, H, J, ?_, q⟩
    show Value.bool _ = Value.bool false
    rw [size]
    simp
theorem cr_sortedK {K : PySem.W.Frag} (e : X.K = K) : CallR X (.builtin "sorted") (rSortedS K) := by
  subst e
  exact cr_sortedS
theorem op_inDK {K : PySem.W.Frag} (e : X.K = K) (hu : X.A.units + 65 < cLine) : OpR X (compareOp .In) (rInD K) := by
  subst e
  exact op_inD hu
theorem op_catK {K : PySem.W.Frag} (e : X.K = K) {r : PySem.W.Frag → R2} {f : Value → Value → Sem Value} (h : OpR X f (r X.K)) : OpR X f (r K) := by
  subst e
  exact h
end
end RM

/-! rules of my own: letters for the written part, sorted of data -/
namespace BR
open PySem PySem.Spec PyProof.Rows L2
theorem room_gen {k : Nat} {A : Around} (hr : Room (k + 3) A) (env : Env) : Room k (A.in1.in1.deeper env) := ((hr.in1).in1).deeper env
section
variable {X : Cx}
theorem ix_tupK {K : PySem.W.Frag} (e : X.K = K) : IxR X (rIxT K) := by
  subst e
  exact ix_tup
theorem ix_lstK {K : PySem.W.Frag} (e : X.K = K) : IxR X (rIxL K) := by
  subst e
  exact ix_list
theorem pi_listK {tg l : Expr} {tl : TE} {K : PySem.W.Frag} (e : X.K = K) (hl : PE X l tl) : PI X tg l (iList K tl) := by
  subst e
  exact pi_list hl
theorem pa_starK {e : Expr} {es : List Expr} {te : TE} {t : TA} {p : Pos} {K : PySem.W.Frag} (eK : X.K = K) (he : PE X e te) (hr : PA X es t) (hs : starEach (.Starred e p :: es) X.env = (true, eval e X.env) :: starEach es X.env := by rfl) : PA X (.Starred e p :: es) (StX.tStar K te t) := by
  subst eK
  exact StX.pa_star he hr hs
theorem op_notInK {K : PySem.W.Frag} (e : X.K = K) : OpR X (compareOp .NotIn) (rIn K true) := by
  subst e
  exact op_notIn_seq
theorem pg_tupK {K : PySem.W.Frag} {es : List Expr} {k : Nat} {t : TGs} {n : Nat} {pos : Pos} (eK : X.K = K) (h : PG X (.Tuple es k pos) (gTup X.K n t)) : PG X (.Tuple es k pos) (gTup K n t) := by
  subst eK
  exact h
theorem sl_listK {K : PySem.W.Frag} {r : PySem.W.Frag → V → Option Int → Option Int → Hp → VK → Prop} (eK : X.K = K) (h : SlR X (r X.K)) : SlR X (r K) := by
  subst eK
  exact h
theorem mt_K {K : PySem.W.Frag} {id : String} {r : PySem.W.Frag → V → List V → Hp → VK → Prop} (eK : X.K = K) (h : MtR X id (r X.K)) : MtR X id (r K) := by
  subst eK
  exact h
theorem cr_K {K : PySem.W.Frag} {f : Value} {r : PySem.W.Frag → List V → Hp → VK → Prop} (eK : X.K = K) (h : CallR X f (r X.K)) : CallR X f (r K) := by
  subst eK
  exact h
/-! ### sorted(list of data) -/
abbrev VD := V × PyData
def sortD (bs : List VD) : List VD := bs.mergeSort (PySem.W.dataLe false (·.2))
def rSortedD (K : PySem.W.Frag) : List V → Hp → VK → Prop := fun vs H Q => ∃ (a : Addr) (bs : List VD), vs = [V.ref a] ∧ SqL K H a (bs.map (·.1)) ∧ (∀ b ∈ bs, Dp K H b.1 b.2 ∧ b.2.depth ≤ 60) ∧ PySem.W.AllAlike (bs.map (·.2)) ∧ PySem.W.Sortable (bs.map (·.2)) ∧
  ∀ p, H p = none → Q (.ref p) (upd H p (.lst ((sortD bs).map (·.1))))
theorem each_of_vals : ∀ {bs : List VD} {us : List Value}, Vals (bs.map (·.1)) us → PySem.W.EachIs (fun v (b : VD) => RelV b.1 v) us bs
  | [], _, r => by
    cases r
    exact .nil
  | b :: bs, _, r => by
    cases r with
    | cons h t => exact .cons h (each_of_vals t)
theorem vals_of_each : ∀ {bs : List VD} {us : List Value}, PySem.W.EachIs (fun v (b : VD) => RelV b.1 v) us bs → Vals (bs.map (·.1)) us
  | _, _, .nil => .nil
  | _, _, .cons h t => .cons h (vals_of_each t)
theorem cr_sortedD (hu : X.A.units + 64 < cLine) : CallR X (.builtin "sorted") (rSortedD X.K) := by
  intro pins s σ H vs us Q I r h
  obtain ⟨a, bs, rfl, hs, hd, hal, hso, q⟩ := h
  obtain ⟨its, rv, hl, hz⟩ := I.list hs
  obtain ⟨u, rfl, ru⟩ := vals1 r
  obtain rfl : u = Value.ref a := ru
  have e := each_of_vals rv
  have er : PySem.W.EachIs (fun v (b : VD) => ∃ as, Reads s.heap v b.2 as) its bs := (PySem.W.each_mem e).mono fun v b ⟨r, hb⟩ => Dp.reads I b.2 b.1 v (hd b hb).1 r
  refine PySem.W.sorted_data (R := fun v (b : VD) => RelV b.1 v) (enc := (·.2)) hl.isList e er hal hso (by rw [List.length_map] at hz; exact hz) (fun b hb => by have := (hd b hb).2; omega) fun out hlen eo => ?_
  obtain ⟨n, hn⟩ := sortedAll_at s.heap its out.toArray
  refine ⟨.ref (s.heap.objs.size + 1), upd H (s.heap.objs.size + 1) (.lst ((sortD bs).map (·.1))), I.laid (t' := s.toks) (fun _ _ => sortedAll_old) (Nat.le_succ _) ⟨?_, out, n, vals_of_each eo, ?_⟩, rfl, q _ (I.hok.fresh (Nat.le_succ _))⟩
  · rw [List.length_map]
    show (List.mergeSort bs _).length ≤ _
    rw [List.length_mergeSort]
    rw [List.length_map] at hz
    exact hz
  · exact hn
end
end BR
namespace Bn
open PySem PySem.Spec PyProof.Rows L2 BR GX
theorem _root_.GX.SameN.new {Ps : List Addr} {H H' : Hp} {p : Addr} {o : HO} (s : SameN Ps H H') (n : H' p = none) : SameN Ps H (upd H' p o) := s.trans (SameN.of s.t (same_new n))
theorem _root_.GX.SameN.own {Ps : List Addr} {H H' : Hp} {p : Addr} {o u : HO} (s : SameN Ps H H') (n : H p = none) (e : H' p = some u) (hu : NT u) : SameN Ps H (upd H' p o) := by
  refine ⟨fun x y nt h => ?_, fun x q h => ?_, fun P hP => ?_⟩
  · rw [upd_ne (ne_of_none h n)]
    exact s.k _ _ nt h
  · rw [upd_ne (ne_of_none h n)]
    exact s.q _ _ h
  · obtain ⟨ps, h1, h2⟩ := s.t P hP
    refine ⟨ps, ?_, h2⟩
    rw [upd_ne (ne_of h1 e fun z => hu ps (by rw [← z]))]
    exact h1
theorem _root_.GX.SameN.kb {Ps : List Addr} {b : Addr} {H0 H H' : Hp} (s : SameN Ps H0 H) (nb : H0 b = none) (hb : Bx H b) (k : Kb b H H') : SameN Ps H0 H' := by
  refine ⟨fun x y n e => k.k _ _ (ne_of_none e nb) (s.k x y n e), fun x p e => ?_, fun P hP => ?_⟩
  · obtain ⟨p', e'⟩ := s.q x p e
    exact ⟨p', k.k _ _ (ne_of_none e nb) e'⟩
  · obtain ⟨ps, e, h⟩ := s.t P hP
    exact ⟨ps, k.k _ _ (ne_bx hb e (fun _ _ _ z => by cases z)) e, h⟩
theorem _root_.GX.SameN.same {Ps : List Addr} {H0 H H' : Hp} (s : SameN Ps H0 H) (k : Same H H') : SameN Ps H0 H' := s.trans (SameN.of s.t k)
theorem rd_sameN {Ps : List Addr} {H H' : Hp} {a : Addr} {v : HO} (h : Rd H a v) (hv : NT v) (s : SameN Ps H H') : Rd H' a v := by
  rcases h with e | ⟨o, e⟩
  · exact .inl (s.k _ _ hv e)
  · exact .inr ⟨o, s.k _ _ nt_frz e⟩
theorem Same.unlock {H HX : Hp} {a : Addr} {u : HO} {o : Obj} (ha : H a = some u) (s : Same (upd H a (.frz o u)) HX) : Same H (upd HX a u) := fun x y e => by
  by_cases c : x = a
  · subst c
    rw [upd_same, ← ha]
    exact e
  · rw [upd_ne c]
    exact s _ _ (by rw [upd_ne c]; exact e)
end Bn

/-! sorted of whatever can be gathered, its items being data -/
namespace BR
open PySem PySem.Spec PyProof.Rows L2
theorem my_sorted {prog : Program} {w : World} {A : Around} {E : Value → Shared → Prop} {s : Shared} {v : Value} {Q : Value → Shared → Prop}
    (got : wpAny (model prog w) A.in1 (collect v) (fun us s1 => ∃ bs : List VD, PySem.W.EachIs (fun v (b : VD) => RelV b.1 v) us bs ∧ PySem.W.EachIs (fun v (b : VD) => ∃ as, Reads s1.heap v b.2 as) us bs ∧ PySem.W.AllAlike (bs.map (·.2)) ∧ PySem.W.Sortable (bs.map (·.2)) ∧ bs.length ≤ sizeLine ∧
      (∀ b ∈ bs, A.units + 2 + b.2.depth < cLine) ∧ ∀ out h' n, PySem.W.EachIs (fun v (b : VD) => RelV b.1 v) out (sortD bs) → (∀ b o, s1.heap.get? b = some o → h'.get? b = some o) → h'.get? s1.heap.objs.size = some (seqObj "list" out.toArray n) → Q (.ref s1.heap.objs.size) { s1 with heap := h' }) E s) :
    wpAny (model prog w) A (call (.builtin "sorted") [v]) Q E s := by
  refine call_function_entry_kw kind_sorted plain_sorted entry_sorted (args_sorted1 _) ?_
  unfold Builtin.«sorted»
  refine wpAny_bind (m := checkCount "sorted" 1 1 _) (wpAny_pure ?_)
  refine wpAny_bind (wpAny_mono got (fun us s1 h1 => ?_) fun _ _ e => e)
  obtain ⟨bs, e1, e2, hal, hso, hL, hu, q⟩ := h1
  have hlen : us.length ≤ sizeLine := by rw [e1.length]; exact hL
  refine wpAny_bind (wpAny_newList ?_ hlen)
  have at1 : (s1.heap.push (seqObj "list" us.toArray 0)).get? s1.heap.objs.size = some (seqObj "list" us.toArray 0) := Heap.get?_push_size _ rfl
  have old1 : ∀ b o, s1.heap.get? b = some o → (s1.heap.push (seqObj "list" us.toArray 0)).get? b = some o := fun b o e => Heap.get?_push_of_some _ e
  refine wpAny_bind (wpAny_holding (wpAny_call_entry_kw slot_list_sort ⟨_, at1, rfl⟩ entry_list_sort ?_ (args_list_sort _)))
  have er' : PySem.W.EachIs (fun v (b : VD) => ∃ as, Reads (PySem.W.sortingHeap (s1.heap.push (seqObj "list" us.toArray 0)) s1.heap.objs.size us) v b.2 as) us bs := e2.mono fun _ _ ⟨as, r⟩ => ⟨as, PyProof.Rows.Reads.keeps (fun b o h => PySem.W.sortingHeap_old (Nat.ne_of_lt (Heap.lt_size h)) (old1 b o h)) r⟩
  refine PySem.W.list_sort_vals (κ := PySem.W.dataKind (PySem.W.sortingHeap (s1.heap.push (seqObj "list" us.toArray 0)) s1.heap.objs.size us) (bs.map (·.2))) (A := A.in1.in1) at1 (PySem.W.SortsAt.data (s := { s1 with heap := PySem.W.sortingHeap (s1.heap.push (seqObj "list" us.toArray 0)) s1.heap.objs.size us }) (PySem.W.each_map (R := fun v d => ∃ as, Reads (PySem.W.sortingHeap (s1.heap.push (seqObj "list" us.toArray 0)) s1.heap.objs.size us) v d as) (fun b : VD => b.2) er') hal hso ?_) hlen ?_
  · intro d hd
    obtain ⟨b, hb, rfl⟩ := List.mem_map.mp hd
    exact hu b hb
  · obtain ⟨n, hn⟩ := sortedHeap_at (out := (PySem.W.sortVals (PySem.W.dataKind (PySem.W.sortingHeap (s1.heap.push (seqObj "list" us.toArray 0)) s1.heap.objs.size us) (bs.map (·.2))) false us us).toArray) at1
    refine ⟨_, rfl, wpAny_pure ⟨_, rfl, ?_⟩⟩
    refine q (PySem.W.sortVals (PySem.W.dataKind (PySem.W.sortingHeap (s1.heap.push (seqObj "list" us.toArray 0)) s1.heap.objs.size us) (bs.map (·.2))) false us us) _ n (PySem.W.sortVals_data (enc := fun b : VD => b.2) false e1 er' hal) (fun b o h => ?_) hn
    exact (sortedHeap_old (Nat.ne_of_lt (Heap.lt_size h)) (Heap.lt_size (old1 b o h))).trans (old1 b o h)
section
variable {X : Cx}
/-- sorted(x), x a list or a tuple of data -/
def rSortedDT (K : PySem.W.Frag) : List V → Hp → VK → Prop := fun vs H Q => ∃ (a : Addr) (bs : List VD), vs = [V.ref a] ∧ (SqL K H a (bs.map (·.1)) ∨ SqT K H a (bs.map (·.1))) ∧ (∀ b ∈ bs, Dp K H b.1 b.2 ∧ b.2.depth ≤ 60) ∧ PySem.W.AllAlike (bs.map (·.2)) ∧ PySem.W.Sortable (bs.map (·.2)) ∧
  ∀ p, H p = none → Q (.ref p) (upd H p (.lst ((sortD bs).map (·.1))))
theorem cr_sortedDT (hu : X.A.units + 64 < cLine) : CallR X (.builtin "sorted") (rSortedDT X.K) := by
  intro pins s σ H vs us Q I r h
  obtain ⟨a, bs, rfl, hs, hd, hal, hso, q⟩ := h
  obtain ⟨u, rfl, ru⟩ := vals1 r
  obtain rfl : u = Value.ref a := ru
  have key : ∀ (T : String) (its : List Value) (o : Obj) (n : Nat), (T = "list" ∨ T = "tuple") → Vals (bs.map (·.1)) its → s.heap.get? a = some o → o.cls = .type T → o.data = .seq its.toArray n → (bs.map (·.1)).length ≤ sizeLine → wpAny (model X.prog X.w) X.A (call (.builtin "sorted") [Value.ref a]) (EP X pins σ Q) X.xe s := by
    intro T its o n hT rv ho hc hdd hz
    have hl := rv.length
    refine my_sorted (wpAny_collect_seq a hT ho hc hdd (fun h' hk => ?_) (by rw [List.size_toArray]; omega))
    have e : its.toArray.toList = its := by simp
    rw [e]
    have J : Inv X pins σ H { s with heap := h' } := I.kept (t' := s.toks) hk
    have e1 := each_of_vals rv
    refine ⟨bs, e1, (PySem.W.each_mem e1).mono fun v b ⟨r, hb⟩ => Dp.reads J b.2 b.1 v (hd b hb).1 r, hal, hso, by rw [List.length_map] at hz; exact hz, fun b hb => by have := (hd b hb).2; omega, fun out h2 n2 eo k2 hn => ?_⟩
    refine ⟨.ref h'.objs.size, upd H h'.objs.size (.lst ((sortD bs).map (·.1))), J.laid (t' := s.toks) k2 (Nat.le_refl _) ⟨?_, out, n2, vals_of_each eo, hn⟩, rfl, q _ (J.hok.fresh (Nat.le_refl _))⟩
    rw [List.length_map]
    show (List.mergeSort bs _).length ≤ _
    rw [List.length_mergeSort]
    rw [List.length_map] at hz
    exact hz
  rcases hs with hs | hs
  · obtain ⟨its, rv, pl, hz⟩ := I.list hs
    obtain ⟨o, ho, hc, n, hdd⟩ := pl.isList
    exact key "list" its o n (.inl rfl) rv ho hc hdd hz
  · obtain ⟨its, rv, pl, hz⟩ := I.tuple hs
    obtain ⟨o, ho, hc, n, hdd⟩ := pl
    exact key "tuple" its o n (.inr rfl) rv ho hc hdd hz
end
end BR

/-! enumerate(tuple) walked -/
namespace PySem
open PySem.Calls
theorem my_enumNew {v : Value} {o : Obj} {H : Heap → Prop} (B : Begins v o H) :
    Meets (Builtin.«enumerate.__new__» ⟨[.type "enumerate", v], []⟩) (fun _ R s => H s.heap ∧
      R (.ok (.ret (.ref (s.heap.push o).objs.size))) { s with heap := (s.heap.push o).push { cls := .type "enumerate", data := .fields #[.none, .bool false, .ref s.heap.objs.size, rawInt 0, .none, .none] } }) :=
  .of_wp fun prog w A R s h => by
    obtain ⟨hp, g, d, tk, os⟩ := s
    obtain ⟨at0, h⟩ := h
    have subE := sub_enumerate
    have goI : ∀ {A' : Around} {E : Value → Shared → Prop} {Q : Value → Shared → Prop}, Q (.ref hp.objs.size) ⟨hp.push o, g, d, tk, os⟩ → wpAny (model prog w) A' (pyIter v) Q E ⟨hp, g, d, tk, os⟩ :=
      fun q => B.iter prog w _ _ ⟨hp, g, d, tk, os⟩ _ at0 q
    wp_walk using goI
    refine wpAny_stack_any fun st => wpAny_pure ?_
    split
    · rename_i c _ _ _ _ _
      cases (c == Value.type "enumerate")
      · wp_walk using goI
        exact ⟨_, rfl, h⟩
      · wp_walk using goI
        exact ⟨_, rfl, h⟩
    · wp_walk using goI
      exact ⟨_, rfl, h⟩
theorem my_enumCall {prog : Program} {w : World} {A : Around} {E : Value → Shared → Prop} {s : Shared} {v : Value} {o : Obj} {H : Heap → Prop} {Q : Value → Shared → Prop} (B : Begins v o H) (at0 : H s.heap)
    (h : ∀ h', IsEnum h' (s.heap.objs.size + 1) s.heap.objs.size 0 .none → h'.get? s.heap.objs.size = some o →
      (∀ b o, s.heap.get? b = some o → h'.get? b = some o) → Q (.ref (s.heap.objs.size + 1)) { s with heap := h' }) :
    wpAny (model prog w) A (call (.type "enumerate") [v]) Q E s := by
  refine callType_new F.called_enumerate (by decide) (F.typeCall_enumerate_1 _) (F.newCall_enumerate_1 _) (fun obj => F.args_object_init_2 obj _) F.entry_enumerate_new
    (my_enumNew B) ⟨at0, ?_⟩
  have zs : (s.heap.push o).objs.size = s.heap.objs.size + 1 := Heap.size_push ..
  show _ ∧ _
  rw [zs]
  have isE : IsEnum ((s.heap.push o).push { cls := .type "enumerate", data := .fields #[.none, .bool false, .ref s.heap.objs.size, rawInt 0, .none, .none] }) (s.heap.objs.size + 1) s.heap.objs.size 0 .none := by
    have := Heap.get?_push_size (s.heap.push o) (o := { cls := .type "enumerate", data := .fields #[.none, .bool false, .ref s.heap.objs.size, rawInt 0, .none, .none] }) rfl
    rw [zs] at this
    exact this
  exact ⟨⟨_, isE, rfl⟩, h _ isE (Heap.get?_push_of_some _ (Heap.get?_push_size _ B.free)) fun b o x => Heap.get?_push_of_some _ (Heap.get?_push_of_some _ x)⟩
end PySem
namespace RM
open PySem PySem.Spec PyProof.Rows L2
/-- a tuple at a, its items in fits pairs with their numbers -/
def IteT (K : PySem.W.Frag) (a : Addr) (xs : List V) : It where
  go := fun i H => SqT K H a xs ∧ i < xs.length
  yld := fun i H v H' => ∃ T x, v = .ref T ∧ H T = none ∧ H' = upd H T (.tup [.int (i : Nat), x]) ∧ xs[i]? = some x
  stop := fun i H => SqT K H a xs ∧ i = xs.length
theorem turn_enumT {P : Program} {w : World} {K : PySem.W.Frag} {elts : List Expr} {kk : Nat} {tpos : Pos} {a e it : Addr} {xs : List V} (na : a ≠ it) (nae : e ≠ a) :
    Turn P w K (.Tuple elts kk tpos) (IteT K a xs) [e, it] e (fun i h => (∃ was, IsEnum h e it ((i : Nat) : Int) was) ∧ h.IsTupleIter it a i ∧ e ≠ it) where
  mem := by simp
  obj := fun i h st b inB => by
    obtain ⟨⟨was, isE⟩, ⟨o, outE, calm, hd⟩, _⟩ := st
    have two : b = e ∨ b = it := by simpa using inB
    rcases two with z | z
    · rw [z]; exact ⟨_, isE, fun v q => nomatch q⟩
    · rw [z]; exact ⟨o, outE, fun v q => by rw [hd] at q; cases q⟩
  keep := fun i h h' st k => let ⟨⟨was, isE⟩, hi, apart⟩ := st; ⟨⟨was, k e (by simp) _ isE⟩, hi.at fun o q => k it (by simp) o q, apart⟩
  item := by
    intro X eP eW eK calm i pins s σ H E J foot st stands
    subst eP eW eK
    obtain ⟨⟨was, isE⟩, isI, apart⟩ := st
    obtain ⟨qt, hlt⟩ := stands
    obtain ⟨its, rels, p, szl⟩ := J.tuple qt
    have getX : xs[i]? = some xs[i] := List.getElem?_eq_getElem hlt
    obtain ⟨u, getU, relU⟩ := rels.get getX
    have ltE : e < s.heap.objs.size := Heap.lt_size isE
    have ltI : it < s.heap.objs.size := by obtain ⟨_, q, _⟩ := isI; exact Heap.lt_size q
    have hnd : X.A.in1.handled = none := J.ok.hd calm
    have ltU : i < its.toArray.size := by rw [List.size_toArray, ← rels.length]; exact hlt
    refine wpAny_pyNext_enum_itemD (Draws.tuple hnd it a na its.toArray) isE ⟨isI, p⟩ ltU apart (fun z => by
      have two : e = it ∨ e = a := by simpa using z
      rcases two with z | z
      · exact apart z
      · exact nae z) fun v h' tk hv outE hst' pair1 szN same1 => ?_
    have hv2 : its[i]? = some v := by simpa using hv
    rw [getU] at hv2
    cases hv2
    refine ⟨_, rfl, wpAny_letOwnedTupleGo_enum (s := { s with heap := h', toks := tk + 1 }) outE fun hq2 he' sbut => ?_⟩
    have pairAt : hq2.get? s.heap.objs.size = some { cls := .type "tuple", data := .seq #[.int i tk, u] } := (sbut.2 _ (Nat.ne_of_gt ltE)).trans pair1
    have fits : ObjOk X.prog X.w (upd H s.heap.objs.size (.tup [.int (i : Nat), xs[i]])) hq2 s.heap.objs.size (.tup [.int (i : Nat), xs[i]]) :=
      ⟨by show 2 ≤ sizeLine; decide, [.int i tk, u], .cons ⟨_, rfl⟩ (.cons relU .nil), ⟨_, pairAt, rfl, _, rfl⟩⟩
    have J1 : Inv X pins σ (upd H s.heap.objs.size (.tup [.int (i : Nat), xs[i]])) { s with heap := hq2, toks := tk + 1 } :=
      J.turnedNew (ch := [e, it]) (fun b ob inB q => (sbut.2 b (fun z => inB (by simp [z]))).trans (same1 b ob (fun z => inB (by simp [z])) (fun z => inB (by simp [z])) q)) foot (Nat.le_refl _) fits
    refine ⟨.ref s.heap.objs.size, _, J1, rfl, ⟨_, xs[i], rfl, J.hok.fresh (Nat.le_refl _), rfl, getX⟩, ⟨⟨u, ?_⟩, hst'.1.at fun o q => (sbut.2 it (Ne.symm apart)).trans q, apart⟩, fun b inB => ?_⟩
    · have e1 : ((i + 1 : Nat) : Int) = (i : Int) + 1 := by omega
      rw [e1]; exact he'
    · have ltB : b < s.heap.objs.size := by
        have two : b = e ∨ b = it := by simpa using inB
        rcases two with z | z
        · rw [z]; exact ltE
        · rw [z]; exact ltI
      rw [upd_ne (Nat.ne_of_lt ltB)]
      exact (foot b inB).1
  done := by
    intro X eP eW eK calm i pins s σ H E J foot st stands
    subst eP eW eK
    obtain ⟨⟨was, isE⟩, isI, apart⟩ := st
    obtain ⟨qt, getX⟩ := stands
    obtain ⟨its, rels, p, szl⟩ := J.tuple qt
    obtain ⟨g0, g1, g2, g3, g4, g5⟩ := foot it (by simp)
    have hnd : X.A.in1.handled = none := J.ok.hd calm
    have many : its.toArray.size = xs.length := by rw [List.size_toArray, ← rels.length]
    subst getX
    refine wpAny_pyNext_enum_endD (Draws.tuple hnd it a na its.toArray) isE ⟨by rw [many]; exact isI, p⟩ fun h' eb => ⟨rfl, J.turned (t' := s.toks) (fun b o inB q => eb b o inB q) g0 g1 g3 g4 g5⟩
  self := fun A i s Q E st h => let ⟨⟨_, isE⟩, _⟩ := st; wpAny_pyIter_enum isE h
def iEnumT (K : PySem.W.Frag) (ta : TA) : TI := fun σ H R => ta σ H fun vs H1 => ∃ a xs, vs = [.ref a] ∧ SqT K H1 a xs ∧ R (IteT K a xs) H1
theorem pi_enumT {X : Cx} {e : Expr} {ta : TA} {p pos tpos : Pos} {elts : List Expr} {kk : Nat} (stands : Gl X "enumerate") (own1 : X.mg "enumerate" = none) (pArgs : PA X [e] ta) (stars : starEach [e] X.env = [(false, eval e X.env)] := by rfl) :
    PI X (.Tuple elts kk tpos) (.Call (.Name "enumerate" p) [e] [] pos) (iEnumT X.K ta) := by
  refine ⟨fun pins s σ H R J h => ?_⟩
  refine Call_ (ld_blt J stands own1 boot_enumerate (PyProof.Rows.callWith_type1 (thn (pArgs.run pos pins s σ H _ J h) fun us s1 ⟨vs, H1, J1, rel1, want1⟩ => ?_) stars rfl))
  obtain ⟨a, xs, eV, qt, q⟩ := want1
  subst eV
  cases rel1 with
  | cons r rr =>
    cases rr
    cases r
    obtain ⟨its, rels, isT, szl⟩ := J1.tuple qt
    have la : a < s1.heap.objs.size := Heap.lt_size isT.choose_spec.1
    refine my_enumCall (begins_tuple a its.toArray) isT fun h' isE isI same1 => wpAny_pyIter_enum isE ?_
    have J2 : Inv X pins σ H1 { s1 with heap := h' } := J1.kept (t' := s1.toks) same1
    refine ⟨s1.heap.objs.size + 1, [s1.heap.objs.size + 1, s1.heap.objs.size], _, _, H1, rfl, J2, turn_enumT (Nat.ne_of_lt la) (Nat.ne_of_gt (Nat.lt_succ_of_lt la)), ⟨⟨.none, isE⟩, ⟨_, isI, rfl, rfl⟩, Nat.succ_ne_self _⟩, fun b inB => ?_, q⟩
    have two : b = s1.heap.objs.size + 1 ∨ b = s1.heap.objs.size := by simpa using inB
    have hle : s1.heap.objs.size ≤ b := by
      rcases two with z | z
      · rw [z]; exact Nat.le_add_right _ _
      · rw [z]; exact Nat.le_refl _
    exact J1.fpOk hle (J1.hok.fresh hle)
theorem walk_enumT {K : PySem.W.Frag} {a : Addr} {xs : List V} : Walk (IteT K a xs) xs.length (fun H => SqT K H a xs) (YPair (fun i => some (.int (i : Nat))) (fun i => xs[i]?)) :=
  ⟨fun i H hi q => ⟨q, hi⟩, fun H q => ⟨q, rfl⟩, fun i H v H' _ q ⟨T, x, h1, h2, h3, h4⟩ => ⟨T, .int (i : Nat), x, h1, h2, h3, rfl, h4⟩⟩
end RM

/-! == of nested lists, tuples and dicts that are equal -/
namespace PySem.SeqAt
open AutoSeq1 (wpAny_loadPart')
open MeetsSeq MeetsSeq2 MeetsSeq3 SeqRoads2
section
variable {prog : Program} {w : World}
theorem my_tupEq (l b : Addr) (ul vs : Array Value) (n m : Nat) (du dv : Option Addr) (su sv : Array (Option Value)) (hz : ul.size = vs.size) :
    MeetsIn prog w (Builtin.«tuple.__eq__» ⟨[.ref l, .ref b], []⟩) (fun A R s =>
      s.heap.get? l = some { cls := .type "tuple", dict := du, data := .seq ul n, slots := su } ∧ s.heap.get? b = some { cls := .type "tuple", dict := dv, data := .seq vs m, slots := sv } ∧
      (∀ j (p : j < ul.size) (q : j < vs.size), EqP prog w A.in1 s ul[j] vs[j] true) ∧ R (.ok (.ret (.bool true))) s) := by
  intro A R s h
  obtain ⟨pr, g, d, tk, os⟩ := s
  obtain ⟨isL, isB, eqs, h⟩ := h
  have sub2 := AutoSeq1.sub_tuple_tuple
  have zl : (ul.toList.zip vs.toList).length = ul.size := by simp [hz]
  wp_walk using wpAny_loadPart' isL, wpAny_loadPart' isB, wpAny_forIn_list _ (fun rest b s' => b.1 = none ∧ s' = ⟨pr, g, d, tk, os⟩ ∧ ∃ i, rest = (ul.toList.zip vs.toList).drop i) _
  case turn =>
    rintro ⟨y, x⟩ rest b s' ⟨hb', rfl, i, left⟩
    have ltZ : i < (ul.toList.zip vs.toList).length := by
      rcases Nat.lt_or_ge i (ul.toList.zip vs.toList).length with h' | h'
      · exact h'
      · rw [List.drop_of_length_le h'] at left
        cases left
    have h1 : i < ul.size := by rw [← zl]; exact ltZ
    have h2 : i < vs.size := by rw [← hz]; exact h1
    rw [List.drop_eq_getElem_cons ltZ] at left
    injection left with two more
    have eY : y = ul[i] := by have := congrArg Prod.fst two; simpa using this
    have eX : x = vs[i] := by have := congrArg Prod.snd two; simpa using this
    subst eY eX
    refine wpAny_bind (eqs i h1 h2 _ _ ?_)
    wp_walk
    exact ⟨rfl, rfl, i + 1, more⟩
  case fin =>
    rintro ⟨b1, b2⟩ s' ⟨hb', rfl, i, left⟩
    simp only at hb'
    subst hb'
    wp_walk
    simpa [Builtin.Tuple.tupleCompareSizes, hz] using h
  case h => exact ⟨rfl, rfl, 0, rfl⟩
theorem my_rcTup {A : Around} {s : Shared} {l b : Addr} {ul vs : Array Value} (isL : s.heap.IsTuple l ul) (isB : s.heap.IsTuple b vs) (hz : ul.size = vs.size) (hu : A.units < cLine)
    (eqs : ∀ j (p : j < ul.size) (q : j < vs.size), EqP prog w A.in1 s ul[j] vs[j] true) (E Q : Value → Shared → Prop) (h : Q (.bool true) s) : wpAny (model prog w) A (richCompare .Eq (.ref l) (.ref b)) Q E s := by
  obtain ⟨⟨c1, du, x1, su⟩, atL, cL, n, dL⟩ := id isL
  obtain ⟨⟨c2, dv, x2, sv⟩, atB, cB, m, dB⟩ := id isB
  simp only at cL dL cB dB
  subst cL dL cB dB
  have tyL : s.TypeIs (.ref l) "tuple" := ⟨_, atL, rfl⟩
  have tyB : s.TypeIs (.ref b) "tuple" := ⟨_, atB, rfl⟩
  exact wpAny_richCompare_same_room (op := .Eq) tyL tyB F.slot_tuple_eq (call_meetsIn F.slot_tuple_eq tyL F.entry_tuple_eq (F.args_tuple_eq_2 _ _) (my_tupEq l b ul vs n m du dv su sv hz)
    ⟨atL, atB, eqs, show Value.bool true ≠ Value.notImplemented ∧ Q (.bool true) s from ⟨(fun x => nomatch x), h⟩⟩) hu
end
end PySem.SeqAt
namespace RM
open PySem PySem.Spec PyProof.Rows L2
/-- two lists, two tuples of equal items; two dicts of the same keys, their values equal -/
def EqS (K : PySem.W.Frag) (H : Hp) (E : V → V → Prop) (x y : V) : Prop := EqR K H E x y ∨ ∃ a b xs ys, x = .ref a ∧ y = .ref b ∧ SqT K H a xs ∧ SqT K H b ys ∧ Paired E xs ys
def EqN (K : PySem.W.Frag) (H : Hp) : Nat → V → V → Prop
  | 0 => fun _ _ => False
  | n + 1 => fun x y => (x = y ∧ flatB x = true) ∨ (∃ a, x = .ref a ∧ y = .ref a) ∨ EqS K H (EqN K H n) x y
section
variable {X : Cx} {pins : List (Addr × Obj)} {σ : L2.St} {H : Hp} {s : Shared}
theorem eqS_run (I : Inv X pins σ H s) {A : Around} {F : V → V → Prop} (hu : A.units < cLine) (below : ∀ x y v u, F x y → RelV x v → RelV y u → SeqAt.EqP X.prog X.w A.in1 s v u true) {x y : V} {v u : Value} (h : EqS X.K H F x y) (rx : RelV x v) (ry : RelV y u)
    (E Q : Value → Shared → Prop) (q : Q (.bool true) s) : wpAny (model X.prog X.w) A (richCompare .Eq v u) Q E s := by
  rcases h with h | ⟨a, b, xs, ys, rfl, rfl, ha, isB, pr⟩
  · exact eqR_run I hu below h rx ry E Q q
  · cases (show v = Value.ref a from rx)
    cases (show u = Value.ref b from ry)
    obtain ⟨ul, relX, tupX, _⟩ := I.tuple ha
    obtain ⟨wl, relY, tupY, _⟩ := I.tuple isB
    have sizes : ul.toArray.size = wl.toArray.size := by
      rw [List.size_toArray, List.size_toArray, ← relX.length, ← relY.length]
      exact Paired.length pr
    refine SeqAt.my_rcTup tupX tupY sizes hu (fun j h1 h2 => ?_) E Q q
    have k := items_run below pr relX relY j (by simpa using h1) (by simpa using h2)
    simpa using k
theorem eqN_run (I : Inv X pins σ H s) : ∀ (n : Nat) (A : Around), A.units + n < cLine → ∀ (x y : V) (v u : Value), EqN X.K H n x y → RelV x v → RelV y u → SeqAt.EqP X.prog X.w A s v u true
  | 0, _, _, _, _, _, _, h, _, _ => (show False from h).elim
  | n + 1, A, hu, x, y, v, u, h, rx, ry => by
    rcases h with ⟨rfl, f⟩ | ⟨a, rfl, rfl⟩ | h
    · exact (eqAt_same rx ry f).eqP
    · cases (show v = Value.ref a from rx)
      cases (show u = Value.ref a from ry)
      exact (SeqAt.EqAt.same _).eqP
    · have stp := eqS_run I (A := A) (by omega) (eqN_run I n A.in1 (by show A.units + 1 + n < cLine; omega)) h rx ry
      obtain ⟨a, b, rfl, rfl⟩ : ∃ a b, x = .ref a ∧ y = .ref b := by
        rcases h with (⟨a, b, _, _, e1, e2, _⟩ | ⟨a, b, _, _, e1, e2, _⟩) | ⟨a, b, _, _, e1, e2, _⟩
        · exact ⟨a, b, e1, e2⟩
        · exact ⟨a, b, e1, e2⟩
        · exact ⟨a, b, e1, e2⟩
      cases (show v = Value.ref a from rx)
      cases (show u = Value.ref b from ry)
      by_cases e : a = b
      · subst e
        exact (SeqAt.EqAt.same _).eqP
      · exact SeqAt.eqP_refs e stp
end
section
variable {X : Cx}
/-- a == b, two lists, tuples or dicts that are equal -/
def rEqN (K : PySem.W.Frag) : R2 := fun x y H Q => ∃ n, n ≤ 60 ∧ EqS K H (EqN K H n) x y ∧ Q (.bl true) H
theorem op_eqN (hu : X.A.units + 64 < cLine) : OpR X (compareOp .Eq) (rEqN X.K) := by
  intro pins s σ H x y v u Q I rx ry h
  obtain ⟨n, hn, h, q⟩ := h
  exact eqS_run I (A := X.A) (by omega) (eqN_run I n X.A.in1 (by show X.A.units + 1 + n < cLine; omega)) h rx ry _ _ ⟨.bl true, H, I, rfl, q⟩
end
end RM

/-! sorted(d.items()), d a dict from texts to texts; data of tuples alone -/
namespace BR
open PySem PySem.Spec PyProof.Rows L2 LiI
section
variable {X : Cx} {e : Expr} {te : TE} {p apos cpos pos : Pos}
theorem tups_laid {pins : List (Addr × Obj)} {σ : L2.St} {H : Hp} {s : Shared} {h' : Heap} {tk : Nat} {kvs : List (Key × V)} {vs : List (Key × Value)} {as : List Addr} (J : Inv X pins σ H s) (kv : KV kvs vs) (up : ∀ b o, s.heap.get? b = some o → h'.get? b = some o) (many : as.length = vs.length) (G : PySem.W.KdxG (mixKind X.prog X.w) vs s.heap.objs.size h' as) :
    ∃ H' : Hp, (∀ b o, H b = some o → H' b = some o) ∧ (∀ t ∈ as, H t = none) ∧ Paired (fun (t : Addr) (q : Key × V) => H' t = some (.tup [kV q.1, q.2])) as kvs ∧ Inv X pins σ H' { s with heap := h', toks := tk } := by
  have lk : kvs.length = vs.length := Paired.length kv
  have nod : as.Nodup := List.Pairwise.imp (fun {a b} (h : a < b) => Nat.ne_of_lt h) G.rise
  have young : ∀ t ∈ as, H t = none := fun t ht => J.hok.fresh (Nat.le_of_lt (G.above t ht))
  have here := putT_at as kvs H (by omega) nod
  have away : ∀ b, b ∉ as → putT H as kvs b = H b := fun b h1 => putT_off as kvs _ h1
  have stay : ∀ b u, H b = some u → putT H as kvs b = some u := fun b u e => by
    rw [away b fun z => by rw [young b z] at e; cases e]
    exact e
  refine ⟨putT H as kvs, stay, young, here, ?_⟩
  refine J.call' (ch := []) rfl ⟨fun b o q _ _ _ => up b o q, fun b o q _ _ _ => ⟨o.slots, up b o q⟩, fun b o q n _ => ?_, fun b o q _ => ⟨o, up b o q⟩, fun b xs q => stay b _ q, fun b o u q => stay b _ q, fun b ps q => ⟨#[], by rw [stay b _ q]; simp⟩⟩ (fun b u q => ?_) J.bare fun b z => by simp at z
  · rw [away b fun z => absurd (Heap.lt_size q) (Nat.not_lt.mpr (Nat.le_of_lt (G.above b z)))]
    exact n
  · by_cases inAs : b ∈ as
    · obtain ⟨j, pk, e1, e2, e3⟩ := paired_ix here inAs
      rw [e3] at q
      cases q
      obtain ⟨key, k, x, f1, f2, f3⟩ := G.pairs j b e1
      obtain ⟨qv, g1, g2, g3⟩ := LiI.paired_get kv e2
      rw [f1] at g1
      cases g1
      have rk : RelV (kV pk.1) key := by
        rw [g2]
        exact relV_key (show keyIs k key = true from f2)
      exact ⟨by show 2 ≤ sizeLine; decide, [key, x], .cons rk (.cons g3 .nil), ⟨_, f3, rfl, _, rfl⟩⟩
    · rw [away b inAs] at q
      exact (J.hok b u q).stay (fun d v _ y => up d v y) (fun d y => stay d _ y) fun d xs y => stay d _ y
abbrev SS := List (Str × Str)
abbrev kvSS (ms : SS) : List (Key × V) := ms.map fun m => (.inr m.1, .str m.2)
abbrev Tss (H : Hp) (ts : List Addr) (ms : SS) : Prop := Paired (fun t m => H t = some (.tup [.str (m : Str × Str).1, .str m.2])) ts ms
def tSortedItems (te : TE) : TE := fun σ H Q => te σ H fun x H1 => ∃ (d : Addr) (ms : SS), x = .ref d ∧ H1 d = some (.dK (kvSS ms)) ∧
  ∀ (H' : Hp) (p : Addr) (ts : List Addr) (ms' : SS), (∀ b o, H1 b = some o → H' b = some o) → H1 p = none → H' p = some (.lst (ts.map V.ref)) → Tss H' ts ms' → ms'.Perm ms → Q (.ref p) H'
theorem alike_ss (a b : Str × Str) : PySem.W.alike (.tuple [.str a.1, .str a.2]) (.tuple [.str b.1, .str b.2]) = true := rfl
theorem pe_sortedItems (hr : X.A.units + 64 < cLine) (hc : X.calm = true) (he : PE X e te) (hg : Gl X "sorted") (hm : X.mg "sorted" = none) (hbase : attributeBase e "items" X.env (eval e X.env) = eval e X.env := by rfl) (hline : (apos.endLine == cpos.line) = true := by rfl)
    (hs : starEach [.Call (.Attribute e "items" apos) [] [] cpos] X.env = (false, eval (.Call (.Attribute e "items" apos) [] [] cpos) X.env) :: starEach [] X.env := by rfl) :
    PE X (.Call (.Name "sorted" p) [.Call (.Attribute e "items" apos) [] [] cpos] [] pos) (tSortedItems te) := by
  refine ⟨fun pins s σ H Q J hq => ?_⟩
  refine wpAny_Call_Name_kw (ld_blt J hg hm (by decide +kernel : bootBuiltins "sorted" = some (.builtin "sorted")) ?_)
  refine PyProof.Rows.callWith_builtin1 ?_ hs (by rfl)
  rw [hs]
  show wpAny _ _ (spliced ((false, eval (.Call (.Attribute e "items" apos) [] [] cpos) X.env) :: backTo pos (starEach [] X.env))) _ _ s
  refine Calls.spliced_cons ?_
  refine wpAny_Call_method (T := "dict") (id := "dict.items") hbase rfl hline F.plainAttrs_dict F.slot_dict_items F.type_dict_items (thn (he.run pins s σ H _ J hq) fun u s1 ⟨x, H1, J1, rx, d, ms, ex, hd, q⟩ => ?_)
  subst ex
  obtain rfl : u = Value.ref d := rx
  obtain ⟨size, off0, vs, kv, isD⟩ := J1.hok d _ hd
  obtain ⟨ep, hat⟩ := isD.dictAt
  have lk : (kvSS ms).length = vs.length := Paired.length kv
  have J2 : Inv X pins σ H1 { s1 with heap := s1.heap.push { cls := .type "dict_items", data := .fields #[.ref d] } } := J1.kept (t' := s1.toks) fun b ob q => Heap.get?_push_of_some _ q
  refine ⟨isD.typeIs, isD.mapOf.noDict, ?_⟩
  show wpAny _ _ (callWith cpos (.builtin "dict.items") [.ref d] [] []) _ X.xe s1
  refine method_meetsIn F.slot_dict_items F.entry_dict_items rfl (PySem.evalArgs_none ⟨rfl, isD.typeIs, F.args_dict_items_1 _, _, meets_dict_items (mixKind X.prog X.w) d off0, ⟨vs, isD⟩, ?_⟩)
  refine Calls.spliced_nil ?_
  refine my_sorted (PySem.W.kdx_collect (A := X.A.in1) (knd := mixKind X.prog X.w) (kvs := vs) (ep := ep) (J1.ok.hd hc) ⟨_, Heap.get?_push_size _ rfl, rfl, rfl⟩ (hat.push _) (by omega) fun h' tk as up many G => ?_)
  obtain ⟨H2, k1, k2, k3, J3⟩ := tups_laid (tk := tk) J2 kv up many G
  have k4 : Tss H2 as ms := by
    have : Paired (fun (t : Addr) (m : Str × Str) => H2 t = some (.tup [.str m.1, .str m.2])) as ms := by
      have aux : ∀ {as : List Addr} {ms : SS}, Paired (fun (t : Addr) (q : Key × V) => H2 t = some (.tup [kV q.1, q.2])) as (kvSS ms) → Tss H2 as ms := by
        intro as ms
        induction ms generalizing as with
        | nil => intro h; cases h; exact .nil
        | cons m ms ih =>
          intro h
          cases h with
          | cons x t => exact .cons x (ih t)
      exact aux k3
    exact this
  have lms : as.length = ms.length := Paired.length k4
  have e0 : ((as.zip ms).map fun q => ((V.ref q.1, PyData.tuple [.str q.2.1, .str q.2.2]) : VD)).map (·.1) = as.map V.ref := by
    have z : ∀ {as : List Addr} {ms : SS}, as.length = ms.length → ((as.zip ms).map fun q => ((V.ref q.1, PyData.tuple [.str q.2.1, .str q.2.2]) : VD)).map (·.1) = as.map V.ref := by
      intro as
      induction as with
      | nil => intro ms _; rfl
      | cons a as ih =>
        intro ms h
        cases ms with
        | nil => cases h
        | cons m ms =>
          rw [List.zip_cons_cons, List.map_cons, List.map_cons, List.map_cons, ih (Nat.succ.inj h)]
    exact z lms
  have e1 : PySem.W.EachIs (fun v (b : VD) => RelV b.1 v) (as.map Value.ref) ((as.zip ms).map fun q => ((V.ref q.1, PyData.tuple [.str q.2.1, .str q.2.2]) : VD)) := each_of_vals (by rw [e0]; exact LiI.vals_refs as)
  have mem : ∀ q ∈ as.zip ms, H2 q.1 = some (.tup [.str q.2.1, .str q.2.2]) := by
    have z : ∀ {as : List Addr} {ms : SS}, Tss H2 as ms → ∀ q ∈ as.zip ms, H2 q.1 = some (.tup [.str q.2.1, .str q.2.2]) := by
      intro as ms h
      induction h with
      | nil => intro q hq; cases hq
      | cons x _ ih =>
        intro q hq
        rw [List.zip_cons_cons] at hq
        rcases List.mem_cons.mp hq with z | z
        · rw [z]; exact x
        · exact ih q z
    exact z k4
  have dp : ∀ b ∈ ((as.zip ms).map fun q => ((V.ref q.1, PyData.tuple [.str q.2.1, .str q.2.2]) : VD)), Dp X.K H2 b.1 b.2 ∧ b.2.depth ≤ 1 := fun b hb => by
    obtain ⟨q, hq, rfl⟩ := List.mem_map.mp hb
    exact ⟨.tup (.inl (.inl (mem q hq))) (.cons (.str _) (.cons (.str _) .nil)), Nat.le_refl 1⟩
  refine ⟨_, e1, (PySem.W.each_mem e1).mono fun v b ⟨r, hb⟩ => Dp.reads J3 b.2 b.1 v (dp b hb).1 r, ?_, ?_, ?_, fun b hb => by have := (dp b hb).2; omega, fun out h2 n eo up2 hn => ?_⟩
  · rw [List.map_map]
    exact PySem.W.AllAlike.of (enc := fun q : Addr × Str × Str => PyData.tuple [.str q.2.1, .str q.2.2]) fun b b' => alike_ss _ _
  · rw [List.map_map]
    exact PySem.W.Sortable.tuples (enc := fun q : Addr × Str × Str => PyData.tuple [.str q.2.1, .str q.2.2]) fun b => ⟨_, _, rfl⟩
  · rw [List.length_map, List.length_zip]
    rw [List.length_map] at size lk
    omega
  · let S := (as.zip ms).mergeSort fun q r => PySem.W.dataLe false (fun q : Addr × Str × Str => PyData.tuple [.str q.2.1, .str q.2.2]) q r
    have eS : sortD ((as.zip ms).map fun q => ((V.ref q.1, PyData.tuple [.str q.2.1, .str q.2.2]) : VD)) = S.map fun q => ((V.ref q.1, PyData.tuple [.str q.2.1, .str q.2.2]) : VD) := by
      show List.mergeSort _ _ = _
      exact (List.map_mergeSort (f := fun q : Addr × Str × Str => ((V.ref q.1, PyData.tuple [.str q.2.1, .str q.2.2]) : VD)) (r := fun q r => PySem.W.dataLe false (fun q : Addr × Str × Str => PyData.tuple [.str q.2.1, .str q.2.2]) q r) (s := PySem.W.dataLe false (·.2)) fun a _ b _ => rfl).symm
    have pS : S.Perm (as.zip ms) := List.mergeSort_perm _ _
    have eF : (sortD ((as.zip ms).map fun q => ((V.ref q.1, PyData.tuple [.str q.2.1, .str q.2.2]) : VD))).map (·.1) = (S.map (·.1)).map V.ref := by
      rw [eS, List.map_map, List.map_map]
      rfl
    have vl := vals_of_each eo
    rw [eF] at vl
    refine ⟨.ref h'.objs.size, upd H2 h'.objs.size (.lst ((S.map (·.1)).map V.ref)), J3.laid (t' := tk) up2 (Nat.le_refl _) ⟨?_, out, n, vl, hn⟩, rfl, ?_⟩
    · rw [List.length_map, List.length_map, pS.length_eq, List.length_zip]
      rw [List.length_map] at size lk
      omega
    · have fresh : H2 h'.objs.size = none := J3.hok.fresh (Nat.le_refl _)
      refine q _ _ (S.map (·.1)) (S.map (·.2)) (fun b o hb => ?_) ?_ upd_same ?_ ?_
      · rw [upd_ne (ne_of_none (k1 _ _ hb) fresh)]
        exact k1 _ _ hb
      · cases z : H1 h'.objs.size with
        | none => rfl
        | some o =>
          rw [k1 _ _ z] at fresh
          cases fresh
      · have all : ∀ r ∈ S, (upd H2 h'.objs.size (.lst ((S.map (·.1)).map V.ref))) r.1 = some (.tup [.str r.2.1, .str r.2.2]) := fun r hr => by
          have := mem r (pS.mem_iff.mp hr)
          rw [upd_ne (ne_of_none this fresh)]
          exact this
        have unz : ∀ S : List (Addr × Str × Str), (∀ r ∈ S, (upd H2 h'.objs.size (.lst ((S.map (·.1)).map V.ref))) r.1 = (upd H2 h'.objs.size (.lst ((S.map (·.1)).map V.ref))) r.1) → True := fun _ _ => trivial
        generalize upd H2 h'.objs.size (.lst ((S.map (·.1)).map V.ref)) = HU at all
        clear_value S
        clear eS pS eF vl unz
        induction S with
        | nil => exact .nil
        | cons r S ih => exact .cons (all r (List.mem_cons_self ..)) (ih fun q hq => all q (List.mem_cons_of_mem _ hq))
      · have z : (as.zip ms).map (·.2) = ms := by
          have zz : ∀ {as : List Addr} {ms : SS}, as.length = ms.length → (as.zip ms).map (·.2) = ms := by
            intro as
            induction as with
            | nil => intro ms h; cases ms with
              | nil => rfl
              | cons _ _ => cases h
            | cons a as ih =>
              intro ms h
              cases ms with
              | nil => cases h
              | cons m ms => rw [List.zip_cons_cons, List.map_cons, ih (Nat.succ.inj h)]
          exact zz lms
        rw [← z]
        exact pS.map _
end
end BR

/-! tuple(list), the new object known; a method of such a tuple -/
namespace BR
open PySem PySem.Spec PyProof.Rows L2
section
variable {X : Cx}
theorem call_tupleF : CallR X (.type "tuple") (fun xs H Q => ∃ (p : Addr) (ys : List V), xs = [.ref p] ∧ SqL X.K H p ys ∧ ∀ (l : Addr) (ob : Obj), H l = none → ob.cls = .type "tuple" → ob.dict = none → Q (.ref l) (upd H l (.frz ob (.tup ys)))) := by
  intro pins s σ H xs us Q J r h
  obtain ⟨p, ys, rfl, seq, q⟩ := h
  obtain ⟨u, rfl, rx⟩ := vals1 r
  cases rx
  obtain ⟨its, rels, isL, size⟩ := J.list seq
  have many := rels.length
  refine call_tuple_list isL.isList (fun h' up => ?_) (by simp only [List.size_toArray] <;> omega)
  have J1 : Inv X pins σ H { s with heap := h' } := J.kept (t' := s.toks) up
  have J2 : Inv X pins σ (upd H h'.objs.size (.frz { cls := .type "tuple", data := .seq its.toArray } (.tup ys))) { s with heap := h'.push { cls := .type "tuple", data := .seq its.toArray } } :=
    J1.laid (t' := s.toks) (fun b o e => Heap.get?_push_of_some _ e) (Nat.le_refl _) (show ObjOk X.prog X.w _ _ _ (.frz _ (.tup ys)) from ⟨Heap.get?_push_size _ rfl, size, its, rels, IsTup.new _ _⟩)
  exact ⟨.ref h'.objs.size, _, J2, rfl, q _ _ (J1.hok.fresh (Nat.le_refl _)) rfl rfl⟩
def tBMF (T : String) (r : V → List V → Hp → VK → Prop) (to : TE) (t : TA) : TE := fun σ H Q => to σ H fun x H1 => (∃ (p : Addr) (ob : Obj) (u : HO), x = .ref p ∧ H1 p = some (.frz ob u) ∧ ob.cls = .type T ∧ ob.dict = none) ∧ t σ H1 fun xs H2 => r x xs H2 Q
theorem pe_bmF {o e : Expr} {es : List Expr} {to : TE} {t : TA} {name : Str} {apos cpos : Pos} {T id : String} {r : V → List V → Hp → VK → Prop} (pa : PlainAttrs T) (slot : Slot T name id) (ty : typeOf (.builtin id) = pure (.type "method_descriptor")) (m : MtR X id r) (ho : PE X o to) (ha : PA X (e :: es) t)
    (h1 : attributeBase o name X.env (eval o X.env) = eval o X.env := by rfl)
    (h2 : ((backTo cpos (starEach (e :: es) X.env)).all (fun x => !x.1) && (backToKw cpos (keywordEach [] X.env)).all (fun x => x.1.isSome) && decide ((e :: es).length + ([] : List Keyword).length + (if ([] : List Keyword).isEmpty then 0 else 1) < 30)) = true := by rfl)
    (h3 : (apos.endLine == cpos.line) = true := by rfl) (h4 : starEach (e :: es) X.env = (false, eval e X.env) :: starEach es X.env := by rfl) (h5 : (backTo cpos (starEach es X.env)).any (·.1) = false := by rfl) :
    PE X (.Call (.Attribute o name apos) (e :: es) [] cpos) (tBMF T r to t) := by
  refine ⟨fun pins s σ H Q J h => ?_⟩
  refine wpAny_Call_method_late h1 h2 h3 rfl (thn (ho.run pins s σ H _ J h) fun v s1 ⟨x, H1, J1, r1, ⟨p, ob, u, ex, at1, isT, noD⟩, q1⟩ => ?_)
  subst ex
  obtain rfl : v = Value.ref p := r1
  obtain ⟨get, _⟩ := (show ObjOk X.prog X.w H1 s1.heap p (.frz ob u) from J1.hok p _ at1)
  refine ⟨T, id, pa, slot, ty, ⟨ob, get, isT⟩, fun b eb => ?_, ?_⟩
  · cases eb
    exact ⟨ob, get, noD⟩
  have run := ha.run cpos pins s1 σ H1 _ J1 q1
  rw [h4] at run ⊢
  refine Calls.callWith_builtin (by show (false || (backTo cpos (starEach es X.env)).any (·.1)) = false; rw [h5] <;> rfl) (Calls.evalArgs_plain ?_)
  exact thn run fun us s2 ⟨vs, H2, J2, r2, q2⟩ => m pins s2 σ H2 (.ref p) vs (.ref p) us Q J2 rfl r2 q2
end
end BR

namespace Bn
open PySem PySem.Spec PyProof.Rows L2 BR GX RM GY
/-! tables: of the defs with generator expressions (ps), of the def with lambdas (at F, all its code objects named q) -/
structure Tb where
  ps : List Addr
  F : Addr
  q : Str
  xs : List (Addr × Str)
structure TbOk (T : Tb) (H : Hp) : Prop where
  g : GX.Tabs T.ps H
  l : LamX.TabS H T.F T.q
  x : ∀ z ∈ T.xs, LamX.TabS H z.1 z.2
  d : (∀ z ∈ T.xs, z.1 ∉ T.ps ∧ z.1 ≠ T.F) ∧ ∀ y ∈ T.xs, ∀ z ∈ T.xs, y.1 = z.1 → y.2 = z.2
/-- all is kept but the tables, which may have grown -/
structure SL (T : Tb) (H H' : Hp) : Prop where
  k : ∀ x y, NT y → H x = some y → H' x = some y
  q : ∀ x p, H x = some (.tbl p) → ∃ p', H' x = some (.tbl p')
  t : TbOk T H'
theorem nt_code {c : Addr} {q : Str} : NT (LamX.CodeO c q) := fun p z => LamX.codeO_ne p z
section
variable {T : Tb} {H H' H1 H2 : Hp}
theorem TbOk.same (t : TbOk T H) (s : Same H H') : TbOk T H' := ⟨t.g.same s, t.l.ext s, fun z hz => (t.x z hz).ext s, t.d⟩
theorem SL.refl (t : TbOk T H) : SL T H H := ⟨fun _ _ _ e => e, fun _ p e => ⟨p, e⟩, t⟩
theorem SL.trans (a : SL T H H1) (b : SL T H1 H2) : SL T H H2 := ⟨fun x y n e => b.k x y n (a.k x y n e), fun x p e => let ⟨p', e'⟩ := a.q x p e; b.q x p' e', b.t⟩
theorem SL.of (t : TbOk T H) (s : Same H H') : SL T H H' := ⟨fun x y _ e => s x y e, fun x p e => ⟨p, s _ _ e⟩, t.same s⟩
theorem SL.same (s : SL T H H1) (k : Same H1 H') : SL T H H' := s.trans (SL.of s.t k)
theorem SL.tab {P : Addr} (hF : T.F ∉ T.ps) (t : TbOk T H) (hP : P ∈ T.ps) (s : GxR.Tabbed P H H') : SL T H H' := by
  have n := SameN.tab t.g hP s
  have gen : ∀ {F : Addr} {q : Str}, F ∉ T.ps → LamX.TabS H F q → LamX.TabS H' F q := fun {F q} hF l => by
    obtain ⟨ps, e1, e2, e3⟩ := l
    refine ⟨ps, ?_, e2, fun pos cv hc => ?_⟩
    · rw [s.2 F fun z => hF (by rw [z]; exact hP)]
      exact e1
    · obtain ⟨c, h1, h2⟩ := e3 pos cv hc
      exact ⟨c, h1, n.k _ _ nt_code h2⟩
  exact ⟨n.k, n.q, n.t, gen hF t.l, fun z hz => gen (t.d.1 z hz).1 (t.x z hz), t.d⟩
theorem SL.free {p : Addr} (s : SL T H H') (h : H' p = none) : H p = none := by
  cases e : H p with
  | none => rfl
  | some o =>
    by_cases z : ∃ q, o = .tbl q
    · obtain ⟨q, rfl⟩ := z
      obtain ⟨q', e'⟩ := s.q p q e
      rw [e'] at h
      cases h
    · rw [s.k p o (fun q y => z ⟨q, y⟩) e] at h
      cases h
theorem SL.new {p : Addr} {o : HO} (s : SL T H H') (n : H' p = none) : SL T H (upd H' p o) := s.same (same_new n)
theorem TbOk.put {p : Addr} {o u : HO} (t : TbOk T H) (e : H p = some u) (hu : NT u) (hc : ∀ c q, u ≠ LamX.CodeO c q) : TbOk T (upd H p o) := by
  have gen : ∀ {F : Addr} {q : Str}, LamX.TabS H F q → LamX.TabS (upd H p o) F q := fun {F q} l => by
    obtain ⟨ps, e1, e2, e3⟩ := l
    refine ⟨ps, ?_, e2, fun pos cv h => ?_⟩
    · rw [upd_ne (ne_of e1 e fun z => hu ps (by rw [← z]))]
      exact e1
    · obtain ⟨c, h1, h2⟩ := e3 pos cv h
      refine ⟨c, h1, ?_⟩
      rw [upd_ne (ne_of h2 e fun z => hc c q (by rw [← z]))]
      exact h2
  refine ⟨fun P hP => ?_, gen t.l, fun z hz => gen (t.x z hz), t.d⟩
  obtain ⟨ps, h1, h2⟩ := t.g P hP
  refine ⟨ps, ?_, h2⟩
  rw [upd_ne (ne_of h1 e fun z => hu ps (by rw [← z]))]
  exact h1
/-- a thing that is new since H is changed -/
theorem SL.own {p : Addr} {o u : HO} (s : SL T H H') (n : H p = none) (e : H' p = some u) (hu : NT u) (hc : ∀ c q, u ≠ LamX.CodeO c q) : SL T H (upd H' p o) := by
  refine ⟨fun x y nt h => ?_, fun x q h => ?_, s.t.put e hu hc⟩
  · rw [upd_ne (ne_of_none h n)]
    exact s.k _ _ nt h
  · rw [upd_ne (ne_of_none h n)]
    exact s.q _ _ h
theorem ncL {xs : List V} : ∀ c q, HO.lst xs ≠ LamX.CodeO c q := fun _ _ z => by
  unfold LamX.CodeO at z
  cases z
theorem ncD {xs : List (Key × V)} : ∀ c q, HO.dK xs ≠ LamX.CodeO c q := fun _ _ z => by
  unfold LamX.CodeO at z
  cases z
theorem ncT {xs : List V} : ∀ c q, HO.tup xs ≠ LamX.CodeO c q := fun _ _ z => by
  unfold LamX.CodeO at z
  cases z
theorem SL.ownL {p : Addr} {o : HO} {xs : List V} (s : SL T H H') (n : H p = none) (e : H' p = some (.lst xs)) : SL T H (upd H' p o) := s.own n e nt_lst ncL
theorem SL.ownD {p : Addr} {o : HO} {xs : List (Key × V)} (s : SL T H H') (n : H p = none) (e : H' p = some (.dK xs)) : SL T H (upd H' p o) := s.own n e nt_dK ncD
theorem TbOk.lock {a : Addr} {kvs : List (Key × V)} {o : Obj} (ha : H a = some (.dK kvs)) (t : TbOk T H) : TbOk T (upd H a (.frz o (.dK kvs))) := t.put ha nt_dK ncD
theorem SL.unlock {a : Addr} {kvs : List (Key × V)} {o : Obj} (ha : H a = some (.dK kvs)) (s : SL T (upd H a (.frz o (.dK kvs))) H') : SL T H (upd H' a (.dK kvs)) := by
  have ha' : H' a = some (.frz o (.dK kvs)) := s.k _ _ nt_frz upd_same
  refine ⟨fun x y n e => ?_, fun x p e => ?_, s.t.put ha' nt_frz fun c q z => by unfold LamX.CodeO at z; cases z⟩
  · by_cases c : x = a
    · subst c
      rw [upd_same, ← ha]
      exact e
    · rw [upd_ne c]
      exact s.k _ _ n (by rw [upd_ne c]; exact e)
  · have c : x ≠ a := fun z => by
      rw [z, ha] at e
      cases e
    rw [upd_ne c]
    exact s.q _ _ (by rw [upd_ne c]; exact e)
theorem ncDT {xs : List (List Key × V)} : ∀ c q, HO.dT xs ≠ LamX.CodeO c q := fun _ _ z => by
  unfold LamX.CodeO at z
  cases z
theorem nt_dT {xs : List (List Key × V)} : NT (.dT xs) := fun _ z => by cases z
theorem SL.ownT {p : Addr} {o : HO} {xs : List (List Key × V)} (s : SL T H H') (n : H p = none) (e : H' p = some (.dT xs)) : SL T H (upd H' p o) := s.own n e nt_dT ncDT
theorem SL.sqT {K : PySem.W.Frag} {a : Addr} {xs : List V} (s : SL T H H') (h : SqT K H a xs) : SqT K H' a xs := by
  rcases h with (h | ⟨o, h⟩) | h
  · exact .inl (.inl (s.k _ _ nt_tup h))
  · exact .inl (.inr ⟨o, s.k _ _ nt_frz h⟩)
  · exact .inr h
end
/-! ### data: lists and dicts of it are among N; at most n deep -/
mutual
inductive Dq (K : PySem.W.Frag) (H : Hp) : (Addr → Prop) → Nat → V → PyData → Prop
  | non {N : Addr → Prop} {n : Nat} : Dq K H N n .non .none
  | bl {N : Addr → Prop} {n : Nat} (b : Bool) : Dq K H N n (.bl b) (.bool b)
  | int {N : Addr → Prop} {n : Nat} (i : Int) : Dq K H N n (.int i) (.int i)
  | str {N : Addr → Prop} {n : Nat} (x : Str) : Dq K H N n (.str x) (.str x)
  | lst {N : Addr → Prop} {n : Nat} {a : Addr} {xs : List V} {ds : List PyData} : H a = some (.lst xs) → N a → xs.length ≤ 1000 → DqAll K H N n xs ds → Dq K H N (n + 1) (.ref a) (.list ds)
  | tup {N : Addr → Prop} {n : Nat} {a : Addr} {xs : List V} {ds : List PyData} : SqT K H a xs → xs.length ≤ 1000 → DqAll K H N n xs ds → Dq K H N (n + 1) (.ref a) (.tuple ds)
  | dic {N : Addr → Prop} {n : Nat} {a : Addr} {kvs : List (Key × V)} {es : List (PyData × PyData)} : H a = some (.dK kvs) → N a → kvs.length ≤ 1000 → (kvs.map (·.1)).Nodup → DqKv K H (fun b => N b ∧ b ≠ a) n kvs es → Dq K H N (n + 1) (.ref a) (.dict es)
inductive DqAll (K : PySem.W.Frag) (H : Hp) : (Addr → Prop) → Nat → List V → List PyData → Prop
  | nil {N : Addr → Prop} {n : Nat} : DqAll K H N n [] []
  | cons {N : Addr → Prop} {n : Nat} {v : V} {vs : List V} {d : PyData} {ds : List PyData} : Dq K H N n v d → DqAll K H N n vs ds → DqAll K H N n (v :: vs) (d :: ds)
inductive DqKv (K : PySem.W.Frag) (H : Hp) : (Addr → Prop) → Nat → List (Key × V) → List (PyData × PyData) → Prop
  | nil {N : Addr → Prop} {n : Nat} : DqKv K H N n [] []
  | cons {N : Addr → Prop} {n : Nat} {k : Str} {v : V} {kvs : List (Key × V)} {d : PyData} {es : List (PyData × PyData)} : Dq K H N n v d → DqKv K H N n kvs es → DqKv K H N n ((.inr k, v) :: kvs) ((.str k, d) :: es)
end
section
variable {K : PySem.W.Frag} {H H' : Hp}
mutual
/-- kept where its lists, dicts and tuples are -/
theorem Dq.keep (hT : ∀ a xs, SqT K H a xs → SqT K H' a xs) : ∀ {N N' : Addr → Prop} {n : Nat} {v : V} {d : PyData}, (∀ a o, N a → H a = some o → H' a = some o) → (∀ a o, N a → H a = some o → N' a) → Dq K H N n v d → Dq K H' N' n v d
  | _, _, _, _, _, _, _, .non => .non
  | _, _, _, _, _, _, _, .bl b => .bl b
  | _, _, _, _, _, _, _, .int i => .int i
  | _, _, _, _, _, _, _, .str x => .str x
  | _, _, _, _, _, k, hN, .lst h m l h2 => .lst (k _ _ m h) (hN _ _ m h) l (DqAll.keep hT k hN h2)
  | _, _, _, _, _, k, hN, .tup h l h2 => .tup (hT _ _ h) l (DqAll.keep hT k hN h2)
  | _, _, _, _, _, k, hN, .dic h m l nd h2 => .dic (k _ _ m h) (hN _ _ m h) l nd (DqKv.keep hT (fun a o na e => k a o na.1 e) (fun a o na e => ⟨hN a o na.1 e, na.2⟩) h2)
theorem DqAll.keep (hT : ∀ a xs, SqT K H a xs → SqT K H' a xs) : ∀ {N N' : Addr → Prop} {n : Nat} {vs : List V} {ds : List PyData}, (∀ a o, N a → H a = some o → H' a = some o) → (∀ a o, N a → H a = some o → N' a) → DqAll K H N n vs ds → DqAll K H' N' n vs ds
  | _, _, _, _, _, _, _, .nil => .nil
  | _, _, _, _, _, k, hN, .cons h1 h2 => .cons (Dq.keep hT k hN h1) (DqAll.keep hT k hN h2)
theorem DqKv.keep (hT : ∀ a xs, SqT K H a xs → SqT K H' a xs) : ∀ {N N' : Addr → Prop} {n : Nat} {kvs : List (Key × V)} {es : List (PyData × PyData)}, (∀ a o, N a → H a = some o → H' a = some o) → (∀ a o, N a → H a = some o → N' a) → DqKv K H N n kvs es → DqKv K H' N' n kvs es
  | _, _, _, _, _, _, _, .nil => .nil
  | _, _, _, _, _, k, hN, .cons h1 h2 => .cons (Dq.keep hT k hN h1) (DqKv.keep hT k hN h2)
end
mutual
theorem Dq.up : ∀ {N : Addr → Prop} {n m : Nat} {v : V} {d : PyData}, n ≤ m → Dq K H N n v d → Dq K H N m v d
  | _, _, _, _, _, _, .non => .non
  | _, _, _, _, _, _, .bl b => .bl b
  | _, _, _, _, _, _, .int i => .int i
  | _, _, _, _, _, _, .str x => .str x
  | _, _, 0, _, _, h, .lst .. => absurd h (by omega)
  | _, _, 0, _, _, h, .tup .. => absurd h (by omega)
  | _, _, 0, _, _, h, .dic .. => absurd h (by omega)
  | _, _, _ + 1, _, _, hm, .lst h m l h2 => .lst h m l (DqAll.up (by omega) h2)
  | _, _, _ + 1, _, _, hm, .tup h l h2 => .tup h l (DqAll.up (by omega) h2)
  | _, _, _ + 1, _, _, hm, .dic h m l nd h2 => .dic h m l nd (DqKv.up (by omega) h2)
theorem DqAll.up : ∀ {N : Addr → Prop} {n m : Nat} {vs : List V} {ds : List PyData}, n ≤ m → DqAll K H N n vs ds → DqAll K H N m vs ds
  | _, _, _, _, _, _, .nil => .nil
  | _, _, _, _, _, h, .cons h1 h2 => .cons (Dq.up h h1) (DqAll.up h h2)
theorem DqKv.up : ∀ {N : Addr → Prop} {n m : Nat} {kvs : List (Key × V)} {es : List (PyData × PyData)}, n ≤ m → DqKv K H N n kvs es → DqKv K H N m kvs es
  | _, _, _, _, _, _, .nil => .nil
  | _, _, _, _, _, h, .cons h1 h2 => .cons (Dq.up h h1) (DqKv.up h h2)
end
theorem sqT_of_same {a : Addr} {xs : List V} (s : Same H H') (h : SqT K H a xs) : SqT K H' a xs := by
  rcases h with (h | ⟨o, h⟩) | h
  · exact .inl (.inl (s _ _ h))
  · exact .inl (.inr ⟨o, s _ _ h⟩)
  · exact .inr h
theorem nt_of_lst {o : HO} {xs : List V} (e : o = .lst xs) : NT o := e ▸ nt_lst
variable {N N' : Addr → Prop} {n : Nat} {v : V} {d : PyData} {vs ws : List V} {ds es : List PyData} {kvs : List (Key × V)} {kes : List (PyData × PyData)}
theorem Dq.same (h : Dq K H N n v d) (s : Same H H') : Dq K H' N n v d := h.keep (fun _ _ => sqT_of_same s) (fun _ _ _ e => s _ _ e) (fun _ _ z _ => z)
theorem DqAll.same (h : DqAll K H N n vs ds) (s : Same H H') : DqAll K H' N n vs ds := h.keep (fun _ _ => sqT_of_same s) (fun _ _ _ e => s _ _ e) (fun _ _ z _ => z)
theorem DqKv.same (h : DqKv K H N n kvs kes) (s : Same H H') : DqKv K H' N n kvs kes := h.keep (fun _ _ => sqT_of_same s) (fun _ _ _ e => s _ _ e) (fun _ _ z _ => z)
theorem Dq.mono (h : Dq K H N n v d) (s : ∀ a, N a → N' a) : Dq K H N' n v d := h.keep (fun _ _ e => e) (fun _ _ _ e => e) (fun _ _ z _ => s _ z)
/-- its lists and dicts stand there -/
theorem Dq.tight (h : Dq K H N n v d) : Dq K H (fun a => N a ∧ H a ≠ none) n v d := h.keep (fun _ _ e => e) (fun _ _ _ e => e) (fun _ _ z e => ⟨z, by rw [e]; simp⟩)
theorem DqAll.len (h : DqAll K H N n vs ds) : vs.length = ds.length := by
  induction ds generalizing vs with
  | nil => cases h; rfl
  | cons d ds ih =>
    cases h with
    | cons _ h2 => show _ + 1 = _ + 1; rw [ih h2]
theorem DqAll.at (h : DqAll K H N n vs ds) : ∀ {i : Nat} {v : V}, vs[i]? = some v → ∃ d, ds[i]? = some d ∧ Dq K H N n v d := by
  induction ds generalizing vs with
  | nil => intro i v e; cases h; simp at e
  | cons d ds ih =>
    intro i v e
    cases h with
    | cons h1 h2 =>
      cases i with
      | zero =>
        cases Option.some.inj e
        exact ⟨_, rfl, h1⟩
      | succ j => exact ih h2 e
theorem DqAll.app (h : DqAll K H N n vs ds) (k : DqAll K H N n ws es) : DqAll K H N n (vs ++ ws) (ds ++ es) := by
  induction ds generalizing vs with
  | nil => cases h; exact k
  | cons d ds ih =>
    cases h with
    | cons h1 h2 => exact .cons h1 (ih h2)
theorem DqKv.len (h : DqKv K H N n kvs kes) : kvs.length = kes.length := by
  induction kes generalizing kvs with
  | nil => cases h; rfl
  | cons d ds ih =>
    cases h with
    | cons _ h2 => show _ + 1 = _ + 1; rw [ih h2]
theorem DqKv.at (h : DqKv K H N n kvs kes) : ∀ {i : Nat} {k : Key} {v : V}, kvs[i]? = some (k, v) → ∃ (x : Str) (d : PyData), k = .inr x ∧ kes[i]? = some (.str x, d) ∧ Dq K H N n v d := by
  induction kes generalizing kvs with
  | nil => intro i k v e; cases h; simp at e
  | cons d ds ih =>
    intro i k v e
    cases h with
    | cons h1 h2 =>
      cases i with
      | zero =>
        cases Option.some.inj e
        exact ⟨_, _, rfl, rfl, h1⟩
      | succ j => exact ih h2 e
theorem DqKv.app {kws : List (Key × V)} {kfs : List (PyData × PyData)} (h : DqKv K H N n kvs kes) (k : DqKv K H N n kws kfs) : DqKv K H N n (kvs ++ kws) (kes ++ kfs) := by
  induction kes generalizing kvs with
  | nil => cases h; exact k
  | cons d ds ih =>
    cases h with
    | cons h1 h2 => exact .cons h1 (ih h2)
end
section
variable {T : Tb} {K : PySem.W.Frag} {H H' : Hp} {N : Addr → Prop} {n : Nat} {v : V} {d : PyData} {vs : List V} {ds : List PyData} {kvs : List (Key × V)} {kes : List (PyData × PyData)}
mutual
theorem Dq.sl (s : SL T H H') : ∀ {N : Addr → Prop} {n : Nat} {v : V} {d : PyData}, Dq K H N n v d → Dq K H' N n v d
  | _, _, _, _, .non => .non
  | _, _, _, _, .bl b => .bl b
  | _, _, _, _, .int i => .int i
  | _, _, _, _, .str x => .str x
  | _, _, _, _, .lst h m l h2 => .lst (s.k _ _ nt_lst h) m l (DqAll.sl s h2)
  | _, _, _, _, .tup h l h2 => .tup (s.sqT h) l (DqAll.sl s h2)
  | _, _, _, _, .dic h m l nd h2 => .dic (s.k _ _ nt_dK h) m l nd (DqKv.sl s h2)
theorem DqAll.sl (s : SL T H H') : ∀ {N : Addr → Prop} {n : Nat} {vs : List V} {ds : List PyData}, DqAll K H N n vs ds → DqAll K H' N n vs ds
  | _, _, _, _, .nil => .nil
  | _, _, _, _, .cons h1 h2 => .cons (Dq.sl s h1) (DqAll.sl s h2)
theorem DqKv.sl (s : SL T H H') : ∀ {N : Addr → Prop} {n : Nat} {kvs : List (Key × V)} {es : List (PyData × PyData)}, DqKv K H N n kvs es → DqKv K H' N n kvs es
  | _, _, _, _, .nil => .nil
  | _, _, _, _, .cons h1 h2 => .cons (Dq.sl s h1) (DqKv.sl s h2)
end
end
end Bn

/-! lambdas: made in one def, handed on as values, called in another one that was handed them -/
namespace LX
open PySem PySem.Spec PyProof.Rows L2 LamX NdefX
/-- a lambda that was made: its words, the cells that it captured, its code object -/
structure LF where
  qual : Str
  params : Arguments
  body : Expr
  scope : Scope
  cl : List (Str × Addr)
  c : Addr
abbrev LF.fd (F : LF) (pm ctv : Value) : FuncData := PySem.W.kla_fn "<lambda>" F.qual F.params F.body F.scope F.cl pm (.ref F.c) ctv
abbrev LF.nf (F : LF) : NF := ⟨"<lambda>", F.qual, F.params, [], F.scope, F.cl, F.c⟩
def LamO (f : Addr) (F : LF) : HO := .ext fun h => ∃ pm ctv : Value, h.get? f = some ({ cls := .type "function", data := .func (F.fd pm ctv) } : Obj)
theorem nt_lamO {f : Addr} {F : LF} : GX.NT (LamO f F) := fun _ z => by
  unfold LamO at z
  cases z
theorem lamO_at {P : Program} {w : World} {H : Hp} {h : Heap} {f : Addr} {F : LF} (ok : HOk P w H h) (e : H f = some (LamO f F)) : ∃ pm ctv : Value, h.get? f = some ({ cls := .type "function", data := .func (F.fd pm ctv) } : Obj) := (ok f _ e).1
section
variable {X : Cx} {pins : List (Addr × Obj)} {σ : L2.St} {H : Hp} {s : Shared}
theorem inv_lam {F : LF} {t' : Nat} {pm ctv : Value} (I : Inv X pins σ H s) :
    Inv X pins σ (upd H s.heap.objs.size (LamO s.heap.objs.size F)) { s with heap := s.heap.push ({ cls := .type "function", data := .func (F.fd pm ctv) } : Obj), toks := t' } := by
  refine I.laid (fun _ _ e => Heap.get?_push_of_some _ e) (Nat.le_refl _) ?_
  have q : (s.heap.push ({ cls := .type "function", data := .func (F.fd pm ctv) } : Obj)).get? s.heap.objs.size = some ({ cls := .type "function", data := .func (F.fd pm ctv) } : Obj) := Heap.get?_push_size _ rfl
  exact ⟨⟨pm, ctv, q⟩, ⟨_, q⟩, fun _ _ ⟨p, t, z⟩ keep => ⟨p, t, keep _ z⟩⟩
/-- the lambda is made and known from then on; but for the table all is kept -/
theorem lam_made {c P : Addr} {params : Arguments} {body : Expr} {scope : Scope} {pos : Pos} {E : Value → Shared → Prop} {Q : Value → Shared → Prop} (I : Inv X pins σ H s) (TB : LamX.TabB X.base X.mg c P) (hcode : X.env.code = .ref c)
    (hT : TabS H P (X.env.qual ++ "<lambda>")) (hdef : defaultsOf params X.env = ([], [])) (caught : ∀ y ∈ scope.names, y.2 = .free → ∃ c, X.env.cells.lookup y.1 = some c)
    (h : ∀ (f c' : Addr) (H1 : Hp) (s' : Shared), Inv X pins σ H1 s' → (∀ b o, b ≠ P → H b = some o → H1 b = some o) → TabS H1 P (X.env.qual ++ "<lambda>") → H f = none →
      H1 f = some (LamO f ⟨X.env.qual ++ "<lambda>", params, body, scope, cloFrom X.env.cells scope.names [], c'⟩) → H1 c' = some (CodeO c' (X.env.qual ++ "<lambda>")) → Q (.ref f) s') :
    wpAny (model X.prog X.w) X.A (eval (.Lambda params body scope pos) X.env) Q E s := by
  obtain ⟨ps, hP, trip, among⟩ := hT
  have bP : s.heap.BuiltinsAt X.mg P := TB.bm.keeps I.bk
  have tabP : s.heap.get? P = some { cls := .none, data := .fields ps } := I.hok P _ hP
  refine PySem.W.kla_eval hdef ?_
  cases hit : codeAmong pos ps.toList with
  | some cv =>
    obtain ⟨c', rfl, known⟩ := among pos cv hit
    refine PySem.W.kla_makeFunctionHit (mg := X.mg) (c := c) (ps := ps) (closure_ok caught) I.ok.glob (I.mod.glob.keeps I.bk) hcode (TB.code.keeps I.bk) tabP trip hit bP fun ctv h' tk grown _ => ?_
    have J : Inv X pins σ H { s with heap := h', toks := tk } := I.kept grown
    have new : H h'.objs.size = none := J.hok.fresh (Nat.le_refl _)
    have up : ∀ b o, H b = some o → upd H h'.objs.size (LamO h'.objs.size ⟨X.env.qual ++ "<lambda>", params, body, scope, cloFrom X.env.cells scope.names [], c'⟩) b = some o := fun b o e => (upd_ne (ne_of_none e new)).trans e
    exact h h'.objs.size c' _ _ (inv_lam (F := ⟨X.env.qual ++ "<lambda>", params, body, scope, cloFrom X.env.cells scope.names [], c'⟩) J) (fun b o _ e => up b o e) (TabS.ext ⟨ps, hP, trip, among⟩ up) new upd_same (up _ _ known)
  | none =>
    refine PySem.W.kla_makeFunction (mg := X.mg) (c := c) (ps := ps) (closure_ok caught) I.ok.glob (I.mod.glob.keeps I.bk) hcode (TB.code.keeps I.bk) tabP trip hit TB.gP bP fun c' ctv h' tk grown low high code tab => ?_
    obtain ⟨c2, oc, vs, t, e2, at1, at2, at3⟩ := code
    cases e2
    have newC : H c' = none := I.hok.fresh low
    have J := LamX.inv_table (t' := tk) (more := #[rawInt pos.line, rawInt pos.col, .ref c']) (h' := h') I hP (fun b o nb e => grown b o nb e) tab low ⟨oc, vs, t, at1, at2, at3⟩
    have nPc : P ≠ c' := ne_of_none hP newC
    have mid : ∀ b o, b ≠ P → H b = some o → upd (upd H P (.tbl (ps ++ #[rawInt pos.line, rawInt pos.col, .ref c']))) c' (CodeO c' (X.env.qual ++ "<lambda>")) b = some o := fun b o nb e => by
      rw [upd_ne (ne_of_none e newC), upd_ne nb]
      exact e
    have midP : upd (upd H P (.tbl (ps ++ #[rawInt pos.line, rawInt pos.col, .ref c']))) c' (CodeO c' (X.env.qual ++ "<lambda>")) P = some (.tbl (ps ++ #[rawInt pos.line, rawInt pos.col, .ref c'])) := by
      rw [upd_ne nPc, upd_same]
    have midC : upd (upd H P (.tbl (ps ++ #[rawInt pos.line, rawInt pos.col, .ref c']))) c' (CodeO c' (X.env.qual ++ "<lambda>")) c' = some (CodeO c' (X.env.qual ++ "<lambda>")) := upd_same
    generalize upd (upd H P (.tbl (ps ++ #[rawInt pos.line, rawInt pos.col, .ref c']))) c' (CodeO c' (X.env.qual ++ "<lambda>")) = HM at J mid midP midC
    have newF : HM h'.objs.size = none := J.hok.fresh (Nat.le_refl _)
    have up : ∀ b o, HM b = some o → upd HM h'.objs.size (LamO h'.objs.size ⟨X.env.qual ++ "<lambda>", params, body, scope, cloFrom X.env.cells scope.names [], c'⟩) b = some o := fun b o e => (upd_ne (ne_of_none e newF)).trans e
    have flat : (ps ++ #[rawInt pos.line, rawInt pos.col, .ref c']).toList = ps.toList ++ [rawInt pos.line, rawInt pos.col, .ref c'] := by simp
    have tM : TabS HM P (X.env.qual ++ "<lambda>") := by
      refine ⟨_, midP, by rw [flat]; exact PySem.TriplesOk_snoc _ _ _ _ trip, fun p' cv found => ?_⟩
      rw [flat] at found
      rcases LamX.among_app _ trip found with z | z
      · obtain ⟨c0, e1, e3⟩ := among p' cv z
        exact ⟨c0, e1, mid _ _ (fun y => by rw [y, hP] at e3; exact LamX.codeO_ne ps (Option.some.inj e3).symm) e3⟩
      · exact ⟨c', z, midC⟩
    refine h h'.objs.size c' _ _ (inv_lam (F := ⟨X.env.qual ++ "<lambda>", params, body, scope, cloFrom X.env.cells scope.names [], c'⟩) J) (fun b o nb e => up b o (mid b o nb e)) (tM.ext up) (I.hok.fresh (Nat.le_trans low (Nat.le_of_lt high))) upd_same (up _ _ midC)
end
def tLm (P : Addr) (q : Str) (mk : Addr → LF) : TE := fun _ H Q => TabS H P q ∧ ∀ (f c' : Addr) (H1 : Hp), (∀ b o, b ≠ P → H b = some o → H1 b = some o) → TabS H1 P q → H f = none → H1 f = some (LamO f (mk c')) → H1 c' = some (CodeO c' q) → Q (.ref f) H1
theorem pe_lam {X : Cx} {c P : Addr} {params : Arguments} {body : Expr} {scope : Scope} {pos : Pos} (TB : LamX.TabB X.base X.mg c P) (hcode : X.env.code = .ref c) (hdef : defaultsOf params X.env = ([], []))
    (caught : ∀ y ∈ scope.names, y.2 = .free → X.env.scope.names.lookup y.1 = some .cell ∨ X.env.scope.names.lookup y.1 = some .free) :
    PE X (.Lambda params body scope pos) (tLm P (X.env.qual ++ "<lambda>") fun c' => ⟨X.env.qual ++ "<lambda>", params, body, scope, cloFrom X.env.cells scope.names [], c'⟩) := by
  refine ⟨fun pins s σ H Q I h => ?_⟩
  refine lam_made I TB hcode h.1 hdef (fun y hy e => (caught y hy e).elim (fun z => I.ok.has _ (.inl z)) fun z => I.ok.has _ (.inr z)) fun f c' H1 s' J k t n a b => ?_
  exact ⟨.ref f, H1, J, rfl, h.2 f c' H1 k t n a b⟩
/-! ### what a lambda promises -/
structure LOk (P : Program) (w : World) (K : PySem.W.Frag) (mg : Str → Option Value) (base : Heap) (k : Nat) (f : Addr) (F : LF) (fr : List Str) (sp : List (Option V) → Sp) : Prop where
  run : ∀ (A : Around) (outer : List Env) (s : Shared) (H : Hp) (us : List Value) (vs : List V) (ws : List (Option V)) (Q : VK), Room k A → Env0 P w K mg base A outer s H → H f = some (LamO f F) → H F.c = some (CodeO F.c F.qual) →
    CellsAt F.cl fr ws s.heap H → Vals vs us → sp ws vs H Q E0 → codeAny (model P w) A (.call (.ref f) ⟨us, []⟩) (CR CX0 outer P w H s Q E0) s
theorem lok_of {P : Program} {w : World} {K : PySem.W.Frag} {mg : Str → Option Value} {base : Heap} {N ps fr : List Str} {F : LF} {f : Addr} {k : Nat} {sp : List (Option V) → Sp} (S : NScope N ps fr F.scope)
    (hb : ∀ (pm ctv : Value) (us : List Value), us.length = ps.length → bindArgs (F.fd pm ctv) ⟨us, []⟩ = pure (ps.zip us)) (len : ∀ ws vs H Q, sp ws vs H Q E0 → vs.length = ps.length)
    (hbody : ∀ (A : Around) (outer : List Env) (s : Shared) (H : Hp) (vs : List V) (ws : List (Option V)) (Q : VK), Room k (A.deeper (envF F.nf f s.heap.objs.size)) → sp ws vs H Q E0 →
      ∃ te, PE (ncx CX0 P w K mg base N F.nf f A outer s H E0) F.body te ∧ te (startF N vs ws) H Q) : LOk P w K mg base (k + 1) f F fr sp := by
  refine ⟨fun A outer s H us vs ws Q room e0 hf hc C r said => ?_⟩
  have many := len _ _ _ _ said
  have lim : s.heap.NoLimit := e0.mod.nolimit.keeps fun b o e => (e0.bs b o e).1
  obtain ⟨pm, ctv, here⟩ := lamO_at e0.hok hf
  refine PySem.W.kla_callFunE room.depth here rfl S.co S.gen rfl (codeO_at e0.hok hc) ?_
  rw [hb pm ctv us (by rw [← r.length]; exact many)]
  refine wpAny_pure (wpAny_newFunctionEnv S.nocell (fun ⟨n, _⟩ hy => S.par n (List.of_mem_zip hy).1) (fun h₁ frame sb => ⟨lim.fresh _ sb, ?_⟩) S.kind)
  show codeAny _ _ (.expr F.body (envF F.nf f s.heap.objs.size)) _ _
  have up : ∀ b o, s.heap.get? b = some o → h₁.get? b = some o := fun b o e => sb.extBut b o (Nat.ne_of_lt (Heap.lt_size e)) (Heap.get?_push_of_some _ e)
  obtain ⟨te, pe, said'⟩ := hbody A outer s H vs ws Q (room.deeper _) said
  have J : Inv (ncx CX0 P w K mg base N F.nf f A outer s H E0) [] (startF N vs ws) H { s with heap := h₁, toks := s.toks + (ps.zip us).length } := inv_startN S room.hd e0 many r C frame up
  refine PySem.W.kla_codeExpr (wpAny_mono (pe.run [] _ _ H Q J said') (fun v s' z => ?_) fun e s' z => z)
  obtain ⟨x, H', J', rv, q⟩ := z
  exact ⟨x, H', J'.os, J'.bare, J'.base, J'.hok, rv, q⟩
/-! ### what may be called by a name: a def, or a lambda whose cells hold ws since the running def began; St: that it stands there still -/
def Cal (X : Cx) (k : Nat) (f : Addr) (sp : Sp) (St : Hp → Prop) : Prop :=
  Held X.prog X.w X.K X.mg X.base k f sp ∨
  ∃ (F : LF) (fr : List Str) (ws : List (Option V)) (sp' : List (Option V) → Sp), LOk X.prog X.w X.K X.mg X.base k f F fr sp' ∧ CellsAt F.cl fr ws X.s_0.heap X.H_0 ∧ X.ex = [] ∧
    (∀ H, St H → H f = some (LamO f F) ∧ H F.c = some (CodeO F.c F.qual)) ∧ ∀ vs H Q, sp vs H Q E0 → sp' ws vs H Q E0
theorem later {X : Cx} {pins : List (Addr × Obj)} {σ : L2.St} {H : Hp} {s : Shared} {cl : List (Str × Addr)} {fr : List Str} {ws : List (Option V)} (C : CellsAt cl fr ws X.s_0.heap X.H_0) (hx : X.ex = []) (I : Inv X pins σ H s) : CellsAt cl fr ws s.heap H := by
  have nx : ∀ c : Addr, c ∉ X.ex := fun c z => by
    rw [hx] at z
    cases z
  have still : ∀ y c, cl.lookup y = some c → ∀ v, X.s_0.heap.IsCell c v → s.heap.IsCell c v := fun y c e v ⟨o, ho, hd⟩ => by
    obtain ⟨sl, q⟩ := I.base.any ho (C.all y c e).1 (nx c)
    exact ⟨_, q, hd⟩
  refine ⟨C.len, fun y c e => ?_, C.inj, fun i y e => ?_⟩
  · obtain ⟨n, v, z⟩ := C.all y c e
    refine ⟨?_, v, still y c e v z⟩
    obtain ⟨o, ho, _⟩ := z
    exact I.base.free c o ho n (nx c)
  · obtain ⟨c, hc, hv⟩ := C.has i y e
    refine ⟨c, hc, fun v ev => ?_⟩
    obtain ⟨u, r, z⟩ := hv v ev
    exact ⟨u, r, still y c hc _ z⟩
theorem pe_callH {X : Cx} {k i : Nat} {f : Addr} {sp : Sp} {St : Hp → Prop} {x : Str} {p pos : Pos} {e : Expr} {es : List Expr} {t : TA} (C : Cal X k f sp St) (room : Room k X.A) (hN : X.N[i]? = some x) (hv : Vis X.env.scope x) (ha : PA X (e :: es) t)
    (hdb : (x == ("__debug__" : Str)) = false := by decide) (hcd : (x == ("__classdict__" : Str)) = false := by decide)
    (he : starEach (e :: es) X.env = (false, eval e X.env) :: starEach es X.env := by rfl) (hpl : (backTo pos (starEach es X.env)).any (·.1) = false := by rfl) :
    PE X (.Call (.Name x p) (e :: es) [] pos) (fun σ H Q => σ[i]? = some (some (.ref f)) ∧ St H ∧ t σ H fun vs H1 => St H1 ∧ sp vs H1 Q E0) := by
  refine ⟨fun pins s σ H Q I ⟨slot, st, h⟩ => ?_⟩
  rcases C with ⟨fd, ps, G, kp, b⟩ | ⟨F, fr, ws, sp', G, cells, hx, still, imp⟩
  · refine wpAny_Call_Name_kw (thn ((pe_var (pos := p) hN hv hdb hcd).run pins s σ H (fun v H1 => v = .ref f ∧ H1 = H) I ⟨.ref f, slot, rfl, rfl⟩) fun u s1 ⟨v, H1, I1, r1, ev, eH⟩ => ?_)
    subst ev
    rw [eH] at I1
    obtain rfl : u = Value.ref f := r1
    refine PySem.W.callWith_K (h₀ := X.base) I.ok.mod.kin kp (thn (ha.run pos pins s1 σ H _ I1 h) fun us s2 ⟨vs, H2, I2, r, _, q⟩ => ⟨I2.kIn, ?_⟩) he hpl
    exact run_fn (E := E0) (dvs := []) G room b .nil (fun _ _ _ _ _ _ _ z => z.elim) I2 r (by rw [List.append_nil]; exact q)
  · refine wpAny_Call_Name_kw (thn ((pe_var (pos := p) hN hv hdb hcd).run pins s σ H (fun v H1 => v = .ref f ∧ H1 = H) I ⟨.ref f, slot, rfl, rfl⟩) fun u s1 ⟨v, H1, I1, r1, ev, eH⟩ => ?_)
    subst ev
    rw [eH] at I1
    obtain rfl : u = Value.ref f := r1
    have fnAt : ∀ {pins : List (Addr × Obj)} {σ : L2.St} {H : Hp} {s : Shared}, Inv X pins σ H s → St H → PySem.W.FnAt f s.heap := fun J z => by
      obtain ⟨pm, ctv, q⟩ := lamO_at J.hok (still _ z).1
      exact ⟨_, _, _, _, q⟩
    refine PySem.W.callWith_F (first := []) (fnAt I1 st) (thn (ha.run pos pins s1 σ H _ I1 h) fun us s2 ⟨vs, H2, I2, r, st2, q⟩ => ⟨fnAt I2 st2, ?_⟩) he hpl
    show wpAny _ _ (call (.ref f) us) _ _ _
    have a := G.run X.A X.stack s2 H2 us vs ws Q room I2.env0 (still _ st2).1 (still _ st2).2 (later cells hx I2) r (imp _ _ _ q)
    refine wpAny_call (codeAny_mono a fun r s' hq => ?_)
    cases r with
    | error e => exact (show False from hq).elim
    | ok fl =>
      cases fl with
      | ret u => exact I2.after hq
      | next => exact False.elim hq
      | brk => exact False.elim hq
      | cont => exact False.elim hq
/-! ### the same, in the def that made the lambda -/
def CalX (X : Cx) (σ : L2.St) (k : Nat) (f : Addr) (sp : Sp) (St : Hp → Prop) : Prop :=
  Held X.prog X.w X.K X.mg X.base k f sp ∨
  ∃ (F : LF) (fr : List Str) (js : List Nat) (sp' : List (Option V) → Sp), LOk X.prog X.w X.K X.mg X.base k f F fr sp' ∧ (X.Ok → Caps X F.cl fr js) ∧
    (∀ H, St H → H f = some (LamO f F) ∧ H F.c = some (CodeO F.c F.qual)) ∧ ∀ vs H Q, sp vs H Q E0 → sp' (js.map (slotAt σ)) vs H Q E0
theorem cal_of {X : Cx} {pins : List (Addr × Obj)} {σ : L2.St} {H : Hp} {s : Shared} {k : Nat} {f : Addr} {sp : Sp} {St : Hp → Prop} {CX : CXT} {N : List Str} {qual : Str} {scope : Scope} {g : Addr} {cd : Value} {A : Around} {outer : List Env} {E : XK} (I : Inv X pins σ H s) (C : CalX X σ k f sp St) :
    Cal (cxOf CX X.prog X.w X.K X.mg X.base N qual scope g cd A outer s H E) k f sp St := by
  rcases C with C | ⟨F, fr, js, sp', G, cap, still, imp⟩
  · exact .inl C
  · exact .inr ⟨F, fr, js.map (slotAt σ), sp', G, cells_of I (cap I.ok), rfl, still, imp⟩
/-- a def called whose promise may speak of the caller's lambdas -/
theorem pe_callV {X : Cx} {name : Str} {st : Stmt} {g : Addr} {fd : FuncData} {N ps : List Str} {k : Nat} {p pos : Pos} {e : Expr} {es : List Expr} {t : TA} (F : Fun X.K name name st g fd) (S : FnScope N ps (defScope st)) (b : Binds X.K fd ps []) (hg : Gl X name) (hm : X.mg name = some (.ref g)) (room : Room (k + 1) X.A) (SPx : L2.St → List V → Hp → VK → Prop)
    (hG : ∀ (pins : List (Addr × Obj)) (σ : L2.St) (s : Shared) (H : Hp) (vs : List V) (Q : VK), Inv X pins σ H s → SPx σ vs H Q → vs.length = ps.length ∧ ∀ cd, Room k (X.A.deeper (envOfC name (defScope st) s.heap.objs.size g cd)) →
      ∃ t, PSs (cxOf CX0 X.prog X.w X.K X.mg X.base N name (defScope st) g cd X.A X.stack s H E0).nox (defBody st) t ∧ t { nx := fun _ H' => Q .non H', rt := Q } (L2.start N vs) H)
    (ha : PA X (e :: es) t) (hdb : (name == ("__debug__" : Str)) = false := by decide)
    (he : starEach (e :: es) X.env = (false, eval e X.env) :: starEach es X.env := by rfl) (hpl : (backTo pos (starEach es X.env)).any (·.1) = false := by rfl) :
    PE X (.Call (.Name name p) (e :: es) [] pos) (fun σ H Q => t σ H fun vs H1 => SPx σ vs H1 Q) := by
  refine ⟨fun pins s σ H Q I h => ?_⟩
  obtain ⟨⟨oc, od, kV, doc, pm, an, cdv, ct, osl, rfl, lk, hcd⟩, kp⟩ := F
  refine wpAny_Call_Name_kw (ld_glob I hg hm ?_ hdb)
  refine PySem.W.callWith_K (h₀ := X.base) I.ok.mod.kin kp (thn (ha.run pos pins s σ H _ I h) fun us s2 ⟨vs, H2, I2, r, q⟩ => ⟨I2.kIn, ?_⟩) he hpl
  show wpAny _ _ (call (.ref g) us) _ _ _
  obtain ⟨many, hbody⟩ := hG pins σ s2 H2 vs Q I2 q
  have bu : BindsTo s2 (PySem.W.fnOf name name (defArgs st) (defBody st) (defScope st) .none kV doc pm an cdv ct) ⟨us, []⟩ (ps.zip us) := by
    have z := b s2 us I2.kIn (by rw [List.append_nil, ← r.length]; exact many)
    rw [List.append_nil] at z
    exact z
  have a : codeAny (model X.prog X.w) X.A (.call (.ref g) ⟨us, []⟩) (CR CX0 X.stack X.prog X.w H2 s2 Q E0) s2 := by
    refine run_ofS (N := N) (ps := ps) (us := us) (vs := vs) lk hcd S room I2.env0 bu r many fun room' => ?_
    obtain ⟨t', h1, h2⟩ := hbody cdv room'
    exact ⟨t', h1.nox, h2⟩
  refine wpAny_call (codeAny_mono a fun r s' hq => ?_)
  cases r with
  | error e => exact (show False from hq).elim
  | ok fl =>
    cases fl with
    | ret u => exact I2.after hq
    | next => exact False.elim hq
    | brk => exact False.elim hq
    | cont => exact False.elim hq
end LX

/-! len(set(texts)), no two of them alike -/
namespace SU
open PySem PySem.Spec PyProof.Rows SS
theorem unlike_off {ts : List Str} (unl : ts.Nodup) {i : Nat} (b : i < ts.length) : (ts.take i).any (· == ts[i]) = false := by
  rw [Bool.eq_false_iff]
  intro z
  obtain ⟨y, hy, e⟩ := List.any_eq_true.mp z
  have e' : y = ts[i] := beq_iff_eq.mp e
  obtain ⟨j, hj, ej⟩ := List.mem_take_iff_getElem.mp hy
  have l1 : j < i := by omega
  have := (List.nodup_iff_pairwise_ne.mp unl)
  exact (List.pairwise_iff_getElem.mp this j i (by omega) b l1) (by rw [ej, e'])
section
variable {prog : Program} {w : World} {A : Around} {Re : Result → Shared → Prop} {I : Addr} {fp wr : List Addr} {G : Array GenState → Array GenState → Prop} {nn : Nat} {P : Nat → Value → Prop} {St : Nat → Shared → Prop}
theorem loop_unlike (W : WalksS prog w A.in1 I fp wr G nn P St) (Sa : Addr) (apart : Sa ∉ fp) (ts : List Str) (many : ts.length = nn) (unl : ts.Nodup) (few : nn + 1 < scanBound)
    (each : ∀ ix va, P ix va → ∃ t, va = .str (ts.getD ix Str.empty) t) :
    ∀ (kk ix : Nat) (sh : Shared), nn - ix = kk → ix ≤ nn → St ix sh →
      sh.heap.SetOf (PySem.strKind prog w) Sa (fun ky => (ts.take ix).any (· == ky)) ix →
      (∀ sh2, Moved (Sa :: wr) G sh sh2 → sh2.heap.SetOf (PySem.strKind prog w) Sa (fun ky => (ts.take nn).any (· == ky)) nn → Re (.ok (.ret .none)) sh2) →
      codeAny (model prog w) A (.builtin "set.update.loop" ⟨[.ref Sa, .ref I], []⟩) Re sh := by
  have offW : Sa ∉ wr := fun go => apart (W.sub _ go)
  have sub2 : ∀ bb ∈ wr, bb ∈ Sa :: wr := fun bb eb => List.mem_cons_of_mem _ eb
  intro kk
  induction kk with
  | zero =>
    intro ix sh ek ilt stands isSet then_
    have last : ix = nn := by omega
    subst last
    refine codeAny_builtin PyProof.Rows.F.entry_set_update_loop ?_
    rw [Around.under_plainId PyProof.Rows.F.plain_set_update_loop _]
    show wpAny _ A.in1 (pyNext (.ref I) >>= _) _ _ sh
    refine wpAny_bind (W.done sh _ _ stands fun sh2 mv => ?_)
    show wpAny _ A.in1 (ret Value.none) _ _ sh2
    exact wpAny_pure (then_ sh2 (mv.mono sub2) (by
      obtain ⟨ob, es, ep, t, ho, rest⟩ := isSet
      exact ⟨ob, es, ep, t, mv.heap Sa _ offW ho, rest⟩))
  | succ kk ih =>
    intro ix sh ek ilt stands isSet then_
    have below : ix < nn := by omega
    refine codeAny_builtin PyProof.Rows.F.entry_set_update_loop ?_
    rw [Around.under_plainId PyProof.Rows.F.plain_set_update_loop _]
    show wpAny _ A.in1 (pyNext (.ref I) >>= _) _ _ sh
    refine wpAny_bind (W.item ix sh _ _ below stands fun va sh2 isP stands2 mv => ?_)
    obtain ⟨t, rfl⟩ := each ix va isP
    have isSet2 : sh2.heap.SetOf (PySem.strKind prog w) Sa (fun ky => (ts.take ix).any (· == ky)) ix := by
      obtain ⟨ob, es, ep, tb, ho, rest⟩ := isSet
      exact ⟨ob, es, ep, tb, mv.heap Sa _ offW ho, rest⟩
    show wpAny _ A.in1 (holding [Value.str (ts.getD ix Str.empty) t] (setAdd Sa (.str (ts.getD ix Str.empty) t)) >>= _) _ _ sh2
    refine wpAny_bind (wpAny_holding ?_)
    unfold setAdd
    refine wpAny_holding ?_
    refine wpAny_bind ((PySem.strKind prog w).pyHash (k := ts.getD ix Str.empty) (strKind_is _ _ _ _) ?_)
    refine wpAny_setAddHashed_of (knd := PySem.strKind prog w) (s := { sh2 with toks := sh2.toks + 1 }) (strKind_is _ _ _ _) rfl isSet2 (by omega) fun h' sb2 isSet3 => ?_
    have isSet4 : h'.SetOf (PySem.strKind prog w) Sa (fun ky => (ts.take (ix + 1)).any (· == ky)) (ix + 1) := by
      have bl : ix < ts.length := by omega
      have eg : ts.getD ix Str.empty = ts[ix] := by rw [List.getD_eq_getElem?_getD, List.getElem?_eq_getElem bl]; rfl
      have off : (ts.take ix).any (· == ts[ix]) = false := unlike_off unl bl
      refine SetOf_congr isSet3 (fun ky => ?_) ?_
      · show ((ts.take ix).any (· == ky) || decide (ky = ts.getD ix Str.empty)) = (ts.take (ix + 1)).any (· == ky)
        rw [List.take_succ_eq_append_getElem bl, List.any_append, eg]
        congr 1
        show decide (ky = ts[ix]) = ((ts[ix] == ky) || false)
        rw [Bool.or_false, Bool.eq_iff_iff, decide_eq_true_iff, beq_iff_eq]
        exact ⟨fun z => z.symm, fun z => z.symm⟩
      · show (if (ts.take ix).any (· == ts.getD ix Str.empty) = true then ix else ix + 1) = ix + 1
        rw [eg, off]
        rfl
    refine wpAny_pure ⟨plainId_quiet PyProof.Rows.F.plain_set_update_loop _, ih (ix + 1) _ (by omega) below (W.frame _ sh2 _ _ stands2 (Nat.le_succ _) fun bb eb ob ee => ?_) isSet4 fun sh3 mv3 isSet5 => ?_⟩
    · rw [sb2.2 bb (fun go : bb = Sa => apart (by rw [← go]; exact eb))]; exact ee
    · refine then_ sh3 (Moved.trans W.gtrans ((mv.mono sub2).then_heap (Nat.le_succ _) fun bb ob eb ee => ?_) mv3) isSet5
      rw [sb2.2 bb (fun go : bb = Sa => eb (by rw [go]; exact List.mem_cons_self))]; exact ee
end
section
variable {prog : Program} {w : World} {A : Around} {E : Value → Shared → Prop} {sh : Shared}
set_option maxHeartbeats 4200000 in
theorem call_set_unlike {l : Addr} {its : Array Value} {ts : List Str} {Qe : Value → Shared → Prop}
    (quiet : A.handled = none) (isL : sh.heap.IsList l its) (ilt : PyProof.Rows.StrsAre its.toList ts) (unl : ts.Nodup) (few : ts.length + 1 < scanBound)
    (go : ∀ (h' : Heap) (tk : Nat), h'.SetOf (PySem.strKind prog w) sh.heap.objs.size (fun ky => (ts.take its.size).any (· == ky)) its.size →
      (∀ bb ob, bb < sh.heap.objs.size → sh.heap.get? bb = some ob → h'.get? bb = some ob) → Qe (.ref sh.heap.objs.size) { sh with heap := h', toks := tk }) :
    wpAny (model prog w) A (call (.type "set") [.ref l]) Qe E sh := by
  obtain ⟨c, tl, emro⟩ := PySem.F.called_set.mro
  have emade := PySem.F.called_set.made
  have sub2 := PySem.F.called_set.sub
  refine wpAny_call (codeAny_of_tree ?_)
  show wpAny _ _ (callAny (.type "set") _) _ _ _
  refine wpAny_pure ⟨Code.quiet_builtin _ (by decide +kernel), codeAny_builtin PySem.F.entry_type_call ?_⟩
  rw [Around.under_plain (weight_type_call_type "set" [.ref l] []) rfl]
  have h1 := PySem.F.called_set.notType
  have h2 := PySem.F.called_set.canCreate
  have ect := PySem.F.typeCall_set_1 (.ref l)
  repeat (any_goals (first | assumption | wp_step))

  refine codeAny_mono (code_set_new_1 (.ref l) (E := E) (Q₁ := fun obj sh4 => ∃ led : Bool, obj = .ref sh.heap.objs.size ∧ sh4 = { sh with heap := sh.heap.push { cls := .type "set", dict := none, data := .set #[] 0 (.fresh 0 0 led) } }) fun led => ⟨led, rfl, rfl⟩) fun r sh4 er => ?_
  cases r with
  | error ee => exact er
  | ok fl =>
    cases fl with
    | ret obj =>
      obtain ⟨led, rfl, rfl⟩ := er
      have isSet : (sh.heap.push { cls := .type "set", dict := none, data := .set #[] 0 (.fresh 0 0 led) }).get? sh.heap.objs.size = some { cls := .type "set", dict := none, data := .set #[] 0 (.fresh 0 0 led) } := Heap.get?_push_size _ rfl
      have eT : Shared.TypeIs { sh with heap := sh.heap.push { cls := .type "set", dict := none, data := .set #[] 0 (.fresh 0 0 led) } } (.ref sh.heap.objs.size) "set" := ⟨_, isSet, rfl⟩
      have eli := PySem.F.called_set.init.lookup
      have ebi := PySem.F.called_set.init.bind (.ref sh.heap.objs.size)
      repeat (any_goals (first | assumption | wp_step))

      refine codeAny_mono (codeAny_call_builtin (R := wants (fun r sh5 => r = .none ∧ ∃ h' tk, sh5 = { sh with heap := h', toks := tk } ∧
          h'.SetOf (PySem.strKind prog w) sh.heap.objs.size (fun ky => (ts.take its.size).any (· == ky)) its.size ∧
          (∀ bb ob, bb < sh.heap.objs.size → sh.heap.get? bb = some ob → h'.get? bb = some ob)) E) PySem.F.called_set.init.plain PySem.F.entry_set_init (check_set_init_1 eT ?_)) fun r₂ sh5 er2 => ?_
      · obtain ⟨ol, oat, ocl, nl, odl⟩ := isL
        obtain ⟨ocls, odict, odata, oslots⟩ := ol
        simp only at ocl odl
        subst ocl; subst odl
        have oat2 : (sh.heap.push { cls := .type "set", dict := none, data := .set #[] 0 (.fresh 0 0 led) }).get? l = some { cls := .type "list", dict := odict, data := .seq its nl, slots := oslots } := Heap.get?_push_of_some _ oat
        have esls := PySem.F.sub_list_set
        have eslf := PySem.F.sub_list_frozenset
        have ene : (Value.type "list" == Value.type "dict") = false := by decide
        have isL1 : (sh.heap.push { cls := .type "set", dict := none, data := .set #[] 0 (.fresh 0 0 led) }).IsList l its := ⟨_, oat2, rfl, nl, rfl⟩
        unfold Builtin.«set.__init__» noKeywords Builtin.Frozenset.updateFrom
        generalize ePI : pyIter = PI
        wp_walk
        subst ePI

        refine wpAny_pyIter_list isL1 ?_
        refine wpAny_bind (wpAny_runValue ?_)
        have ltS : l < sh.heap.objs.size := Heap.lt_size oat
        have quiet3 : A.in1.in1.in1.handled = none := by simp [quiet]
        have neI : l ≠ (sh.heap.push { cls := .type "set", dict := none, data := .set #[] 0 (.fresh 0 0 led) }).objs.size := by
          rw [Heap.size_push]; exact Nat.ne_of_lt (Nat.lt_succ_of_lt ltS)
        have apart : sh.heap.objs.size ∉ [(sh.heap.push { cls := .type "set", dict := none, data := .set #[] 0 (.fresh 0 0 led) }).objs.size, l] := by
          rw [Heap.size_push]; simp only [List.mem_cons, List.mem_singleton, List.not_mem_nil, or_false, not_or]
          exact ⟨Nat.ne_of_lt (Nat.lt_succ_self _), Nat.ne_of_gt ltS⟩
        have many : ts.length = its.size := by rw [← StrsAre.len_eq ilt, Array.length_toList]
        have each : ∀ (ix : Nat) (va : Value), its[ix]? = some va → ∃ t, va = .str (ts.getD ix Str.empty) t := fun ix va hv => strs_at ilt ix va (by rw [Array.getElem?_toList]; exact hv)
        refine loop_unlike ((Walks.list quiet3 _ l neI its).toS) sh.heap.objs.size
          apart ts many unl (by rw [← many]; exact few) each (its.size - 0) 0 _ (by omega) (Nat.zero_le _)
          ⟨⟨_, Heap.get?_push_size _ rfl, rfl, rfl⟩, (isL1.push _)⟩ ?hS0 ?then_
        case hS0 =>
          have eget : ((sh.heap.push { cls := .type "set", dict := none, data := .set #[] 0 (.fresh 0 0 led) }).push { cls := .type "list_iterator", data := .fields #[.ref l, .int 0 0] }).get? sh.heap.objs.size
              = some { cls := .type "set", dict := none, data := .set #[] 0 (.fresh 0 0 led) } := Heap.get?_push_of_some _ isSet
          exact PyProof.Rows.SetOf_congr ((PyProof.Rows.setObjOf_fresh (knd := PySem.strKind prog w) led).setOf eget (by unfold scanBound; omega)) (fun _ => rfl) rfl
        case then_ =>
          intro sh2 mv isSet2
          obtain ⟨h', g', d', tk', os'⟩ := sh2
          have eg : g' = sh.gens := mv.gens
          have ed : d' = sh.drawn := mv.drawn
          have eo : os' = sh.os := mv.os
          subst eg; subst ed; subst eo
          show wpAny _ _ _ _ _ _
          refine wpAny_pure ?_
          show wpAny _ _ (ret Value.none) _ _ _
          refine wpAny_pure ⟨rfl, h', tk', rfl, isSet2, fun bb ob eb ee => ?_⟩
          have eb1 : bb ≠ sh.heap.objs.size := Nat.ne_of_lt eb
          have eb2 : bb ≠ (sh.heap.push { cls := .type "set", dict := none, data := .set #[] 0 (.fresh 0 0 led) }).objs.size := by
            rw [Heap.size_push]; exact Nat.ne_of_lt (Nat.lt_succ_of_lt eb)
          exact mv.heap bb ob (by simp only [List.mem_cons, List.mem_singleton, List.not_mem_nil, or_false, not_or]; exact ⟨eb1, eb2⟩) (Heap.get?_push_of_some _ (Heap.get?_push_of_some _ ee))

      · cases r₂ with
        | error ee => exact er2
        | ok fl₂ =>
          cases fl₂ with
          | ret r =>
            obtain ⟨rfl, h', tk, rfl, isSet2, ekk⟩ := er2
            repeat (any_goals (first | assumption | wp_step))
            exact go _ _ isSet2 ekk
          | _ => exact er2.elim
    | _ => exact er.elim

end
end SU
namespace SU
open PySem PySem.Spec PyProof.Rows L2
/-- len(set(xs)), xs a list of texts, no two alike -/
def tLenSetU (K : PySem.W.Frag) (ta : TE) : TE := fun σ H Q => ta σ H fun x H1 => ∃ (l : Addr) (xs : List Str), x = .ref l ∧ SqL K H1 l (xs.map V.str) ∧ xs.Nodup ∧ xs.length ≤ 1000 ∧ Q (.int (xs.length : Nat)) H1
theorem pe_lenSetU {X : Cx} {a : Expr} {ta : TE} {p p2 q pos : Pos} (hc : X.calm = true) (hg : Gl X "len") (hm : X.mg "len" = none) (hg2 : Gl X "set") (hm2 : X.mg "set" = none) (ha : PE X a ta)
    (na : starEach [a] X.env = (false, eval a X.env) :: starEach [] X.env := by rfl) : PE X (.Call (.Name "len" p) [.Call (.Name "set" p2) [a] [] q] [] pos) (tLenSetU X.K ta) := by
  refine ⟨fun pins s σ H Q I said => ?_⟩
  refine Call_ (ld_blt I hg hm boot_len (PyProof.Rows.callWith_builtin1 (PyProof.Rows.args_cons ?_ rfl) rfl rfl))
  refine Call_ (ld_blt I hg2 hm2 boot_set (PyProof.Rows.callWith_type1 (PyProof.Rows.args_cons (thn (ha.run pins s σ H _ I said) fun v s1 ⟨x, H1, I1, r1, q1⟩ => PyProof.Rows.args_nil ?_) na) na rfl))
  obtain ⟨l, xs, rfl, hq, unl, few, q1⟩ := q1
  cases r1
  obtain ⟨its, r, pl, hz⟩ := I1.list hq
  refine call_set_unlike (I1.ok.hd hc) pl.isList (by simpa using strsAre_of r) unl (by unfold scanBound; omega) fun h' tk isS keep => PyProof.Rows.args_nil ?_
  have many : its.toArray.size = xs.length := by rw [List.size_toArray, ← r.length, List.length_map]
  rw [many] at isS
  obtain ⟨o, es, ep, t, ho, hex, hd, _, _, _, hf, hn⟩ := isS
  have I2 : Inv X pins σ H1 { s1 with heap := h', toks := tk } := I1.kept fun b o e => keep b o (Heap.lt_size e) e
  exact call_len_set ho hex hd hf (by rw [hn] <;> omega) ⟨.int xs.length, H1, I2.tok _, ⟨_, by rw [hn]⟩, q1⟩
end SU

/-! text * 0, text * 1; d.update(e); {**a, **b} -/
namespace BX
open PySem PySem.Spec PyProof.Rows L2
section
variable {X : Cx}
def rMulS : R2 := fun x y H Q => ∃ (z : Str) (b : Bool), x = .str z ∧ y = .int (if b = true then 1 else 0) ∧ Q (.str (if b = true then z else Str.empty)) H
theorem op_mulS : OpR X (binaryOp .Mult) rMulS := by
  intro pins s σ H x y v u Q I rx ry h
  obtain ⟨z, b, rfl, rfl, q⟩ := h
  obtain ⟨t, rfl⟩ := rx
  obtain ⟨t2, rfl⟩ := ry
  cases b with
  | false => exact PySem.P.mul_str_none (by decide) (by decide) ⟨.str Str.empty, H, I.tok _, ⟨_, rfl⟩, q⟩
  | true =>
    refine PySem.P.mul_str (by decide) (fun _ z => ?_) (fun _ z => ?_) ?_
    · exact absurd z (by simp)
    · exact absurd z (by simp)
    · show (if (1 : Int) < 1 then Made.str Str.empty else if ((1 : Int) == 1 || z.length == 0) = true then Made.val (.str z t) else _).post _ s
      rw [if_neg (by decide), if_pos (by simp)]
      exact ⟨.str z, H, I, ⟨_, rfl⟩, q⟩
/-- d.update(e), both dicts that stand there, not the same -/
def rUpd : V → List V → Hp → VK → Prop := fun x xs H Q => ∃ (a b : Addr) (kvs more : List (Key × V)), x = .ref a ∧ xs = [.ref b] ∧ a ≠ b ∧ H a = some (.dK kvs) ∧ H b = some (.dK more) ∧ kvs.length + more.length ≤ sizeLine ∧ Q .non (upd H a (.dK (mergeK kvs more)))
theorem mt_upd : MtR X "dict.update" rUpd := by
  intro pins s σ H x xs v us Q I rx rxs h
  obtain ⟨a, b, kvs, more, rfl, rfl, ne, ea, eb, few, q⟩ := h
  cases rx
  obtain ⟨u, rfl, ru⟩ := rxs.one
  obtain rfl : u = Value.ref b := ru
  obtain ⟨za, lo, va, ra, da⟩ := dk_of I.hok ea
  obtain ⟨zb, lo2, vb, rb, db⟩ := dk_of I.hok eb
  refine call_meetsIn PySem.F.slot_dict_update da.typeIs PySem.F.entry_dict_update (PySem.F.args_dict_update_2 _ _) (PySem.meets_dict_update (mixKind X.prog X.w) a b ne lo2) ⟨va, vb, da, db, by rw [← ra.length, ← rb.length]; exact few, fun h' dd _ hs => ?_⟩
  have he : ∃ q, h'.get? a = some q := let ⟨q, _, _, hq, _⟩ := dd; ⟨q, hq⟩
  have hl : (mergeK kvs more).length ≤ sizeLine := Nat.le_trans (length_mergeK more kvs) few
  exact ⟨.non, _, d_write (t' := s.toks) I (by rw [ea]; exact True.intro) hs he (dk_new hl lo (KV.merge rb ra) dd), rfl, q⟩
end
end BX

namespace BX
open PySem PySem.Spec PyProof.Rows L2
section
variable {prog : Program} {w : World} {A : Around} {E : Value → Shared → Prop} {s : Shared}
theorem put_pairs {knd : KeyKind prog w Key} {d : Addr} {kvs : List (Key × Value)} {k : Key} {key v : Value} {Q : Unit → Shared → Prop} (isk : knd.is k key = true) (hm : s.heap.DictOf knd d kvs) (few : kvs.length ≤ sizeLine)
    (then_ : ∀ h', h'.DictOf knd d (stored kvs k v) → Heap.SameBut d s.heap h' → Q () { s with heap := h' }) : wpAny (model prog w) A (dictPut d (knd.hash k) key v) Q E s := by
  obtain ⟨o, es, ep, ho, hc, hd, hk, hp, hn⟩ := hm
  have fewE : es.size ≤ sizeLine := by
    have e1 := hp.length
    have e2 : es.toList.length = es.size := by simp
    omega
  unfold dictPut
  refine wpAny_bind (wpAny_dictFind_of isk ho hd hk ?_)
  have place : (es.findIdx? fun e => knd.is k e.key) = kvs.findIdx? fun kv => decide (kv.1 = k) := by
    rw [← hp.findIdx k]
    obtain ⟨l⟩ := es
    simp
  cases at_ : es.findIdx? fun e => knd.is k e.key with
  | some i =>
    have there := any_of_findIdx_some (place ▸ at_)
    refine wpAny_updateDict ho hd (then_ _ ⟨_, _, ep, Heap.get?_update_self _ ho (Obj.isFreed_of_dict (Obj.data_mapDict hd _)), hc.mapDict _, Obj.data_mapDict hd _, hk.modify _ _, ?_, ?_⟩ (Heap.SameBut.update ..))
    · rw [stored, if_pos there]
      have hl : (es.toList.findIdx? fun e => knd.is k e.key) = some i := by
        rw [← at_]
        obtain ⟨l⟩ := es
        simp
      have z := hp.modify hn hl v
      obtain ⟨l⟩ := es
      simpa using z
    · rw [stored, if_pos there, keys_map_store]
      exact hn
  | none =>
    have off : k ∉ kvs.map (·.1) := not_mem_of_findIdx_none (place ▸ at_)
    have off2 : ¬ (kvs.any fun kv => decide (kv.1 = k)) = true := fun z => by
      obtain ⟨kv, hkv, he⟩ := List.any_eq_true.mp z
      exact off (List.mem_map.mpr ⟨kv, hkv, of_decide_eq_true he⟩)
    refine wpAny_updateDictKeys (hz := fewE) ho hd (then_ _ ⟨_, _, ep + 1, Heap.get?_update_self _ ho (Obj.isFreed_of_dict (Obj.data_mapDictKeys hd _)), hc.mapDictKeys _, Obj.data_mapDictKeys hd _, hk.push isk _, ?_, ?_⟩ (Heap.SameBut.update ..))
    · rw [stored, if_neg off2]
      have z := hp.append isk (knd.hash k) v
      obtain ⟨l⟩ := es
      simpa using z
    · rw [stored, if_neg off2, List.map_append, List.nodup_append]
      refine ⟨hn, by simp, ?_⟩
      intro a ha b hb
      have eb : b = k := by simpa using hb
      intro z
      exact off (eb ▸ z ▸ ha)
theorem merge_dict {d a : Addr} {kvs more : List (Key × Value)} {Q : Unit → Shared → Prop} (ne : d ≠ a) (lo : (a == sysModules) = false) (hd : s.heap.DictOf (mixKind prog w) d kvs) (ha : s.heap.DictOf (mixKind prog w) a more) (few : kvs.length + more.length ≤ sizeLine)
    (then_ : ∀ h', h'.DictOf (mixKind prog w) d (merged kvs more) → Heap.SameBut d s.heap h' → Q () { s with heap := h' }) : wpAny (model prog w) A (mergeMapping d (.ref a) false) Q E s := by
  obtain ⟨od, esd, epd, hod, hcd, hdd, hkd, hpd, hnd⟩ := id hd
  obtain ⟨oo, eso, epo, hoo, hco, hdo', hko, hpo, hno⟩ := id ha
  have many : more.length = eso.size := by rw [← hpo.length]; simp
  unfold mergeMapping
  refine wpAny_bind (wpAny_isInstance ha.typeIs isSubtype_dict_dict ?_)
  simp only [if_true]
  refine wpAny_bind (wpAny_specialOf ha.typeIs PySem.F.slot_dict_iter.lookup ?_)
  simp only [beq_self_eq_true]
  refine wpAny_bind (wpAny_pure ?_)
  dsimp only
  rw [lo]
  simp only [Bool.false_eq_true, if_false]
  refine wpAny_bind (wpAny_dictEntries hod hdd ?_)
  have body : wpAny (model prog w) A (do
      let l ← dictEntries a
      let epoch ← dictEpoch a
      forIn (List.range l.size) PUnit.unit fun i (_ : PUnit) => (do
        let l' ← dictEntries a
        match l'[i]? with
          | some e => do
            holding [e.key, e.val] (dictPut d e.hash e.key e.val)
            let ep' ← dictEpoch a
            if (ep' != epoch) = true then do
                (unsupported "dict.changed-during-merge" : Sem PUnit)
                pure (ForInStep.yield PUnit.unit)
              else pure (ForInStep.yield PUnit.unit)
          | _ => do
            (unsupported "dict.changed-during-merge" : Sem PUnit)
            pure (ForInStep.yield PUnit.unit) : Sem (ForInStep PUnit))
      pure ()) Q E s := by
    refine wpAny_bind (wpAny_dictEntries hoo hdo' (wpAny_bind (wpAny_dictEpoch hoo hdo' (wpAny_bind ?_))))
    rw [List.range_eq_range']
    refine wpAny_forIn_list _ (fun rest _ s' => ∃ h' i, s' = { s with heap := h' } ∧ rest = List.range' i (eso.size - i) ∧ i ≤ eso.size ∧ h'.DictOf (mixKind prog w) d (merged kvs (more.take i)) ∧ h'.get? a = some oo ∧ Heap.SameBut d s.heap h')
      _ ?_ ?_ _ _ ⟨s.heap, 0, rfl, by simp, Nat.zero_le _, by simpa [merged] using hd, hoo, Heap.SameBut.refl _ _⟩
    · rintro x rest b s' ⟨h', i, rfl, hr, hi, dd, at_, sb⟩
      have below : i < eso.size := by
        rcases Nat.lt_or_ge i eso.size with z | z
        · exact z
        · rw [Nat.sub_eq_zero_of_le z] at hr
          simp at hr
      obtain ⟨rfl, er⟩ : x = i ∧ rest = List.range' (i + 1) (eso.size - (i + 1)) := by
        have e : eso.size - i = (eso.size - (i + 1)) + 1 := by omega
        rw [e, List.range'_succ] at hr
        injection hr with h1 h2
        exact ⟨h1, h2⟩
      refine wpAny_bind (wpAny_dictEntries at_ hdo' ?_)
      rw [Array.getElem?_eq_getElem below]
      obtain ⟨⟨k, v⟩, hkv⟩ : ∃ kv, more[x]? = some kv := ⟨more[x]'(by rw [many]; exact below), List.getElem?_eq_getElem _⟩
      obtain ⟨isk, isv⟩ := hpo.get? (e := eso[x]) (by simp [below]) hkv
      obtain ⟨k', isk', eh⟩ := hko eso[x] (Array.getElem_mem below)
      obtain rfl : k' = k := (mixKind prog w).inj _ _ _ isk' isk
      show wpAny _ _ (holding [eso[x].key, eso[x].val] (dictPut d eso[x].hash eso[x].key eso[x].val) >>= _) _ _ _
      rw [eh, isv]
      have fewX : (merged kvs (more.take x)).length ≤ sizeLine := by
        have e1 := merged_length_le kvs (more.take x)
        have e2 : (more.take x).length ≤ more.length := by rw [List.length_take]; omega
        omega
      refine wpAny_bind (wpAny_holding (put_pairs isk dd fewX fun h'' dd2 sb2 => ?_))
      have at2 : h''.get? a = some oo := (sb2.2 a (Ne.symm ne)).trans at_
      refine wpAny_bind (wpAny_dictEpoch at2 hdo' ?_)
      rw [if_neg (by simp)]
      exact wpAny_pure ⟨h'', x + 1, rfl, er, below, by rw [merged_take_succ kvs more x (k', v) hkv]; exact dd2, at2, sb.trans sb2⟩
    · rintro b s' ⟨h', i, rfl, hr, hi, dd, at_, sb⟩
      have last : i = eso.size := by
        rcases Nat.lt_or_ge i eso.size with z | z
        · have e : eso.size - i = (eso.size - (i + 1)) + 1 := by omega
          rw [e, List.range'_succ] at hr
          exact nomatch hr
        · exact Nat.le_antisymm hi z
      refine wpAny_pure (then_ h' ?_ sb)
      rw [last, ← many, List.take_length] at dd
      exact dd
  split
  · refine wpAny_bind (wpAny_dictEntries hoo hdo' (wpAny_bind ?_))
    refine wpAny_forIn_array' _ (fun rest _ s' => s' = s ∧ ∀ e ∈ rest, ∃ k, (mixKind prog w).is k e.key = true) _ ?_ ?_ _ _ ⟨rfl, fun e he => ?_⟩
    · rintro x rest b s' ⟨rfl, hall⟩
      obtain ⟨k, isk⟩ := hall x (List.mem_cons_self ..)
      have nr : wpAny (model prog w) A (pure (ForInStep.yield PUnit.unit)) (fun r s' => match r with | .yield b' => s' = s' ∧ ∀ e ∈ rest, ∃ k, (mixKind prog w).is k e.key = true | .done b' => True) E s' := wpAny_pure ⟨rfl, fun e he => hall e (List.mem_cons_of_mem _ he)⟩
      rcases keyIs_shape isk with ⟨i, t, e1, e2⟩ | ⟨y, t, e1, e2⟩
      · rw [e2]
        exact wpAny_pure ⟨rfl, fun e he => hall e (List.mem_cons_of_mem _ he)⟩
      · rw [e2]
        exact wpAny_pure ⟨rfl, fun e he => hall e (List.mem_cons_of_mem _ he)⟩
    · rintro b s' ⟨rfl, _⟩
      exact body
    · obtain ⟨k, isk, _⟩ := hko e (by simpa using he)
      exact ⟨k, isk⟩
  · exact body
end
end BX

namespace BX
open PySem PySem.Spec PyProof.Rows L2
/-- {**a, **b}: two dicts that stand there; the new one is made ahead of both -/
def tTwo (ta tb : TE) : TE := fun σ H Q => ∀ p, H p = none → ta σ (upd H p (.dK [])) fun x H1 => ∃ (a : Addr) (kvs : List (Key × V)), x = .ref a ∧ a ≠ p ∧ H1 a = some (.dK kvs) ∧ H1 p = some (.dK []) ∧ kvs.length ≤ 1000 ∧
  tb σ (upd H1 p (.dK (mergeK [] kvs))) fun y H2 => ∃ (b : Addr) (more : List (Key × V)), y = .ref b ∧ b ≠ p ∧ H2 b = some (.dK more) ∧ H2 p = some (.dK (mergeK [] kvs)) ∧ more.length ≤ 1000 ∧ Q (.ref p) (upd H2 p (.dK (mergeK (mergeK [] kvs) more)))
section
variable {X : Cx}
theorem merge_step {pins : List (Addr × Obj)} {σ : L2.St} {H : Hp} {s : Shared} {A : Around} {E : Value → Shared → Prop} {p a : Addr} {kvs more : List (Key × V)} {Q : Unit → Shared → Prop} (I : Inv X pins σ H s) (ne : a ≠ p) (ep : H p = some (.dK kvs)) (ea : H a = some (.dK more)) (few : kvs.length + more.length ≤ sizeLine)
    (then_ : ∀ s', Inv X pins σ (upd H p (.dK (mergeK kvs more))) s' → Q () s') : wpAny (model X.prog X.w) A (mergeMapping p (.ref a) false) Q E s := by
  obtain ⟨za, lo, va, ra, da⟩ := dk_of I.hok ep
  obtain ⟨zb, lo2, vb, rb, db⟩ := dk_of I.hok ea
  refine merge_dict (Ne.symm ne) lo2 da db (by rw [← ra.length, ← rb.length]; exact few) fun h' dd hs => then_ _ ?_
  have he : ∃ q, h'.get? p = some q := let ⟨q, _, _, hq, _⟩ := dd; ⟨q, hq⟩
  exact d_write (t' := s.toks) I (by rw [ep]; exact True.intro) hs he (dk_new (Nat.le_trans (length_mergeK more kvs) few) lo (KV.merge rb ra) dd)
theorem pe_two {e f : Expr} {pos : Pos} {ta tb : TE} (he : PE X e ta) (hf : PE X f tb) : PE X (.Dict [none, none] [e, f] pos) (tTwo ta tb) := by
  refine ⟨fun pins s σ H Q I q => ?_⟩
  have hn := I.hok.fresh (Nat.le_refl s.heap.objs.size)
  have J := I.laid (a := s.heap.objs.size) (o := .dK []) (h' := s.heap.push { cls := .type "dict", data := .dict #[] }) (t' := s.toks) (fun _ _ q => Heap.get?_push_of_some _ q) (Nat.le_refl _) (dk_empty s.heap I.big)
  rw [PySem.arm_eval_Dict]
  unfold dictDisplay
  simp only [evalEachOpt, evalEach, evalOpt, List.map_cons, List.map_nil, List.zip_cons_cons, List.zip_nil_right, List.forIn_cons, List.forIn_nil]
  refine wpAny_bind (wpAny_standAt (wpAny_bind (wpAny_bind (wpAny_bind ?_))))
  rw [if_pos (show ([] : List (Sem Value × Sem Value)).isEmpty = true from rfl)]
  refine wpAny_pure (wpAny_bind (wpAny_alloc ?_))
  refine wpAny_bind (wpAny_holding (wpAny_bind (thn (he.run pins _ σ _ _ J (q _ hn)) fun v s1 ⟨x, H1, I1, rx, a, kvs, ex, ne, ea, ep, few, q1⟩ => wpAny_bind (wpAny_standAt (wpAny_pure ?_)))))
  subst ex
  obtain rfl : v = Value.ref a := rx
  have l1 : (mergeK [] kvs).length ≤ 1000 := by
    have := length_mergeK kvs []
    rw [List.length_nil] at this
    omega
  have big : 2000 ≤ sizeLine := by decide
  refine wpAny_bind (wpAny_onRaise (wpAny_tryCatch (wpAny_onRaise (wpAny_holding (merge_step I1 ne ep ea (by rw [List.length_nil]; omega) fun s2 I2 => wpAny_pure (wpAny_bind (wpAny_bind ?_)))))))
  rw [if_pos (show ([] : List (Sem Value × Sem Value)).isEmpty = true from rfl)]
  refine wpAny_pure (wpAny_bind (wpAny_pure ?_))
  refine wpAny_bind (wpAny_holding (wpAny_bind (thn (hf.run pins _ σ _ _ I2 q1) fun v s3 ⟨y, H3, I3, ry, b, more, ey, ne2, eb, ep2, few2, q2⟩ => wpAny_bind (wpAny_standAt (wpAny_pure ?_)))))
  subst ey
  obtain rfl : v = Value.ref b := ry
  refine wpAny_bind (wpAny_onRaise (wpAny_tryCatch (wpAny_onRaise (wpAny_holding (merge_step I3 ne2 ep2 eb (by omega) fun s4 I4 => wpAny_pure (wpAny_pure (wpAny_bind ?_)))))))
  rw [if_pos (show ([] : List (Sem Value × Sem Value)).isEmpty = true from rfl)]
  exact wpAny_pure (wpAny_pure ⟨.ref s.heap.objs.size, _, I4, rfl, q2⟩)
end
end BX

namespace Bn
open PySem PySem.Spec PyProof.Rows L2
def topS (i : Nat) : Stmt := PySem.Challenge.pw_speechloom_k14_whole_everyday_words.main.body.getD i (.Pass ⟨0, 0, 0, 0⟩)
abbrev s_sewn : Stmt := topS 1
theorem sc_sewn : FnScope ["seams", "stem", "ending", "left", "right", "made"] ["seams", "stem", "ending"] (defScope s_sewn) := ⟨rfl, rfl, rfl, by decide +kernel, rfl, by decide +kernel, by decide +kernel⟩
abbrev s_values_of : Stmt := topS 3
theorem sc_values_of : FnScope ["tongue", "stem", "ending", "stems", "endings", "kind", "line", "marks", "more", "both", "names", "name"] ["tongue", "stem", "ending"] (defScope s_values_of) := ⟨rfl, rfl, rfl, by decide +kernel, rfl, by decide +kernel, by decide +kernel⟩
abbrev s_text_of : Stmt := topS 4
theorem sc_text_of : FnScope ["tongue", "stem", "ending"] ["tongue", "stem", "ending"] (defScope s_text_of) := ⟨rfl, rfl, rfl, by decide +kernel, rfl, by decide +kernel, by decide +kernel⟩
abbrev s_forms : Stmt := topS 5
theorem sc_forms : FnScope ["tongue"] ["tongue"] (defScope s_forms) := ⟨rfl, rfl, rfl, by decide +kernel, rfl, by decide +kernel, by decide +kernel⟩
abbrev s_analyses : Stmt := topS 6
theorem sc_analyses : FnScope ["tongue", "word"] ["tongue", "word"] (defScope s_analyses) := ⟨rfl, rfl, rfl, by decide +kernel, rfl, by decide +kernel, by decide +kernel⟩
abbrev s_kept_forms : Stmt := topS 7
theorem sc_kept_forms : FnScope ["tongue", "stem", "ending"] ["tongue"] (defScope s_kept_forms) := ⟨rfl, rfl, rfl, by decide +kernel, rfl, by decide +kernel, by decide +kernel⟩
abbrev s_trees_by_text : Stmt := topS 8
theorem sc_trees_by_text : FnScope ["tongue", "trees", "text", "stem", "ending"] ["tongue"] (defScope s_trees_by_text) := ⟨rfl, rfl, rfl, by decide +kernel, rfl, by decide +kernel, by decide +kernel⟩
abbrev s_places_of : Stmt := topS 14
theorem sc_places_of : FnScope ["rule", "many", "stray", "stir", "ahead", "rows", "number", "near", "place", "row", "one", "other"] ["rule"] (defScope s_places_of) := ⟨rfl, rfl, rfl, by decide +kernel, rfl, by decide +kernel, by decide +kernel⟩
abbrev s_stir_of : Stmt := topS 15
theorem sc_stir_of : FnScope ["rule", "places", "number", "place"] ["rule", "places"] (defScope s_stir_of) := ⟨rfl, rfl, rfl, by decide +kernel, rfl, by decide +kernel, by decide +kernel⟩
abbrev s_stir_at : Stmt := topS 16
theorem sc_stir_at : FnScope ["rule", "part", "place"] ["rule", "part", "place"] (defScope s_stir_at) := ⟨rfl, rfl, rfl, by decide +kernel, rfl, by decide +kernel, by decide +kernel⟩
abbrev s_order_of : Stmt := topS 17
theorem sc_order_of : FnScope ["places"] ["places"] (defScope s_order_of) := ⟨rfl, rfl, rfl, by decide +kernel, rfl, by decide +kernel, by decide +kernel⟩
abbrev s_order_without : Stmt := topS 18
theorem sc_order_without : FnScope ["places", "part", "number"] ["places", "part"] (defScope s_order_without) := ⟨rfl, rfl, rfl, by decide +kernel, rfl, by decide +kernel, by decide +kernel⟩
abbrev s_quiet_places : Stmt := topS 19
theorem sc_quiet_places : FnScope ["rule", "placings", "part", "quiet", "places", "order", "rank"] ["rule", "placings", "part"] (defScope s_quiet_places) := ⟨rfl, rfl, rfl, by decide +kernel, rfl, by decide +kernel, by decide +kernel⟩
abbrev s_quiet_at : Stmt := topS 20
theorem sc_quiet_at : FnScope ["tongue", "number", "part", "key"] ["tongue", "number", "part"] (defScope s_quiet_at) := ⟨rfl, rfl, rfl, by decide +kernel, rfl, by decide +kernel, by decide +kernel⟩
abbrev s_is_text : Stmt := topS 29
theorem sc_is_text : FnScope ["text", "most", "letter"] ["text", "most"] (defScope s_is_text) := ⟨rfl, rfl, rfl, by decide +kernel, rfl, by decide +kernel, by decide +kernel⟩
abbrev s_is_name : Stmt := topS 30
theorem sc_is_name : FnScope ["text"] ["text"] (defScope s_is_name) := ⟨rfl, rfl, rfl, by decide +kernel, rfl, by decide +kernel, by decide +kernel⟩
abbrev s_is_rank : Stmt := topS 31
theorem sc_is_rank : FnScope ["number"] ["number"] (defScope s_is_rank) := ⟨rfl, rfl, rfl, by decide +kernel, rfl, by decide +kernel, by decide +kernel⟩
abbrev s_are_unlike : Stmt := topS 32
theorem sc_are_unlike : FnScope ["things"] ["things"] (defScope s_are_unlike) := ⟨rfl, rfl, rfl, by decide +kernel, rfl, by decide +kernel, by decide +kernel⟩
abbrev s_is_feature : Stmt := topS 33
theorem sc_is_feature : FnScope ["feature", "name", "values", "told", "value"] ["feature"] (defScope s_is_feature) := ⟨rfl, rfl, rfl, by decide +kernel, rfl, by decide +kernel, by decide +kernel⟩
abbrev s_is_kind : Stmt := topS 34
theorem sc_is_kind : FnScope ["kind", "features", "name", "own", "gap", "mute", "feature"] ["kind", "features"] (defScope s_is_kind) := ⟨rfl, rfl, rfl, by decide +kernel, rfl, by decide +kernel, by decide +kernel⟩
abbrev s_is_seam : Stmt := topS 35
theorem sc_is_seam : FnScope ["seam", "text"] ["seam"] (defScope s_is_seam) := ⟨rfl, rfl, rfl, by decide +kernel, rfl, by decide +kernel, by decide +kernel⟩
abbrev s_are_marks : Stmt := topS 36
theorem sc_are_marks : FnScope ["marks", "names", "features", "name"] ["marks", "names", "features"] (defScope s_are_marks) := ⟨rfl, rfl, rfl, by decide +kernel, rfl, by decide +kernel, by decide +kernel⟩
abbrev s_is_stem : Stmt := topS 37
theorem sc_is_stem : FnScope ["stem", "features", "kinds", "text", "kind", "line", "atom", "marks", "rank", "name", "own", "gap", "mute"] ["stem", "features", "kinds"] (defScope s_is_stem) := ⟨rfl, rfl, rfl, by decide +kernel, rfl, by decide +kernel, by decide +kernel⟩
abbrev s_is_ending : Stmt := topS 38
theorem sc_is_ending : FnScope ["ending", "features", "line", "text", "marks", "rank"] ["ending", "features"] (defScope s_is_ending) := ⟨rfl, rfl, rfl, by decide +kernel, rfl, by decide +kernel, by decide +kernel⟩
abbrev s_is_bundle : Stmt := topS 39
theorem sc_is_bundle : FnScope ["bundle", "own", "features", "name", "value"] ["bundle", "own", "features"] (defScope s_is_bundle) := ⟨rfl, rfl, rfl, by decide +kernel, rfl, by decide +kernel, by decide +kernel⟩
abbrev s_is_part : Stmt := topS 40
theorem sc_is_part : FnScope ["part", "features", "kinds", "role", "kind", "bundle", "open_to_gap", "name", "own", "gap", "mute"] ["part", "features", "kinds"] (defScope s_is_part) := ⟨rfl, rfl, rfl, by decide +kernel, rfl, by decide +kernel, by decide +kernel⟩
abbrev s_have_roles : Stmt := topS 41
theorem sc_have_roles : FnScope ["parts", "kinds", "roles", "leading", "fill", "part"] ["parts", "kinds"] (defScope s_have_roles) := ⟨rfl, rfl, rfl, by decide +kernel, rfl, by decide +kernel, by decide +kernel⟩
abbrev s_is_group : Stmt := topS 42
theorem sc_is_group : FnScope ["group", "owns", "number", "feature"] ["group", "owns"] (defScope s_is_group) := ⟨rfl, rfl, rfl, by decide +kernel, rfl, by decide +kernel, by decide +kernel⟩
abbrev s_in_group_with_part : Stmt := topS 43
theorem sc_in_group_with_part : FnScope ["feature", "agrees", "pair", "group"] ["feature", "agrees"] (defScope s_in_group_with_part) := ⟨rfl, rfl, rfl, by decide +kernel, rfl, by decide +kernel, by decide +kernel⟩
abbrev s_is_order : Stmt := topS 44
theorem sc_is_order : FnScope ["order", "many", "stray", "stir", "ahead", "one", "other"] ["order", "many"] (defScope s_is_order) := ⟨rfl, rfl, rfl, by decide +kernel, rfl, by decide +kernel, by decide +kernel⟩
abbrev s_is_rule : Stmt := topS 45
theorem sc_is_rule : FnScope ["rule", "features", "kinds", "name", "rank", "kind", "bundle", "parts", "agrees", "order", "own", "owns", "part", "group", "feature"] ["rule", "features", "kinds"] (defScope s_is_rule) := ⟨rfl, rfl, rfl, by decide +kernel, rfl, by decide +kernel, by decide +kernel⟩
abbrev s_copied : Stmt := topS 48
theorem sc_copied : FnScope ["thing", "name", "inner"] ["thing"] (defScope s_copied) := ⟨rfl, rfl, rfl, by decide +kernel, rfl, by decide +kernel, by decide +kernel⟩
abbrev s_fault_in : Stmt := topS 49
theorem sc_fault_in : FnScope ["told", "features", "kinds", "looks", "word", "things", "most", "is_sound", "number", "feature", "kind"] ["told"] (defScope s_fault_in) := ⟨rfl, rfl, rfl, by decide +kernel, rfl, by decide +kernel, by decide +kernel⟩
abbrev s_first_unsound : Stmt := topS 50
theorem sc_first_unsound : FnScope ["things", "most", "is_sound", "is_named", "names", "number", "thing"] ["things", "most", "is_sound", "is_named"] (defScope s_first_unsound) := ⟨rfl, rfl, rfl, by decide +kernel, rfl, by decide +kernel, by decide +kernel⟩
abbrev s_led_by : Stmt := topS 51
theorem sc_led_by : FnScope ["rule", "roles", "part", "role"] ["rule"] (defScope s_led_by) := ⟨rfl, rfl, rfl, by decide +kernel, rfl, by decide +kernel, by decide +kernel⟩
abbrev s_first_in_ring : Stmt := topS 52
theorem sc_first_in_ring : FnScope ["rules", "steps", "number", "origin", "goal", "rule"] ["rules"] (defScope s_first_in_ring) := ⟨rfl, rfl, rfl, by decide +kernel, rfl, by decide +kernel, by decide +kernel⟩
abbrev s_kinds_led_from : Stmt := topS 53
theorem sc_kinds_led_from : FnScope ["kind", "steps", "reached", "at", "here", "origin", "goal"] ["kind", "steps"] (defScope s_kinds_led_from) := ⟨rfl, rfl, rfl, by decide +kernel, rfl, by decide +kernel, by decide +kernel⟩
abbrev s_without_doubles : Stmt := topS 54
theorem sc_without_doubles : FnScope ["names", "name"] ["names"] (defScope s_without_doubles) := ⟨rfl, rfl, rfl, by decide +kernel, rfl, by decide +kernel, by decide +kernel⟩
abbrev s_lets : Stmt := topS 56
theorem sc_lets : FnScope ["bundle", "marks", "name"] ["bundle", "marks"] (defScope s_lets) := ⟨rfl, rfl, rfl, by decide +kernel, rfl, by decide +kernel, by decide +kernel⟩
abbrev s_agreed : Stmt := topS 57
theorem sc_agreed : FnScope ["groups", "rows", "number", "feature", "group"] ["groups", "rows"] (defScope s_agreed) := ⟨rfl, rfl, rfl, by decide +kernel, rfl, by decide +kernel, by decide +kernel⟩
abbrev s_with_pair : Stmt := topS 59
theorem sc_with_pair : FnScope ["meaning", "role", "inner", "atom", "marks", "pairs"] ["meaning", "role", "inner"] (defScope s_with_pair) := ⟨rfl, rfl, rfl, by decide +kernel, rfl, by decide +kernel, by decide +kernel⟩
abbrev s_filled : Stmt := topS 60
theorem sc_filled : FnScope ["meaning", "filler", "rows", "at", "around", "number", "hole", "whole", "outer", "above", "place", "inner"] ["meaning", "filler"] (defScope s_filled) := ⟨rfl, rfl, rfl, by decide +kernel, rfl, by decide +kernel, by decide +kernel⟩
abbrev s_is_hole : Stmt := topS 61
theorem sc_is_hole : FnScope ["meaning"] ["meaning"] (defScope s_is_hole) := ⟨rfl, rfl, rfl, by decide +kernel, rfl, by decide +kernel, by decide +kernel⟩
abbrev s_rising : Stmt := topS 62
theorem sc_rising : FnScope ["pairs"] ["pairs"] (defScope s_rising) := ⟨rfl, rfl, rfl, by decide +kernel, rfl, by decide +kernel, by decide +kernel⟩
abbrev s_with_changed_pair : Stmt := topS 63
theorem sc_with_changed_pair : FnScope ["meaning", "number", "inner", "atom", "marks", "pairs", "role"] ["meaning", "number", "inner"] (defScope s_with_changed_pair) := ⟨rfl, rfl, rfl, by decide +kernel, rfl, by decide +kernel, by decide +kernel⟩
abbrev s_all_within_m : Stmt := topS 64
theorem sc_all_within_m : FnScope ["meaning", "rows", "at", "pairs", "number", "pair"] ["meaning"] (defScope s_all_within_m) := ⟨rfl, rfl, rfl, by decide +kernel, rfl, by decide +kernel, by decide +kernel⟩
abbrev s_symbol_of : Stmt := topS 67
theorem sc_symbol_of : FnScope ["tongue", "tree", "symbol", "path"] ["tongue", "tree"] (defScope s_symbol_of) := ⟨rfl, rfl, rfl, by decide +kernel, rfl, by decide +kernel, by decide +kernel⟩
abbrev s_words_of : Stmt := topS 68
theorem sc_words_of : FnScope ["tongue", "tree"] ["tongue", "tree"] (defScope s_words_of) := ⟨rfl, rfl, rfl, by decide +kernel, rfl, by decide +kernel, by decide +kernel⟩
abbrev s_meaning_of : Stmt := topS 69
theorem sc_meaning_of : FnScope ["tongue", "tree"] ["tongue", "tree"] (defScope s_meaning_of) := ⟨rfl, rfl, rfl, by decide +kernel, rfl, by decide +kernel, by decide +kernel⟩
abbrev s_cost_of : Stmt := topS 70
theorem sc_cost_of : FnScope ["tongue", "tree", "node", "around", "number"] ["tongue", "tree"] (defScope s_cost_of) := ⟨rfl, rfl, rfl, by decide +kernel, rfl, by decide +kernel, by decide +kernel⟩
abbrev s_is_sentence : Stmt := topS 71
theorem sc_is_sentence : FnScope ["tongue", "tree", "symbol", "path"] ["tongue", "tree"] (defScope s_is_sentence) := ⟨rfl, rfl, rfl, by decide +kernel, rfl, by decide +kernel, by decide +kernel⟩
abbrev s_is_whole_sentence : Stmt := topS 72
theorem sc_is_whole_sentence : FnScope ["tongue", "symbol"] ["tongue", "symbol"] (defScope s_is_whole_sentence) := ⟨rfl, rfl, rfl, by decide +kernel, rfl, by decide +kernel, by decide +kernel⟩
abbrev s_all_within : Stmt := topS 73
theorem sc_all_within : FnScope ["tree", "rows", "waiting", "row", "number", "inner"] ["tree"] (defScope s_all_within) := ⟨rfl, rfl, rfl, by decide +kernel, rfl, by decide +kernel, by decide +kernel⟩
abbrev s_told_of : Stmt := topS 75
theorem sc_told_of : FnScope ["tree", "tell", "rows", "inner", "at", "node", "around", "number", "row"] ["tree", "tell"] (defScope s_told_of) := ⟨rfl, rfl, rfl, by decide +kernel, rfl, by decide +kernel, by decide +kernel⟩
abbrev s_symbol_or_path : Stmt := topS 76
theorem sc_symbol_or_path : FnScope ["tongue", "tree", "rows", "inner", "symbol", "at", "node", "around", "number", "is_heard", "row", "below", "heard"] ["tongue", "tree"] (defScope s_symbol_or_path) := ⟨rfl, rfl, rfl, by decide +kernel, rfl, by decide +kernel, by decide +kernel⟩
abbrev s_path_to : Stmt := topS 77
theorem sc_path_to : FnScope ["rows", "at", "path"] ["rows", "at"] (defScope s_path_to) := ⟨rfl, rfl, rfl, by decide +kernel, rfl, by decide +kernel, by decide +kernel⟩
abbrev s_own_symbol : Stmt := topS 78
theorem sc_own_symbol : FnScope ["tongue", "tree", "inner", "values", "unheard", "part", "symbol", "heard"] ["tongue", "tree", "inner"] (defScope s_own_symbol) := ⟨rfl, rfl, rfl, by decide +kernel, rfl, by decide +kernel, by decide +kernel⟩
abbrev s_is_gap : Stmt := topS 79
theorem sc_is_gap : FnScope ["tongue", "kind", "values", "names", "name", "value"] ["tongue", "kind", "values"] (defScope s_is_gap) := ⟨rfl, rfl, rfl, by decide +kernel, rfl, by decide +kernel, by decide +kernel⟩
abbrev s_is_placed : Stmt := topS 80
theorem sc_is_placed : FnScope ["tongue", "number", "places", "unheard", "part"] ["tongue", "number", "places", "unheard"] (defScope s_is_placed) := ⟨rfl, rfl, rfl, by decide +kernel, rfl, by decide +kernel, by decide +kernel⟩
abbrev s_whole_of : Stmt := topS 81
theorem sc_whole_of : FnScope ["tongue", "rule", "symbols", "parts", "agrees", "bundle", "rows", "marks", "names", "gap", "symbol", "part", "name"] ["tongue", "rule", "symbols"] (defScope s_whole_of) := ⟨rfl, rfl, rfl, by decide +kernel, rfl, by decide +kernel, by decide +kernel⟩
abbrev s_marks_of : Stmt := topS 82
theorem sc_marks_of : FnScope ["tongue", "kind", "values"] ["tongue", "kind", "values"] (defScope s_marks_of) := ⟨rfl, rfl, rfl, by decide +kernel, rfl, by decide +kernel, by decide +kernel⟩
abbrev s_whole_value : Stmt := topS 83
theorem sc_whole_value : FnScope ["name", "agrees", "bundle", "rows", "group", "number", "feature"] ["name", "agrees", "bundle", "rows"] (defScope s_whole_value) := ⟨rfl, rfl, rfl, by decide +kernel, rfl, by decide +kernel, by decide +kernel⟩
abbrev s_whole_gap : Stmt := topS 84
theorem sc_whole_gap : FnScope ["parts", "symbols", "gaps", "roles", "gapped", "fill", "symbol", "part", "number", "gap"] ["parts", "symbols"] (defScope s_whole_gap) := ⟨rfl, rfl, rfl, by decide +kernel, rfl, by decide +kernel, by decide +kernel⟩
abbrev s_own_words : Stmt := topS 85
theorem sc_own_words : FnScope ["tongue", "tree", "inner", "part", "word"] ["tongue", "tree", "inner"] (defScope s_own_words) := ⟨rfl, rfl, rfl, by decide +kernel, rfl, by decide +kernel, by decide +kernel⟩
abbrev s_own_meaning : Stmt := topS 86
theorem sc_own_meaning : FnScope ["tongue", "tree", "inner"] ["tongue", "tree", "inner"] (defScope s_own_meaning) := ⟨rfl, rfl, rfl, by decide +kernel, rfl, by decide +kernel, by decide +kernel⟩
abbrev s_word_meaning : Stmt := topS 87
theorem sc_word_meaning : FnScope ["tongue", "stem", "ending", "kind", "atom", "marks", "name"] ["tongue", "stem", "ending"] (defScope s_word_meaning) := ⟨rfl, rfl, rfl, by decide +kernel, rfl, by decide +kernel, by decide +kernel⟩
abbrev s_rule_meaning : Stmt := topS 88
theorem sc_rule_meaning : FnScope ["rule", "inner", "roles", "whole", "role", "meaning", "part"] ["rule", "inner"] (defScope s_rule_meaning) := ⟨rfl, rfl, rfl, by decide +kernel, rfl, by decide +kernel, by decide +kernel⟩
abbrev s_own_cost : Stmt := topS 89
theorem sc_own_cost : FnScope ["tongue", "tree", "rule"] ["tongue", "tree"] (defScope s_own_cost) := ⟨rfl, rfl, rfl, by decide +kernel, rfl, by decide +kernel, by decide +kernel⟩
abbrev s_l_cell_at : Stmt := topS 91
theorem sc_l_cell_at : FnScope ["_law_script", "_law_k"] ["_law_script", "_law_k"] (defScope s_l_cell_at) := ⟨rfl, rfl, rfl, by decide +kernel, rfl, by decide +kernel, by decide +kernel⟩
abbrev s_l_mixed : Stmt := topS 92
theorem sc_l_mixed : FnScope ["_law_number", "_law_k", "_law_once", "_law_twice"] ["_law_number", "_law_k"] (defScope s_l_mixed) := ⟨rfl, rfl, rfl, by decide +kernel, rfl, by decide +kernel, by decide +kernel⟩
abbrev s_l_box : Stmt := topS 93
theorem sc_l_box : FnScope ["_law_script", "_law_k", "_law_cell"] ["_law_script", "_law_k"] (defScope s_l_box) := ⟨rfl, rfl, rfl, by decide +kernel, rfl, by decide +kernel, by decide +kernel⟩
abbrev s_l_take : Stmt := topS 94
theorem sc_l_take : FnScope ["_law_box_here", "_law_many", "_law_found"] ["_law_box_here", "_law_many"] (defScope s_l_take) := ⟨rfl, rfl, rfl, by decide +kernel, rfl, by decide +kernel, by decide +kernel⟩
abbrev s_l_turned : Stmt := topS 95
theorem sc_l_turned : FnScope ["_law_box_here", "_law_row", "_law_rest", "_law_found"] ["_law_box_here", "_law_row"] (defScope s_l_turned) := ⟨rfl, rfl, rfl, by decide +kernel, rfl, by decide +kernel, by decide +kernel⟩
abbrev s_l_same : Stmt := topS 96
theorem sc_l_same : FnScope ["_law_found", "_law_due_here", "_law_k"] ["_law_found", "_law_due_here"] (defScope s_l_same) := ⟨rfl, rfl, rfl, by decide +kernel, rfl, by decide +kernel, by decide +kernel⟩
abbrev s_l_nouns : Stmt := topS 97
theorem sc_l_nouns : FnScope ["_law_rows", "_law_row"] [] (defScope s_l_nouns) := ⟨rfl, rfl, rfl, by decide +kernel, rfl, by decide +kernel, by decide +kernel⟩
abbrev s_l_verbs : Stmt := topS 98
theorem sc_l_verbs : FnScope ["_law_rows", "_law_row"] [] (defScope s_l_verbs) := ⟨rfl, rfl, rfl, by decide +kernel, rfl, by decide +kernel, by decide +kernel⟩
abbrev s_l_sewing : Stmt := topS 99
theorem sc_l_sewing : FnScope ["_law_box_here", "_law_some", "_law_cut", "_law_lasts"] ["_law_box_here"] (defScope s_l_sewing) := ⟨rfl, rfl, rfl, by decide +kernel, rfl, by decide +kernel, by decide +kernel⟩
abbrev s_l_tails : Stmt := topS 100
theorem sc_l_tails : FnScope ["_law_box_here", "_law_some"] ["_law_box_here"] (defScope s_l_tails) := ⟨rfl, rfl, rfl, by decide +kernel, rfl, by decide +kernel, by decide +kernel⟩
abbrev s_l_built : Stmt := topS 101
theorem sc_l_built : FnScope ["_law_box_here", "_law_nouns_here", "_law_verbs_here", "_law_stems", "_law_features", "_law_told", "_law_row"] ["_law_box_here"] (defScope s_l_built) := ⟨rfl, rfl, rfl, by decide +kernel, rfl, by decide +kernel, by decide +kernel⟩
abbrev s_l_written : Stmt := topS 102
theorem sc_l_written : FnScope ["_law_stem", "_law_ending", "_law_table", "_law_row"] ["_law_stem", "_law_ending"] (defScope s_l_written) := ⟨rfl, rfl, rfl, by decide +kernel, rfl, by decide +kernel, by decide +kernel⟩
abbrev s_l_due : Stmt := topS 103
theorem sc_l_due : FnScope ["_law_told", "_law_found", "_law_i", "_law_stem", "_law_j", "_law_ending", "_law_values", "_law_meaning"] ["_law_told"] (defScope s_l_due) := ⟨rfl, rfl, rfl, by decide +kernel, rfl, by decide +kernel, by decide +kernel⟩
abbrev s_l_tree_right : Stmt := topS 104
theorem sc_l_tree_right : FnScope ["_law_tongue", "_law_told", "_law_row", "_law_tree", "_law_kind"] ["_law_tongue", "_law_told", "_law_row"] (defScope s_l_tree_right) := ⟨rfl, rfl, rfl, by decide +kernel, rfl, by decide +kernel, by decide +kernel⟩
abbrev s_law : Stmt := topS 105
theorem sc_law : FnScope ["_law_script", "_law_k", "_law_told", "_law_tongue", "_law_due_here", "_law_row", "_law_trees", "_law_word", "_law_i", "_law_j", "_law_other"] ["_law_script"] (defScope s_law) := ⟨rfl, rfl, rfl, by decide +kernel, rfl, by decide +kernel, by decide +kernel⟩
abbrev s_init : Stmt := inClass (topS 47) 0
theorem sc_init : FnScope ["self", "told", "why", "feature", "kind", "rule"] ["self", "told"] (defScope s_init) := ⟨rfl, rfl, rfl, by decide +kernel, rfl, by decide +kernel, by decide +kernel⟩
end Bn

namespace Bn
open PySem PySem.Spec PyProof.Rows L2 BR
section
variable {P : Program} {w : World} {K : PySem.W.Frag} {mg : Str → Option Value} {base : Heap}
/-! ### cell_at -/
def spCell (K : PySem.W.Frag) : Sp := fun vs H Q _ => ∃ (a : Addr) (ns : List Int) (k : Nat), vs = [.ref a, .int (k : Nat)] ∧ SqL K H a (ns.map V.int) ∧ ∀ m : Int, Q (.int m) H
theorem ok_cell {f : Addr} {fd : FuncData} {k : Nat} (F : Fun K "_law_cell_at" "_law_cell_at" s_l_cell_at f fd) (ml : mg "len" = none) : FnOk P w K mg base CX0 (k + 1) f fd ["_law_script", "_law_k"] (spCell K) := by
  refine F.ok sc_l_cell_at (fun vs H Q E h => ?_) (fun cdv A outer s H vs Q E hr h => ?_)
  · obtain ⟨a, ns, k, rfl, _⟩ := h
    rfl
  · obtain ⟨a, ns, k, rfl, hS, q⟩ := h
    refine ⟨_, pss_cons (ps_if (pt_cmpR op_lt (pv 1) (pe_callB call_len_seq (by rfl) ml PySem.boot_len (pa_cons (pv 0) pa_nil)) (nomark _)) (pss_one (ps_ret (pe_ix ix_list (pv 0) (pv 1) (fun _ _ => rfl)))) pss_nil) (pss_one (ps_ret pe_int)), ?_⟩
    refine ⟨_, rfl, _, rfl, a, _, rfl, .inl hS, _, _, rfl, rfl, _, rfl, ite2 (fun e => ?_) (fun e => ?_)⟩
    · have e' := of_decide_eq_true e
      rw [List.length_map] at e'
      have hk : k < ns.length := by omega
      refine ⟨_, rfl, _, rfl, a, _, _, V.int ns[k], rfl, rfl, hS, atI_nat ?_, q _⟩
      rw [List.getElem?_map, List.getElem?_eq_getElem hk]
      rfl
    · exact q _
/-! ### mixed -/
def spMixed : Sp := fun vs H Q _ => ∃ (n k : Int), vs = [.int n, .int k] ∧ ∀ m : Int, Q (.int m) H
theorem ok_mixed {f : Addr} {fd : FuncData} {k : Nat} (F : Fun K "_law_mixed" "_law_mixed" s_l_mixed f fd) : FnOk P w K mg base CX0 (k + 1) f fd ["_law_number", "_law_k"] spMixed := by
  refine F.ok sc_l_mixed (fun vs H Q E h => ?_) (fun cdv A outer s H vs Q E hr h => ?_)
  · obtain ⟨n, k, rfl, _⟩ := h
    rfl
  · obtain ⟨n, k, rfl, q⟩ := h
    refine ⟨_, pss_cons (ps_set (i := 2) sc_l_mixed.nd rfl (.inl rfl) (pe_op op_mod (pe_op op_mul (pe_op op_add (pe_op op_add (pe_op op_mod (pv 0) pe_int) (pe_op op_mul pe_int (pv 1))) pe_int) pe_int) pe_int))
      (pss_cons (ps_set (i := 3) sc_l_mixed.nd rfl (.inl rfl) (pe_op op_mod (pe_op op_mul (pv 2) (pe_op op_add (pe_op op_add (pe_op op_mod (pv 2) pe_int) (pv 1)) pe_int)) pe_int))
      (pss_one (ps_ret (pe_op op_mod (pe_op op_add (pe_op op_mul (pv 3) pe_int) (pv 2)) pe_int)))), ?_⟩
    refine ⟨_, rfl, _, _, rfl, rfl, (by show (0 : Int) < 1000000007; decide), _, rfl, _, _, rfl, rfl, .inl ⟨by decide, by decide⟩, _, _, rfl, rfl, _, _, rfl, rfl, _, _, rfl, rfl, .inr ⟨by decide, by decide⟩, _, _, rfl, rfl, (by show (0 : Int) < 2147483647; decide), ?_⟩
    generalize (n % 1000000007 + 7 * k + 1) * 48271 = y
    have y0 := Int.emod_nonneg y (show (2147483647 : Int) ≠ 0 by decide)
    have y1 := Int.emod_lt_of_pos y (show (0 : Int) < 2147483647 by decide)
    refine ⟨_, rfl, _, rfl, _, _, rfl, rfl, (by show (0 : Int) < 1009; decide), _, rfl, _, _, rfl, rfl, _, _, rfl, rfl, _, _, rfl, rfl, .inl ⟨by omega, by omega⟩, _, _, rfl, rfl, (by show (0 : Int) < 998244353; decide), ?_⟩
    exact ⟨_, rfl, _, _, rfl, rfl, .inr ⟨by decide, by decide⟩, _, rfl, _, _, rfl, rfl, _, _, rfl, rfl, (by show (0 : Int) < 2147483629; decide), q _⟩
theorem bit_lo (b : Bool) : -(2 ^ 64) < (if b = true then (1 : Int) else 0) := by cases b <;> decide
theorem bit_hi (b : Bool) : (if b = true then (1 : Int) else 0) < 2 ^ 64 := by cases b <;> decide
/-! ### box -/
def spBox (K : PySem.W.Frag) : Sp := fun vs H Q _ => ∃ (a : Addr) (ns : List Int) (k : Nat), vs = [.ref a, .int (k : Nat)] ∧ SqL K H a (ns.map V.int) ∧ ∀ p H', H p = none → Same H H' → Bx H' p → Q (.ref p) H'
theorem ok_box {f fC fM : Addr} {fd fdC fdM : FuncData} (F : Fun K "_law_box" "_law_box" s_l_box f fd)
    (kC : PySem.W.keepIn K (.ref fC) = true) (bC : Binds K fdC ["_law_script", "_law_k"] []) (gC : mg "_law_cell_at" = some (.ref fC)) (GC : FnOk P w K mg base CX0 1 fC fdC ["_law_script", "_law_k"] (spCell K))
    (kM : PySem.W.keepIn K (.ref fM) = true) (bM : Binds K fdM ["_law_number", "_law_k"] []) (gM : mg "_law_mixed" = some (.ref fM)) (GM : FnOk P w K mg base CX0 1 fM fdM ["_law_number", "_law_k"] spMixed)
    (ma : mg "abs" = none) (mi : mg "int" = none) : FnOk P w K mg base CX0 2 f fd ["_law_script", "_law_k"] (spBox K) := by
  refine F.ok sc_l_box (fun vs H Q E h => ?_) (fun cdv A outer s H vs Q E hr h => ?_)
  · obtain ⟨a, ns, k, rfl, _⟩ := h
    rfl
  · obtain ⟨a, ns, k, rfl, hS, q⟩ := h
    refine ⟨_, pss_cons (ps_set (i := 2) sc_l_box.nd rfl (.inl rfl) (pe_call GC hr (by rfl) gC kC bC .nil pass0 (pa_cons (pv 0) (pa_cons (pv 1) pa_nil))))
      (pss_one (ps_ret (pe_lst (pa_cons (pe_op op_mul (pe_callB call_abs (by rfl) ma (by decide +kernel) (pa_cons (pv 2) pa_nil)) (pe_callTy call_int1 (by rfl) mi (by decide +kernel) (pa_cons (pe_cmpR op_ge (pe_callB call_abs (by rfl) ma (by decide +kernel) (pa_cons (pv 2) pa_nil)) (pe_op op_pow pe_int pe_int) (nomark _)) pa_nil)))
        (pa_cons (pe_call GM hr (by rfl) gM kM bM .nil pass0 (pa_cons (pv 2) (pa_cons (pe_op op_add pe_int (pv 1)) pa_nil))) (pa_cons pe_int pa_nil)))))), ?_⟩
    refine ⟨_, rfl, _, rfl, a, ns, k, rfl, hS, fun c => ?_⟩
    refine ⟨_, rfl, _, rfl, _, rfl, _, rfl, _, _, rfl, rfl, ⟨by decide, by decide, by decide⟩, _, _, rfl, rfl, .inr ⟨_, rfl, _, _, rfl, rfl, .inr ⟨bit_lo _, bit_hi _⟩, _, rfl, _, rfl, _, _, rfl, rfl, _, _, rfl, fun m => ⟨(show 3 ≤ sizeLine by decide), fun p np => ?_⟩⟩⟩
    exact q p _ np (same_new np) ⟨_, _, _, upd_same⟩
/-! ### take -/
def spTake : Sp := fun vs H Q _ => ∃ (b : Addr) (m : Int), vs = [.ref b, .int m] ∧ Bx H b ∧ 0 < m ∧ m < 1073741824 ∧ ∀ (n : Nat) H', (n : Int) < m → Kb b H H' → Q (.int (n : Nat)) H'
theorem ok_take {f fM : Addr} {fd fdM : FuncData} (F : Fun K "_law_take" "_law_take" s_l_take f fd)
    (kM : PySem.W.keepIn K (.ref fM) = true) (bM : Binds K fdM ["_law_number", "_law_k"] []) (gM : mg "_law_mixed" = some (.ref fM)) (GM : FnOk P w K mg base CX0 1 fM fdM ["_law_number", "_law_k"] spMixed) : FnOk P w K mg base CX0 2 f fd ["_law_box_here", "_law_many"] spTake := by
  refine F.ok sc_l_take (fun vs H Q E h => ?_) (fun cdv A outer s H vs Q E hr h => ?_)
  · obtain ⟨b, m, rfl, _⟩ := h
    rfl
  · obtain ⟨b, m, rfl, ⟨x, y, z, hb⟩, m0, m1, q⟩ := h
    have fin : ∀ (t : Int) (H' : Hp), Kb b H H' → Q (.int (t % m)) H' := fun t H' k => by
      have t0 := Int.emod_nonneg t (show m ≠ 0 by omega)
      have t1 := Int.emod_lt_of_pos t m0
      have e : t % m = (((t % m).toNat : Nat) : Int) := (Int.toNat_of_nonneg t0).symm
      rw [e]
      exact q _ _ (by omega) k
    refine ⟨_, pss_cons (ps_if (pt_cmpR op_gt (pe_ix ix_list (pv 0) pe_int (fun _ _ => rfl)) pe_int (nomark _))
        (pss_cons (ps_set (i := 2) sc_l_take.nd rfl (.inl rfl) (pe_op op_mod (pe_ix ix_list (pv 0) pe_int (fun _ _ => rfl)) (pv 1)))
        (pss_cons (ps_asg (pe_op op_fdiv (pe_ix ix_list (pv 0) pe_int (fun _ _ => rfl)) (pv 1)) (pg_sub (pv 0) pe_int set_list))
        (pss_one (ps_ret (pv 2))))) pss_nil)
      (pss_cons (ps_asg (pe_op op_add (pe_ix ix_list (pv 0) pe_int (fun _ _ => rfl)) pe_int) (pg_sub (pv 0) pe_int set_list))
      (pss_one (ps_ret (pe_op op_mod (pe_call GM hr (by rfl) gM kM bM .nil pass0 (pa_cons (pe_ix ix_list (pv 0) pe_int (fun _ _ => rfl)) (pa_cons (pe_ix ix_list (pv 0) pe_int (fun _ _ => rfl)) pa_nil))) (pv 1))))), ?_⟩
    have hL : SqL K H b [.int x, .int y, .int z] := .inl (.inl hb)
    refine ⟨_, rfl, b, _, _, .int x, rfl, rfl, hL, rfl, _, _, rfl, rfl, _, rfl, ite2 (fun e => ?_) (fun e => ?_)⟩
    · refine ⟨_, rfl, b, _, _, .int x, rfl, rfl, hL, rfl, _, rfl, _, _, rfl, rfl, m0, ?_⟩
      refine ⟨_, rfl, b, _, _, .int x, rfl, rfl, hL, rfl, _, rfl, _, _, rfl, rfl, ⟨m0, m1⟩, _, rfl, b, _, _, 0, rfl, rfl, hb, rfl, ?_⟩
      exact ⟨_, rfl, fin x _ ⟨Kp.put, ⟨_, _, _, upd_same⟩⟩⟩
    · refine ⟨_, rfl, b, _, _, .int z, rfl, rfl, hL, rfl, _, _, rfl, rfl, _, rfl, b, _, _, 2, rfl, rfl, hb, rfl, ?_⟩
      have hL2 : SqL K (upd H b (.lst [.int x, .int y, .int (z + 1)])) b [.int x, .int y, .int (z + 1)] := .inl (.inl upd_same)
      refine ⟨_, rfl, b, _, _, .int y, rfl, rfl, hL2, rfl, _, rfl, b, _, _, .int (z + 1), rfl, rfl, hL2, rfl, _, _, rfl, fun n1 => ?_⟩
      exact ⟨_, rfl, _, _, rfl, rfl, m0, fin n1 _ ⟨Kp.put, ⟨_, _, _, upd_same⟩⟩⟩
end
end Bn

namespace Bn
open PySem PySem.Spec PyProof.Rows L2 BR GX RM GY
section
variable {K : PySem.W.Frag} {H : Hp} {a D : Addr} {xs ys : List V} {kvs : List (Key × V)} {o : HO}
theorem sqT_updL (h : SqT K H a xs) (e : H D = some (.lst ys)) : SqT K (upd H D o) a xs := by
  rcases h with (h | ⟨ob, h⟩) | h
  · exact .inl (.inl (by rw [upd_ne (ne_of h e (by intro z; cases z))]; exact h))
  · exact .inl (.inr ⟨ob, by rw [upd_ne (ne_of h e (by intro z; cases z))]; exact h⟩)
  · exact .inr h
theorem sqT_updD (h : SqT K H a xs) (e : H D = some (.dK kvs)) : SqT K (upd H D o) a xs := by
  rcases h with (h | ⟨ob, h⟩) | h
  · exact .inl (.inl (by rw [upd_ne (ne_of h e (by intro z; cases z))]; exact h))
  · exact .inl (.inr ⟨ob, by rw [upd_ne (ne_of h e (by intro z; cases z))]; exact h⟩)
  · exact .inr h
theorem sqT_updF {ob : Obj} (h : SqT K H a xs) (e : H D = some (.frz ob (.dK kvs))) : SqT K (upd H D o) a xs := by
  rcases h with (h | ⟨ob', h⟩) | h
  · exact .inl (.inl (by rw [upd_ne (ne_of h e (by intro z; cases z))]; exact h))
  · exact .inl (.inr ⟨ob', by rw [upd_ne (ne_of h e (by intro z; cases z))]; exact h⟩)
  · exact .inr h
end
theorem valV_nd {kvs : List (Key × V)} (nd : (kvs.map (·.1)).Nodup) : ∀ {i : Nat} {k : Key} {v : V}, kvs[i]? = some (k, v) → valV kvs k = some v := by
  induction kvs with
  | nil => intro i k v e; simp at e
  | cons p r ih =>
    intro i k v e
    rw [List.map_cons, List.nodup_cons] at nd
    unfold valV
    rw [List.find?_cons]
    cases i with
    | zero =>
      cases Option.some.inj e
      simp
    | succ j =>
      have e' : r[j]? = some (k, v) := e
      have ne : ¬ p.1 = k := fun z => nd.1 (z ▸ List.mem_map.mpr ⟨_, List.mem_of_getElem? e', rfl⟩)
      rw [decide_eq_false ne]
      exact ih nd.2 e'
theorem putK_new {kvs : List (Key × V)} {k : Key} {v : V} (h : k ∉ kvs.map (·.1)) : putK kvs k v = kvs ++ [(k, v)] := by
  unfold putK
  rw [if_neg]
  intro z
  obtain ⟨kv, hkv, e⟩ := List.any_eq_true.mp z
  exact h (List.mem_map.mpr ⟨kv, hkv, of_decide_eq_true e⟩)
theorem small_line {n : Nat} (h : n < 1000) : n < sizeLine := Nat.lt_of_lt_of_le h (by decide)
theorem room_gen5 {k : Nat} {A : Around} (hr : Room (k + 5) A) (env : Env) : Room k (A.in1.in1.in1.in1.deeper env) := ((((hr.in1).in1).in1).in1).deeper env
theorem ty_tup {K : PySem.W.Frag} {H : Hp} {a : Addr} {xs : List V} (h : SqT K H a xs) : TyX K H (.ref a) (.type "tuple") := by
  rcases h with (h | ⟨ob, h⟩) | ⟨o, its, n, h1, h2, _⟩
  · exact .base (.tup h)
  · exact .fTuple h
  · exact .kTuple h1 h2
section
variable {P : Program} {w : World} {K : PySem.W.Frag} {mg : Str → Option Value} {base : Heap}
def spCopied (K : PySem.W.Frag) (T : Tb) (n : Nat) : Sp := fun vs H Q _ => ∃ (v : V) (d : PyData) (N : Addr → Prop), vs = [v] ∧ Dq K H N n v d ∧ TbOk T H ∧ ∀ (v' : V) (H' : Hp), SL T H H' → Dq K H' (fun b => H b = none) n v' d → Q v' H'
abbrev NCo : List Str := ["thing", "name", "inner"]
def spPrev (K : PySem.W.Frag) (T : Tb) : Nat → Sp
  | 0 => fun _ _ _ _ => False
  | n + 1 => spCopied K T n
theorem ok_copied1 {f c0 pT : Addr} {fd : FuncData} {T : Tb} {n L : Nat} (F : FunC K "copied" "copied" s_copied f fd c0) (TB : GxR.TabB base mg c0 pT) (hP : pT ∈ T.ps) (hF : T.F ∉ T.ps) (bC : Binds K fd ["thing"] []) (gC : mg "copied" = some (.ref f))
    (mi : mg "isinstance" = none) (md : mg "dict" = none) (ml : mg "list" = none) (mt : mg "tuple" = none) (GC : FnOk P w K mg base CX0 L f fd ["thing"] (spPrev K T n)) : FnOk P w K mg base CX0 (L + 6) f fd ["thing"] (spCopied K T n) := by
  refine F.ok sc_copied (fun vs H Q E h => ?_) (fun A outer s H vs Q E hr h => ?_)
  · obtain ⟨v, d, N, rfl, _⟩ := h
    rfl
  · obtain ⟨v, d, N, rfl, hD, hT, q⟩ := h
    have hu := hu_of hr
    refine ⟨_, pss_cons (ps_if (pt_val (pe_callB call_isi (by rfl) mi (by decide +kernel) (pa_cons (pv 0) (pa_cons (pe_bltn (v := .ty "dict") (by rfl) md (by decide +kernel) rfl) pa_nil))))
        (pss_one (ps_ret (pe_lock (pe_dc (own := [("name", 1)]) (g := gName 1) rfl sc_copied.nd (pi_keys (pv 0))
          (blkOk_by (own := [("name", 1)]) (N := NCo) (sc := defScope s_copied) (by decide +kernel))
          (fun _ _ _ _ _ => pg_name (i := 1) sc_copied.nd rfl (Or.inl rfl)) (fun _ _ _ _ _ => pts_nil) (fun _ _ _ _ _ => pv 1)
          (fun _ _ _ _ _ => pe_call GC (hr.mono (by omega)) (by rfl) gC F.kp bC .nil pass0 (pa_cons (pe_dget hu (pv 0) (pv 1) (fun _ _ => rfl)) pa_nil)))))) pss_nil)
      (pss_cons (ps_if (pt_val (pe_callB call_isi (by rfl) mi (by decide +kernel) (pa_cons (pv 0) (pa_cons (pe_bltn (v := .ty "list") (by rfl) ml (by decide +kernel) rfl) pa_nil))))
        (pss_one (ps_ret (pe_lc (own := [("inner", 2)]) (g := gName 2) rfl sc_copied.nd (pi_list (pv 0))
          (blkOk_by (own := [("inner", 2)]) (N := NCo) (sc := defScope s_copied) (by decide +kernel))
          (fun _ _ _ _ _ => pg_name (i := 2) sc_copied.nd rfl (Or.inl rfl)) (fun _ _ _ _ _ => pts_nil)
          (fun _ _ _ _ _ => pe_call GC (hr.mono (by omega)) (by rfl) gC F.kp bC .nil pass0 (pa_cons (pv 2) pa_nil))))) pss_nil)
      (pss_cons (ps_if (pt_val (pe_callB call_isi (by rfl) mi (by decide +kernel) (pa_cons (pv 0) (pa_cons (pe_bltn (v := .ty "tuple") (by rfl) mt (by decide +kernel) rfl) pa_nil))))
        (pss_one (ps_ret (pe_tupG (own := [("inner", 2)]) (g := gName 2) (k := L) hr (by rfl) mt TB rfl rfl sc_copied.nd (pi_tup (pv 0))
          (blkOk_by (own := [("inner", 2)]) (N := NCo) (sc := defScope s_copied) (by decide +kernel)) rfl (by decide +kernel) rfl
          (fun _ _ _ _ _ _ => pg_name (i := 2) sc_copied.nd rfl (Or.inl rfl)) (fun _ _ _ _ _ _ => pts_nil)
          (fun _ _ _ _ _ _ => pe_call GC (room_gen5 hr _) (by rfl) gC F.kp bC .nil pass0 (pa_cons (pv 2) pa_nil))))) pss_nil)
      (pss_one (ps_ret (pv 0))))), ?_⟩
    cases hD with
    | non =>
      have ty : TyX K H .non (.type "NoneType") := (.base .non)
      exact ⟨_, rfl, _, .ty "dict", .type "NoneType", .type "dict", false, rfl, .ty "dict", ty, kit_ty (by decide +kernel), false, rfl, iteF ⟨_, rfl, _, .ty "list", .type "NoneType", .type "list", false, rfl, .ty "list", ty, kit_ty (by decide +kernel), false, rfl, iteF ⟨_, rfl, _, .ty "tuple", .type "NoneType", .type "tuple", false, rfl, .ty "tuple", ty, kit_ty (by decide +kernel), false, rfl, iteF ⟨_, rfl, q _ H (SL.refl hT) .non⟩⟩⟩⟩
    | bl b =>
      have ty : TyX K H (.bl b) (.type "bool") := (.base (.bl b))
      exact ⟨_, rfl, _, .ty "dict", .type "bool", .type "dict", false, rfl, .ty "dict", ty, kit_ty (by decide +kernel), false, rfl, iteF ⟨_, rfl, _, .ty "list", .type "bool", .type "list", false, rfl, .ty "list", ty, kit_ty (by decide +kernel), false, rfl, iteF ⟨_, rfl, _, .ty "tuple", .type "bool", .type "tuple", false, rfl, .ty "tuple", ty, kit_ty (by decide +kernel), false, rfl, iteF ⟨_, rfl, q _ H (SL.refl hT) (.bl b)⟩⟩⟩⟩
    | int i =>
      have ty : TyX K H (.int i) (.type "int") := (.base (.int i))
      exact ⟨_, rfl, _, .ty "dict", .type "int", .type "dict", false, rfl, .ty "dict", ty, kit_ty (by decide +kernel), false, rfl, iteF ⟨_, rfl, _, .ty "list", .type "int", .type "list", false, rfl, .ty "list", ty, kit_ty (by decide +kernel), false, rfl, iteF ⟨_, rfl, _, .ty "tuple", .type "int", .type "tuple", false, rfl, .ty "tuple", ty, kit_ty (by decide +kernel), false, rfl, iteF ⟨_, rfl, q _ H (SL.refl hT) (.int i)⟩⟩⟩⟩
    | str x =>
      have ty : TyX K H (.str x) (.type "str") := (.base (.str x))
      exact ⟨_, rfl, _, .ty "dict", .type "str", .type "dict", false, rfl, .ty "dict", ty, kit_ty (by decide +kernel), false, rfl, iteF ⟨_, rfl, _, .ty "list", .type "str", .type "list", false, rfl, .ty "list", ty, kit_ty (by decide +kernel), false, rfl, iteF ⟨_, rfl, _, .ty "tuple", .type "str", .type "tuple", false, rfl, .ty "tuple", ty, kit_ty (by decide +kernel), false, rfl, iteF ⟨_, rfl, q _ H (SL.refl hT) (.str x)⟩⟩⟩⟩
    | @dic _ m a kvs es h na hl nd hE =>
      refine ⟨_, rfl, _, .ty "dict", .type "dict", .type "dict", true, rfl, .ty "dict", .base (.dK h), kit_ty (by decide +kernel), true, rfl, iteT ?_⟩
      refine ⟨a, _, h, trivial, fun od => ⟨_, rfl, a, od, rfl, .inl ⟨kvs, upd_same, fun D nD => ?_⟩⟩⟩
      have haL : (upd H a (.frz od (.dK kvs))) a = some (.frz od (.dK kvs)) := upd_same
      have hTL : TbOk T (upd H a (.frz od (.dK kvs))) := hT.lock h
      have hEL : DqKv K (upd H a (.frz od (.dK kvs))) (fun b => N b ∧ b ≠ a) m kvs es := hE.keep (fun _ _ z => sqT_updD z h) (fun b o nb e => by rw [upd_ne nb.2]; exact e) (fun _ _ z _ => z)
      have unl : ∀ {HX : Hp}, SL T (upd H a (.frz od (.dK kvs))) HX → SL T H (upd HX a (.dK kvs)) := fun sX => SL.unlock h sX
      have backN : ∀ b, (upd H a (.frz od (.dK kvs))) b = none → H b = none ∧ b ≠ a := fun b e => by
        have ne : b ≠ a := fun z => by rw [z, haL] at e; cases e
        rw [upd_ne ne] at e
        exact ⟨e, ne⟩
      generalize upd H a (.frz od (.dK kvs)) = HL at haL hTL hEL unl backN nD ⊢
      refine dc_it (walk_keys (d := a) (o := od) (kvs := kvs)) (fun i HZ => SL T HL HZ ∧ ∃ ks, HZ D = some (.dK ks) ∧ ks.map (·.1) = (kvs.map (·.1)).take i ∧ DqKv K HZ (fun b => HL b = none ∧ b ≠ D) m ks (es.take i)) ⟨SL.of hTL (same_new nD), [], upd_same, by simp, by rw [List.take_zero]; exact .nil⟩ (fun i HZ _ z => z.1.k _ _ nt_frz haL) (fun i x HZ HZ' hi hP' hY => ?_) (fun HZ hP' => ?_)
      · obtain ⟨rfl, k, v, hkv, rfl⟩ := hY
        obtain ⟨sZ, ks, hDk, hkk, hDq⟩ := hP'
        obtain ⟨x, d, rfl, hes, hv⟩ := hEL.at hkv
        have hil : ks.length = i := by
          have := congrArg List.length hkk
          rw [List.length_map, List.length_take, List.length_map] at this
          omega
        refine ⟨rfl, tYes_in ⟨_, rfl, _, rfl, _, rfl, a, _, rfl, .inl ⟨kvs, .inr x, .inr ⟨od, sZ.k _ _ nt_frz haL⟩, rfl, (valV_nd nd hkv).symm⟩, v, d, _, rfl, hv.sl sZ, sZ.t, fun v' H' s' hv' => ?_⟩⟩
        have hD' := s'.k _ _ nt_dK hDk
        have new : (Sum.inr x : Key) ∉ ks.map (·.1) := by
          rw [hkk]
          intro z
          obtain ⟨j, hj, ej⟩ := List.mem_take_iff_getElem.mp z
          rw [List.length_map] at hj
          have e1 : (kvs.map (·.1))[i]? = some (.inr x) := by rw [List.getElem?_map, hkv]; rfl
          obtain ⟨hi2, e2⟩ := List.getElem?_eq_some_iff.mp e1
          have := (List.nodup_iff_pairwise_ne.mp nd)
          exact List.pairwise_iff_getElem.mp this j i (by rw [List.length_map]; omega) hi2 (by omega) (by rw [ej, e2])
        have nDL : HL D = none := nD
        refine ⟨ks, .inr x, rfl, hD', small_line (by omega), (sZ.trans s').ownD nDL hD', ks ++ [(.inr x, v')], ?_, ?_, ?_⟩
        · rw [putK_new new]
          exact upd_same
        · rw [List.map_append, hkk]
          have e1 : (kvs.map (·.1))[i]? = some (.inr x) := by rw [List.getElem?_map, hkv]; rfl
          rw [List.take_add_one, e1]
          rfl
        · rw [List.take_add_one, hes]
          have kp : ∀ {N0 : Addr → Prop} {z : V} {y : PyData}, (∀ b, N0 b → HL b = none ∧ b ≠ D) → Dq K H' N0 m z y → Dq K (upd H' D (.dK (putK ks (.inr x) v'))) (fun b => HL b = none ∧ b ≠ D) m z y := fun hN z => z.keep (fun _ _ y => sqT_updD y hD') (fun b o nb e => by rw [upd_ne (hN b nb).2]; exact e) (fun b _ nb _ => hN b nb)
          refine DqKv.app ((hDq.sl s').keep (fun _ _ y => sqT_updD y hD') (fun b o nb e => by rw [upd_ne nb.2]; exact e) (fun _ _ nb _ => nb)) (.cons (kp (fun b nb => ⟨sZ.free nb, fun z => by rw [z, hDk] at nb; cases nb⟩) hv') .nil)
      · obtain ⟨sZ, ks, hDk, hkk, hDq⟩ := hP'
        rw [show kvs.length = es.length from hE.len, List.take_length] at hDq
        rw [List.take_of_length_le (by rw [List.length_map]; exact Nat.le_refl _)] at hkk
        have haZ := sZ.k _ _ nt_frz haL
        obtain ⟨nDH, nDa⟩ := backN D nD
        have hkl : ks.length = kvs.length := by
          have := congrArg List.length hkk
          rw [List.length_map, List.length_map] at this
          exact this
        refine ⟨haZ, q _ _ (unl sZ) (.dic (by rw [upd_ne nDa]; exact hDk) nDH (by omega) (by rw [hkk]; exact nd) ?_)⟩
        exact hDq.keep (fun _ _ y => sqT_updF y haZ) (fun b o nb e => by rw [upd_ne (backN b nb.1).2]; exact e) (fun b _ nb _ => ⟨(backN b nb.1).1, nb.2⟩)
    | @lst _ m a xs ds h na hl hE =>
      refine ⟨_, rfl, _, .ty "dict", .type "list", .type "dict", false, rfl, .ty "dict", .base (.lst h), kit_ty (by decide +kernel), false, rfl, iteF ⟨_, rfl, _, .ty "list", .type "list", .type "list", true, rfl, .ty "list", .base (.lst h), kit_ty (by decide +kernel), true, rfl, iteT ?_⟩⟩
      refine ⟨_, rfl, a, rfl, ⟨_, .inl (.inl h)⟩, fun D nD => ?_⟩
      refine lc_it (walk_list (K := K) (a := a) (xs := xs)) (fun i HZ => SL T H HZ ∧ ∃ ys, HZ D = some (.lst ys) ∧ DqAll K HZ (fun b => H b = none ∧ b ≠ D) m ys (ds.take i)) ⟨SL.of hT (same_new nD), [], upd_same, by rw [List.take_zero]; exact .nil⟩ (fun i HZ _ z => .inl (.inl (z.1.k _ _ nt_lst h))) (fun i x HZ HZ' hi hP' hY => ?_) (fun HZ hP' => ?_)
      · obtain ⟨rfl, hx⟩ := hY
        obtain ⟨sZ, ys, hDl, hDq⟩ := hP'
        obtain ⟨d, hds, hv⟩ := hE.at hx
        refine ⟨rfl, tYes_in ⟨_, rfl, x, d, _, rfl, hv.sl sZ, sZ.t, fun v' H' s' hv' => ?_⟩⟩
        have hD' := s'.k _ _ nt_lst hDl
        have hyl : ys.length ≤ i := by
          rw [hDq.len, List.length_take]
          omega
        refine ⟨ys, hD', small_line (by omega), (sZ.trans s').ownL nD hD', ys ++ [v'], upd_same, ?_⟩
        rw [List.take_add_one, hds]
        refine DqAll.app ((hDq.sl s').keep (fun _ _ y => sqT_updL y hD') (fun b o nb e => by rw [upd_ne nb.2]; exact e) (fun _ _ nb _ => nb)) (.cons (hv'.keep (fun _ _ y => sqT_updL y hD') (fun b o nb e => ?_) (fun b _ nb _ => ⟨sZ.free nb, fun z => ?_⟩)) .nil)
        · rw [upd_ne fun z => by rw [z, hDl] at nb; cases nb]
          exact e
        · rw [z, hDl] at nb
          cases nb
      · obtain ⟨sZ, ys, hDl, hDq⟩ := hP'
        rw [show xs.length = ds.length from hE.len, List.take_length] at hDq
        exact q _ _ sZ (.lst hDl nD (by rw [hDq.len, ← hE.len]; exact hl) (hDq.keep (fun _ _ y => y) (fun _ _ _ e => e) (fun _ _ nb _ => nb.1)))
    | @tup _ m a xs ds h hl hE =>
      refine ⟨_, rfl, _, .ty "dict", .type "tuple", .type "dict", false, rfl, .ty "dict", ty_tup h, kit_ty (by decide +kernel), false, rfl, iteF ⟨_, rfl, _, .ty "list", .type "tuple", .type "list", false, rfl, .ty "list", ty_tup h, kit_ty (by decide +kernel), false, rfl, iteF ⟨_, rfl, _, .ty "tuple", .type "tuple", .type "tuple", true, rfl, .ty "tuple", ty_tup h, kit_ty (by decide +kernel), true, rfl, iteT ?_⟩⟩⟩
      refine ⟨_, rfl, a, rfl, ⟨_, h⟩, hT.g _ hP, fun H2 hTb => ?_⟩
      have s0 : SL T H H2 := SL.tab hF hT hP hTb
      refine gx_it (walk_tup (K := K) (a := a) (xs := xs)) (fun i ys HZ => SL T H HZ ∧ DqAll K HZ (fun b => H b = none) m ys (ds.take i)) ⟨s0, by rw [List.take_zero]; exact .nil⟩ (fun i ys HZ _ z => z.1.sqT h) (fun i x ys HZ HZ' hi hP' hY => ?_) (fun ys HZ hP' => ?_)
      · obtain ⟨rfl, hx⟩ := hY
        obtain ⟨sZ, hDq⟩ := hP'
        obtain ⟨d, hds, hv⟩ := hE.at hx
        refine ⟨rfl, tYes_in ⟨_, rfl, x, d, _, rfl, hv.sl sZ, sZ.t, fun v' H' s' hv' => ?_⟩⟩
        have hyl : ys.length ≤ i := by
          rw [hDq.len, List.length_take]
          omega
        refine ⟨small_line (by omega), sZ.trans s', ?_⟩
        rw [List.take_add_one, hds]
        exact DqAll.app (hDq.sl s') (.cons (hv'.mono fun b nb => sZ.free nb) .nil)
      · obtain ⟨sZ, hDq⟩ := hP'
        rw [show xs.length = ds.length from hE.len, List.take_length] at hDq
        exact fun l nl => q _ _ (sZ.new nl) (.tup (.inl (.inl upd_same)) (by rw [hDq.len, ← hE.len]; exact hl) (hDq.same (same_new nl)))
theorem ok_copied {f c0 pT : Addr} {fd : FuncData} {T : Tb} (F : FunC K "copied" "copied" s_copied f fd c0) (TB : GxR.TabB base mg c0 pT) (hP : pT ∈ T.ps) (hF : T.F ∉ T.ps) (bC : Binds K fd ["thing"] []) (gC : mg "copied" = some (.ref f))
    (mi : mg "isinstance" = none) (md : mg "dict" = none) (ml : mg "list" = none) (mt : mg "tuple" = none) : ∀ n, FnOk P w K mg base CX0 (6 * n + 6) f fd ["thing"] (spCopied K T n)
  | 0 => ok_copied1 (L := 0) F TB hP hF bC gC mi md ml mt ⟨fun _ _ _ _ h => h.elim, fun _ _ _ _ _ _ _ _ _ _ _ _ _ h => h.elim⟩
  | n + 1 => ok_copied1 (L := 6 * n + 6) F TB hP hF bC gC mi md ml mt (ok_copied F TB hP hF bC gC mi md ml mt n)
end
end Bn

namespace Bn
open PySem PySem.Spec PyProof.Rows L2 BR GX RM GY
/-! ### words: what a lexicon has -/
structure Ft where
  n : Str
  vs : List Str
  t : Bool
structure Kd where
  n : Str
  fs : List Str
  g : Bool
  m : Bool
structure Sm where
  l : Str
  r : Str
  m : Str
structure Sd where
  x : Str
  k : Str
  l : Str
  a : Str
  ms : SS
  r : Int
structure En where
  l : Str
  x : Str
  ms : SS
  r : Int
abbrev strsD (xs : List Str) : PyData := .list (xs.map PyData.str)
abbrev msE (ms : SS) : List (PyData × PyData) := ms.map fun p => (.str p.1, .str p.2)
abbrev kvM (ms : SS) : List (Key × V) := ms.map fun p => (.inr p.1, .str p.2)
def ftD (f : Ft) : PyData := .tuple [.str f.n, strsD f.vs, .bool f.t]
def kdD (k : Kd) : PyData := .tuple [.str k.n, strsD k.fs, .bool k.g, .bool k.m]
def smD (s : Sm) : PyData := .tuple [.str s.l, .str s.r, .str s.m]
def sdD (s : Sd) : PyData := .tuple [.str s.x, .str s.k, .str s.l, .str s.a, .dict (msE s.ms), .int s.r]
def enD (e : En) : PyData := .tuple [.str e.l, .str e.x, .dict (msE e.ms), .int e.r]
abbrev lets26 : Str := "abcdefghijklmnopqrstuvwxyz"
def LetS (x : Str) : Prop := ∀ c ∈ x.cps.toList, c ∈ lets26.cps.toList
structure Tx (n : Nat) (x : Str) : Prop where
  len : x.length ≤ n
  all : LetS x
structure Nm (x : Str) : Prop where
  ne : x ≠ ""
  tx : Tx 8 x
structure Ft.Ok (f : Ft) : Prop where
  n : Nm f.n
  lo : 1 ≤ f.vs.length
  hi : f.vs.length ≤ 6
  nd : f.vs.Nodup
  vs : ∀ v ∈ f.vs, Nm v
structure Kd.Ok (fs : List Ft) (k : Kd) : Prop where
  n : Nm k.n
  hi : k.fs.length ≤ 4
  nd : k.fs.Nodup
  fs : ∀ x ∈ k.fs, ∃ f ∈ fs, f.n = x
  gm : (k.g && k.m) = false
structure Sm.Ok (s : Sm) : Prop where
  ne : s.l ≠ ""
  l : Tx 3 s.l
  r : Tx 3 s.r
  m : Tx 3 s.m
def MsOk (fs : List Ft) (ms : SS) : Prop := ∀ p ∈ ms, ∃ f ∈ fs, f.n = p.1 ∧ p.2 ∈ f.vs
structure Sd.Ok (fs : List Ft) (ks : List Kd) (s : Sd) : Prop where
  x : Nm s.x
  l : Nm s.l
  r0 : 0 ≤ s.r
  r1 : s.r ≤ 999
  k : ∃ k ∈ ks, k.n = s.k ∧ (if k.m = true then s.a = "" else Nm s.a) ∧ ∀ p ∈ s.ms, p.1 ∈ k.fs
  ms : MsOk fs s.ms
structure En.Ok (fs : List Ft) (e : En) : Prop where
  l : Nm e.l
  x : Tx 8 e.x
  r0 : 0 ≤ e.r
  r1 : e.r ≤ 999
  ms : MsOk fs e.ms
section
variable {K : PySem.W.Frag} {H H' : Hp} {N : Addr → Prop} {n : Nat} {v : V}
theorem dq_strs : ∀ {xs : List V} {zs : List Str}, DqAll K H N n xs (zs.map PyData.str) → xs = zs.map V.str
  | _, [], h => by cases h; rfl
  | _, z :: zs, h => by
    rw [List.map_cons] at h
    cases h with
    | cons h1 h2 =>
      cases h1
      rw [dq_strs h2]
      rfl
theorem dq_kv : ∀ {kvs : List (Key × V)} {ms : SS}, DqKv K H N n kvs (msE ms) → kvs = kvM ms
  | _, [], h => by cases h; rfl
  | _, m :: ms, h => by
    rw [show msE (m :: ms) = (.str m.1, .str m.2) :: msE ms from rfl] at h
    cases h with
    | cons h1 h2 =>
      cases h1
      rw [dq_kv h2]
      rfl
theorem strs_dq : ∀ {zs : List Str}, DqAll K H N n (zs.map V.str) (zs.map PyData.str)
  | [] => .nil
  | z :: zs => .cons (.str z) strs_dq
theorem kv_dq : ∀ {ms : SS}, DqKv K H N n (kvM ms) (msE ms)
  | [] => .nil
  | m :: ms => .cons (.str m.2) kv_dq
theorem ft_inv {f : Ft} (h : Dq K H N n v (ftD f)) : ∃ a l, v = .ref a ∧ SqT K H a [.str f.n, .ref l, .bl f.t] ∧ H l = some (.lst (f.vs.map V.str)) ∧ N l := by
  unfold ftD at h
  cases h with
  | tup h1 _ h2 =>
    cases h2 with
    | cons a b =>
      cases a
      cases b with
      | cons a b =>
        cases b with
        | cons c d =>
          cases c
          cases d
          cases a with
          | lst e1 e2 _ e3 =>
            rw [dq_strs e3] at e1
            exact ⟨_, _, rfl, h1, e1, e2⟩
theorem kd_inv {k : Kd} (h : Dq K H N n v (kdD k)) : ∃ a l, v = .ref a ∧ SqT K H a [.str k.n, .ref l, .bl k.g, .bl k.m] ∧ H l = some (.lst (k.fs.map V.str)) ∧ N l := by
  unfold kdD at h
  cases h with
  | tup h1 _ h2 =>
    cases h2 with
    | cons a b =>
      cases a
      cases b with
      | cons a b =>
        cases b with
        | cons c d =>
          cases c
          cases d with
          | cons c d =>
            cases c
            cases d
            cases a with
            | lst e1 e2 _ e3 =>
              rw [dq_strs e3] at e1
              exact ⟨_, _, rfl, h1, e1, e2⟩
theorem sm_inv {s : Sm} (h : Dq K H N n v (smD s)) : ∃ a, v = .ref a ∧ SqT K H a [.str s.l, .str s.r, .str s.m] := by
  unfold smD at h
  cases h with
  | tup h1 _ h2 =>
    cases h2 with
    | cons a b =>
      cases a
      cases b with
      | cons a b =>
        cases a
        cases b with
        | cons a b =>
          cases a
          cases b
          exact ⟨_, rfl, h1⟩
theorem sd_inv {s : Sd} (h : Dq K H N n v (sdD s)) : ∃ a m, v = .ref a ∧ SqT K H a [.str s.x, .str s.k, .str s.l, .str s.a, .ref m, .int s.r] ∧ H m = some (.dK (kvM s.ms)) ∧ N m ∧ s.ms.length ≤ 1000 ∧ (s.ms.map (·.1)).Nodup := by
  unfold sdD at h
  cases h with
  | tup h1 _ h2 =>
    cases h2 with
    | cons a b =>
      cases a
      cases b with
      | cons a b =>
        cases a
        cases b with
        | cons a b =>
          cases a
          cases b with
          | cons a b =>
            cases a
            cases b with
            | cons a b =>
              cases b with
              | cons c d =>
                cases c
                cases d
                cases a with
                | dic e1 e2 e4 e5 e3 =>
                  have e := dq_kv e3
                  rw [e] at e1 e4 e5
                  refine ⟨_, _, rfl, h1, e1, e2, by rw [List.length_map] at e4; exact e4, ?_⟩
                  rw [List.map_map] at e5
                  have q : (s.ms.map fun p => (Sum.inr p.1 : Key)).Nodup := e5
                  rw [show (s.ms.map fun p => (Sum.inr p.1 : Key)) = (s.ms.map (·.1)).map Sum.inr from by rw [List.map_map]; rfl] at q
                  exact (List.pairwise_map.mp q).imp fun h z => h (by rw [z])
theorem en_inv {s : En} (h : Dq K H N n v (enD s)) : ∃ a m, v = .ref a ∧ SqT K H a [.str s.l, .str s.x, .ref m, .int s.r] ∧ H m = some (.dK (kvM s.ms)) ∧ N m ∧ s.ms.length ≤ 1000 ∧ (s.ms.map (·.1)).Nodup := by
  unfold enD at h
  cases h with
  | tup h1 _ h2 =>
    cases h2 with
    | cons a b =>
      cases a
      cases b with
      | cons a b =>
        cases a
        cases b with
        | cons a b =>
          cases b with
          | cons c d =>
            cases c
            cases d
            cases a with
            | dic e1 e2 e4 e5 e3 =>
              have e := dq_kv e3
              rw [e] at e1 e4 e5
              refine ⟨_, _, rfl, h1, e1, e2, by rw [List.length_map] at e4; exact e4, ?_⟩
              rw [List.map_map] at e5
              have q : (s.ms.map fun p => (Sum.inr p.1 : Key)).Nodup := e5
              rw [show (s.ms.map fun p => (Sum.inr p.1 : Key)) = (s.ms.map (·.1)).map Sum.inr from by rw [List.map_map]; rfl] at q
              exact (List.pairwise_map.mp q).imp fun h z => h (by rw [z])
theorem kvM_val {ms : SS} (nd : (ms.map (·.1)).Nodup) {p : Str × Str} (hp : p ∈ ms) : valV (kvM ms) (.inr p.1) = some (.str p.2) := by
  obtain ⟨i, hi⟩ := List.getElem?_of_mem hp
  refine valV_nd (i := i) ?_ (by rw [List.getElem?_map, hi]; rfl)
  rw [List.map_map]
  show (ms.map fun p => (Sum.inr p.1 : Key)).Nodup
  rw [show (ms.map fun p => (Sum.inr p.1 : Key)) = (ms.map (·.1)).map Sum.inr from by rw [List.map_map]; rfl]
  refine List.pairwise_map.mpr (nd.imp ?_)
  intro a b h z
  exact h (Sum.inr.inj z)
end
end Bn

namespace Bn
open PySem PySem.Spec PyProof.Rows L2 BR GX RM GY
theorem str_line {x : Str} {n : Nat} (h : x.length ≤ n) (hn : n ≤ 1000) : x.length ≤ sizeLine := Nat.le_trans h (Nat.le_trans hn (by decide))
section
variable {P : Program} {w : World} {K : PySem.W.Frag} {mg : Str → Option Value} {base : Heap}
/-! ### is_text, is_name, is_rank, are_unlike -/
def spIsText (T : Tb) : Sp := fun vs H Q _ => ∃ (x : Str) (m : Nat), vs = [.str x, .int (m : Nat)] ∧ Tx m x ∧ m ≤ 1000 ∧ TbOk T H ∧ ∀ H', SL T H H' → Q (.bl true) H'
theorem ok_isText {f c0 pT : Addr} {fd : FuncData} {T : Tb} {k : Nat} {tL : Tok} (F : FunC K "is_text" "is_text" s_is_text f fd c0) (TB : GxR.TabB base mg c0 pT) (hP : pT ∈ T.ps) (hF : T.F ∉ T.ps) (ml : mg "len" = none) (ma : mg "all" = none) (mL : mg "LETTERS" = some (.str lets26 tL)) : FnOk P w K mg base CX0 (k + 1) f fd ["text", "most"] (spIsText T) := by
  refine F.ok sc_is_text (fun vs H Q E h => ?_) (fun A outer s H vs Q E hr h => ?_)
  · obtain ⟨x, m, rfl, _⟩ := h
    rfl
  · obtain ⟨x, m, rfl, hx, hm, hT, q⟩ := h
    refine ⟨_, pss_one (ps_ret (pe_and (pe_cmpR op_le (pe_callB call_len_str (by rfl) ml PySem.boot_len (pa_cons (pv 0) pa_nil)) (pv 1) (nomark _)) (pe_one (pe_all (own := [("letter", 2)]) (g := gName 2) hr (by rfl) ma (by decide +kernel) TB rfl rfl sc_is_text.nd (pi_str (pv 0))
      (blkOk_by (own := [("letter", 2)]) (N := ["text", "most", "letter"]) (sc := defScope s_is_text) (by decide +kernel)) rfl (by decide +kernel) rfl
      (fun _ _ _ _ _ _ => pg_name (i := 2) sc_is_text.nd rfl (Or.inl rfl)) (fun _ _ _ _ _ _ => pts_nil)
      (fun _ _ _ _ _ _ => pe_cmpR op_in_sign (pv 2) (pe_glob (v := .str lets26) (by rfl) mL ⟨_, rfl⟩) (by rfl)))))), ?_⟩
    refine ⟨_, rfl, _, rfl, str_line hx.len hm, _, rfl, _, _, rfl, rfl, _, rfl, ?_⟩
    rw [decide_eq_true (show ((x.length : Nat) : Int) ≤ (m : Nat) by exact_mod_cast hx.len)]
    refine iteT ⟨_, rfl, x, rfl, hT.g _ hP, fun H2 hTb => ?_⟩
    refine all_it (walk_str (z := x)) (fun i HZ => SL T H HZ) (SL.tab hF hT hP hTb) (fun _ _ _ _ => trivial) (fun i v HZ HZ' hi hP' hY => ?_) (fun HZ hP' => q _ hP')
    obtain ⟨rfl, c, hc, rfl⟩ := hY
    refine ⟨rfl, tYes_in ⟨_, rfl, c, _, rfl, rfl, _, rfl, fun _ => hP', fun z => ?_⟩⟩
    have : c ∈ lets26.cps.toList := hx.all c (List.mem_of_getElem? (by rw [Array.getElem?_toList]; exact hc))
    rw [decide_eq_true this] at z
    cases z
def spIsName (T : Tb) : Sp := fun vs H Q _ => ∃ (x : Str), vs = [.str x] ∧ Nm x ∧ TbOk T H ∧ ∀ H', SL T H H' → Q (.bl true) H'
theorem ok_isName {f fT : Addr} {fd fdT : FuncData} {T : Tb} {k : Nat} (F : Fun K "is_name" "is_name" s_is_name f fd) (kT : PySem.W.keepIn K (.ref fT) = true) (bT : Binds K fdT ["text", "most"] []) (gT : mg "is_text" = some (.ref fT)) (GT : FnOk P w K mg base CX0 (k + 1) fT fdT ["text", "most"] (spIsText T)) :
    FnOk P w K mg base CX0 (k + 2) f fd ["text"] (spIsName T) := by
  refine F.ok sc_is_name (fun vs H Q E h => ?_) (fun cdv A outer s H vs Q E hr h => ?_)
  · obtain ⟨x, rfl, _⟩ := h
    rfl
  · obtain ⟨x, rfl, hx, hT, q⟩ := h
    refine ⟨_, pss_one (ps_ret (pe_and (pe_cmpR op_ne (pv 0) pe_str (nomark _)) (pe_one (pe_call GT hr (by rfl) gT kT bT .nil pass0 (pa_cons (pv 0) (pa_cons pe_int pa_nil)))))), ?_⟩
    refine ⟨_, rfl, rfl, _, rfl, ?_⟩
    have ne : ¬ (V.str x = V.str "") := fun z => hx.ne (V.str.inj z)
    rw [decide_eq_false ne]
    exact iteT ⟨_, rfl, x, 8, rfl, hx.tx, by decide, hT, q⟩
def spIsRank : Sp := fun vs H Q _ => ∃ (i : Int), vs = [.int i] ∧ 0 ≤ i ∧ i ≤ 999 ∧ Q (.bl true) H
theorem ok_isRank {f : Addr} {fd : FuncData} {k : Nat} {t : Tok} (F : Fun K "is_rank" "is_rank" s_is_rank f fd) (mR : mg "MOST_RANK" = some (.int 999 t)) : FnOk P w K mg base CX0 (k + 1) f fd ["number"] spIsRank := by
  refine F.ok sc_is_rank (fun vs H Q E h => ?_) (fun cdv A outer s H vs Q E hr h => ?_)
  · obtain ⟨i, rfl, _⟩ := h
    rfl
  · obtain ⟨i, rfl, h0, h1, q⟩ := h
    refine ⟨_, pss_one (ps_ret (pe_chain op_le op_le pe_int (pv 0) (pe_glob (v := .int 999) (by rfl) mR ⟨_, rfl⟩))), ?_⟩
    refine ⟨_, rfl, _, _, rfl, rfl, _, rfl, ?_⟩
    rw [decide_eq_true h0]
    refine iteT ⟨_, _, rfl, rfl, ?_⟩
    show Q (.bl (decide (i ≤ 999))) H
    rw [decide_eq_true h1]
    exact q
def spUnlike (K : PySem.W.Frag) : Sp := fun vs H Q _ => ∃ (l : Addr) (xs : List Str), vs = [.ref l] ∧ H l = some (.lst (xs.map V.str)) ∧ xs.Nodup ∧ xs.length ≤ 1000 ∧ Q (.bl true) H
theorem ok_unlike {f : Addr} {fd : FuncData} {k : Nat} (F : Fun K "are_unlike" "are_unlike" s_are_unlike f fd) (ml : mg "len" = none) (ms : mg "set" = none) : FnOk P w K mg base CX0 (k + 1) f fd ["things"] (spUnlike K) := by
  refine F.ok sc_are_unlike (fun vs H Q E h => ?_) (fun cdv A outer s H vs Q E hr h => ?_)
  · obtain ⟨l, xs, rfl, _⟩ := h
    rfl
  · obtain ⟨l, xs, rfl, hl, nd, few, q⟩ := h
    refine ⟨_, pss_one (ps_ret (pe_cmpR op_eq (SU.pe_lenSetU rfl (by rfl) ml (by rfl) ms (pv 0)) (pe_callB call_len_seq (by rfl) ml PySem.boot_len (pa_cons (pv 0) pa_nil)) (nomark _))), ?_⟩
    refine ⟨_, rfl, l, xs, rfl, .inl (.inl hl), nd, few, _, rfl, l, _, rfl, .inl (.inl (.inl hl)), rfl, ?_⟩
    rw [List.length_map, decide_eq_true rfl]
    exact q
end
end Bn

namespace Bn
open PySem PySem.Spec PyProof.Rows L2 BR GX RM GY
/-- what is known of features, kinds: dicts by names -/
def FtsD (H : Hp) (fe : Addr) (fs : List Ft) : Prop := ∃ kvs, H fe = some (.dK kvs) ∧ ∀ f ∈ fs, ∃ l, valV kvs (.inr f.n) = some (.ref l) ∧ H l = some (.lst (f.vs.map V.str))
def KdsD (K : PySem.W.Frag) (H : Hp) (kd : Addr) (ks : List Kd) : Prop := ∃ kvs, H kd = some (.dK kvs) ∧ ∀ k ∈ ks, ∃ a l, valV kvs (.inr k.n) = some (.ref a) ∧ SqT K H a [.str k.n, .ref l, .bl k.g, .bl k.m] ∧ H l = some (.lst (k.fs.map V.str))
section
variable {T : Tb} {K : PySem.W.Frag} {H H' : Hp} {a fe : Addr} {fs : List Ft} {ks : List Kd} {u : HO}
theorem FtsD.sl (h : FtsD H fe fs) (s : SL T H H') : FtsD H' fe fs := by
  obtain ⟨kvs, h1, h2⟩ := h
  exact ⟨kvs, s.k _ _ nt_dK h1, fun f hf => let ⟨l, e1, e2⟩ := h2 f hf; ⟨l, e1, s.k _ _ nt_lst e2⟩⟩
theorem KdsD.sl (h : KdsD K H fe ks) (s : SL T H H') : KdsD K H' fe ks := by
  obtain ⟨kvs, h1, h2⟩ := h
  exact ⟨kvs, s.k _ _ nt_dK h1, fun k hk => let ⟨a, l, e1, e2, e3⟩ := h2 k hk; ⟨a, l, e1, s.sqT e2, s.k _ _ nt_lst e3⟩⟩
theorem rd_sl (h : Rd H a u) (hu : NT u) (s : SL T H H') : Rd H' a u := by
  rcases h with e | ⟨o, e⟩
  · exact .inl (s.k _ _ hu e)
  · exact .inr ⟨o, s.k _ _ nt_frz e⟩
end
theorem in_strs {xs : List Str} {x : Str} (h : x ∈ xs) : inV (.str x) (xs.map V.str) = true := by
  unfold inV
  refine List.any_eq_true.mpr ⟨.str x, List.mem_map.mpr ⟨x, h, rfl⟩, ?_⟩
  simp [eqV]
theorem flat_strs (xs : List Str) : (xs.map V.str).all flatV = true := List.all_eq_true.mpr fun v hv => by
  obtain ⟨x, _, rfl⟩ := List.mem_map.mp hv
  rfl
section
variable {P : Program} {w : World} {K : PySem.W.Frag} {mg : Str → Option Value} {base : Heap}
/-! ### is_feature -/
def spIsFeature (K : PySem.W.Frag) (T : Tb) : Sp := fun vs H Q _ => ∃ (v : V) (f : Ft) (N : Addr → Prop) (n : Nat), vs = [v] ∧ Dq K H N n v (ftD f) ∧ f.Ok ∧ TbOk T H ∧ ∀ H', SL T H H' → Q (.bl true) H'
theorem ok_isFeature {f c0 pT fN fU : Addr} {fd fdN fdU : FuncData} {T : Tb} {k : Nat} {t : Tok} (F : FunC K "is_feature" "is_feature" s_is_feature f fd c0) (TB : GxR.TabB base mg c0 pT) (hP : pT ∈ T.ps) (hF : T.F ∉ T.ps) (ml : mg "len" = none) (ma : mg "all" = none) (mV : mg "MOST_VALUES" = some (.int 6 t))
    (kN : PySem.W.keepIn K (.ref fN) = true) (bN : Binds K fdN ["text"] []) (gN : mg "is_name" = some (.ref fN)) (GN : FnOk P w K mg base CX0 (k + 2) fN fdN ["text"] (spIsName T))
    (kU : PySem.W.keepIn K (.ref fU) = true) (bU : Binds K fdU ["things"] []) (gU : mg "are_unlike" = some (.ref fU)) (GU : FnOk P w K mg base CX0 (k + 1) fU fdU ["things"] (spUnlike K)) :
    FnOk P w K mg base CX0 (k + 6) f fd ["feature"] (spIsFeature K T) := by
  refine F.ok sc_is_feature (fun vs H Q E h => ?_) (fun A outer s H vs Q E hr h => ?_)
  · obtain ⟨v, f, N, n, rfl, _⟩ := h
    rfl
  · obtain ⟨v, f, N, n, rfl, hD, hf, hT, q⟩ := h
    obtain ⟨a, l, rfl, ha, hl, _⟩ := ft_inv hD
    refine ⟨_, pss_cons (ps_asg (pv 0) (pg_tup rfl (pgs_cons (pg_name (i := 1) sc_is_feature.nd rfl (.inl rfl)) (pgs_cons (pg_name (i := 2) sc_is_feature.nd rfl (.inl rfl)) (pgs_cons (pg_name (i := 3) sc_is_feature.nd rfl (.inl rfl)) pgs_nil)))))
      (pss_cons (ps_if (PW.pt (pw_or (pt_not (pt_val (pe_call GN (hr.mono (by omega)) (by rfl) gN kN bN .nil pass0 (pa_cons (pv 1) pa_nil)))) (pw_or1 (pt_not (pt_chain op_le op_le pe_int (pe_callB call_len_seq (by rfl) ml PySem.boot_len (pa_cons (pv 2) pa_nil)) (pe_glob (v := .int 6) (by rfl) mV ⟨_, rfl⟩)))))) (pss_one (ps_ret pe_bl)) pss_nil)
      (pss_one (ps_ret (pe_and (pe_call GU (hr.mono (by omega)) (by rfl) gU kU bU .nil pass0 (pa_cons (pv 2) pa_nil)) (pe_one (pe_all (own := [("value", 4)]) (g := gName 4) hr (by rfl) ma (by decide +kernel) TB rfl rfl sc_is_feature.nd (pi_list (pv 2))
        (blkOk_by (own := [("value", 4)]) (N := ["feature", "name", "values", "told", "value"]) (sc := defScope s_is_feature) (by decide +kernel)) rfl (by decide +kernel) rfl
        (fun _ _ _ _ _ _ => pg_name (i := 4) sc_is_feature.nd rfl (Or.inl rfl)) (fun _ _ _ _ _ _ => pts_nil)
        (fun _ _ _ _ _ _ => pe_call GN (room_gen hr _) (by rfl) gN kN bN .nil pass0 (pa_cons (pv 4) pa_nil)))))))), ?_⟩
    refine ⟨_, rfl, a, _, rfl, ha, rfl, _, _, rfl, _, _, rfl, _, _, rfl, rfl, ?_⟩
    refine ⟨_, rfl, f.n, rfl, hf.n, hT, fun H1 s1 => ⟨true, rfl, iteF ?_⟩⟩
    have hl1 := s1.k _ _ nt_lst hl
    refine ⟨_, rfl, l, _, rfl, .inl (.inl (.inl hl1)), _, _, rfl, rfl, _, rfl, ?_⟩
    rw [List.length_map, decide_eq_true (show (1 : Int) ≤ (f.vs.length : Nat) by exact_mod_cast hf.lo)]
    refine iteT ⟨_, _, rfl, rfl, _, rfl, ?_⟩
    rw [decide_eq_true (show ((f.vs.length : Nat) : Int) ≤ 6 by exact_mod_cast hf.hi)]
    refine iteF ?_
    refine ⟨_, rfl, l, f.vs, rfl, hl1, hf.nd, Nat.le_trans hf.hi (by decide), _, rfl, iteT ?_⟩
    refine ⟨_, rfl, l, rfl, ⟨_, .inl (.inl hl1)⟩, s1.t.g _ hP, fun H2 hTb => ?_⟩
    refine all_it (walk_list (K := K) (a := l) (xs := f.vs.map V.str)) (fun i HZ => SL T H HZ) (s1.trans (SL.tab hF s1.t hP hTb)) (fun i HZ _ z => .inl (.inl (z.k _ _ nt_lst hl))) (fun i x HZ HZ' hi hP' hY => ?_) (fun HZ hP' => q _ hP')
    obtain ⟨rfl, hx⟩ := hY
    rw [List.getElem?_map] at hx
    obtain ⟨y, hy, rfl⟩ := Option.map_eq_some_iff.mp hx
    exact ⟨rfl, tYes_in ⟨_, rfl, y, rfl, hf.vs y (List.mem_of_getElem? hy), hP'.t, fun H3 s3 => ⟨true, rfl, fun _ => hP'.trans s3, fun z => by cases z⟩⟩⟩
end
end Bn

namespace Bn
open PySem PySem.Spec PyProof.Rows L2 BR GX RM GY
section
variable {P : Program} {w : World} {K : PySem.W.Frag} {mg : Str → Option Value} {base : Heap}
/-! ### is_kind -/
def spIsKind (K : PySem.W.Frag) (T : Tb) : Sp := fun vs H Q _ => ∃ (v : V) (fe : Addr) (kd : Kd) (fs : List Ft) (N : Addr → Prop) (n : Nat), vs = [v, .ref fe] ∧ Dq K H N n v (kdD kd) ∧ FtsD H fe fs ∧ kd.Ok fs ∧ TbOk T H ∧ ∀ H', SL T H H' → Q (.bl true) H'
theorem ok_isKind {f c0 pT fN fU : Addr} {fd fdN fdU : FuncData} {T : Tb} {k : Nat} {t : Tok} (F : FunC K "is_kind" "is_kind" s_is_kind f fd c0) (TB : GxR.TabB base mg c0 pT) (hP : pT ∈ T.ps) (hF : T.F ∉ T.ps) (ml : mg "len" = none) (ma : mg "all" = none) (mV : mg "MOST_FEATURES_OF_A_KIND" = some (.int 4 t))
    (kN : PySem.W.keepIn K (.ref fN) = true) (bN : Binds K fdN ["text"] []) (gN : mg "is_name" = some (.ref fN)) (GN : FnOk P w K mg base CX0 (k + 2) fN fdN ["text"] (spIsName T))
    (kU : PySem.W.keepIn K (.ref fU) = true) (bU : Binds K fdU ["things"] []) (gU : mg "are_unlike" = some (.ref fU)) (GU : FnOk P w K mg base CX0 (k + 1) fU fdU ["things"] (spUnlike K)) :
    FnOk P w K mg base CX0 (k + 6) f fd ["kind", "features"] (spIsKind K T) := by
  refine F.ok sc_is_kind (fun vs H Q E h => ?_) (fun A outer s H vs Q E hr h => ?_)
  · obtain ⟨v, fe, kd, fs, N, n, rfl, _⟩ := h
    rfl
  · obtain ⟨v, fe, kd, fs, N, n, rfl, hD, hfe, hk, hT, q⟩ := h
    obtain ⟨a, l, rfl, ha, hl, _⟩ := kd_inv hD
    have hu : ∀ env : Env, (_ : Around).units + 1 < cLine := fun env => hu_of (room_gen hr env)
    refine ⟨_, pss_cons (ps_asg (pv 0) (pg_tup rfl (pgs_cons (pg_name (i := 2) sc_is_kind.nd rfl (.inl rfl)) (pgs_cons (pg_name (i := 3) sc_is_kind.nd rfl (.inl rfl)) (pgs_cons (pg_name (i := 4) sc_is_kind.nd rfl (.inl rfl)) (pgs_cons (pg_name (i := 5) sc_is_kind.nd rfl (.inl rfl)) pgs_nil))))))
      (pss_cons (ps_if (PW.pt (pw_or (pt_not (pt_val (pe_call GN (hr.mono (by omega)) (by rfl) gN kN bN .nil pass0 (pa_cons (pv 2) pa_nil)))) (pw_or (pt_cmpR op_gt (pe_callB call_len_seq (by rfl) ml PySem.boot_len (pa_cons (pv 3) pa_nil)) (pe_glob (v := .int 4) (by rfl) mV ⟨_, rfl⟩) (nomark _)) (pw_or1 (pt_not (pt_val (pe_call GU (hr.mono (by omega)) (by rfl) gU kU bU .nil pass0 (pa_cons (pv 3) pa_nil)))))))) (pss_one (ps_ret pe_bl)) pss_nil)
      (pss_one (ps_ret (pe_and (pe_all (own := [("feature", 6)]) (g := gName 6) hr (by rfl) ma (by decide +kernel) TB rfl rfl sc_is_kind.nd (pi_list (pv 3))
        (blkOk_by (own := [("feature", 6)]) (N := ["kind", "features", "name", "own", "gap", "mute", "feature"]) (sc := defScope s_is_kind) (by decide +kernel)) rfl (by decide +kernel) rfl
        (fun _ _ _ _ _ _ => pg_name (i := 6) sc_is_kind.nd rfl (Or.inl rfl)) (fun _ _ _ _ _ _ => pts_nil)
        (fun _ _ _ _ _ _ => pe_cmp (pc_din (hu _) (pv 6) (pv 1)))) (pe_one (pe_not (pe_and (pv 4) (pe_one (pv 5))))))))), ?_⟩
    refine ⟨_, rfl, a, _, rfl, ha, rfl, _, _, rfl, _, _, rfl, _, _, rfl, _, _, rfl, rfl, ?_⟩
    refine ⟨_, rfl, kd.n, rfl, hk.n, hT, fun H1 s1 => ⟨true, rfl, iteF ?_⟩⟩
    have hl1 := s1.k _ _ nt_lst hl
    refine ⟨_, rfl, l, _, rfl, .inl (.inl (.inl hl1)), _, _, rfl, rfl, _, rfl, ?_⟩
    rw [List.length_map, decide_eq_false (show ¬ ((kd.fs.length : Nat) : Int) > 4 by have := hk.hi; omega)]
    refine iteF ⟨_, rfl, l, kd.fs, rfl, hl1, hk.nd, Nat.le_trans hk.hi (by decide), true, rfl, iteF ?_⟩
    refine ⟨_, rfl, l, rfl, ⟨_, .inl (.inl hl1)⟩, s1.t.g _ hP, fun H2 hTb => ?_⟩
    refine all_it (walk_list (K := K) (a := l) (xs := kd.fs.map V.str)) (fun i HZ => SL T H HZ) (s1.trans (SL.tab hF s1.t hP hTb)) (fun i HZ _ z => .inl (.inl (z.k _ _ nt_lst hl))) (fun i x HZ HZ' hi hP' hY => ?_) (fun HZ hP' => ?_)
    · obtain ⟨rfl, hx⟩ := hY
      rw [List.getElem?_map] at hx
      obtain ⟨y, hy, rfl⟩ := Option.map_eq_some_iff.mp hx
      obtain ⟨f, hf, rfl⟩ := hk.fs y (List.mem_of_getElem? hy)
      obtain ⟨kvs, e1, e2⟩ := hfe.sl hP'
      obtain ⟨l2, e3, _⟩ := e2 f hf
      exact ⟨rfl, tYes_in ⟨_, rfl, _, rfl, fe, _, rfl, .inl ⟨kvs, .inr f.n, .inl e1, rfl, e3.symm⟩, true, rfl, fun _ => hP', fun z => by cases z⟩⟩
    · refine ⟨true, rfl, iteT ⟨_, rfl, kd.g, rfl, ?_⟩⟩
      have gm := hk.gm
      cases hg : kd.g with
      | false => exact iteF ⟨false, rfl, q _ hP'⟩
      | true =>
        rw [hg] at gm
        have gm' : kd.m = false := gm
        refine iteT ⟨_, rfl, kd.m, rfl, ?_⟩
        rw [gm']
        exact q _ hP'
/-! ### is_seam -/
def spIsSeam (K : PySem.W.Frag) (T : Tb) : Sp := fun vs H Q _ => ∃ (v : V) (m : Sm) (N : Addr → Prop) (n : Nat), vs = [v] ∧ Dq K H N n v (smD m) ∧ m.Ok ∧ TbOk T H ∧ ∀ H', SL T H H' → Q (.bl true) H'
theorem ok_isSeam {f c0 pT fT : Addr} {fd fdT : FuncData} {T : Tb} {k : Nat} (F : FunC K "is_seam" "is_seam" s_is_seam f fd c0) (TB : GxR.TabB base mg c0 pT) (hP : pT ∈ T.ps) (hF : T.F ∉ T.ps) (ma : mg "all" = none)
    (kT : PySem.W.keepIn K (.ref fT) = true) (bT : Binds K fdT ["text", "most"] []) (gT : mg "is_text" = some (.ref fT)) (GT : FnOk P w K mg base CX0 (k + 1) fT fdT ["text", "most"] (spIsText T)) :
    FnOk P w K mg base CX0 (k + 5) f fd ["seam"] (spIsSeam K T) := by
  refine F.ok sc_is_seam (fun vs H Q E h => ?_) (fun A outer s H vs Q E hr h => ?_)
  · obtain ⟨v, m, N, n, rfl, _⟩ := h
    rfl
  · obtain ⟨v, m, N, n, rfl, hD, hm, hT, q⟩ := h
    obtain ⟨a, rfl, ha⟩ := sm_inv hD
    refine ⟨_, pss_one (ps_ret (pe_and (pe_cmpR op_ne (pe_ix ix_tup (pv 0) pe_int (fun _ _ => rfl)) pe_str (nomark _)) (pe_one (pe_all (own := [("text", 1)]) (g := gName 1) hr (by rfl) ma (by decide +kernel) TB rfl rfl sc_is_seam.nd (pi_tup (pv 0))
        (blkOk_by (own := [("text", 1)]) (N := ["seam", "text"]) (sc := defScope s_is_seam) (by decide +kernel)) rfl (by decide +kernel) rfl
        (fun _ _ _ _ _ _ => pg_name (i := 1) sc_is_seam.nd rfl (Or.inl rfl)) (fun _ _ _ _ _ _ => pts_nil)
        (fun _ _ _ _ _ _ => pe_call GT (room_gen hr _) (by rfl) gT kT bT .nil pass0 (pa_cons (pv 1) (pa_cons pe_int pa_nil))))))), ?_⟩
    refine ⟨_, rfl, a, _, _, V.str m.l, rfl, rfl, ha, rfl, rfl, _, rfl, ?_⟩
    have ne : ¬ (V.str m.l = V.str "") := fun z => hm.ne (V.str.inj z)
    rw [decide_eq_false ne]
    refine iteT ⟨_, rfl, a, rfl, ⟨_, ha⟩, hT.g _ hP, fun H2 hTb => ?_⟩
    refine all_it (walk_tup (K := K) (a := a) (xs := [.str m.l, .str m.r, .str m.m])) (fun i HZ => SL T H HZ) (SL.tab hF hT hP hTb) (fun i HZ _ z => z.sqT ha) (fun i x HZ HZ' hi hP' hY => ?_) (fun HZ hP' => q _ hP')
    obtain ⟨rfl, hx⟩ := hY
    have : ∃ y, x = .str y ∧ Tx 3 y := by
      match i, hx with
      | 0, hx => exact ⟨m.l, (Option.some.inj hx).symm, hm.l⟩
      | 1, hx => exact ⟨m.r, (Option.some.inj hx).symm, hm.r⟩
      | 2, hx => exact ⟨m.m, (Option.some.inj hx).symm, hm.m⟩
    obtain ⟨y, rfl, hy⟩ := this
    exact ⟨rfl, tYes_in ⟨_, rfl, y, 3, rfl, hy, by decide, hP'.t, fun H3 s3 => ⟨true, rfl, fun _ => hP'.trans s3, fun z => by cases z⟩⟩⟩
end
end Bn

namespace Bn
open PySem PySem.Spec PyProof.Rows L2 BR GX RM GY
theorem kvM_nd {ms : SS} (nd : (ms.map (·.1)).Nodup) : ((kvM ms).map (·.1)).Nodup := by
  rw [List.map_map]
  show (ms.map fun p => (Sum.inr p.1 : Key)).Nodup
  rw [show (ms.map fun p => (Sum.inr p.1 : Key)) = (ms.map (·.1)).map Sum.inr from by rw [List.map_map]; rfl]
  refine List.pairwise_map.mpr (nd.imp ?_)
  intro a b h z
  exact h (Sum.inr.inj z)
theorem kvM_at {ms : SS} {i : Nat} {k : Key} {v : V} (h : (kvM ms)[i]? = some (k, v)) : ∃ p ∈ ms, k = .inr p.1 ∧ v = .str p.2 := by
  rw [List.getElem?_map] at h
  obtain ⟨p, hp, e⟩ := Option.map_eq_some_iff.mp h
  cases e
  exact ⟨p, List.mem_of_getElem? hp, rfl, rfl⟩
section
variable {P : Program} {w : World} {K : PySem.W.Frag} {mg : Str → Option Value} {base : Heap}
/-! ### are_marks: of a kind's list of features, of all features -/
def spMarksL (T : Tb) : Sp := fun vs H Q _ => ∃ (m l fe : Addr) (ms : SS) (own : List Str) (fs : List Ft), vs = [.ref m, .ref l, .ref fe] ∧ H m = some (.dK (kvM ms)) ∧ (ms.map (·.1)).Nodup ∧ H l = some (.lst (own.map V.str)) ∧ FtsD H fe fs ∧ (∀ p ∈ ms, p.1 ∈ own) ∧ MsOk fs ms ∧ TbOk T H ∧ ∀ H', SL T H H' → Q (.bl true) H'
def spMarksD (T : Tb) : Sp := fun vs H Q _ => ∃ (m fe : Addr) (ms : SS) (fs : List Ft), vs = [.ref m, .ref fe, .ref fe] ∧ H m = some (.dK (kvM ms)) ∧ (ms.map (·.1)).Nodup ∧ FtsD H fe fs ∧ MsOk fs ms ∧ TbOk T H ∧ ∀ H', SL T H H' → Q (.bl true) H'
abbrev NMk : List Str := ["marks", "names", "features", "name"]
theorem lock_fts {H : Hp} {m fe : Addr} {kvs : List (Key × V)} {fs : List Ft} {od : Obj} (hm : H m = some (.dK kvs)) (h : FtsD H fe fs) : ∃ kv2, Rd (upd H m (.frz od (.dK kvs))) fe (.dK kv2) ∧ ∀ f ∈ fs, ∃ l, valV kv2 (.inr f.n) = some (.ref l) ∧ (upd H m (.frz od (.dK kvs))) l = some (.lst (f.vs.map V.str)) := by
  obtain ⟨kv2, e1, e2⟩ := h
  refine ⟨kv2, rd_lock e1 hm, fun f hf => ?_⟩
  obtain ⟨l, e3, e4⟩ := e2 f hf
  exact ⟨l, e3, by rw [upd_ne (ne_of e4 hm (by intro z; cases z))]; exact e4⟩
theorem ok_marksL {f c0 pT : Addr} {fd : FuncData} {T : Tb} {k : Nat} (F : FunC K "are_marks" "are_marks" s_are_marks f fd c0) (TB : GxR.TabB base mg c0 pT) (hP : pT ∈ T.ps) (hF : T.F ∉ T.ps) (ma : mg "all" = none) : FnOk P w K mg base CX0 (k + 5) f fd ["marks", "names", "features"] (spMarksL T) := by
  refine F.ok sc_are_marks (fun vs H Q E h => ?_) (fun A outer s H vs Q E hr h => ?_)
  · obtain ⟨m, l, fe, ms, own, fs, rfl, _⟩ := h
    rfl
  · obtain ⟨m, l, fe, ms, own, fs, rfl, hm, nd, hl, hfe, hown, hms, hT, q⟩ := h
    have hu : ∀ env : Env, (_ : Around).units + 1 < cLine := fun env => hu_of (room_gen hr env)
    refine ⟨_, pss_one (ps_ret (pe_lock (pe_all (own := [("name", 3)]) (g := gName 3) hr (by rfl) ma (by decide +kernel) TB rfl rfl sc_are_marks.nd (pi_keys (pv 0))
        (blkOk_by (own := [("name", 3)]) (N := NMk) (sc := defScope s_are_marks) (by decide +kernel)) rfl (by decide +kernel) rfl
        (fun _ _ _ _ _ _ => pg_name (i := 3) sc_are_marks.nd rfl (Or.inl rfl)) (fun _ _ _ _ _ _ => pts_nil)
        (fun _ _ _ _ _ _ => pe_and (pe_cmpR (op_inK (K := K) rfl) (pv 3) (pv 1) (by rfl)) (pe_one (pe_cmpR (op_inK (K := K) rfl) (pe_dget (hu _) (pv 0) (pv 3) (fun _ _ => rfl)) (pe_dget (hu _) (pv 2) (pv 3) (fun _ _ => rfl)) (by rfl))))))), ?_⟩
    refine ⟨m, _, hm, trivial, fun od => ⟨_, rfl, m, od, rfl, .inl ⟨kvM ms, upd_same, (hT.lock hm).g _ hP, fun H2 hTb => ?_⟩⟩⟩
    have hmL : (upd H m (.frz od (.dK (kvM ms)))) m = some (.frz od (.dK (kvM ms))) := upd_same
    obtain ⟨kv2, hfL, hfv⟩ := lock_fts (od := od) hm hfe
    have hlL : (upd H m (.frz od (.dK (kvM ms)))) l = some (.lst (own.map V.str)) := by rw [upd_ne (ne_of hl hm (by intro z; cases z))]; exact hl
    have s0 : SL T (upd H m (.frz od (.dK (kvM ms)))) H2 := SL.tab hF (hT.lock hm) hP hTb
    have fin : ∀ {HX : Hp}, SL T (upd H m (.frz od (.dK (kvM ms)))) HX → HX m = some (.frz od (.dK (kvM ms))) ∧ Q (.bl true) (upd HX m (.dK (kvM ms))) := fun {HX} sX => ⟨sX.k _ _ nt_frz hmL, q _ (SL.unlock hm sX)⟩
    generalize upd H m (.frz od (.dK (kvM ms))) = HL at hmL hfL hfv hlL s0 fin
    refine all_it (walk_keys (d := m) (o := od) (kvs := kvM ms)) (fun i HZ => SL T HL HZ) s0 (fun i HZ _ z => z.k _ _ nt_frz hmL) (fun i x HZ HZ' hi hP' hY => ?_) (fun HZ hP' => fin hP')
    obtain ⟨rfl, kk, v0, hkv, rfl⟩ := hY
    have hval := valV_nd (kvM_nd nd) hkv
    obtain ⟨p, hp, rfl, rfl⟩ := kvM_at hkv
    obtain ⟨g, hg, e1, e2⟩ := hms p hp
    obtain ⟨l2, e3, e4⟩ := hfv g hg
    refine ⟨rfl, tYes_in ⟨_, rfl, _, rfl, l, _, rfl, .inl (.inl (.inl (hP'.k _ _ nt_lst hlL))), rfl, flat_strs _, true, congrArg V.bl (in_strs (hown p hp)), iteT ?_⟩⟩
    refine ⟨_, rfl, _, rfl, m, _, rfl, .inl ⟨kvM ms, .inr p.1, .inr ⟨od, hP'.k _ _ nt_frz hmL⟩, rfl, hval.symm⟩, _, rfl, _, rfl, fe, _, rfl, .inl ⟨kv2, .inr p.1, rd_sl hfL nt_dK hP', rfl, by rw [← e1]; exact e3.symm⟩, l2, _, rfl, .inl (.inl (.inl (hP'.k _ _ nt_lst e4))), rfl, flat_strs _, true, congrArg V.bl (in_strs e2), fun _ => hP', fun z => by cases z⟩
theorem ok_marksD {f c0 pT : Addr} {fd : FuncData} {T : Tb} {k : Nat} (F : FunC K "are_marks" "are_marks" s_are_marks f fd c0) (TB : GxR.TabB base mg c0 pT) (hP : pT ∈ T.ps) (hF : T.F ∉ T.ps) (ma : mg "all" = none) : FnOk P w K mg base CX0 (k + 5) f fd ["marks", "names", "features"] (spMarksD T) := by
  refine F.ok sc_are_marks (fun vs H Q E h => ?_) (fun A outer s H vs Q E hr h => ?_)
  · obtain ⟨m, fe, ms, fs, rfl, _⟩ := h
    rfl
  · obtain ⟨m, fe, ms, fs, rfl, hm, nd, hfe, hms, hT, q⟩ := h
    have hu : ∀ env : Env, (_ : Around).units + 1 < cLine := fun env => hu_of (room_gen hr env)
    refine ⟨_, pss_one (ps_ret (pe_lock (pe_all (own := [("name", 3)]) (g := gName 3) hr (by rfl) ma (by decide +kernel) TB rfl rfl sc_are_marks.nd (pi_keys (pv 0))
        (blkOk_by (own := [("name", 3)]) (N := NMk) (sc := defScope s_are_marks) (by decide +kernel)) rfl (by decide +kernel) rfl
        (fun _ _ _ _ _ _ => pg_name (i := 3) sc_are_marks.nd rfl (Or.inl rfl)) (fun _ _ _ _ _ _ => pts_nil)
        (fun _ _ _ _ _ _ => pe_and (pe_cmp (pc_din (hu _) (pv 3) (pv 1))) (pe_one (pe_cmpR (op_inK (K := K) rfl) (pe_dget (hu _) (pv 0) (pv 3) (fun _ _ => rfl)) (pe_dget (hu _) (pv 2) (pv 3) (fun _ _ => rfl)) (by rfl))))))), ?_⟩
    refine ⟨m, _, hm, trivial, fun od => ⟨_, rfl, m, od, rfl, .inl ⟨kvM ms, upd_same, (hT.lock hm).g _ hP, fun H2 hTb => ?_⟩⟩⟩
    have hmL : (upd H m (.frz od (.dK (kvM ms)))) m = some (.frz od (.dK (kvM ms))) := upd_same
    obtain ⟨kv2, hfL, hfv⟩ := lock_fts (od := od) hm hfe
    have s0 : SL T (upd H m (.frz od (.dK (kvM ms)))) H2 := SL.tab hF (hT.lock hm) hP hTb
    have fin : ∀ {HX : Hp}, SL T (upd H m (.frz od (.dK (kvM ms)))) HX → HX m = some (.frz od (.dK (kvM ms))) ∧ Q (.bl true) (upd HX m (.dK (kvM ms))) := fun {HX} sX => ⟨sX.k _ _ nt_frz hmL, q _ (SL.unlock hm sX)⟩
    generalize upd H m (.frz od (.dK (kvM ms))) = HL at hmL hfL hfv s0 fin
    refine all_it (walk_keys (d := m) (o := od) (kvs := kvM ms)) (fun i HZ => SL T HL HZ) s0 (fun i HZ _ z => z.k _ _ nt_frz hmL) (fun i x HZ HZ' hi hP' hY => ?_) (fun HZ hP' => fin hP')
    obtain ⟨rfl, kk, v0, hkv, rfl⟩ := hY
    have hval := valV_nd (kvM_nd nd) hkv
    obtain ⟨p, hp, rfl, rfl⟩ := kvM_at hkv
    obtain ⟨g, hg, e1, e2⟩ := hms p hp
    obtain ⟨l2, e3, e4⟩ := hfv g hg
    have e5 : some (V.ref l2) = valV kv2 (.inr p.1) := by rw [← e1]; exact e3.symm
    refine ⟨rfl, tYes_in ⟨_, rfl, _, rfl, fe, some (.ref l2), rfl, .inl ⟨kv2, .inr p.1, rd_sl hfL nt_dK hP', rfl, e5⟩, true, rfl, iteT ?_⟩⟩
    refine ⟨_, rfl, _, rfl, m, _, rfl, .inl ⟨kvM ms, .inr p.1, .inr ⟨od, hP'.k _ _ nt_frz hmL⟩, rfl, hval.symm⟩, _, rfl, _, rfl, fe, _, rfl, .inl ⟨kv2, .inr p.1, rd_sl hfL nt_dK hP', rfl, e5⟩, l2, _, rfl, .inl (.inl (.inl (hP'.k _ _ nt_lst e4))), rfl, flat_strs _, true, congrArg V.bl (in_strs e2), fun _ => hP', fun z => by cases z⟩
end
end Bn

namespace Bn
open PySem PySem.Spec PyProof.Rows L2 BR GX RM GY
theorem pt_ifE {X : Cx} {c a b : Expr} {pos : Pos} {tA ta tb : TT} (hc : PT X c tA) (ha : PT X a ta) (hb : PT X b tb) : PT X (.IfExp c a b pos) (fun σ H Q => tA σ H fun k H1 => if k = true then ta σ H1 Q else tb σ H1 Q) := by
  refine ⟨fun pins s σ H Q I h => ?_⟩
  refine PyProof.Rows.isTrue_IfExp (thn (hc.run pins s σ H _ I h) fun d s1 ⟨H1, I1, q1⟩ => ?_)
  cases d with
  | true => exact ha.run pins s1 σ H1 Q I1 q1
  | false => exact hb.run pins s1 σ H1 Q I1 q1
section
variable {P : Program} {w : World} {K : PySem.W.Frag} {mg : Str → Option Value} {base : Heap}
/-! ### is_stem, is_ending -/
def spIsStem (K : PySem.W.Frag) (T : Tb) : Sp := fun vs H Q _ => ∃ (v : V) (fe kd : Addr) (sd : Sd) (fs : List Ft) (ks : List Kd) (N : Addr → Prop) (n : Nat), vs = [v, .ref fe, .ref kd] ∧ Dq K H N n v (sdD sd) ∧ FtsD H fe fs ∧ KdsD K H kd ks ∧ sd.Ok fs ks ∧ TbOk T H ∧ ∀ H', SL T H H' → Q (.bl true) H'
theorem ok_isStem {f fN fR fM : Addr} {fd fdN fdR fdM : FuncData} {T : Tb} {k : Nat} (F : Fun K "is_stem" "is_stem" s_is_stem f fd)
    (kN : PySem.W.keepIn K (.ref fN) = true) (bN : Binds K fdN ["text"] []) (gN : mg "is_name" = some (.ref fN)) (GN : FnOk P w K mg base CX0 (k + 2) fN fdN ["text"] (spIsName T))
    (kR : PySem.W.keepIn K (.ref fR) = true) (bR : Binds K fdR ["number"] []) (gR : mg "is_rank" = some (.ref fR)) (GR : FnOk P w K mg base CX0 (k + 1) fR fdR ["number"] spIsRank)
    (kM : PySem.W.keepIn K (.ref fM) = true) (bM : Binds K fdM ["marks", "names", "features"] []) (gM : mg "are_marks" = some (.ref fM)) (GM : FnOk P w K mg base CX0 (k + 5) fM fdM ["marks", "names", "features"] (spMarksL T)) :
    FnOk P w K mg base CX0 (k + 6) f fd ["stem", "features", "kinds"] (spIsStem K T) := by
  refine F.ok sc_is_stem (fun vs H Q E h => ?_) (fun cdv A outer s H vs Q E hr h => ?_)
  · obtain ⟨v, fe, kd, sd, fs, ks, N, n, rfl, _⟩ := h
    rfl
  · obtain ⟨v, fe, kd, sd, fs, ks, N, n, rfl, hD, hfe, hkd, hs, hT, q⟩ := h
    obtain ⟨a, m, rfl, ha, hm, _, _, nd⟩ := sd_inv hD
    have hu := hu_of hr
    refine ⟨_, pss_cons (ps_asg (pv 0) (pg_tup rfl (pgs_cons (pg_name (i := 3) sc_is_stem.nd rfl (.inl rfl)) (pgs_cons (pg_name (i := 4) sc_is_stem.nd rfl (.inl rfl)) (pgs_cons (pg_name (i := 5) sc_is_stem.nd rfl (.inl rfl)) (pgs_cons (pg_name (i := 6) sc_is_stem.nd rfl (.inl rfl)) (pgs_cons (pg_name (i := 7) sc_is_stem.nd rfl (.inl rfl)) (pgs_cons (pg_name (i := 8) sc_is_stem.nd rfl (.inl rfl)) pgs_nil))))))))
      (pss_cons (ps_if (PW.pt (pw_or (pt_not (pt_val (pe_call GN (hr.mono (by omega)) (by rfl) gN kN bN .nil pass0 (pa_cons (pv 3) pa_nil)))) (pw_or (pt_cmp (pc_dnotin hu (pv 4) (pv 2))) (pw_or (pt_not (pt_val (pe_call GN (hr.mono (by omega)) (by rfl) gN kN bN .nil pass0 (pa_cons (pv 5) pa_nil)))) (pw_or1 (pt_not (pt_val (pe_call GR (hr.mono (by omega)) (by rfl) gR kR bR .nil pass0 (pa_cons (pv 8) pa_nil))))))))) (pss_one (ps_ret pe_bl)) pss_nil)
      (pss_cons (ps_asg (pe_dget hu (pv 2) (pv 4) (fun _ _ => rfl)) (pg_tup rfl (pgs_cons (pg_name (i := 9) sc_is_stem.nd rfl (.inl rfl)) (pgs_cons (pg_name (i := 10) sc_is_stem.nd rfl (.inl rfl)) (pgs_cons (pg_name (i := 11) sc_is_stem.nd rfl (.inl rfl)) (pgs_cons (pg_name (i := 12) sc_is_stem.nd rfl (.inl rfl)) pgs_nil))))))
      (pss_cons (ps_if (pt_not (pt_ifE (pt_val (pv 12)) (pt_cmpR op_eq (pv 6) pe_str (nomark _)) (pt_val (pe_call GN (hr.mono (by omega)) (by rfl) gN kN bN .nil pass0 (pa_cons (pv 6) pa_nil))))) (pss_one (ps_ret pe_bl)) pss_nil)
      (pss_one (ps_ret (pe_call GM hr (by rfl) gM kM bM .nil pass0 (pa_cons (pv 7) (pa_cons (pv 10) (pa_cons (pv 1) pa_nil))))))))), ?_⟩
    refine ⟨_, rfl, a, _, rfl, ha, rfl, _, _, rfl, _, _, rfl, _, _, rfl, _, _, rfl, _, _, rfl, _, _, rfl, rfl, ?_⟩
    refine ⟨_, rfl, sd.x, rfl, hs.x, hT, fun H1 s1 => ⟨true, rfl, iteF ?_⟩⟩
    obtain ⟨kk, hkk, ek, hat, hks⟩ := hs.k
    obtain ⟨kvs1, h1, h2⟩ := hkd.sl s1
    obtain ⟨a1, l1, h3, h4, h5⟩ := h2 kk hkk
    rw [ek] at h3
    refine ⟨_, rfl, _, rfl, kd, some (.ref a1), rfl, .inl ⟨kvs1, .inr sd.k, .inl h1, rfl, h3.symm⟩, false, rfl, iteF ?_⟩
    refine ⟨_, rfl, sd.l, rfl, hs.l, s1.t, fun H2 s2 => ⟨true, rfl, iteF ?_⟩⟩
    refine ⟨_, rfl, sd.r, rfl, hs.r0, hs.r1, true, rfl, iteF ?_⟩
    have s12 := s1.trans s2
    refine ⟨_, rfl, _, rfl, kd, .ref a1, rfl, .inl ⟨kvs1, .inr sd.k, .inl (s2.k _ _ nt_dK h1), rfl, h3.symm⟩, a1, _, rfl, s2.sqT h4, rfl, _, _, rfl, _, _, rfl, _, _, rfl, _, _, rfl, rfl, ?_⟩
    have fin : ∀ {HX : Hp}, SL T H HX → SL T H2 HX → (spMarksL T) [.ref m, .ref l1, .ref fe] HX Q E0 := fun {HX} sX s2X => ⟨m, l1, fe, sd.ms, kk.fs, fs, rfl, sX.k _ _ nt_dK hm, nd, s2X.k _ _ nt_lst (s2.k _ _ nt_lst h5), hfe.sl sX, hks, hs.ms, sX.t, fun H4 s4 => q _ (sX.trans s4)⟩
    refine ⟨_, rfl, kk.m, rfl, ?_⟩
    cases hmu : kk.m with
    | true =>
      rw [hmu] at hat
      have ea : sd.a = "" := hat
      refine iteT ⟨_, rfl, rfl, true, ?_, iteF ⟨_, rfl, _, rfl, _, rfl, fin s12 (SL.refl s12.t)⟩⟩
      rw [ea]
      rfl
    | false =>
      rw [hmu] at hat
      have ea : Nm sd.a := hat
      exact iteF ⟨_, rfl, sd.a, rfl, ea, s12.t, fun H3 s3 => ⟨true, rfl, iteF ⟨_, rfl, _, rfl, _, rfl, fin (s12.trans s3) s3⟩⟩⟩
def spIsEnding (K : PySem.W.Frag) (T : Tb) : Sp := fun vs H Q _ => ∃ (v : V) (fe : Addr) (en : En) (fs : List Ft) (N : Addr → Prop) (n : Nat), vs = [v, .ref fe] ∧ Dq K H N n v (enD en) ∧ FtsD H fe fs ∧ en.Ok fs ∧ TbOk T H ∧ ∀ H', SL T H H' → Q (.bl true) H'
theorem ok_isEnding {f fN fT fR fM : Addr} {fd fdN fdT fdR fdM : FuncData} {T : Tb} {k : Nat} (F : Fun K "is_ending" "is_ending" s_is_ending f fd)
    (kN : PySem.W.keepIn K (.ref fN) = true) (bN : Binds K fdN ["text"] []) (gN : mg "is_name" = some (.ref fN)) (GN : FnOk P w K mg base CX0 (k + 2) fN fdN ["text"] (spIsName T))
    (kT : PySem.W.keepIn K (.ref fT) = true) (bT : Binds K fdT ["text", "most"] []) (gT : mg "is_text" = some (.ref fT)) (GT : FnOk P w K mg base CX0 (k + 1) fT fdT ["text", "most"] (spIsText T))
    (kR : PySem.W.keepIn K (.ref fR) = true) (bR : Binds K fdR ["number"] []) (gR : mg "is_rank" = some (.ref fR)) (GR : FnOk P w K mg base CX0 (k + 1) fR fdR ["number"] spIsRank)
    (kM : PySem.W.keepIn K (.ref fM) = true) (bM : Binds K fdM ["marks", "names", "features"] []) (gM : mg "are_marks" = some (.ref fM)) (GM : FnOk P w K mg base CX0 (k + 5) fM fdM ["marks", "names", "features"] (spMarksD T)) :
    FnOk P w K mg base CX0 (k + 6) f fd ["ending", "features"] (spIsEnding K T) := by
  refine F.ok sc_is_ending (fun vs H Q E h => ?_) (fun cdv A outer s H vs Q E hr h => ?_)
  · obtain ⟨v, fe, en, fs, N, n, rfl, _⟩ := h
    rfl
  · obtain ⟨v, fe, en, fs, N, n, rfl, hD, hfe, hs, hT, q⟩ := h
    obtain ⟨a, m, rfl, ha, hm, _, _, nd⟩ := en_inv hD
    refine ⟨_, pss_cons (ps_asg (pv 0) (pg_tup rfl (pgs_cons (pg_name (i := 2) sc_is_ending.nd rfl (.inl rfl)) (pgs_cons (pg_name (i := 3) sc_is_ending.nd rfl (.inl rfl)) (pgs_cons (pg_name (i := 4) sc_is_ending.nd rfl (.inl rfl)) (pgs_cons (pg_name (i := 5) sc_is_ending.nd rfl (.inl rfl)) pgs_nil))))))
      (pss_one (ps_ret (pe_and (pe_call GN (hr.mono (by omega)) (by rfl) gN kN bN .nil pass0 (pa_cons (pv 2) pa_nil)) (pe_and (pe_call GT (hr.mono (by omega)) (by rfl) gT kT bT .nil pass0 (pa_cons (pv 3) (pa_cons pe_int pa_nil))) (pe_and (pe_call GR (hr.mono (by omega)) (by rfl) gR kR bR .nil pass0 (pa_cons (pv 5) pa_nil)) (pe_one (pe_call GM hr (by rfl) gM kM bM .nil pass0 (pa_cons (pv 4) (pa_cons (pv 1) (pa_cons (pv 1) pa_nil)))))))))), ?_⟩
    refine ⟨_, rfl, a, _, rfl, ha, rfl, _, _, rfl, _, _, rfl, _, _, rfl, _, _, rfl, rfl, ?_⟩
    refine ⟨_, rfl, en.l, rfl, hs.l, hT, fun H1 s1 => ⟨true, rfl, iteT ⟨_, rfl, en.x, 8, rfl, hs.x, by decide, s1.t, fun H2 s2 => ⟨true, rfl, iteT ⟨_, rfl, en.r, rfl, hs.r0, hs.r1, true, rfl, iteT ⟨_, rfl, _, rfl, _, rfl, ?_⟩⟩⟩⟩⟩⟩
    have s12 := s1.trans s2
    exact ⟨m, fe, en.ms, fs, rfl, s12.k _ _ nt_dK hm, nd, hfe.sl s12, hs.ms, s12.t, fun H4 s4 => q _ (s12.trans s4)⟩
end
end Bn

namespace Bn
open PySem PySem.Spec PyProof.Rows L2 BR GX RM GY
theorem valV_none {kvs : List (Key × V)} {k : Key} (h : k ∉ kvs.map (·.1)) : valV kvs k = none := by
  unfold valV
  rw [Option.map_eq_none_iff, List.find?_eq_none]
  intro p hp z
  exact h (List.mem_map.mpr ⟨p, hp, of_decide_eq_true z⟩)
/-- a list's things are sound by what is called: it tells True of each, and stands there still -/
structure Sound (K : PySem.W.Frag) (T : Tb) (H : Hp) (sp : Sp) (St : Hp → Prop) (xs : List V) (named : Bool) (nms : List Str) : Prop where
  st : ∀ HZ, SL T H HZ → St HZ
  ok : ∀ x ∈ xs, ∀ HZ, SL T H HZ → ∀ Q : VK, (∀ H', SL T HZ H' → Q (.bl true) H') → sp [x] HZ Q E0
  nm : named = true → nms.Nodup ∧ ∀ (i : Nat) (x : V), xs[i]? = some x → ∃ (a : Addr) (y : Str) (r : List V), x = .ref a ∧ nms[i]? = some y ∧ SqT K H a (.str y :: r)
section
variable {P : Program} {w : World} {K : PySem.W.Frag} {mg : Str → Option Value} {base : Heap}
abbrev NFu : List Str := ["things", "most", "is_sound", "is_named", "names", "number", "thing"]
theorem fu_body {T : Tb} {k : Nat} {g f l : Addr} {cd : Value} {A : Around} {outer : List Env} {s : Shared} {H : Hp} {sp : Sp} {St : Hp → Prop} {xs : List V} {most : Nat} {named : Bool} {nms : List Str} {Q : VK}
    (me : mg "enumerate" = none) (C : LX.Cal (cxOf CX0 P w K mg base NFu "first_unsound" (defScope s_first_unsound) g cd A outer s H E0) k f sp St) (hr : Room k (A.deeper (envOfC "first_unsound" (defScope s_first_unsound) s.heap.objs.size g cd)))
    (hl : H l = some (.lst xs)) (few : xs.length ≤ most) (hm : most ≤ 1000) (hS : Sound K T H sp St xs named nms) (hT : TbOk T H) (q : ∀ H', SL T H H' → Q (.int (-1)) H') :
    ∃ t, PSs (cxOf CX0 P w K mg base NFu "first_unsound" (defScope s_first_unsound) g cd A outer s H E0).nox (defBody s_first_unsound) t ∧ t { nx := fun _ H' => Q .non H', rt := Q } (L2.start NFu [.ref l, .int (most : Nat), .ref f, .bl named]) H := by
  have hu := hu_of hr
  refine ⟨_, pss_cons (ps_set (i := 4) sc_first_unsound.nd rfl (.inl rfl) pe_dnewK)
    (pss_cons (ps_for PassesOwn.never rfl (pi_enum (by rfl) me (pa_cons (pv 0) pa_nil)) (pg_tup rfl (pgs_cons (pg_name (i := 5) sc_first_unsound.nd rfl (.inl rfl)) (pgs_cons (pg_name (i := 6) sc_first_unsound.nd rfl (.inl rfl)) pgs_nil)))
      (pss_cons (ps_if (PW.pt (pw_or (pt_cmpR op_ge (pv 5) (pv 1) (nomark _)) (pw_or (pt_not (pt_val (LX.pe_callH (i := 2) C hr rfl (.inl rfl) (pa_cons (pv 6) pa_nil)))) (pw_or1 (PW.pt (pw_and (pt_val (pv 3)) (pw_and1 (pt_cmp (pc_din hu (pe_ix ix_tup (pv 6) pe_int (fun _ _ => rfl)) (pv 4)))))))))) (pss_one (ps_ret (pv 5))) pss_nil)
      (pss_one (ps_if (pt_val (pv 3)) (pss_one (ps_dput hu (pv 4) (pe_ix ix_tup (pv 6) pe_int (fun _ _ => rfl)) pe_bl rfl)) pss_nil))))
    (pss_one (ps_ret (pe_un un_neg pe_int)))), ?_⟩
  intro D nD
  refine ⟨_, rfl, l, xs, rfl, .inl (.inl ((same_new nD) _ _ hl)), ?_⟩
  refine for_it (walk_enum (K := K) (a := l) (xs := xs)) (fun i σ HZ => ∃ y5 y6 : Option V, σ = [some (.ref l), some (.int (most : Nat)), some (.ref f), some (.bl named), some (.ref D), y5, y6] ∧ SL T H HZ ∧ ∃ kvs, HZ D = some (.dK kvs) ∧ kvs.length ≤ i ∧ (named = true → kvs.map (·.1) = (nms.take i).map Sum.inr))
    ⟨_, _, rfl, SL.of hT (same_new nD), [], upd_same, Nat.le_refl _, fun _ => by rw [List.take_zero]; rfl⟩ (fun i σ HZ _ z => by obtain ⟨_, _, _, sZ, _⟩ := z; exact .inl (.inl (sZ.k _ _ nt_lst hl))) (fun i x σ HZ HZ' hi hP' hY => ?_) (fun σ HZ hP' => ?_)
  · obtain ⟨T1, x1, x2, rfl, nT1, rfl, e1, e2⟩ := hY
    cases Option.some.inj e1
    obtain ⟨y5, y6, rfl, sZ, kvs, hD, hkl, hkn⟩ := hP'
    have sT : SL T H (upd HZ T1 (.tup [.int (i : Nat), x2])) := sZ.new nT1
    have hT1 : (upd HZ T1 (.tup [.int (i : Nat), x2])) T1 = some (.tup [.int (i : Nat), x2]) := upd_same
    have hDT : (upd HZ T1 (.tup [.int (i : Nat), x2])) D = some (.dK kvs) := (same_new nT1) _ _ hD
    generalize upd HZ T1 (.tup [.int (i : Nat), x2]) = HT at sT hT1 hDT ⊢
    refine ⟨T1, _, rfl, .inl (.inl hT1), rfl, _, _, rfl, _, _, rfl, rfl, ?_⟩
    refine ⟨_, rfl, _, rfl, _, _, rfl, rfl, _, rfl, ?_⟩
    rw [decide_eq_false (show ¬ ((i : Nat) : Int) ≥ (most : Nat) by have : i < xs.length := hi; omega)]
    refine iteF ⟨rfl, hS.st _ sT, _, rfl, hS.st _ sT, hS.ok x2 (List.mem_of_getElem? e2) _ sT _ fun H2 s2 => ⟨true, rfl, iteF ⟨_, rfl, named, rfl, ?_⟩⟩⟩
    have sT2 := sT.trans s2
    have hD2 := s2.k _ _ nt_dK hDT
    cases hn : named with
    | false => exact iteF (iteF ⟨_, rfl, false, rfl, iteF ⟨_, _, rfl, sT2, kvs, hD2, Nat.le_succ_of_le hkl, fun z => by cases z⟩⟩)
    | true =>
      obtain ⟨ndn, hnm⟩ := hS.nm hn
      obtain ⟨a, y, r, rfl, hy, ha⟩ := hnm i x2 e2
      have hkn' := hkn hn
      have off : (Sum.inr y : Key) ∉ kvs.map (·.1) := by
        rw [hkn']
        intro z
        obtain ⟨y', hy', ey⟩ := List.mem_map.mp z
        cases Sum.inr.inj ey
        obtain ⟨j, hj, ej⟩ := List.mem_take_iff_getElem.mp hy'
        obtain ⟨hi2, e3⟩ := List.getElem?_eq_some_iff.mp hy
        exact List.pairwise_iff_getElem.mp (List.nodup_iff_pairwise_ne.mp ndn) j i (by omega) hi2 (by omega) (by rw [ej, e3])
      have ha2 := sT2.sqT ha
      have hat : atI (V.str y :: r) ((0 : Nat) : Int) = some (V.str y) := atI_nat rfl
      refine iteT ⟨_, rfl, a, _, _, V.str y, rfl, rfl, ha2, hat, _, rfl, D, none, rfl, .inl ⟨kvs, .inr y, .inl hD2, rfl, (valV_none off).symm⟩, false, rfl, iteF ⟨_, rfl, true, rfl, iteT ?_⟩⟩
      refine ⟨_, rfl, _, rfl, a, _, _, V.str y, rfl, rfl, ha2, hat, D, _, rfl, DPut.k (k := Sum.inr y) hD2 (small_line (by have : i < xs.length := hi; omega)), ?_⟩
      have nDH : H D = none := nD
      refine ⟨_, _, rfl, sT2.ownD nDH hD2, _, upd_same, ?_, fun _ => ?_⟩
      · have := length_putK kvs (.inr y) (V.bl true)
        omega
      · rw [putK_new off, List.map_append, hkn', List.take_add_one, hy, List.map_append]
        rfl
  · obtain ⟨y5, y6, rfl, sZ, _⟩ := hP'
    exact ⟨_, rfl, q _ sZ⟩
end
end Bn

namespace Bn
open PySem PySem.Spec PyProof.Rows L2 BR GX RM GY
/-! what is never reached -/
def tNo : TE := fun _ _ _ => False
def gNo : TG := fun _ _ _ _ => False
section
variable {X : Cx} {e : Expr}
theorem pe_no : PE X e tNo := ⟨fun _ _ _ _ _ _ h => h.elim⟩
theorem pg_no : PG X e gNo := ⟨fun _ _ _ _ _ _ _ _ _ h => h.elim⟩
end
/-! a lexicon: a tongue of words alone -/
structure Lx where
  fs : List Ft
  ks : List Kd
  ms : List Sm
  ss : List Sd
  es : List En
def lxD (L : Lx) : PyData := .dict [(.str "features", .list (L.fs.map ftD)), (.str "stems", .list (L.ss.map sdD)), (.str "endings", .list (L.es.map enD)), (.str "rules", .list []), (.str "seams", .list (L.ms.map smD)), (.str "kinds", .list (L.ks.map kdD)), (.str "start", .str "verb")]
structure Lx.Ok (L : Lx) : Prop where
  fl : L.fs.length ≤ 6
  kl : L.ks.length ≤ 12
  ml : L.ms.length ≤ 12
  sl : L.ss.length ≤ 40
  el : L.es.length ≤ 40
  fn : (L.fs.map (·.n)).Nodup
  kn : (L.ks.map (·.n)).Nodup
  f : ∀ f ∈ L.fs, f.Ok
  k : ∀ k ∈ L.ks, k.Ok L.fs
  m : ∀ m ∈ L.ms, m.Ok
  s : ∀ s ∈ L.ss, s.Ok L.fs L.ks
  e : ∀ e ∈ L.es, e.Ok L.fs
  st : ∃ k ∈ L.ks, k.n = "verb" ∧ k.m = false
abbrev lxK (f k m s e r : Addr) : List (Key × V) := [(.inr "features", .ref f), (.inr "stems", .ref s), (.inr "endings", .ref e), (.inr "rules", .ref r), (.inr "seams", .ref m), (.inr "kinds", .ref k), (.inr "start", .str "verb")]
/-- its things in memory -/
structure LxAt (K : PySem.W.Frag) (H : Hp) (L : Lx) (N : Addr → Prop) (n : Nat) (a f k m s e r : Addr) (xf xk xm xs xe : List V) : Prop where
  d : H a = some (.dK (lxK f k m s e r))
  hf : H f = some (.lst xf)
  hk : H k = some (.lst xk)
  hm : H m = some (.lst xm)
  hs : H s = some (.lst xs)
  he : H e = some (.lst xe)
  hr : H r = some (.lst [])
  df : DqAll K H N n xf (L.fs.map ftD)
  dk : DqAll K H N n xk (L.ks.map kdD)
  dm : DqAll K H N n xm (L.ms.map smD)
  ds : DqAll K H N n xs (L.ss.map sdD)
  de : DqAll K H N n xe (L.es.map enD)
section
variable {K : PySem.W.Frag} {H H' : Hp} {T : Tb} {L : Lx} {N : Addr → Prop} {n : Nat} {v : V} {a f k m s e r : Addr} {xf xk xm xs xe : List V}
theorem lst_inv {d : List PyData} (h : Dq K H N (n + 1) v (.list d)) : ∃ l xs, v = .ref l ∧ H l = some (.lst xs) ∧ N l ∧ DqAll K H N n xs d := by
  cases h with
  | lst h1 h2 _ h3 => exact ⟨_, _, rfl, h1, h2, h3⟩
theorem lx_inv (h : Dq K H N (n + 2) v (lxD L)) : ∃ (a f k m s e r : Addr) (xf xk xm xs xe : List V), v = .ref a ∧ N a ∧ LxAt K H L (fun b => N b ∧ b ≠ a) n a f k m s e r xf xk xm xs xe := by
  unfold lxD at h
  cases h with
  | dic h1 h2 _ _ h3 =>
    cases h3 with
    | cons af h3 =>
    cases h3 with
    | cons as h3 =>
    cases h3 with
    | cons ae h3 =>
    cases h3 with
    | cons ar h3 =>
    cases h3 with
    | cons am h3 =>
    cases h3 with
    | cons ak h3 =>
    cases h3 with
    | cons ast h3 =>
    cases h3
    cases ast
    obtain ⟨f, xf, rfl, f1, _, f2⟩ := lst_inv af
    obtain ⟨k, xk, rfl, k1, _, k2⟩ := lst_inv ak
    obtain ⟨m, xm, rfl, m1, _, m2⟩ := lst_inv am
    obtain ⟨s, xs, rfl, s1, _, s2⟩ := lst_inv as
    obtain ⟨e, xe, rfl, e1, _, e2⟩ := lst_inv ae
    obtain ⟨r, xr, rfl, r1, _, r2⟩ := lst_inv ar
    cases r2
    exact ⟨_, f, k, m, s, e, r, xf, xk, xm, xs, xe, rfl, h2, ⟨h1, f1, k1, m1, s1, e1, r1, f2, k2, m2, s2, e2⟩⟩
theorem LxAt.sl (h : LxAt K H L N n a f k m s e r xf xk xm xs xe) (S : SL T H H') : LxAt K H' L N n a f k m s e r xf xk xm xs xe :=
  ⟨S.k _ _ nt_dK h.d, S.k _ _ nt_lst h.hf, S.k _ _ nt_lst h.hk, S.k _ _ nt_lst h.hm, S.k _ _ nt_lst h.hs, S.k _ _ nt_lst h.he, S.k _ _ nt_lst h.hr, h.df.sl S, h.dk.sl S, h.dm.sl S, h.ds.sl S, h.de.sl S⟩
theorem lxK_features : valV (lxK f k m s e r) (.inr "features") = some (.ref f) := rfl
theorem lxK_kinds : valV (lxK f k m s e r) (.inr "kinds") = some (.ref k) := rfl
theorem lxK_seams : valV (lxK f k m s e r) (.inr "seams") = some (.ref m) := rfl
theorem lxK_stems : valV (lxK f k m s e r) (.inr "stems") = some (.ref s) := rfl
theorem lxK_endings : valV (lxK f k m s e r) (.inr "endings") = some (.ref e) := rfl
theorem lxK_rules : valV (lxK f k m s e r) (.inr "rules") = some (.ref r) := rfl
theorem lxK_start : valV (lxK f k m s e r) (.inr "start") = some (.str "verb") := rfl
theorem get_of {a : Addr} {kvs : List (Key × V)} {z : Str} {v : V} (h : H a = some (.dK kvs)) (e : valV kvs (.inr z) = some v) : DGet H a (.str z) (some v) := .inl ⟨kvs, .inr z, .inl h, rfl, e.symm⟩
end
end Bn

namespace Bn
open PySem PySem.Spec PyProof.Rows L2 BR GX RM GY
section
variable {P : Program} {w : World} {K : PySem.W.Frag} {mg : Str → Option Value} {base : Heap}
/-! ### first_in_ring: of no rules -/
def spRing0 : Sp := fun vs H Q _ => ∃ (l : Addr), vs = [.ref l] ∧ H l = some (.lst []) ∧ ∀ H', Same H H' → Q (.int (-1)) H'
theorem ok_ring0 {f : Addr} {fd : FuncData} {k : Nat} (F : Fun K "first_in_ring" "first_in_ring" s_first_in_ring f fd) (me : mg "enumerate" = none) : FnOk P w K mg base CX0 (k + 1) f fd ["rules"] spRing0 := by
  refine F.ok sc_first_in_ring (fun vs H Q E h => ?_) (fun cdv A outer s H vs Q E hr h => ?_)
  · obtain ⟨l, rfl, _⟩ := h
    rfl
  · obtain ⟨l, rfl, hl, q⟩ := h
    refine ⟨_, pss_cons (ps_setLc (i := 1) (own := [("rule", 5)]) (g := gName 5) (tt := tYes) rfl sc_first_in_ring.nd rfl rfl (sw_true rfl rfl rfl (by decide +kernel)) (pi_list (pv 0))
        (blkOk_by (own := [("rule", 5)]) (N := ["rules", "steps", "number", "origin", "goal", "rule"]) (sc := defScope s_first_in_ring) (by decide +kernel)) (fun _ _ _ _ _ => pg_name (i := 5) sc_first_in_ring.nd rfl (.inl rfl)) (fun _ _ _ _ _ => pts_nil) (fun _ _ _ _ _ => pe_no))
      (pss_cons (ps_for PassesOwn.never rfl (pi_enum (by rfl) me (pa_cons (pv 1) pa_nil)) pg_no pss_never)
      (pss_one (ps_ret (pe_un un_neg pe_int)))), ?_⟩
    refine ⟨_, rfl, l, rfl, ⟨_, .inl (.inl hl)⟩, fun D nD => ?_⟩
    refine lc_it (walk_list (K := K) (a := l) (xs := [])) (fun i HZ => Same H HZ ∧ HZ D = some (.lst [])) ⟨same_new nD, upd_same⟩ (fun i HZ _ z => .inl (.inl (z.1 _ _ hl))) (fun i x HZ HZ' hi _ _ => absurd hi (Nat.not_lt_zero _)) (fun HZ z => ?_)
    obtain ⟨sZ, hD⟩ := z
    refine ⟨_, rfl, D, [], rfl, .inl (.inl hD), ?_⟩
    exact for_it (walk_enum (K := K) (a := D) (xs := [])) (fun i σ HY => HY = HZ) rfl (fun i σ HY _ e => by subst e; exact .inl (.inl hD)) (fun i x σ HY HY' hi _ _ => absurd hi (Nat.not_lt_zero _)) (fun σ HY e => by subst e; exact ⟨_, rfl, q _ sZ⟩)
end
end Bn

namespace Bn
open PySem PySem.Spec PyProof.Rows L2 BR GX RM GY
/-! ### the lambdas of fault_in -/
theorem SL.lamG {T : Tb} {H H1 : Hp} {F : Addr} {q : Str} (hT : TbOk T H) (hl : LamX.TabS H F q) (hF : F ∉ T.ps) (kp : ∀ b o, b ≠ F → H b = some o → H1 b = some o) (t : LamX.TabS H1 F q) (own : ∀ z : Addr × Str, z = (T.F, T.q) ∨ z ∈ T.xs → z.1 = F → z.2 = q) : SL T H H1 := by
  obtain ⟨ps0, e0, _, _⟩ := hl
  have gen : ∀ z : Addr × Str, z = (T.F, T.q) ∨ z ∈ T.xs → LamX.TabS H z.1 z.2 → LamX.TabS H1 z.1 z.2 := fun z hz l => by
    by_cases c : z.1 = F
    · rw [c, own z hz c]
      exact t
    · obtain ⟨ps, e1, e2, e3⟩ := l
      refine ⟨ps, kp _ _ c e1, e2, fun pos cv hc => ?_⟩
      obtain ⟨k, h1, h2⟩ := e3 pos cv hc
      refine ⟨k, h1, kp _ _ (fun z => ?_) h2⟩
      rw [z, e0] at h2
      exact LamX.codeO_ne ps0 (Option.some.inj h2).symm
  refine ⟨fun x y n e => ?_, fun x p e => ?_, ⟨fun P hP => ?_, gen (T.F, T.q) (.inl rfl) hT.l, fun z hz => gen z (.inr hz) (hT.x z hz), hT.d⟩⟩
  · by_cases c : x = F
    · rw [c, e0] at e
      cases e
      exact absurd rfl (n ps0)
    · exact kp x y c e
  · by_cases c : x = F
    · obtain ⟨ps, e1, _, _⟩ := t
      exact ⟨ps, by rw [c]; exact e1⟩
    · exact ⟨p, kp x _ c e⟩
  · obtain ⟨ps, h1, h2⟩ := hT.g P hP
    exact ⟨ps, kp P _ (fun z => hF (by rw [← z]; exact hP)) h1, h2⟩
theorem SL.lam {T : Tb} {H H1 : Hp} (hT : TbOk T H) (hF : T.F ∉ T.ps) (kp : ∀ b o, b ≠ T.F → H b = some o → H1 b = some o) (t : LamX.TabS H1 T.F T.q) : SL T H H1 :=
  SL.lamG hT hT.l hF kp t fun z hz e => by
    rcases hz with rfl | hz
    · rfl
    · exact absurd e (hT.d.1 z hz).2
theorem SL.lamX {T : Tb} {H H1 : Hp} {z : Addr × Str} (hT : TbOk T H) (hz : z ∈ T.xs) (kp : ∀ b o, b ≠ z.1 → H b = some o → H1 b = some o) (t : LamX.TabS H1 z.1 z.2) : SL T H H1 :=
  SL.lamG hT (hT.x z hz) (hT.d.1 z hz).1 kp t fun y hy e => by
    rcases hy with rfl | hy
    · exact absurd e.symm (hT.d.1 z hz).2
    · exact hT.d.2 y hy z hz e
def lkE (i : Nat) : Expr := match (defBody s_fault_in).getD 2 (.Pass ⟨0, 0, 0, 0⟩) with
  | .Assign _ (.List es _) _ => (match es.getD i (.Name "" ⟨0, 0, 0, 0⟩) with
    | .Tuple xs _ _ => xs.getD 3 (.Name "" ⟨0, 0, 0, 0⟩)
    | e => e)
  | _ => .Name "" ⟨0, 0, 0, 0⟩
def lkA (i : Nat) : Arguments := match lkE i with
  | .Lambda params _ _ _ => params
  | _ => defArgs s_fault_in
def lkB (i : Nat) : Expr := match lkE i with
  | .Lambda _ body _ _ => body
  | e => e
def lkS (i : Nat) : Scope := match lkE i with
  | .Lambda _ _ scope _ => scope
  | _ => defScope s_fault_in
def lkF (i : Nat) (q : Str) (cells : List (Str × Addr)) (c : Addr) : LX.LF := ⟨q, lkA i, lkB i, lkS i, cloFrom cells (lkS i).names [], c⟩
/-- the lambda's promise: of the one that it is handed and the captured things -/
def spL1 (sp : Sp) (n : Nat) : List (Option V) → Sp := fun ws vs H Q E => ∃ (v : V) (us : List V), vs = [v] ∧ ws = us.map some ∧ us.length = n ∧ sp (v :: us) H Q E
section
variable {P : Program} {w : World} {K : PySem.W.Frag} {mg : Str → Option Value} {base : Heap} {q : Str} {cells : List (Str × Addr)} {c f : Addr}
theorem ok_lam1 {g : Addr} {gd : FuncData} {sp : Sp} (kg : PySem.W.keepIn K (.ref g) = true) (bg : Binds K gd ["kind", "features"] []) (gg : mg "is_kind" = some (.ref g)) (G : FnOk P w K mg base CX0 7 g gd ["kind", "features"] sp) : LX.LOk P w K mg base 8 f (lkF 1 q cells c) ["features"] (spL1 sp 1) := by
  refine LX.lok_of (N := ["kind", "features"]) (ps := ["kind"]) (NdefX.nscope_by (sc := lkS 1) (by decide +kernel)) (fun pm ctv us hl => match us, hl with | [_], _ => rfl) (fun ws vs H Q h => ?_) (fun A outer s H vs ws Q hr h => ?_)
  · obtain ⟨v, us, rfl, _⟩ := h
    rfl
  · obtain ⟨v, us, rfl, rfl, hl, h⟩ := h
    match us, hl with
    | [u], _ => exact ⟨_, pe_call G hr (by rfl) gg kg bg .nil pass0 (pa_cons (pv 0) (pa_cons (pv 1) pa_nil)), _, rfl, _, rfl, h⟩
theorem ok_lam3 {g : Addr} {gd : FuncData} {sp : Sp} (kg : PySem.W.keepIn K (.ref g) = true) (bg : Binds K gd ["stem", "features", "kinds"] []) (gg : mg "is_stem" = some (.ref g)) (G : FnOk P w K mg base CX0 7 g gd ["stem", "features", "kinds"] sp) : LX.LOk P w K mg base 8 f (lkF 3 q cells c) ["features", "kinds"] (spL1 sp 2) := by
  refine LX.lok_of (N := ["stem", "features", "kinds"]) (ps := ["stem"]) (NdefX.nscope_by (sc := lkS 3) (by decide +kernel)) (fun pm ctv us hl => match us, hl with | [_], _ => rfl) (fun ws vs H Q h => ?_) (fun A outer s H vs ws Q hr h => ?_)
  · obtain ⟨v, us, rfl, _⟩ := h
    rfl
  · obtain ⟨v, us, rfl, rfl, hl, h⟩ := h
    match us, hl with
    | [u, u2], _ => exact ⟨_, pe_call G hr (by rfl) gg kg bg .nil pass0 (pa_cons (pv 0) (pa_cons (pv 1) (pa_cons (pv 2) pa_nil))), _, rfl, _, rfl, _, rfl, h⟩
theorem ok_lam4 {g : Addr} {gd : FuncData} {sp : Sp} (kg : PySem.W.keepIn K (.ref g) = true) (bg : Binds K gd ["ending", "features"] []) (gg : mg "is_ending" = some (.ref g)) (G : FnOk P w K mg base CX0 7 g gd ["ending", "features"] sp) : LX.LOk P w K mg base 8 f (lkF 4 q cells c) ["features"] (spL1 sp 1) := by
  refine LX.lok_of (N := ["ending", "features"]) (ps := ["ending"]) (NdefX.nscope_by (sc := lkS 4) (by decide +kernel)) (fun pm ctv us hl => match us, hl with | [_], _ => rfl) (fun ws vs H Q h => ?_) (fun A outer s H vs ws Q hr h => ?_)
  · obtain ⟨v, us, rfl, _⟩ := h
    rfl
  · obtain ⟨v, us, rfl, rfl, hl, h⟩ := h
    match us, hl with
    | [u], _ => exact ⟨_, pe_call G hr (by rfl) gg kg bg .nil pass0 (pa_cons (pv 0) (pa_cons (pv 1) pa_nil)), _, rfl, _, rfl, h⟩
/-- that of the rules is never called -/
theorem ok_lam5 {k : Nat} : LX.LOk P w K mg base (k + 1) f (lkF 5 q cells c) ["features", "kinds"] (spL1 (fun _ _ _ _ => False) 2) := by
  refine LX.lok_of (N := ["rule", "features", "kinds"]) (ps := ["rule"]) (NdefX.nscope_by (sc := lkS 5) (by decide +kernel)) (fun pm ctv us hl => match us, hl with | [_], _ => rfl) (fun ws vs H Q h => ?_) (fun A outer s H vs ws Q hr h => ?_)
  · obtain ⟨v, us, rfl, _⟩ := h
    rfl
  · obtain ⟨v, us, rfl, rfl, hl, h⟩ := h
    exact h.elim
end
/-! ### what is called for each list -/
section
variable {K : PySem.W.Frag} {T : Tb} {H H' : Hp} {sp : Sp} {St : Hp → Prop} {xs : List V} {named : Bool} {nms : List Str} {N : Addr → Prop} {n : Nat}
theorem Sound.sl (h : Sound K T H sp St xs named nms) (S : SL T H H') : Sound K T H' sp St xs named nms :=
  ⟨fun HZ s => h.st HZ (S.trans s), fun x hx HZ s => h.ok x hx HZ (S.trans s), fun e => ⟨(h.nm e).1, fun i x hi => let ⟨a, y, r, e1, e2, e3⟩ := (h.nm e).2 i x hi; ⟨a, y, r, e1, e2, S.sqT e3⟩⟩⟩
theorem map_at {α β : Type} {f : α → β} {l : List α} {i : Nat} {b : β} (h : (l.map f)[i]? = some b) : ∃ a, l[i]? = some a ∧ f a = b := by
  rw [List.getElem?_map] at h
  exact Option.map_eq_some_iff.mp h
theorem dq_at {α : Type} {f : α → PyData} {l : List α} {i : Nat} {x : V} (h : DqAll K H N n xs (l.map f)) (hi : xs[i]? = some x) : ∃ a, l[i]? = some a ∧ Dq K H N n x (f a) := by
  obtain ⟨d, e1, e2⟩ := h.at hi
  obtain ⟨a, e3, rfl⟩ := map_at e1
  exact ⟨a, e3, e2⟩
theorem dq_mem {α : Type} {f : α → PyData} {l : List α} {x : V} (h : DqAll K H N n xs (l.map f)) (hx : x ∈ xs) : ∃ a ∈ l, Dq K H N n x (f a) := by
  obtain ⟨i, hi⟩ := List.getElem?_of_mem hx
  obtain ⟨a, e1, e2⟩ := dq_at h hi
  exact ⟨a, List.mem_of_getElem? e1, e2⟩
end
def SPfu (X : Cx) (K : PySem.W.Frag) (T : Tb) : L2.St → List V → Hp → VK → Prop := fun σ vs H Q => ∃ (l : Addr) (most : Nat) (f : Addr) (named : Bool) (sp : Sp) (St : Hp → Prop) (xs : List V) (nms : List Str),
  vs = [.ref l, .int (most : Nat), .ref f, .bl named] ∧ LX.CalX X σ 8 f sp St ∧ H l = some (.lst xs) ∧ xs.length ≤ most ∧ most ≤ 1000 ∧ Sound K T H sp St xs named nms ∧ TbOk T H ∧ ∀ H', SL T H H' → Q (.int (-1)) H'
/-- a row of looks -/
def Row (X : Cx) (K : PySem.W.Frag) (T : Tb) (fe kd : Addr) (H : Hp) (x : V) : Prop := ∃ (t l f : Addr) (wd : Str) (most : Nat) (sp : Sp) (St : Hp → Prop) (xs : List V) (nms : List Str),
  x = .ref t ∧ H t = some (.tup [.str wd, .ref l, .int (most : Nat), .ref f]) ∧ (∀ σ : L2.St, NdefX.slotAt σ 1 = some (.ref fe) → NdefX.slotAt σ 2 = some (.ref kd) → LX.CalX X σ 8 f sp St) ∧ H l = some (.lst xs) ∧ xs.length ≤ most ∧ most ≤ 1000 ∧
  Sound K T H sp St xs (inV (.str wd) [.str "feature", .str "kind", .str "rule"]) nms
theorem Row.sl {X : Cx} {K : PySem.W.Frag} {T : Tb} {fe kd : Addr} {H H' : Hp} {x : V} (h : Row X K T fe kd H x) (S : SL T H H') : Row X K T fe kd H' x := by
  obtain ⟨t, l, f, wd, most, sp, St, xs, nms, rfl, h1, h2, h3, h4, h5, h6⟩ := h
  exact ⟨t, l, f, wd, most, sp, St, xs, nms, rfl, S.k _ _ nt_tup h1, h2, S.k _ _ nt_lst h3, h4, h5, h6.sl S⟩
end Bn

namespace Bn
open PySem PySem.Spec PyProof.Rows L2 BR GX RM GY
/-! ### the dicts by names -/
section
variable {K : PySem.W.Frag} {T : Tb} {H H' : Hp} {D : Addr} {N : Addr → Prop} {n : Nat}
/-- of the first i features, as far as it is made -/
def FeI (H : Hp) (D : Addr) (fs : List Ft) : Prop := ∃ ks, H D = some (.dK ks) ∧ ks.map (·.1) = fs.map (fun f => (Sum.inr f.n : Key)) ∧ ∀ f ∈ fs, ∃ l, valV ks (.inr f.n) = some (.ref l) ∧ H l = some (.lst (f.vs.map V.str))
def KdI (K : PySem.W.Frag) (H : Hp) (D : Addr) (fs : List Kd) : Prop := ∃ ks, H D = some (.dK ks) ∧ ks.map (·.1) = fs.map (fun f => (Sum.inr f.n : Key)) ∧ ∀ k ∈ fs, ∃ a l, valV ks (.inr k.n) = some (.ref a) ∧ SqT K H a [.str k.n, .ref l, .bl k.g, .bl k.m] ∧ H l = some (.lst (k.fs.map V.str))
theorem off_take {α : Type} {nm : α → Str} {l : List α} (nd : (l.map nm).Nodup) {i : Nat} {a : α} (h : l[i]? = some a) : (Sum.inr (nm a) : Key) ∉ (l.take i).map (fun f => (Sum.inr (nm f) : Key)) := by
  intro z
  obtain ⟨b, hb, e⟩ := List.mem_map.mp z
  have e' : nm b = nm a := Sum.inr.inj e
  obtain ⟨j, hj, ej⟩ := List.mem_take_iff_getElem.mp hb
  obtain ⟨hi, ei⟩ := List.getElem?_eq_some_iff.mp h
  have := List.pairwise_iff_getElem.mp (List.nodup_iff_pairwise_ne.mp nd) j i (by rw [List.length_map]; omega) (by rw [List.length_map]; exact hi) (by omega)
  rw [List.getElem_map, List.getElem_map, ej, ei] at this
  exact this e'
theorem take_snoc {α : Type} {l : List α} {i : Nat} {a : α} (h : l[i]? = some a) : l.take (i + 1) = l.take i ++ [a] := by
  rw [List.take_add_one, h]
  rfl
theorem feI_put {fs : List Ft} {f : Ft} {l : Addr} {ks : List (Key × V)} (hD : H D = some (.dK ks)) (e1 : ks.map (·.1) = fs.map (fun f => (Sum.inr f.n : Key))) (e2 : ∀ f ∈ fs, ∃ l, valV ks (.inr f.n) = some (.ref l) ∧ H l = some (.lst (f.vs.map V.str)))
    (off : (Sum.inr f.n : Key) ∉ fs.map (fun f => (Sum.inr f.n : Key))) (hl : H l = some (.lst (f.vs.map V.str))) : FeI (upd H D (.dK (putK ks (.inr f.n) (.ref l)))) D (fs ++ [f]) := by
  have nl : ∀ {l2 : Addr} {ys : List V}, H l2 = some (.lst ys) → (upd H D (.dK (putK ks (.inr f.n) (.ref l)))) l2 = some (.lst ys) := fun e => by
    rw [upd_ne (ne_of e hD (by intro z; cases z))]
    exact e
  refine ⟨_, upd_same, ?_, fun g hg => ?_⟩
  · rw [Bn.putK_new (by rw [e1]; exact off), List.map_append, List.map_append, e1]
    rfl
  · rw [valV_put]
    rcases List.mem_append.mp hg with h | h
    · obtain ⟨l2, e3, e4⟩ := e2 g h
      have ne : ¬ (Sum.inr g.n : Key) = .inr f.n := fun z => off (z ▸ List.mem_map.mpr ⟨g, h, rfl⟩)
      rw [if_neg ne]
      exact ⟨l2, e3, nl e4⟩
    · rw [List.mem_singleton.mp h, if_pos rfl]
      exact ⟨l, rfl, nl hl⟩
theorem kdI_put {fs : List Kd} {f : Kd} {a l : Addr} {ks : List (Key × V)} (hD : H D = some (.dK ks)) (e1 : ks.map (·.1) = fs.map (fun f => (Sum.inr f.n : Key))) (e2 : ∀ k ∈ fs, ∃ a l, valV ks (.inr k.n) = some (.ref a) ∧ SqT K H a [.str k.n, .ref l, .bl k.g, .bl k.m] ∧ H l = some (.lst (k.fs.map V.str)))
    (off : (Sum.inr f.n : Key) ∉ fs.map (fun f => (Sum.inr f.n : Key))) (ha : SqT K H a [.str f.n, .ref l, .bl f.g, .bl f.m]) (hl : H l = some (.lst (f.fs.map V.str))) : KdI K (upd H D (.dK (putK ks (.inr f.n) (.ref a)))) D (fs ++ [f]) := by
  have nl : ∀ {l2 : Addr} {ys : List V}, H l2 = some (.lst ys) → (upd H D (.dK (putK ks (.inr f.n) (.ref a)))) l2 = some (.lst ys) := fun e => by
    rw [upd_ne (ne_of e hD (by intro z; cases z))]
    exact e
  refine ⟨_, upd_same, ?_, fun g hg => ?_⟩
  · rw [Bn.putK_new (by rw [e1]; exact off), List.map_append, List.map_append, e1]
    rfl
  · rw [valV_put]
    rcases List.mem_append.mp hg with h | h
    · obtain ⟨a2, l2, e3, e4, e5⟩ := e2 g h
      have ne : ¬ (Sum.inr g.n : Key) = .inr f.n := fun z => off (z ▸ List.mem_map.mpr ⟨g, h, rfl⟩)
      rw [if_neg ne]
      exact ⟨a2, l2, e3, sqT_updD e4 hD, nl e5⟩
    · rw [List.mem_singleton.mp h, if_pos rfl]
      exact ⟨a, l, rfl, sqT_updD ha hD, nl hl⟩
theorem FeI.fts {fs : List Ft} (h : FeI H D fs) : FtsD H D fs := let ⟨ks, e1, _, e3⟩ := h; ⟨ks, e1, e3⟩
theorem KdI.kds {fs : List Kd} (h : KdI K H D fs) : KdsD K H D fs := let ⟨ks, e1, _, e3⟩ := h; ⟨ks, e1, e3⟩
theorem FeI.nil (h : H D = some (.dK [])) : FeI H D [] := ⟨[], h, rfl, fun f hf => by cases hf⟩
theorem KdI.nil (h : H D = some (.dK [])) : KdI K H D [] := ⟨[], h, rfl, fun f hf => by cases hf⟩
/-- one turn of {feature[0]: feature[1] ..} -/
theorem dcF_turn {H0 HZ : Hp} {xf : List V} {fs : List Ft} {i : Nat} {x : V} (nd : (fs.map (·.n)).Nodup) (sZ : SL T H0 HZ) (nD : H0 D = none) (hI : FeI HZ D (fs.take i)) (hd : DqAll K H0 N n xf (fs.map ftD)) (few : fs.length ≤ 1000) (hx : xf[i]? = some x) :
    ∃ (a l : Addr) (f : Ft) (ks : List (Key × V)), x = .ref a ∧ SqT K HZ a [.str f.n, .ref l, .bl f.t] ∧ HZ D = some (.dK ks) ∧ ks.length < sizeLine ∧ SL T H0 (upd HZ D (.dK (putK ks (.inr f.n) (.ref l)))) ∧ FeI (upd HZ D (.dK (putK ks (.inr f.n) (.ref l)))) D (fs.take (i + 1)) := by
  obtain ⟨f, hf, hv⟩ := dq_at hd hx
  obtain ⟨a, l, rfl, h1, h2, _⟩ := ft_inv (hv.sl sZ)
  obtain ⟨ks, e1, e2, e3⟩ := hI
  have hlen : ks.length = (fs.take i).length := by
    have := congrArg List.length e2
    rw [List.length_map, List.length_map] at this
    exact this
  refine ⟨a, l, f, ks, rfl, h1, e1, small_line ?_, sZ.ownD nD e1, ?_⟩
  · rw [hlen, List.length_take]
    obtain ⟨hi, _⟩ := List.getElem?_eq_some_iff.mp hf
    omega
  · rw [take_snoc hf]
    exact feI_put e1 e2 e3 (off_take nd hf) h2
theorem dcK_turn {H0 HZ : Hp} {xf : List V} {fs : List Kd} {i : Nat} {x : V} (nd : (fs.map (·.n)).Nodup) (sZ : SL T H0 HZ) (nD : H0 D = none) (hI : KdI K HZ D (fs.take i)) (hd : DqAll K H0 N n xf (fs.map kdD)) (few : fs.length ≤ 1000) (hx : xf[i]? = some x) :
    ∃ (a l : Addr) (f : Kd) (ks : List (Key × V)), x = .ref a ∧ SqT K HZ a [.str f.n, .ref l, .bl f.g, .bl f.m] ∧ HZ D = some (.dK ks) ∧ ks.length < sizeLine ∧ SL T H0 (upd HZ D (.dK (putK ks (.inr f.n) (.ref a)))) ∧ KdI K (upd HZ D (.dK (putK ks (.inr f.n) (.ref a)))) D (fs.take (i + 1)) := by
  obtain ⟨f, hf, hv⟩ := dq_at hd hx
  obtain ⟨a, l, rfl, h1, h2, _⟩ := kd_inv (hv.sl sZ)
  obtain ⟨ks, e1, e2, e3⟩ := hI
  have hlen : ks.length = (fs.take i).length := by
    have := congrArg List.length e2
    rw [List.length_map, List.length_map] at this
    exact this
  refine ⟨a, l, f, ks, rfl, h1, e1, small_line ?_, sZ.ownD nD e1, ?_⟩
  · rw [hlen, List.length_take]
    obtain ⟨hi, _⟩ := List.getElem?_eq_some_iff.mp hf
    omega
  · rw [take_snoc hf]
    exact kdI_put e1 e2 e3 (off_take nd hf) h1 h2
end
end Bn

namespace Bn
open PySem PySem.Spec PyProof.Rows L2 BR GX RM GY
section
variable {P : Program} {w : World} {K : PySem.W.Frag} {mg : Str → Option Value} {base : Heap}
/-! ### fault_in -/
abbrev NFi : List Str := ["told", "features", "kinds", "looks", "word", "things", "most", "is_sound", "number", "feature", "kind"]
def spFault (K : PySem.W.Frag) (T : Tb) : Sp := fun vs H Q _ => ∃ (v : V) (L : Lx) (N : Addr → Prop) (n : Nat), vs = [v] ∧ Dq K H N (n + 2) v (lxD L) ∧ L.Ok ∧ TbOk T H ∧ ∀ H', SL T H H' → Q .non H'
theorem caught1 : ∀ y ∈ (lkS 1).names, y.2 = .free → (defScope s_fault_in).names.lookup y.1 = some .cell ∨ (defScope s_fault_in).names.lookup y.1 = some .free := by decide +kernel
theorem caught3 : ∀ y ∈ (lkS 3).names, y.2 = .free → (defScope s_fault_in).names.lookup y.1 = some .cell ∨ (defScope s_fault_in).names.lookup y.1 = some .free := by decide +kernel
theorem caught4 : ∀ y ∈ (lkS 4).names, y.2 = .free → (defScope s_fault_in).names.lookup y.1 = some .cell ∨ (defScope s_fault_in).names.lookup y.1 = some .free := by decide +kernel
theorem caught5 : ∀ y ∈ (lkS 5).names, y.2 = .free → (defScope s_fault_in).names.lookup y.1 = some .cell ∨ (defScope s_fault_in).names.lookup y.1 = some .free := by decide +kernel
theorem slot1 {σ : L2.St} {j : Nat} {a : Addr} (h : NdefX.slotAt σ j = some (.ref a)) : NdefX.slotAt σ j = some (.ref a) := h
theorem snd_all {T : Tb} {H : Hp} {sp : Sp} {St : Hp → Prop} {xs : List V} {nms : List Str} (st : ∀ HZ, SL T H HZ → St HZ) (ok : ∀ x ∈ xs, ∀ HZ, SL T H HZ → ∀ Q : VK, (∀ H', SL T HZ H' → Q (.bl true) H') → sp [x] HZ Q E0) : Sound K T H sp St xs false nms := ⟨st, ok, fun e => by cases e⟩
theorem cal1 {X : Cx} {i : Nat} {sp : Sp} {f c : Addr} {q : Str} {fe : Addr} {σ : L2.St} (hX : X.env.scope = defScope s_fault_in) (hN : X.N = NFi) (hc : ∀ y ∈ (lkS i).names, y.2 = .free → (defScope s_fault_in).names.lookup y.1 = some .cell ∨ (defScope s_fault_in).names.lookup y.1 = some .free) (hfr : ∀ y ∈ (["features"] : List Str), (y, NameKind.free) ∈ (lkS i).names)
    (G : LX.LOk X.prog X.w X.K X.mg X.base 8 f (lkF i q X.env.cells c) ["features"] (spL1 sp 1)) (h1 : NdefX.slotAt σ 1 = some (.ref fe)) :
    LX.CalX X σ 8 f (fun vs H Q E => ∃ v, vs = [v] ∧ sp [v, .ref fe] H Q E) (fun HX => HX f = some (LX.LamO f (lkF i q X.env.cells c)) ∧ HX c = some (LamX.CodeO c q)) := by
  refine .inr ⟨lkF i q X.env.cells c, ["features"], [1], spL1 sp 1, G, fun ok => NdefX.Caps.made (scope := lkS i) ok (by rw [hX]; exact hc) hfr (by rw [hN]; rfl), fun HX st => st, fun vs HX Q h => ?_⟩
  obtain ⟨v, rfl, h⟩ := h
  exact ⟨v, [.ref fe], rfl, by rw [List.map_cons, h1]; rfl, rfl, h⟩
theorem cal2 {X : Cx} {i : Nat} {sp : Sp} {f c : Addr} {q : Str} {fe kd : Addr} {σ : L2.St} (hX : X.env.scope = defScope s_fault_in) (hN : X.N = NFi) (hc : ∀ y ∈ (lkS i).names, y.2 = .free → (defScope s_fault_in).names.lookup y.1 = some .cell ∨ (defScope s_fault_in).names.lookup y.1 = some .free) (hfr : ∀ y ∈ (["features", "kinds"] : List Str), (y, NameKind.free) ∈ (lkS i).names)
    (G : LX.LOk X.prog X.w X.K X.mg X.base 8 f (lkF i q X.env.cells c) ["features", "kinds"] (spL1 sp 2)) (h1 : NdefX.slotAt σ 1 = some (.ref fe)) (h2 : NdefX.slotAt σ 2 = some (.ref kd)) :
    LX.CalX X σ 8 f (fun vs H Q E => ∃ v, vs = [v] ∧ sp [v, .ref fe, .ref kd] H Q E) (fun HX => HX f = some (LX.LamO f (lkF i q X.env.cells c)) ∧ HX c = some (LamX.CodeO c q)) := by
  refine .inr ⟨lkF i q X.env.cells c, ["features", "kinds"], [1, 2], spL1 sp 2, G, fun ok => NdefX.Caps.made (scope := lkS i) ok (by rw [hX]; exact hc) hfr (by rw [hN]; rfl), fun HX st => st, fun vs HX Q h => ?_⟩
  obtain ⟨v, rfl, h⟩ := h
  exact ⟨v, [.ref fe, .ref kd], rfl, by rw [List.map_cons, List.map_cons, h1, h2]; rfl, rfl, h⟩
theorem free1 : ∀ y ∈ (["features"] : List Str), (y, NameKind.free) ∈ (lkS 1).names := by decide +kernel
theorem free3 : ∀ y ∈ (["features", "kinds"] : List Str), (y, NameKind.free) ∈ (lkS 3).names := by decide +kernel
theorem free4 : ∀ y ∈ (["features"] : List Str), (y, NameKind.free) ∈ (lkS 4).names := by decide +kernel
theorem free5 : ∀ y ∈ (["features", "kinds"] : List Str), (y, NameKind.free) ∈ (lkS 5).names := by decide +kernel
theorem row_mk {X : Cx} {K : PySem.W.Frag} {T : Tb} {fe kd : Addr} {HB : Hp} {t l f : Addr} {wd : Str} {most : Nat} {sp : Sp} {St : Hp → Prop} {xs : List V} {nms : List Str} (ht : HB t = some (.tup [.str wd, .ref l, .int (most : Nat), .ref f])) (C : ∀ σ : L2.St, NdefX.slotAt σ 1 = some (.ref fe) → NdefX.slotAt σ 2 = some (.ref kd) → LX.CalX X σ 8 f sp St)
    (hl : HB l = some (.lst xs)) (few : xs.length ≤ most) (hm : most ≤ 1000) (S : Sound K T HB sp St xs (inV (.str wd) [.str "feature", .str "kind", .str "rule"]) nms) : Row X K T fe kd HB (.ref t) := ⟨t, l, f, wd, most, sp, St, xs, nms, rfl, ht, C, hl, few, hm, S⟩
theorem snd_f {K : PySem.W.Frag} {T : Tb} {HB : Hp} {xs : List V} {fs : List Ft} {N : Addr → Prop} {n : Nat} {b : Bool} (h : DqAll K HB N n xs (fs.map ftD)) (ok : ∀ f ∈ fs, f.Ok) (nd : (fs.map (·.n)).Nodup) : Sound K T HB (spIsFeature K T) (fun _ => True) xs b (fs.map (·.n)) :=
  ⟨fun _ _ => trivial, fun x hx HZ s Q q => by
    obtain ⟨g, hg, hv⟩ := dq_mem h hx
    exact ⟨x, g, _, _, rfl, hv.sl s, ok g hg, s.t, q⟩, fun _ => ⟨nd, fun i x hi => by
    obtain ⟨g, hg, hv⟩ := dq_at h hi
    obtain ⟨a1, l1, rfl, h1, _, _⟩ := ft_inv hv
    exact ⟨a1, g.n, _, rfl, by rw [List.getElem?_map, hg]; rfl, h1⟩⟩⟩
theorem snd_k {K : PySem.W.Frag} {T : Tb} {HB : Hp} {xs : List V} {fs : List Ft} {ks : List Kd} {N : Addr → Prop} {n : Nat} {b : Bool} {fe f c : Addr} {F : LX.LF} {q : Str} (h : DqAll K HB N n xs (ks.map kdD)) (ok : ∀ k ∈ ks, k.Ok fs) (nd : (ks.map (·.n)).Nodup) (hfe : FtsD HB fe fs) (hf : HB f = some (LX.LamO f F)) (hc : HB c = some (LamX.CodeO c q)) :
    Sound K T HB (fun vs H Q E => ∃ v, vs = [v] ∧ spIsKind K T [v, .ref fe] H Q E) (fun HX => HX f = some (LX.LamO f F) ∧ HX c = some (LamX.CodeO c q)) xs b (ks.map (·.n)) :=
  ⟨fun _ s => ⟨s.k _ _ LX.nt_lamO hf, s.k _ _ nt_code hc⟩, fun x hx HZ s Q q => by
    obtain ⟨g, hg, hv⟩ := dq_mem h hx
    exact ⟨x, rfl, x, fe, g, fs, _, _, rfl, hv.sl s, hfe.sl s, ok g hg, s.t, q⟩, fun _ => ⟨nd, fun i x hi => by
    obtain ⟨g, hg, hv⟩ := dq_at h hi
    obtain ⟨a1, l1, rfl, h1, _, _⟩ := kd_inv hv
    exact ⟨a1, g.n, _, rfl, by rw [List.getElem?_map, hg]; rfl, h1⟩⟩⟩
theorem snd_m {K : PySem.W.Frag} {T : Tb} {HB : Hp} {xs : List V} {ms : List Sm} {N : Addr → Prop} {n : Nat} (h : DqAll K HB N n xs (ms.map smD)) (ok : ∀ m ∈ ms, m.Ok) : Sound K T HB (spIsSeam K T) (fun _ => True) xs false [] :=
  snd_all (fun _ _ => trivial) fun x hx HZ s Q q => by
    obtain ⟨g, hg, hv⟩ := dq_mem h hx
    exact ⟨x, g, _, _, rfl, hv.sl s, ok g hg, s.t, q⟩
theorem snd_s {K : PySem.W.Frag} {T : Tb} {HB : Hp} {xs : List V} {fs : List Ft} {ks : List Kd} {ss : List Sd} {N : Addr → Prop} {n : Nat} {fe kd f c : Addr} {F : LX.LF} {q : Str} (h : DqAll K HB N n xs (ss.map sdD)) (ok : ∀ k ∈ ss, k.Ok fs ks) (hfe : FtsD HB fe fs) (hkd : KdsD K HB kd ks) (hf : HB f = some (LX.LamO f F)) (hc : HB c = some (LamX.CodeO c q)) :
    Sound K T HB (fun vs H Q E => ∃ v, vs = [v] ∧ spIsStem K T [v, .ref fe, .ref kd] H Q E) (fun HX => HX f = some (LX.LamO f F) ∧ HX c = some (LamX.CodeO c q)) xs false [] :=
  snd_all (fun _ s => ⟨s.k _ _ LX.nt_lamO hf, s.k _ _ nt_code hc⟩) fun x hx HZ s Q q => by
    obtain ⟨g, hg, hv⟩ := dq_mem h hx
    exact ⟨x, rfl, x, fe, kd, g, fs, ks, _, _, rfl, hv.sl s, hfe.sl s, hkd.sl s, ok g hg, s.t, q⟩
theorem snd_e {K : PySem.W.Frag} {T : Tb} {HB : Hp} {xs : List V} {fs : List Ft} {es : List En} {N : Addr → Prop} {n : Nat} {fe f c : Addr} {F : LX.LF} {q : Str} (h : DqAll K HB N n xs (es.map enD)) (ok : ∀ k ∈ es, k.Ok fs) (hfe : FtsD HB fe fs) (hf : HB f = some (LX.LamO f F)) (hc : HB c = some (LamX.CodeO c q)) :
    Sound K T HB (fun vs H Q E => ∃ v, vs = [v] ∧ spIsEnding K T [v, .ref fe] H Q E) (fun HX => HX f = some (LX.LamO f F) ∧ HX c = some (LamX.CodeO c q)) xs false [] :=
  snd_all (fun _ s => ⟨s.k _ _ LX.nt_lamO hf, s.k _ _ nt_code hc⟩) fun x hx HZ s Q q => by
    obtain ⟨g, hg, hv⟩ := dq_mem h hx
    exact ⟨x, rfl, x, fe, g, fs, _, _, rfl, hv.sl s, hfe.sl s, ok g hg, s.t, q⟩
theorem snd_r {K : PySem.W.Frag} {T : Tb} {HB : Hp} {sp : Sp} {b : Bool} {f c : Addr} {F : LX.LF} {q : Str} (hf : HB f = some (LX.LamO f F)) (hc : HB c = some (LamX.CodeO c q)) :
    Sound K T HB sp (fun HX => HX f = some (LX.LamO f F) ∧ HX c = some (LamX.CodeO c q)) [] b [] :=
  ⟨fun _ s => ⟨s.k _ _ LX.nt_lamO hf, s.k _ _ nt_code hc⟩, fun x hx => (by cases hx), fun _ => ⟨List.nodup_nil, fun i x hi => (by simp at hi)⟩⟩
abbrev XF (P : Program) (w : World) (K : PySem.W.Frag) (mg : Str → Option Value) (base : Heap) (f c0 : Addr) (A : Around) (outer : List Env) (s : Shared) (H : Hp) (E : XK) : Cx := (cxOf CX0 P w K mg base NFi "fault_in" (defScope s_fault_in) f (.ref c0) A outer s H E).nox
abbrev lamQ : Str := "fault_in.<locals>.<lambda>"
theorem ok_fault {f c0 fF fK fM fS fE fu fr : Addr} {fd fdF fdK fdM fdS fdE fdu fdr : FuncData} {T : Tb} (F : FunC K "fault_in" "fault_in" s_fault_in f fd c0) (TB : LamX.TabB base mg c0 T.F) (hF : T.F ∉ T.ps) (hq : T.q = "fault_in.<locals>.<lambda>") (me : mg "enumerate" = none)
    (kF : PySem.W.keepIn K (.ref fF) = true) (bF : Binds K fdF ["feature"] []) (gF : mg "is_feature" = some (.ref fF)) (GF : FnOk P w K mg base CX0 8 fF fdF ["feature"] (spIsFeature K T))
    (kK : PySem.W.keepIn K (.ref fK) = true) (bK : Binds K fdK ["kind", "features"] []) (gK : mg "is_kind" = some (.ref fK)) (GK : FnOk P w K mg base CX0 7 fK fdK ["kind", "features"] (spIsKind K T))
    (kM : PySem.W.keepIn K (.ref fM) = true) (bM : Binds K fdM ["seam"] []) (gM : mg "is_seam" = some (.ref fM)) (GM : FnOk P w K mg base CX0 8 fM fdM ["seam"] (spIsSeam K T))
    (kS : PySem.W.keepIn K (.ref fS) = true) (bS : Binds K fdS ["stem", "features", "kinds"] []) (gS : mg "is_stem" = some (.ref fS)) (GS : FnOk P w K mg base CX0 7 fS fdS ["stem", "features", "kinds"] (spIsStem K T))
    (kE : PySem.W.keepIn K (.ref fE) = true) (bE : Binds K fdE ["ending", "features"] []) (gE : mg "is_ending" = some (.ref fE)) (GE : FnOk P w K mg base CX0 7 fE fdE ["ending", "features"] (spIsEnding K T))
    (Fu : Fun K "first_unsound" "first_unsound" s_first_unsound fu fdu) (bu : Binds K fdu ["things", "most", "is_sound", "is_named"] []) (gu : mg "first_unsound" = some (.ref fu))
    (kr : PySem.W.keepIn K (.ref fr) = true) (br : Binds K fdr ["rules"] []) (gr : mg "first_in_ring" = some (.ref fr)) (Gr : FnOk P w K mg base CX0 1 fr fdr ["rules"] spRing0) :
    FnOk P w K mg base CX0 10 f fd ["told"] (spFault K T) := by
  refine F.ok sc_fault_in (fun vs H Q E h => ?_) (fun A outer s H vs Q E hr h => ?_)
  · obtain ⟨v, L, N, n, rfl, _⟩ := h
    rfl
  · obtain ⟨v, L, N, n, rfl, hD, hL, hT, q⟩ := h
    obtain ⟨a, xf, xk, xm, xs, xe, xr, vf, vk, vm, wS, ve, rfl, _, LA⟩ := lx_inv hD
    have hu := hu_of hr
    refine ⟨_, pss_cons (ps_set (i := 1) sc_fault_in.nd rfl (.inr rfl) (pe_dc (own := [("feature", 9)]) (g := gName 9) (tt := tYes) rfl sc_fault_in.nd (pi_list (pe_dget hu (pv 0) pe_str (fun _ _ => rfl)))
          (blkOk_by (own := [("feature", 9)]) (N := NFi) (sc := defScope s_fault_in) (by decide +kernel)) (fun _ _ _ _ _ => pg_name (i := 9) sc_fault_in.nd rfl (.inl rfl)) (fun _ _ _ _ _ => pts_nil)
          (fun _ _ _ _ _ => pe_ix (ix_tupK (K := K) rfl) (pv 9) pe_int (fun _ _ => rfl)) (fun _ _ _ _ _ => pe_ix (ix_tupK (K := K) rfl) (pv 9) pe_int (fun _ _ => rfl))))
      (pss_cons (ps_set (i := 2) sc_fault_in.nd rfl (.inr rfl) (pe_dc (own := [("kind", 10)]) (g := gName 10) (tt := tYes) rfl sc_fault_in.nd (pi_list (pe_dget hu (pv 0) pe_str (fun _ _ => rfl)))
          (blkOk_by (own := [("kind", 10)]) (N := NFi) (sc := defScope s_fault_in) (by decide +kernel)) (fun _ _ _ _ _ => pg_name (i := 10) sc_fault_in.nd rfl (.inl rfl)) (fun _ _ _ _ _ => pts_nil)
          (fun _ _ _ _ _ => pe_ix (ix_tupK (K := K) rfl) (pv 10) pe_int (fun _ _ => rfl)) (fun _ _ _ _ _ => pv 10)))
      (pss_cons (ps_set (i := 3) sc_fault_in.nd rfl (.inl rfl) (pe_lst
          (pa_cons (pe_tup (pa_cons pe_str (pa_cons (pe_dget hu (pv 0) pe_str (fun _ _ => rfl)) (pa_cons pe_int (pa_cons (pe_glob (v := .ref fF) (by rfl) gF rfl) pa_nil)))))
          (pa_cons (pe_tup (pa_cons pe_str (pa_cons (pe_dget hu (pv 0) pe_str (fun _ _ => rfl)) (pa_cons pe_int (pa_cons (LX.pe_lam TB rfl rfl caught1) pa_nil)))))
          (pa_cons (pe_tup (pa_cons pe_str (pa_cons (pe_dget hu (pv 0) pe_str (fun _ _ => rfl)) (pa_cons pe_int (pa_cons (pe_glob (v := .ref fM) (by rfl) gM rfl) pa_nil)))))
          (pa_cons (pe_tup (pa_cons pe_str (pa_cons (pe_dget hu (pv 0) pe_str (fun _ _ => rfl)) (pa_cons pe_int (pa_cons (LX.pe_lam TB rfl rfl caught3) pa_nil)))))
          (pa_cons (pe_tup (pa_cons pe_str (pa_cons (pe_dget hu (pv 0) pe_str (fun _ _ => rfl)) (pa_cons pe_int (pa_cons (LX.pe_lam TB rfl rfl caught4) pa_nil)))))
          (pa_cons (pe_tup (pa_cons pe_str (pa_cons (pe_dget hu (pv 0) pe_str (fun _ _ => rfl)) (pa_cons pe_int (pa_cons (LX.pe_lam TB rfl rfl caught5) pa_nil)))))
          pa_nil))))))))
      (pss_cons (ps_for PassesOwn.never rfl (pi_list (pv 3)) (pg_tup rfl (pgs_cons (pg_name (i := 4) sc_fault_in.nd rfl (.inl rfl)) (pgs_cons (pg_name (i := 5) sc_fault_in.nd rfl (.inl rfl)) (pgs_cons (pg_name (i := 6) sc_fault_in.nd rfl (.inl rfl)) (pgs_cons (pg_name (i := 7) sc_fault_in.nd rfl (.inl rfl)) pgs_nil)))))
        (pss_cons (ps_set (i := 8) sc_fault_in.nd rfl (.inl rfl) (LX.pe_callV (k := 8) Fu sc_first_unsound bu (by rfl) gu (hr.mono (by decide)) (SPfu _ K T) (fun pins σ s H vs Q I h => by
            obtain ⟨l, most, f1, named, sp, St, ys, nms, rfl, C, hl, few, hm, hS, hT1, q1⟩ := h
            exact ⟨rfl, fun cd room => fu_body me (LX.cal_of I C) room hl few hm hS hT1 q1⟩) (pa_cons (pv 5) (pa_cons (pv 6) (pa_cons (pv 7) (pa_cons (pe_cmpR op_in_seq (pv 4) (pe_tup (pa_cons pe_str (pa_cons pe_str (pa_cons pe_str pa_nil)))) (by rfl)) pa_nil))))))
        (pss_one (ps_if (pt_cmpR op_ge (pv 8) pe_int (nomark _)) pss_never pss_nil))))
      (pss_cons (ps_if (PW.pt (pw_or (pt_cmp (pc_dnotin hu (pe_dget hu (pv 0) pe_str (fun _ _ => rfl)) (pv 2))) (pw_or1 (pt_val (pe_ix ix_tup (pe_dget hu (pv 2) (pe_dget hu (pv 0) pe_str (fun _ _ => rfl)) (fun _ _ => rfl)) pe_int (fun _ _ => rfl)))))) pss_never pss_nil)
      (pss_cons (ps_set (i := 8) sc_fault_in.nd rfl (.inl rfl) (pe_call Gr (hr.mono (by decide)) (by rfl) gr kr br .nil pass0 (pa_cons (pe_dget hu (pv 0) pe_str (fun _ _ => rfl)) pa_nil)))
      (pss_one (ps_ret (pe_ifExp (pt_cmpR op_ge (pv 8) pe_int (nomark _)) pe_no pe_non)))))))), ?_⟩
    have e1 : L.fs.take vf.length = L.fs := by rw [LA.df.len, List.length_map, List.take_length]
    have e2 : L.ks.take vk.length = L.ks := by rw [LA.dk.len, List.length_map, List.take_length]
    have bf := hL.fl
    have bk := hL.kl
    refine ⟨_, rfl, a, _, rfl, get_of LA.d lxK_features, xf, rfl, ⟨_, .inl (.inl LA.hf)⟩, fun D nD => ?_⟩
    refine dc_it (walk_list (K := K) (a := xf) (xs := vf)) (fun i HZ => SL T H HZ ∧ FeI HZ D (L.fs.take i)) ⟨SL.of hT (same_new nD), FeI.nil upd_same⟩ (fun i HZ _ z => .inl (.inl (z.1.k _ _ nt_lst LA.hf))) (fun i x HZ HZ' hi hP' hY => ?_) (fun H1 hP' => ?_)
    · obtain ⟨rfl, hx⟩ := hY
      obtain ⟨a1, l1, f1, ks, rfl, h1, h2, h3, h4, h5⟩ := dcF_turn hL.fn hP'.1 nD hP'.2 LA.df (by omega) hx
      exact ⟨rfl, tYes_in ⟨_, rfl, a1, _, _, V.str f1.n, rfl, rfl, h1, rfl, _, rfl, a1, _, _, V.ref l1, rfl, rfl, h1, rfl, ks, .inr f1.n, rfl, h2, h3, h4, h5⟩⟩
    obtain ⟨s1, hfe⟩ := hP'
    rw [e1] at hfe
    have LB := LA.sl s1
    refine ⟨_, rfl, a, _, rfl, get_of LB.d lxK_kinds, xk, rfl, ⟨_, .inl (.inl LB.hk)⟩, fun D2 nD2 => ?_⟩
    refine dc_it (walk_list (K := K) (a := xk) (xs := vk)) (fun i HZ => SL T H1 HZ ∧ KdI K HZ D2 (L.ks.take i)) ⟨SL.of s1.t (same_new nD2), KdI.nil upd_same⟩ (fun i HZ _ z => .inl (.inl (z.1.k _ _ nt_lst LB.hk))) (fun i x HZ HZ' hi hP' hY => ?_) (fun H2 hP' => ?_)
    · obtain ⟨rfl, hx⟩ := hY
      obtain ⟨a1, l1, f1, ks, rfl, h1, h2, h3, h4, h5⟩ := dcK_turn hL.kn hP'.1 nD2 hP'.2 LB.dk (by omega) hx
      exact ⟨rfl, tYes_in ⟨_, rfl, a1, _, _, V.str f1.n, rfl, rfl, h1, rfl, _, rfl, ks, .inr f1.n, rfl, h2, h3, h4, h5⟩⟩
    obtain ⟨s2, hkd⟩ := hP'
    rw [e2] at hkd
    have LC := LB.sl s2
    have hfe2 := hfe.fts.sl s2
    have hkd2 := hkd.kds
    refine ⟨_, rfl, a, _, rfl, get_of LC.d lxK_features, (show 4 ≤ sizeLine by decide), fun t0 n0 => ?_⟩
    have s3 := SL.of s2.t (same_new (o := .tup [.str "feature", .ref xf, .int 6, .ref fF]) n0)
    have h0 : (upd H2 t0 (.tup [.str "feature", .ref xf, .int 6, .ref fF])) t0 = _ := upd_same
    generalize upd H2 t0 (.tup [.str "feature", .ref xf, .int 6, .ref fF]) = H3 at s3 h0 ⊢
    have L3 := LC.sl s3
    have tq : ∀ {HX : Hp}, TbOk T HX → LamX.TabS HX T.F "fault_in.<locals>.<lambda>" := fun {HX} t => by
      rw [← hq]
      exact t.l
    have tp : ∀ {HX : Hp}, LamX.TabS HX T.F "fault_in.<locals>.<lambda>" → LamX.TabS HX T.F T.q := fun {HX} t => by
      rw [hq]
      exact t
    refine ⟨_, rfl, a, _, rfl, get_of L3.d lxK_kinds, tq s3.t, fun f1 c1 H4 kp4 tb4 nf4 hf4 hc4 => ⟨(show 4 ≤ sizeLine by decide), fun t1 n1 => ?_⟩⟩
    have s4 := SL.lam s3.t hF kp4 (tp tb4)
    have s5 := SL.of s4.t (same_new (o := .tup [.str "kind", .ref xk, .int 12, .ref f1]) n1)
    have h1 : (upd H4 t1 (.tup [.str "kind", .ref xk, .int 12, .ref f1])) t1 = _ := upd_same
    generalize upd H4 t1 (.tup [.str "kind", .ref xk, .int 12, .ref f1]) = H5 at s5 h1 ⊢
    have L5 := (L3.sl s4).sl s5
    refine ⟨_, rfl, a, _, rfl, get_of L5.d lxK_seams, (show 4 ≤ sizeLine by decide), fun t2 n2 => ?_⟩
    have s6 := SL.of s5.t (same_new (o := .tup [.str "seam", .ref xm, .int 12, .ref fM]) n2)
    have h2 : (upd H5 t2 (.tup [.str "seam", .ref xm, .int 12, .ref fM])) t2 = _ := upd_same
    generalize upd H5 t2 (.tup [.str "seam", .ref xm, .int 12, .ref fM]) = H6 at s6 h2 ⊢
    have L6 := L5.sl s6
    refine ⟨_, rfl, a, _, rfl, get_of L6.d lxK_stems, tq s6.t, fun f3 c3 H7 kp7 tb7 nf7 hf7 hc7 => ⟨(show 4 ≤ sizeLine by decide), fun t3 n3 => ?_⟩⟩
    have s7 := SL.lam s6.t hF kp7 (tp tb7)
    have s8 := SL.of s7.t (same_new (o := .tup [.str "stem", .ref xs, .int 40, .ref f3]) n3)
    have h3 : (upd H7 t3 (.tup [.str "stem", .ref xs, .int 40, .ref f3])) t3 = _ := upd_same
    generalize upd H7 t3 (.tup [.str "stem", .ref xs, .int 40, .ref f3]) = H8 at s8 h3 ⊢
    have L8 := (L6.sl s7).sl s8
    refine ⟨_, rfl, a, _, rfl, get_of L8.d lxK_endings, tq s8.t, fun f4 c4 H9 kp9 tb9 nf9 hf9 hc9 => ⟨(show 4 ≤ sizeLine by decide), fun t4 n4 => ?_⟩⟩
    have s9 := SL.lam s8.t hF kp9 (tp tb9)
    have s10 := SL.of s9.t (same_new (o := .tup [.str "ending", .ref xe, .int 40, .ref f4]) n4)
    have h4 : (upd H9 t4 (.tup [.str "ending", .ref xe, .int 40, .ref f4])) t4 = _ := upd_same
    generalize upd H9 t4 (.tup [.str "ending", .ref xe, .int 40, .ref f4]) = H10 at s10 h4 ⊢
    have L10 := (L8.sl s9).sl s10
    refine ⟨_, rfl, a, _, rfl, get_of L10.d lxK_rules, tq s10.t, fun f5 c5 H11 kp11 tb11 nf11 hf11 hc11 => ⟨(show 4 ≤ sizeLine by decide), fun t5 n5 => ?_⟩⟩
    have s11 := SL.lam s10.t hF kp11 (tp tb11)
    have s12 := SL.of s11.t (same_new (o := .tup [.str "rule", .ref xr, .int 30, .ref f5]) n5)
    have h5 : (upd H11 t5 (.tup [.str "rule", .ref xr, .int 30, .ref f5])) t5 = _ := upd_same
    generalize upd H11 t5 (.tup [.str "rule", .ref xr, .int 30, .ref f5]) = H12 at s12 h5 ⊢
    have L12 := (L10.sl s11).sl s12
    refine ⟨(show 6 ≤ sizeLine by decide), fun lk nlk => ?_⟩
    have s13 := SL.of s12.t (same_new (o := .lst [.ref t0, .ref t1, .ref t2, .ref t3, .ref t4, .ref t5]) nlk)
    have hlk : (upd H12 lk (.lst [.ref t0, .ref t1, .ref t2, .ref t3, .ref t4, .ref t5])) lk = _ := upd_same
    generalize upd H12 lk (.lst [.ref t0, .ref t1, .ref t2, .ref t3, .ref t4, .ref t5]) = HB at s13 hlk ⊢
    have LX13 := L12.sl s13
    -- from each heap to the last
    have z12 := s13
    have z11 := s12.trans z12
    have z10 := s11.trans z11
    have z9 := s10.trans z10
    have z8 := s9.trans z9
    have z7 := s8.trans z8
    have z6 := s7.trans z7
    have z5 := s6.trans z6
    have z4 := s5.trans z5
    have z3 := s4.trans z4
    have z2 := s3.trans z3
    have zA := (s1.trans s2).trans z2
    have hfeB := hfe2.sl z2
    have hkdB := hkd2.sl z2
    have bm := hL.ml
    have bs := hL.sl
    have be := hL.el
    have lf : vf.length ≤ 6 := by rw [LA.df.len, List.length_map]; exact bf
    have lkk : vk.length ≤ 12 := by rw [LA.dk.len, List.length_map]; exact bk
    have lm : vm.length ≤ 12 := by rw [LA.dm.len, List.length_map]; exact bm
    have lS : wS.length ≤ 40 := by rw [LA.ds.len, List.length_map]; exact bs
    have lE : ve.length ≤ 40 := by rw [LA.de.len, List.length_map]; exact be
    have g4 : H4 f1 = some (LX.LamO f1 (lkF 1 lamQ (XF P w K mg base f c0 A outer s H E).env.cells c1)) := hf4
    have g7 : H7 f3 = some (LX.LamO f3 (lkF 3 lamQ (XF P w K mg base f c0 A outer s H E).env.cells c3)) := hf7
    have g9 : H9 f4 = some (LX.LamO f4 (lkF 4 lamQ (XF P w K mg base f c0 A outer s H E).env.cells c4)) := hf9
    have g11 : H11 f5 = some (LX.LamO f5 (lkF 5 lamQ (XF P w K mg base f c0 A outer s H E).env.cells c5)) := hf11
    have k4 : H4 c1 = some (LamX.CodeO c1 lamQ) := hc4
    have k7 : H7 c3 = some (LamX.CodeO c3 lamQ) := hc7
    have k9 : H9 c4 = some (LamX.CodeO c4 lamQ) := hc9
    have k11 : H11 c5 = some (LamX.CodeO c5 lamQ) := hc11
    have r0 : Row (XF P w K mg base f c0 A outer s H E) K T D D2 HB (.ref t0) := row_mk (z3.k _ _ nt_tup h0) (fun σ _ _ => .inl ⟨fdF, ["feature"], GF, kF, bF⟩) LX13.hf lf (by decide) (snd_f LX13.df hL.f hL.fn)
    have r1 : Row (XF P w K mg base f c0 A outer s H E) K T D D2 HB (.ref t1) := row_mk (z5.k _ _ nt_tup h1) (fun σ e _ => cal1 rfl rfl caught1 free1 (ok_lam1 kK bK gK GK) e) LX13.hk lkk (by decide) (snd_k LX13.dk hL.k hL.kn hfeB (z4.k _ _ LX.nt_lamO g4) (z4.k _ _ nt_code k4))
    have r2 : Row (XF P w K mg base f c0 A outer s H E) K T D D2 HB (.ref t2) := row_mk (z6.k _ _ nt_tup h2) (fun σ _ _ => .inl ⟨fdM, ["seam"], GM, kM, bM⟩) LX13.hm lm (by decide) (snd_m LX13.dm hL.m)
    have r3 : Row (XF P w K mg base f c0 A outer s H E) K T D D2 HB (.ref t3) := row_mk (z8.k _ _ nt_tup h3) (fun σ e e' => cal2 rfl rfl caught3 free3 (ok_lam3 kS bS gS GS) e e') LX13.hs lS (by decide) (snd_s LX13.ds hL.s hfeB hkdB (z7.k _ _ LX.nt_lamO g7) (z7.k _ _ nt_code k7))
    have r4 : Row (XF P w K mg base f c0 A outer s H E) K T D D2 HB (.ref t4) := row_mk (z10.k _ _ nt_tup h4) (fun σ e _ => cal1 rfl rfl caught4 free4 (ok_lam4 kE bE gE GE) e) LX13.he lE (by decide) (snd_e LX13.de hL.e hfeB (z9.k _ _ LX.nt_lamO g9) (z9.k _ _ nt_code k9))
    have r5 : Row (XF P w K mg base f c0 A outer s H E) K T D D2 HB (.ref t5) := row_mk (z12.k _ _ nt_tup h5) (fun σ e e' => cal2 rfl rfl caught5 free5 (ok_lam5 (k := 7)) e e') LX13.hr (by decide) (by decide) (snd_r (z11.k _ _ LX.nt_lamO g11) (z11.k _ _ nt_code k11))
    have rows : ∀ (i : Nat) (x : V), ([.ref t0, .ref t1, .ref t2, .ref t3, .ref t4, .ref t5] : List V)[i]? = some x → Row (XF P w K mg base f c0 A outer s H E) K T D D2 HB x := fun i x hx => by
      match i, hx with
      | 0, hx => cases hx; exact r0
      | 1, hx => cases hx; exact r1
      | 2, hx => cases hx; exact r2
      | 3, hx => cases hx; exact r3
      | 4, hx => cases hx; exact r4
      | 5, hx => cases hx; exact r5
    refine ⟨_, rfl, lk, rfl, ⟨_, .inl (.inl hlk)⟩, ?_⟩
    refine for_it (walk_list (K := K) (a := lk) (xs := [.ref t0, .ref t1, .ref t2, .ref t3, .ref t4, .ref t5])) (fun i σ HZ => (∃ y4 y5 y6 y7 y8 : Option V, σ = [some (.ref a), some (.ref D), some (.ref D2), some (.ref lk), y4, y5, y6, y7, y8, none, none]) ∧ SL T HB HZ)
      ⟨⟨_, _, _, _, _, rfl⟩, SL.refl s13.t⟩ (fun i σ HZ _ z => .inl (.inl (z.2.k _ _ nt_lst hlk))) (fun i x σ HZ HZ' hi hP' hY => ?_) (fun σ HZ hP' => ?_)
    · obtain ⟨rfl, hx⟩ := hY
      obtain ⟨⟨y4, y5, y6, y7, y8, rfl⟩, sZ⟩ := hP'
      obtain ⟨t, l, g, wd, most, sp, St, ys, nms, rfl, j1, j2, j3, j4, j5, j6⟩ := (rows i x hx).sl sZ
      refine ⟨t, _, rfl, .inl (.inl j1), rfl, _, _, rfl, _, _, rfl, _, _, rfl, _, _, rfl, rfl, ?_⟩
      refine ⟨_, rfl, _, rfl, _, rfl, _, rfl, (show 3 ≤ sizeLine by decide), fun u nu => ?_⟩
      have s1' := SL.of sZ.t (same_new (o := .tup [.str "feature", .str "kind", .str "rule"]) nu)
      have hu' : (upd HZ' u (.tup [.str "feature", .str "kind", .str "rule"])) u = some (.tup [.str "feature", .str "kind", .str "rule"]) := upd_same
      generalize upd HZ' u (.tup [.str "feature", .str "kind", .str "rule"]) = HY at s1' hu' ⊢
      refine ⟨u, _, rfl, .inr (.inl (.inl hu')), rfl, rfl, ?_⟩
      refine ⟨l, most, g, _, sp, St, ys, nms, rfl, j2 _ rfl rfl, s1'.k _ _ nt_lst j3, j4, j5, j6.sl s1', s1'.t, fun HX sX => ?_⟩
      exact ⟨_, rfl, _, _, rfl, rfl, _, rfl, iteF ⟨⟨_, _, _, _, _, rfl⟩, (sZ.trans s1').trans sX⟩⟩
    · obtain ⟨⟨y4, y5, y6, y7, y8, rfl⟩, sZ⟩ := hP'
      have LZ := LX13.sl sZ
      have hkZ := hkdB.sl sZ
      obtain ⟨kvs, e3, e4⟩ := hkZ
      obtain ⟨k0, hk0, ek0, em0⟩ := hL.st
      obtain ⟨ka, kl, e5, e6, e7⟩ := e4 k0 hk0
      rw [ek0] at e5
      refine ⟨_, rfl, a, _, rfl, get_of LZ.d lxK_start, _, rfl, D2, _, rfl, get_of e3 e5, false, rfl, iteF ?_⟩
      refine ⟨_, rfl, _, rfl, a, _, rfl, get_of LZ.d lxK_start, D2, _, rfl, get_of e3 e5, ka, _, _, V.bl k0.m, rfl, rfl, e6, rfl, k0.m, rfl, ?_⟩
      rw [em0]
      refine iteF ⟨_, rfl, a, _, rfl, get_of LZ.d lxK_rules, xr, rfl, LZ.hr, fun HX sX => ?_⟩
      exact ⟨_, rfl, _, _, rfl, rfl, _, rfl, iteF (q _ ((zA.trans sZ).same sX))⟩
end
end Bn

namespace Bn
open PySem PySem.Spec PyProof.Rows L2 BR GX RM GY
theorem nt_ins {C dx : Addr} {fs : List (Str × V)} : NT (.ins C dx fs) := fun _ z => by cases z
theorem ncI {C dx : Addr} {fs : List (Str × V)} : ∀ c q, HO.ins C dx fs ≠ LamX.CodeO c q := fun _ _ z => by
  unfold LamX.CodeO at z
  cases z
theorem SL.ownI {T : Tb} {H H' : Hp} {p : Addr} {o : HO} {C dx : Addr} {fs : List (Str × V)} (s : SL T H H') (n : H p = none) (e : H' p = some (.ins C dx fs)) : SL T H (upd H' p o) := s.own n e nt_ins ncI
section
variable {K : PySem.W.Frag} {H H' : Hp}
mutual
theorem Dq.kp (hl : ∀ a xs, H a = some (.lst xs) → H' a = some (.lst xs)) (hd : ∀ a kvs, H a = some (.dK kvs) → H' a = some (.dK kvs)) (ht : ∀ a xs, SqT K H a xs → SqT K H' a xs) : ∀ {N : Addr → Prop} {n : Nat} {v : V} {d : PyData}, Dq K H N n v d → Dq K H' N n v d
  | _, _, _, _, .non => .non
  | _, _, _, _, .bl b => .bl b
  | _, _, _, _, .int i => .int i
  | _, _, _, _, .str x => .str x
  | _, _, _, _, .lst h m l h2 => .lst (hl _ _ h) m l (DqAll.kp hl hd ht h2)
  | _, _, _, _, .tup h l h2 => .tup (ht _ _ h) l (DqAll.kp hl hd ht h2)
  | _, _, _, _, .dic h m l nd h2 => .dic (hd _ _ h) m l nd (DqKv.kp hl hd ht h2)
theorem DqAll.kp (hl : ∀ a xs, H a = some (.lst xs) → H' a = some (.lst xs)) (hd : ∀ a kvs, H a = some (.dK kvs) → H' a = some (.dK kvs)) (ht : ∀ a xs, SqT K H a xs → SqT K H' a xs) : ∀ {N : Addr → Prop} {n : Nat} {vs : List V} {ds : List PyData}, DqAll K H N n vs ds → DqAll K H' N n vs ds
  | _, _, _, _, .nil => .nil
  | _, _, _, _, .cons h1 h2 => .cons (Dq.kp hl hd ht h1) (DqAll.kp hl hd ht h2)
theorem DqKv.kp (hl : ∀ a xs, H a = some (.lst xs) → H' a = some (.lst xs)) (hd : ∀ a kvs, H a = some (.dK kvs) → H' a = some (.dK kvs)) (ht : ∀ a xs, SqT K H a xs → SqT K H' a xs) : ∀ {N : Addr → Prop} {n : Nat} {kvs : List (Key × V)} {es : List (PyData × PyData)}, DqKv K H N n kvs es → DqKv K H' N n kvs es
  | _, _, _, _, .nil => .nil
  | _, _, _, _, .cons h1 h2 => .cons (Dq.kp hl hd ht h1) (DqKv.kp hl hd ht h2)
end
variable {p C dx : Addr} {fs : List (Str × V)} {o : HO}
theorem sqT_updI {a : Addr} {xs : List V} (h : SqT K H a xs) (e : H p = some (.ins C dx fs)) : SqT K (upd H p o) a xs := by
  rcases h with (h | ⟨ob, h⟩) | h
  · exact .inl (.inl (by rw [upd_ne (ne_of h e (by intro z; cases z))]; exact h))
  · exact .inl (.inr ⟨ob, by rw [upd_ne (ne_of h e (by intro z; cases z))]; exact h⟩)
  · exact .inr h
theorem lst_updI {a : Addr} {xs : List V} (h : H a = some (.lst xs)) (e : H p = some (.ins C dx fs)) : (upd H p o) a = some (.lst xs) := by
  rw [upd_ne (ne_of h e (by intro z; cases z))]
  exact h
theorem dK_updI {a : Addr} {xs : List (Key × V)} (h : H a = some (.dK xs)) (e : H p = some (.ins C dx fs)) : (upd H p o) a = some (.dK xs) := by
  rw [upd_ne (ne_of h e (by intro z; cases z))]
  exact h
theorem Dq.updI {N : Addr → Prop} {n : Nat} {v : V} {d : PyData} (h : Dq K H N n v d) (e : H p = some (.ins C dx fs)) : Dq K (upd H p o) N n v d := h.kp (fun _ _ z => lst_updI z e) (fun _ _ z => dK_updI z e) (fun _ _ z => sqT_updI z e)
theorem KdsD.updI {kd : Addr} {ks : List Kd} (h : KdsD K H kd ks) (e : H p = some (.ins C dx fs)) : KdsD K (upd H p o) kd ks := by
  obtain ⟨kvs, h1, h2⟩ := h
  exact ⟨kvs, dK_updI h1 e, fun k hk => let ⟨a, l, e1, e2, e3⟩ := h2 k hk; ⟨a, l, e1, sqT_updI e2 e, lst_updI e3 e⟩⟩
end
/-- a Tongue's attributes, in the order in which they are stored -/
def tgF (o f k p c : V) : List (Str × V) := [("own", o), ("feature_named", f), ("kind_named", k), ("placings", p), ("kept", c)]
theorem tgF_eq (o f k p c : V) : putF "kept" c (putF "placings" p (putF "kind_named" k (putF "feature_named" f (putF "own" o [])))) = tgF o f k p c := by
  simp only [putF, tgF]
  rfl
theorem tgF_own (o f k p c : V) : (tgF o f k p c).lookup ("own" : Str) = some o := rfl
theorem tgF_kn (o f k p c : V) : (tgF o f k p c).lookup ("kind_named" : Str) = some k := rfl
theorem tgF_kept (o f k p c : V) : (tgF o f k p c).lookup ("kept" : Str) = some c := rfl
theorem own1 (o : V) : (putF "own" o []).lookup ("own" : Str) = some o := rfl
theorem own2 (o f : V) : (putF "feature_named" f (putF "own" o [])).lookup ("own" : Str) = some o := rfl
theorem own3 (o f k : V) : (putF "kind_named" k (putF "feature_named" f (putF "own" o []))).lookup ("own" : Str) = some o := rfl
/-- what is asked of the class -/
structure TgC (K : PySem.W.Frag) (C : Addr) : Prop where
  cl : Cls K C
  nO : NoAttr K C "own"
  nF : NoAttr K C "feature_named"
  nK : NoAttr K C "kind_named"
  nP : NoAttr K C "placings"
  nC : NoAttr K C "kept"
/-- a Tongue at p, of the lexicon L, what it keeps at c: kvs; its lists and dicts are among N -/
def TgB (C : Addr) (K : PySem.W.Frag) (N : Addr → Prop) (H : Hp) (p c : Addr) (L : Lx) (kvs : List (Key × V)) : Prop := ∃ (dx o fd kd pl : Addr), H p = some (.ins C dx (tgF (.ref o) (.ref fd) (.ref kd) (.ref pl) (.ref c))) ∧ Dq K H (fun b => N b ∧ b ≠ c) 4 (.ref o) (lxD L) ∧ KdsD K H kd L.ks ∧ kd ≠ c ∧ H c = some (.dK kvs)
theorem TgB.sl {C : Addr} {K : PySem.W.Frag} {N : Addr → Prop} {T : Tb} {H H' : Hp} {p c : Addr} {L : Lx} {kvs : List (Key × V)} (h : TgB C K N H p c L kvs) (s : SL T H H') : TgB C K N H' p c L kvs := by
  obtain ⟨dx, o, fd, kd, pl, h1, h2, h3, h4, h5⟩ := h
  exact ⟨dx, o, fd, kd, pl, s.k _ _ nt_ins h1, h2.sl s, h3.sl s, h4, s.k _ _ nt_dK h5⟩
def TgAt (C : Addr) (K : PySem.W.Frag) (N : Addr → Prop) (H : Hp) (p : Addr) (L : Lx) : Prop := ∃ c kvs, TgB C K N H p c L kvs
theorem TgAt.sl {C : Addr} {K : PySem.W.Frag} {N : Addr → Prop} {T : Tb} {H H' : Hp} {p : Addr} {L : Lx} (h : TgAt C K N H p L) (s : SL T H H') : TgAt C K N H' p L := by
  obtain ⟨c, kvs, h⟩ := h
  exact ⟨c, kvs, h.sl s⟩
theorem Dq.off {K : PySem.W.Frag} {H : Hp} {N : Addr → Prop} {n : Nat} {v : V} {d : PyData} {p : Addr} (h : Dq K H N n v d) (np : H p = none) : Dq K H (fun a => N a ∧ a ≠ p) n v d := h.keep (fun _ _ e => e) (fun _ _ _ e => e) fun a o na e => ⟨na, fun z => by rw [z, np] at e; cases e⟩
/-- the dict of kinds by names, it and the lists within among M -/
def KdJ (K : PySem.W.Frag) (M : Addr → Prop) (H : Hp) (D : Addr) (fs : List Kd) : Prop := ∃ ks, H D = some (.dK ks) ∧ ks.map (·.1) = fs.map (fun f => (Sum.inr f.n : Key)) ∧ ∀ k ∈ fs, ∃ a l, valV ks (.inr k.n) = some (.ref a) ∧ SqT K H a [.str k.n, .ref l, .bl k.g, .bl k.m] ∧ H l = some (.lst (k.fs.map V.str)) ∧ M l
def KdsN (K : PySem.W.Frag) (M : Addr → Prop) (H : Hp) (kd : Addr) (ks : List Kd) : Prop := M kd ∧ ∃ kvs, H kd = some (.dK kvs) ∧ ∀ k ∈ ks, ∃ a l, valV kvs (.inr k.n) = some (.ref a) ∧ SqT K H a [.str k.n, .ref l, .bl k.g, .bl k.m] ∧ H l = some (.lst (k.fs.map V.str)) ∧ M l
theorem KdJ.nil {K : PySem.W.Frag} {M : Addr → Prop} {H : Hp} {D : Addr} (h : H D = some (.dK [])) : KdJ K M H D [] := ⟨[], h, rfl, fun f hf => by cases hf⟩
theorem KdJ.kds {K : PySem.W.Frag} {M : Addr → Prop} {H : Hp} {D : Addr} {fs : List Kd} (m : M D) (h : KdJ K M H D fs) : KdsN K M H D fs := let ⟨ks, e1, _, e3⟩ := h; ⟨m, ks, e1, e3⟩
theorem KdsN.kds {K : PySem.W.Frag} {M : Addr → Prop} {H : Hp} {D : Addr} {fs : List Kd} (h : KdsN K M H D fs) : KdsD K H D fs := let ⟨_, ks, e1, e3⟩ := h; ⟨ks, e1, fun k hk => let ⟨a, l, x1, x2, x3, _⟩ := e3 k hk; ⟨a, l, x1, x2, x3⟩⟩
theorem KdsN.kp {K : PySem.W.Frag} {M : Addr → Prop} {H H' : Hp} {D : Addr} {fs : List Kd} (h : KdsN K M H D fs) (hl : ∀ a xs, M a → H a = some (.lst xs) → H' a = some (.lst xs)) (hd : ∀ kvs, H D = some (.dK kvs) → H' D = some (.dK kvs)) (ht : ∀ a xs, SqT K H a xs → SqT K H' a xs) : KdsN K M H' D fs :=
  let ⟨m, ks, e1, e3⟩ := h; ⟨m, ks, hd _ e1, fun k hk => let ⟨a, l, x1, x2, x3, x4⟩ := e3 k hk; ⟨a, l, x1, ht _ _ x2, hl _ _ x4 x3, x4⟩⟩
theorem KdsN.sl {T : Tb} {K : PySem.W.Frag} {M : Addr → Prop} {H H' : Hp} {D : Addr} {fs : List Kd} (h : KdsN K M H D fs) (s : SL T H H') : KdsN K M H' D fs := h.kp (fun _ _ _ e => s.k _ _ nt_lst e) (fun _ e => s.k _ _ nt_dK e) (fun _ _ e => s.sqT e)
theorem KdsN.updI {K : PySem.W.Frag} {M : Addr → Prop} {H : Hp} {D p C dx : Addr} {fs : List (Str × V)} {o : HO} {ks : List Kd} (h : KdsN K M H D ks) (e : H p = some (.ins C dx fs)) : KdsN K M (upd H p o) D ks := h.kp (fun _ _ _ z => lst_updI z e) (fun _ z => dK_updI z e) (fun _ _ z => sqT_updI z e)
theorem kdJ_put {K : PySem.W.Frag} {M : Addr → Prop} {H : Hp} {D : Addr} {fs : List Kd} {f : Kd} {a l : Addr} {ks : List (Key × V)} (hD : H D = some (.dK ks)) (e1 : ks.map (·.1) = fs.map (fun f => (Sum.inr f.n : Key))) (e2 : ∀ k ∈ fs, ∃ a l, valV ks (.inr k.n) = some (.ref a) ∧ SqT K H a [.str k.n, .ref l, .bl k.g, .bl k.m] ∧ H l = some (.lst (k.fs.map V.str)) ∧ M l)
    (off : (Sum.inr f.n : Key) ∉ fs.map (fun f => (Sum.inr f.n : Key))) (ha : SqT K H a [.str f.n, .ref l, .bl f.g, .bl f.m]) (hl : H l = some (.lst (f.fs.map V.str))) (ml : M l) : KdJ K M (upd H D (.dK (putK ks (.inr f.n) (.ref a)))) D (fs ++ [f]) := by
  have nl : ∀ {l2 : Addr} {ys : List V}, H l2 = some (.lst ys) → (upd H D (.dK (putK ks (.inr f.n) (.ref a)))) l2 = some (.lst ys) := fun e => by
    rw [upd_ne (ne_of e hD (by intro z; cases z))]
    exact e
  refine ⟨_, upd_same, ?_, fun g hg => ?_⟩
  · rw [Bn.putK_new (by rw [e1]; exact off), List.map_append, List.map_append, e1]
    rfl
  · rw [valV_put]
    rcases List.mem_append.mp hg with h | h
    · obtain ⟨a2, l2, e3, e4, e5, e6⟩ := e2 g h
      have ne : ¬ (Sum.inr g.n : Key) = .inr f.n := fun z => off (z ▸ List.mem_map.mpr ⟨g, h, rfl⟩)
      rw [if_neg ne]
      exact ⟨a2, l2, e3, sqT_updD e4 hD, nl e5, e6⟩
    · rw [List.mem_singleton.mp h, if_pos rfl]
      exact ⟨a, l, rfl, sqT_updD ha hD, nl hl, ml⟩
theorem dcJ_turn {T : Tb} {K : PySem.W.Frag} {N M : Addr → Prop} {n : Nat} {D : Addr} {H0 HZ : Hp} {xf : List V} {fs : List Kd} {i : Nat} {x : V} (sub : ∀ b, N b → M b) (nd : (fs.map (·.n)).Nodup) (sZ : SL T H0 HZ) (nD : H0 D = none) (hI : KdJ K M HZ D (fs.take i)) (hd : DqAll K H0 N n xf (fs.map kdD)) (few : fs.length ≤ 1000) (hx : xf[i]? = some x) :
    ∃ (a l : Addr) (f : Kd) (ks : List (Key × V)), x = .ref a ∧ SqT K HZ a [.str f.n, .ref l, .bl f.g, .bl f.m] ∧ HZ D = some (.dK ks) ∧ ks.length < sizeLine ∧ SL T H0 (upd HZ D (.dK (putK ks (.inr f.n) (.ref a)))) ∧ KdJ K M (upd HZ D (.dK (putK ks (.inr f.n) (.ref a)))) D (fs.take (i + 1)) := by
  obtain ⟨f, hf, hv⟩ := dq_at hd hx
  obtain ⟨a, l, rfl, h1, h2, h3⟩ := kd_inv (hv.sl sZ)
  obtain ⟨ks, e1, e2, e3⟩ := hI
  have hlen : ks.length = (fs.take i).length := by
    have := congrArg List.length e2
    rw [List.length_map, List.length_map] at this
    exact this
  refine ⟨a, l, f, ks, rfl, h1, e1, small_line ?_, sZ.ownD nD e1, ?_⟩
  · rw [hlen, List.length_take]
    obtain ⟨hi, _⟩ := List.getElem?_eq_some_iff.mp hf
    omega
  · rw [take_snoc hf]
    exact kdJ_put e1 e2 e3 (off_take nd hf) h1 h2 (sub _ h3)
/-! features by names -/
def FtJ (K : PySem.W.Frag) (H : Hp) (D : Addr) (fs : List Ft) : Prop := ∃ ks, H D = some (.dK ks) ∧ ks.map (·.1) = fs.map (fun f => (Sum.inr f.n : Key)) ∧ ∀ k ∈ fs, ∃ a l, valV ks (.inr k.n) = some (.ref a) ∧ SqT K H a [.str k.n, .ref l, .bl k.t]
def FtD (K : PySem.W.Frag) (H : Hp) (D : Addr) (fs : List Ft) : Prop := ∃ ks, H D = some (.dK ks) ∧ ∀ k ∈ fs, ∃ a l, valV ks (.inr k.n) = some (.ref a) ∧ SqT K H a [.str k.n, .ref l, .bl k.t]
theorem FtJ.nil {K : PySem.W.Frag} {H : Hp} {D : Addr} (h : H D = some (.dK [])) : FtJ K H D [] := ⟨[], h, rfl, fun f hf => by cases hf⟩
theorem FtJ.d {K : PySem.W.Frag} {H : Hp} {D : Addr} {fs : List Ft} (h : FtJ K H D fs) : FtD K H D fs := let ⟨ks, e1, _, e3⟩ := h; ⟨ks, e1, e3⟩
theorem FtD.kp {K : PySem.W.Frag} {H H' : Hp} {D : Addr} {fs : List Ft} (h : FtD K H D fs) (hd : ∀ kvs, H D = some (.dK kvs) → H' D = some (.dK kvs)) (ht : ∀ a xs, SqT K H a xs → SqT K H' a xs) : FtD K H' D fs :=
  let ⟨ks, e1, e3⟩ := h; ⟨ks, hd _ e1, fun k hk => let ⟨a, l, x1, x2⟩ := e3 k hk; ⟨a, l, x1, ht _ _ x2⟩⟩
theorem FtD.sl {T : Tb} {K : PySem.W.Frag} {H H' : Hp} {D : Addr} {fs : List Ft} (h : FtD K H D fs) (s : SL T H H') : FtD K H' D fs := h.kp (fun _ e => s.k _ _ nt_dK e) (fun _ _ e => s.sqT e)
theorem FtD.updI {K : PySem.W.Frag} {H : Hp} {D p C dx : Addr} {fs : List (Str × V)} {o : HO} {ks : List Ft} (h : FtD K H D ks) (e : H p = some (.ins C dx fs)) : FtD K (upd H p o) D ks := h.kp (fun _ z => dK_updI z e) (fun _ _ z => sqT_updI z e)
theorem ftJ_put {K : PySem.W.Frag} {H : Hp} {D : Addr} {fs : List Ft} {f : Ft} {a l : Addr} {ks : List (Key × V)} (hD : H D = some (.dK ks)) (e1 : ks.map (·.1) = fs.map (fun f => (Sum.inr f.n : Key))) (e2 : ∀ k ∈ fs, ∃ a l, valV ks (.inr k.n) = some (.ref a) ∧ SqT K H a [.str k.n, .ref l, .bl k.t])
    (off : (Sum.inr f.n : Key) ∉ fs.map (fun f => (Sum.inr f.n : Key))) (ha : SqT K H a [.str f.n, .ref l, .bl f.t]) : FtJ K (upd H D (.dK (putK ks (.inr f.n) (.ref a)))) D (fs ++ [f]) := by
  refine ⟨_, upd_same, ?_, fun g hg => ?_⟩
  · rw [Bn.putK_new (by rw [e1]; exact off), List.map_append, List.map_append, e1]
    rfl
  · rw [valV_put]
    rcases List.mem_append.mp hg with h | h
    · obtain ⟨a2, l2, e3, e4⟩ := e2 g h
      have ne : ¬ (Sum.inr g.n : Key) = .inr f.n := fun z => off (z ▸ List.mem_map.mpr ⟨g, h, rfl⟩)
      rw [if_neg ne]
      exact ⟨a2, l2, e3, sqT_updD e4 hD⟩
    · rw [List.mem_singleton.mp h, if_pos rfl]
      exact ⟨a, l, rfl, sqT_updD ha hD⟩
theorem dcT_turn {T : Tb} {K : PySem.W.Frag} {N : Addr → Prop} {n : Nat} {D : Addr} {H0 HZ : Hp} {xf : List V} {fs : List Ft} {i : Nat} {x : V} (nd : (fs.map (·.n)).Nodup) (sZ : SL T H0 HZ) (nD : H0 D = none) (hI : FtJ K HZ D (fs.take i)) (hd : DqAll K H0 N n xf (fs.map ftD)) (few : fs.length ≤ 1000) (hx : xf[i]? = some x) :
    ∃ (a l : Addr) (f : Ft) (ks : List (Key × V)), x = .ref a ∧ SqT K HZ a [.str f.n, .ref l, .bl f.t] ∧ HZ D = some (.dK ks) ∧ ks.length < sizeLine ∧ SL T H0 (upd HZ D (.dK (putK ks (.inr f.n) (.ref a)))) ∧ FtJ K (upd HZ D (.dK (putK ks (.inr f.n) (.ref a)))) D (fs.take (i + 1)) := by
  obtain ⟨f, hf, hv⟩ := dq_at hd hx
  obtain ⟨a, l, rfl, h1, _, _⟩ := ft_inv (hv.sl sZ)
  obtain ⟨ks, e1, e2, e3⟩ := hI
  have hlen : ks.length = (fs.take i).length := by
    have := congrArg List.length e2
    rw [List.length_map, List.length_map] at this
    exact this
  refine ⟨a, l, f, ks, rfl, h1, e1, small_line ?_, sZ.ownD nD e1, ?_⟩
  · rw [hlen, List.length_take]
    obtain ⟨hi, _⟩ := List.getElem?_eq_some_iff.mp hf
    omega
  · rw [take_snoc hf]
    exact ftJ_put e1 e2 e3 (off_take nd hf) h1
/-- a Tongue's features by names -/
def TgF (C : Addr) (K : PySem.W.Frag) (H : Hp) (p c : Addr) (L : Lx) : Prop := ∃ (dx o fd kd pl : Addr), H p = some (.ins C dx (tgF (.ref o) (.ref fd) (.ref kd) (.ref pl) (.ref c))) ∧ FtD K H fd L.fs ∧ fd ≠ c
/-- a Tongue, all of whose lists and dicts that matter are among N -/
def TgS (C : Addr) (K : PySem.W.Frag) (N : Addr → Prop) (H : Hp) (p c : Addr) (L : Lx) (kvs : List (Key × V)) : Prop := ∃ (dx o fd kd pl : Addr), H p = some (.ins C dx (tgF (.ref o) (.ref fd) (.ref kd) (.ref pl) (.ref c))) ∧ Dq K H (fun b => N b ∧ b ≠ c) 4 (.ref o) (lxD L) ∧ KdsN K N H kd L.ks ∧ kd ≠ c ∧ H c = some (.dK kvs)
theorem TgS.b {C : Addr} {K : PySem.W.Frag} {N : Addr → Prop} {H : Hp} {p c : Addr} {L : Lx} {kvs : List (Key × V)} (h : TgS C K N H p c L kvs) : TgB C K N H p c L kvs := by
  obtain ⟨dx, o, fd, kd, pl, h1, h2, h3, h4, h5⟩ := h
  exact ⟨dx, o, fd, kd, pl, h1, h2, h3.kds, h4, h5⟩
section
variable {P : Program} {w : World} {K : PySem.W.Frag} {mg : Str → Option Value} {base : Heap}
abbrev NIn : List Str := ["self", "told", "why", "feature", "kind", "rule"]
def spInit (K : PySem.W.Frag) (T : Tb) (C : Addr) : Sp := fun vs H Q _ => ∃ (p dx : Addr) (v : V) (H0 : Hp) (L : Lx) (N : Addr → Prop), vs = [.ref p, v] ∧ H p = some (.ins C dx []) ∧ H0 p = none ∧ SL T H0 H ∧ Dq K H N 4 v (lxD L) ∧ L.Ok ∧ ∀ (c : Addr) (H' : Hp), SL T H0 H' → H0 c = none → TgS C K (fun b => H0 b = none) H' p c L [] → TgF C K H' p c L → Q .non H'
theorem ok_init {f fc ff C : Addr} {fd fdc fdf : FuncData} {T : Tb} (F : Fun K "__init__" "Tongue.__init__" s_init f fd) (TC : TgC K C)
    (kc : PySem.W.keepIn K (.ref fc) = true) (bc : Binds K fdc ["thing"] []) (gc : mg "copied" = some (.ref fc)) (Gc : FnOk P w K mg base CX0 30 fc fdc ["thing"] (spCopied K T 4))
    (kf : PySem.W.keepIn K (.ref ff) = true) (bf : Binds K fdf ["told"] []) (gf : mg "fault_in" = some (.ref ff)) (Gf : FnOk P w K mg base CX0 10 ff fdf ["told"] (spFault K T)) :
    FnOk P w K mg base CX0 31 f fd ["self", "told"] (spInit K T C) := by
  refine F.ok sc_init (fun vs H Q E h => ?_) (fun cdv A outer s H vs Q E hr h => ?_)
  · obtain ⟨p, dx, v, H0, L, N, rfl, _⟩ := h
    rfl
  · obtain ⟨p, dx, v, H0, L, N, rfl, hp, n0, s0, hD, hL, q⟩ := h
    have hu := hu_of hr
    refine ⟨_, pss_cons (ps_fld (pv 0) (pe_call Gc hr (by rfl) gc kc bc .nil pass0 (pa_cons (pv 1) pa_nil)) rfl)
      (pss_cons (ps_set (i := 2) sc_init.nd rfl (.inl rfl) (pe_call Gf (hr.mono (by decide)) (by rfl) gf kf bf .nil pass0 (pa_cons (pe_fld (pv 0) rfl) pa_nil)))
      (pss_cons (ps_if (pt_cmpR op_notN (pv 2) pe_non (nomark _)) pss_never pss_nil)
      (pss_cons (ps_fld (pv 0) (pe_dc (own := [("feature", 3)]) (g := gName 3) (tt := tYes) rfl sc_init.nd (pi_list (pe_dget hu (pe_fld (pv 0) rfl) pe_str (fun _ _ => rfl)))
          (blkOk_by (own := [("feature", 3)]) (N := NIn) (sc := defScope s_init) (by decide +kernel)) (fun _ _ _ _ _ => pg_name (i := 3) sc_init.nd rfl (.inl rfl)) (fun _ _ _ _ _ => pts_nil)
          (fun _ _ _ _ _ => pe_ix (ix_tupK (K := K) rfl) (pv 3) pe_int (fun _ _ => rfl)) (fun _ _ _ _ _ => pv 3)) rfl)
      (pss_cons (ps_fld (pv 0) (pe_dc (own := [("kind", 4)]) (g := gName 4) (tt := tYes) rfl sc_init.nd (pi_list (pe_dget hu (pe_fld (pv 0) rfl) pe_str (fun _ _ => rfl)))
          (blkOk_by (own := [("kind", 4)]) (N := NIn) (sc := defScope s_init) (by decide +kernel)) (fun _ _ _ _ _ => pg_name (i := 4) sc_init.nd rfl (.inl rfl)) (fun _ _ _ _ _ => pts_nil)
          (fun _ _ _ _ _ => pe_ix (ix_tupK (K := K) rfl) (pv 4) pe_int (fun _ _ => rfl)) (fun _ _ _ _ _ => pv 4)) rfl)
      (pss_cons (ps_fld (pv 0) (pe_lc (own := [("rule", 5)]) (g := gName 5) (tt := tYes) rfl sc_init.nd (pi_list (pe_dget hu (pe_fld (pv 0) rfl) pe_str (fun _ _ => rfl)))
          (blkOk_by (own := [("rule", 5)]) (N := NIn) (sc := defScope s_init) (by decide +kernel)) (fun _ _ _ _ _ => pg_name (i := 5) sc_init.nd rfl (.inl rfl)) (fun _ _ _ _ _ => pts_nil)
          (fun _ _ _ _ _ => pe_no)) rfl)
      (pss_one (ps_fld (pv 0) pe_dnewK rfl))))))), ?_⟩
    refine ⟨_, rfl, v, lxD L, N, rfl, hD, s0.t, fun v1 H1 s1 hv1 => ?_⟩
    have hp1 := s1.k _ _ nt_ins hp
    refine ⟨_, rfl, p, C, dx, _, rfl, hp1, TC.cl, TC.nO, (show 0 < 1000 by decide), ?_⟩
    have sA : SL T H0 (upd H1 p (.ins C dx (putF "own" v1 []))) := (s0.trans s1).ownI n0 hp1
    have hA : Dq K (upd H1 p (.ins C dx (putF "own" v1 []))) (fun b => H0 b = none) 4 v1 (lxD L) := (hv1.mono fun b nb => s0.free nb).updI hp1
    have pA : (upd H1 p (.ins C dx (putF "own" v1 []))) p = some (.ins C dx (putF "own" v1 [])) := upd_same
    generalize upd H1 p (.ins C dx (putF "own" v1 [])) = HA at sA hA pA ⊢
    refine ⟨_, rfl, p, C, dx, _, _, rfl, pA, TC.cl, TC.nO, own1 _, v1, L, _, 2, rfl, hA, hL, sA.t, fun H2 s2 => ?_⟩
    refine ⟨_, rfl, rfl, _, rfl, iteF ?_⟩
    have sB := sA.trans s2
    have hB := hA.sl s2
    have pB := s2.k _ _ nt_ins pA
    obtain ⟨a, xf, xk, xm, xs, xe, xr, vf, vk, vm, wS, ve, rfl, _, LA⟩ := lx_inv hB
    have e2 : L.ks.take vk.length = L.ks := by rw [LA.dk.len, List.length_map, List.take_length]
    have bf := hL.fl
    have bk := hL.kl
    have lf : vf.length ≤ 6 := by rw [LA.df.len, List.length_map]; exact bf
    -- feature_named
    refine ⟨_, rfl, p, C, dx, _, _, rfl, pB, TC.cl, TC.nO, own1 _, a, _, rfl, get_of LA.d lxK_features, xf, rfl, ⟨_, .inl (.inl LA.hf)⟩, fun D nD => ?_⟩
    refine dc_it (walk_list (K := K) (a := xf) (xs := vf)) (fun i HZ => SL T H2 HZ ∧ FtJ K HZ D (L.fs.take i)) ⟨SL.of s2.t (same_new nD), FtJ.nil upd_same⟩ (fun i HZ _ z => .inl (.inl (z.1.k _ _ nt_lst LA.hf))) (fun i x HZ HZ' hi hP' hY => ?_) (fun H3 hP' => ?_)
    · obtain ⟨rfl, hx⟩ := hY
      obtain ⟨a1, l1, f1, ks, rfl, h1, h2, h3, h4, h5⟩ := dcT_turn hL.fn hP'.1 nD hP'.2 LA.df (by omega) hx
      exact ⟨rfl, tYes_in ⟨_, rfl, a1, _, _, V.str f1.n, rfl, rfl, h1, rfl, _, rfl, ks, .inr f1.n, rfl, h2, h3, h4, h5⟩⟩
    obtain ⟨s3, hfd⟩ := hP'
    rw [show L.fs.take vf.length = L.fs by rw [LA.df.len, List.length_map, List.take_length]] at hfd
    have ft3 := hfd.d
    have pC := s3.k _ _ nt_ins pB
    refine ⟨_, rfl, p, C, dx, _, rfl, pC, TC.cl, TC.nF, (show 1 < 1000 by decide), ?_⟩
    have sC : SL T H0 (upd H3 p (.ins C dx (putF "feature_named" (.ref D) (putF "own" (.ref a) [])))) := (sB.trans s3).ownI n0 pC
    have hC : Dq K (upd H3 p (.ins C dx (putF "feature_named" (.ref D) (putF "own" (.ref a) [])))) (fun b => H0 b = none) 4 (.ref a) (lxD L) := (hB.sl s3).updI pC
    have qC : (upd H3 p (.ins C dx (putF "feature_named" (.ref D) (putF "own" (.ref a) [])))) p = some (.ins C dx (putF "feature_named" (.ref D) (putF "own" (.ref a) []))) := upd_same
    have ftC := ft3.updI (o := .ins C dx (putF "feature_named" (.ref D) (putF "own" (.ref a) []))) pC
    generalize upd H3 p (.ins C dx (putF "feature_named" (.ref D) (putF "own" (.ref a) []))) = H4 at sC hC qC ftC ⊢
    -- kind_named
    obtain ⟨a', xf, xk, xm, xs, xe, xr, vf', vk', vm, wS, ve, ea, _, LA4⟩ := lx_inv hC
    cases ea
    have e2' : L.ks.take vk'.length = L.ks := by rw [LA4.dk.len, List.length_map, List.take_length]
    refine ⟨_, rfl, p, C, dx, _, _, rfl, qC, TC.cl, TC.nO, own2 _ _, a, _, rfl, get_of LA4.d lxK_kinds, xk, rfl, ⟨_, .inl (.inl LA4.hk)⟩, fun D2 nD2 => ?_⟩
    refine dc_it (walk_list (K := K) (a := xk) (xs := vk')) (fun i HZ => SL T H4 HZ ∧ KdJ K (fun b => H0 b = none) HZ D2 (L.ks.take i)) ⟨SL.of sC.t (same_new nD2), KdJ.nil upd_same⟩ (fun i HZ _ z => .inl (.inl (z.1.k _ _ nt_lst LA4.hk))) (fun i x HZ HZ' hi hP' hY => ?_) (fun H5 hP' => ?_)
    · obtain ⟨rfl, hx⟩ := hY
      obtain ⟨a1, l1, f1, ks, rfl, h1, h2, h3, h4, h5⟩ := dcJ_turn (M := fun b => H0 b = none) (fun _ z => z.1) hL.kn hP'.1 nD2 hP'.2 LA4.dk (by omega) hx
      exact ⟨rfl, tYes_in ⟨_, rfl, a1, _, _, V.str f1.n, rfl, rfl, h1, rfl, _, rfl, ks, .inr f1.n, rfl, h2, h3, h4, h5⟩⟩
    obtain ⟨s5, hkd⟩ := hP'
    rw [e2'] at hkd
    have pD := s5.k _ _ nt_ins qC
    refine ⟨_, rfl, p, C, dx, _, rfl, pD, TC.cl, TC.nK, (show 2 < 1000 by decide), ?_⟩
    have sE : SL T H0 (upd H5 p (.ins C dx (putF "kind_named" (.ref D2) (putF "feature_named" (.ref D) (putF "own" (.ref a) []))))) := (sC.trans s5).ownI n0 pD
    have hE : Dq K (upd H5 p (.ins C dx (putF "kind_named" (.ref D2) (putF "feature_named" (.ref D) (putF "own" (.ref a) []))))) (fun b => H0 b = none) 4 (.ref a) (lxD L) := (hC.sl s5).updI pD
    have kE : KdsN K (fun b => H0 b = none) (upd H5 p (.ins C dx (putF "kind_named" (.ref D2) (putF "feature_named" (.ref D) (putF "own" (.ref a) []))))) D2 L.ks := (hkd.kds (sC.free nD2)).updI pD
    have qE : (upd H5 p (.ins C dx (putF "kind_named" (.ref D2) (putF "feature_named" (.ref D) (putF "own" (.ref a) []))))) p = some (.ins C dx (putF "kind_named" (.ref D2) (putF "feature_named" (.ref D) (putF "own" (.ref a) [])))) := upd_same
    have ftE := (ftC.sl s5).updI (o := .ins C dx (putF "kind_named" (.ref D2) (putF "feature_named" (.ref D) (putF "own" (.ref a) [])))) pD
    generalize upd H5 p (.ins C dx (putF "kind_named" (.ref D2) (putF "feature_named" (.ref D) (putF "own" (.ref a) [])))) = H6 at sE hE kE qE ftE ⊢
    -- placings
    obtain ⟨a', xf, xk, xm, xs, xe, xr, vf', vk', vm, wS, ve, ea, _, LA6⟩ := lx_inv hE
    cases ea
    refine ⟨_, rfl, p, C, dx, _, _, rfl, qE, TC.cl, TC.nO, own3 _ _ _, a, _, rfl, get_of LA6.d lxK_rules, xr, rfl, ⟨_, .inl (.inl LA6.hr)⟩, fun D3 nD3 => ?_⟩
    refine lc_it (walk_list (K := K) (a := xr) (xs := [])) (fun i HZ => SL T H6 HZ) (SL.of sE.t (same_new nD3)) (fun i HZ _ z => .inl (.inl (z.k _ _ nt_lst LA6.hr))) (fun i x HZ HZ' hi _ _ => absurd hi (Nat.not_lt_zero _)) (fun H7 s7 => ?_)
    have pF := s7.k _ _ nt_ins qE
    refine ⟨_, rfl, p, C, dx, _, rfl, pF, TC.cl, TC.nP, (show 3 < 1000 by decide), ?_⟩
    have sG : SL T H0 (upd H7 p (.ins C dx (putF "placings" (.ref D3) (putF "kind_named" (.ref D2) (putF "feature_named" (.ref D) (putF "own" (.ref a) [])))))) := (sE.trans s7).ownI n0 pF
    have hG : Dq K (upd H7 p (.ins C dx (putF "placings" (.ref D3) (putF "kind_named" (.ref D2) (putF "feature_named" (.ref D) (putF "own" (.ref a) [])))))) (fun b => H0 b = none) 4 (.ref a) (lxD L) := (hE.sl s7).updI pF
    have kG : KdsN K (fun b => H0 b = none) (upd H7 p (.ins C dx (putF "placings" (.ref D3) (putF "kind_named" (.ref D2) (putF "feature_named" (.ref D) (putF "own" (.ref a) [])))))) D2 L.ks := (kE.sl s7).updI pF
    have qG : (upd H7 p (.ins C dx (putF "placings" (.ref D3) (putF "kind_named" (.ref D2) (putF "feature_named" (.ref D) (putF "own" (.ref a) [])))))) p = some (.ins C dx (putF "placings" (.ref D3) (putF "kind_named" (.ref D2) (putF "feature_named" (.ref D) (putF "own" (.ref a) []))))) := upd_same
    have ftG := (ftE.sl s7).updI (o := .ins C dx (putF "placings" (.ref D3) (putF "kind_named" (.ref D2) (putF "feature_named" (.ref D) (putF "own" (.ref a) []))))) pF
    generalize upd H7 p (.ins C dx (putF "placings" (.ref D3) (putF "kind_named" (.ref D2) (putF "feature_named" (.ref D) (putF "own" (.ref a) []))))) = H8 at sG hG kG qG ftG ⊢
    -- kept
    intro d nd
    have hO8 := hG.off nd
    have nkd : D2 ≠ d := by
      obtain ⟨_, kv2, e1, _⟩ := kG
      exact ne_of_none e1 nd
    have zd : H0 d = none := sG.free nd
    have pH : (upd H8 d (.dK [])) p = _ := same_new nd _ _ qG
    have s8 := SL.of sG.t (same_new (o := .dK []) nd)
    have hd8 : (upd H8 d (.dK [])) d = some (.dK []) := upd_same
    generalize upd H8 d (.dK []) = H9 at pH s8 hd8 ⊢
    refine ⟨_, rfl, p, C, dx, _, rfl, pH, TC.cl, TC.nC, (show 4 < 1000 by decide), ?_⟩
    have nfd : D ≠ d := by
      obtain ⟨kv2, e1, _⟩ := ftG
      exact ne_of_none e1 nd
    refine q d _ ((sG.trans s8).ownI n0 pH) zd ⟨dx, a, D, D2, D3, ?_, (hO8.sl s8).updI pH, (kG.sl s8).updI pH, nkd, dK_updI hd8 pH⟩ ⟨dx, a, D, D2, D3, ?_, (ftG.sl s8).updI pH, nfd⟩
    · rw [tgF_eq]
      exact upd_same
    · rw [tgF_eq]
      exact upd_same
end
end Bn

namespace Bn
open PySem PySem.Spec PyProof.Rows L2 BR GX RM GY
/-! ### lists without doubles -/
theorem nodup_le {α : Type} [DecidableEq α] : ∀ {l1 l2 : List α}, l1.Nodup → (∀ x ∈ l1, x ∈ l2) → l1.length ≤ l2.length
  | [], _, _, _ => Nat.zero_le _
  | x :: r, l2, nd, h => by
    rw [List.nodup_cons] at nd
    have hx := h x (List.mem_cons_self ..)
    have e := List.length_erase_of_mem hx
    have p := List.length_pos_of_mem hx
    have := nodup_le (l2 := l2.erase x) nd.2 fun y hy => (List.mem_erase_of_ne fun z => nd.1 (by rw [← z]; exact hy)).mpr (h y (List.mem_cons_of_mem _ hy))
    rw [List.length_cons]
    omega
theorem nodup_sub {α : Type} [DecidableEq α] {l1 l2 : List α} (nd : l1.Nodup) (h : ∀ x ∈ l1, x ∈ l2) (le : l2.length ≤ l1.length) : ∀ x ∈ l2, x ∈ l1 := fun x hx => by
  by_cases c : x ∈ l1
  · exact c
  · have := nodup_le (l1 := x :: l1) (l2 := l2) (List.nodup_cons.mpr ⟨c, nd⟩) fun y hy => (List.mem_cons.mp hy).elim (fun e => e ▸ hx) (h y)
    rw [List.length_cons] at this
    omega
/-! ### marks -/
def getM (ms : SS) (x : Str) : Option Str := (ms.find? fun p => decide (p.1 = x)).map (·.2)
theorem getM_val (ms : SS) (x : Str) : valV (kvM ms) (.inr x) = (getM ms x).map V.str := by
  unfold getM
  induction ms with
  | nil => rfl
  | cons p r ih =>
    rw [List.find?_cons]
    show valV ((Sum.inr p.1, V.str p.2) :: kvM r) (.inr x) = _
    by_cases h : p.1 = x
    · rw [valV_pos (by rw [h]), decide_eq_true h]
      rfl
    · rw [valV_neg (fun z => h (Sum.inr.inj z)), decide_eq_false h]
      exact ih
theorem getM_mem {ms : SS} {x : Str} : getM ms x ≠ none ↔ x ∈ ms.map (·.1) := by
  unfold getM
  rw [Ne, Option.map_eq_none_iff, List.find?_eq_none]
  constructor
  · intro h
    by_cases c : x ∈ ms.map (·.1)
    · exact c
    · exact absurd (fun p hp z => c (List.mem_map.mpr ⟨p, hp, of_decide_eq_true z⟩)) h
  · intro h z
    obtain ⟨p, hp, e⟩ := List.mem_map.mp h
    exact z p hp (decide_eq_true e)
theorem getM_none {ms : SS} {x : Str} : getM ms x = none ↔ x ∉ ms.map (·.1) := by
  rw [← getM_mem]
  simp
theorem getM_of {ms : SS} (nd : (ms.map (·.1)).Nodup) {p : Str × Str} (hp : p ∈ ms) : getM ms p.1 = some p.2 := by
  have h := kvM_val nd hp
  rw [getM_val] at h
  obtain ⟨y, h1, h2⟩ := Option.map_eq_some_iff.mp h
  rw [h1, V.str.inj h2]
theorem getM_in {ms : SS} {x v : Str} (h : getM ms x = some v) : (x, v) ∈ ms := by
  unfold getM at h
  obtain ⟨p, hp, e⟩ := Option.map_eq_some_iff.mp h
  have h1 := List.mem_of_find?_eq_some hp
  have h2 := of_decide_eq_true (List.find?_some (p := fun p : Str × Str => decide (p.1 = x)) hp)
  rw [← h2, ← e]
  exact h1
/-! ### seams -/
def hitsM (st en : Str) (s : Sm) : Bool := Txt.endswith st s.l && Txt.startswith en s.r
def cutM (st en : Str) (s : Sm) : Str := cutS st none (some ((st.length : Int) - s.l.length)) ++ s.m ++ cutS en (some (s.r.length : Int)) none
def sewnM : List Sm → Str → Str → Str
  | [], st, en => st ++ en
  | s :: ss, st, en => if hitsM st en s = true then cutM st en s else sewnM ss st en
theorem sewnM_hit {s : Sm} {ss : List Sm} {st en : Str} (h : hitsM st en s = true) : sewnM (s :: ss) st en = cutM st en s := by
  show (if hitsM st en s = true then cutM st en s else sewnM ss st en) = _
  rw [if_pos h]
theorem sewnM_miss {s : Sm} {ss : List Sm} {st en : Str} (h : hitsM st en s = false) : sewnM (s :: ss) st en = sewnM ss st en := by
  show (if hitsM st en s = true then cutM st en s else sewnM ss st en) = _
  rw [if_neg (by rw [h]; decide)]
/-! ### a word's values -/
def namesM (L : Lx) (k : Str) : List Str := ((L.ks.find? fun q => decide (q.n = k)).map (·.fs)).getD []
theorem namesM_of {L : Lx} (nd : (L.ks.map (·.n)).Nodup) {k : Kd} (hk : k ∈ L.ks) : namesM L k.n = k.fs := by
  unfold namesM
  have : L.ks.find? (fun q => decide (q.n = k.n)) = some k := by
    generalize L.ks = ks at nd hk
    induction ks with
    | nil => cases hk
    | cons q r ih =>
      rw [List.map_cons, List.nodup_cons] at nd
      rw [List.find?_cons]
      rcases List.mem_cons.mp hk with e | h
      · rw [e, decide_eq_true rfl]
      · have ne : ¬ q.n = k.n := fun z => nd.1 (z ▸ List.mem_map.mpr ⟨k, h, rfl⟩)
        rw [decide_eq_false ne]
        exact ih nd.2 h
  rw [this]
  rfl
structure Good (L : Lx) (s : Sd) (e : En) : Prop where
  ln : s.l = e.l
  tx : sewnM L.ms s.x e.x ≠ ""
  sub : ∀ p ∈ e.ms, p.1 ∈ namesM L s.k
  has : ∀ x ∈ namesM L s.k, getM s.ms x ≠ none ∨ getM e.ms x ≠ none
  one : ∀ x ∈ namesM L s.k, ∀ a b, getM s.ms x = some a → getM e.ms x = some b → a = b
def pickM (s : Sd) (e : En) (x : Str) : Str := ((getM e.ms x).or (getM s.ms x)).getD ""
open Classical in
noncomputable def valsM (L : Lx) (s : Sd) (e : En) : Option (List Str) := if Good L s e then some ((namesM L s.k).map (pickM s e)) else none
theorem valsM_good {L : Lx} {s : Sd} {e : En} (h : Good L s e) : valsM L s e = some ((namesM L s.k).map (pickM s e)) := if_pos h
theorem valsM_bad {L : Lx} {s : Sd} {e : En} (h : ¬ Good L s e) : valsM L s e = none := if_neg h
/-! {**a, **b} of marks -/
def bothM (a b : SS) : List (Key × V) := mergeK (mergeK [] (kvM a)) (kvM b)
theorem merge_val : ∀ (b : SS) (kvs : List (Key × V)) (x : Str), (b.map (·.1)).Nodup → valV (mergeK kvs (kvM b)) (.inr x) = ((getM b x).map V.str).or (valV kvs (.inr x))
  | [], kvs, x, _ => by
    show valV kvs _ = _
    rfl
  | p :: r, kvs, x, nd => by
    rw [List.map_cons, List.nodup_cons] at nd
    show valV (mergeK (putK kvs (.inr p.1) (.str p.2)) (kvM r)) (.inr x) = _
    rw [merge_val r _ x nd.2, valV_put]
    unfold getM
    rw [List.find?_cons]
    by_cases h : p.1 = x
    · have hx : getM r x = none := getM_none.mpr (h ▸ nd.1)
      unfold getM at hx
      rw [hx, decide_eq_true h, if_pos (by rw [h])]
      rfl
    · rw [decide_eq_false h, if_neg (fun z => h (Sum.inr.inj z).symm)]
theorem merge_nd : ∀ (b : SS) (kvs : List (Key × V)), (kvs.map (·.1)).Nodup → ((mergeK kvs (kvM b)).map (·.1)).Nodup
  | [], kvs, nd => nd
  | p :: r, kvs, nd => by
    show ((mergeK (putK kvs (.inr p.1) (.str p.2)) (kvM r)).map (·.1)).Nodup
    refine merge_nd r _ ?_
    cases h : valV kvs (Sum.inr p.1 : Key) with
    | none => exact L2.nd_putK _ nd h
    | some v =>
      unfold putK
      rw [if_pos (by rw [valV_any, h]; rfl)]
      have : (kvs.map fun kv => if kv.1 = (Sum.inr p.1 : Key) then (kv.1, V.str p.2) else kv).map (·.1) = kvs.map (·.1) := by
        rw [List.map_map]
        refine List.map_congr_left fun kv _ => ?_
        show (if kv.1 = (Sum.inr p.1 : Key) then (kv.1, V.str p.2) else kv).1 = kv.1
        split <;> rfl
      rw [this]
      exact nd
theorem merge_keys : ∀ (b : SS) (kvs : List (Key × V)), (∀ p ∈ kvs, ∃ x, p.1 = .inr x) → ∀ p ∈ mergeK kvs (kvM b), ∃ x : Str, p.1 = .inr x
  | [], kvs, h => h
  | q :: r, kvs, h => by
    show ∀ p ∈ mergeK (putK kvs (.inr q.1) (.str q.2)) (kvM r), _
    refine merge_keys r _ fun p hp => ?_
    unfold putK at hp
    split at hp
    · obtain ⟨kv, hkv, rfl⟩ := List.mem_map.mp hp
      obtain ⟨x, hx⟩ := h kv hkv
      refine ⟨x, ?_⟩
      split <;> exact hx
    · rcases List.mem_append.mp hp with h1 | h1
      · exact h p h1
      · rw [List.mem_singleton.mp h1]
        exact ⟨_, rfl⟩
theorem both_val (a b : SS) (na : (a.map (·.1)).Nodup) (nb : (b.map (·.1)).Nodup) (x : Str) : valV (bothM a b) (.inr x) = ((getM b x).or (getM a x)).map V.str := by
  unfold bothM
  rw [merge_val b _ x nb, merge_val a _ x na]
  cases getM b x with
  | some v => rfl
  | none =>
    cases getM a x with
    | some v => rfl
    | none => rfl
/-- the keys of both, as texts -/
def bothK (a b : SS) : List Str := (bothM a b).filterMap fun p => match p.1 with | .inr x => some x | .inl _ => none
theorem keys_inr : ∀ {kvs : List (Key × V)}, (∀ p ∈ kvs, ∃ x : Str, p.1 = .inr x) → kvs.map (·.1) = (kvs.filterMap fun p => match p.1 with | .inr x => some x | .inl _ => none).map (fun x : Str => (Sum.inr x : Key))
  | [], _ => rfl
  | p :: r, h => by
    obtain ⟨x, hx⟩ := h p (List.mem_cons_self ..)
    rw [List.map_cons, List.filterMap_cons, keys_inr fun q hq => h q (List.mem_cons_of_mem _ hq), hx]
    rfl
theorem bothK_eq (a b : SS) : (bothM a b).map (·.1) = (bothK a b).map (fun x : Str => (Sum.inr x : Key)) := keys_inr (merge_keys b _ (merge_keys a [] fun p hp => by cases hp))
theorem bothK_len (a b : SS) : (bothK a b).length = (bothM a b).length := by
  have := congrArg List.length (bothK_eq a b)
  rw [List.length_map, List.length_map] at this
  exact this.symm
theorem bothK_nd (a b : SS) : (bothK a b).Nodup := by
  have h : ((bothM a b).map (·.1)).Nodup := merge_nd b _ (merge_nd a [] List.nodup_nil)
  rw [bothK_eq] at h
  exact (List.pairwise_map.mp h).imp fun h z => h (by rw [z])
theorem bothK_mem (a b : SS) (na : (a.map (·.1)).Nodup) (nb : (b.map (·.1)).Nodup) (x : Str) : x ∈ bothK a b ↔ (getM a x ≠ none ∨ getM b x ≠ none) := by
  have e : x ∈ bothK a b ↔ (Sum.inr x : Key) ∈ (bothM a b).map (·.1) := by
    rw [bothK_eq]
    exact ⟨fun h => List.mem_map.mpr ⟨x, h, rfl⟩, fun h => by
      obtain ⟨y, hy, z⟩ := List.mem_map.mp h
      rw [← Sum.inr.inj z]
      exact hy⟩
  have e2 : (Sum.inr x : Key) ∈ (bothM a b).map (·.1) ↔ valV (bothM a b) (.inr x) ≠ none := by
    constructor
    · intro h z
      exact valV_not z h
    · intro h
      cases hv : valV (bothM a b) (Sum.inr x : Key) with
      | none => exact absurd hv h
      | some v => exact L2.valV_in hv
  rw [e, e2, both_val a b na nb]
  cases getM a x <;> cases getM b x <;> simp
/-- what the program looks at -/
theorem good_of {L : Lx} {s : Sd} {e : En} (hs : ∀ p ∈ s.ms, p.1 ∈ namesM L s.k) (ns : (s.ms.map (·.1)).Nodup) (ne : (e.ms.map (·.1)).Nodup) (nn : (namesM L s.k).Nodup) (h1 : s.l = e.l) (h2 : sewnM L.ms s.x e.x ≠ "")
    (h3 : ∀ p ∈ e.ms, ∀ a, getM s.ms p.1 = some a → a = p.2) (h4 : (bothM s.ms e.ms).length = (namesM L s.k).length) (h5 : ∀ x ∈ namesM L s.k, valV (bothM s.ms e.ms) (.inr x) ≠ none) : Good L s e := by
  have h5' : ∀ x ∈ namesM L s.k, x ∈ bothK s.ms e.ms := fun x hx => by
    rw [bothK_mem _ _ ns ne]
    have := h5 x hx
    rw [both_val _ _ ns ne] at this
    cases ha : getM s.ms x <;> cases hb : getM e.ms x <;> simp_all
  have sub := nodup_sub nn h5' (by rw [bothK_len, h4]; exact Nat.le_refl _)
  refine ⟨h1, h2, fun p hp => sub p.1 ((bothK_mem _ _ ns ne _).mpr (.inr (getM_mem.mpr (List.mem_map.mpr ⟨p, hp, rfl⟩)))), fun x hx => (bothK_mem _ _ ns ne _).mp (h5' x hx), fun x hx a b ha hb => ?_⟩
  exact h3 (x, b) (getM_in hb) a ha
theorem of_good {L : Lx} {s : Sd} {e : En} (hs : ∀ p ∈ s.ms, p.1 ∈ namesM L s.k) (ns : (s.ms.map (·.1)).Nodup) (ne : (e.ms.map (·.1)).Nodup) (nn : (namesM L s.k).Nodup) (g : Good L s e) :
    (∀ p ∈ e.ms, ∀ a, getM s.ms p.1 = some a → a = p.2) ∧ (bothM s.ms e.ms).length = (namesM L s.k).length ∧ ∀ x ∈ namesM L s.k, valV (bothM s.ms e.ms) (.inr x) = some (.str (pickM s e x)) := by
  refine ⟨fun p hp a ha => g.one p.1 (g.sub p hp) a p.2 ha (getM_of ne hp), ?_, fun x hx => ?_⟩
  · rw [← bothK_len]
    refine Nat.le_antisymm (nodup_le (bothK_nd _ _) fun x hx => ?_) (nodup_le nn fun x hx => (bothK_mem _ _ ns ne _).mpr (g.has x hx))
    rcases (bothK_mem _ _ ns ne x).mp hx with h | h
    · obtain ⟨p, hp, e⟩ := List.mem_map.mp (getM_mem.mp h)
      exact e ▸ hs p hp
    · obtain ⟨p, hp, e⟩ := List.mem_map.mp (getM_mem.mp h)
      exact e ▸ g.sub p hp
  · rw [both_val _ _ ns ne]
    unfold pickM
    rcases g.has x hx with h | h <;> cases ha : getM s.ms x <;> cases hb : getM e.ms x <;> simp_all
end Bn

namespace Bn
open PySem PySem.Spec PyProof.Rows L2 BR GX RM GY
theorem drop_get {α : Type} {l : List α} {i : Nat} {x : α} (h : l[i]? = some x) : l.drop i = x :: l.drop (i + 1) := by
  obtain ⟨h1, e⟩ := List.getElem?_eq_some_iff.mp h
  rw [List.drop_eq_getElem_cons h1, e]
theorem len_app (x y : Str) : (x ++ y).length = x.length + y.length := by
  rw [TL.len_tl, TL.tl_append, List.length_append, ← TL.len_tl, ← TL.len_tl]
theorem hits_and {st en : Str} {s : Sm} {b c : Bool} (h1 : Txt.endswith st s.l = b) (h2 : Txt.startswith en s.r = c) : hitsM st en s = (b && c) := by
  unfold hitsM
  rw [h1, h2]
theorem hits_no {st en : Str} {s : Sm} (h1 : Txt.endswith st s.l = false) : hitsM st en s = false := by
  unfold hitsM
  rw [h1]
  rfl
theorem len_pos {x : Str} (h : x ≠ "") : 1 ≤ x.length := by
  rcases Nat.eq_zero_or_pos x.length with e | e
  · exfalso
    refine h (TL.ext_tl ?_)
    rw [TL.len_tl] at e
    rw [List.eq_nil_of_length_eq_zero e]
    rfl
  · exact e
section
variable {P : Program} {w : World} {K : PySem.W.Frag} {mg : Str → Option Value} {base : Heap}
def spSewn (K : PySem.W.Frag) : Sp := fun vs H Q _ => ∃ (a : Addr) (xs : List V) (ss : List Sm) (st en : Str) (N : Addr → Prop) (n : Nat), vs = [.ref a, .str st, .str en] ∧ H a = some (.lst xs) ∧ DqAll K H N n xs (ss.map smD) ∧ (∀ m ∈ ss, m.Ok) ∧ st.length ≤ 100 ∧ en.length ≤ 100 ∧ Q (.str (sewnM ss st en)) H
theorem ok_sewn {f : Addr} {fd : FuncData} {k : Nat} (F : Fun K "sewn" "sewn" s_sewn f fd) (ml : mg "len" = none) : FnOk P w K mg base CX0 (k + 1) f fd ["seams", "stem", "ending"] (spSewn K) := by
  refine F.ok sc_sewn (fun vs H Q E h => ?_) (fun cdv A outer s H vs Q E hr h => ?_)
  · obtain ⟨a, xs, ss, st, en, N, n, rfl, _⟩ := h
    rfl
  · obtain ⟨a, xs, ss, st, en, N, n, rfl, hS, hM, hO, hst, hen, q⟩ := h
    refine ⟨_, pss_cons (ps_for PassesOwn.never rfl (pi_list (pv 0)) (pg_tup rfl (pgs_cons (pg_name (i := 3) sc_sewn.nd rfl (.inl rfl)) (pgs_cons (pg_name (i := 4) sc_sewn.nd rfl (.inl rfl)) (pgs_cons (pg_name (i := 5) sc_sewn.nd rfl (.inl rfl)) pgs_nil))))
        (pss_one (ps_if (PW.pt (pw_and (pt_val (pe_m1 PySem.F.slot_str_endswith PySem.F.type_str_endswith mt_endswith (pv 1) (pv 3))) (pw_and1 (pt_val (pe_m1 PySem.F.slot_str_startswith PySem.F.type_str_startswith mt_startswith (pv 2) (pv 4))))))
          (pss_one (ps_ret (pe_op op_add_str (pe_op op_add_str (pe_slice sl_str (pv 1) po_none (po_some (pe_op op_sub (pe_callB call_len_str (by rfl) ml PySem.boot_len (pa_cons (pv 1) pa_nil)) (pe_callB call_len_str (by rfl) ml PySem.boot_len (pa_cons (pv 3) pa_nil))))) (pv 5))
            (pe_slice sl_str (pv 2) (po_some (pe_callB call_len_str (by rfl) ml PySem.boot_len (pa_cons (pv 4) pa_nil))) po_none))))
          pss_nil)))
      (pss_one (ps_ret (pe_op op_add_str (pv 1) (pv 2)))), ?_⟩
    have hS' : SqL K H a xs := .inl (.inl hS)
    refine ⟨.ref a, rfl, a, rfl, ⟨_, hS'⟩, for_list (K := K) (a := a) (xs := xs) (fun i σ H' => H' = H ∧ ∃ y3 y4 y5, σ = [some (.ref a), some (.str st), some (.str en), y3, y4, y5] ∧ sewnM ss st en = sewnM (ss.drop i) st en) ⟨rfl, none, none, none, rfl, rfl⟩ (fun i σ H' _ h => by rw [h.1]; exact hS') (fun i x σ H' hx hP => ?_) (fun σ H' hP => ?_)⟩
    · obtain ⟨rfl, y3, y4, y5, rfl, es⟩ := hP
      obtain ⟨s0, hs, hv⟩ := dq_at hM hx
      have hO0 := hO s0 (List.mem_of_getElem? hs)
      obtain ⟨p, rfl, hp⟩ := sm_inv hv
      rw [drop_get hs] at es
      have b4 := hO0.m.len
      have b3 := hO0.r.len
      have b2 := hO0.l.len
      refine ⟨p, _, rfl, hp, rfl, _, _, rfl, _, _, rfl, _, _, rfl, rfl, ?_⟩
      refine ⟨_, rfl, ⟨_, rfl⟩, _, rfl, st, s0.l, rfl, rfl, _, rfl, ?_⟩
      cases e1 : Txt.endswith st s0.l with
      | false =>
        refine iteF (iteF ⟨rfl, _, _, _, rfl, ?_⟩)
        rw [es, sewnM_miss (hits_no e1)]
      | true =>
        refine iteT ⟨_, rfl, ⟨_, rfl⟩, _, rfl, en, s0.r, rfl, rfl, _, rfl, ?_⟩
        cases e2 : Txt.startswith en s0.r with
        | false =>
          refine iteF ⟨rfl, _, _, _, rfl, ?_⟩
          rw [es, sewnM_miss (hits_and e1 e2)]
        | true =>
          have eq : sewnM ss st en = cutM st en s0 := by
            rw [es, sewnM_hit (hits_and e1 e2)]
          rw [eq] at q
          have c1 := cutS_length st none (some ((st.length : Int) - s0.l.length))
          have c2 := cutS_length en (some (s0.r.length : Int)) none
          refine iteT ⟨_, rfl, _, rfl, st, rfl, line1000 (by omega), _, rfl, s0.l, rfl, line1000 (by omega), _, _, rfl, rfl, _, rfl, st, rfl, line1000 (by omega), _, rfl, _, s0.m, rfl, rfl, line1000 (by omega), _, rfl, _, rfl, s0.r, rfl, line1000 (by omega), _, rfl, en, rfl, line1000 (by omega), _, _, rfl, rfl, ?_, q⟩
          rw [len_app]
          exact line1000 (by omega)
    · obtain ⟨rfl, y3, y4, y5, rfl, es⟩ := hP
      rw [hM.len, List.length_map, List.drop_length] at es
      refine ⟨_, rfl, _, rfl, st, en, rfl, rfl, line1000 (by omega), ?_⟩
      rw [es] at q
      exact q
/-! ### text_of -/
def spText (K : PySem.W.Frag) (C : Addr) : Sp := fun vs H Q _ => ∃ (p : Addr) (i j : Nat) (L : Lx) (N : Addr → Prop) (s : Sd) (e : En), vs = [.ref p, .int (i : Nat), .int (j : Nat)] ∧ TgAt C K N H p L ∧ L.Ok ∧ L.ss[i]? = some s ∧ L.es[j]? = some e ∧ Q (.str (sewnM L.ms s.x e.x)) H
theorem ix_row {α : Type} {H : Hp} {N : Addr → Prop} {n : Nat} {f : α → PyData} {xs : List V} {l : List α} {i : Nat} {x : α} (h : DqAll K H N n xs (l.map f)) (hi : l[i]? = some x) : ∃ v, xs[i]? = some v ∧ Dq K H N n v (f x) := by
  have hl := h.len
  rw [List.length_map] at hl
  obtain ⟨hlt, e⟩ := List.getElem?_eq_some_iff.mp hi
  have hx : xs[i]? = some (xs[i]'(by omega)) := List.getElem?_eq_getElem _
  obtain ⟨y, hy, hv⟩ := dq_at h hx
  rw [hi] at hy
  cases hy
  exact ⟨_, hx, hv⟩
theorem ok_text {f fS C : Addr} {fd fdS : FuncData} (F : Fun K "text_of" "text_of" s_text_of f fd) (TC : TgC K C)
    (kS : PySem.W.keepIn K (.ref fS) = true) (bS : Binds K fdS ["seams", "stem", "ending"] []) (gS : mg "sewn" = some (.ref fS)) (GS : FnOk P w K mg base CX0 1 fS fdS ["seams", "stem", "ending"] (spSewn K)) :
    FnOk P w K mg base CX0 2 f fd ["tongue", "stem", "ending"] (spText K C) := by
  refine F.ok sc_text_of (fun vs H Q E h => ?_) (fun cdv A outer s H vs Q E hr h => ?_)
  · obtain ⟨p, i, j, L, N, s, e, rfl, _⟩ := h
    rfl
  · obtain ⟨p, i, j, L, N, s, e, rfl, ⟨c, kv0, dx, o, fe, kd, pl, h1, h2, h3, _, h4⟩, hL, hi, hj, q⟩ := h
    have hu := hu_of hr
    refine ⟨_, pss_one (ps_ret (pe_call GS hr (by rfl) gS kS bS .nil pass0 (pa_cons (pe_dget hu (pe_fld (pv 0) rfl) pe_str (fun _ _ => rfl)) (pa_cons (pe_ix ix_tup (pe_ix ix_list (pe_dget hu (pe_fld (pv 0) rfl) pe_str (fun _ _ => rfl)) (pv 1) (fun _ _ => rfl)) pe_int (fun _ _ => rfl))
      (pa_cons (pe_ix ix_tup (pe_ix ix_list (pe_dget hu (pe_fld (pv 0) rfl) pe_str (fun _ _ => rfl)) (pv 2) (fun _ _ => rfl)) pe_int (fun _ _ => rfl)) pa_nil))))), ?_⟩
    obtain ⟨a, xf, xk, xm, xs, xe, xr, vf, vk, vm, wS, ve, ea, _, LA⟩ := lx_inv h2
    cases ea
    obtain ⟨v1, hv1, hd1⟩ := ix_row LA.ds hi
    obtain ⟨v2, hv2, hd2⟩ := ix_row LA.de hj
    obtain ⟨a1, m1, rfl, ht1, _⟩ := sd_inv hd1
    obtain ⟨a2, m2, rfl, ht2, _⟩ := en_inv hd2
    refine ⟨_, rfl, p, C, dx, _, _, rfl, h1, TC.cl, TC.nO, tgF_own _ _ _ _ _, o, _, rfl, get_of LA.d lxK_seams, ?_⟩
    refine ⟨_, rfl, p, C, dx, _, _, rfl, h1, TC.cl, TC.nO, tgF_own _ _ _ _ _, o, _, rfl, get_of LA.d lxK_stems, _, rfl, xs, _, _, .ref a1, rfl, rfl, .inl (.inl LA.hs), atI_nat hv1, a1, _, _, V.str s.x, rfl, rfl, ht1, rfl, ?_⟩
    refine ⟨_, rfl, p, C, dx, _, _, rfl, h1, TC.cl, TC.nO, tgF_own _ _ _ _ _, o, _, rfl, get_of LA.d lxK_endings, _, rfl, xe, _, _, .ref a2, rfl, rfl, .inl (.inl LA.he), atI_nat hv2, a2, _, _, V.str e.x, rfl, rfl, ht2, rfl, ?_⟩
    have b1 := (hL.s s (List.mem_of_getElem? hi)).x.tx.len
    have b2 := (hL.e e (List.mem_of_getElem? hj)).x.len
    exact ⟨xm, vm, L.ms, s.x, e.x, _, _, rfl, LA.hm, LA.dm, hL.m, by omega, by omega, q⟩
end
end Bn

namespace Bn
open PySem PySem.Spec PyProof.Rows L2 BR GX RM GY
/-- what is told of a word: None, or the tuple of its values -/
def IsR (K : PySem.W.Frag) (H : Hp) (v : V) : Option (List Str) → Prop
  | none => v = .non
  | some vs => ∃ p, v = .ref p ∧ SqT K H p (vs.map V.str)
section
variable {P : Program} {w : World} {K : PySem.W.Frag} {mg : Str → Option Value} {base : Heap}
/-! ### values_of -/
abbrev NVo : List Str := ["tongue", "stem", "ending", "stems", "endings", "kind", "line", "marks", "more", "both", "names", "name"]
def spVals (K : PySem.W.Frag) (T : Tb) (C : Addr) : Sp := fun vs H Q _ => ∃ (p : Addr) (i j : Nat) (L : Lx) (N : Addr → Prop) (s : Sd) (e : En), vs = [.ref p, .int (i : Nat), .int (j : Nat)] ∧ TgAt C K N H p L ∧ L.Ok ∧ L.ss[i]? = some s ∧ L.es[j]? = some e ∧ TbOk T H ∧ ∀ (v : V) (H' : Hp), SL T H H' → IsR K H' v (valsM L s e) → Q v H'
theorem vals_fin {T : Tb} {L : Lx} {s : Sd} {e : En} {H H' : Hp} {Q : VK} (q : ∀ (v : V) (H' : Hp), SL T H H' → IsR K H' v (valsM L s e) → Q v H') (S : SL T H H') (b : ¬ Good L s e) : Q .non H' := q _ _ S (by rw [valsM_bad b]; rfl)
theorem kvM_len (ms : SS) : (kvM ms).length = ms.length := List.length_map ..
theorem ok_vals {f c0 pV fT C : Addr} {fd fdT : FuncData} {T : Tb} {k : Nat} (F : FunC K "values_of" "values_of" s_values_of f fd c0) (TB : GxR.TabB base mg c0 pV) (hP : pV ∈ T.ps) (hF : T.F ∉ T.ps) (TC : TgC K C) (ml : mg "len" = none) (ma : mg "any" = none) (mt : mg "tuple" = none)
    (kT : PySem.W.keepIn K (.ref fT) = true) (bT : Binds K fdT ["tongue", "stem", "ending"] []) (gT : mg "text_of" = some (.ref fT)) (GT : FnOk P w K mg base CX0 2 fT fdT ["tongue", "stem", "ending"] (spText K C)) :
    FnOk P w K mg base CX0 8 f fd ["tongue", "stem", "ending"] (spVals K T C) := by
  refine F.ok sc_values_of (fun vs H Q E h => ?_) (fun A outer s H vs Q E hr h => ?_)
  · obtain ⟨p, i, j, L, N, s, e, rfl, _⟩ := h
    rfl
  · obtain ⟨p, i, j, L, N, sd, en, rfl, hTg, hL, hi, hj, hT, q⟩ := h
    have hu0 := hu_of hr
    have hu : ∀ env : Env, (_ : Around).units + 1 < cLine := fun env => hu_of (room_gen (k := 4) hr env)
    have hu5 : ∀ env : Env, (_ : Around).units + 1 < cLine := fun env => hu_of (room_gen5 (k := 2) hr env)
    refine ⟨_, pss_cons (ps_par (i := 3) (j := 4) rfl sc_values_of.nd rfl rfl (by decide) rfl rfl (pa_cons (pe_dget hu0 (pe_fld (pv 0) rfl) pe_str (fun _ _ => rfl)) (pa_cons (pe_dget hu0 (pe_fld (pv 0) rfl) pe_str (fun _ _ => rfl)) pa_nil)) (by rfl))
      (pss_cons (ps_if (pt_not (PW.pt (pw_and (pt_chain op_le op_lt pe_int (pv 1) (pe_callB call_len_seq (by rfl) ml PySem.boot_len (pa_cons (pv 3) pa_nil))) (pw_and1 (pt_chain op_le op_lt pe_int (pv 2) (pe_callB call_len_seq (by rfl) ml PySem.boot_len (pa_cons (pv 4) pa_nil))))))) (pss_one (ps_ret pe_non)) pss_nil)
      (pss_cons (ps_asg (pe_tup (pa_cons (pe_ix ix_tup (pe_ix ix_list (pv 3) (pv 1) (fun _ _ => rfl)) pe_int (fun _ _ => rfl)) (pa_cons (pe_ix ix_tup (pe_ix ix_list (pv 3) (pv 1) (fun _ _ => rfl)) pe_int (fun _ _ => rfl)) (pa_cons (pe_ix ix_tup (pe_ix ix_list (pv 3) (pv 1) (fun _ _ => rfl)) pe_int (fun _ _ => rfl)) pa_nil))))
          (pg_tup rfl (pgs_cons (pg_name (i := 5) sc_values_of.nd rfl (.inl rfl)) (pgs_cons (pg_name (i := 6) sc_values_of.nd rfl (.inl rfl)) (pgs_cons (pg_name (i := 7) sc_values_of.nd rfl (.inr rfl)) pgs_nil)))))
      (pss_cons (ps_set (i := 8) sc_values_of.nd rfl (.inr rfl) (pe_ix ix_tup (pe_ix ix_list (pv 4) (pv 2) (fun _ _ => rfl)) pe_int (fun _ _ => rfl)))
      (pss_cons (ps_if (PW.pt (pw_or (pt_cmpR op_ne (pv 6) (pe_ix ix_tup (pe_ix ix_list (pv 4) (pv 2) (fun _ _ => rfl)) pe_int (fun _ _ => rfl)) (nomark _)) (pw_or1 (pt_cmpR op_eq (pe_call GT (hr.mono (by decide)) (by rfl) gT kT bT .nil pass0 (pa_cons (pv 0) (pa_cons (pv 1) (pa_cons (pv 2) pa_nil)))) pe_str (nomark _))))) (pss_one (ps_ret pe_non)) pss_nil)
      (pss_cons (ps_if (pt_val (pe_lock (pe_any (own := [("name", 11)]) (g := gName 11) (tt := tYes) hr (by rfl) ma TB rfl rfl sc_values_of.nd (pi_keys (pv 8))
          (blkOk_by (own := [("name", 11)]) (N := NVo) (sc := defScope s_values_of) (by decide +kernel)) rfl (by decide +kernel) rfl
          (fun _ _ _ _ _ _ => pg_name (i := 11) sc_values_of.nd rfl (Or.inl rfl)) (fun _ _ _ _ _ _ => pts_nil)
          (fun _ _ _ _ _ _ => pe_and (pe_cmp (pc_din (hu _) (pv 11) (pv 7))) (pe_one (pe_cmpR op_ne (pe_dget (hu _) (pv 7) (pv 11) (fun _ _ => rfl)) (pe_dget (hu _) (pv 8) (pv 11) (fun _ _ => rfl)) (nomark _))))))) (pss_one (ps_ret pe_non)) pss_nil)
      (pss_cons (ps_set (i := 9) sc_values_of.nd rfl (.inr rfl) (BX.pe_two (pv 7) (pv 8)))
      (pss_cons (ps_set (i := 10) sc_values_of.nd rfl (.inl rfl) (pe_ix ix_tup (pe_dget hu0 (pe_fld (pv 0) rfl) (pv 5) (fun _ _ => rfl)) pe_int (fun _ _ => rfl)))
      (pss_cons (ps_if (PW.pt (pw_or (pt_cmpR op_ne (pe_callB call_lenD (by rfl) ml PySem.boot_len (pa_cons (pv 9) pa_nil)) (pe_callB call_len_seq (by rfl) ml PySem.boot_len (pa_cons (pv 10) pa_nil)) (nomark _))
          (pw_or1 (pt_val (pe_any (own := [("name", 11)]) (g := gName 11) (tt := tYes) hr (by rfl) ma TB rfl rfl sc_values_of.nd (pi_list (pv 10))
          (blkOk_by (own := [("name", 11)]) (N := NVo) (sc := defScope s_values_of) (by decide +kernel)) rfl (by decide +kernel) rfl
          (fun _ _ _ _ _ _ => pg_name (i := 11) sc_values_of.nd rfl (Or.inl rfl)) (fun _ _ _ _ _ _ => pts_nil)
          (fun _ _ _ _ _ _ => pe_cmp (pc_dnotin (hu _) (pv 11) (pv 9)))))))) (pss_one (ps_ret pe_non)) pss_nil)
      (pss_one (ps_ret (pe_tupG (own := [("name", 11)]) (g := gName 11) (tt := tYes) (k := 2) hr (by rfl) mt TB rfl rfl sc_values_of.nd (pi_list (pv 10))
          (blkOk_by (own := [("name", 11)]) (N := NVo) (sc := defScope s_values_of) (by decide +kernel)) rfl (by decide +kernel) rfl
          (fun _ _ _ _ _ _ => pg_name (i := 11) sc_values_of.nd rfl (Or.inl rfl)) (fun _ _ _ _ _ _ => pts_nil)
          (fun _ _ _ _ _ _ => pe_dget (hu5 _) (pv 9) (pv 11) (fun _ _ => rfl))))))))))))), ?_⟩
    obtain ⟨c, kv0, dx, o, fe, kd, pl, h1, h2, h3, _, h4⟩ := id hTg
    obtain ⟨a, xf, xk, xm, xs, xe, xr, vf, vk, vm, wS, ve, ea, _, LA⟩ := lx_inv h2
    cases ea
    obtain ⟨v1, hv1, hd1⟩ := ix_row LA.ds hi
    obtain ⟨v2, hv2, hd2⟩ := ix_row LA.de hj
    obtain ⟨a1, m1, rfl, ht1, hm1, _, few1, nd1⟩ := sd_inv hd1
    obtain ⟨a2, m2, rfl, ht2, hm2, _, few2, nd2⟩ := en_inv hd2
    have hsd := hL.s sd (List.mem_of_getElem? hi)
    obtain ⟨kk, hkk, ek, _, hkm⟩ := hsd.k
    have hnm : namesM L sd.k = kk.fs := by rw [← ek]; exact namesM_of hL.kn hkk
    have hkn := (hL.k kk hkk).nd
    have hk4 := (hL.k kk hkk).hi
    obtain ⟨kvs, hkd1, hkd2⟩ := h3
    obtain ⟨ka, kl, hkv, hka, hkl⟩ := hkd2 kk hkk
    rw [ek] at hkv
    have li : i < wS.length := (List.getElem?_eq_some_iff.mp hv1).1
    have lj : j < ve.length := (List.getElem?_eq_some_iff.mp hv2).1
    refine ⟨_, rfl, p, C, dx, _, _, rfl, h1, TC.cl, TC.nO, tgF_own _ _ _ _ _, o, _, rfl, get_of LA.d lxK_stems, _, rfl, p, C, dx, _, _, rfl, h1, TC.cl, TC.nO, tgF_own _ _ _ _ _, o, _, rfl, get_of LA.d lxK_endings, _, _, rfl, ?_⟩
    refine ⟨_, rfl, _, _, rfl, rfl, _, rfl, ?_⟩
    rw [decide_eq_true (show (0 : Int) ≤ (i : Nat) by omega)]
    refine iteT ⟨_, rfl, xs, _, rfl, .inl (.inl (.inl LA.hs)), _, _, rfl, rfl, _, rfl, ?_⟩
    rw [decide_eq_true (show ((i : Nat) : Int) < (wS.length : Nat) by omega)]
    refine iteT ⟨_, rfl, _, _, rfl, rfl, _, rfl, ?_⟩
    rw [decide_eq_true (show (0 : Int) ≤ (j : Nat) by omega)]
    refine iteT ⟨_, rfl, xe, _, rfl, .inl (.inl (.inl LA.he)), _, _, rfl, rfl, _, rfl, ?_⟩
    rw [decide_eq_true (show ((j : Nat) : Int) < (ve.length : Nat) by omega)]
    refine iteF ?_
    have qs : SqL K H xs wS := .inl (.inl LA.hs)
    have qe : SqL K H xe ve := .inl (.inl LA.he)
    refine ⟨_, rfl, _, rfl, xs, _, _, .ref a1, rfl, rfl, qs, atI_nat hv1, a1, _, _, V.str sd.k, rfl, rfl, ht1, rfl, _, rfl, _, rfl, xs, _, _, .ref a1, rfl, rfl, qs, atI_nat hv1, a1, _, _, V.str sd.l, rfl, rfl, ht1, rfl, _, rfl, _, rfl, xs, _, _, .ref a1, rfl, rfl, qs, atI_nat hv1, a1, _, _, V.ref m1, rfl, rfl, ht1, rfl, (show 3 ≤ sizeLine by decide), fun u nu => ?_⟩
    have s1 := SL.of hT (same_new (o := .tup [.str sd.k, .str sd.l, .ref m1]) nu)
    have hu1 : (upd H u (.tup [.str sd.k, .str sd.l, .ref m1])) u = some (.tup [.str sd.k, .str sd.l, .ref m1]) := upd_same
    generalize upd H u (.tup [.str sd.k, .str sd.l, .ref m1]) = H1 at s1 hu1 ⊢
    refine ⟨u, _, rfl, .inl (.inl hu1), rfl, _, _, rfl, _, _, rfl, _, _, rfl, rfl, ?_⟩
    have LB := LA.sl s1
    have qe1 : SqL K H1 xe ve := .inl (.inl LB.he)
    refine ⟨_, rfl, _, rfl, xe, _, _, .ref a2, rfl, rfl, qe1, atI_nat hv2, a2, _, _, V.ref m2, rfl, rfl, s1.sqT ht2, rfl, ?_⟩
    refine ⟨_, rfl, _, rfl, _, rfl, xe, _, _, .ref a2, rfl, rfl, qe1, atI_nat hv2, a2, _, _, V.str en.l, rfl, rfl, s1.sqT ht2, rfl, rfl, _, rfl, ?_⟩
    by_cases hl : sd.l = en.l
    · rw [decide_eq_true (show V.str sd.l = V.str en.l by rw [hl])]
      refine iteF ⟨_, rfl, _, rfl, _, rfl, p, i, j, L, N, sd, en, rfl, hTg.sl s1, hL, hi, hj, rfl, _, rfl, ?_⟩
      by_cases hw : sewnM L.ms sd.x en.x = ""
      · rw [decide_eq_true (show V.str (sewnM L.ms sd.x en.x) = V.str "" by rw [hw])]
        exact iteT (vals_fin q s1 fun g => g.tx hw)
      · rw [decide_eq_false (show ¬ V.str (sewnM L.ms sd.x en.x) = V.str "" from fun z => hw (V.str.inj z))]
        refine iteF ?_
        have hm1' := s1.k _ _ nt_dK hm1
        have hm2' := s1.k _ _ nt_dK hm2
        refine ⟨m2, _, hm2', trivial, fun od => ⟨_, rfl, m2, od, rfl, .inl ⟨kvM en.ms, upd_same, (s1.t.lock hm2').g _ hP, fun H2 hTb => ?_⟩⟩⟩
        have hmL : (upd H1 m2 (.frz od (.dK (kvM en.ms)))) m2 = some (.frz od (.dK (kvM en.ms))) := upd_same
        have hrd : Rd (upd H1 m2 (.frz od (.dK (kvM en.ms)))) m1 (.dK (kvM sd.ms)) := rd_lock hm1' hm2'
        have s0 : SL T (upd H1 m2 (.frz od (.dK (kvM en.ms)))) H2 := SL.tab hF (s1.t.lock hm2') hP hTb
        have unl : ∀ {HX : Hp}, SL T (upd H1 m2 (.frz od (.dK (kvM en.ms)))) HX → SL T H1 (upd HX m2 (.dK (kvM en.ms))) := fun sX => SL.unlock hm2' sX
        generalize upd H1 m2 (.frz od (.dK (kvM en.ms))) = HL at hmL hrd s0 unl
        refine gx_it (walk_keys (d := m2) (o := od) (kvs := kvM en.ms)) (fun i _ HZ => SL T HL HZ ∧ ∀ p ∈ en.ms.take i, ∀ a, getM sd.ms p.1 = some a → a = p.2) ⟨s0, fun p hp => by cases hp⟩ (fun i _ HZ _ z => z.1.k _ _ nt_frz hmL) (fun i x _ HZ HZ' hi' hP' hY => ?_) (fun _ HZ hP' => ?_)
        · obtain ⟨rfl, kq, v0, hkv', rfl⟩ := hY
          have hval := valV_nd (kvM_nd nd2) hkv'
          obtain ⟨pr, hpr, epr⟩ := map_at hkv'
          cases epr
          obtain ⟨sZ, hno⟩ := hP'
          have hmem := List.mem_of_getElem? hpr
          have snoc : ∀ {P0 : Str × Str → Prop}, (∀ p ∈ en.ms.take i, P0 p) → P0 pr → ∀ p ∈ en.ms.take (i + 1), P0 p := fun {P0} h1 h2 p hp => by
            rw [take_snoc hpr] at hp
            rcases List.mem_append.mp hp with z | z
            · exact h1 p z
            · rw [List.mem_singleton.mp z]
              exact h2
          cases hg : getM sd.ms pr.1 with
          | none =>
            refine ⟨rfl, tYes_in ⟨_, rfl, _, rfl, m1, none, rfl, .inl ⟨kvM sd.ms, .inr pr.1, rd_sl hrd nt_dK sZ, rfl, by rw [getM_val, hg]; rfl⟩, false, rfl, iteF ⟨false, rfl, fun _ => ⟨sZ, snoc hno fun a ha => ?_⟩, fun z => by cases z⟩⟩⟩
            rw [hg] at ha
            cases ha
          | some a0 =>
            refine ⟨rfl, tYes_in ⟨_, rfl, _, rfl, m1, some (.str a0), rfl, .inl ⟨kvM sd.ms, .inr pr.1, rd_sl hrd nt_dK sZ, rfl, by rw [getM_val, hg]; rfl⟩, true, rfl, iteT ?_⟩⟩
            refine ⟨_, rfl, _, rfl, m1, .str a0, rfl, .inl ⟨kvM sd.ms, .inr pr.1, rd_sl hrd nt_dK sZ, rfl, by rw [getM_val, hg]; rfl⟩, _, rfl, _, rfl, m2, .str pr.2, rfl, .inl ⟨kvM en.ms, .inr pr.1, .inr ⟨od, sZ.k _ _ nt_frz hmL⟩, rfl, hval.symm⟩, rfl, _, rfl, fun e => ⟨sZ, snoc hno fun a ha => ?_⟩, fun e => ⟨sZ.k _ _ nt_frz hmL, true, rfl, iteT (vals_fin q (s1.trans (unl sZ)) fun g => ?_)⟩⟩
            · rw [hg] at ha
              cases ha
              by_cases c0 : a0 = pr.2
              · exact c0
              · rw [decide_eq_false (fun z => c0 (V.str.inj z))] at e
                cases e
            · have := (of_good (by rw [hnm]; exact hkm) nd1 nd2 (by rw [hnm]; exact hkn) g).1 pr hmem a0 hg
              rw [this, decide_eq_true rfl] at e
              cases e
        obtain ⟨sZ, hno'⟩ := hP'
        rw [kvM_len, List.take_length] at hno'
        refine ⟨sZ.k _ _ nt_frz hmL, false, rfl, iteF ?_⟩
        have s2 := s1.trans (unl sZ)
        generalize upd HZ m2 (.dK (kvM en.ms)) = H3 at s2 ⊢
        intro b nb
        have hm1b := s2.k _ _ nt_dK hm1
        have hm2b := s2.k _ _ nt_dK hm2
        have ne1 : m1 ≠ b := ne_of_none hm1b nb
        have ne2 : m2 ≠ b := ne_of_none hm2b nb
        have hnb : H b = none := s2.free nb
        refine ⟨_, rfl, m1, _, rfl, ne1, (same_new nb) _ _ hm1b, upd_same, by rw [kvM_len]; exact few1, _, rfl, m2, _, rfl, ne2, ?_, upd_same, by rw [kvM_len]; exact few2, ?_⟩
        · rw [upd_ne ne2]
          exact (same_new nb) _ _ hm2b
        have s4 := (((s2.new (o := .dK []) nb).ownD (o := .dK (mergeK [] (kvM sd.ms))) hnb upd_same).ownD (o := .dK (bothM sd.ms en.ms)) hnb upd_same)
        have hb : (upd (upd (upd H3 b (.dK [])) b (.dK (mergeK [] (kvM sd.ms)))) b (.dK (bothM sd.ms en.ms))) b = some (.dK (bothM sd.ms en.ms)) := upd_same
        show tSeq _ _ _ _ (upd (upd (upd H3 b (.dK [])) b (.dK (mergeK [] (kvM sd.ms)))) b (.dK (bothM sd.ms en.ms)))
        generalize upd (upd (upd H3 b (.dK [])) b (.dK (mergeK [] (kvM sd.ms)))) b (.dK (bothM sd.ms en.ms)) = H4 at s4 hb ⊢
        refine ⟨_, rfl, p, C, dx, _, _, rfl, s4.k _ _ nt_ins h1, TC.cl, TC.nK, tgF_kn _ _ _ _ _, _, rfl, kd, _, rfl, get_of (s4.k _ _ nt_dK hkd1) hkv, ka, _, _, V.ref kl, rfl, rfl, s4.sqT hka, rfl, ?_⟩
        have hl4 := s4.k _ _ nt_lst hkl
        refine ⟨_, rfl, b, _, rfl, hb, _, rfl, kl, _, rfl, .inl (.inl (.inl hl4)), rfl, _, rfl, ?_⟩
        rw [List.length_map]
        have gs : ∀ x ∈ sd.ms, x.1 ∈ namesM L sd.k := by rw [hnm]; exact hkm
        have gn : (namesM L sd.k).Nodup := by rw [hnm]; exact hkn
        by_cases hlen : (bothM sd.ms en.ms).length = kk.fs.length
        · rw [decide_eq_true (show V.int ((bothM sd.ms en.ms).length : Nat) = V.int (kk.fs.length : Nat) by rw [hlen])]
          refine iteF ⟨_, rfl, kl, rfl, ⟨_, .inl (.inl hl4)⟩, s4.t.g _ hP, fun H5 hTb5 => ?_⟩
          have s5 : SL T H H5 := s4.trans (SL.tab hF s4.t hP hTb5)
          refine gx_it (walk_list (K := K) (a := kl) (xs := kk.fs.map V.str)) (fun i _ HZ => SL T H HZ ∧ HZ b = some (.dK (bothM sd.ms en.ms)) ∧ ∀ x ∈ kk.fs.take i, valV (bothM sd.ms en.ms) (.inr x) ≠ none) ⟨s5, (SL.tab hF s4.t hP hTb5).k _ _ nt_dK hb, fun p hp => by cases hp⟩ (fun i _ HZ _ z => .inl (.inl (z.1.k _ _ nt_lst hkl))) (fun i x _ HZ HZ' hi' hP' hY => ?_) (fun _ HZ hP' => ?_)
          · obtain ⟨rfl, hx⟩ := hY
            obtain ⟨y, hy, rfl⟩ := map_at hx
            obtain ⟨sZ, hbZ, hno⟩ := hP'
            have hmem := List.mem_of_getElem? hy
            refine ⟨rfl, tYes_in ⟨_, rfl, _, rfl, b, valV (bothM sd.ms en.ms) (.inr y), rfl, .inl ⟨_, .inr y, .inl hbZ, rfl, rfl⟩, _, rfl, fun e => ⟨sZ, hbZ, fun x hx => ?_⟩, fun e => ⟨true, rfl, iteT (vals_fin q sZ fun g => ?_)⟩⟩⟩
            · rw [take_snoc hy] at hx
              rcases List.mem_append.mp hx with z | z
              · exact hno x z
              · rw [List.mem_singleton.mp z]
                intro z2
                rw [z2] at e
                cases e
            · have := (of_good gs nd1 nd2 gn g).2.2 y (by rw [hnm]; exact hmem)
              rw [this] at e
              cases e
          obtain ⟨sZ, hbZ, hno⟩ := hP'
          rw [List.length_map, List.take_length] at hno
          have good : Good L sd en := good_of gs nd1 nd2 gn hl hw hno' (by rw [hnm]; exact hlen) (by rw [hnm]; exact hno)
          refine ⟨false, rfl, iteF ⟨_, rfl, kl, rfl, ⟨_, .inl (.inl (sZ.k _ _ nt_lst hkl))⟩, sZ.t.g _ hP, fun H6 hTb6 => ?_⟩⟩
          have t6 := SL.tab hF sZ.t hP hTb6
          refine gx_it (walk_list (K := K) (a := kl) (xs := kk.fs.map V.str)) (fun i ys HZ => SL T H HZ ∧ HZ b = some (.dK (bothM sd.ms en.ms)) ∧ ys = (kk.fs.take i).map fun x => V.str (pickM sd en x)) ⟨sZ.trans t6, t6.k _ _ nt_dK hbZ, rfl⟩ (fun i _ HZ _ z => .inl (.inl (z.1.k _ _ nt_lst hkl))) (fun i x ys HZ HZ' hi' hP' hY => ?_) (fun ys HZ hP' => ?_)
          · obtain ⟨rfl, hx⟩ := hY
            obtain ⟨y, hy, rfl⟩ := map_at hx
            obtain ⟨sZ, hbZ, rfl⟩ := hP'
            have hv := (of_good gs nd1 nd2 gn good).2.2 y (by rw [hnm]; exact List.mem_of_getElem? hy)
            refine ⟨rfl, tYes_in ⟨_, rfl, _, rfl, b, _, rfl, .inl ⟨_, .inr y, .inl hbZ, rfl, hv.symm⟩, ?_, sZ, hbZ, ?_⟩⟩
            · rw [List.length_map, List.length_take]
              exact small_line (by omega)
            · rw [take_snoc hy, List.map_append]
              rfl
          · obtain ⟨sZ, hbZ, rfl⟩ := hP'
            rw [List.length_map, List.take_length]
            intro l nl
            refine q _ _ (sZ.new nl) ?_
            rw [valsM_good good, hnm]
            refine ⟨l, rfl, .inl (.inl ?_)⟩
            rw [upd_same, List.map_map]
            rfl
        · rw [decide_eq_false (show ¬ V.int ((bothM sd.ms en.ms).length : Nat) = V.int (kk.fs.length : Nat) from fun z => hlen (by have := V.int.inj z; omega))]
          refine iteT (vals_fin q s4 fun g => hlen ?_)
          rw [← hnm]
          exact (of_good gs nd1 nd2 gn g).2.1
    · rw [decide_eq_false (show ¬ V.str sd.l = V.str en.l from fun z => hl (V.str.inj z))]
      exact iteT (vals_fin q s1 fun g => hl g.ln)
end
end Bn

namespace Bn
open PySem PySem.Spec PyProof.Rows L2 BR GX RM GY
/-! ### what a draw keeps -/
section
variable {K : PySem.W.Frag} {H H' : Hp} {b a : Addr} {N : Addr → Prop} {n : Nat} {xs : List V} {ds : List PyData}
theorem Kb.sqT (k : Kb b H H') (hb : Bx H b) (h : SqT K H a xs) : SqT K H' a xs := by
  obtain ⟨x, y, z, e⟩ := hb
  rcases h with (h | ⟨o, h⟩) | h
  · exact .inl (.inl (k.k _ _ (ne_of h e (by intro z; cases z)) h))
  · exact .inl (.inr ⟨o, k.k _ _ (ne_of h e (by intro z; cases z)) h⟩)
  · exact .inr h
theorem DqAll.kb (h : DqAll K H N n xs ds) (hb : Bx H b) (k : Kb b H H') (nb : ¬ N b) : DqAll K H' N n xs ds := h.keep (fun _ _ z => k.sqT hb z) (fun c o nc e => k.k c o (fun z => nb (z ▸ nc)) e) (fun _ _ z _ => z)
theorem DqAll.mono {N' : Addr → Prop} (h : DqAll K H N n xs ds) (s : ∀ a, N a → N' a) : DqAll K H N' n xs ds := h.keep (fun _ _ e => e) (fun _ _ _ e => e) (fun _ _ z _ => s _ z)
/-- a list that is no thing of it is changed -/
theorem DqAll.put {ys : List V} {o : HO} (h : DqAll K H N n xs ds) (e : H a = some (.lst ys)) (na : ¬ N a) : DqAll K (upd H a o) N n xs ds := h.keep (fun _ _ z => sqT_updL z e) (fun c o nc e => by rw [upd_ne (show c ≠ a from fun z => na (z ▸ nc))]; exact e) (fun _ _ z _ => z)
theorem Kb.lst {ys : List V} (k : Kb b H H') (e : H a = some (.lst ys)) (na : a ≠ b) : H' a = some (.lst ys) := k.k _ _ na e
theorem Kb.same (k : Kb b H H') {H2 : Hp} (s : Same H' H2) : Kb b H H2 := ⟨fun a o na e => s _ _ (k.k a o na e), k.x.same s⟩
end
/-! ### names -/
def nmB (x : Str) : Bool := !decide (x = "") && decide (x.length ≤ 8) && x.cps.toList.all fun c => lets26.cps.toList.contains c
theorem nm_of {x : Str} (h : nmB x = true) : Nm x := by
  unfold nmB at h
  rw [Bool.and_eq_true, Bool.and_eq_true, Bool.not_eq_true', decide_eq_false_iff_not, decide_eq_true_eq, List.all_eq_true] at h
  exact ⟨h.1.1, h.1.2, fun c hc => by simpa using h.2 c hc⟩
theorem tx_of {x : Str} {n : Nat} (l : x.length ≤ n) (h : LetS x) : Tx n x := ⟨l, h⟩
/-- of some signs alone -/
def Of (z t : Str) : Prop := ∀ c ∈ TL.tl t, c ∈ TL.tl z
theorem Of.lets {z t : Str} (h : Of z t) (hz : LetS z) : LetS t := fun c hc => hz c (h c hc)
theorem lets_abc : LetS "abc" := by
  unfold LetS
  decide +kernel
theorem lets_abcq : LetS "abcq" := by
  unfold LetS
  decide +kernel
theorem mem_joinL : ∀ (ls : List (List Nat)) (c : Nat), c ∈ TL.joinL [] ls → ∃ l ∈ ls, c ∈ l
  | [], c, h => by cases h
  | [p], c, h => ⟨p, List.mem_singleton.mpr rfl, h⟩
  | p :: q :: r, c, h => by
    have h' : c ∈ p ++ ([] ++ TL.joinL [] (q :: r)) := h
    rw [List.nil_append] at h'
    rcases List.mem_append.mp h' with e | e
    · exact ⟨p, List.mem_cons_self .., e⟩
    · obtain ⟨l, hl, hc⟩ := mem_joinL (q :: r) c e
      exact ⟨l, List.mem_cons_of_mem _ hl, hc⟩
theorem len_joinL : ∀ (ls : List (List Nat)), (∀ l ∈ ls, l.length = 1) → (TL.joinL [] ls).length = ls.length
  | [], _ => rfl
  | [p], H => H p (List.mem_singleton.mpr rfl)
  | p :: q :: r, H => by
    show (p ++ ([] ++ TL.joinL [] (q :: r))).length = (p :: q :: r).length
    rw [List.nil_append, List.length_append, len_joinL (q :: r) fun l hl => H l (List.mem_cons_of_mem _ hl), H p (List.mem_cons_self ..)]
    simp only [List.length_cons]
    omega
theorem tl_join0 (e : Str) (he : TL.tl e = []) (ys : List Str) : TL.tl (Txt.join e ys) = TL.joinL [] (ys.map TL.tl) := by
  rw [TL.join_eq, TL.tl_join, he]
theorem sum_ones : ∀ (ys : List Str), (∀ x ∈ ys, x.length = 1) → (ys.map (·.length)).sum = ys.length
  | [], _ => rfl
  | y :: ys, h => by
    rw [List.map_cons, List.sum_cons, sum_ones ys fun x hx => h x (List.mem_cons_of_mem _ hx), h y (List.mem_cons_self ..), List.length_cons, Nat.add_comm]
end Bn

/-! != of a list and [] -/
namespace PySem.SeqAt
open AutoSeq1 (wpAny_loadPart')
open MeetsSeq MeetsSeq2 MeetsSeq3 SeqRoads2
section
variable {prog : Program} {w : World}
theorem my_listNeLen (l b : Addr) (us vs : Array Value) (n m : Nat) (du dv : Option Addr) (su sv : Array (Option Value)) (hz : us.size ≠ vs.size) :
    MeetsIn prog w (Builtin.«list.__ne__» ⟨[.ref l, .ref b], []⟩) (fun A R s =>
      s.heap.get? l = some { cls := .type "list", dict := du, data := .seq us n, slots := su } ∧ s.heap.get? b = some { cls := .type "list", dict := dv, data := .seq vs m, slots := sv } ∧
      R (.ok (.ret (.bool true))) s) := by
  intro A R s h
  obtain ⟨hp, g, d, tk, os⟩ := s
  obtain ⟨hl, hb, h⟩ := h
  have f3 := AutoSeq1.sub_list_list
  have hn : (us.size != vs.size) = true := by simpa using hz
  wp_walk using wpAny_loadPart' hl, wpAny_loadPart' hb
  exact h
theorem my_rcNeLen {A : Around} {s : Shared} {l b : Addr} {us vs : Array Value} (hl : s.heap.IsList l us) (hb : s.heap.IsList b vs) (hz : us.size ≠ vs.size) (hu : A.units < cLine)
    (E Q : Value → Shared → Prop) (h : Q (.bool true) s) : wpAny (model prog w) A (richCompare .NotEq (.ref l) (.ref b)) Q E s := by
  obtain ⟨⟨c1, du, x1, su⟩, ho, hc, n, hd⟩ := id hl
  obtain ⟨⟨c2, dv, x2, sv⟩, ho2, hc2, m, hd2⟩ := id hb
  simp only at hc hd hc2 hd2
  subst hc hd hc2 hd2
  have ta : s.TypeIs (.ref l) "list" := ⟨_, ho, rfl⟩
  have tb : s.TypeIs (.ref b) "list" := ⟨_, ho2, rfl⟩
  exact wpAny_richCompare_same_room (op := .NotEq) ta tb F.slot_list_ne (call_meetsIn F.slot_list_ne ta F.entry_list_ne (F.args_list_ne_2 _ _) (my_listNeLen l b us vs n m du dv su sv hz)
    ⟨ho, ho2, show Value.bool true ≠ Value.notImplemented ∧ Q (.bool true) s from ⟨(fun x => nomatch x), h⟩⟩) hu
end
end PySem.SeqAt
namespace BR
open PySem PySem.Spec PyProof.Rows L2
section
variable {X : Cx}
/-- a list of anything != [] -/
def rNeE : R2 := fun x y H Q => ∃ a b xs, x = .ref a ∧ y = .ref b ∧ H a = some (.lst xs) ∧ H b = some (.lst []) ∧ Q (.bl (!xs.isEmpty)) H
theorem op_neE (hu : X.A.units + 64 < cLine) : OpR X (compareOp .NotEq) rNeE := by
  intro pins s σ H x y v u Q I rx ry h
  obtain ⟨a, b, xs, rfl, rfl, ha, hb, q⟩ := h
  cases (show v = Value.ref a from rx)
  cases (show u = Value.ref b from ry)
  obtain ⟨us, r1, p1, _⟩ := I.list (.inl (.inl ha))
  obtain ⟨ws, r2, p2, _⟩ := I.list (.inl (.inl hb))
  have e2 : ws.length = 0 := by rw [← r2.length]; rfl
  cases xs with
  | nil =>
    have e1 : us.length = 0 := by rw [← r1.length]; rfl
    refine SeqAt.my_rcNe p1.isList p2.isList (by rw [List.size_toArray, List.size_toArray, e1, e2]) (by omega) (fun j h1 h2 => ?_) _ _ ⟨.bl false, H, I, rfl, q⟩
    rw [List.size_toArray, e1] at h1
    exact absurd h1 (Nat.not_lt_zero _)
  | cons z zs =>
    have e1 : us.length = zs.length + 1 := by rw [← r1.length]; rfl
    exact SeqAt.my_rcNeLen p1.isList p2.isList (by rw [List.size_toArray, List.size_toArray, e1, e2]; omega) (by omega) _ _ ⟨.bl true, H, I, rfl, q⟩
end
end BR

namespace Bn
open PySem PySem.Spec PyProof.Rows L2 BR GX RM GY
theorem atI_z {xs : List V} {z : Int} {n : Nat} {v : V} (e : z = (n : Nat)) (h : xs[n]? = some v) : atI xs z = some v := by
  rw [e]
  exact atI_nat h
theorem ix_K {X : Cx} {K : PySem.W.Frag} {r : PySem.W.Frag → V → V → Hp → VK → Prop} (e : X.K = K) (h : IxR X (r X.K)) : IxR X (r K) := e ▸ h
theorem DqAll.putD {K : PySem.W.Frag} {H : Hp} {N : Addr → Prop} {n : Nat} {xs : List V} {ds : List PyData} {p : Addr} {kvs : List (Key × V)} {o : HO} (h : DqAll K H N n xs ds) (e : H p = some (.dK kvs)) (na : ¬ N p) : DqAll K (upd H p o) N n xs ds := h.keep (fun _ _ z => sqT_updD z e) (fun c o nc e => by rw [upd_ne (show c ≠ p from fun z => na (z ▸ nc))]; exact e) (fun _ _ z _ => z)
theorem kit2 {K : PySem.W.Frag} {t : String} {b1 b2 : Bool} (h1 : PySem.W.kitOne K (.type t) (.type "list") = some b1) (h2 : PySem.W.kitOne K (.type t) (.type "tuple") = some b2) : PySem.W.kitAny K (.type t) [.type "list", .type "tuple"] = some (b1 || b2) := by
  refine kitAny_cons h1 (fun e => kitAny_cons h2 (fun e2 => ?_) fun e2 => ?_) fun e => ?_
  · rw [e, e2]
    rfl
  · rw [e2, Bool.or_true]
  · rw [e, Bool.true_or]
-- data of texts, numbers, None, lists and tuples
mutual
def plainD : PyData → Bool
  | .none => true
  | .int _ => true
  | .str _ => true
  | .bool _ => true
  | .list ds => plainAll ds
  | .tuple ds => plainAll ds
  | _ => false
def plainAll : List PyData → Bool
  | [] => true
  | d :: ds => plainD d && plainAll ds
end
theorem plain_mem : ∀ {ds : List PyData} {d : PyData}, plainAll ds = true → d ∈ ds → plainD d = true
  | _ :: _, _, h, .head _ => by
    unfold plainAll at h
    exact (Bool.and_eq_true _ _ ▸ h).1
  | _ :: _, _, h, .tail _ hd => by
    unfold plainAll at h
    exact plain_mem (Bool.and_eq_true _ _ ▸ h).2 hd
section
variable {P : Program} {w : World} {K : PySem.W.Frag} {mg : Str → Option Value} {base : Heap}
/-! ### same -/
abbrev NSa : List Str := ["_law_found", "_law_due_here", "_law_k"]
def spSame (K : PySem.W.Frag) (n : Nat) : Sp := fun vs H Q _ => ∃ (x y : V) (d : PyData) (N1 N2 : Addr → Prop), vs = [x, y] ∧ Dq K H N1 n x d ∧ Dq K H N2 n y d ∧ plainD d = true ∧ ∀ H', Same H H' → Q (.bl true) H'
def spSameP (K : PySem.W.Frag) : Nat → Sp
  | 0 => fun _ _ _ _ => False
  | n + 1 => spSame K n
theorem ok_same1 {f : Addr} {fd : FuncData} {n k : Nat} (F : Fun K "_law_same" "_law_same" s_l_same f fd) (bS : Binds K fd ["_law_found", "_law_due_here"] []) (gS : mg "_law_same" = some (.ref f))
    (mi : mg "isinstance" = none) (mli : mg "list" = none) (mt : mg "tuple" = none) (ms : mg "str" = none) (mn : mg "int" = none) (mb : mg "bool" = none) (ml : mg "len" = none) (mr : mg "range" = none) (ma : mg "all" = none) (GS : FnOk P w K mg base CX0 k f fd ["_law_found", "_law_due_here"] (spSameP K n)) :
    FnOk P w K mg base CX0 (k + 1) f fd ["_law_found", "_law_due_here"] (spSame K n) := by
  refine F.ok sc_l_same (fun vs H Q E h => ?_) (fun cdv A outer s H vs Q E hr h => ?_)
  · obtain ⟨x, y, d, N1, N2, rfl, _⟩ := h
    rfl
  · obtain ⟨x, y, d, N1, N2, rfl, hx, hy, hpl, q⟩ := h
    refine ⟨_, pss_cons (ps_if (pt_val (pe_callB call_isiT (by rfl) mi (by decide +kernel) (pa_cons (pv 1) (pa_cons (pe_tup (pa_cons (pe_bltn (v := .ty "list") (by rfl) mli (by decide +kernel) rfl) (pa_cons (pe_bltn (v := .ty "tuple") (by rfl) mt (by decide +kernel) rfl) pa_nil))) pa_nil))))
        (pss_cons (ps_if (PW.pt (pw_or (pt_cmpR op_ne (pe_callB call_isi (by rfl) mi (by decide +kernel) (pa_cons (pv 1) (pa_cons (pe_bltn (v := .ty "list") (by rfl) mli (by decide +kernel) rfl) pa_nil))) (pe_callB call_isi (by rfl) mi (by decide +kernel) (pa_cons (pv 0) (pa_cons (pe_bltn (v := .ty "list") (by rfl) mli (by decide +kernel) rfl) pa_nil))) (nomark _))
            (pw_or1 (pt_cmpR op_ne (pe_callB call_isi (by rfl) mi (by decide +kernel) (pa_cons (pv 1) (pa_cons (pe_bltn (v := .ty "tuple") (by rfl) mt (by decide +kernel) rfl) pa_nil))) (pe_callB call_isi (by rfl) mi (by decide +kernel) (pa_cons (pv 0) (pa_cons (pe_bltn (v := .ty "tuple") (by rfl) mt (by decide +kernel) rfl) pa_nil))) (nomark _))))) (pss_one (ps_ret pe_bl)) pss_nil)
        (pss_one (ps_ret (pe_and (pe_cmpR op_eq (pe_callB call_len_seq (by rfl) ml PySem.boot_len (pa_cons (pv 0) pa_nil)) (pe_callB call_len_seq (by rfl) ml PySem.boot_len (pa_cons (pv 1) pa_nil)) (nomark _)) (pe_one (pe_callB (cr_all rfl) (by rfl) ma (by decide +kernel) (pa_cons (pe_lc (own := [("_law_k", 2)]) (g := gName 2) (tt := tYes) rfl sc_l_same.nd (pi_range1 (by rfl) mr (pa_cons (pe_callB call_len_seq (by rfl) ml PySem.boot_len (pa_cons (pv 1) pa_nil)) pa_nil))
            (blkOk_by (own := [("_law_k", 2)]) (N := NSa) (sc := defScope s_l_same) (by decide +kernel)) (fun _ _ _ _ _ => pg_name (i := 2) sc_l_same.nd rfl (.inl rfl)) (fun _ _ _ _ _ => pts_nil)
            (fun _ _ _ _ _ => pe_call GS hr (by rfl) gS F.kp bS .nil pass0 (pa_cons (pe_ix (ix_K (K := K) rfl ix_seq) (pv 0) (pv 2) (fun _ _ => rfl)) (pa_cons (pe_ix (ix_K (K := K) rfl ix_seq) (pv 1) (pv 2) (fun _ _ => rfl)) pa_nil)))) pa_nil))))))) pss_nil)
      (pss_cons (ps_if (pt_val (pe_callB call_isi (by rfl) mi (by decide +kernel) (pa_cons (pv 1) (pa_cons (pe_bltn (v := .ty "bool") (by rfl) mb (by decide +kernel) rfl) pa_nil)))) (pss_one (ps_ret (pe_and (pe_callB call_isi (by rfl) mi (by decide +kernel) (pa_cons (pv 0) (pa_cons (pe_bltn (v := .ty "bool") (by rfl) mb (by decide +kernel) rfl) pa_nil))) (pe_one (pe_cmpR op_eq (pv 0) (pv 1) (nomark _)))))) pss_nil)
      (pss_cons (ps_if (PW.pt (pw_or (pt_cmpR op_isN (pv 1) pe_non (nomark _)) (pw_or1 (pt_val (pe_callB call_isi (by rfl) mi (by decide +kernel) (pa_cons (pv 1) (pa_cons (pe_bltn (v := .ty "str") (by rfl) ms (by decide +kernel) rfl) pa_nil))))))) (pss_one (ps_ret (pe_and (pe_cmpR op_eq (pe_callB call_isi (by rfl) mi (by decide +kernel) (pa_cons (pv 0) (pa_cons (pe_bltn (v := .ty "str") (by rfl) ms (by decide +kernel) rfl) pa_nil))) (pe_callB call_isi (by rfl) mi (by decide +kernel) (pa_cons (pv 1) (pa_cons (pe_bltn (v := .ty "str") (by rfl) ms (by decide +kernel) rfl) pa_nil))) (nomark _)) (pe_one (pe_cmpR op_eq (pv 0) (pv 1) (nomark _)))))) pss_nil)
      (pss_one (ps_ret (pe_and (pe_callB call_isi (by rfl) mi (by decide +kernel) (pa_cons (pv 0) (pa_cons (pe_bltn (v := .ty "int") (by rfl) mn (by decide +kernel) rfl) pa_nil))) (pe_and (pe_not (pe_callB call_isi (by rfl) mi (by decide +kernel) (pa_cons (pv 0) (pa_cons (pe_bltn (v := .ty "bool") (by rfl) mb (by decide +kernel) rfl) pa_nil)))) (pe_one (pe_cmpR op_eq (pv 0) (pv 1) (nomark _))))))))), ?_⟩
    have sm : ∀ {tp : Addr}, H tp = none → Same H (upd H tp (.tup [.ty "list", .ty "tuple"])) := fun np => same_new np
    cases hy with
    | non =>
      cases hx
      refine ⟨_, rfl, (show 2 ≤ sizeLine by decide), fun tp np => ?_⟩
      refine ⟨_, tp, _, _, _, false, rfl, upd_same, .cons (.ty _) (.cons (.ty _) .nil), .base .non, kit2 (b1 := false) (b2 := false) (kit_ty (by decide +kernel)) (kit_ty (by decide +kernel)), false, rfl, iteF ?_⟩
      refine ⟨_, rfl, _, .ty "bool", .type "NoneType", .type "bool", false, rfl, .ty "bool", .base .non, kit_ty (by decide +kernel), false, rfl, iteF ?_⟩
      refine ⟨_, rfl, rfl, _, rfl, iteT ?_⟩
      exact ⟨_, rfl, _, .ty "str", .type "NoneType", .type "str", false, rfl, .ty "str", .base .non, kit_ty (by decide +kernel), _, rfl, _, .ty "str", .type "NoneType", .type "str", false, rfl, .ty "str", .base .non, kit_ty (by decide +kernel), rfl, _, rfl, iteT ⟨_, rfl, _, rfl, rfl, q _ (sm np)⟩⟩
    | bl b =>
      cases hx
      refine ⟨_, rfl, (show 2 ≤ sizeLine by decide), fun tp np => ?_⟩
      refine ⟨_, tp, _, _, _, false, rfl, upd_same, .cons (.ty _) (.cons (.ty _) .nil), .base (.bl b), kit2 (b1 := false) (b2 := false) (kit_ty (by decide +kernel)) (kit_ty (by decide +kernel)), false, rfl, iteF ?_⟩
      refine ⟨_, rfl, _, .ty "bool", .type "bool", .type "bool", true, rfl, .ty "bool", .base (.bl b), kit_ty (by decide +kernel), true, rfl, iteT ?_⟩
      refine ⟨_, rfl, _, .ty "bool", .type "bool", .type "bool", true, rfl, .ty "bool", .base (.bl b), kit_ty (by decide +kernel), true, rfl, iteT ⟨_, rfl, _, rfl, rfl, ?_⟩⟩
      rw [decide_eq_true rfl]
      exact q _ (sm np)
    | dic _ _ _ _ _ => simp [plainD] at hpl
    | int i =>
      cases hx
      refine ⟨_, rfl, (show 2 ≤ sizeLine by decide), fun tp np => ?_⟩
      refine ⟨_, tp, _, _, _, false, rfl, upd_same, .cons (.ty _) (.cons (.ty _) .nil), .base (.int i), kit2 (b1 := false) (b2 := false) (kit_ty (by decide +kernel)) (kit_ty (by decide +kernel)), false, rfl, iteF ?_⟩
      refine ⟨_, rfl, _, .ty "bool", .type "int", .type "bool", false, rfl, .ty "bool", .base (.int i), kit_ty (by decide +kernel), false, rfl, iteF ?_⟩
      refine ⟨_, rfl, rfl, _, rfl, iteF ?_⟩
      refine ⟨_, rfl, _, .ty "str", .type "int", .type "str", false, rfl, .ty "str", .base (.int i), kit_ty (by decide +kernel), false, rfl, iteF ?_⟩
      refine ⟨_, rfl, _, .ty "int", .type "int", .type "int", true, rfl, .ty "int", .base (.int i), kit_ty (by decide +kernel), true, rfl, iteT ?_⟩
      refine ⟨_, rfl, _, .ty "bool", .type "int", .type "bool", false, rfl, .ty "bool", .base (.int i), kit_ty (by decide +kernel), false, rfl, true, rfl, iteT ⟨_, rfl, _, rfl, rfl, ?_⟩⟩
      rw [decide_eq_true rfl]
      exact q _ (sm np)
    | str z =>
      cases hx
      refine ⟨_, rfl, (show 2 ≤ sizeLine by decide), fun tp np => ?_⟩
      refine ⟨_, tp, _, _, _, false, rfl, upd_same, .cons (.ty _) (.cons (.ty _) .nil), .base (.str z), kit2 (b1 := false) (b2 := false) (kit_ty (by decide +kernel)) (kit_ty (by decide +kernel)), false, rfl, iteF ?_⟩
      refine ⟨_, rfl, _, .ty "bool", .type "str", .type "bool", false, rfl, .ty "bool", .base (.str z), kit_ty (by decide +kernel), false, rfl, iteF ?_⟩
      refine ⟨_, rfl, rfl, _, rfl, iteF ?_⟩
      refine ⟨_, rfl, _, .ty "str", .type "str", .type "str", true, rfl, .ty "str", .base (.str z), kit_ty (by decide +kernel), true, rfl, iteT ?_⟩
      refine ⟨_, rfl, _, .ty "str", .type "str", .type "str", true, rfl, .ty "str", .base (.str z), kit_ty (by decide +kernel), _, rfl, _, .ty "str", .type "str", .type "str", true, rfl, .ty "str", .base (.str z), kit_ty (by decide +kernel), rfl, _, rfl, iteT ⟨_, rfl, _, rfl, rfl, ?_⟩⟩
      rw [decide_eq_true rfl]
      exact q _ (sm np)
    | @lst _ m c ys ds h2 _ l2 hEy =>
      cases hx with
      | @lst _ _ a xs _ h1 _ l1 hEx =>
      have ex := hEx.len
      have ey := hEy.len
      have hpa : plainAll ds = true := hpl
      refine ⟨_, rfl, (show 2 ≤ sizeLine by decide), fun tp np => ?_⟩
      refine ⟨_, tp, _, _, _, true, rfl, upd_same, .cons (.ty _) (.cons (.ty _) .nil), .base (.lst (sm np _ _ h2)), kit2 (b1 := true) (b2 := false) (kit_ty (by decide +kernel)) (kit_ty (by decide +kernel)), true, rfl, iteT ?_⟩
      refine ⟨_, rfl, _, .ty "list", .type "list", .type "list", true, rfl, .ty "list", .base (.lst (sm np _ _ h2)), kit_ty (by decide +kernel), _, rfl, _, .ty "list", .type "list", .type "list", true, rfl, .ty "list", .base (.lst (sm np _ _ h1)), kit_ty (by decide +kernel), rfl, _, rfl, iteF ?_⟩
      refine ⟨_, rfl, _, .ty "tuple", .type "list", .type "tuple", false, rfl, .ty "tuple", .base (.lst (sm np _ _ h2)), kit_ty (by decide +kernel), _, rfl, _, .ty "tuple", .type "list", .type "tuple", false, rfl, .ty "tuple", .base (.lst (sm np _ _ h1)), kit_ty (by decide +kernel), rfl, _, rfl, iteF ?_⟩
      refine ⟨_, rfl, a, _, rfl, .inl (.inl (.inl (sm np _ _ h1))), _, rfl, c, _, rfl, .inl (.inl (.inl (sm np _ _ h2))), rfl, _, rfl, ?_⟩
      rw [decide_eq_true (show V.int (xs.length : Nat) = V.int (ys.length : Nat) by rw [ex, ey])]
      refine iteT ⟨_, rfl, c, _, rfl, .inl (.inl (.inl (sm np _ _ h2))), (ys.length : Nat), rfl, by omega, by omega, fun D nD => ?_⟩
      rw [Int.toNat_natCast]
      have s0 := sm np
      generalize upd H tp (.tup [.ty "list", .ty "tuple"]) = HT at s0 nD ⊢
      refine lc_it (walk_range (lo := 0) (n := ys.length)) (fun i HY => Same HT HY ∧ HY D = some (.lst ((List.replicate i true).map V.bl))) ⟨same_new nD, upd_same⟩ (fun _ _ _ _ => trivial) (fun i x HY HY' hi hP' hY => ?_) (fun HA hP' => ?_)
      · obtain ⟨e0, rfl⟩ := hY
        subst e0
        obtain ⟨sY, hDY⟩ := hP'
        have li : i < ys.length := hi
        have hyi : ys[i]? = some ys[i] := List.getElem?_eq_getElem li
        have hxi : xs[i]? = some (xs[i]'(by omega)) := List.getElem?_eq_getElem _
        obtain ⟨d1, e1, dq1⟩ := hEy.at hyi
        obtain ⟨d2, e2, dq2⟩ := hEx.at hxi
        rw [e1] at e2
        cases e2
        have sHY := s0.trans sY
        refine ⟨rfl, tYes_in ⟨_, rfl, _, rfl, .inl ⟨a, _, _, _, rfl, rfl, .inl (.inl (sHY _ _ h1)), atI_z (Int.zero_add _) hxi, _, rfl, _, rfl, .inl ⟨c, _, _, _, rfl, rfl, .inl (.inl (sHY _ _ h2)), atI_z (Int.zero_add _) hyi, _, _, d1, N1, N2, rfl, dq2.same sHY, dq1.same sHY, plain_mem hpa (List.mem_of_getElem? e1), fun H2 s2 => ?_⟩⟩⟩⟩
        refine ⟨_, s2 _ _ hDY, by rw [List.length_map, List.length_replicate]; exact small_line (by omega), fun a o e => ?_, ?_⟩
        · rw [upd_ne (ne_of_none e nD)]
          exact s2 _ _ (sY _ _ e)
        · rw [upd_same, List.replicate_succ', List.map_append]
          rfl
      · obtain ⟨sY, hDY⟩ := hP'
        refine ⟨D, _, rfl, .inl (.inl hDY), ?_⟩
        have : (List.replicate ys.length true).all id = true := List.all_eq_true.mpr fun b hb => List.eq_of_mem_replicate hb
        rw [this]
        exact q _ (s0.trans sY)
    | @tup _ m c ys ds h2 l2 hEy =>
      cases hx with
      | @tup _ _ a xs _ h1 l1 hEx =>
      have ex := hEx.len
      have ey := hEy.len
      have hpa : plainAll ds = true := hpl
      refine ⟨_, rfl, (show 2 ≤ sizeLine by decide), fun tp np => ?_⟩
      refine ⟨_, tp, _, _, _, true, rfl, upd_same, .cons (.ty _) (.cons (.ty _) .nil), ty_tup (sqT_of_same (sm np) h2), kit2 (b1 := false) (b2 := true) (kit_ty (by decide +kernel)) (kit_ty (by decide +kernel)), true, rfl, iteT ?_⟩
      refine ⟨_, rfl, _, .ty "list", .type "tuple", .type "list", false, rfl, .ty "list", ty_tup (sqT_of_same (sm np) h2), kit_ty (by decide +kernel), _, rfl, _, .ty "list", .type "tuple", .type "list", false, rfl, .ty "list", ty_tup (sqT_of_same (sm np) h1), kit_ty (by decide +kernel), rfl, _, rfl, iteF ?_⟩
      refine ⟨_, rfl, _, .ty "tuple", .type "tuple", .type "tuple", true, rfl, .ty "tuple", ty_tup (sqT_of_same (sm np) h2), kit_ty (by decide +kernel), _, rfl, _, .ty "tuple", .type "tuple", .type "tuple", true, rfl, .ty "tuple", ty_tup (sqT_of_same (sm np) h1), kit_ty (by decide +kernel), rfl, _, rfl, iteF ?_⟩
      refine ⟨_, rfl, a, _, rfl, .inr (sqT_of_same (sm np) h1), _, rfl, c, _, rfl, .inr (sqT_of_same (sm np) h2), rfl, _, rfl, ?_⟩
      rw [decide_eq_true (show V.int (xs.length : Nat) = V.int (ys.length : Nat) by rw [ex, ey])]
      refine iteT ⟨_, rfl, c, _, rfl, .inr (sqT_of_same (sm np) h2), (ys.length : Nat), rfl, by omega, by omega, fun D nD => ?_⟩
      rw [Int.toNat_natCast]
      have s0 := sm np
      generalize upd H tp (.tup [.ty "list", .ty "tuple"]) = HT at s0 nD ⊢
      refine lc_it (walk_range (lo := 0) (n := ys.length)) (fun i HY => Same HT HY ∧ HY D = some (.lst ((List.replicate i true).map V.bl))) ⟨same_new nD, upd_same⟩ (fun _ _ _ _ => trivial) (fun i x HY HY' hi hP' hY => ?_) (fun HA hP' => ?_)
      · obtain ⟨e0, rfl⟩ := hY
        subst e0
        obtain ⟨sY, hDY⟩ := hP'
        have li : i < ys.length := hi
        have hyi : ys[i]? = some ys[i] := List.getElem?_eq_getElem li
        have hxi : xs[i]? = some (xs[i]'(by omega)) := List.getElem?_eq_getElem _
        obtain ⟨d1, e1, dq1⟩ := hEy.at hyi
        obtain ⟨d2, e2, dq2⟩ := hEx.at hxi
        rw [e1] at e2
        cases e2
        have sHY := s0.trans sY
        refine ⟨rfl, tYes_in ⟨_, rfl, _, rfl, .inr (.inl ⟨a, _, _, _, rfl, rfl, sqT_of_same (sHY) h1, atI_z (Int.zero_add _) hxi, _, rfl, _, rfl, .inr (.inl ⟨c, _, _, _, rfl, rfl, sqT_of_same (sHY) h2, atI_z (Int.zero_add _) hyi, _, _, d1, N1, N2, rfl, dq2.same sHY, dq1.same sHY, plain_mem hpa (List.mem_of_getElem? e1), fun H2 s2 => ?_⟩)⟩)⟩⟩
        refine ⟨_, s2 _ _ hDY, by rw [List.length_map, List.length_replicate]; exact small_line (by omega), fun a o e => ?_, ?_⟩
        · rw [upd_ne (ne_of_none e nD)]
          exact s2 _ _ (sY _ _ e)
        · rw [upd_same, List.replicate_succ', List.map_append]
          rfl
      · obtain ⟨sY, hDY⟩ := hP'
        refine ⟨D, _, rfl, .inl (.inl hDY), ?_⟩
        have : (List.replicate ys.length true).all id = true := List.all_eq_true.mpr fun b hb => List.eq_of_mem_replicate hb
        rw [this]
        exact q _ (s0.trans sY)
theorem ok_same {f : Addr} {fd : FuncData} (F : Fun K "_law_same" "_law_same" s_l_same f fd) (bS : Binds K fd ["_law_found", "_law_due_here"] []) (gS : mg "_law_same" = some (.ref f))
    (mi : mg "isinstance" = none) (mli : mg "list" = none) (mt : mg "tuple" = none) (ms : mg "str" = none) (mn : mg "int" = none) (mb : mg "bool" = none) (ml : mg "len" = none) (mr : mg "range" = none) (ma : mg "all" = none) : ∀ n, FnOk P w K mg base CX0 (n + 1) f fd ["_law_found", "_law_due_here"] (spSame K n)
  | 0 => ok_same1 (k := 0) F bS gS mi mli mt ms mn mb ml mr ma ⟨fun _ _ _ _ h => h.elim, fun _ _ _ _ _ _ _ _ _ _ _ _ _ h => h.elim⟩
  | n + 1 => ok_same1 (k := n + 1) F bS gS mi mli mt ms mn mb ml mr ma (ok_same F bS gS mi mli mt ms mn mb ml mr ma n)
end
end Bn

namespace Bn
open PySem PySem.Spec PyProof.Rows L2 BR GX RM GY
theorem perm_pop {α : Type} {l r : List α} {n : Nat} (h : n < l.length) : (l.eraseIdx n ++ (r ++ [l[n]])).Perm (l ++ r) := by
  have e : l = l.take n ++ l[n] :: l.drop (n + 1) := by
    rw [← List.drop_eq_getElem_cons h, List.take_append_drop]
  rw [List.eraseIdx_eq_take_drop_succ]
  conv => rhs; rw [e]
  rw [List.append_assoc, List.append_assoc, List.cons_append]
  refine List.Perm.append_left _ ?_
  rw [← List.append_assoc]
  exact List.perm_append_singleton ..
section
variable {P : Program} {w : World} {K : PySem.W.Frag} {mg : Str → Option Value} {base : Heap}
/-! ### turned, whatever stands in it -/
def spTurnV : Sp := fun vs H Q _ => ∃ (b r : Addr) (xs : List V), vs = [.ref b, .ref r] ∧ Bx H b ∧ H r = some (.lst xs) ∧ xs.length ≤ 100 ∧ ∀ (p : Addr) (ys : List V) H', H p = none → Kb b H H' → H' p = some (.lst ys) → ys.Perm xs → Q (.ref p) H'
theorem ok_turnV {f fT : Addr} {fd fdT : FuncData} (F : Fun K "_law_turned" "_law_turned" s_l_turned f fd)
    (kT : PySem.W.keepIn K (.ref fT) = true) (bT : Binds K fdT ["_law_box_here", "_law_many"] []) (gT : mg "_law_take" = some (.ref fT)) (GT : FnOk P w K mg base CX0 2 fT fdT ["_law_box_here", "_law_many"] spTake)
    (ml : mg "len" = none) (mli : mg "list" = none) : FnOk P w K mg base CX0 3 f fd ["_law_box_here", "_law_row"] spTurnV := by
  refine F.ok sc_l_turned (fun vs H Q E h => ?_) (fun cdv A outer s H vs Q E hr h => ?_)
  · obtain ⟨b, r, xs, rfl, _⟩ := h
    rfl
  · obtain ⟨b, r, xs, rfl, hb, hS, hlen, q⟩ := h
    refine ⟨_, pss_cons (ps_set (i := 2) sc_l_turned.nd rfl (.inl rfl) (pe_callTy call_list_of (by rfl) mli (by decide +kernel) (pa_cons (pv 1) pa_nil)))
      (pss_cons (ps_set (i := 3) sc_l_turned.nd rfl (.inl rfl) (pe_lst pa_nil))
      (pss_cons (ps_while PassesOwn.never (pt_cmpR (op_neE hr.units) (pv 2) (pe_lst pa_nil) (nomark _))
        (pss_one (ps_expr (pe_bm PySem.F.plainAttrs_list PySem.F.slot_list_append PySem.F.type_list_append mt_append (pv 3) (pa_cons
          (pe_bm PySem.F.plainAttrs_list PySem.F.slot_list_pop PySem.F.type_list_pop mt_popAt (pv 2) (pa_cons (pe_call GT hr (by rfl) gT kT bT .nil pass0 (pa_cons (pv 0) (pa_cons (pe_callB call_len_seq (by rfl) ml PySem.boot_len (pa_cons (pv 2) pa_nil)) pa_nil))) pa_nil)) pa_nil)))))
      (pss_one (ps_ret (pv 3))))), ?_⟩
    refine ⟨_, rfl, r, _, rfl, .inl (.inl (.inl hS)), fun l nl => ?_⟩
    refine ⟨Nat.zero_le _, fun d nd => ?_⟩
    have nlb : l ≠ b := (hb.ne nl).symm
    have hb1 : Bx (upd H l (.lst xs)) b := hb.same (same_new nl)
    have ndb : d ≠ b := (hb1.ne nd).symm
    have ndl : d ≠ l := fun e => by
      rw [e, upd_same] at nd
      cases nd
    have nd0 : H d = none := by
      rw [upd_ne ndl] at nd
      exact nd
    refine while_by (fun σ H' => ∃ xs' ys : List V, σ = [some (.ref b), some (.ref r), some (.ref l), some (.ref d)] ∧ Kb b H H' ∧ H' l = some (.lst xs') ∧ H' d = some (.lst ys) ∧ (xs' ++ ys).Perm xs) (fun _ H' => lenAt H' l) ?_ (fun σ H' hP => ?_) (fun σ H' Q1 Q2 hq h => ?_)
    · refine ⟨xs, [], rfl, ((Kb.refl hb).own nl nlb).own nd0 ndb, ?_, upd_same, by rw [List.append_nil]⟩
      rw [upd_ne ndl.symm, upd_same]
    · obtain ⟨xs', ys, rfl, kb, hl, hd, hpm⟩ := hP
      have hlenP : xs'.length + ys.length = xs.length := by
        have := hpm.length_eq
        rw [List.length_append] at this
        exact this
      refine ⟨_, rfl, Nat.zero_le _, fun p np => ?_⟩
      have sm : Same H' (upd H' p (.lst [])) := same_new np
      refine ⟨l, p, xs', rfl, rfl, sm _ _ hl, upd_same, _, rfl, ?_⟩
      cases xs' with
      | nil =>
        refine iteF ⟨_, rfl, ?_⟩
        rw [List.nil_append] at hpm
        exact q d ys _ nd0 (kb.trans (Kb.new kb.x np)) (sm _ _ hd) hpm
      | cons s0 ss0 =>
        have kb1 : Kb b H (upd H' p (.lst [])) := kb.trans (Kb.new kb.x np)
        have hl1 := sm _ _ hl
        have hd1 := sm _ _ hd
        rw [List.length_cons] at hlenP
        refine iteT ⟨_, rfl, .inl ⟨rfl, _, .inl (.inl hd1)⟩, _, rfl, .inl ⟨rfl, _, .inl (.inl hl1)⟩, _, rfl, _, rfl, l, _, rfl, .inl (.inl (.inl hl1)), b, _, rfl, kb1.x, by rw [List.length_cons]; omega, by rw [List.length_cons]; omega, fun n H2 n1 k2 => ?_⟩
        have hl2 : H2 l = some (.lst (s0 :: ss0)) := k2.k _ _ nlb hl1
        have hd2 : H2 d = some (.lst ys) := k2.k _ _ ndb hd1
        have hn : n < (s0 :: ss0).length := by omega
        refine ⟨l, s0 :: ss0, n, n, (s0 :: ss0)[n], rfl, rfl, hl2, by omega, by have := List.length_cons (a := s0) (as := ss0); omega, PySem.seqIndex_of (by omega) (by omega), List.getElem?_eq_getElem hn, ?_⟩
        have hd3 : (upd H2 l (.lst ((s0 :: ss0).eraseIdx n))) d = some (.lst ys) := by
          rw [upd_ne ndl]
          exact hd2
        refine ⟨d, _, _, rfl, rfl, hd3, small1000 (by omega), ⟨(s0 :: ss0).eraseIdx n, ys ++ [(s0 :: ss0)[n]], rfl, ((kb1.trans k2).own nl nlb).own nd0 ndb, ?_, ?_, (perm_pop hn).trans hpm⟩, ?_⟩
        · rw [upd_ne ndl.symm, upd_same]
        · rw [upd_same]
        · rw [lenAt_of hl, lenAt_of (xs := (s0 :: ss0).eraseIdx n) (by rw [upd_ne ndl.symm, upd_same]), List.length_eraseIdx_of_lt hn]
          omega
    · obtain ⟨v, hv, hz, h⟩ := h
      refine ⟨v, hv, hz, fun p np => ?_⟩
      obtain ⟨a1, b1, xs1, h1, h2, h3, h4, k, hk, h5⟩ := h p np
      exact ⟨a1, b1, xs1, h1, h2, h3, h4, k, hk, hq _ _ h5⟩
end
end Bn

set_option pp.maxSteps 400
namespace Bn
open PySem PySem.Spec PyProof.Rows L2 BR GX RM GY
theorem take_get {α : Type} {l : List α} {i : Nat} {x : α} (h : l[i]? = some x) : l.take (i + 1) = l.take i ++ [x] := by
  rw [List.take_succ, h]
  rfl
/-! ### k14's tables of words -/
def nouns14 : List (List Str) := [["cat", "cats"], ["fly", "flies"], ["box", "boxes"], ["wolf", "wolves"], ["city", "cities"], ["day", "days"], ["fox", "foxes"], ["shelf", "shelves"], ["spy", "spies"], ["call", "calls"], ["bake", "bakes"], ["play", "plays"]]
def verbs14 : List (List Str) := [["fly", "flies", "flied", "flying"], ["bake", "bakes", "baked", "baking"], ["call", "calls", "called", "calling"], ["spy", "spies", "spied", "spying"], ["box", "boxes", "boxed", "boxing"], ["try", "tries", "tried", "trying"], ["move", "moves", "moved", "moving"], ["walk", "walks", "walked", "walking"], ["play", "plays", "played", "playing"], ["ax", "axes", "axed", "axing"], ["day", "days", "dayed", "daying"]]
def nrows14 : List Str := ["cat cats", "fly flies", "box boxes", "wolf wolves", "city cities", "day days", "fox foxes", "shelf shelves", "spy spies", "call calls", "bake bakes", "play plays"]
def vrows14 : List Str := ["fly flies flied flying", "bake bakes baked baking", "call calls called calling", "spy spies spied spying", "box boxes boxed boxing", "try tries tried trying", "move moves moved moving", "walk walks walked walking", "play plays played playing", "ax axes axed axing", "day days dayed daying"]
theorem nsplit : nrows14.map (fun r => Txt.split r " ") = nouns14 := by decide +kernel
theorem vsplit : vrows14.map (fun r => Txt.split r " ") = verbs14 := by decide +kernel
theorem nrows_len : ∀ r ∈ nrows14, r.length ≤ 100 := by decide +kernel
theorem vrows_len : ∀ r ∈ vrows14, r.length ≤ 100 := by decide +kernel
section
variable {P : Program} {w : World} {K : PySem.W.Frag} {mg : Str → Option Value} {base : Heap}
def spTab (K : PySem.W.Frag) (tab : List (List Str)) : Sp := fun vs H Q _ => vs = [] ∧ ∀ (l : Addr) (xs : List V) H', Same H H' → H l = none → H' l = some (.lst xs) → DqAll K H' (fun x => H x = none ∧ x ≠ l) 1 xs (tab.map strsD) → Q (.ref l) H'
theorem nouns14_split : ∀ x ∈ nouns14, x.length ≤ 4 := by decide +kernel
theorem verbs14_split : ∀ x ∈ verbs14, x.length ≤ 4 := by decide +kernel
theorem ok_l_nouns {f : Addr} {fd : FuncData} {k : Nat} (F : Fun K "_law_nouns" "_law_nouns" s_l_nouns f fd) : FnOk P w K mg base CX0 (k + 1) f fd [] (spTab K nouns14) := by
  refine F.ok sc_l_nouns (fun vs H Q E h => ?_) (fun cdv A outer s H vs Q E hr h => ?_)
  · obtain ⟨rfl, _⟩ := h
    rfl
  · obtain ⟨rfl, q⟩ := h
    refine ⟨_, pss_cons (ps_set (i := 0) sc_l_nouns.nd rfl (.inl rfl) pe_str)
      (pss_one (ps_ret (pe_lc (own := [("_law_row", 1)]) (g := gName 1) (tt := tYes) rfl sc_l_nouns.nd (pi_list (pe_split (pe_op op_add_str (pv 0) pe_str) pe_str)) (blkOk_by (own := [("_law_row", 1)]) (N := ["_law_rows", "_law_row"]) (sc := defScope s_l_nouns) (by decide +kernel)) (fun _ _ _ _ _ => pg_name (i := 1) sc_l_nouns.nd rfl (Or.inl rfl)) (fun _ _ _ _ _ => pts_nil) (fun _ _ _ _ _ => pe_split (pv 1) pe_str)))), ?_⟩
    refine ⟨_, rfl, _, _, rfl, rfl, (by decide), ⟨_, rfl⟩, _, "|", rfl, rfl, rfl, (by decide), fun z nz => ?_⟩
    rw [show Txt.split (("cat cats|fly flies|box boxes|wolf wolves|city cities|day days|fox foxes|shelf shelves|spy spies" : Str) ++ "|call calls|bake bakes|play plays") "|" = nrows14 by decide +kernel] at *
    have sZ := same_new (H := H) (o := .lst (nrows14.map V.str)) nz
    have hz : (upd H z (.lst (nrows14.map V.str))) z = some (.lst (nrows14.map V.str)) := upd_same
    generalize upd H z (.lst (nrows14.map V.str)) = HZ at sZ hz ⊢
    refine ⟨z, rfl, ⟨_, .inl (.inl hz)⟩, fun D nD => ?_⟩
    have nDH : H D = none := sZ.free nD
    refine lc_it (walk_list (K := K) (a := z) (xs := nrows14.map V.str)) (fun i HX => Same HZ HX ∧ ∃ vs, HX D = some (.lst vs) ∧ DqAll K HX (fun x => H x = none ∧ x ≠ D) 1 vs ((nouns14.take i).map strsD)) ⟨same_new nD, [], upd_same, .nil⟩ (fun i HX _ y => .inl (.inl (y.1 _ _ hz))) (fun i x HX HX' hi hP' hY => ?_) (fun HX hP' => ?_)
    · obtain ⟨rfl, hx⟩ := hY
      obtain ⟨sX, vs, hDX, hvs⟩ := hP'
      obtain ⟨r, hr0, rfl⟩ := map_at hx
      have hrl := nrows_len r (List.mem_of_getElem? hr0)
      have ht : nouns14[i]? = some (Txt.split r " ") := by
        rw [← nsplit, List.getElem?_map, hr0]
        rfl
      refine ⟨rfl, tYes_in ⟨_, rfl, ⟨_, rfl⟩, r, " ", rfl, rfl, rfl, Nat.le_trans (show r.length + 2 ≤ 1000 by omega) (by decide), fun p np => ?_⟩⟩
      have sP := same_new (H := HX') (o := .lst ((Txt.split r " ").map V.str)) np
      have hp : (upd HX' p (.lst ((Txt.split r " ").map V.str))) p = some (.lst ((Txt.split r " ").map V.str)) := upd_same
      generalize upd HX' p (.lst ((Txt.split r " ").map V.str)) = HP at sP hp ⊢
      have hDP := sP _ _ hDX
      have npH : H p = none := sZ.free (sX.free np)
      have npD : p ≠ D := fun e => by rw [e, hDX] at np; cases np
      have lt : i < nouns14.length := (List.getElem?_eq_some_iff.mp ht).1
      have lt2 : nouns14.length = 12 := rfl
      have vl : vs.length = i := by rw [hvs.len, List.length_map, List.length_take]; omega
      have one : Dq K HP (fun x => H x = none ∧ x ≠ D) 1 (.ref p) (strsD (Txt.split r " ")) := .lst (n := 0) hp ⟨npH, npD⟩ (by rw [List.length_map]; have := nouns14_split _ (List.mem_of_getElem? ht); omega) strs_dq
      refine ⟨vs, hDP, small_line (by omega), Same.own (sX.trans sP) nD, vs ++ [.ref p], upd_same, ?_⟩
      rw [take_get ht, List.map_append]
      exact ((hvs.same sP).app (.cons one .nil)).put hDP fun y => y.2 rfl
    · obtain ⟨sX, vs, hDX, hvs⟩ := hP'
      rw [List.length_map, show nrows14.length = nouns14.length from rfl, List.take_length] at hvs
      exact q D vs HX (sZ.trans sX) nDH hDX hvs
theorem ok_l_verbs {f : Addr} {fd : FuncData} {k : Nat} (F : Fun K "_law_verbs" "_law_verbs" s_l_verbs f fd) : FnOk P w K mg base CX0 (k + 1) f fd [] (spTab K verbs14) := by
  refine F.ok sc_l_verbs (fun vs H Q E h => ?_) (fun cdv A outer s H vs Q E hr h => ?_)
  · obtain ⟨rfl, _⟩ := h
    rfl
  · obtain ⟨rfl, q⟩ := h
    refine ⟨_, pss_cons (ps_set (i := 0) sc_l_verbs.nd rfl (.inl rfl) pe_str)
      (pss_cons (ps_set (i := 0) sc_l_verbs.nd rfl (.inl rfl) (pe_op op_add_str (pv 0) pe_str))
      (pss_cons (ps_set (i := 0) sc_l_verbs.nd rfl (.inl rfl) (pe_op op_add_str (pv 0) pe_str))
      (pss_cons (ps_set (i := 0) sc_l_verbs.nd rfl (.inl rfl) (pe_op op_add_str (pv 0) pe_str))
      (pss_one (ps_ret (pe_lc (own := [("_law_row", 1)]) (g := gName 1) (tt := tYes) rfl sc_l_verbs.nd (pi_list (pe_split (pv 0) pe_str)) (blkOk_by (own := [("_law_row", 1)]) (N := ["_law_rows", "_law_row"]) (sc := defScope s_l_verbs) (by decide +kernel)) (fun _ _ _ _ _ => pg_name (i := 1) sc_l_verbs.nd rfl (Or.inl rfl)) (fun _ _ _ _ _ => pts_nil) (fun _ _ _ _ _ => pe_split (pv 1) pe_str))))))), ?_⟩
    refine ⟨_, rfl, _, _, rfl, rfl, (by decide), _, rfl, _, _, rfl, rfl, (by decide), _, rfl, _, _, rfl, rfl, (by decide), _, rfl, ⟨_, rfl⟩, _, "|", rfl, rfl, rfl, (by decide), fun z nz => ?_⟩
    rw [show Txt.split ((("fly flies flied flying|bake bakes baked baking|call calls called calling|spy spies spied spying" : Str) ++ "|box boxes boxed boxing|try tries tried trying|move moves moved moving") ++ "|walk walks walked walking" ++ "|play plays played playing|ax axes axed axing|day days dayed daying") "|" = vrows14 by decide +kernel] at *
    have sZ := same_new (H := H) (o := .lst (vrows14.map V.str)) nz
    have hz : (upd H z (.lst (vrows14.map V.str))) z = some (.lst (vrows14.map V.str)) := upd_same
    generalize upd H z (.lst (vrows14.map V.str)) = HZ at sZ hz ⊢
    refine ⟨z, rfl, ⟨_, .inl (.inl hz)⟩, fun D nD => ?_⟩
    have nDH : H D = none := sZ.free nD
    refine lc_it (walk_list (K := K) (a := z) (xs := vrows14.map V.str)) (fun i HX => Same HZ HX ∧ ∃ vs, HX D = some (.lst vs) ∧ DqAll K HX (fun x => H x = none ∧ x ≠ D) 1 vs ((verbs14.take i).map strsD)) ⟨same_new nD, [], upd_same, .nil⟩ (fun i HX _ y => .inl (.inl (y.1 _ _ hz))) (fun i x HX HX' hi hP' hY => ?_) (fun HX hP' => ?_)
    · obtain ⟨rfl, hx⟩ := hY
      obtain ⟨sX, vs, hDX, hvs⟩ := hP'
      obtain ⟨r, hr0, rfl⟩ := map_at hx
      have hrl := vrows_len r (List.mem_of_getElem? hr0)
      have ht : verbs14[i]? = some (Txt.split r " ") := by
        rw [← vsplit, List.getElem?_map, hr0]
        rfl
      refine ⟨rfl, tYes_in ⟨_, rfl, ⟨_, rfl⟩, r, " ", rfl, rfl, rfl, Nat.le_trans (show r.length + 2 ≤ 1000 by omega) (by decide), fun p np => ?_⟩⟩
      have sP := same_new (H := HX') (o := .lst ((Txt.split r " ").map V.str)) np
      have hp : (upd HX' p (.lst ((Txt.split r " ").map V.str))) p = some (.lst ((Txt.split r " ").map V.str)) := upd_same
      generalize upd HX' p (.lst ((Txt.split r " ").map V.str)) = HP at sP hp ⊢
      have hDP := sP _ _ hDX
      have npH : H p = none := sZ.free (sX.free np)
      have npD : p ≠ D := fun e => by rw [e, hDX] at np; cases np
      have lt : i < verbs14.length := (List.getElem?_eq_some_iff.mp ht).1
      have lt2 : verbs14.length = 11 := rfl
      have vl : vs.length = i := by rw [hvs.len, List.length_map, List.length_take]; omega
      have one : Dq K HP (fun x => H x = none ∧ x ≠ D) 1 (.ref p) (strsD (Txt.split r " ")) := .lst (n := 0) hp ⟨npH, npD⟩ (by rw [List.length_map]; have := verbs14_split _ (List.mem_of_getElem? ht); omega) strs_dq
      refine ⟨vs, hDP, small_line (by omega), Same.own (sX.trans sP) nD, vs ++ [.ref p], upd_same, ?_⟩
      rw [take_get ht, List.map_append]
      exact ((hvs.same sP).app (.cons one .nil)).put hDP fun y => y.2 rfl
    · obtain ⟨sX, vs, hDX, hvs⟩ := hP'
      rw [List.length_map, show vrows14.length = verbs14.length from rfl, List.take_length] at hvs
      exact q D vs HX (sZ.trans sX) nDH hDX hvs
end
end Bn

set_option pp.maxSteps 400
namespace Bn
open PySem PySem.Spec PyProof.Rows L2 BR GX RM GY
/-! ### what a written thing lays: data, all of it new -/
def Lit (K : PySem.W.Frag) (H0 : Hp) (n : Nat) (t : TE) (d : PyData) : Prop := ∀ (σ : L2.St) (HX : Hp) (Q : VK), (∀ x, HX x = none → H0 x = none) → (∀ H' v, Same HX H' → Dq K H' (fun x => H0 x = none) n v d → Q v H') → t σ HX Q
def LitA (K : PySem.W.Frag) (H0 : Hp) (n : Nat) (t : TA) (ds : List PyData) : Prop := ∀ (σ : L2.St) (HX : Hp) (Q : List V → Hp → Prop), (∀ x, HX x = none → H0 x = none) → (∀ H' vs, Same HX H' → DqAll K H' (fun x => H0 x = none) n vs ds → Q vs H') → t σ HX Q
section
variable {K : PySem.W.Frag} {H0 : Hp} {n : Nat} {t : TE} {ta : TA} {d : PyData} {ds : List PyData}
theorem lit_str (z : Str) : Lit K H0 n (tC (.str z)) (.str z) := fun σ HX Q _ q => q _ _ (Same.refl _) (.str z)
theorem lit_int (i : Int) : Lit K H0 n (tC (.int i)) (.int i) := fun σ HX Q _ q => q _ _ (Same.refl _) (.int i)
theorem lit_bl (b : Bool) : Lit K H0 n (tC (.bl b)) (.bool b) := fun σ HX Q _ q => q _ _ (Same.refl _) (.bl b)
theorem lita_nil : LitA K H0 n tNil [] := fun σ HX Q _ q => q _ _ (Same.refl _) .nil
theorem lita_cons (h : Lit K H0 n t d) (k : LitA K H0 n ta ds) : LitA K H0 n (tCons t ta) (d :: ds) := fun σ HX Q f q => h σ HX _ f fun H1 v s1 hd => k σ H1 _ (fun x z => f x (s1.free z)) fun H2 vs s2 hds => q _ _ (s1.trans s2) (.cons (hd.same s2) hds)
theorem lit_tup (h : LitA K H0 n ta ds) (hl : ds.length ≤ 1000 := by decide) : Lit K H0 (n + 1) (tTup ta) (.tuple ds) := fun σ HX Q f q => h σ HX _ f fun H1 vs s1 hds => by
  have e := hds.len
  exact ⟨line1000 (by omega), fun p np => q _ _ (s1.trans (same_new np)) (.tup (.inl (.inl upd_same)) (by omega) (hds.same (same_new np)))⟩
theorem lit_lst (h : LitA K H0 n ta ds) (hl : ds.length ≤ 1000 := by decide) : Lit K H0 (n + 1) (tLst ta) (.list ds) := fun σ HX Q f q => h σ HX _ f fun H1 vs s1 hds => by
  have e := hds.len
  exact ⟨line1000 (by omega), fun p np => q _ _ (s1.trans (same_new np)) (.lst upd_same (f p (s1.free np)) (by omega) (hds.same (same_new np)))⟩
theorem lit_dic : Lit K H0 (n + 1) tDNewK (.dict []) := fun σ HX Q f q => fun p np => q _ _ (same_new np) (.dic upd_same (f p np) (Nat.zero_le _) List.nodup_nil .nil)
end
/-! ### lists turned about, as data -/
theorem perm_paired {α β : Type} {R : α → β → Prop} {ys xs : List α} (h : ys.Perm xs) : ∀ {ms : List β}, Paired R xs ms → ∃ ns, Paired R ys ns ∧ ns.Perm ms := by
  induction h with
  | nil => intro ms h; cases h; exact ⟨[], .nil, .refl _⟩
  | cons x _ ih =>
    intro ms h
    cases h with
    | cons h1 h2 =>
      obtain ⟨ns, k1, k2⟩ := ih h2
      exact ⟨_ :: ns, .cons h1 k1, k2.cons _⟩
  | swap x y l =>
    intro ms h
    cases h with
    | cons h1 h2 =>
      cases h2 with
      | cons h3 h4 => exact ⟨_, .cons h3 (.cons h1 h4), .swap ..⟩
  | trans _ _ ih1 ih2 =>
    intro ms h
    obtain ⟨n1, k1, k2⟩ := ih2 h
    obtain ⟨n2, k3, k4⟩ := ih1 k1
    exact ⟨n2, k3, k4.trans k2⟩
theorem cutV_drop (xs : List V) (k : Nat) : cutV xs (some (k : Int)) none = xs.drop k := by
  unfold cutV
  rw [HT.sIx_nat, HT.sIx_none]
  by_cases h : k ≤ xs.length
  · rw [Nat.min_eq_left h, List.take_of_length_le (by rw [List.length_drop]; omega)]
  · rw [Nat.min_eq_right (by omega), List.drop_eq_nil_of_le (as := xs) (i := k) (by omega), List.drop_eq_nil_of_le (Nat.le_refl _), List.take_nil]
theorem cutV_take (xs : List V) (k : Nat) : cutV xs none (some (k : Int)) = xs.take k := by
  unfold cutV
  rw [HT.sIx_nat, HT.sIx_none, List.drop_zero, Nat.sub_zero]
  by_cases h : k ≤ xs.length
  · rw [Nat.min_eq_left h]
  · rw [Nat.min_eq_right (by omega), List.take_of_length_le (Nat.le_refl _), List.take_of_length_le (by omega)]
theorem dq_paired {α : Type} {K : PySem.W.Frag} {H : Hp} {N : Addr → Prop} {n : Nat} {f : α → PyData} : ∀ {vs : List V} {l : List α}, DqAll K H N n vs (l.map f) → Paired (fun v a => Dq K H N n v (f a)) vs l
  | _, [], h => by cases h; exact .nil
  | _, a :: l, h => by
    rw [List.map_cons] at h
    cases h with
    | cons h1 h2 => exact .cons h1 (dq_paired h2)
theorem paired_dq {α : Type} {K : PySem.W.Frag} {H : Hp} {N : Addr → Prop} {n : Nat} {f : α → PyData} {vs : List V} {l : List α} (h : Paired (fun v a => Dq K H N n v (f a)) vs l) : DqAll K H N n vs (l.map f) := by
  induction h with
  | nil => exact .nil
  | cons a _ ih => exact .cons a ih
theorem dq_perm {α : Type} {K : PySem.W.Frag} {H : Hp} {N : Addr → Prop} {n : Nat} {f : α → PyData} {ys xs : List V} {l : List α} (h : ys.Perm xs) (d : DqAll K H N n xs (l.map f)) : ∃ l' : List α, l'.Perm l ∧ DqAll K H N n ys (l'.map f) := by
  obtain ⟨l', h1, h2⟩ := perm_paired h (dq_paired d)
  exact ⟨l', h2, paired_dq h1⟩
theorem DqAll.takeM {α : Type} {K : PySem.W.Frag} {H : Hp} {N : Addr → Prop} {n : Nat} {f : α → PyData} : ∀ {vs : List V} {l : List α} (k : Nat), DqAll K H N n vs (l.map f) → DqAll K H N n (vs.take k) ((l.take k).map f)
  | _, [], k, h => by cases h; rw [List.take_nil, List.take_nil]; exact .nil
  | _, a :: l, 0, h => .nil
  | _, a :: l, k + 1, h => by
    rw [List.map_cons] at h
    cases h with
    | cons h1 h2 => exact .cons h1 (DqAll.takeM k h2)
theorem DqAll.dropM {α : Type} {K : PySem.W.Frag} {H : Hp} {N : Addr → Prop} {n : Nat} {f : α → PyData} : ∀ {vs : List V} {l : List α} (k : Nat), DqAll K H N n vs (l.map f) → DqAll K H N n (vs.drop k) ((l.drop k).map f)
  | _, [], k, h => by cases h; rw [List.drop_nil, List.drop_nil]; exact .nil
  | _, a :: l, 0, h => h
  | _, a :: l, k + 1, h => by
    rw [List.map_cons] at h
    cases h with
    | cons h1 h2 => exact DqAll.dropM k h2
theorem dq_lst_inv {K : PySem.W.Frag} {H : Hp} {N : Addr → Prop} {n : Nat} {v : V} {ds : List PyData} (h : Dq K H N (n + 1) v (.list ds)) : ∃ a xs, v = .ref a ∧ H a = some (.lst xs) ∧ N a ∧ DqAll K H N n xs ds := by
  cases h with
  | lst h1 h2 _ h3 => exact ⟨_, _, rfl, h1, h2, h3⟩
/-! ### its seams -/
def sA14 : List Sm := [⟨"x", "s", "xes"⟩, ⟨"f", "s", "ves"⟩, ⟨"e", "ing", "ing"⟩, ⟨"e", "ed", "ed"⟩]
def sB14 : List Sm := [⟨"ay", "s", "ays"⟩, ⟨"ay", "e", "aye"⟩]
def sC14 : List Sm := [⟨"y", "s", "ies"⟩, ⟨"y", "ed", "ied"⟩]
def Sew14 (ms : List Sm) : Prop := ∃ (a b c : List Sm) (k : Nat), a.Perm sA14 ∧ b.Perm sB14 ∧ c.Perm sC14 ∧ ms = a.take k ++ b ++ c ++ a.drop k
section
variable {K : PySem.W.Frag} {H0 : Hp}
theorem lit_sA : Lit K H0 3 (tLst (tCons (tTup (tCons (tC (.str "x")) (tCons (tC (.str "s")) (tCons (tC (.str "xes")) tNil)))) (tCons (tTup (tCons (tC (.str "f")) (tCons (tC (.str "s")) (tCons (tC (.str "ves")) tNil)))) (tCons (tTup (tCons (tC (.str "e")) (tCons (tC (.str "ing")) (tCons (tC (.str "ing")) tNil)))) (tCons (tTup (tCons (tC (.str "e")) (tCons (tC (.str "ed")) (tCons (tC (.str "ed")) tNil)))) tNil))))) (.list (sA14.map smD)) := lit_lst (lita_cons (lit_tup (lita_cons (lit_str _) (lita_cons (lit_str _) (lita_cons (lit_str _) (lita_nil))))) (lita_cons (lit_tup (lita_cons (lit_str _) (lita_cons (lit_str _) (lita_cons (lit_str _) (lita_nil))))) (lita_cons (lit_tup (lita_cons (lit_str _) (lita_cons (lit_str _) (lita_cons (lit_str _) (lita_nil))))) (lita_cons (lit_tup (lita_cons (lit_str _) (lita_cons (lit_str _) (lita_cons (lit_str _) (lita_nil))))) (lita_nil)))))
theorem lit_sB : Lit K H0 3 (tLst (tCons (tTup (tCons (tC (.str "ay")) (tCons (tC (.str "s")) (tCons (tC (.str "ays")) tNil)))) (tCons (tTup (tCons (tC (.str "ay")) (tCons (tC (.str "e")) (tCons (tC (.str "aye")) tNil)))) tNil))) (.list (sB14.map smD)) := lit_lst (lita_cons (lit_tup (lita_cons (lit_str _) (lita_cons (lit_str _) (lita_cons (lit_str _) (lita_nil))))) (lita_cons (lit_tup (lita_cons (lit_str _) (lita_cons (lit_str _) (lita_cons (lit_str _) (lita_nil))))) (lita_nil)))
theorem lit_sC : Lit K H0 3 (tLst (tCons (tTup (tCons (tC (.str "y")) (tCons (tC (.str "s")) (tCons (tC (.str "ies")) tNil)))) (tCons (tTup (tCons (tC (.str "y")) (tCons (tC (.str "ed")) (tCons (tC (.str "ied")) tNil)))) tNil))) (.list (sC14.map smD)) := lit_lst (lita_cons (lit_tup (lita_cons (lit_str _) (lita_cons (lit_str _) (lita_cons (lit_str _) (lita_nil))))) (lita_cons (lit_tup (lita_cons (lit_str _) (lita_cons (lit_str _) (lita_cons (lit_str _) (lita_nil))))) (lita_nil)))
end
section
variable {P : Program} {w : World} {K : PySem.W.Frag} {mg : Str → Option Value} {base : Heap}
abbrev NF0 : Addr → Prop := fun _ => False
theorem Sew14.len {ms : List Sm} (h : Sew14 ms) : ms.length ≤ 12 := by
  obtain ⟨a, b, c, k, ha, hb, hc, rfl⟩ := h
  have e1 : a.length = sA14.length := ha.length_eq
  have e2 : b.length = sB14.length := hb.length_eq
  have e3 : c.length = sC14.length := hc.length_eq
  have e4 : sA14.length + sB14.length + sC14.length ≤ 12 := by decide
  simp only [List.length_append, List.length_take, List.length_drop]
  omega
def spSew (K : PySem.W.Frag) : Sp := fun vs H Q _ => ∃ (b : Addr), vs = [.ref b] ∧ Bx H b ∧ ∀ H' l xs ms, Kb b H H' → H l = none → H' l = some (.lst xs) → DqAll K H' NF0 1 xs (ms.map smD) → Sew14 ms → Q (.ref l) H'
theorem DqAll.nf {α : Type} {K : PySem.W.Frag} {H : Hp} {N : Addr → Prop} {vs : List V} {l : List Sm} {n : Nat} (h : DqAll K H N (n + 1) vs (l.map smD)) : DqAll K H NF0 1 vs (l.map smD) := by
  induction l generalizing vs with
  | nil => cases h; exact .nil
  | cons a l ih =>
    rw [List.map_cons] at h
    cases h with
    | cons h1 h2 =>
      refine .cons ?_ (ih h2)
      unfold smD at h1
      cases h1 with
      | tup g1 g2 g3 =>
        cases g3 with
        | cons a1 g3 =>
          cases a1
          cases g3 with
          | cons a1 g3 =>
            cases a1
            cases g3 with
            | cons a1 g3 =>
              cases a1
              cases g3
              exact .tup g1 g2 (.cons (.str _) (.cons (.str _) (.cons (.str _) .nil)))
theorem ok_sewing {f fT fV : Addr} {fd fdT fdV : FuncData} (F : Fun K "_law_sewing" "_law_sewing" s_l_sewing f fd)
    (kT : PySem.W.keepIn K (.ref fT) = true) (bT : Binds K fdT ["_law_box_here", "_law_many"] []) (gT : mg "_law_take" = some (.ref fT)) (GT : FnOk P w K mg base CX0 2 fT fdT ["_law_box_here", "_law_many"] spTake)
    (kV : PySem.W.keepIn K (.ref fV) = true) (bV : Binds K fdV ["_law_box_here", "_law_row"] []) (gV : mg "_law_turned" = some (.ref fV)) (GV : FnOk P w K mg base CX0 3 fV fdV ["_law_box_here", "_law_row"] spTurnV) :
    FnOk P w K mg base CX0 4 f fd ["_law_box_here"] (spSew K) := by
  refine F.ok sc_l_sewing (fun vs H Q E h => ?_) (fun cdv A outer s H vs Q E hr h => ?_)
  · obtain ⟨b, rfl, _⟩ := h
    rfl
  · obtain ⟨b, rfl, hb, q⟩ := h
    have hr2 : Room 2 _ := hr.mono (by decide)
    refine ⟨_, pss_cons (ps_set (i := 1) sc_l_sewing.nd rfl (.inl rfl) (pe_call GV hr (by rfl) gV kV bV .nil pass0 (pa_cons (pv 0) (pa_cons (pe_lst (pa_cons (pe_tup (pa_cons pe_str (pa_cons pe_str (pa_cons pe_str pa_nil)))) (pa_cons (pe_tup (pa_cons pe_str (pa_cons pe_str (pa_cons pe_str pa_nil)))) (pa_cons (pe_tup (pa_cons pe_str (pa_cons pe_str (pa_cons pe_str pa_nil)))) (pa_cons (pe_tup (pa_cons pe_str (pa_cons pe_str (pa_cons pe_str pa_nil)))) pa_nil))))) pa_nil))))
      (pss_cons (ps_set (i := 2) sc_l_sewing.nd rfl (.inl rfl) (pe_call GT hr2 (by rfl) gT kT bT .nil pass0 (pa_cons (pv 0) (pa_cons pe_int pa_nil))))
      (pss_cons (ps_set (i := 3) sc_l_sewing.nd rfl (.inl rfl) (pe_call GV hr (by rfl) gV kV bV .nil pass0 (pa_cons (pv 0) (pa_cons (pe_lst (pa_cons (pe_tup (pa_cons pe_str (pa_cons pe_str (pa_cons pe_str pa_nil)))) (pa_cons (pe_tup (pa_cons pe_str (pa_cons pe_str (pa_cons pe_str pa_nil)))) pa_nil))) pa_nil))))
      (pss_one (ps_ret (pe_op op_cat (pe_op op_cat (pe_op op_cat (pe_slice sl_list (pv 1) po_none (po_some (pv 2))) (pe_call GV hr (by rfl) gV kV bV .nil pass0 (pa_cons (pv 0) (pa_cons (pe_lst (pa_cons (pe_tup (pa_cons pe_str (pa_cons pe_str (pa_cons pe_str pa_nil)))) (pa_cons (pe_tup (pa_cons pe_str (pa_cons pe_str (pa_cons pe_str pa_nil)))) pa_nil))) pa_nil)))) (pv 3)) (pe_slice sl_list (pv 1) (po_some (pv 2)) po_none)))))), ?_⟩
    have nf : ∀ x, NF0 x → ¬ NF0 x := fun _ z _ => z
    have nfb : ¬ NF0 b := fun z => z
    refine ⟨_, rfl, lit_sA (K := K) (H0 := H) _ _ _ (fun x hx => hx) fun H1 v1 s1 d1 => ?_⟩
    obtain ⟨l1, xs1, rfl, h1, _, d1⟩ := dq_lst_inv d1
    have hb1 := hb.same s1
    refine ⟨b, l1, xs1, rfl, hb1, h1, by have := d1.len; rw [this]; decide, fun p1 ys1 H2 np1 k2 hp1 pm1 => ?_⟩
    obtain ⟨A1, pA, dA⟩ := dq_perm pm1 ((DqAll.nf (α := Sm) d1).kb hb1 k2 nfb)
    have k02 := ((Kb.refl hb).same s1).trans k2
    refine ⟨_, rfl, b, 5, rfl, k02.x, by decide, by decide, fun cut H3 hcut k3 => ?_⟩
    have k03 := k02.trans k3
    have p1b : p1 ≠ b := (hb1.ne np1).symm
    have hp1 := k3.lst hp1 p1b
    have dA := dA.kb k02.x k3 nfb
    refine ⟨_, rfl, lit_sC (K := K) (H0 := H3) _ _ _ (fun x hx => hx) fun H4 v4 s4 d4 => ?_⟩
    obtain ⟨l4, xs4, rfl, h4, _, d4⟩ := dq_lst_inv d4
    have k04 := k03.same s4
    refine ⟨b, l4, xs4, rfl, k04.x, h4, by have := d4.len; rw [this]; decide, fun p5 ys5 H5 np5 k5 hp5 pm5 => ?_⟩
    obtain ⟨C1, pC, dC⟩ := dq_perm pm5 ((DqAll.nf (α := Sm) d4).kb k04.x k5 nfb)
    have k05 := k04.trans k5
    have dA := (dA.same s4).kb k04.x k5 nfb
    have hp1 := k5.lst (s4 _ _ hp1) p1b
    have p5b : p5 ≠ b := (k04.x.ne np5).symm
    refine ⟨_, rfl, _, rfl, _, rfl, p1, _, rfl, .inl (.inl hp1), fun q1 nq1 => ?_⟩
    rw [cutV_take]
    have s6 := same_new (H := H5) (o := .lst (ys1.take cut)) nq1
    have hq1 : (upd H5 q1 (.lst (ys1.take cut))) q1 = some (.lst (ys1.take cut)) := upd_same
    have k06 := k05.same s6
    have q1b : q1 ≠ b := (k05.x.ne nq1).symm
    have hp1 := s6 _ _ hp1
    have hp5 := s6 _ _ hp5
    have dA := dA.same s6
    have dC := dC.same s6
    generalize upd H5 q1 (.lst (ys1.take cut)) = H6 at s6 hq1 k06 hp1 hp5 dA dC ⊢
    refine ⟨_, rfl, lit_sB (K := K) (H0 := H6) _ _ _ (fun x hx => hx) fun H7 v7 s7 d7 => ?_⟩
    obtain ⟨l7, xs7, rfl, h7, _, d7⟩ := dq_lst_inv d7
    have k07 := k06.same s7
    refine ⟨b, l7, xs7, rfl, k07.x, h7, by have := d7.len; rw [this]; decide, fun p8 ys8 H8 np8 k8 hp8 pm8 => ?_⟩
    obtain ⟨B1, pB, dB⟩ := dq_perm pm8 ((DqAll.nf (α := Sm) d7).kb k07.x k8 nfb)
    have k08 := k07.trans k8
    have dA := (dA.same s7).kb k07.x k8 nfb
    have dC := (dC.same s7).kb k07.x k8 nfb
    have hp1 := k8.lst (s7 _ _ hp1) p1b
    have hp5 := k8.lst (s7 _ _ hp5) p5b
    have hq1 := k8.lst (s7 _ _ hq1) q1b
    have lA : ys1.length = 4 := by rw [dA.len, List.length_map, pA.length_eq]; rfl
    have lB : ys8.length = 2 := by rw [dB.len, List.length_map, pB.length_eq]; rfl
    have lC : ys5.length = 2 := by rw [dC.len, List.length_map, pC.length_eq]; rfl
    have tl : (ys1.take cut).length ≤ 4 := by rw [List.length_take]; omega
    have dl : (ys1.drop cut).length ≤ 4 := by rw [List.length_drop]; omega
    refine ⟨q1, p8, _, _, rfl, rfl, hq1, hp8, line1000 (by omega), fun q2 nq2 => ?_⟩
    have s9 := same_new (H := H8) (o := .lst (ys1.take cut ++ ys8)) nq2
    have hq2 : (upd H8 q2 (.lst (ys1.take cut ++ ys8))) q2 = some (.lst (ys1.take cut ++ ys8)) := upd_same
    have k09 := k08.same s9
    have hp1 := s9 _ _ hp1
    have hp5 := s9 _ _ hp5
    have dA := dA.same s9
    have dB := dB.same s9
    have dC := dC.same s9
    generalize upd H8 q2 (.lst (ys1.take cut ++ ys8)) = H9 at s9 hq2 k09 hp1 hp5 dA dB dC ⊢
    refine ⟨_, rfl, q2, p5, _, _, rfl, rfl, hq2, hp5, line1000 (by rw [List.length_append]; omega), fun q3 nq3 => ?_⟩
    have s10 := same_new (H := H9) (o := .lst (ys1.take cut ++ ys8 ++ ys5)) nq3
    have hq3 : (upd H9 q3 (.lst (ys1.take cut ++ ys8 ++ ys5))) q3 = some (.lst (ys1.take cut ++ ys8 ++ ys5)) := upd_same
    have k10 := k09.same s10
    have hp1 := s10 _ _ hp1
    have dA := dA.same s10
    have dB := dB.same s10
    have dC := dC.same s10
    generalize upd H9 q3 (.lst (ys1.take cut ++ ys8 ++ ys5)) = H10 at s10 hq3 k10 hp1 dA dB dC ⊢
    refine ⟨_, rfl, _, rfl, _, rfl, p1, _, rfl, .inl (.inl hp1), fun q4 nq4 => ?_⟩
    rw [cutV_drop]
    have s11 := same_new (H := H10) (o := .lst (ys1.drop cut)) nq4
    have hq4 : (upd H10 q4 (.lst (ys1.drop cut))) q4 = some (.lst (ys1.drop cut)) := upd_same
    have k11 := k10.same s11
    have hq3 := s11 _ _ hq3
    have dA := dA.same s11
    have dB := dB.same s11
    have dC := dC.same s11
    generalize upd H10 q4 (.lst (ys1.drop cut)) = H11 at s11 hq4 k11 hq3 dA dB dC ⊢
    refine ⟨q3, q4, _, _, rfl, rfl, hq3, hq4, line1000 (by rw [List.length_append, List.length_append]; omega), fun q5 nq5 => ?_⟩
    have s12 := same_new (H := H11) (o := .lst (ys1.take cut ++ ys8 ++ ys5 ++ ys1.drop cut)) nq5
    refine q _ q5 _ (A1.take cut ++ B1 ++ C1 ++ A1.drop cut) (k11.same s12) (k11.free nq5) upd_same ?_ ⟨A1, B1, C1, cut, pA, pB, pC, rfl⟩
    rw [List.map_append, List.map_append, List.map_append]
    exact ((((DqAll.takeM cut dA).app dB).app dC).app (DqAll.dropM cut dA)).same s12
end
end Bn

set_option pp.maxSteps 400
namespace Bn
open PySem PySem.Spec PyProof.Rows L2 BR GX RM GY
section
variable {K : PySem.W.Frag} {H0 : Hp} {n : Nat}
theorem lit_dn (a : Str) : Lit K H0 (n + 1) (tDisp [(tC (.str "num"), tC (.str a))]) (.dict [(.str "num", .str a)]) := fun σ HX Q f q => fun p np => by
  refine ⟨upd_same, [(.inr "num", .str a)], rfl, (show 1 ≤ 15 by decide), q _ _ (Same.own (same_new np) np) (.dic upd_same (f p np) (show 1 ≤ 1000 by decide) (show ([.inr "num"] : List Key).Nodup by decide +kernel) (.cons (.str _) .nil))⟩
theorem lit_dnt (a b : Str) : Lit K H0 (n + 1) (tDisp [(tC (.str "num"), tC (.str a)), (tC (.str "time"), tC (.str b))]) (.dict [(.str "num", .str a), (.str "time", .str b)]) := fun σ HX Q f q => fun p np => by
  refine ⟨upd_same, [(.inr "num", .str a), (.inr "time", .str b)], rfl, (show 2 ≤ 15 by decide), q _ _ (Same.own (same_new np) np) (.dic upd_same (f p np) (show 2 ≤ 1000 by decide) (show ([.inr "num", .inr "time"] : List Key).Nodup by decide +kernel) (.cons (.str _) (.cons (.str _) .nil)))⟩
theorem lit_dtn (a b : Str) : Lit K H0 (n + 1) (tDisp [(tC (.str "time"), tC (.str a)), (tC (.str "num"), tC (.str b))]) (.dict [(.str "time", .str a), (.str "num", .str b)]) := fun σ HX Q f q => fun p np => by
  refine ⟨upd_same, [(.inr "time", .str a), (.inr "num", .str b)], rfl, (show 2 ≤ 15 by decide), q _ _ (Same.own (same_new np) np) (.dic upd_same (f p np) (show 2 ≤ 1000 by decide) (show ([.inr "time", .inr "num"] : List Key).Nodup by decide +kernel) (.cons (.str _) (.cons (.str _) .nil)))⟩
end
theorem DqAll.tightN {K : PySem.W.Frag} {H : Hp} {N : Addr → Prop} {n : Nat} {vs : List V} {ds : List PyData} (h : DqAll K H N n vs ds) : DqAll K H (fun a => N a ∧ H a ≠ none) n vs ds := h.keep (fun _ _ e => e) (fun _ _ _ e => e) (fun _ _ z e => ⟨z, by rw [e]; simp⟩)
/-! ### its endings -/
def tA14 : List En := [⟨"n", "", [("num", "one")], 0⟩, ⟨"n", "s", [("num", "many")], 1⟩, ⟨"v", "", [("num", "many"), ("time", "now")], 0⟩]
def tB14 : List En := [⟨"v", "s", [("num", "one"), ("time", "now")], 2⟩, ⟨"v", "ed", [("time", "past"), ("num", "any")], 3⟩]
def tC14 : List En := [⟨"v", "ing", [("time", "on"), ("num", "any")], 4⟩]
def tails14 : List En := tA14 ++ tB14 ++ tC14
section
variable {K : PySem.W.Frag} {H0 : Hp}
theorem lit_tA : Lit K H0 3 (tLst (tCons (tTup (tCons (tC (.str "n")) (tCons (tC (.str "")) (tCons (tDisp [(tC (.str "num"), tC (.str "one"))]) (tCons (tC (.int 0)) tNil))))) (tCons (tTup (tCons (tC (.str "n")) (tCons (tC (.str "s")) (tCons (tDisp [(tC (.str "num"), tC (.str "many"))]) (tCons (tC (.int 1)) tNil))))) (tCons (tTup (tCons (tC (.str "v")) (tCons (tC (.str "")) (tCons (tDisp [(tC (.str "num"), tC (.str "many")), (tC (.str "time"), tC (.str "now"))]) (tCons (tC (.int 0)) tNil))))) tNil)))) (.list (tA14.map enD)) := lit_lst (lita_cons (lit_tup (lita_cons (lit_str _) (lita_cons (lit_str _) (lita_cons (lit_dn _) (lita_cons (lit_int _) (lita_nil)))))) (lita_cons (lit_tup (lita_cons (lit_str _) (lita_cons (lit_str _) (lita_cons (lit_dn _) (lita_cons (lit_int _) (lita_nil)))))) (lita_cons (lit_tup (lita_cons (lit_str _) (lita_cons (lit_str _) (lita_cons (lit_dnt _ _) (lita_cons (lit_int _) (lita_nil)))))) (lita_nil))))
theorem lit_tB : Lit K H0 3 (tLst (tCons (tTup (tCons (tC (.str "v")) (tCons (tC (.str "s")) (tCons (tDisp [(tC (.str "num"), tC (.str "one")), (tC (.str "time"), tC (.str "now"))]) (tCons (tC (.int 2)) tNil))))) (tCons (tTup (tCons (tC (.str "v")) (tCons (tC (.str "ed")) (tCons (tDisp [(tC (.str "time"), tC (.str "past")), (tC (.str "num"), tC (.str "any"))]) (tCons (tC (.int 3)) tNil))))) tNil))) (.list (tB14.map enD)) := lit_lst (lita_cons (lit_tup (lita_cons (lit_str _) (lita_cons (lit_str _) (lita_cons (lit_dnt _ _) (lita_cons (lit_int _) (lita_nil)))))) (lita_cons (lit_tup (lita_cons (lit_str _) (lita_cons (lit_str _) (lita_cons (lit_dtn _ _) (lita_cons (lit_int _) (lita_nil)))))) (lita_nil)))
theorem lit_tC : Lit K H0 3 (tLst (tCons (tTup (tCons (tC (.str "v")) (tCons (tC (.str "ing")) (tCons (tDisp [(tC (.str "time"), tC (.str "on")), (tC (.str "num"), tC (.str "any"))]) (tCons (tC (.int 4)) tNil))))) tNil)) (.list (tC14.map enD)) := lit_lst (lita_cons (lit_tup (lita_cons (lit_str _) (lita_cons (lit_str _) (lita_cons (lit_dtn _ _) (lita_cons (lit_int _) (lita_nil)))))) (lita_nil))
end
theorem seq_lit {t : TE} {r : TS} {i : Nat} {D : Ends} {σ : L2.St} {H : Hp} (h : t σ H fun v H1 => r D (σ.set i (some v)) H1) : tSeq (tAsg t (gName i)) r D σ H := h
/-- two lists put together, one of them a name, the other written -/
theorem cat_lit {K : PySem.W.Frag} {i : Nat} {t : TE} {n : Nat} {H0 : Hp} {ds es : List PyData} {a : Addr} {xs : List V} {σ : L2.St} {HX : Hp} {Q : VK} (l : Lit K H0 (n + 1) t (.list es)) (hi : σ[i]? = some (some (.ref a))) (ha : HX a = some (.lst xs)) (hd : DqAll K HX (fun x => H0 x = none) n xs ds) (len : ds.length + es.length ≤ 1000) (f : ∀ x, HX x = none → H0 x = none)
    (q : ∀ H' p ys, Same HX H' → HX p = none → H' p = some (.lst (xs ++ ys)) → DqAll K H' (fun x => H0 x = none ∧ x ≠ p) n (xs ++ ys) (ds ++ es) → Q (.ref p) H') : tOp rCat (tVar i) t σ HX Q :=
  ⟨_, hi, l σ HX _ f fun H1 v s1 h1 => by
    obtain ⟨a2, ys, rfl, h2, _, h3⟩ := dq_lst_inv h1
    have e1 := hd.len
    have e2 := h3.len
    refine ⟨a, a2, xs, ys, rfl, rfl, s1 _ _ ha, h2, line1000 (by omega), fun p np => q _ p ys (s1.trans (same_new np)) (s1.free np) upd_same ?_⟩
    have g := ((hd.same s1).app h3)
    exact (g.keep (N' := fun x => H0 x = none ∧ x ≠ p) (fun _ _ z => sqT_of_same (same_new np) z) (fun _ _ _ e => same_new np _ _ e) (fun a o na e => ⟨na, fun z => by rw [z, np] at e; cases e⟩))⟩
section
variable {P : Program} {w : World} {K : PySem.W.Frag} {mg : Str → Option Value} {base : Heap}
/-- _law_tails: those endings in any order -/
def spTails (K : PySem.W.Frag) : Sp := fun vs H Q _ => ∃ (b : Addr), vs = [.ref b] ∧ Bx H b ∧ ∀ H' l xs (es : List En), Kb b H H' → H l = none → H' l = some (.lst xs) → DqAll K H' (fun x => H x = none ∧ x ≠ l) 2 xs (es.map enD) → es.Perm tails14 → Q (.ref l) H'
theorem ok_tails {f fV : Addr} {fd fdV : FuncData} (F : Fun K "_law_tails" "_law_tails" s_l_tails f fd)
    (kV : PySem.W.keepIn K (.ref fV) = true) (bV : Binds K fdV ["_law_box_here", "_law_row"] []) (gV : mg "_law_turned" = some (.ref fV)) (GV : FnOk P w K mg base CX0 3 fV fdV ["_law_box_here", "_law_row"] spTurnV) :
    FnOk P w K mg base CX0 4 f fd ["_law_box_here"] (spTails K) := by
  refine F.ok sc_l_tails (fun vs H Q E h => ?_) (fun cdv A outer s H vs Q E hr h => ?_)
  · obtain ⟨b, rfl, _⟩ := h
    rfl
  · obtain ⟨b, rfl, hb, q⟩ := h
    refine ⟨_, pss_cons (ps_set (i := 1) sc_l_tails.nd rfl (.inl rfl) (pe_lst (pa_cons (pe_tup (pa_cons pe_str (pa_cons pe_str (pa_cons (pe_disp (pps_cons pe_str pe_str pps_nil) rfl rfl (by simp) (by decide)) (pa_cons pe_int pa_nil))))) (pa_cons (pe_tup (pa_cons pe_str (pa_cons pe_str (pa_cons (pe_disp (pps_cons pe_str pe_str pps_nil) rfl rfl (by simp) (by decide)) (pa_cons pe_int pa_nil))))) (pa_cons (pe_tup (pa_cons pe_str (pa_cons pe_str (pa_cons (pe_disp (pps_cons pe_str pe_str (pps_cons pe_str pe_str pps_nil)) rfl rfl (by simp) (by decide)) (pa_cons pe_int pa_nil))))) pa_nil)))))
      (pss_cons (ps_set (i := 1) sc_l_tails.nd rfl (.inl rfl) (pe_op op_cat (pv 1) (pe_lst (pa_cons (pe_tup (pa_cons pe_str (pa_cons pe_str (pa_cons (pe_disp (pps_cons pe_str pe_str (pps_cons pe_str pe_str pps_nil)) rfl rfl (by simp) (by decide)) (pa_cons pe_int pa_nil))))) (pa_cons (pe_tup (pa_cons pe_str (pa_cons pe_str (pa_cons (pe_disp (pps_cons pe_str pe_str (pps_cons pe_str pe_str pps_nil)) rfl rfl (by simp) (by decide)) (pa_cons pe_int pa_nil))))) pa_nil)))))
      (pss_one (ps_ret (pe_call GV (hr.mono (by decide)) (by rfl) gV kV bV .nil pass0 (pa_cons (pv 0) (pa_cons (pe_op op_cat (pv 1) (pe_lst (pa_cons (pe_tup (pa_cons pe_str (pa_cons pe_str (pa_cons (pe_disp (pps_cons pe_str pe_str (pps_cons pe_str pe_str pps_nil)) rfl rfl (by simp) (by decide)) (pa_cons pe_int pa_nil))))) pa_nil))) pa_nil)))))), ?_⟩
    have nNb : ¬ (H b = none) := fun z => by
      obtain ⟨_, _, _, e⟩ := hb
      rw [z] at e
      cases e
    refine seq_lit (lit_tA (K := K) (H0 := H) _ _ _ (fun x hx => hx) fun H1 v1 s1 d1 => ?_)
    obtain ⟨l1, xs1, rfl, h1, _, d1⟩ := dq_lst_inv d1
    refine seq_lit (cat_lit (K := K) (H0 := H) lit_tB rfl h1 d1 (by decide) (fun x hx => s1.free hx) fun H2 l2 ys2 s2 n2 h2 d2 => ?_)
    have s02 := s1.trans s2
    refine ⟨_, rfl, cat_lit (K := K) (H0 := H) lit_tC rfl h2 (d2.mono fun x z => z.1) (by decide) (fun x hx => s02.free hx) fun H3 l3 ys3 s3 n3 h3 d3 => ?_⟩
    have s03 := s02.trans s3
    have em : tA14.map enD ++ tB14.map enD ++ tC14.map enD = tails14.map enD := by unfold tails14; rw [List.map_append, List.map_append]
    rw [em] at d3
    refine ⟨b, l3, _, rfl, hb.same s03, h3, by have := d3.len; rw [this]; decide, fun p ys H4 np k4 hp pm => ?_⟩
    obtain ⟨es, pe, d4⟩ := dq_perm pm d3
    have kk := ((Kb.refl hb).same s03)
    have d5 := (d4.tightN.mono (N' := fun x => H x = none ∧ x ≠ p) fun x z => ⟨z.1.1, fun e => z.2 (by rw [e]; exact np)⟩).kb (hb.same s03) k4 (fun z => nNb z.1)
    exact q H4 p ys es (kk.trans k4) (kk.free np) hp d5 pe
end
end Bn

set_option pp.maxSteps 400
namespace Bn
open PySem PySem.Spec PyProof.Rows L2 BR GX RM GY
/-! ### k14's tongues -/
def fs14 : List Ft := [⟨"num", ["one", "many", "any"], true⟩, ⟨"time", ["past", "now", "on"], false⟩]
def ks14 : List Kd := [⟨"noun", ["num"], false, false⟩, ⟨"verb", ["time", "num"], true, false⟩]
def nS (row : List Str) : Sd := ⟨row.getD 0 "", "noun", "n", row.getD 0 "", [], 5⟩
def vS (row : List Str) : Sd := ⟨row.getD 0 "", "verb", "v", "to" ++ row.getD 0 "", [], 7⟩
structure In14 (L : Lx) : Prop where
  f : L.fs.Perm fs14
  k : L.ks.Perm ks14
  m : Sew14 L.ms
  e : L.es.Perm tails14
  s : ∃ N V : List (List Str), N.Nodup ∧ V.Nodup ∧ (∀ x ∈ N, x ∈ nouns14) ∧ (∀ x ∈ V, x ∈ verbs14) ∧ 1 ≤ N.length ∧ L.ss.Perm (N.map nS ++ V.map vS)
section
variable {K : PySem.W.Frag} {H0 : Hp}
theorem lit_fe : Lit K H0 3 (tLst (tCons (tTup (tCons (tC (.str "num")) (tCons (tLst (tCons (tC (.str "one")) (tCons (tC (.str "many")) (tCons (tC (.str "any")) tNil)))) (tCons (tC (.bl true)) tNil)))) (tCons (tTup (tCons (tC (.str "time")) (tCons (tLst (tCons (tC (.str "past")) (tCons (tC (.str "now")) (tCons (tC (.str "on")) tNil)))) (tCons (tC (.bl false)) tNil)))) tNil))) (.list (fs14.map ftD)) := lit_lst (lita_cons (lit_tup (lita_cons (lit_str _) (lita_cons (lit_lst (lita_cons (lit_str _) (lita_cons (lit_str _) (lita_cons (lit_str _) (lita_nil))))) (lita_cons (lit_bl _) (lita_nil))))) (lita_cons (lit_tup (lita_cons (lit_str _) (lita_cons (lit_lst (lita_cons (lit_str _) (lita_cons (lit_str _) (lita_cons (lit_str _) (lita_nil))))) (lita_cons (lit_bl _) (lita_nil))))) (lita_nil)))
theorem lit_kd : Lit K H0 3 (tLst (tCons (tTup (tCons (tC (.str "noun")) (tCons (tLst (tCons (tC (.str "num")) tNil)) (tCons (tC (.bl false)) (tCons (tC (.bl false)) tNil))))) (tCons (tTup (tCons (tC (.str "verb")) (tCons (tLst (tCons (tC (.str "time")) (tCons (tC (.str "num")) tNil))) (tCons (tC (.bl true)) (tCons (tC (.bl false)) tNil))))) tNil))) (.list (ks14.map kdD)) := lit_lst (lita_cons (lit_tup (lita_cons (lit_str _) (lita_cons (lit_lst (lita_cons (lit_str _) (lita_nil))) (lita_cons (lit_bl _) (lita_cons (lit_bl _) (lita_nil)))))) (lita_cons (lit_tup (lita_cons (lit_str _) (lita_cons (lit_lst (lita_cons (lit_str _) (lita_cons (lit_str _) (lita_nil)))) (lita_cons (lit_bl _) (lita_cons (lit_bl _) (lita_nil)))))) (lita_nil)))
end
theorem wrow_inv {K : PySem.W.Frag} {H : Hp} {N : Addr → Prop} {n : Nat} {v : V} {row : List Str} (h : Dq K H N (n + 1) v (strsD row)) : ∃ r, N r ∧ v = .ref r ∧ H r = some (.lst (row.map V.str)) := by
  unfold strsD at h
  obtain ⟨r, xs, rfl, h1, h2, h3⟩ := dq_lst_inv h
  rw [dq_strs h3] at h1
  exact ⟨r, h2, rfl, h1⟩
theorem row_at {row : List Str} (h : row ≠ []) : atI (row.map V.str) 0 = some (.str (row.getD 0 "")) := by
  cases row with
  | nil => exact absurd rfl h
  | cons a r => exact atI_nat (j := 0) rfl
theorem nouns_ne : ∀ x ∈ nouns14, x ≠ [] := by decide +kernel
theorem verbs_ne : ∀ x ∈ verbs14, x ≠ [] := by decide +kernel
theorem verbs_len : ∀ x ∈ verbs14, (x.getD 0 "").length ≤ 20 := by decide +kernel
theorem pairs_c {k : V} {tv : TE} {r : List (TE × TE)} {σ : L2.St} {H : Hp} {Q : List (V × V) → Hp → Prop} (h : tv σ H fun y H2 => tPairs r σ H2 fun ps H3 => Q ((k, y) :: ps) H3) : tPairs ((tC k, tv) :: r) σ H Q := h
theorem dput_c {i : Nat} {z : Str} {tv : TE} {D : Ends} {σ : L2.St} {H : Hp} (h : tv σ H fun v H1 => ∃ x, σ[i]? = some (some x) ∧ ∃ a H4, x = .ref a ∧ DPut H1 a (.str z) v H4 ∧ D.nx σ H4) : sDPut (tVar i) (tC (.str z)) tv D σ H := h
section
variable {P : Program} {w : World} {K : PySem.W.Frag} {mg : Str → Option Value} {base : Heap}
abbrev NBu : List Str := ["_law_box_here", "_law_nouns_here", "_law_verbs_here", "_law_stems", "_law_features", "_law_told", "_law_row"]
def spBu (K : PySem.W.Frag) : Sp := fun vs H Q _ => ∃ (b : Addr), vs = [.ref b] ∧ Bx H b ∧ ∀ d H' L, Kb b H H' → Dq K H' (fun x => H x = none) 4 (.ref d) (lxD L) → In14 L → Q (.ref d) H'
theorem ok_built {f fT fV fN fW fE fS : Addr} {fd fdT fdV fdN fdW fdE fdS : FuncData} (F : Fun K "_law_built" "_law_built" s_l_built f fd)
    (kT : PySem.W.keepIn K (.ref fT) = true) (bT : Binds K fdT ["_law_box_here", "_law_many"] []) (gT : mg "_law_take" = some (.ref fT)) (GT : FnOk P w K mg base CX0 2 fT fdT ["_law_box_here", "_law_many"] spTake)
    (kV : PySem.W.keepIn K (.ref fV) = true) (bV : Binds K fdV ["_law_box_here", "_law_row"] []) (gV : mg "_law_turned" = some (.ref fV)) (GV : FnOk P w K mg base CX0 3 fV fdV ["_law_box_here", "_law_row"] spTurnV)
    (kN : PySem.W.keepIn K (.ref fN) = true) (bN : Binds K fdN [] []) (gN : mg "_law_nouns" = some (.ref fN)) (GN : FnOk P w K mg base CX0 1 fN fdN [] (spTab K nouns14))
    (kW : PySem.W.keepIn K (.ref fW) = true) (bW : Binds K fdW [] []) (gW : mg "_law_verbs" = some (.ref fW)) (GW : FnOk P w K mg base CX0 1 fW fdW [] (spTab K verbs14))
    (kE : PySem.W.keepIn K (.ref fE) = true) (bE : Binds K fdE ["_law_box_here"] []) (gE : mg "_law_tails" = some (.ref fE)) (GE : FnOk P w K mg base CX0 4 fE fdE ["_law_box_here"] (spTails K))
    (kS : PySem.W.keepIn K (.ref fS) = true) (bS : Binds K fdS ["_law_box_here"] []) (gS : mg "_law_sewing" = some (.ref fS)) (GS : FnOk P w K mg base CX0 4 fS fdS ["_law_box_here"] (spSew K)) :
    FnOk P w K mg base CX0 5 f fd ["_law_box_here"] (spBu K) := by
  refine F.ok sc_l_built (fun vs H Q E h => ?_) (fun cdv A outer s H vs Q E hr h => ?_)
  · obtain ⟨b, rfl, _⟩ := h
    rfl
  · obtain ⟨b, rfl, hb, q⟩ := h
    have hu := hu_of hr
    refine ⟨_, (pss_cons (ps_set (i := 1) sc_l_built.nd rfl (.inl rfl) (pe_slice sl_list (pe_call GV (hr.mono (by decide)) (by rfl) gV kV bV .nil pass0 (pa_cons (pv 0) (pa_cons (pe_call0 GN (hr.mono (by decide)) (by rfl) gN kN bN .nil pass0) pa_nil))) po_none (po_some (pe_op op_add pe_int (pe_call GT (hr.mono (by decide)) (by rfl) gT kT bT .nil pass0 (pa_cons (pv 0) (pa_cons pe_int pa_nil)))))))
      (pss_cons (ps_set (i := 2) sc_l_built.nd rfl (.inl rfl) (pe_slice sl_list (pe_call GV (hr.mono (by decide)) (by rfl) gV kV bV .nil pass0 (pa_cons (pv 0) (pa_cons (pe_call0 GW (hr.mono (by decide)) (by rfl) gW kW bW .nil pass0) pa_nil))) po_none (po_some (pe_call GT (hr.mono (by decide)) (by rfl) gT kT bT .nil pass0 (pa_cons (pv 0) (pa_cons pe_int pa_nil))))))
      (pss_cons (ps_setLc (i := 3) (own := [("_law_row", 6)]) (g := gName 6) (tt := tYes) rfl sc_l_built.nd rfl rfl (sw_true rfl rfl rfl (by decide +kernel)) (pi_list (pv 1)) (blkOk_by (own := [("_law_row", 6)]) (N := NBu) (sc := defScope s_l_built) (by decide +kernel)) (fun _ _ _ _ _ => pg_name (i := 6) sc_l_built.nd rfl (Or.inl rfl)) (fun _ _ _ _ _ => pts_nil) (fun _ _ _ _ _ => pe_tup (pa_cons (pe_ix (ix_lstK (K := K) rfl) (pv 6) pe_int (fun _ _ => rfl)) (pa_cons pe_str (pa_cons pe_str (pa_cons (pe_ix (ix_lstK (K := K) rfl) (pv 6) pe_int (fun _ _ => rfl)) (pa_cons pe_dnewK (pa_cons pe_int pa_nil))))))))
      (pss_cons (ps_set (i := 3) sc_l_built.nd rfl (.inl rfl) (pe_call GV (hr.mono (by decide)) (by rfl) gV kV bV .nil pass0 (pa_cons (pv 0) (pa_cons (pe_op op_cat (pv 3) (pe_lc (own := [("_law_row", 6)]) (g := gName 6) (tt := tYes) rfl sc_l_built.nd (pi_list (pv 2)) (blkOk_by (own := [("_law_row", 6)]) (N := NBu) (sc := defScope s_l_built) (by decide +kernel)) (fun _ _ _ _ _ => pg_name (i := 6) sc_l_built.nd rfl (Or.inl rfl)) (fun _ _ _ _ _ => pts_nil) (fun _ _ _ _ _ => pe_tup (pa_cons (pe_ix (ix_lstK (K := K) rfl) (pv 6) pe_int (fun _ _ => rfl)) (pa_cons pe_str (pa_cons pe_str (pa_cons (pe_op op_add_str pe_str (pe_ix (ix_lstK (K := K) rfl) (pv 6) pe_int (fun _ _ => rfl))) (pa_cons pe_dnewK (pa_cons pe_int pa_nil))))))))) pa_nil))))
      (pss_cons (ps_set (i := 4) sc_l_built.nd rfl (.inl rfl) (pe_lst (pa_cons (pe_tup (pa_cons pe_str (pa_cons (pe_lst (pa_cons pe_str (pa_cons pe_str (pa_cons pe_str pa_nil)))) (pa_cons pe_bl pa_nil)))) (pa_cons (pe_tup (pa_cons pe_str (pa_cons (pe_lst (pa_cons pe_str (pa_cons pe_str (pa_cons pe_str pa_nil)))) (pa_cons pe_bl pa_nil)))) pa_nil))))
      (pss_cons (ps_set (i := 5) sc_l_built.nd rfl (.inl rfl) (pe_disp (pps_cons pe_str (pe_call GV (hr.mono (by decide)) (by rfl) gV kV bV .nil pass0 (pa_cons (pv 0) (pa_cons (pv 4) pa_nil))) (pps_cons pe_str (pv 3) (pps_cons pe_str (pe_call GE (hr.mono (by decide)) (by rfl) gE kE bE .nil pass0 (pa_cons (pv 0) pa_nil)) (pps_cons pe_str (pe_lst pa_nil) pps_nil)))) rfl rfl (by simp) (by decide)))
      (pss_cons (ps_dput hu (pv 5) pe_str (pe_call GS (hr.mono (by decide)) (by rfl) gS kS bS .nil pass0 (pa_cons (pv 0) pa_nil)) rfl)
      (pss_cons (ps_dput hu (pv 5) pe_str (pe_call GV (hr.mono (by decide)) (by rfl) gV kV bV .nil pass0 (pa_cons (pv 0) (pa_cons (pe_lst (pa_cons (pe_tup (pa_cons pe_str (pa_cons (pe_lst (pa_cons pe_str pa_nil)) (pa_cons pe_bl (pa_cons pe_bl pa_nil))))) (pa_cons (pe_tup (pa_cons pe_str (pa_cons (pe_lst (pa_cons pe_str (pa_cons pe_str pa_nil))) (pa_cons pe_bl (pa_cons pe_bl pa_nil))))) pa_nil))) pa_nil))) rfl)
      (pss_cons (ps_dput hu (pv 5) pe_str pe_str rfl)
      (pss_one (ps_ret (pv 5)))))))))))), ?_⟩
    have nNb : ¬ (H b = none) := fun z => by
      obtain ⟨_, _, _, e⟩ := hb
      rw [z] at e
      cases e
    have nDb : ∀ {x : Addr}, H x = none → x ≠ b := fun n z => nNb (z ▸ n)
    -- the nouns
    refine ⟨_, rfl, rfl, fun l1 xs1 H1 s1 n1 h1 d1 => ?_⟩
    refine ⟨b, l1, xs1, rfl, hb.same s1, h1, by have := d1.len; rw [this]; decide, fun p2 ys2 H2 np2 k2 hp2 pm2 => ?_⟩
    obtain ⟨R2, pR2, d2⟩ := dq_perm (f := strsD) pm2 d1
    have d2 := (d2.mono (N' := fun x => H x = none) fun x z => z.1).kb (hb.same s1) k2 nNb
    have k02 := ((Kb.refl hb).same s1).trans k2
    have p2H : H p2 = none := s1.free np2
    refine ⟨_, rfl, b, 12, rfl, k02.x, by decide, by decide, fun c3 H3 hc3 k3 => ⟨_, _, rfl, rfl, _, rfl, p2, _, rfl, .inl (.inl (k3.lst hp2 (nDb p2H))), fun p4 np4 => ?_⟩⟩
    have d3 := d2.kb k02.x k3 nNb
    have k03 := k02.trans k3
    rw [show (1 : Int) + (c3 : Nat) = ((1 + c3 : Nat) : Int) by omega, cutV_take]
    have dN := (DqAll.takeM (1 + c3) d3).same (same_new (o := .lst (ys2.take (1 + c3))) np4)
    have k04 := k03.same (same_new (o := .lst (ys2.take (1 + c3))) np4)
    have h4 : (upd H3 p4 (.lst (ys2.take (1 + c3)))) p4 = some (.lst (ys2.take (1 + c3))) := upd_same
    have p4H : H p4 = none := k03.free np4
    have hNn : (R2.take (1 + c3)).Nodup := List.Nodup.sublist (List.take_sublist _ _) (pR2.nodup_iff.mpr (show nouns14.Nodup by decide +kernel))
    have hNm : ∀ x ∈ R2.take (1 + c3), x ∈ nouns14 := fun x hx => pR2.mem_iff.mp (List.mem_of_mem_take hx)
    have hNl : 1 ≤ (R2.take (1 + c3)).length := by
      have := pR2.length_eq
      rw [List.length_take, this]
      have : nouns14.length = 12 := rfl
      omega
    have hNu : (R2.take (1 + c3)).length ≤ 12 := by
      have := pR2.length_eq
      have e : nouns14.length = 12 := rfl
      rw [List.length_take]
      omega
    generalize upd H3 p4 (.lst (ys2.take (1 + c3))) = H4 at dN k04 h4 ⊢
    generalize R2.take (1 + c3) = N at dN hNn hNm hNl hNu
    generalize ys2.take (1 + c3) = nv at dN h4 ⊢
    clear d2 d3 d1
    -- the verbs
    refine ⟨_, rfl, rfl, fun l1 xs1 H5 s5 n5 h5 d5 => ?_⟩
    refine ⟨b, l1, xs1, rfl, k04.x.same s5, h5, by have := d5.len; rw [this]; decide, fun p6 ys6 H6 np6 k6 hp6 pm6 => ?_⟩
    obtain ⟨R6, pR6, d6⟩ := dq_perm (f := strsD) pm6 d5
    have k05 := k04.same s5
    have d6 := (d6.mono (N' := fun x => H x = none) fun x z => k04.free z.1).kb k05.x k6 nNb
    have k06 := k05.trans k6
    have p6H : H p6 = none := k05.free np6
    have dN := (dN.same s5).kb k05.x k6 nNb
    have h4 := k6.lst (s5 _ _ h4) (nDb p4H)
    refine ⟨_, rfl, b, 12, rfl, k06.x, by decide, by decide, fun c7 H7 hc7 k7 => ⟨_, rfl, p6, _, rfl, .inl (.inl (k7.lst hp6 (nDb p6H))), fun p8 np8 => ?_⟩⟩
    have d7 := d6.kb k06.x k7 nNb
    have dN := dN.kb k06.x k7 nNb
    have h4 := k7.lst h4 (nDb p4H)
    have k07 := k06.trans k7
    rw [cutV_take]
    have dV := (DqAll.takeM c7 d7).same (same_new (o := .lst (ys6.take c7)) np8)
    have dN := dN.same (same_new (o := .lst (ys6.take c7)) np8)
    have h4 := (same_new (o := .lst (ys6.take c7)) np8) _ _ h4
    have k08 := k07.same (same_new (o := .lst (ys6.take c7)) np8)
    have h8 : (upd H7 p8 (.lst (ys6.take c7))) p8 = some (.lst (ys6.take c7)) := upd_same
    have p8H : H p8 = none := k07.free np8
    have hVn : (R6.take c7).Nodup := List.Nodup.sublist (List.take_sublist _ _) (pR6.nodup_iff.mpr (show verbs14.Nodup by decide +kernel))
    have hVm : ∀ x ∈ R6.take c7, x ∈ verbs14 := fun x hx => pR6.mem_iff.mp (List.mem_of_mem_take hx)
    have hVu : (R6.take c7).length ≤ 11 := by
      have := pR6.length_eq
      have e : verbs14.length = 11 := rfl
      rw [List.length_take]
      omega
    generalize upd H7 p8 (.lst (ys6.take c7)) = H8 at dN dV k08 h4 h8 ⊢
    generalize R6.take c7 = W at dV hVn hVm hVu
    generalize ys6.take c7 = vv at dV h8 ⊢
    clear d6 d7 d5
    have nvl : nv.length = N.length := by rw [dN.len, List.length_map]
    have vvl : vv.length = W.length := by rw [dV.len, List.length_map]
    -- the stems of the nouns
    refine ⟨_, rfl, p4, rfl, ⟨_, .inl (.inl h4)⟩, fun D9 nD9 => ?_⟩
    have D9H : H D9 = none := k08.free nD9
    refine lc_it (walk_list (K := K) (a := p4) (xs := nv)) (fun i HX => Same H8 HX ∧ ∃ vs, HX D9 = some (.lst vs) ∧ DqAll K HX (fun x => H x = none ∧ x ≠ D9) 2 vs (((N.take i).map nS).map sdD)) ⟨same_new nD9, [], upd_same, .nil⟩ (fun i HX _ z => .inl (.inl (z.1 _ _ h4))) (fun i x HX HX' hi hP' hY => ?_) (fun H9 hP' => ?_)
    · obtain ⟨rfl, hx⟩ := hY
      obtain ⟨sX, vs, hDX, hvs⟩ := hP'
      obtain ⟨d, ed, hd⟩ := dN.at hx
      obtain ⟨row, er, rfl⟩ := map_at ed
      obtain ⟨r, hr0, rfl, hrl⟩ := wrow_inv hd
      have hat := row_at (by rcases List.mem_of_getElem? er with z; exact nouns_ne row (hNm row z))
      refine ⟨rfl, tYes_in ⟨_, rfl, r, _, _, .str (row.getD 0 ""), rfl, rfl, .inl (.inl (sX _ _ hrl)), hat, _, rfl, r, _, _, .str (row.getD 0 ""), rfl, rfl, .inl (.inl (sX _ _ hrl)), hat, fun dm ndm => ⟨(show 6 ≤ sizeLine by decide), fun t nt => ?_⟩⟩⟩
      have u1 := same_new (H := HX') (o := .dK []) ndm
      have hdm : (upd HX' dm (.dK [])) dm = some (.dK []) := upd_same
      have dmH : H dm = none := k08.free (sX.free ndm)
      have dm9 : dm ≠ D9 := fun e => by rw [e, hDX] at ndm; cases ndm
      generalize upd HX' dm (.dK []) = HA at u1 hdm nt ⊢
      have u2 := same_new (H := HA) (o := .tup [.str (row.getD 0 ""), .str "noun", .str "n", .str (row.getD 0 ""), .ref dm, .int 5]) nt
      have ht : SqT K (upd HA t (.tup [.str (row.getD 0 ""), .str "noun", .str "n", .str (row.getD 0 ""), .ref dm, .int 5])) t [.str (row.getD 0 ""), .str "noun", .str "n", .str (row.getD 0 ""), .ref dm, .int 5] := .inl (.inl upd_same)
      generalize upd HA t (.tup [.str (row.getD 0 ""), .str "noun", .str "n", .str (row.getD 0 ""), .ref dm, .int 5]) = HB at u2 ht ⊢
      have hDB := (u1.trans u2) _ _ hDX
      have vl : vs.length = i := by
        rw [hvs.len, List.length_map, List.length_map, List.length_take]
        have := (List.getElem?_eq_some_iff.mp er).1
        omega
      refine ⟨vs, hDB, small_line (by omega), Same.own (sX.trans (u1.trans u2)) nD9, vs ++ [.ref t], upd_same, ?_⟩
      have one : Dq K HB (fun x => H x = none ∧ x ≠ D9) 2 (.ref t) (sdD (nS row)) := .tup ht (show 6 ≤ 1000 by decide) (.cons (.str _) (.cons (.str _) (.cons (.str _) (.cons (.str _) (.cons (.dic (n := 0) (u2 _ _ hdm) ⟨dmH, dm9⟩ (Nat.zero_le _) List.nodup_nil .nil) (.cons (.int _) .nil))))))
      rw [take_get er, List.map_append, List.map_append]
      exact ((hvs.same (u1.trans u2)).app (.cons one .nil)).put hDB fun z => z.2 rfl
    obtain ⟨s9, nsv, hD9, dS⟩ := hP'
    rw [nvl, List.take_length] at dS
    have k09 := k08.same s9
    have dV := dV.same s9
    have h8 := s9 _ _ h8
    have nsl : nsv.length = N.length := by rw [dS.len, List.length_map, List.length_map]
    refine ⟨_, rfl, _, rfl, _, rfl, p8, rfl, ⟨_, .inl (.inl h8)⟩, fun D10 nD10 => ?_⟩
    have D10H : H D10 = none := k09.free nD10
    refine lc_it (walk_list (K := K) (a := p8) (xs := vv)) (fun i HX => Same H9 HX ∧ ∃ vs, HX D10 = some (.lst vs) ∧ DqAll K HX (fun x => H x = none ∧ x ≠ D10) 2 vs (((W.take i).map vS).map sdD)) ⟨same_new nD10, [], upd_same, .nil⟩ (fun i HX _ z => .inl (.inl (z.1 _ _ h8))) (fun i x HX HX' hi hP' hY => ?_) (fun H10 hP' => ?_)
    · obtain ⟨rfl, hx⟩ := hY
      obtain ⟨sX, vs, hDX, hvs⟩ := hP'
      obtain ⟨d, ed, hd⟩ := dV.at hx
      obtain ⟨row, er, rfl⟩ := map_at ed
      obtain ⟨r, hr0, rfl, hrl⟩ := wrow_inv hd
      have hat := row_at (by rcases List.mem_of_getElem? er with z; exact verbs_ne row (hVm row z))
      have rowlen : ("to" : Str).length + (row.getD 0 "").length ≤ sizeLine := by
        have := verbs_len row (hVm row (List.mem_of_getElem? er))
        exact Nat.le_trans (show ("to" : Str).length + (row.getD 0 "").length ≤ 1000 by have e : ("to" : Str).length = 2 := rfl; omega) (by decide)
      refine ⟨rfl, tYes_in ⟨_, rfl, r, _, _, .str (row.getD 0 ""), rfl, rfl, .inl (.inl (sX _ _ hrl)), hat, _, rfl, r, _, _, .str (row.getD 0 ""), rfl, rfl, .inl (.inl (sX _ _ hrl)), hat, _, _, rfl, rfl, rowlen, fun dm ndm => ⟨(show 6 ≤ sizeLine by decide), fun t nt => ?_⟩⟩⟩
      have u1 := same_new (H := HX') (o := .dK []) ndm
      have hdm : (upd HX' dm (.dK [])) dm = some (.dK []) := upd_same
      have dmH : H dm = none := k09.free (sX.free ndm)
      have dm10 : dm ≠ D10 := fun e => by rw [e, hDX] at ndm; cases ndm
      generalize upd HX' dm (.dK []) = HA at u1 hdm nt ⊢
      have u2 := same_new (H := HA) (o := .tup [.str (row.getD 0 ""), .str "verb", .str "v", .str ("to" ++ row.getD 0 ""), .ref dm, .int 7]) nt
      have ht : SqT K (upd HA t (.tup [.str (row.getD 0 ""), .str "verb", .str "v", .str ("to" ++ row.getD 0 ""), .ref dm, .int 7])) t [.str (row.getD 0 ""), .str "verb", .str "v", .str ("to" ++ row.getD 0 ""), .ref dm, .int 7] := .inl (.inl upd_same)
      generalize upd HA t (.tup [.str (row.getD 0 ""), .str "verb", .str "v", .str ("to" ++ row.getD 0 ""), .ref dm, .int 7]) = HB at u2 ht ⊢
      have hDB := (u1.trans u2) _ _ hDX
      have vl : vs.length = i := by
        rw [hvs.len, List.length_map, List.length_map, List.length_take]
        have := (List.getElem?_eq_some_iff.mp er).1
        omega
      refine ⟨vs, hDB, small_line (by omega), Same.own (sX.trans (u1.trans u2)) nD10, vs ++ [.ref t], upd_same, ?_⟩
      have one : Dq K HB (fun x => H x = none ∧ x ≠ D10) 2 (.ref t) (sdD (vS row)) := .tup ht (show 6 ≤ 1000 by decide) (.cons (.str _) (.cons (.str _) (.cons (.str _) (.cons (.str _) (.cons (.dic (n := 0) (u2 _ _ hdm) ⟨dmH, dm10⟩ (Nat.zero_le _) List.nodup_nil .nil) (.cons (.int _) .nil))))))
      rw [take_get er, List.map_append, List.map_append]
      exact ((hvs.same (u1.trans u2)).app (.cons one .nil)).put hDB fun z => z.2 rfl
    obtain ⟨s10, vsv, hD10, dT⟩ := hP'
    rw [vvl, List.take_length] at dT
    have k10 := k09.same s10
    have vsl : vsv.length = W.length := by rw [dT.len, List.length_map, List.length_map]
    have hD9 := s10 _ _ hD9
    have dS := dS.same s10
    refine ⟨D9, D10, nsv, vsv, rfl, rfl, hD9, hD10, line1000 (by omega), fun p11 np11 => ?_⟩
    have dST := (((dS.mono (N' := fun x => H x = none) fun x z => z.1).app (dT.mono (N' := fun x => H x = none) fun x z => z.1)).same (same_new (o := .lst (nsv ++ vsv)) np11))
    rw [← List.map_append] at dST
    have k11 := k10.same (same_new (o := .lst (nsv ++ vsv)) np11)
    have h11 : (upd H10 p11 (.lst (nsv ++ vsv))) p11 = some (.lst (nsv ++ vsv)) := upd_same
    have p11H : H p11 = none := k10.free np11
    generalize upd H10 p11 (.lst (nsv ++ vsv)) = H11 at dST k11 h11 ⊢
    have dST := dST.tightN
    refine ⟨b, p11, _, rfl, k11.x, h11, by rw [List.length_append]; omega, fun p12 ys12 H12 np12 k12 hp12 pm12 => ?_⟩
    obtain ⟨SS, pSS, d12⟩ := dq_perm (f := sdD) pm12 dST
    have d12 := (d12.mono (N' := fun x => H x = none) fun x z => z.1).kb k11.x k12 nNb
    have k12' := k11.trans k12
    have p12H : H p12 = none := k11.free np12
    have ssl : SS.length ≤ 23 := by rw [pSS.length_eq, List.length_append, List.length_map, List.length_map]; omega
    have dSS : Dq K H12 (fun x => H x = none) 3 (.ref p12) (.list (SS.map sdD)) := .lst hp12 p12H (by have := d12.len; rw [this, List.length_map]; omega) d12
    clear dST dS dT dN dV d12 h11 hD9 hD10 h8 h4
    -- the features
    refine seq_lit (lit_fe (K := K) (H0 := H) _ _ _ (fun x hx => k12'.free hx) fun H13 v13 s13 d13 => ?_)
    obtain ⟨l13, xs13, rfl, h13, n13, d13⟩ := dq_lst_inv d13
    have n13' : H13 l13 ≠ none := by rw [h13]; simp
    have k13 := k12'.same s13
    have dSS := dSS.same s13
    intro p np
    have npH : H p = none := k13.free np
    have npb : p ≠ b := nDb npH
    have u1 := same_new (H := H13) (o := .dK []) np
    have k14 := k13.same u1
    have hp1 : (upd H13 p (.dK [])) p = some (.dK []) := upd_same
    have nNp : ¬ ((upd H p (.dK [])) p = none) := fun z => by rw [upd_same] at z; cases z
    have nNb' : ¬ ((upd H p (.dK [])) b = none) := fun z => by rw [upd_ne (fun e => npb e.symm)] at z; exact nNb z
    have toN : ∀ {x : Addr}, H x = none ∧ H13 x ≠ none → (upd H p (.dK [])) x = none := fun {x} z => by
      rw [upd_ne (fun e => z.2 (by rw [e]; exact np))]
      exact z.1
    have fr : ∀ {HX : Hp}, Kb b H HX → HX p ≠ none → ∀ x, HX x = none → (upd H p (.dK [])) x = none := fun k e x hx => by
      rw [upd_ne (fun z => e (by rw [← z]; exact hx))]
      exact k.free hx
    have d13 := (d13.tightN.same u1).mono fun x z => toN z
    have hA : DqAll K (upd H13 p (.dK [])) (fun x => (upd H p (.dK [])) x = none) 3 [.ref p12] [.list (SS.map sdD)] := .cons ((dSS.tight.same u1).mono fun x z => toN z) .nil
    have h13 := u1 _ _ h13
    have np13 : p ≠ l13 := fun e => by rw [← e] at n13'; exact n13' np
    generalize upd H13 p (.dK []) = H14 at u1 k14 hp1 hA d13 h13 ⊢
    clear dSS
    refine pairs_c ⟨_, rfl, _, rfl, b, l13, xs13, rfl, k14.x, h13, by have := d13.len; rw [this]; decide, fun p15 ys15 H15 np15 k15 hp15 pm15 => ?_⟩
    obtain ⟨FS, pFS, d15⟩ := dq_perm (f := ftD) pm15 d13
    have d15 := d15.kb k14.x k15 nNb'
    have p15N := fr k14 (by rw [hp1]; simp) p15 np15
    have hF : Dq K H15 (fun x => (upd H p (.dK [])) x = none) 3 (.ref p15) (.list (FS.map ftD)) := .lst hp15 p15N (by have := d15.len; rw [this, List.length_map, pFS.length_eq]; decide) d15
    have hp2 := k15.k _ _ npb hp1
    have hB := (DqAll.cons hF .nil).app (hA.kb k14.x k15 nNb')
    have k15 := k14.trans k15
    refine pairs_c ⟨_, rfl, ?_⟩
    refine pairs_c ⟨_, rfl, b, rfl, k15.x, fun H16 l16 xs16 ES k16 n16 hl16 d16 pES => ?_⟩
    have l16N := fr k15 (by rw [hp2]; simp) l16 n16
    have d16 := d16.mono (N' := fun x => (upd H p (.dK [])) x = none) fun x z => fr k15 (by rw [hp2]; simp) x z.1
    have hE : Dq K H16 (fun x => (upd H p (.dK [])) x = none) 3 (.ref l16) (.list (ES.map enD)) := .lst hl16 l16N (by have := d16.len; rw [this, List.length_map, pES.length_eq]; decide) d16
    have hp3 := k16.k _ _ npb hp2
    have hB := (hB.kb k15.x k16 nNb').app (.cons hE .nil)
    have k16 := k15.trans k16
    refine pairs_c (lit_lst (H0 := upd H p (.dK [])) (K := K) (n := 2) lita_nil (by decide) _ _ _ (fr k16 (by rw [hp3]; simp)) fun H17 v17 s17 d17 => ?_)
    have k17 := k16.same s17
    have hp4 := s17 _ _ hp3
    have hB := (hB.same s17).app (.cons d17 .nil)
    refine ⟨hp4, [(.inr "features", .ref p15), (.inr "stems", .ref p12), (.inr "endings", .ref l16), (.inr "rules", v17)], rfl, (show 4 ≤ 15 by decide), ?_⟩
    have hp5 : (upd H17 p (.dK (mergeK [] [(.inr "features", .ref p15), (.inr "stems", .ref p12), (.inr "endings", .ref l16), (.inr "rules", v17)]))) p = some (.dK [(.inr "features", .ref p15), (.inr "stems", .ref p12), (.inr "endings", .ref l16), (.inr "rules", v17)]) := upd_same
    have k18 := k17.own (o := .dK (mergeK [] [(.inr "features", .ref p15), (.inr "stems", .ref p12), (.inr "endings", .ref l16), (.inr "rules", v17)])) npH npb
    have hB := hB.putD (o := .dK (mergeK [] [(.inr "features", .ref p15), (.inr "stems", .ref p12), (.inr "endings", .ref l16), (.inr "rules", v17)])) hp4 nNp
    generalize upd H17 p (.dK (mergeK [] [(.inr "features", .ref p15), (.inr "stems", .ref p12), (.inr "endings", .ref l16), (.inr "rules", v17)])) = H18 at hp5 k18 hB ⊢
    clear hp1 hp2 hp3 hp4 hA hF hE d13 d15 d16 h13 hp15 hl16 d17 hp12
    refine ⟨_, rfl, b, rfl, k18.x, fun H19 l19 xs19 ms k19 n19 hl19 d19 hms => ⟨_, rfl, p, _, rfl, DPut.k (k := .inr "seams") (k19.k _ _ npb hp5) (small_line (show 4 < 1000 by decide)), ?_⟩⟩
    have l19N := fr k18 (by rw [hp5]; simp) l19 n19
    have hM : Dq K H19 (fun x => (upd H p (.dK [])) x = none) 3 (.ref l19) (.list (ms.map smD)) := .lst hl19 l19N (by have := d19.len; rw [this, List.length_map]; exact Nat.le_trans hms.len (by decide)) ((d19.mono (N' := fun x => (upd H p (.dK [])) x = none) fun x z => z.elim).up (show 1 ≤ 2 by decide))
    have hp6 := k19.k _ _ npb hp5
    have hB := (hB.kb k18.x k19 nNb').app (.cons hM .nil)
    have k19 := k18.trans k19
    have hp7 : (upd H19 p (.dK (putK [(.inr "features", .ref p15), (.inr "stems", .ref p12), (.inr "endings", .ref l16), (.inr "rules", v17)] (.inr "seams") (.ref l19)))) p = some (.dK [(.inr "features", .ref p15), (.inr "stems", .ref p12), (.inr "endings", .ref l16), (.inr "rules", v17), (.inr "seams", .ref l19)]) := upd_same
    have k20 := k19.own (o := (.dK (putK [(.inr "features", .ref p15), (.inr "stems", .ref p12), (.inr "endings", .ref l16), (.inr "rules", v17)] (.inr "seams") (.ref l19)))) npH npb
    have hB := hB.putD (o := (.dK (putK [(.inr "features", .ref p15), (.inr "stems", .ref p12), (.inr "endings", .ref l16), (.inr "rules", v17)] (.inr "seams") (.ref l19)))) hp6 nNp
    generalize upd H19 p (.dK (putK [(.inr "features", .ref p15), (.inr "stems", .ref p12), (.inr "endings", .ref l16), (.inr "rules", v17)] (.inr "seams") (.ref l19))) = H20 at hp7 k20 hB ⊢
    clear hp5 hp6 hM d19 hl19
    refine ⟨_, rfl, lit_kd (K := K) (H0 := upd H p (.dK [])) _ _ _ (fr k20 (by rw [hp7]; simp)) fun H21 v21 s21 d21 => ?_⟩
    obtain ⟨l21, xs21, rfl, h21, n21, d21⟩ := dq_lst_inv d21
    have k21 := k20.same s21
    have hp8 := s21 _ _ hp7
    have hB := hB.same s21
    refine ⟨b, l21, xs21, rfl, k21.x, h21, by have := d21.len; rw [this]; decide, fun p22 ys22 H22 np22 k22 hp22 pm22 => ⟨_, rfl, p, _, rfl, DPut.k (k := .inr "kinds") (k22.k _ _ npb hp8) (small_line (show 5 < 1000 by decide)), ?_⟩⟩
    obtain ⟨KS, pKS, d22⟩ := dq_perm (f := kdD) pm22 d21
    have d22 := d22.kb k21.x k22 nNb'
    have p22N := fr k21 (by rw [hp8]; simp) p22 np22
    have hK : Dq K H22 (fun x => (upd H p (.dK [])) x = none) 3 (.ref p22) (.list (KS.map kdD)) := .lst hp22 p22N (by have := d22.len; rw [this, List.length_map, pKS.length_eq]; decide) d22
    have hp9 := k22.k _ _ npb hp8
    have hB := (hB.kb k21.x k22 nNb').app (.cons hK .nil)
    have k22 := k21.trans k22
    have hp10 : (upd H22 p (.dK (putK [(.inr "features", .ref p15), (.inr "stems", .ref p12), (.inr "endings", .ref l16), (.inr "rules", v17), (.inr "seams", .ref l19)] (.inr "kinds") (.ref p22)))) p = some (.dK [(.inr "features", .ref p15), (.inr "stems", .ref p12), (.inr "endings", .ref l16), (.inr "rules", v17), (.inr "seams", .ref l19), (.inr "kinds", .ref p22)]) := upd_same
    have k23 := k22.own (o := (.dK (putK [(.inr "features", .ref p15), (.inr "stems", .ref p12), (.inr "endings", .ref l16), (.inr "rules", v17), (.inr "seams", .ref l19)] (.inr "kinds") (.ref p22)))) npH npb
    have hB := hB.putD (o := (.dK (putK [(.inr "features", .ref p15), (.inr "stems", .ref p12), (.inr "endings", .ref l16), (.inr "rules", v17), (.inr "seams", .ref l19)] (.inr "kinds") (.ref p22)))) hp9 nNp
    generalize upd H22 p (.dK (putK [(.inr "features", .ref p15), (.inr "stems", .ref p12), (.inr "endings", .ref l16), (.inr "rules", v17), (.inr "seams", .ref l19)] (.inr "kinds") (.ref p22))) = H23 at hp10 k23 hB ⊢
    clear hp7 hp8 hp9 hK d22 d21 h21 hp22
    refine ⟨_, rfl, p, _, rfl, DPut.k (k := .inr "start") hp10 (small_line (show 6 < 1000 by decide)), ?_⟩
    have hp11 : (upd H23 p (.dK (putK [(.inr "features", .ref p15), (.inr "stems", .ref p12), (.inr "endings", .ref l16), (.inr "rules", v17), (.inr "seams", .ref l19), (.inr "kinds", .ref p22)] (.inr "start") (.str "verb")))) p = some (.dK [(.inr "features", .ref p15), (.inr "stems", .ref p12), (.inr "endings", .ref l16), (.inr "rules", v17), (.inr "seams", .ref l19), (.inr "kinds", .ref p22), (.inr "start", .str "verb")]) := upd_same
    have k24 := k23.own (o := (.dK (putK [(.inr "features", .ref p15), (.inr "stems", .ref p12), (.inr "endings", .ref l16), (.inr "rules", v17), (.inr "seams", .ref l19), (.inr "kinds", .ref p22)] (.inr "start") (.str "verb")))) npH npb
    have hB := hB.putD (o := (.dK (putK [(.inr "features", .ref p15), (.inr "stems", .ref p12), (.inr "endings", .ref l16), (.inr "rules", v17), (.inr "seams", .ref l19), (.inr "kinds", .ref p22)] (.inr "start") (.str "verb")))) hp10 nNp
    generalize upd H23 p (.dK (putK [(.inr "features", .ref p15), (.inr "stems", .ref p12), (.inr "endings", .ref l16), (.inr "rules", v17), (.inr "seams", .ref l19), (.inr "kinds", .ref p22)] (.inr "start") (.str "verb"))) = H24 at hp11 k24 hB ⊢
    have hB := hB.mono (N' := fun x => H x = none ∧ x ≠ p) fun x z => by
      have ne : x ≠ p := fun e => nNp (by rw [e] at z; exact z)
      rw [upd_ne ne] at z
      exact ⟨z, ne⟩
    have hB' : DqAll K H24 (fun x => H x = none ∧ x ≠ p) 3 [.ref p15, .ref p12, .ref l16, v17, .ref l19, .ref p22] [.list (FS.map ftD), .list (SS.map sdD), .list (ES.map enD), .list [], .list (ms.map smD), .list (KS.map kdD)] := hB
    refine ⟨_, rfl, q p H24 ⟨FS, KS, ms, SS, ES⟩ k24 ?_ ⟨pFS, pKS, hms, pES, N, W, hNn, hVn, hNm, hVm, hNl, pSS⟩⟩
    cases hB' with
    | cons g1 hB =>
      cases hB with
      | cons g2 hB =>
        cases hB with
        | cons g3 hB =>
          cases hB with
          | cons g4 hB =>
            cases hB with
            | cons g5 hB =>
              cases hB with
              | cons g6 hB =>
                exact .dic hp11 npH (show 7 ≤ 1000 by decide) (show ([.inr "features", .inr "stems", .inr "endings", .inr "rules", .inr "seams", .inr "kinds", .inr "start"] : List Key).Nodup by decide +kernel) (.cons g1 (.cons g2 (.cons g3 (.cons g4 (.cons g5 (.cons g6 (.cons (.str _) .nil)))))))
end
end Bn

namespace Bn
open PySem PySem.Spec PyProof.Rows L2 BR GX RM GY
/-! ### texts of k14's words, whatever the order of the seams -/
section
variable {ms l1 l2 : List Sm} {st en t : Str}
theorem sewn_uni : ∀ {ms : List Sm}, (∀ s ∈ ms, hitsM st en s = true → cutM st en s = t) → ((∃ s ∈ ms, hitsM st en s = true) ∨ st ++ en = t) → sewnM ms st en = t
  | [], _, h => by
    rcases h with ⟨s, hs, _⟩ | h
    · cases hs
    · exact h
  | s :: r, a, h => by
    cases c : hitsM st en s with
    | true =>
      rw [sewnM_hit c]
      exact a s (List.mem_cons_self ..) c
    | false =>
      rw [sewnM_miss c]
      refine sewn_uni (fun x hx => a x (List.mem_cons_of_mem _ hx)) (h.imp (fun ⟨x, hx, e⟩ => ?_) id)
      rcases List.mem_cons.mp hx with z | hx
      · rw [z, c] at e
        cases e
      · exact ⟨x, hx, e⟩
theorem sewn_app : ∀ {l1 : List Sm}, (∃ s ∈ l1, hitsM st en s = true) → sewnM (l1 ++ l2) st en = sewnM l1 st en
  | [], h => by
    obtain ⟨s, hs, _⟩ := h
    cases hs
  | s :: r, h => by
    rw [List.cons_append]
    cases c : hitsM st en s with
    | true => rw [sewnM_hit c, sewnM_hit c]
    | false =>
      rw [sewnM_miss c, sewnM_miss c]
      obtain ⟨x, hx, e⟩ := h
      refine sewn_app ?_
      rcases List.mem_cons.mp hx with z | hx
      · rw [z, c] at e
        cases e
      · exact ⟨x, hx, e⟩
end
def chk14 (st en t : Str) : Bool := ((sA14.all fun s => !hitsM st en s) && (sB14.any fun s => hitsM st en s) && (sB14.all fun s => !hitsM st en s || decide (cutM st en s = t))) ||
  (((sA14 ++ sB14 ++ sC14).all fun s => !hitsM st en s || decide (cutM st en s = t)) && (((sA14 ++ sB14 ++ sC14).any fun s => hitsM st en s) || decide (st ++ en = t)))
theorem sew14 {ms : List Sm} {st en t : Str} (h : Sew14 ms) (c : chk14 st en t = true) : sewnM ms st en = t := by
  obtain ⟨a, b, cc, k, ha, hb, hc, rfl⟩ := h
  unfold chk14 at c
  rw [Bool.or_eq_true] at c
  rcases c with c | c
  · rw [Bool.and_eq_true, Bool.and_eq_true, List.all_eq_true, List.any_eq_true, List.all_eq_true] at c
    obtain ⟨⟨c1, x, hx, c2⟩, c3⟩ := c
    have e : a.take k ++ b ++ cc ++ a.drop k = (a.take k ++ b) ++ (cc ++ a.drop k) := by simp
    have hxb : x ∈ a.take k ++ b := List.mem_append_right _ (hb.mem_iff.mpr hx)
    rw [e, sewn_app ⟨x, hxb, c2⟩]
    refine sewn_uni (fun s hs hh => ?_) (.inl ⟨x, hxb, c2⟩)
    rcases List.mem_append.mp hs with hs | hs
    · have := c1 s (ha.mem_iff.mp (List.mem_of_mem_take hs))
      rw [hh] at this
      cases this
    · have := c3 s (hb.mem_iff.mp hs)
      rw [hh] at this
      exact of_decide_eq_true this
  · rw [Bool.and_eq_true, Bool.or_eq_true, List.all_eq_true, List.any_eq_true] at c
    obtain ⟨c1, c2⟩ := c
    refine sewn_uni (fun s hs hh => ?_) (c2.imp (fun ⟨x, hx, e⟩ => ⟨x, ?_, e⟩) of_decide_eq_true)
    · have hs' : s ∈ sA14 ++ sB14 ++ sC14 := by
        simp only [List.mem_append] at hs ⊢
        rcases hs with ((hs | hs) | hs) | hs
        · exact .inl (.inl (ha.mem_iff.mp (List.mem_of_mem_take hs)))
        · exact .inl (.inr (hb.mem_iff.mp hs))
        · exact .inr (hc.mem_iff.mp hs)
        · exact .inl (.inl (ha.mem_iff.mp (List.mem_of_mem_drop hs)))
      have := c1 s hs'
      rw [hh] at this
      exact of_decide_eq_true this
    · simp only [List.mem_append] at hx ⊢
      rcases hx with (hx | hx) | hx
      · have := ha.mem_iff.mpr hx
        rw [← List.take_append_drop k a, List.mem_append] at this
        rcases this with h | h
        · exact .inl (.inl (.inl h))
        · exact .inr h
      · exact .inl (.inl (.inr (hb.mem_iff.mpr hx)))
      · exact .inl (.inr (hc.mem_iff.mpr hx))
/-! the table of the words -/
def ix14 (x : Str) : Nat := (["", "s", "ed", "ing"] : List Str).idxOf x
def tab14 (s : Sd) : List (List Str) := if s.k = "verb" then verbs14 else nouns14
def wr14 (s : Sd) (e : En) : Str := (((tab14 s).filter fun r => decide (r.getD 0 "" = s.x)).getD 0 []).getD (ix14 e.x) ""
theorem wr_nouns : ∀ r ∈ nouns14, ∀ e ∈ tails14, e.l = "n" → chk14 (r.getD 0 "") e.x (wr14 (nS r) e) = true ∧ wr14 (nS r) e ≠ "" := by decide +kernel
theorem wr_verbs : ∀ r ∈ verbs14, ∀ e ∈ tails14, e.l = "v" → chk14 (r.getD 0 "") e.x (wr14 (vS r) e) = true ∧ wr14 (vS r) e ≠ "" := by decide +kernel
def bad14 : List Str := ["flys", "bakeing", "boxs", "wolfs", "plaies", "daies", "trys", "mooves", "Cat", ""]
theorem bad_nouns : ∀ r ∈ nouns14, ∀ e ∈ tails14, e.l = "n" → wr14 (nS r) e ∉ bad14 := by decide +kernel
theorem bad_verbs : ∀ r ∈ verbs14, ∀ e ∈ tails14, e.l = "v" → wr14 (vS r) e ∉ bad14 := by decide +kernel
/-! ### they are sound -/
section
variable {L : Lx}
theorem In14.stem (h : In14 L) {s : Sd} (hs : s ∈ L.ss) : (∃ r ∈ nouns14, s = nS r) ∨ ∃ r ∈ verbs14, s = vS r := by
  obtain ⟨N, V, _, _, h1, h2, _, h3⟩ := h.s
  rcases List.mem_append.mp (h3.mem_iff.mp hs) with z | z
  · obtain ⟨r, hr, e⟩ := List.mem_map.mp z
    exact .inl ⟨r, h1 r hr, e.symm⟩
  · obtain ⟨r, hr, e⟩ := List.mem_map.mp z
    exact .inr ⟨r, h2 r hr, e.symm⟩
theorem txB_of {n : Nat} {x : Str} (h : (decide (x.length ≤ n) && x.cps.toList.all fun c => decide (c ∈ lets26.cps.toList)) = true) : Tx n x := by
  rw [Bool.and_eq_true, List.all_eq_true] at h
  exact ⟨of_decide_eq_true h.1, fun c hc => of_decide_eq_true (h.2 c hc)⟩
theorem nouns_nm : ∀ r ∈ nouns14, nmB (r.getD 0 "") = true := by decide +kernel
theorem verbs_nm : ∀ r ∈ verbs14, nmB (r.getD 0 "") = true ∧ nmB ("to" ++ r.getD 0 "") = true := by decide +kernel
theorem fs14_ok : ∀ f ∈ fs14, f.Ok := by
  have e : ∀ f ∈ fs14, nmB f.n = true ∧ 1 ≤ f.vs.length ∧ f.vs.length ≤ 6 ∧ f.vs.Nodup ∧ ∀ v ∈ f.vs, nmB v = true := by decide +kernel
  exact fun f hf => let ⟨a, b, c, d, g⟩ := e f hf; ⟨nm_of a, b, c, d, fun v hv => nm_of (g v hv)⟩
theorem ks14_ok : ∀ k ∈ ks14, nmB k.n = true ∧ k.fs.length ≤ 4 ∧ k.fs.Nodup ∧ (∀ x ∈ k.fs, ∃ f ∈ fs14, f.n = x) ∧ (k.g && k.m) = false := by decide +kernel
theorem sm14_ok : ∀ m ∈ sA14 ++ sB14 ++ sC14, m.l ≠ "" ∧ (decide (m.l.length ≤ 3) && m.l.cps.toList.all fun c => decide (c ∈ lets26.cps.toList)) = true ∧ (decide (m.r.length ≤ 3) && m.r.cps.toList.all fun c => decide (c ∈ lets26.cps.toList)) = true ∧ (decide (m.m.length ≤ 3) && m.m.cps.toList.all fun c => decide (c ∈ lets26.cps.toList)) = true := by decide +kernel
theorem en14_ok : ∀ e ∈ tails14, nmB e.l = true ∧ (decide (e.x.length ≤ 8) && e.x.cps.toList.all fun c => decide (c ∈ lets26.cps.toList)) = true ∧ 0 ≤ e.r ∧ e.r ≤ 999 ∧ ∀ p ∈ e.ms, ∃ f ∈ fs14, f.n = p.1 ∧ p.2 ∈ f.vs := by decide +kernel
theorem Sew14.mem {ms : List Sm} (h : Sew14 ms) {m : Sm} (hm : m ∈ ms) : m ∈ sA14 ++ sB14 ++ sC14 := by
  obtain ⟨a, b, cc, k, ha, hb, hc, rfl⟩ := h
  simp only [List.mem_append] at hm ⊢
  rcases hm with ((hs | hs) | hs) | hs
  · exact .inl (.inl (ha.mem_iff.mp (List.mem_of_mem_take hs)))
  · exact .inl (.inr (hb.mem_iff.mp hs))
  · exact .inr (hc.mem_iff.mp hs)
  · exact .inl (.inl (ha.mem_iff.mp (List.mem_of_mem_drop hs)))
theorem In14.sl (h : In14 L) : L.ss.length ≤ 23 := by
  obtain ⟨N, V, n1, n2, h1, h2, _, h3⟩ := h.s
  have e1 : N.length ≤ 12 := nodup_le n1 h1
  have e2 : V.length ≤ 11 := nodup_le n2 h2
  rw [h3.length_eq, List.length_append, List.length_map, List.length_map]
  omega
theorem In14.el (h : In14 L) : L.es.length = 6 := h.e.length_eq
theorem In14.kn (h : In14 L) : (L.ks.map (·.n)).Nodup := ((h.k.map (·.n)).nodup_iff).mpr (by decide +kernel)
theorem In14.ok (h : In14 L) : L.Ok := by
  refine ⟨?_, ?_, h.m.len, ?_, ?_, ((h.f.map (·.n)).nodup_iff).mpr (by decide +kernel), h.kn, fun f hf => fs14_ok f (h.f.mem_iff.mp hf), fun k hk => ?_, fun m hm => ?_, fun s hs => ?_, fun e he => ?_, ?_⟩
  · rw [h.f.length_eq]
    decide
  · rw [h.k.length_eq]
    decide
  · have := h.sl
    omega
  · have := h.el
    omega
  · obtain ⟨a, b, c, d, g⟩ := ks14_ok k (h.k.mem_iff.mp hk)
    exact ⟨nm_of a, b, c, fun x hx => let ⟨f, hf, e⟩ := d x hx; ⟨f, h.f.mem_iff.mpr hf, e⟩, g⟩
  · obtain ⟨a, b, c, d⟩ := sm14_ok m (h.m.mem hm)
    exact ⟨a, txB_of b, txB_of c, txB_of d⟩
  · rcases h.stem hs with ⟨r, hr, rfl⟩ | ⟨r, hr, rfl⟩
    · exact ⟨nm_of (nouns_nm r hr), nm_of (show nmB "n" = true by decide +kernel), by show (0 : Int) ≤ 5; decide, by show (5 : Int) ≤ 999; decide, ⟨⟨"noun", ["num"], false, false⟩, h.k.mem_iff.mpr (.head _), rfl, nm_of (nouns_nm r hr), fun p hp => by cases hp⟩, fun p hp => by cases hp⟩
    · exact ⟨nm_of (verbs_nm r hr).1, nm_of (show nmB "v" = true by decide +kernel), by show (0 : Int) ≤ 7; decide, by show (7 : Int) ≤ 999; decide, ⟨⟨"verb", ["time", "num"], true, false⟩, h.k.mem_iff.mpr (.tail _ (.head _)), rfl, nm_of (verbs_nm r hr).2, fun p hp => by cases hp⟩, fun p hp => by cases hp⟩
  · obtain ⟨a, b, c, d, g⟩ := en14_ok e (h.e.mem_iff.mp he)
    exact ⟨nm_of a, txB_of b, c, d, fun p hp => let ⟨f, hf, e⟩ := g p hp; ⟨f, h.f.mem_iff.mpr hf, e⟩⟩
  · exact ⟨⟨"verb", ["time", "num"], true, false⟩, h.k.mem_iff.mpr (.tail _ (.head _)), rfl, rfl⟩
end
end Bn

namespace Bn
open PySem PySem.Spec PyProof.Rows L2 BR GX RM GY
/-! ### all but one thing is kept -/
structure SLc (T : Tb) (c : Addr) (H H' : Hp) : Prop where
  k : ∀ x y, x ≠ c → NT y → H x = some y → H' x = some y
  q : ∀ x p, H x = some (.tbl p) → ∃ p', H' x = some (.tbl p')
  t : TbOk T H'
section
variable {T : Tb} {K : PySem.W.Frag} {c : Addr} {H H' H0 H1 : Hp} {kvs : List (Key × V)} {o : HO}
theorem SLc.of (s : SL T H H') : SLc T c H H' := ⟨fun x y _ n e => s.k x y n e, s.q, s.t⟩
theorem SLc.trans (a : SLc T c H H1) (b : SLc T c H1 H') : SLc T c H H' := ⟨fun x y n t e => b.k x y n t (a.k x y n t e), fun x p e => let ⟨p', e'⟩ := a.q x p e; b.q x p' e', b.t⟩
theorem SLc.put (t : TbOk T H) (e : H c = some (.dK kvs)) : SLc T c H (upd H c o) := by
  refine ⟨fun x y n _ h => by rw [upd_ne n]; exact h, fun x p h => ⟨p, ?_⟩, t.put e nt_dK ncD⟩
  rw [upd_ne (ne_of h e (by intro z; cases z))]
  exact h
theorem SLc.sl (a : SL T H0 H) (n : H0 c = none) (s : SLc T c H H') : SL T H0 H' :=
  ⟨fun x y t e => s.k x y (fun z => by rw [z, n] at e; cases e) t (a.k x y t e), fun x p e => let ⟨p', e'⟩ := a.q x p e; s.q x p' e', s.t⟩
theorem SLc.free {p : Addr} {u : HO} (s : SLc T c H H') (hc : H' c = some u) (h : H' p = none) : H p = none := by
  cases e : H p with
  | none => rfl
  | some o =>
    by_cases z : ∃ q, o = .tbl q
    · obtain ⟨q, rfl⟩ := z
      obtain ⟨q', e'⟩ := s.q p q e
      rw [e'] at h
      cases h
    · rw [s.k p o (fun y => by rw [y, hc] at h; cases h) (fun q y => z ⟨q, y⟩) e] at h
      cases h
theorem SLc.sqT {a : Addr} {xs : List V} (s : SLc T c H H') (hc : H c = some (.dK kvs)) (h : SqT K H a xs) : SqT K H' a xs := by
  rcases h with (h | ⟨o, h⟩) | h
  · exact .inl (.inl (s.k _ _ (ne_of h hc (by intro z; cases z)) nt_tup h))
  · exact .inl (.inr ⟨o, s.k _ _ (ne_of h hc (by intro z; cases z)) nt_frz h⟩)
  · exact .inr h
theorem SLc.lst {a : Addr} {xs : List V} (s : SLc T c H H') (hc : H c = some (.dK kvs)) (h : H a = some (.lst xs)) : H' a = some (.lst xs) := s.k _ _ (ne_of h hc (by intro z; cases z)) nt_lst h
mutual
theorem Dq.kn (hl : ∀ a xs, a ≠ c → H a = some (.lst xs) → H' a = some (.lst xs)) (hd : ∀ a kvs, a ≠ c → H a = some (.dK kvs) → H' a = some (.dK kvs)) (ht : ∀ a xs, SqT K H a xs → SqT K H' a xs) : ∀ {N : Addr → Prop} {n : Nat} {v : V} {d : PyData}, ¬ N c → Dq K H N n v d → Dq K H' N n v d
  | _, _, _, _, _, .non => .non
  | _, _, _, _, _, .bl b => .bl b
  | _, _, _, _, _, .int i => .int i
  | _, _, _, _, _, .str x => .str x
  | _, _, _, _, nc, .lst h m l h2 => .lst (hl _ _ (fun z => nc (z ▸ m)) h) m l (DqAll.kn hl hd ht nc h2)
  | _, _, _, _, nc, .tup h l h2 => .tup (ht _ _ h) l (DqAll.kn hl hd ht nc h2)
  | _, _, _, _, nc, .dic h m l nd h2 => .dic (hd _ _ (fun z => nc (z ▸ m)) h) m l nd (DqKv.kn hl hd ht (fun z => nc z.1) h2)
theorem DqAll.kn (hl : ∀ a xs, a ≠ c → H a = some (.lst xs) → H' a = some (.lst xs)) (hd : ∀ a kvs, a ≠ c → H a = some (.dK kvs) → H' a = some (.dK kvs)) (ht : ∀ a xs, SqT K H a xs → SqT K H' a xs) : ∀ {N : Addr → Prop} {n : Nat} {vs : List V} {ds : List PyData}, ¬ N c → DqAll K H N n vs ds → DqAll K H' N n vs ds
  | _, _, _, _, _, .nil => .nil
  | _, _, _, _, nc, .cons h1 h2 => .cons (Dq.kn hl hd ht nc h1) (DqAll.kn hl hd ht nc h2)
theorem DqKv.kn (hl : ∀ a xs, a ≠ c → H a = some (.lst xs) → H' a = some (.lst xs)) (hd : ∀ a kvs, a ≠ c → H a = some (.dK kvs) → H' a = some (.dK kvs)) (ht : ∀ a xs, SqT K H a xs → SqT K H' a xs) : ∀ {N : Addr → Prop} {n : Nat} {kvs : List (Key × V)} {es : List (PyData × PyData)}, ¬ N c → DqKv K H N n kvs es → DqKv K H' N n kvs es
  | _, _, _, _, _, .nil => .nil
  | _, _, _, _, nc, .cons h1 h2 => .cons (Dq.kn hl hd ht nc h1) (DqKv.kn hl hd ht nc h2)
end
theorem Dq.slc {N : Addr → Prop} {n : Nat} {v : V} {d : PyData} (h : Dq K H N n v d) (s : SLc T c H H') (hc : H c = some (.dK kvs)) (nc : ¬ N c) : Dq K H' N n v d := h.kn (fun a xs n e => s.k a _ n nt_lst e) (fun a xs n e => s.k a _ n nt_dK e) (fun a xs e => s.sqT hc e) nc
theorem DqAll.slc {N : Addr → Prop} {n : Nat} {v : List V} {d : List PyData} (h : DqAll K H N n v d) (s : SLc T c H H') (hc : H c = some (.dK kvs)) (nc : ¬ N c) : DqAll K H' N n v d := h.kn (fun a xs n e => s.k a _ n nt_lst e) (fun a xs n e => s.k a _ n nt_dK e) (fun a xs e => s.sqT hc e) nc
theorem TgB.slc {C p : Addr} {N : Addr → Prop} {L : Lx} {kvs' : List (Key × V)} (h : TgB C K N H p c L kvs) (s : SLc T c H H') (e : H' c = some (.dK kvs')) : TgB C K N H' p c L kvs' := by
  obtain ⟨dx, o, fd, kd, pl, h1, h2, ⟨k1, h3, h3'⟩, h4, h5⟩ := h
  exact ⟨dx, o, fd, kd, pl, s.k _ _ (ne_of h1 h5 (by intro z; cases z)) nt_ins h1, h2.slc s h5 (fun z => z.2 rfl), ⟨k1, s.k _ _ h4 nt_dK h3, fun k hk => let ⟨a, l, e1, e2, e3⟩ := h3' k hk; ⟨a, l, e1, s.sqT h5 e2, s.lst h5 e3⟩⟩, h4, e⟩
end
/-! ### all words -/
open Classical in
noncomputable def rowM (L : Lx) (i j : Nat) : Option (Str × Nat × Nat) := match L.ss[i]?, L.es[j]? with
  | some s, some e => if (valsM L s e).isSome then some (sewnM L.ms s.x e.x, i, j) else none
  | _, _ => none
noncomputable def rowsM (L : Lx) (i j : Nat) : List (Str × Nat × Nat) := (List.range j).filterMap (rowM L i)
noncomputable def formsN (L : Lx) (i : Nat) : List (Str × Nat × Nat) := (List.range i).flatMap fun i => rowsM L i L.es.length
noncomputable def formsM (L : Lx) : List (Str × Nat × Nat) := formsN L L.ss.length
theorem rowM_of {L : Lx} {i j : Nat} {s : Sd} {e : En} (h1 : L.ss[i]? = some s) (h2 : L.es[j]? = some e) : rowM L i j = if (valsM L s e).isSome then some (sewnM L.ms s.x e.x, i, j) else none := by
  unfold rowM
  rw [h1, h2]
theorem rowsM_succ (L : Lx) (i j : Nat) : rowsM L i (j + 1) = rowsM L i j ++ (rowM L i j).toList := by
  unfold rowsM
  rw [List.range_succ, List.filterMap_append]
  congr 1
theorem formsN_succ (L : Lx) (i : Nat) : formsN L (i + 1) = formsN L i ++ rowsM L i L.es.length := by
  unfold formsN
  rw [List.range_succ, List.flatMap_append]
  simp
def rowD (r : Str × Nat × Nat) : PyData := .tuple [.str r.1, .int (r.2.1 : Nat), .int (r.2.2 : Nat)]
abbrev NF : Addr → Prop := fun _ => False
theorem row_mk2 {K : PySem.W.Frag} {H : Hp} {t : Addr} {x : Str} {i j : Nat} (h : SqT K H t [.str x, .int (i : Nat), .int (j : Nat)]) : Dq K H NF 1 (.ref t) (rowD (x, i, j)) := .tup h (show 3 ≤ 1000 by decide) (.cons (.str _) (.cons (.int _) (.cons (.int _) .nil)))
theorem rowsM_len (L : Lx) (i j : Nat) : (rowsM L i j).length ≤ j := by
  unfold rowsM
  refine Nat.le_trans (List.length_filterMap_le _ _) ?_
  rw [List.length_range]
  exact Nat.le_refl _
theorem formsN_len (L : Lx) : ∀ i, (formsN L i).length ≤ i * L.es.length
  | 0 => Nat.zero_le _
  | i + 1 => by
    have h1 := formsN_len L i
    have h2 := rowsM_len L i L.es.length
    rw [formsN_succ, List.length_append, Nat.add_mul]
    omega
theorem forms_len {L : Lx} (h : L.Ok) : (formsM L).length ≤ 1600 := by
  refine Nat.le_trans (formsN_len L _) ?_
  exact Nat.mul_le_mul h.sl h.el
/-- what a Tongue keeps: nothing yet, or its forms first -/
def KOk (K : PySem.W.Frag) (H : Hp) (L : Lx) (kvs : List (Key × V)) : Prop := kvs = [] ∨ ∃ lf xs r, kvs = (.inr "forms", .ref lf) :: r ∧ H lf = some (.lst xs) ∧ DqAll K H NF 1 xs ((formsM L).map rowD)
theorem pe_fldK {X : Cx} {K : PySem.W.Frag} {e : Expr} {f : Str} {pos : Pos} {ta : TE} (eK : X.K = K) (he : PE X e ta) (hb : attributeBase e f X.env (eval e X.env) = eval e X.env) : PE X (.Attribute e f pos) (tFld K ta f) := by
  subst eK
  exact pe_fld he hb
theorem call_lenK {X : Cx} {K : PySem.W.Frag} (e : X.K = K) : CallR X (.builtin "len") (fun xs H Q => ∃ p ys, xs = [V.ref p] ∧ (SqL K H p ys ∨ SqT K H p ys) ∧ Q (.int (ys.length : Nat)) H) := by
  subst e
  exact call_len_seq
section
variable {P : Program} {w : World} {K : PySem.W.Frag} {mg : Str → Option Value} {base : Heap}
/-! ### kept_forms, forms -/
abbrev NKf : List Str := ["tongue", "stem", "ending"]
def spKept (K : PySem.W.Frag) (T : Tb) (C : Addr) : Sp := fun vs H Q _ => ∃ (p c : Addr) (L : Lx) (N : Addr → Prop) (kvs : List (Key × V)), vs = [.ref p] ∧ TgB C K N H p c L kvs ∧ KOk K H L kvs ∧ L.Ok ∧ TbOk T H ∧
  ∀ (lf : Addr) (xs : List V) (r : List (Key × V)) (H' : Hp), SLc T c H H' → (kvs = [] ∧ r = [] ∨ kvs = (.inr "forms", .ref lf) :: r) → TgB C K N H' p c L ((.inr "forms", .ref lf) :: r) → H' lf = some (.lst xs) → DqAll K H' NF 1 xs ((formsM L).map rowD) → Q (.ref lf) H'
theorem ok_kept {f fV fT C : Addr} {fd fdV fdT : FuncData} {T : Tb} (F : Fun K "kept_forms" "kept_forms" s_kept_forms f fd) (TC : TgC K C) (ml : mg "len" = none) (mr : mg "range" = none)
    (kV : PySem.W.keepIn K (.ref fV) = true) (bV : Binds K fdV ["tongue", "stem", "ending"] []) (gV : mg "values_of" = some (.ref fV)) (GV : FnOk P w K mg base CX0 8 fV fdV ["tongue", "stem", "ending"] (spVals K T C))
    (kT : PySem.W.keepIn K (.ref fT) = true) (bT : Binds K fdT ["tongue", "stem", "ending"] []) (gT : mg "text_of" = some (.ref fT)) (GT : FnOk P w K mg base CX0 2 fT fdT ["tongue", "stem", "ending"] (spText K C)) :
    FnOk P w K mg base CX0 9 f fd ["tongue"] (spKept K T C) := by
  refine F.ok sc_kept_forms (fun vs H Q E h => ?_) (fun cdv A outer s H vs Q E hr h => ?_)
  · obtain ⟨p, c, L, N, kvs, rfl, _⟩ := h
    rfl
  · obtain ⟨p, c, L, N, kvs, rfl, hT, hK, hL, hTb, q⟩ := h
    have hu := hu_of hr
    refine ⟨_, pss_cons (ps_if (pt_cmp (pc_dnotin hu pe_str (pe_fld (pv 0) rfl))) (pss_one (ps_dput hu (pe_fld (pv 0) rfl) pe_str (pe_lc2 (own := [("stem", 1), ("ending", 2)]) (vs1 := [2]) (g := gName 1) (g1 := gName 2) (tt := tYes) rfl sc_kept_forms.nd (pi_range1 (by rfl) mr (pa_cons (pe_callB call_len_seq (by rfl) ml PySem.boot_len (pa_cons (pe_dget hu (pe_fld (pv 0) rfl) pe_str (fun _ _ => rfl)) pa_nil)) pa_nil))
          (blkOk_by (own := [("stem", 1), ("ending", 2)]) (N := NKf) (sc := defScope s_kept_forms) (by decide +kernel)) (by decide)
          (fun _ _ _ _ _ => pg_name (i := 1) sc_kept_forms.nd rfl (.inl rfl)) (fun _ _ _ _ _ => pts_nil)
          (fun _ _ _ _ _ => pi_range1 (by rfl) mr (pa_cons (pe_callB (call_lenK (K := K) rfl) (by rfl) ml PySem.boot_len (pa_cons (pe_dget hu (pe_fldK (K := K) rfl (pv 0) rfl) pe_str (fun _ _ => rfl)) pa_nil)) pa_nil))
          (fun _ _ _ _ _ => pg_name (i := 2) sc_kept_forms.nd rfl (.inl rfl)) (fun _ _ _ _ _ => pts_one (pt_cmpR op_notN (pe_call GV hr (by rfl) gV kV bV .nil pass0 (pa_cons (pv 0) (pa_cons (pv 1) (pa_cons (pv 2) pa_nil)))) pe_non (nomark _)))
          (fun _ _ _ _ _ => pe_tup (pa_cons (pe_call GT (hr.mono (by decide)) (by rfl) gT kT bT .nil pass0 (pa_cons (pv 0) (pa_cons (pv 1) (pa_cons (pv 2) pa_nil)))) (pa_cons (pv 1) (pa_cons (pv 2) pa_nil))))) rfl)) pss_nil)
      (pss_one (ps_ret (pe_dget hu (pe_fld (pv 0) rfl) pe_str (fun _ _ => rfl)))), ?_⟩
    obtain ⟨dx, o, fe, kd, pl, h1, h2, h3, h4, h5⟩ := id hT
    rcases hK with rfl | ⟨lf, xs, r, rfl, hlf, hrows⟩
    · refine ⟨_, rfl, p, C, dx, _, _, rfl, h1, TC.cl, TC.nC, tgF_kept _ _ _ _ _, c, none, rfl, .inl ⟨[], .inr "forms", .inl h5, rfl, rfl⟩, true, rfl, iteT ?_⟩
      obtain ⟨a0, xf, xk, xm, xs, xe, xr, vf, vk, vm, wS, ve, ea, _, LA⟩ := lx_inv h2
      cases ea
      have hwS : wS.length = L.ss.length := by rw [LA.ds.len, List.length_map]
      have hve : ve.length = L.es.length := by rw [LA.de.len, List.length_map]
      have l40 := hL.sl
      have e40 := hL.el
      have szl : 4000 ≤ sizeLine := by decide
      refine ⟨_, rfl, p, C, dx, _, _, rfl, h1, TC.cl, TC.nO, tgF_own _ _ _ _ _, o, _, rfl, get_of LA.d lxK_stems, xs, _, rfl, .inl (.inl (.inl LA.hs)), (wS.length : Nat), rfl, by omega, by omega, fun D nD => ?_⟩
      rw [Int.toNat_natCast]
      refine lc2_it (walk_range (lo := 0) (n := wS.length)) (fun i HY => SL T H HY ∧ ∃ ys : List V, HY D = some (.lst ys) ∧ ys.length ≤ 40 * i ∧ DqAll K HY NF 1 ys ((formsN L i).map rowD)) ⟨SL.of hTb (same_new nD), [], upd_same, Nat.zero_le _, .nil⟩ (fun _ _ _ _ => trivial) (fun i x HY HY' hi hP' hY => ?_) (fun HZ hP' => ?_)
      · obtain ⟨e0, rfl⟩ := hY
        subst e0
        obtain ⟨sY, ys, hDY, hyl, hyd⟩ := hP'
        have tY := hT.sl sY
        have LY := LA.sl sY
        refine ⟨rfl, tYes_in ⟨_, rfl, p, C, dx, _, _, rfl, sY.k _ _ nt_ins h1, TC.cl, TC.nO, tgF_own _ _ _ _ _, o, _, rfl, get_of LY.d lxK_endings, xe, _, rfl, .inl (.inl (.inl LY.he)), (ve.length : Nat), rfl, by omega, by omega, ?_⟩⟩
        rw [Int.toNat_natCast]
        have li : i < L.ss.length := by have : i < wS.length := hi; omega
        have hsd : L.ss[i]? = some L.ss[i] := List.getElem?_eq_getElem li
        refine in2_it (walk_range (lo := 0) (n := ve.length)) (fun j HW => SL T H HW ∧ ∃ zs : List V, HW D = some (.lst zs) ∧ zs.length ≤ 40 * i + j ∧ DqAll K HW NF 1 zs ((formsN L i ++ rowsM L i j).map rowD)) ⟨sY, ys, hDY, by omega, by rw [show rowsM L i 0 = [] from rfl, List.append_nil]; exact hyd⟩ (fun _ _ _ _ => trivial) (fun j y HW HW' hj hP' hY => ?_) (fun HW hP' => ?_)
        · obtain ⟨e0, rfl⟩ := hY
          subst e0
          obtain ⟨sW, zs, hDW, hzl, hzd⟩ := hP'
          have lj : j < L.es.length := by have : j < ve.length := hj; omega
          have hen : L.es[j]? = some L.es[j] := List.getElem?_eq_getElem lj
          have eij : [V.ref p, V.int (0 + (i : Nat)), V.int (0 + (j : Nat))] = [V.ref p, V.int (i : Nat), V.int (j : Nat)] := by rw [Int.zero_add, Int.zero_add]
          refine ⟨rfl, _, rfl, _, rfl, _, rfl, p, i, j, L, N, L.ss[i], L.es[j], eij, ⟨c, _, hT.sl sW⟩, hL, hsd, hen, sW.t, fun v H3 s3 hv => ?_⟩
          have s03 := sW.trans s3
          have hD3 := s3.k _ _ nt_lst hDW
          have hz3 := hzd.sl s3
          have er := rowM_of hsd hen
          cases hr : valsM L L.ss[i] L.es[j] with
          | none =>
            rw [hr] at hv
            have ev : v = .non := hv
            subst ev
            refine ⟨rfl, false, rfl, iteF ⟨s03, zs, hD3, by omega, ?_⟩⟩
            rw [rowsM_succ, er, hr]
            simp only [Option.isSome_none, Bool.false_eq_true, if_false, Option.toList_none, List.append_nil]
            exact hz3
          | some vs =>
            rw [hr] at hv
            obtain ⟨pv0, rfl, _⟩ := hv
            refine ⟨rfl, true, rfl, iteT ⟨_, rfl, _, rfl, _, rfl, p, i, j, L, N, L.ss[i], L.es[j], eij, ⟨c, _, hT.sl s03⟩, hL, hsd, hen, _, rfl, _, rfl, (show 3 ≤ sizeLine by decide), fun t nt => ?_⟩⟩
            have st := same_new (o := .tup [.str (sewnM L.ms L.ss[i].x L.es[j].x), .int (0 + (i : Nat)), .int (0 + (j : Nat))]) nt
            have ht : (upd H3 t (.tup [.str (sewnM L.ms L.ss[i].x L.es[j].x), .int (0 + (i : Nat)), .int (0 + (j : Nat))])) t = some (.tup [.str (sewnM L.ms L.ss[i].x L.es[j].x), .int (i : Nat), .int (j : Nat)]) := by rw [upd_same, Int.zero_add, Int.zero_add]
            have sT := s03.same st
            have hDT := st _ _ hD3
            have hzT := hz3.same st
            generalize upd H3 t (.tup [.str (sewnM L.ms L.ss[i].x L.es[j].x), .int (0 + (i : Nat)), .int (0 + (j : Nat))]) = HT at sT hDT hzT ht ⊢
            have nDH : H D = none := nD
            refine ⟨zs, hDT, by omega, sT.ownL nDH hDT, zs ++ [.ref t], upd_same, by rw [List.length_append]; show zs.length + 1 ≤ 40 * i + (j + 1); omega, ?_⟩
            rw [rowsM_succ, er, hr]
            simp only [Option.isSome_some, if_true, Option.toList_some]
            rw [← List.append_assoc, List.map_append (l₂ := [_])]
            exact (hzT.app (.cons (row_mk2 (.inl (.inl ht))) .nil)).put hDT fun z => z
        · obtain ⟨sW, zs, hDW, hzl, hzd⟩ := hP'
          refine ⟨sW, zs, hDW, by omega, ?_⟩
          rw [formsN_succ, ← hve]
          exact hzd
      · obtain ⟨sZ, ys, hDZ, hyl, hyd⟩ := hP'
        rw [hwS] at hyd
        have hcZ := sZ.k _ _ nt_dK h5
        have nDc : D ≠ c := (ne_of_none h5 nD).symm
        refine ⟨_, rfl, p, C, dx, _, _, rfl, sZ.k _ _ nt_ins h1, TC.cl, TC.nC, tgF_kept _ _ _ _ _, c, _, rfl, DPut.k (k := Sum.inr "forms") hcZ (show 0 < sizeLine by decide), ?_⟩
        have s1 : SLc T c H (upd HZ c (.dK (putK [] (Sum.inr "forms") (V.ref D)))) := (SLc.of sZ).trans (SLc.put sZ.t hcZ)
        have hc1 : (upd HZ c (.dK (putK [] (Sum.inr "forms") (V.ref D)))) c = some (.dK [(.inr "forms", .ref D)]) := upd_same
        have hD1 : (upd HZ c (.dK (putK [] (Sum.inr "forms") (V.ref D)))) D = some (.lst ys) := by rw [upd_ne nDc]; exact hDZ
        have hy1 : DqAll K (upd HZ c (.dK (putK [] (Sum.inr "forms") (V.ref D)))) NF 1 ys ((formsM L).map rowD) := DqAll.putD (N := NF) hyd hcZ fun z => z
        generalize upd HZ c (.dK (putK [] (Sum.inr "forms") (V.ref D))) = HC at s1 hc1 hD1 hy1 ⊢
        have t1 := hT.slc s1 hc1
        obtain ⟨dx', o', fe', kd', pl', g1, _⟩ := id t1
        exact ⟨_, rfl, p, C, dx', _, _, rfl, g1, TC.cl, TC.nC, tgF_kept _ _ _ _ _, c, _, rfl, get_of hc1 rfl, q D ys [] HC s1 (.inl ⟨rfl, rfl⟩) t1 hD1 hy1⟩
    · refine ⟨_, rfl, p, C, dx, _, _, rfl, h1, TC.cl, TC.nC, tgF_kept _ _ _ _ _, c, some (.ref lf), rfl, .inl ⟨_, .inr "forms", .inl h5, rfl, rfl⟩, false, rfl, iteF ?_⟩
      exact ⟨_, rfl, p, C, dx, _, _, rfl, h1, TC.cl, TC.nC, tgF_kept _ _ _ _ _, c, _, rfl, get_of h5 rfl, q lf xs r H (SLc.of (SL.refl hTb)) (.inr rfl) hT hlf hrows⟩
end
end Bn

namespace Bn
open PySem PySem.Spec PyProof.Rows L2 BR GX RM GY
/-! ### trees by text -/
def treeD (r : Str × Nat × Nat) : PyData := .tuple [.str "word", .int (r.2.1 : Nat), .int (r.2.2 : Nat)]
def byT (rs : List (Str × Nat × Nat)) (x : Str) : List (Str × Nat × Nat) := rs.filter fun r => decide (r.1 = x)
theorem byT_same (rs : List (Str × Nat × Nat)) (x : Str) (i j : Nat) : byT (rs ++ [(x, i, j)]) x = byT rs x ++ [(x, i, j)] := by
  unfold byT
  rw [List.filter_append]
  simp
theorem byT_other (rs : List (Str × Nat × Nat)) {x y : Str} (i j : Nat) (n : x ≠ y) : byT (rs ++ [(x, i, j)]) y = byT rs y := by
  unfold byT
  rw [List.filter_append]
  simp [n]
section
variable {K : PySem.W.Frag} {H H' HK HZ : Hp} {d l c p : Addr} {tv : List (Key × V)} {rs : List (Str × Nat × Nat)} {x : Str} {i j : Nat} {xs : List V} {N : Addr → Prop}
theorem row_inv {v : V} {r : Str × Nat × Nat} {n : Nat} (h : Dq K H N (n + 1) v (rowD r)) : ∃ t, v = .ref t ∧ SqT K H t [.str r.1, .int (r.2.1 : Nat), .int (r.2.2 : Nat)] := by
  unfold rowD at h
  cases h with
  | tup h1 _ h2 =>
    cases h2 with
    | cons a h2 =>
    cases h2 with
    | cons b h2 =>
    cases h2 with
    | cons c h2 =>
    cases h2
    cases a
    cases b
    cases c
    exact ⟨_, rfl, h1⟩
theorem tree_mk {t : Addr} (h : SqT K H t [.str "word", .int (i : Nat), .int (j : Nat)]) : Dq K H NF 1 (.ref t) (treeD (x, i, j)) := .tup h (show 3 ≤ 1000 by decide) (.cons (.str _) (.cons (.int _) (.cons (.int _) .nil)))
/-- being made: lists by text, each its own, new since HK -/
def TreesI (K : PySem.W.Frag) (HK HZ : Hp) (tv : List (Key × V)) (rs : List (Str × Nat × Nat)) : Prop := ∀ x : Str, (valV tv (.inr x) = none ∧ byT rs x = []) ∨
  ∃ l xs, valV tv (.inr x) = some (.ref l) ∧ HK l = none ∧ HZ l = some (.lst xs) ∧ DqAll K HZ NF 1 xs ((byT rs x).map treeD) ∧ ∀ y : Str, valV tv (.inr y) = some (.ref l) → y = x
def TreesAt (K : PySem.W.Frag) (H : Hp) (d : Addr) (rs : List (Str × Nat × Nat)) : Prop := ∃ tv, H d = some (.dK tv) ∧ ∀ x : Str, (valV tv (.inr x) = none ∧ byT rs x = []) ∨
  ∃ l xs, valV tv (.inr x) = some (.ref l) ∧ H l = some (.lst xs) ∧ DqAll K H NF 1 xs ((byT rs x).map treeD)
theorem TreesI.at (h : TreesI K HK HZ tv rs) (hd : HZ d = some (.dK tv)) : TreesAt K HZ d rs := ⟨tv, hd, fun x => by
  rcases h x with h | ⟨l, xs, h1, _, h3, h4, _⟩
  · exact .inl h
  · exact .inr ⟨l, xs, h1, h3, h4⟩⟩
theorem TreesI.same (h : TreesI K HK H tv rs) (s : Same H H') : TreesI K HK H' tv rs := fun x => by
  rcases h x with h | ⟨l, xs, h1, h2, h3, h4, h5⟩
  · exact .inl h
  · exact .inr ⟨l, xs, h1, h2, s _ _ h3, h4.same s, h5⟩
theorem TreesAt.same (h : TreesAt K H d rs) (s : Same H H') : TreesAt K H' d rs := by
  obtain ⟨tv, e, h⟩ := h
  refine ⟨tv, s _ _ e, fun x => ?_⟩
  rcases h x with h | ⟨l, xs, h1, h3, h4⟩
  · exact .inl h
  · exact .inr ⟨l, xs, h1, s _ _ h3, h4.same s⟩
theorem TreesAt.slc {T : Tb} {kvs : List (Key × V)} (h : TreesAt K H d rs) (s : SLc T c H H') (hc : H c = some (.dK kvs)) (n : d ≠ c) : TreesAt K H' d rs := by
  obtain ⟨tv, e, h⟩ := h
  refine ⟨tv, s.k _ _ n nt_dK e, fun x => ?_⟩
  rcases h x with h | ⟨l, xs, h1, h3, h4⟩
  · exact .inl h
  · exact .inr ⟨l, xs, h1, s.lst hc h3, h4.slc s hc fun z => z⟩
theorem TreesI.app {t : Addr} (h : TreesI K HK H tv rs) (hx : valV tv (.inr x) = some (.ref l)) (hl : H l = some (.lst xs)) (ht : SqT K H t [.str "word", .int (i : Nat), .int (j : Nat)]) : TreesI K HK (upd H l (.lst (xs ++ [.ref t]))) tv (rs ++ [(x, i, j)]) := fun y => by
  by_cases e : x = y
  · subst e
    rcases h x with ⟨h, _⟩ | ⟨l1, xs1, h1, h2, h3, h4, h5⟩
    · rw [hx] at h
      cases h
    · rw [hx] at h1
      cases h1
      rw [hl] at h3
      cases h3
      refine .inr ⟨l, xs ++ [.ref t], hx, h2, upd_same, ?_, h5⟩
      rw [byT_same, List.map_append]
      exact (h4.app (.cons (tree_mk ht) .nil)).put hl fun z => z
  · rw [byT_other rs i j e]
    rcases h y with h | ⟨l1, xs1, h1, h2, h3, h4, h5⟩
    · exact .inl h
    · refine .inr ⟨l1, xs1, h1, h2, ?_, h4.put hl fun z => z, h5⟩
      rw [upd_ne fun z => e (h5 x (by rw [z]; exact hx))]
      exact h3
theorem TreesI.new (h : TreesI K HK H tv rs) (hx : valV tv (.inr x) = none) (hl : H l = some (.lst [])) (nl : HK l = none) (no : ∀ y : Str, valV tv (.inr y) ≠ some (.ref l)) (hd : H d = some (.dK tv)) :
    TreesI K HK (upd H d (.dK (putK tv (.inr x) (.ref l)))) (putK tv (.inr x) (.ref l)) rs := fun y => by
  have kl : ∀ {l1 : Addr} {xs1 : List V}, H l1 = some (.lst xs1) → (upd H d (.dK (putK tv (.inr x) (.ref l)))) l1 = some (.lst xs1) := fun e => by
    rw [upd_ne (ne_of e hd (by intro z; cases z))]
    exact e
  rw [valV_put]
  by_cases e : (Sum.inr y : Key) = Sum.inr x
  · rw [if_pos e]
    cases e
    rcases h x with ⟨_, h⟩ | ⟨l1, xs1, h1, _⟩
    · refine .inr ⟨l, [], rfl, nl, kl hl, by rw [h]; exact .nil, fun z hz => ?_⟩
      rw [valV_put] at hz
      by_cases e : (Sum.inr z : Key) = Sum.inr x
      · cases e
        rfl
      · rw [if_neg e] at hz
        exact absurd hz (no z)
    · rw [hx] at h1
      cases h1
  · rw [if_neg e]
    rcases h y with h | ⟨l1, xs1, h1, h2, h3, h4, h5⟩
    · exact .inl h
    · refine .inr ⟨l1, xs1, h1, h2, kl h3, DqAll.putD (N := NF) h4 hd fun z => z, fun z hz => ?_⟩
      rw [valV_put] at hz
      by_cases e2 : (Sum.inr z : Key) = Sum.inr x
      · rw [if_pos e2] at hz
        cases hz
        exact absurd h1 (no y)
      · rw [if_neg e2] at hz
        exact h5 z hz
theorem Kp.dq {kv0 : List (Key × V)} {n : Nat} {ds : List PyData} (k : Kp d HK HZ) (hd : HK d = some (.dK kv0)) (h : DqAll K HK NF n xs ds) : DqAll K HZ NF n xs ds :=
  h.keep (fun a ys z => by
    rcases z with (z | ⟨o, z⟩) | z
    · exact .inl (.inl (k _ _ (ne_of z hd (by intro z; cases z)) z))
    · exact .inl (.inr ⟨o, k _ _ (ne_of z hd (by intro z; cases z)) z⟩)
    · exact .inr z) (fun _ _ na => na.elim) (fun _ _ na => na.elim)
theorem Kp.sq {kv0 : List (Key × V)} {a : Addr} (k : Kp d HK HZ) (hd : HK d = some (.dK kv0)) (z : SqT K HK a xs) : SqT K HZ a xs := by
  rcases z with (z | ⟨o, z⟩) | z
  · exact .inl (.inl (k _ _ (ne_of z hd (by intro z; cases z)) z))
  · exact .inl (.inr ⟨o, k _ _ (ne_of z hd (by intro z; cases z)) z⟩)
  · exact .inr z
theorem Kp.free {u : HO} (k : Kp d HK H) (hd : H d = some u) (n : H l = none) : HK l = none := by
  cases e : HK l with
  | none => rfl
  | some o =>
    rw [k l o (fun z => by rw [z, hd] at n; cases n) e] at n
    cases n
theorem SLc.ownD {T : Tb} {o : HO} {ys : List (Key × V)} (s : SLc T c H H') (n : H p = none) (e : H' p = some (.dK ys)) : SLc T c H (upd H' p o) := by
  refine ⟨fun x y nx nt h => ?_, fun x q h => ?_, s.t.put e nt_dK ncD⟩
  · rw [upd_ne (ne_of_none h n)]
    exact s.k _ _ nx nt h
  · rw [upd_ne (ne_of_none h n)]
    exact s.q _ _ h
theorem SLc.ownL {T : Tb} {o : HO} {ys : List V} (s : SLc T c H H') (n : H p = none) (e : H' p = some (.lst ys)) : SLc T c H (upd H' p o) := by
  refine ⟨fun x y nx nt h => ?_, fun x q h => ?_, s.t.put e nt_lst ncL⟩
  · rw [upd_ne (ne_of_none h n)]
    exact s.k _ _ nx nt h
  · rw [upd_ne (ne_of_none h n)]
    exact s.q _ _ h
theorem SLc.same {T : Tb} {H1 : Hp} (s : SLc T c H H1) (k : Same H1 H') : SLc T c H H' := s.trans (SLc.of (SL.of s.t k))
theorem KOk.same {L : Lx} {kvs : List (Key × V)} (h : KOk K H L kvs) (s : Same H H') : KOk K H' L kvs := by
  rcases h with h | ⟨lf, xs, r, e1, e2, e3⟩
  · exact .inl h
  · exact .inr ⟨lf, xs, r, e1, s _ _ e2, e3.same s⟩
theorem Kp.same (k : Kp d HK H) (s : Same H H') : Kp d HK H' := fun a o n e => s _ _ (k a o n e)
theorem Kp.own {o : HO} (k : Kp d HK H) (n : HK l = none) : Kp d HK (upd H l o) := fun a u na e => by
  rw [upd_ne (ne_of_none e n)]
  exact k a u na e
theorem Kp.at {o : HO} (k : Kp d HK H) : Kp d HK (upd H d o) := fun a u na e => by
  rw [upd_ne na]
  exact k a u na e
end
section
variable {P : Program} {w : World} {K : PySem.W.Frag} {mg : Str → Option Value} {base : Heap}
abbrev kF (lf : Addr) : Key × V := (.inr "forms", .ref lf)
abbrev kT (d : Addr) : Key × V := (.inr "trees by text", .ref d)
def spTrees (K : PySem.W.Frag) (T : Tb) (C : Addr) : Sp := fun vs H Q _ => ∃ (p c : Addr) (L : Lx) (N : Addr → Prop) (kvs : List (Key × V)), vs = [.ref p] ∧ TgB C K N H p c L kvs ∧ KOk K H L kvs ∧ L.Ok ∧ TbOk T H ∧
  ∀ (d lf : Addr) (r : List (Key × V)) (H' : Hp), SLc T c H H' → (kvs = [] ∧ r = [] ∨ kvs = kF lf :: r) → TgB C K N H' p c L (kF lf :: r) → KOk K H' L (kF lf :: r) → d ≠ c → H d = none → TreesAt K H' d (formsM L) → Q (.ref d) H'
theorem ok_trees {f fK C : Addr} {fd fdK : FuncData} {T : Tb} (F : Fun K "trees_by_text" "trees_by_text" s_trees_by_text f fd)
    (kK : PySem.W.keepIn K (.ref fK) = true) (bK : Binds K fdK ["tongue"] []) (gK : mg "kept_forms" = some (.ref fK)) (GK : FnOk P w K mg base CX0 9 fK fdK ["tongue"] (spKept K T C)) :
    FnOk P w K mg base CX0 10 f fd ["tongue"] (spTrees K T C) := by
  refine F.ok sc_trees_by_text (fun vs H Q E h => ?_) (fun cdv A outer s H vs Q E hr h => ?_)
  · obtain ⟨p, c, L, N, kvs, rfl, _⟩ := h
    rfl
  · obtain ⟨p, c, L, N, kvs, rfl, hT, hK, hL, hTb, q⟩ := h
    refine ⟨_, pss_cons (ps_set (i := 1) sc_trees_by_text.nd rfl (.inl rfl) pe_dnewK)
      (pss_cons (ps_for PassesOwn.never rfl (pi_list (pe_call GK hr (by rfl) gK kK bK .nil pass0 (pa_cons (pv 0) pa_nil))) (pg_tup rfl (pgs_cons (pg_name (i := 2) sc_trees_by_text.nd rfl (.inl rfl)) (pgs_cons (pg_name (i := 3) sc_trees_by_text.nd rfl (.inl rfl)) (pgs_cons (pg_name (i := 4) sc_trees_by_text.nd rfl (.inl rfl)) pgs_nil))))
        (pss_one (ps_expr (pe_bm PySem.F.plainAttrs_list PySem.F.slot_list_append PySem.F.type_list_append mt_append (pe_dsetd (pv 1) (pv 2) (pe_lst pa_nil) ⟨rfl, rfl, rfl, rfl⟩) (pa_cons (pe_tup (pa_cons pe_str (pa_cons (pv 3) (pa_cons (pv 4) pa_nil)))) pa_nil)))))
      (pss_one (ps_ret (pv 1)))), ?_⟩
    intro d nd
    have zd : H d = none := nd
    have hc : H c = some (.dK kvs) := by
      obtain ⟨_, _, _, _, _, _, _, _, _, e⟩ := hT
      exact e
    have ncd : c ≠ d := ne_of_none hc nd
    have s0 := same_new (o := .dK []) nd
    have hd0 : (upd H d (.dK [])) d = some (.dK []) := upd_same
    have t0 := hT.sl (SL.of hTb s0)
    refine ⟨_, rfl, p, c, L, N, kvs, rfl, t0, hK.same s0, hL, hTb.same s0, fun lf xs r HK sK hcond tK hlf hx => ⟨lf, rfl, ⟨_, .inl (.inl hlf)⟩, ?_⟩⟩
    have hdK : HK d = some (.dK []) := sK.k _ _ ncd.symm nt_dK hd0
    have s1 : SLc T c H HK := (SLc.of (SL.of hTb s0)).trans sK
    have hcK : HK c = some (.dK (kF lf :: r)) := by
      obtain ⟨_, _, _, _, _, _, _, _, _, e⟩ := tK
      exact e
    have nlf : lf ≠ d := ne_of hlf hdK (by intro z; cases z)
    have hxl : xs.length = (formsM L).length := by rw [hx.len, List.length_map]
    have fl := forms_len hL
    have szl : 4000 ≤ sizeLine := by decide
    refine for_it (walk_list (K := K) (a := lf) (xs := xs)) (fun i σ HZ => (∃ y2 y3 y4 : Option V, σ = [some (.ref p), some (.ref d), y2, y3, y4]) ∧ SLc T c H HZ ∧ Kp d HK HZ ∧ ∃ tv, HZ d = some (.dK tv) ∧ tv.length ≤ i ∧ TreesI K HK HZ tv ((formsM L).take i))
      ⟨⟨_, _, _, rfl⟩, s1, Kp.refl _ _, [], hdK, Nat.le_refl _, fun x => .inl ⟨rfl, rfl⟩⟩ (fun i σ HZ _ z => .inl (.inl (z.2.2.1 _ _ nlf hlf))) (fun i v σ HZ HZ' hi hP' hY => ?_) (fun σ HZ hP' => ?_)
    · obtain ⟨e0, hv⟩ := hY
      subst e0
      obtain ⟨⟨y2, y3, y4, rfl⟩, sZ, kZ, tv, hdZ, htl, hI⟩ := hP'
      obtain ⟨⟨x, a, b⟩, hrow, hdq⟩ := dq_at hx hv
      obtain ⟨u, rfl, hu'⟩ := row_inv hdq
      have huZ := Kp.sq kZ hdK hu'
      have li : i < (formsM L).length := (List.getElem?_eq_some_iff.mp hrow).1
      have htk : (formsM L).take (i + 1) = (formsM L).take i ++ [(x, a, b)] := by rw [List.take_succ, hrow]; rfl
      have bnd : ∀ {xs1 : List V} {H1 : Hp} {y : Str}, DqAll K H1 NF 1 xs1 ((byT ((formsM L).take i) y).map treeD) → xs1.length ≤ 1600 := fun h => by
        rw [h.len, List.length_map]
        refine Nat.le_trans (List.length_filter_le _ _) ?_
        rw [List.length_take]
        omega
      refine ⟨u, _, rfl, huZ, rfl, _, _, rfl, _, _, rfl, _, _, rfl, rfl, ?_⟩
      refine ⟨_, rfl, d, rfl, .inl ⟨tv, .inl hdZ⟩, _, rfl, Nat.zero_le _, fun l0 nl0 => ?_⟩
      have sl0 := same_new (o := .lst []) nl0
      have zl0 : HK l0 = none := Kp.free kZ hdZ nl0
      have hl0 : (upd HZ' l0 (.lst [])) l0 = some (.lst []) := upd_same
      have hd1 := sl0 _ _ hdZ
      have hI1 := hI.same sl0
      have no : ∀ y : Str, valV tv (.inr y) ≠ some (.ref l0) := fun y e => by
        rcases hI y with ⟨h, _⟩ | ⟨l1, xs1, h1, _, h3, _⟩
        · rw [h] at e
          cases e
        · rw [h1] at e
          cases e
          rw [show HZ' l0 = none from nl0] at h3
          cases h3
      have s2 := sZ.same sl0
      have k2 := kZ.same sl0
      generalize upd HZ' l0 (.lst []) = H1 at sl0 hl0 hd1 hI1 s2 k2 ⊢
      refine ⟨tv, .inr x, hd1, rfl, by omega, fun v hv => ?_, fun hn => ?_⟩
      · rcases hI1 x with ⟨h, _⟩ | ⟨l, xs1, h1, h2, h3, h4, h5⟩
        · rw [h] at hv
          cases hv
        · rw [h1] at hv
          cases hv
          refine ⟨.inl ⟨rfl, _, .inl (.inl h3)⟩, _, rfl, _, rfl, (show 3 ≤ sizeLine by decide), fun t nt => ?_⟩
          have st := same_new (o := .tup [.str "word", .int (a : Nat), .int (b : Nat)]) nt
          have ht : (upd H1 t (.tup [.str "word", .int (a : Nat), .int (b : Nat)])) t = some (.tup [.str "word", .int (a : Nat), .int (b : Nat)]) := upd_same
          have hlT := st _ _ h3
          have hdT := st _ _ hd1
          have hIT := hI1.same st
          have s3 := s2.same st
          have k3 := k2.same st
          have b1 := bnd h4
          generalize upd H1 t (.tup [.str "word", .int (a : Nat), .int (b : Nat)]) = HT at ht hlT hdT hIT s3 k3 ⊢
          refine ⟨l, xs1, _, rfl, rfl, hlT, by omega, ⟨_, _, _, rfl⟩, s3.ownL (s1.free hcK h2) hlT, k3.own h2, tv, by rw [upd_ne (ne_of hdT hlT (by intro z; cases z))]; exact hdT, by omega, ?_⟩
          rw [htk]
          exact hIT.app h1 hlT (.inl (.inl ht))
      · have hI2 := hI1.new hn hl0 zl0 no hd1
        have ndl : l0 ≠ d := ne_of hl0 hd1 (by intro z; cases z)
        have hd2 : (upd H1 d (.dK (putK tv (.inr x) (.ref l0)))) d = some (.dK (putK tv (.inr x) (.ref l0))) := upd_same
        have hl2 : (upd H1 d (.dK (putK tv (.inr x) (.ref l0)))) l0 = some (.lst []) := by rw [upd_ne ndl]; exact hl0
        have s3 := s2.ownD (o := .dK (putK tv (.inr x) (.ref l0))) zd hd1
        have k3 : Kp d HK (upd H1 d (.dK (putK tv (.inr x) (.ref l0)))) := k2.at
        have hx2 : valV (putK tv (.inr x) (.ref l0)) (.inr x) = some (.ref l0) := by rw [valV_put, if_pos rfl]
        have hln : (putK tv (.inr x) (.ref l0)).length ≤ tv.length + 1 := length_putK _ _ _
        generalize putK tv (.inr x) (.ref l0) = tv2 at hI2 hd2 hl2 s3 k3 hx2 hln ⊢
        generalize upd H1 d (.dK tv2) = H2 at hI2 hd2 hl2 s3 k3 ⊢
        refine ⟨.inl ⟨rfl, _, .inl (.inl hl2)⟩, _, rfl, _, rfl, (show 3 ≤ sizeLine by decide), fun t nt => ?_⟩
        have st := same_new (o := .tup [.str "word", .int (a : Nat), .int (b : Nat)]) nt
        have ht : (upd H2 t (.tup [.str "word", .int (a : Nat), .int (b : Nat)])) t = some (.tup [.str "word", .int (a : Nat), .int (b : Nat)]) := upd_same
        have hlT := st _ _ hl2
        have hdT := st _ _ hd2
        have hIT := hI2.same st
        have s4 := s3.same st
        have k4 := k3.same st
        generalize upd H2 t (.tup [.str "word", .int (a : Nat), .int (b : Nat)]) = HT at ht hlT hdT hIT s4 k4 ⊢
        refine ⟨l0, [], _, rfl, rfl, hlT, Nat.zero_lt_of_lt (show 3999 < sizeLine by decide), ⟨_, _, _, rfl⟩, s4.ownL (s1.free hcK zl0) hlT, k4.own zl0, tv2, by rw [upd_ne (ne_of hdT hlT (by intro z; cases z))]; exact hdT, by omega, ?_⟩
        rw [htk]
        exact hIT.app hx2 hlT (.inl (.inl ht))
    · obtain ⟨⟨y2, y3, y4, rfl⟩, sZ, kZ, tv, hdZ, _, hI⟩ := hP'
      rw [hxl, List.take_length] at hI
      have hcZ := kZ _ _ ncd hcK
      exact ⟨_, rfl, q d lf r HZ sZ hcond (hT.slc sZ hcZ) (.inr ⟨lf, xs, r, rfl, kZ _ _ nlf hlf, Kp.dq kZ hdK hx⟩) ncd.symm zd (hI.at hdZ)⟩
end
end Bn

namespace Bn
open PySem PySem.Spec PyProof.Rows L2 BR GX RM GY
/-! ### analyses -/
/-- what a Tongue keeps -/
def KA (K : PySem.W.Frag) (H : Hp) (L : Lx) (B : Addr → Prop) (kvs : List (Key × V)) : Prop := KOk K H L kvs ∧ (kvs = [] ∨ (∃ lf, kvs = [kF lf]) ∨ ∃ lf d, kvs = [kF lf, kT d] ∧ ¬ B d ∧ TreesAt K H d (formsM L))
theorem KA.same {K : PySem.W.Frag} {H H' : Hp} {L : Lx} {B : Addr → Prop} {kvs : List (Key × V)} (h : KA K H L B kvs) (s : Same H H') : KA K H' L B kvs := by
  obtain ⟨h1, h2⟩ := h
  refine ⟨h1.same s, ?_⟩
  rcases h2 with h | h | ⟨lf, d, e, n, h⟩
  · exact .inl h
  · exact .inr (.inl h)
  · exact .inr (.inr ⟨lf, d, e, n, h.same s⟩)
section
variable {P : Program} {w : World} {K : PySem.W.Frag} {mg : Str → Option Value} {base : Heap}
def spAna (K : PySem.W.Frag) (T : Tb) (C : Addr) : Sp := fun vs H Q _ => ∃ (p c : Addr) (L : Lx) (N : Addr → Prop) (B : Addr → Prop) (kvs : List (Key × V)) (x : Str), vs = [.ref p, .str x] ∧ TgB C K N H p c L kvs ∧ KA K H L B kvs ∧ B c ∧ (∀ b, B b → H b ≠ none) ∧ L.Ok ∧ TbOk T H ∧
  ∀ (kvs' : List (Key × V)) (H1 : Hp) (l : Addr) (xs : List V), SLc T c H H1 → TgB C K N H1 p c L kvs' → KA K H1 L B kvs' → H1 l = none → DqAll K H1 NF 1 xs ((byT (formsM L) x).map treeD) → Q (.ref l) (upd H1 l (.lst xs))
theorem ok_ana {f fT C : Addr} {fd fdT : FuncData} {T : Tb} (F : Fun K "analyses" "analyses" s_analyses f fd) (TC : TgC K C) (mli : mg "list" = none)
    (kT' : PySem.W.keepIn K (.ref fT) = true) (bT : Binds K fdT ["tongue"] []) (gT : mg "trees_by_text" = some (.ref fT)) (GT : FnOk P w K mg base CX0 10 fT fdT ["tongue"] (spTrees K T C)) :
    FnOk P w K mg base CX0 11 f fd ["tongue", "word"] (spAna K T C) := by
  refine F.ok sc_analyses (fun vs H Q E h => ?_) (fun cdv A outer s H vs Q E hr h => ?_)
  · obtain ⟨p, c, L, N, B, kvs, x, rfl, _⟩ := h
    rfl
  · obtain ⟨p, c, L, N, B, kvs, x, rfl, hT, hK, hBc, hBe, hL, hTb, q⟩ := h
    have hu := hu_of hr
    refine ⟨_, C8.pss_cut (ps_if (pt_cmp (pc_dnotin hu pe_str (pe_fld (pv 0) rfl))) (pss_one (ps_dput hu (pe_fld (pv 0) rfl) pe_str (pe_call GT hr (by rfl) gT kT' bT .nil pass0 (pa_cons (pv 0) pa_nil)) rfl)) pss_nil)
      (pss_one (ps_ret (pe_callTy call_list_of (by rfl) mli (by decide +kernel) (pa_cons (pe_dget2 hu (pe_dget hu (pe_fld (pv 0) rfl) pe_str (fun _ _ => rfl)) (pv 1) (pe_lst pa_nil) ⟨rfl, rfl, rfl, rfl⟩) pa_nil)))), ?_⟩
    refine ⟨fun σ HA => σ = [some (.ref p), some (.str x)] ∧ SLc T c H HA ∧ ∃ lf d, TgB C K N HA p c L [kF lf, kT d] ∧ KOk K HA L [kF lf, kT d] ∧ ¬ B d ∧ TreesAt K HA d (formsM L), ?_, fun σ HA hM => ?_⟩
    · obtain ⟨dx, o, fe, kd, pl, h1, h2, h3, h4, h5⟩ := id hT
      obtain ⟨k1, k2⟩ := hK
      by_cases hn : valV kvs (.inr "trees by text") = none
      · have hr0 : ∀ lf r, (kvs = [] ∧ r = [] ∨ kvs = kF lf :: r) → r = [] := fun lf r hc => by
          rcases hc with ⟨_, h⟩ | h
          · exact h
          · rcases k2 with e | ⟨lf', e⟩ | ⟨lf', d', e, _⟩
            · rw [e] at h
              cases h
            · rw [e] at h
              cases h
              rfl
            · rw [e] at hn
              have : valV [kF lf', kT d'] (.inr "trees by text") = some (.ref d') := rfl
              rw [this] at hn
              cases hn
        refine ⟨_, rfl, p, C, dx, _, _, rfl, h1, TC.cl, TC.nC, tgF_kept _ _ _ _ _, c, none, rfl, .inl ⟨kvs, .inr "trees by text", .inl h5, rfl, hn.symm⟩, true, rfl, iteT ⟨_, rfl, p, c, L, N, kvs, rfl, hT, k1, hL, hTb, fun d lf r HA sA hcond tA koA ndc zd trA => ?_⟩⟩
        have er := hr0 lf r hcond
        subst er
        obtain ⟨dx', o', fe', kd', pl', g1, g2, g3, g4, g5⟩ := id tA
        refine ⟨_, rfl, p, C, dx', _, _, rfl, g1, TC.cl, TC.nC, tgF_kept _ _ _ _ _, c, _, rfl, DPut.k (k := Sum.inr "trees by text") g5 (show 1 < sizeLine by decide), ?_⟩
        have e2 : putK [kF lf] (Sum.inr "trees by text" : Key) (V.ref d) = [kF lf, kT d] := rfl
        rw [e2]
        have s3 : SLc T c HA (upd HA c (.dK [kF lf, kT d])) := SLc.put sA.t g5
        refine ⟨rfl, sA.trans s3, lf, d, hT.slc (sA.trans s3) upd_same, ?_, fun z => hBe _ z zd, trA.slc s3 g5 ndc⟩
        rcases koA with h | ⟨lf', xs, r, e, hlf, hx⟩
        · cases h
        · cases e
          exact .inr ⟨lf, xs, [kT d], rfl, by rw [upd_ne (ne_of hlf g5 (by intro z; cases z))]; exact hlf, DqAll.putD (N := NF) hx g5 fun z => z⟩
      · rcases k2 with e | ⟨lf', e⟩ | ⟨lf, d, e, ndc, trA⟩
        · exact absurd (by rw [e]; rfl) hn
        · exact absurd (by rw [e]; rfl) hn
        · subst e
          exact ⟨_, rfl, p, C, dx, _, _, rfl, h1, TC.cl, TC.nC, tgF_kept _ _ _ _ _, c, some (.ref d), rfl, .inl ⟨_, .inr "trees by text", .inl h5, rfl, rfl⟩, false, rfl, iteF ⟨rfl, SLc.of (SL.refl hTb), lf, d, hT, k1, ndc, trA⟩⟩
    · obtain ⟨rfl, sA, lf, d, tA, koA, ndc, trA⟩ := hM
      obtain ⟨dx, o, fe, kd, pl, g1, g2, g3, g4, g5⟩ := id tA
      obtain ⟨tv, hd, hv⟩ := id trA
      refine ⟨_, rfl, p, C, dx, _, _, rfl, g1, TC.cl, TC.nC, tgF_kept _ _ _ _ _, c, _, rfl, get_of g5 rfl, d, rfl, .inl ⟨tv, .inl hd⟩, _, rfl, Nat.zero_le _, fun l0 nl0 => ?_⟩
      have s0 := same_new (o := .lst []) nl0
      have hl0 : (upd HA l0 (.lst [])) l0 = some (.lst []) := upd_same
      generalize upd HA l0 (.lst []) = H1 at s0 hl0 ⊢
      have s1 := sA.same s0
      have t1 : TgB C K N H1 p c L [kF lf, kT d] := hT.slc s1 (s0 _ _ g5)
      have ka1 : KA K H1 L B [kF lf, kT d] := KA.same ⟨koA, .inr (.inr ⟨lf, d, rfl, ndc, trA⟩)⟩ s0
      refine ⟨valV tv (.inr x), .inl ⟨tv, .inr x, .inl (s0 _ _ hd), rfl, rfl⟩, ?_⟩
      rcases hv x with ⟨e, e2⟩ | ⟨l1, xs1, e, e2, e3⟩
      · rw [e]
        exact ⟨l0, _, rfl, .inl (.inl (.inl hl0)), fun l nl => q _ _ l [] s1 t1 ka1 nl (by rw [e2]; exact .nil)⟩
      · rw [e]
        exact ⟨l1, _, rfl, .inl (.inl (.inl (s0 _ _ e2))), fun l nl => q _ _ l xs1 s1 t1 ka1 nl (e3.same s0)⟩
end
end Bn

namespace Bn
open PySem PySem.Spec PyProof.Rows L2 BR GX RM GY
theorem TgB.c {K : PySem.W.Frag} {H : Hp} {C p c : Addr} {N : Addr → Prop} {L : Lx} {kvs : List (Key × V)} (h : TgB C K N H p c L kvs) : H c = some (.dK kvs) := by
  obtain ⟨dx, o, fd, kd, pl, h1, h2, h3, h4, h5⟩ := h
  exact h5
section
variable {T : Tb} {K : PySem.W.Frag} {H H' H0 H1 : Hp} {c : Addr}
theorem KA.slc {L : Lx} {B : Addr → Prop} {c' : Addr} {kvs kvc : List (Key × V)} (h : KA K H L B kvs) (s : SLc T c' H H') (hc' : H c' = some (.dK kvc)) (bc : B c') : KA K H' L B kvs := by
  obtain ⟨h1, h2⟩ := h
  refine ⟨?_, ?_⟩
  · rcases h1 with h | ⟨lf, xs, r, e, hlf, hx⟩
    · exact .inl h
    · exact .inr ⟨lf, xs, r, e, s.lst hc' hlf, hx.slc s hc' fun z => z⟩
  · rcases h2 with h | h | ⟨lf, d, e, n, h⟩
    · exact .inl h
    · exact .inr (.inl h)
    · exact .inr (.inr ⟨lf, d, e, n, h.slc s hc' fun z => n (z ▸ bc)⟩)
theorem KA.sl {L : Lx} {B : Addr → Prop} {c' : Addr} {kvs kvc : List (Key × V)} (h : KA K H L B kvs) (s : SL T H H') (hc' : H c' = some (.dK kvc)) (bc : B c') : KA K H' L B kvs := h.slc (SLc.of s) hc' bc
end
section
variable {P : Program} {w : World} {K : PySem.W.Frag} {mg : Str → Option Value} {base : Heap}
/-! ### forms -/
def spForms (K : PySem.W.Frag) (T : Tb) (C : Addr) : Sp := fun vs H Q _ => ∃ (p c : Addr) (L : Lx) (N : Addr → Prop) (B : Addr → Prop) (kvs : List (Key × V)), vs = [.ref p] ∧ TgB C K N H p c L kvs ∧ KA K H L B kvs ∧ B c ∧ L.Ok ∧ TbOk T H ∧
  ∀ (kvs' : List (Key × V)) (H1 : Hp) (l : Addr) (xs : List V), SLc T c H H1 → TgB C K N H1 p c L kvs' → KA K H1 L B kvs' → H1 l = none → DqAll K H1 NF 1 xs ((formsM L).map rowD) → Q (.ref l) (upd H1 l (.lst xs))
theorem ok_forms {f fK C : Addr} {fd fdK : FuncData} {T : Tb} (F : Fun K "forms" "forms" s_forms f fd) (mli : mg "list" = none)
    (kK : PySem.W.keepIn K (.ref fK) = true) (bK : Binds K fdK ["tongue"] []) (gK : mg "kept_forms" = some (.ref fK)) (GK : FnOk P w K mg base CX0 9 fK fdK ["tongue"] (spKept K T C)) :
    FnOk P w K mg base CX0 10 f fd ["tongue"] (spForms K T C) := by
  refine F.ok sc_forms (fun vs H Q E h => ?_) (fun cdv A outer s H vs Q E hr h => ?_)
  · obtain ⟨p, c, L, N, B, kvs, rfl, _⟩ := h
    rfl
  · obtain ⟨p, c, L, N, B, kvs, rfl, hT, hK, hB, hL, hTb, q⟩ := h
    refine ⟨_, pss_one (ps_ret (pe_callTy call_list_of (by rfl) mli (by decide +kernel) (pa_cons (pe_call GK hr (by rfl) gK kK bK .nil pass0 (pa_cons (pv 0) pa_nil)) pa_nil))), ?_⟩
    refine ⟨_, rfl, p, c, L, N, kvs, rfl, hT, hK.1, hL, hTb, fun lf xs r H1 s1 hcond t1 h1 hx => ⟨lf, _, rfl, .inl (.inl (.inl h1)), fun l nl => ?_⟩⟩
    refine q _ H1 l xs s1 t1 ?_ nl hx
    rcases hcond with ⟨e1, e2⟩ | e
    · subst e2
      exact ⟨.inr ⟨lf, xs, [], rfl, h1, hx⟩, .inr (.inl ⟨lf, rfl⟩)⟩
    · subst e
      exact hK.slc s1 hT.c hB
end
end Bn

namespace Bn
open PySem PySem.Spec PyProof.Rows L2 BR GX RM GY
/-! ### the words of k14's tongues -/
def vl14 (s : Sd) (e : En) : List Str := if s.k = "verb" then [(getM e.ms "time").getD "", (getM e.ms "num").getD ""] else [(getM e.ms "num").getD ""]
section
variable {L : Lx}
theorem In14.nmN (h : In14 L) : namesM L "noun" = (["num"] : List Str) := namesM_of (L := L) h.kn (k := ⟨"noun", ["num"], false, false⟩) (h.k.mem_iff.mpr (.head _))
theorem In14.nmV (h : In14 L) : namesM L "verb" = (["time", "num"] : List Str) := namesM_of (L := L) h.kn (k := ⟨"verb", ["time", "num"], true, false⟩) (h.k.mem_iff.mpr (.tail _ (.head _)))
theorem In14.sewn (h : In14 L) {s : Sd} {e : En} (hs : s ∈ L.ss) (he : e ∈ L.es) (hl : s.l = e.l) : sewnM L.ms s.x e.x = wr14 s e ∧ wr14 s e ≠ "" ∧ wr14 s e ∉ bad14 := by
  have he := h.e.mem_iff.mp he
  rcases h.stem hs with ⟨r, hr, rfl⟩ | ⟨r, hr, rfl⟩
  · have a := wr_nouns r hr e he hl.symm
    exact ⟨sew14 h.m a.1, a.2, bad_nouns r hr e he hl.symm⟩
  · have a := wr_verbs r hr e he hl.symm
    exact ⟨sew14 h.m a.1, a.2, bad_verbs r hr e he hl.symm⟩
theorem tails_n : ∀ e ∈ tails14, e.l = "n" → (∀ p ∈ e.ms, p.1 ∈ (["num"] : List Str)) ∧ ∀ x ∈ (["num"] : List Str), getM e.ms x ≠ none := by decide +kernel
theorem tails_v : ∀ e ∈ tails14, e.l = "v" → (∀ p ∈ e.ms, p.1 ∈ (["time", "num"] : List Str)) ∧ ∀ x ∈ (["time", "num"] : List Str), getM e.ms x ≠ none := by decide +kernel
theorem In14.good (h : In14 L) {s : Sd} {e : En} (hs : s ∈ L.ss) (he : e ∈ L.es) (hl : s.l = e.l) : Good L s e := by
  have w := h.sewn hs he hl
  have he := h.e.mem_iff.mp he
  have tx : sewnM L.ms s.x e.x ≠ "" := by
    rw [w.1]
    exact w.2.1
  rcases h.stem hs with ⟨r, hr, rfl⟩ | ⟨r, hr, rfl⟩
  · have a := tails_n e he hl.symm
    have nm : namesM L (nS r).k = (["num"] : List Str) := h.nmN
    exact ⟨hl, tx, by rw [nm]; exact a.1, by rw [nm]; exact fun x hx => .inr (a.2 x hx), fun x _ a b ha => by cases ha⟩
  · have a := tails_v e he hl.symm
    have nm : namesM L (vS r).k = (["time", "num"] : List Str) := h.nmV
    exact ⟨hl, tx, by rw [nm]; exact a.1, by rw [nm]; exact fun x hx => .inr (a.2 x hx), fun x _ a b ha => by cases ha⟩
theorem In14.vals (h : In14 L) {s : Sd} {e : En} (hs : s ∈ L.ss) (he : e ∈ L.es) : valsM L s e = if s.l = e.l then some (vl14 s e) else none := by
  by_cases hl : s.l = e.l
  · rw [if_pos hl, valsM_good (h.good hs he hl)]
    refine congrArg some ?_
    have nn : ∀ (o : Option Str), (o.or none).getD "" = o.getD "" := fun o => by cases o <;> rfl
    rcases h.stem hs with ⟨r, hr, rfl⟩ | ⟨r, hr, rfl⟩
    · rw [show namesM L (nS r).k = (["num"] : List Str) from h.nmN]
      show [((getM e.ms "num").or none).getD ""] = _
      rw [nn]
      rfl
    · rw [show namesM L (vS r).k = (["time", "num"] : List Str) from h.nmV]
      show [((getM e.ms "time").or none).getD "", ((getM e.ms "num").or none).getD ""] = _
      rw [nn, nn]
      rfl
  · rw [if_neg hl, valsM_bad fun g => hl g.ln]
/-! a row of those due: text, stem, ending -/
def dr14 (L : Lx) (i j : Nat) : Option (Str × Nat × Nat) := match L.ss[i]?, L.es[j]? with
  | some s, some e => if s.l = e.l then some (wr14 s e, i, j) else none
  | _, _ => none
def due14 (L : Lx) : List (Str × Nat × Nat) := (List.range L.ss.length).flatMap fun i => (List.range L.es.length).filterMap (dr14 L i)
theorem In14.row (h : In14 L) (i j : Nat) : rowM L i j = dr14 L i j := by
  unfold dr14
  cases h1 : L.ss[i]? with
  | none =>
    unfold rowM
    rw [h1]
  | some s =>
    cases h2 : L.es[j]? with
    | none =>
      unfold rowM
      rw [h1, h2]
    | some e =>
      have hs := List.mem_of_getElem? h1
      have he := List.mem_of_getElem? h2
      rw [rowM_of h1 h2, h.vals hs he]
      by_cases hl : s.l = e.l
      · rw [if_pos hl, (h.sewn hs he hl).1]
        show (if true = true then some (wr14 s e, i, j) else none) = if s.l = e.l then _ else _
        rw [if_pos rfl, if_pos hl]
      · rw [if_neg hl]
        show (if false = true then _ else none) = if s.l = e.l then _ else _
        rw [if_neg (by decide), if_neg hl]
theorem In14.forms (h : In14 L) : formsM L = due14 L := by
  unfold formsM formsN rowsM due14
  have : (fun i j => rowM L i j) = dr14 L := funext fun i => funext fun j => h.row i j
  rw [show (fun i => List.filterMap (rowM L i) (List.range L.es.length)) = fun i => List.filterMap (dr14 L i) (List.range L.es.length) from funext fun i => congrArg (fun f => List.filterMap f _) (congrFun this i)]
theorem due_mem {r : Str × Nat × Nat} (hr : r ∈ due14 L) : ∃ s e, L.ss[r.2.1]? = some s ∧ L.es[r.2.2]? = some e ∧ s.l = e.l ∧ r.1 = wr14 s e := by
  unfold due14 at hr
  obtain ⟨i, _, hr⟩ := List.mem_flatMap.mp hr
  obtain ⟨j, _, hr⟩ := List.mem_filterMap.mp hr
  unfold dr14 at hr
  cases h1 : L.ss[i]? with
  | none => rw [h1] at hr; cases hr
  | some s =>
    cases h2 : L.es[j]? with
    | none => rw [h1, h2] at hr; cases hr
    | some e =>
      rw [h1, h2] at hr
      by_cases hl : s.l = e.l
      · have hr : (if s.l = e.l then some (wr14 s e, i, j) else none) = some r := hr
        rw [if_pos hl] at hr
        cases hr
        exact ⟨s, e, h1, h2, hl, rfl⟩
      · have hr : (if s.l = e.l then some (wr14 s e, i, j) else none) = some r := hr
        rw [if_neg hl] at hr
        cases hr
theorem In14.none (h : In14 L) {x : Str} (hx : x ∈ bad14) : byT (formsM L) x = [] := by
  unfold byT
  rw [h.forms, List.filter_eq_nil_iff]
  intro r hr e
  have e := of_decide_eq_true e
  obtain ⟨s, en, h1, h2, hl, h3⟩ := due_mem hr
  have := (h.sewn (List.mem_of_getElem? h1) (List.mem_of_getElem? h2) hl).2.2
  rw [← h3, e] at this
  exact this hx
end
end Bn

/-! orders: the mathematics -/
namespace Bn
open PySem PySem.Spec PyProof.Rows L2 BR GX RM GY
theorem paired_mono {α β : Type} {R S : α → β → Prop} {l : List α} {m : List β} (h : Paired R l m) (f : ∀ a b, R a b → S a b) : Paired S l m := by
  induction h with
  | nil => exact .nil
  | cons x _ ih => exact .cons (f _ _ x) ih
theorem paired_snoc {α β : Type} {R : α → β → Prop} {l : List α} {m : List β} {a : α} {b : β} (h : Paired R l m) (x : R a b) : Paired R (l ++ [a]) (m ++ [b]) := by
  induction h with
  | nil => exact .cons x .nil
  | cons y _ ih => exact .cons y ih
theorem paired_mono2 {α β : Type} {R S : α → β → Prop} {l : List α} {m : List β} (h : Paired R l m) : (∀ {b : β} (a : α), a ∈ l → R a b → S a b) → Paired S l m := by
  induction h with
  | nil => exact fun _ => .nil
  | cons x _ ih => exact fun f => .cons (f _ (List.mem_cons_self ..) x) (ih fun a ha r => f a (List.mem_cons_of_mem _ ha) r)
theorem paired_app {α β : Type} {R : α → β → Prop} {l l' : List α} {m m' : List β} (h : Paired R l m) (h' : Paired R l' m') : Paired R (l ++ l') (m ++ m') := by
  induction h with
  | nil => exact h'
  | cons x _ ih => exact .cons x ih
theorem paired_at {α β : Type} {R : α → β → Prop} {l : List α} {m : List β} (h : Paired R l m) : ∀ {i : Nat} {x : α}, l[i]? = some x → ∃ y, m[i]? = some y ∧ R x y := by
  induction h with
  | nil => intro i x e; simp at e
  | cons r _ ih =>
    intro i x e
    cases i with
    | zero =>
      cases Option.some.inj e
      exact ⟨_, rfl, r⟩
    | succ j => exact ih e
abbrev Rw := List Nat
abbrev iv (r : Rw) : List V := r.map fun n => V.int (n : Nat)
def absI (x : Int) : Int := if x < 0 then -x else x
def nearB (st : Int) (n p : Nat) : Bool := decide (absI ((p : Int) - (n : Int)) ≤ st)
def nearF (m : Nat) (st : Int) (n : Nat) : List Nat := (List.range m).filter (nearB st n)
def stepF (vals : List Nat) (r : Rw) : List Rw := (vals.filter fun p => decide (p ∉ r)).map fun p => r ++ [p]
def rowsF (m : Nat) (st : Int) : Nat → List Rw
  | 0 => [[]]
  | k + 1 => (rowsF m st k).flatMap (stepF (nearF m st k))
abbrev Prs := List (Nat × Nat)
def aheadF (A : Prs) (r : Rw) : Bool := A.all fun pr => decide (r.getD pr.1 0 < r.getD pr.2 0)
def plF (m : Nat) (st : Int) (A : Prs) : List Rw := (rowsF m st m).filter (aheadF A)
theorem near_lt {m n : Nat} {st : Int} : ∀ p ∈ nearF m st n, p < m := fun p hp => List.mem_range.mp (List.mem_filter.mp hp).1
theorem near_len (m n : Nat) (st : Int) : (nearF m st n).length ≤ m := Nat.le_trans (List.length_filter_le _ _) (by rw [List.length_range]; exact Nat.le_refl _)
theorem step_len (vals : List Nat) (r : Rw) : (stepF vals r).length ≤ vals.length := by
  unfold stepF
  rw [List.length_map]
  exact List.length_filter_le _ _
theorem flatMap_len {α β : Type} (f : α → List β) (n : Nat) : ∀ (l : List α), (∀ x ∈ l, (f x).length ≤ n) → (l.flatMap f).length ≤ l.length * n
  | [], _ => by simp
  | x :: l, h => by
    rw [List.flatMap_cons, List.length_append, List.length_cons, Nat.add_mul, Nat.one_mul]
    have := flatMap_len f n l fun y hy => h y (List.mem_cons_of_mem _ hy)
    have h1 := h x (List.mem_cons_self ..)
    omega
theorem rows_size (m : Nat) (st : Int) : ∀ k, (rowsF m st k).length ≤ m ^ k
  | 0 => Nat.le_refl _
  | k + 1 => by
    have := flatMap_len (stepF (nearF m st k)) m (rowsF m st k) fun r _ => Nat.le_trans (step_len _ _) (near_len _ _ _)
    exact Nat.le_trans this (Nat.mul_le_mul_right m (rows_size m st k))
theorem rows_in (m : Nat) (st : Int) : ∀ k, ∀ r ∈ rowsF m st k, r.length = k ∧ ∀ p ∈ r, p < m
  | 0 => fun r hr => by
    rw [List.mem_singleton.mp hr]
    exact ⟨rfl, fun p hp => by cases hp⟩
  | k + 1 => fun r hr => by
    obtain ⟨r0, h0, h1⟩ := List.mem_flatMap.mp hr
    obtain ⟨p, hp, e⟩ := List.mem_map.mp h1
    obtain ⟨i1, i2⟩ := rows_in m st k r0 h0
    subst e
    refine ⟨by rw [List.length_append, i1]; rfl, fun q hq => ?_⟩
    rcases List.mem_append.mp hq with z | z
    · exact i2 q z
    · rw [List.mem_singleton.mp z]
      exact near_lt p (List.mem_filter.mp hp).1
theorem pow5 {m k : Nat} (hm : m ≤ 5) (hk : k ≤ 5) : m ^ k ≤ 3125 := Nat.le_trans (Nat.pow_le_pow_left hm k) (Nat.le_trans (Nat.pow_le_pow_right (by decide) hk) (by decide))
theorem line4000 {n : Nat} (h : n ≤ 4000) : n < sizeLine := Nat.lt_of_le_of_lt h (by decide)
theorem take_get1 {α : Type} {l : List α} {i : Nat} {x : α} (h : l[i]? = some x) : l.take (i + 1) = l.take i ++ [x] := by
  rw [List.take_succ, h]
  rfl
theorem filter_snoc {α : Type} {l : List α} {i : Nat} {x : α} {f : α → Bool} (h : l[i]? = some x) : (l.take (i + 1)).filter f = (l.take i).filter f ++ (if f x = true then [x] else []) := by
  rw [take_get1 h, List.filter_append]
  congr 1
  by_cases e : f x = true
  · rw [if_pos e, List.filter_cons_of_pos e]
    rfl
  · rw [if_neg e, List.filter_cons_of_neg e]
    rfl
theorem flatMap_snoc {α β : Type} (f : α → List β) (l : List α) (x : α) : (l ++ [x]).flatMap f = l.flatMap f ++ f x := by
  rw [List.flatMap_append]
  simp
theorem inV_int (p : Nat) : ∀ r : Rw, inV (V.int (p : Nat)) (iv r) = decide (p ∈ r)
  | [] => rfl
  | q :: r => by
    have ih := inV_int p r
    have e : inV (V.int (p : Nat)) (iv (q :: r)) = (eqV (V.int (q : Nat)) (V.int (p : Nat)) || inV (V.int (p : Nat)) (iv r)) := by
      unfold inV
      rfl
    rw [e, ih]
    have e2 : eqV (V.int (q : Nat)) (V.int (p : Nat)) = decide (p = q) := by
      unfold eqV
      by_cases h : p = q
      · subst h
        simp
      · have : ¬ (q : Int) = (p : Int) := by omega
        simp [h, this]
    rw [e2]
    by_cases h : p = q
    · simp [h]
    · simp [h]
theorem flat_ints (r : Rw) : (iv r).all flatV = true := by
  induction r with
  | nil => rfl
  | cons a r ih =>
    show (flatV (V.int (a : Nat)) && (iv r).all flatV) = true
    rw [ih]
    rfl
theorem all_snoc {α : Type} {l : List α} {i : Nat} {x : α} {f : α → Bool} (h : l[i]? = some x) : (l.take (i + 1)).all f = ((l.take i).all f && f x) := by
  rw [take_get1 h, List.all_append]
  simp
theorem all_bad {α : Type} {l : List α} {i : Nat} {x : α} {f : α → Bool} (h : l[i]? = some x) (e : f x = false) : l.all f = false := by
  rw [List.all_eq_false]
  exact ⟨x, List.mem_of_getElem? h, by rw [e]; decide⟩
end Bn

set_option pp.maxSteps 400
namespace Bn
open PySem PySem.Spec PyProof.Rows L2 BR GX RM GY
/-! ### data of tuples alone -/
mutual
def noL : PyData → Bool
  | .list _ => false
  | .tuple ds => noLAll ds
  | .dict _ => false
  | _ => true
def noLAll : List PyData → Bool
  | [] => true
  | d :: ds => noL d && noLAll ds
end
section
variable {K : PySem.W.Frag} {H H' : Hp}
mutual
theorem dp_keep (hT : ∀ a xs, SqT K H a xs → SqT K H' a xs) : ∀ (d : PyData) (v : V), noL d = true → Dp K H v d → Dp K H' v d
  | .none, _, _, h => by cases h; exact .non
  | .bool _, _, _, h => by cases h; exact .bl _
  | .int _, _, _, h => by cases h; exact .int _
  | .str _, _, _, h => by cases h; exact .str _
  | .list _, _, n, _ => by cases n
  | .dict _, _, n, _ => by cases n
  | .tuple ds, _, n, h => by
    cases h with
    | tup h1 h2 => exact .tup (hT _ _ h1) (dp_keepAll hT ds _ n h2)
theorem dp_keepAll (hT : ∀ a xs, SqT K H a xs → SqT K H' a xs) : ∀ (ds : List PyData) (vs : List V), noLAll ds = true → DpAll K H vs ds → DpAll K H' vs ds
  | [], _, _, h => by cases h; exact .nil
  | d :: ds, _, n, h => by
    cases h with
    | cons h1 h2 =>
      have n' : (noL d && noLAll ds) = true := n
      rw [Bool.and_eq_true] at n'
      exact .cons (dp_keep hT d _ n'.1 h1) (dp_keepAll hT ds _ n'.2 h2)
end
theorem dpAll_len {vs : List V} {ds : List PyData} (h : DpAll K H vs ds) : vs.length = ds.length := by
  induction ds generalizing vs with
  | nil => cases h; rfl
  | cons d ds ih =>
    cases h with
    | cons h1 h2 => rw [List.length_cons, List.length_cons, ih h2]
theorem dpAll_at {vs : List V} {ds : List PyData} (h : DpAll K H vs ds) : ∀ {i : Nat} {v : V}, vs[i]? = some v → ∃ d, ds[i]? = some d ∧ Dp K H v d := by
  induction ds generalizing vs with
  | nil => intro i v e; cases h; simp at e
  | cons d ds ih =>
    intro i v e
    cases h with
    | cons h1 h2 =>
      cases i with
      | zero => cases Option.some.inj e; exact ⟨_, rfl, h1⟩
      | succ i => exact ih h2 e
theorem dpAll_strs : ∀ {vs : List V} {xs : List Str}, DpAll K H vs (xs.map PyData.str) → vs = xs.map V.str
  | _, [], h => by cases h; rfl
  | _, x :: xs, h => by
    rw [List.map_cons] at h
    cases h with
    | cons h1 h2 => cases h1; rw [dpAll_strs h2]; rfl
theorem dpAll_ofStrs : ∀ (xs : List Str), DpAll K H (xs.map V.str) (xs.map PyData.str)
  | [] => .nil
  | x :: xs => .cons (.str x) (dpAll_ofStrs xs)
theorem dpAll_ints : ∀ {vs : List V} {xs : Rw}, DpAll K H vs (xs.map fun n => PyData.int (n : Nat)) → vs = iv xs
  | _, [], h => by cases h; rfl
  | _, x :: xs, h => by
    rw [List.map_cons] at h
    cases h with
    | cons h1 h2 => cases h1; rw [dpAll_ints h2]; rfl
theorem dpAll_ofInts : ∀ (xs : Rw), DpAll K H (iv xs) (xs.map fun n => PyData.int (n : Nat))
  | [] => .nil
  | x :: xs => .cons (.int _) (dpAll_ofInts xs)
end
/-! ### trees -/
inductive Tr where
  | word (i j : Nat)
  | gap (k : Str) (vs : List Str)
  | rule (r : Nat) (pl : Rw) (ts : List Tr)
def strsT (vs : List Str) : PyData := .tuple (vs.map PyData.str)
def rwD (pl : Rw) : PyData := .tuple (pl.map fun n => PyData.int (n : Nat))
mutual
def trD : Tr → PyData
  | .word i j => .tuple [.str "word", .int (i : Nat), .int (j : Nat)]
  | .gap k vs => .tuple [.str "gap", .str k, strsT vs]
  | .rule r pl ts => .tuple [.str "rule", .int (r : Nat), rwD pl, .tuple (treesD ts)]
def treesD : List Tr → List PyData
  | [] => []
  | t :: ts => trD t :: treesD ts
end
theorem treesD_map : ∀ ts : List Tr, treesD ts = ts.map trD
  | [] => by unfold treesD; rfl
  | t :: ts => by unfold treesD; rw [treesD_map ts]; rfl
theorem noL_strs : ∀ vs : List Str, noLAll (vs.map PyData.str) = true
  | [] => by simp [noLAll]
  | v :: vs => by
    rw [List.map_cons]
    unfold noLAll
    rw [noL_strs vs]
    simp [noL]
theorem noL_ints : ∀ vs : Rw, noLAll (vs.map fun n => PyData.int (n : Nat)) = true
  | [] => by simp [noLAll]
  | v :: vs => by
    rw [List.map_cons]
    unfold noLAll
    rw [noL_ints vs]
    simp [noL]
mutual
theorem noL_tree : ∀ t : Tr, noL (trD t) = true
  | .word i j => by unfold trD; simp [noL, noLAll]
  | .gap k vs => by
    unfold trD strsT
    simp only [noL, noLAll, noL_strs, Bool.and_true]
  | .rule r pl ts => by
    unfold trD rwD
    simp only [noL, noLAll, noL_ints, Bool.and_true, Bool.true_and]
    exact noL_trees ts
theorem noL_trees : ∀ ts : List Tr, noLAll (treesD ts) = true
  | [] => by unfold treesD; simp [noLAll]
  | t :: ts => by
    unfold treesD noLAll
    rw [noL_tree t, noL_trees ts]
    rfl
end
section
variable {K : PySem.W.Frag} {H H' : Hp} {v : V}
theorem tr_word {i j : Nat} (h : Dp K H v (trD (.word i j))) : ∃ a, v = .ref a ∧ SqT K H a [.str "word", .int (i : Nat), .int (j : Nat)] := by
  unfold trD at h
  cases h with
  | tup h1 h2 =>
    cases h2 with
    | cons a b =>
      cases a
      cases b with
      | cons a b =>
        cases a
        cases b with
        | cons a b =>
          cases a
          cases b
          exact ⟨_, rfl, h1⟩
theorem tr_gap {k : Str} {vs : List Str} (h : Dp K H v (trD (.gap k vs))) : ∃ a b, v = .ref a ∧ SqT K H a [.str "gap", .str k, .ref b] ∧ SqT K H b (vs.map V.str) := by
  unfold trD strsT at h
  cases h with
  | tup h1 h2 =>
    cases h2 with
    | cons a b =>
      cases a
      cases b with
      | cons a b =>
        cases a
        cases b with
        | cons a b =>
          cases b
          cases a with
          | tup h3 h4 =>
            rw [dpAll_strs h4] at h3
            exact ⟨_, _, rfl, h1, h3⟩
theorem tr_rule {r : Nat} {pl : Rw} {ts : List Tr} (h : Dp K H v (trD (.rule r pl ts))) : ∃ a b c xs, v = .ref a ∧ SqT K H a [.str "rule", .int (r : Nat), .ref b, .ref c] ∧ SqT K H b (iv pl) ∧ SqT K H c xs ∧ DpAll K H xs (ts.map trD) := by
  unfold trD rwD at h
  cases h with
  | tup h1 h2 =>
    cases h2 with
    | cons a b =>
      cases a
      cases b with
      | cons a b =>
        cases a
        cases b with
        | cons a b =>
          cases b with
          | cons p q =>
            cases q
            cases a with
            | tup h3 h4 =>
              cases p with
              | tup h5 h6 =>
                rw [dpAll_ints h4] at h3
                rw [treesD_map] at h6
                exact ⟨_, _, _, _, rfl, h1, h3, h5, h6⟩
def nmT : Tr → Str
  | .word _ _ => "word"
  | .gap _ _ => "gap"
  | .rule _ _ _ => "rule"
/-- each tree begins with its word -/
theorem tr_any {t : Tr} (h : Dp K H v (trD t)) : ∃ a r, v = .ref a ∧ SqT K H a (.str (nmT t) :: r) := by
  cases t with
  | word i j => obtain ⟨a, e, h1⟩ := tr_word h; exact ⟨a, _, e, h1⟩
  | gap k vs => obtain ⟨a, b, e, h1, _⟩ := tr_gap h; exact ⟨a, _, e, h1⟩
  | rule r pl ts => obtain ⟨a, b, c, xs, e, h1, _⟩ := tr_rule h; exact ⟨a, _, e, h1⟩
theorem Tr.keep {t : Tr} (h : Dp K H v (trD t)) (hT : ∀ a xs, SqT K H a xs → SqT K H' a xs) : Dp K H' v (trD t) := dp_keep hT _ _ (noL_tree t) h
end
/-! ### all within, last first -/
mutual
def szT : Tr → Nat
  | .word _ _ => 1
  | .gap _ _ => 1
  | .rule _ _ ts => szL ts + 1
def szL : List Tr → Nat
  | [] => 0
  | t :: ts => szT t + szL ts
end
abbrev RwT := Tr × Int × Nat
mutual
def flT (b : Nat) (p : Int) (n : Nat) : Tr → List RwT
  | .word i j => [(.word i j, p, n)]
  | .gap k vs => [(.gap k vs, p, n)]
  | .rule r pl ts => (.rule r pl ts, p, n) :: flL (b + 1) b 0 ts
def flL (b : Nat) (p : Nat) (i : Nat) : List Tr → List RwT
  | [] => []
  | t :: ts => flL b p (i + 1) ts ++ flT (b + szL ts) p i t
end
def flS (b : Nat) : List RwT → List RwT
  | [] => []
  | (t, p, n) :: r => flT b p n t ++ flS (b + szT t) r
def kidsT (p : Nat) (i : Nat) : List Tr → List RwT
  | [] => []
  | t :: ts => (t, (p : Int), i) :: kidsT p (i + 1) ts
mutual
theorem flT_len : ∀ (t : Tr) (b : Nat) (p : Int) (n : Nat), (flT b p n t).length = szT t
  | .word i j, b, p, n => by unfold flT szT; rfl
  | .gap k vs, b, p, n => by unfold flT szT; rfl
  | .rule r pl ts, b, p, n => by
    unfold flT szT
    rw [List.length_cons, flL_len]
theorem flL_len : ∀ (ts : List Tr) (b p i : Nat), (flL b p i ts).length = szL ts
  | [], b, p, i => by unfold flL szL; rfl
  | t :: ts, b, p, i => by
    unfold flL szL
    rw [List.length_append, flL_len ts, flT_len t, Nat.add_comm]
end
def szS : List RwT → Nat
  | [] => 0
  | (t, _, _) :: r => szT t + szS r
theorem flS_len : ∀ (st : List RwT) (b : Nat), (flS b st).length = szS st
  | [], b => rfl
  | (t, p, n) :: r, b => by
    unfold flS szS
    rw [List.length_append, flT_len, flS_len r]
theorem flS_app : ∀ (x y : List RwT) (b : Nat), flS b (x ++ y) = flS b x ++ flS (b + szS x) y
  | [], y, b => by unfold szS; rfl
  | (t, p, n) :: r, y, b => by
    show flT b p n t ++ flS (b + szT t) (r ++ y) = (flT b p n t ++ flS (b + szT t) r) ++ flS (b + (szT t + szS r)) y
    rw [flS_app r y, List.append_assoc, Nat.add_assoc]
theorem flS_kids : ∀ (ts : List Tr) (b p i : Nat), flS b (kidsT p i ts).reverse = flL b p i ts ∧ szS (kidsT p i ts).reverse = szL ts
  | [], b, p, i => by unfold kidsT flL szL; exact ⟨rfl, rfl⟩
  | t :: ts, b, p, i => by
    obtain ⟨h1, h2⟩ := flS_kids ts b p (i + 1)
    have sz : ∀ (x y : List RwT), szS (x ++ y) = szS x + szS y := by
      intro x y
      induction x with
      | nil => show szS y = 0 + szS y; omega
      | cons a x ih =>
        obtain ⟨t, p, n⟩ := a
        rw [List.cons_append]
        show szT t + szS (x ++ y) = szT t + szS x + szS y
        rw [ih]
        omega
    have e1 : flL b p i (t :: ts) = flL b p (i + 1) ts ++ flT (b + szL ts) p i t := by rw [flL]
    have e2 : szL (t :: ts) = szT t + szL ts := by rw [szL]
    have e3 : (kidsT p i (t :: ts)).reverse = (kidsT p (i + 1) ts).reverse ++ [(t, (p : Int), i)] := List.reverse_cons
    rw [e1, e2, e3, flS_app, h1, sz, h2]
    refine ⟨?_, ?_⟩
    · show _ ++ (flT (b + szL ts) p i t ++ []) = _
      rw [List.append_nil]
    · show szL ts + (szT t + 0) = szT t + szL ts
      omega
theorem szT_pos : ∀ t : Tr, 1 ≤ szT t
  | .word _ _ => by unfold szT; omega
  | .gap _ _ => by unfold szT; omega
  | .rule _ _ _ => by unfold szT; omega
theorem kids_len : ∀ (ts : List Tr) (p i : Nat), (kidsT p i ts).length = ts.length
  | [], p, i => rfl
  | t :: ts, p, i => by unfold kidsT; rw [List.length_cons, List.length_cons, kids_len ts]
theorem kids_snoc : ∀ (ts : List Tr) (t : Tr) (p i : Nat), kidsT p i (ts ++ [t]) = kidsT p i ts ++ [(t, (p : Int), i + ts.length)]
  | [], t, p, i => rfl
  | u :: ts, t, p, i => by
    show (u, (p : Int), i) :: kidsT p (i + 1) (ts ++ [t]) = (u, (p : Int), i) :: (kidsT p (i + 1) ts ++ [(t, (p : Int), i + (ts.length + 1))])
    rw [kids_snoc ts t p (i + 1), Nat.add_assoc, Nat.add_comm 1 ts.length]
end Bn

set_option pp.maxSteps 400
namespace Bn
open PySem PySem.Spec PyProof.Rows L2 BR GX RM GY
/-- a row of all_within: the tree, the row of the one around, its number there -/
def RwAt (K : PySem.W.Frag) (H : Hp) (v : V) (r : RwT) : Prop := ∃ a tv, v = .ref a ∧ H a = some (.tup [tv, .int r.2.1, .int (r.2.2 : Nat)]) ∧ Dp K H tv (trD r.1)
theorem RwAt.keep {K : PySem.W.Frag} {H H' : Hp} {v : V} {r : RwT} (h : RwAt K H v r) (hT : ∀ a xs, SqT K H a xs → SqT K H' a xs) (ht : ∀ a xs, H a = some (.tup xs) → H' a = some (.tup xs)) : RwAt K H' v r := let ⟨a, tv, e, h1, h2⟩ := h; ⟨a, tv, e, ht _ _ h1, Tr.keep h2 hT⟩
abbrev RwsAt (K : PySem.W.Frag) (H : Hp) (xs : List V) (R : List RwT) : Prop := Paired (RwAt K H) xs R
theorem RwsAt.sl {K : PySem.W.Frag} {T : Tb} {H H' : Hp} {xs : List V} {R : List RwT} (h : RwsAt K H xs R) (s : SL T H H') : RwsAt K H' xs R := paired_mono h fun _ _ z => z.keep (fun _ _ e => s.sqT e) (fun _ _ e => s.k _ _ nt_tup e)
theorem RwsAt.same {K : PySem.W.Frag} {H H' : Hp} {xs : List V} {R : List RwT} (h : RwsAt K H xs R) (s : Same H H') : RwsAt K H' xs R := paired_mono h fun _ _ z => z.keep (fun _ _ e => sqT_of_same s e) (fun _ _ e => s _ _ e)
theorem RwsAt.put {K : PySem.W.Frag} {H : Hp} {xs ys : List V} {R : List RwT} {a : Addr} {o : HO} (h : RwsAt K H xs R) (e : H a = some (.lst ys)) : RwsAt K (upd H a o) xs R := paired_mono h fun _ _ z => z.keep (fun _ _ q => sqT_updL q e) (fun _ _ q => by rw [upd_ne (ne_of q e (by intro z; cases z))]; exact q)
theorem atI_0 {x : V} {r : List V} : atI (x :: r) 0 = some x := atI_nat (xs := x :: r) (j := 0) rfl
theorem szL_ge : ∀ ts : List Tr, ts.length ≤ szL ts
  | [] => Nat.zero_le _
  | t :: ts => by
    rw [szL, List.length_cons]
    have := szT_pos t
    have := szL_ge ts
    omega
theorem szS_ge : ∀ S : List RwT, S.length ≤ szS S
  | [] => Nat.zero_le _
  | (t, _, _) :: S => by
    show S.length + 1 ≤ szT t + szS S
    have := szT_pos t
    have := szS_ge S
    omega
theorem paired_unsnoc {α β : Type} {R : α → β → Prop} {m : List β} {b : β} : ∀ {l : List α}, Paired R l (m ++ [b]) → ∃ l0 a, l = l0 ++ [a] ∧ Paired R l0 m ∧ R a b := by
  induction m with
  | nil =>
    intro l h
    cases h with
    | cons h1 h2 => cases h2; exact ⟨[], _, rfl, .nil, h1⟩
  | cons c m ih =>
    intro l h
    cases h with
    | cons h1 h2 =>
      obtain ⟨l0, a, rfl, h3, h4⟩ := ih h2
      exact ⟨_ :: l0, a, rfl, .cons h1 h3, h4⟩
section
variable {P : Program} {w : World} {K : PySem.W.Frag} {mg : Str → Option Value} {base : Heap}
abbrev NAw : List Str := ["tree", "rows", "waiting", "row", "number", "inner"]
def spAw (K : PySem.W.Frag) : Sp := fun vs H Q _ => ∃ (v : V) (t : Tr), vs = [v] ∧ Dp K H v (trD t) ∧ szT t ≤ 1000 ∧ ∀ H' l xs, Same H H' → H l = none → H' l = some (.lst xs) → RwsAt K H' xs (flT 0 (-1) 0 t) → Q (.ref l) H'
theorem ok_aw {f : Addr} {fd : FuncData} {k : Nat} (F : Fun K "all_within" "all_within" s_all_within f fd) (ml : mg "len" = none) (me : mg "enumerate" = none) : FnOk P w K mg base CX0 (k + 1) f fd ["tree"] (spAw K) := by
  refine F.ok sc_all_within (fun vs H Q E h => ?_) (fun cdv A outer s H vs Q E hr h => ?_)
  · obtain ⟨v, t, rfl, _⟩ := h
    rfl
  · obtain ⟨v, t, rfl, ht, few, q⟩ := h
    have hu := hu_of hr
    refine ⟨_, pss_cons (ps_set (i := 1) sc_all_within.nd rfl (.inr rfl) (pe_lst pa_nil))
      (pss_cons (ps_set (i := 2) sc_all_within.nd rfl (.inl rfl) (pe_lst (pa_cons (pe_tup (pa_cons (pv 0) (pa_cons (pe_un un_neg pe_int) (pa_cons pe_int pa_nil)))) pa_nil)))
      (pss_cons (ps_while PassesOwn.never (pt_truthK (K := K) rfl (pv 2) (by intro _; rfl))
        (pss_cons (ps_set (i := 3) sc_all_within.nd rfl (.inl rfl) (pe_bm0 PySem.F.plainAttrs_list PySem.F.slot_list_pop PySem.F.type_list_pop mt_pop (pv 2)))
        (pss_cons (ps_if (pt_cmpR op_eq (pe_ix (ix_tupK (K := K) rfl) (pe_ix (ix_tupK (K := K) rfl) (pv 3) pe_int (fun _ _ => rfl)) pe_int (fun _ _ => rfl)) pe_str (nomark _))
          (pss_one (ps_expr (pe_bm PySem.F.plainAttrs_list PySem.F.slot_list_extend PySem.F.type_list_extend mt_extend (pv 2) (pa_cons
            (pe_lc (own := [("number", 4), ("inner", 5)]) (tt := tYes) rfl sc_all_within.nd (pi_enumT (by rfl) me (pa_cons (pe_ix (ix_tupK (K := K) rfl) (pe_ix (ix_tupK (K := K) rfl) (pv 3) pe_int (fun _ _ => rfl)) pe_int (fun _ _ => rfl)) pa_nil))
              (blkOk_by (own := [("number", 4), ("inner", 5)]) (N := NAw) (sc := defScope s_all_within) (by decide +kernel))
              (fun _ _ _ _ _ => pg_tupK (K := K) (n := 2) rfl (pg_tup (n := 2) rfl (pgs_cons (pg_name (i := 4) sc_all_within.nd rfl (Or.inl rfl)) (pgs_cons (pg_name (i := 5) sc_all_within.nd rfl (Or.inl rfl)) pgs_nil)))) (fun _ _ _ _ _ => pts_nil)
              (fun _ _ _ _ _ => pe_tup (pa_cons (pv 5) (pa_cons (pe_callB (call_lenK (K := K) rfl) (by rfl) ml PySem.boot_len (pa_cons (pv 1) pa_nil)) (pa_cons (pv 4) pa_nil))))) pa_nil)))) pss_nil)
        (pss_one (ps_expr (pe_bm PySem.F.plainAttrs_list PySem.F.slot_list_append PySem.F.type_list_append mt_append (pv 1) (pa_cons (pv 3) pa_nil)))))))
      (pss_one (ps_ret (pv 1))))), ?_⟩
    refine ⟨Nat.zero_le _, fun r nr => ?_⟩
    have s1 := same_new (o := .lst []) nr
    have hr1 : (upd H r (.lst [])) r = some (.lst []) := upd_same
    generalize upd H r (.lst []) = H1 at s1 hr1 ⊢
    refine ⟨_, rfl, _, rfl, (show 3 ≤ sizeLine by decide), fun t1 nt1 => ⟨(show 1 ≤ sizeLine by decide), fun wl nw => ?_⟩⟩
    have s2 := same_new (o := .tup [v, .int (-1), .int 0]) nt1
    have ht2 : (upd H1 t1 (.tup [v, .int (-1), .int 0])) t1 = some (.tup [v, .int (-1), .int 0]) := upd_same
    generalize upd H1 t1 (.tup [v, .int (-1), .int 0]) = H2 at s2 ht2 nw ⊢
    have s3 := same_new (o := .lst [.ref t1]) nw
    have hw3 : (upd H2 wl (.lst [.ref t1])) wl = some (.lst [.ref t1]) := upd_same
    have n2 : H wl = none := by
      cases e : H wl with
      | none => rfl
      | some o => rw [s2 _ _ (s1 _ _ e)] at nw; cases nw
    have nrw : r ≠ wl := fun z => by rw [z] at hr1; rw [s2 _ _ hr1] at nw; cases nw
    generalize upd H2 wl (.lst [.ref t1]) = H3 at s3 hw3 ⊢
    have s13 := s1.trans (s2.trans s3)
    refine ⟨fun m σ HY => ∃ (y3 y4 y5 : Option V) (xs ws : List V) (R S : List RwT), σ = [some v, some (.ref r), some (.ref wl), y3, y4, y5] ∧ Same H HY ∧ HY r = some (.lst xs) ∧ HY wl = some (.lst ws) ∧ RwsAt K HY xs R ∧ RwsAt K HY ws S ∧ R ++ flS R.length S.reverse = flT 0 (-1) 0 t ∧ m = szS S.reverse, ⟨szT t, ?_⟩, fun m σ HY hW => ?_⟩
    · refine ⟨_, _, _, [], [.ref t1], [], [(t, -1, 0)], rfl, s13, s3 _ _ (s2 _ _ hr1), hw3, .nil, .cons ⟨t1, v, rfl, s3 _ _ ht2, Tr.keep ht fun _ _ e => sqT_of_same s13 e⟩ .nil, ?_, ?_⟩
      · show flT 0 (-1) 0 t ++ [] = _
        rw [List.append_nil]
      · rfl
    · obtain ⟨y3, y4, y5, xs, ws, R, S, rfl, sY, hrY, hwY, hR, hS, hf, rfl⟩ := hW
      refine ⟨_, rfl, !ws.isEmpty, .inl ⟨ws, .inl (.inl hwY), rfl⟩, ?_⟩
      rcases List.eq_nil_or_concat S with rfl | ⟨S0, ⟨tx, p, n⟩, rfl⟩
      · cases hS
        refine iteF ⟨_, rfl, ?_⟩
        have e : R = flT 0 (-1) 0 t := by
          rw [← hf]
          show R = R ++ []
          rw [List.append_nil]
        rw [e] at hR
        exact q _ r xs sY nr hrY hR
      · rw [List.concat_eq_append] at hS hf ⊢
        obtain ⟨ws0, wv, rfl, hS0, hx⟩ := paired_unsnoc hS
        have e1 : (ws0 ++ [wv]).isEmpty = false := by cases ws0 <;> rfl
        rw [e1]
        refine iteT ⟨_, fun σ' H' h => h, ?_⟩
        obtain ⟨ra, tv, rfl, hra, htv⟩ := hx
        refine ⟨_, rfl, .inl ⟨rfl, _, .inl (.inl hwY)⟩, wl, _, V.ref ra, rfl, rfl, hwY, ?_, ?_⟩
        · rw [List.length_append]
          show (ws0 ++ [V.ref ra])[ws0.length + 1 - 1]? = _
          rw [Nat.add_sub_cancel, List.getElem?_append_right (Nat.le_refl _), Nat.sub_self]
          rfl
        rw [List.dropLast_concat]
        have hwQ : (upd HY wl (.lst ws0)) wl = some (.lst ws0) := upd_same
        have sQ : Same H (upd HY wl (.lst ws0)) := Same.own sY n2
        have hrQ : (upd HY wl (.lst ws0)) r = some (.lst xs) := by rw [upd_ne nrw]; exact hrY
        have hRQ := RwsAt.put (o := .lst ws0) hR hwY
        have hSQ := RwsAt.put (o := .lst ws0) hS0 hwY
        have hraQ : (upd HY wl (.lst ws0)) ra = some (.tup [tv, .int p, .int (n : Nat)]) := by rw [upd_ne (ne_of hra hwY (by intro z; cases z))]; exact hra
        have htvQ := Tr.keep htv fun a xs (q : SqT K HY a xs) => sqT_updL (o := .lst ws0) q hwY
        have frQ : ∀ {a : Addr}, (upd HY wl (.lst ws0)) a = none → H a = none := fun {a} e => sQ.free e
        generalize upd HY wl (.lst ws0) = HQ at hwQ sQ hrQ hRQ hSQ hraQ htvQ frQ ⊢
        have tot : R.length + szS (S0 ++ [(tx, p, n)]).reverse = szT t := by
          have e := congrArg List.length hf
          rw [List.length_append, flS_len, flT_len] at e
          exact e
        have xl : xs.length = R.length := Paired.length hR
        rw [List.reverse_append, List.reverse_cons, List.reverse_nil, List.nil_append, List.cons_append, List.nil_append] at hf tot ⊢
        have tot2 : R.length + (szT tx + szS S0.reverse) = szT t := tot
        have hf2 : R ++ (flT R.length p n tx ++ flS (R.length + szT tx) S0.reverse) = flT 0 (-1) 0 t := hf
        obtain ⟨xs0, e0⟩ : ∃ xs0, xs0 = xs := ⟨xs, rfl⟩
        -- behind: the row is put to the others
        have last : ∀ (y4 y5 : Option V) (HZ : Hp) (ws1 : List V) (S1 : List RwT), Same H HZ → HZ r = some (.lst xs) → HZ wl = some (.lst ws1) → RwsAt K HZ xs R → RwsAt K HZ ws1 S1 → RwAt K HZ (.ref ra) (tx, p, n) → R ++ [(tx, p, n)] ++ flS (R.length + 1) S1.reverse = flT 0 (-1) 0 t → szS S1.reverse < szT tx + szS S0.reverse →
            ∃ m', m' < szT tx + szS S0.reverse ∧ (∃ (y3' y4' y5' : Option V) (xs ws : List V) (R S : List RwT), ([some v, some (.ref r), some (.ref wl), some (.ref ra), y4, y5] : L2.St) = [some v, some (.ref r), some (.ref wl), y3', y4', y5'] ∧ Same H (upd HZ r (.lst (xs0 ++ [.ref ra]))) ∧ (upd HZ r (.lst (xs0 ++ [.ref ra]))) r = some (.lst xs) ∧ (upd HZ r (.lst (xs0 ++ [.ref ra]))) wl = some (.lst ws) ∧ RwsAt K (upd HZ r (.lst (xs0 ++ [.ref ra]))) xs R ∧ RwsAt K (upd HZ r (.lst (xs0 ++ [.ref ra]))) ws S ∧ R ++ flS R.length S.reverse = flT 0 (-1) 0 t ∧ m' = szS S.reverse) := fun y4 y5 HZ ws1 S1 sZ hrZ hwZ hRZ hSZ hxZ eZ lt => by
          subst e0
          refine ⟨szS S1.reverse, lt, _, y4, y5, _, ws1, R ++ [(tx, p, n)], S1, rfl, Same.own sZ nr, upd_same, ?_, ?_, ?_, ?_, rfl⟩
          · rw [upd_ne (Ne.symm nrw)]
            exact hwZ
          · exact paired_app (RwsAt.put hRZ hrZ) (.cons (by
              have := RwsAt.put (o := .lst (xs0 ++ [.ref ra])) (.cons hxZ .nil : RwsAt K HZ [.ref ra] [(tx, p, n)]) hrZ
              cases this with
              | cons a _ => exact a) .nil)
          · exact RwsAt.put hSZ hrZ
          · rw [List.length_append]
            exact eZ
        subst e0
        have few1 : xs0.length < sizeLine := small_line (by have := szT_pos tx; omega)
        have hx2 : ∀ {HZ : Hp}, Same HQ HZ → RwAt K HZ (.ref ra) (tx, p, n) := fun {HZ} sZ => ⟨ra, tv, rfl, sZ _ _ hraQ, Tr.keep htvQ fun _ _ e => sqT_of_same sZ e⟩
        obtain ⟨ta, tr, rfl, hta⟩ := tr_any htvQ
        refine ⟨_, rfl, ra, _, _, V.ref ta, rfl, rfl, .inl (.inl hraQ), rfl, ta, _, _, V.str (nmT tx), rfl, rfl, hta, atI_0, rfl, decide (V.str (nmT tx) = V.str "rule"), rfl, ?_⟩
        cases tx with
        | word i j =>
          refine iteF ⟨_, rfl, .inl ⟨rfl, _, .inl (.inl hrQ)⟩, _, rfl, r, _, _, rfl, rfl, hrQ, few1, last _ _ HQ ws0 S0 sQ hrQ hwQ hRQ hSQ (hx2 fun _ _ e => e) ?_ ?_⟩
          · rw [List.append_assoc]
            exact hf2
          · show _ < 1 + _
            omega
        | gap k' vs' =>
          refine iteF ⟨_, rfl, .inl ⟨rfl, _, .inl (.inl hrQ)⟩, _, rfl, r, _, _, rfl, rfl, hrQ, few1, last _ _ HQ ws0 S0 sQ hrQ hwQ hRQ hSQ (hx2 fun _ _ e => e) ?_ ?_⟩
          · rw [List.append_assoc]
            exact hf2
          · show _ < 1 + _
            omega
        | rule rn pl ts =>
          obtain ⟨a, b, c, cs, e5, g1, g2, g3, g4⟩ := tr_rule htvQ
          cases e5
          refine iteT ?_
          refine ⟨_, rfl, .inl ⟨rfl, _, .inl (.inl hwQ)⟩, ?_⟩
          refine ⟨_, rfl, ra, _, _, V.ref ta, rfl, rfl, .inl (.inl hraQ), rfl, ta, _, _, V.ref c, rfl, rfl, g1, rfl, c, _, rfl, g3, fun D nD => ?_⟩
          have cl : cs.length = ts.length := by rw [dpAll_len g4, List.length_map]
          have szts : szT (.rule rn pl ts) = szL ts + 1 := by rw [szT]
          refine lc_it (walk_enumT (K := K) (a := c) (xs := cs)) (fun i HX => Same HQ HX ∧ ∃ us, HX D = some (.lst us) ∧ RwsAt K HX us (kidsT R.length 0 (ts.take i))) ⟨same_new nD, [], upd_same, .nil⟩ (fun i HX _ z => sqT_of_same z.1 g3) (fun i x HX HX' hi hP' hY => ?_) (fun HX hP' => ?_)
          · obtain ⟨T, u1, u2, rfl, nT, rfl, e1', e2⟩ := hY
            obtain ⟨sX, us, hD, hus⟩ := hP'
            have e3 := Option.some.inj e1'
            subst e3
            obtain ⟨d, ed, hd⟩ := dpAll_at g4 e2
            rw [List.getElem?_map] at ed
            obtain ⟨ti, eti, rfl⟩ := Option.map_eq_some_iff.mp ed
            have sT := same_new (o := .tup [.int (i : Nat), u2]) nT
            refine ⟨T, _, rfl, .inl (.inl upd_same), rfl, _, _, rfl, _, _, rfl, rfl, ?_⟩
            have hD1 := sT _ _ hD
            generalize upd HX T (.tup [.int (i : Nat), u2]) = HX1 at sT hD1 ⊢
            have sX1 := sX.trans sT
            refine ⟨rfl, tYes_in ⟨_, rfl, _, rfl, r, _, rfl, .inl (.inl (.inl (sX1 _ _ hrQ))), _, rfl, (show 3 ≤ sizeLine by decide), fun T2 nT2 => ?_⟩⟩
            have sT2 := same_new (o := .tup [u2, .int (xs0.length : Nat), .int (i : Nat)]) nT2
            have hul : us.length = i := by
              have := Paired.length hus
              rw [kids_len, List.length_take] at this
              have := (List.getElem?_eq_some_iff.mp eti).1
              omega
            refine ⟨_, sT2 _ _ hD1, ?_, Same.own (sX1.trans sT2) nD, us ++ [.ref T2], upd_same, ?_⟩
            · exact small_line (by have := (List.getElem?_eq_some_iff.mp e2).1; have := szL_ge ts; omega)
            · rw [take_get eti, kids_snoc]
              have h2 : RwsAt K (upd HX1 T2 (.tup [u2, .int (xs0.length : Nat), .int (i : Nat)])) (us ++ [.ref T2]) (kidsT R.length 0 (ts.take i) ++ [(ti, (R.length : Int), 0 + (ts.take i).length)]) := paired_app (RwsAt.same hus (sT.trans sT2)) (.cons ⟨T2, u2, rfl, ?_, Tr.keep hd fun _ _ e => sqT_of_same (sX1.trans sT2) e⟩ .nil)
              · exact RwsAt.put h2 (sT2 _ _ hD1)
              · rw [upd_same, xl, List.length_take]
                have := (List.getElem?_eq_some_iff.mp eti).1
                rw [show min i ts.length = i from by omega, Nat.zero_add]
          · obtain ⟨sX, us, hD, hus⟩ := hP'
            rw [cl, List.take_length] at hus
            have nwD : wl ≠ D := fun z => by rw [z, nD] at hwQ; cases hwQ
            have ul : us.length = ts.length := by
              have := Paired.length hus
              rw [kids_len] at this
              exact this
            have wlen : ws0.length = S0.length := Paired.length hSQ
            have slen := szS_ge S0.reverse
            rw [List.length_reverse] at slen
            have tge := szL_ge ts
            refine ⟨wl, D, _, _, rfl, rfl, sX _ _ hwQ, hD, Nat.le_of_lt (small_line (by omega)), ?_⟩
            have hrX := sX _ _ hrQ
            have hwX := sX _ _ hwQ
            have hrE : (upd HX wl (.lst (ws0 ++ us))) r = some (.lst xs0) := by rw [upd_ne nrw]; exact hrX
            refine ⟨_, rfl, .inl ⟨rfl, _, .inl (.inl hrE)⟩, _, rfl, r, _, _, rfl, rfl, hrE, few1, last _ _ _ (ws0 ++ us) (S0 ++ kidsT R.length 0 ts) (Same.own (sQ.trans sX) n2) hrE upd_same (RwsAt.put (hRQ.same sX) hwX) (RwsAt.put (paired_app (RwsAt.same hSQ sX) hus) hwX) ?_ ?_ ?_⟩
            · have := RwsAt.put (o := .lst (ws0 ++ us)) (.cons (hx2 sX) .nil : RwsAt K HX [.ref ra] [(.rule rn pl ts, p, n)]) hwX
              cases this with
              | cons a _ => exact a
            · obtain ⟨k1, k2⟩ := flS_kids ts (R.length + 1) R.length 0
              rw [List.reverse_append, flS_app, k1, k2]
              have e1 : flT R.length p n (.rule rn pl ts) = (.rule rn pl ts, p, n) :: flL (R.length + 1) R.length 0 ts := by rw [flT]
              rw [e1, szts] at hf2
              rw [← hf2, List.append_assoc]
              congr 1
              show _ :: _ = _ :: _
              rw [show R.length + (szL ts + 1) = R.length + 1 + szL ts from by omega]
              rfl
            · obtain ⟨k1, k2⟩ := flS_kids ts (R.length + 1) R.length 0
              rw [List.reverse_append]
              have e2 : ∀ x y : List RwT, szS (x ++ y) = szS x + szS y := fun x y => by
                have := congrArg List.length (flS_app x y 0)
                rw [flS_len, List.length_append, flS_len, flS_len] at this
                exact this
              rw [e2, k2, szts]
              omega
end
end Bn

set_option pp.maxSteps 400
namespace Bn
open PySem PySem.Spec PyProof.Rows L2 BR GX RM GY
theorem paired_atR {α β : Type} {R : α → β → Prop} {l : List α} {m : List β} (h : Paired R l m) : ∀ {i : Nat} {y : β}, m[i]? = some y → ∃ x, l[i]? = some x ∧ R x y := by
  induction h with
  | nil => intro i y e; simp at e
  | cons r _ ih =>
    intro i y e
    cases i with
    | zero => cases Option.some.inj e; exact ⟨_, rfl, r⟩
    | succ j =>
      obtain ⟨x, e1, e2⟩ := ih e
      exact ⟨x, e1, e2⟩
/-! ### what is told of trees, by rows -/
section
variable {α : Type}
/-- what is told is put beside the one around -/
def pushI (st : Nat → List α) (p : Int) (x : α) : Nat → List α := fun k => if p = (k : Nat) then st k ++ [x] else st k
def foldR (F : Tr → List α → Option α) (b : Nat) : List RwT → (Nat → List α) → Sum (Nat → List α) Nat
  | [], st => .inl st
  | (t, p, _) :: rest, st => match foldR F (b + 1) rest st with
    | .inr e => .inr e
    | .inl st' => match F t (st' b) with
      | none => .inr b
      | some x => .inl (pushI st' p x)
mutual
def valT (F : Tr → List α → Option α) (b : Nat) : Tr → Sum α Nat
  | .word i j => match F (.word i j) [] with
    | none => .inr b
    | some x => .inl x
  | .gap k vs => match F (.gap k vs) [] with
    | none => .inr b
    | some x => .inl x
  | .rule r pl ts => match valL F (b + 1) ts with
    | .inr e => .inr e
    | .inl I => match F (.rule r pl ts) I with
      | none => .inr b
      | some x => .inl x
def valL (F : Tr → List α → Option α) (b : Nat) : List Tr → Sum (List α) Nat
  | [] => .inl []
  | t :: ts => match valT F (b + szL ts) t with
    | .inr e => .inr e
    | .inl x => match valL F b ts with
      | .inr e => .inr e
      | .inl I => .inl (x :: I)
end
theorem foldR_app (F : Tr → List α → Option α) : ∀ (x y : List RwT) (b : Nat) (st : Nat → List α), foldR F b (x ++ y) st = (match foldR F (b + x.length) y st with
    | .inr e => (.inr e : Sum (Nat → List α) Nat)
    | .inl st' => foldR F b x st')
  | [], y, b, st => by
    show foldR F b y st = (match foldR F (b + 0) y st with
      | .inr e => (.inr e : Sum (Nat → List α) Nat)
      | .inl st' => .inl st')
    rw [Nat.add_zero]
    cases foldR F b y st <;> rfl
  | (t, p, n) :: x, y, b, st => by
    have ih := foldR_app F x y (b + 1) st
    have e : b + ((t, p, n) :: x).length = b + 1 + x.length := by rw [List.length_cons]; omega
    rw [e]
    show (match foldR F (b + 1) (x ++ y) st with
      | .inr e => (.inr e : Sum (Nat → List α) Nat)
      | .inl st' => match F t (st' b) with
        | none => .inr b
        | some x => .inl (pushI st' p x)) = _
    rw [ih]
    cases foldR F (b + 1 + x.length) y st with
    | inr e => rfl
    | inl st' => rfl
/-- what a walk over a tree's rows comes to -/
def Comes (r : Sum (Nat → List α) Nat) (v : Sum α Nat) (st : Nat → List α) (b : Nat) (p : Int) : Prop := match v with
  | .inr e => r = .inr e
  | .inl x => ∃ st', r = .inl st' ∧ ∀ k < b, st' k = pushI st p x k
def ComesL (r : Sum (Nat → List α) Nat) (v : Sum (List α) Nat) (st : Nat → List α) (b p : Nat) : Prop := match v with
  | .inr e => r = .inr e
  | .inl I => ∃ st', r = .inl st' ∧ ∀ k < b, st' k = if k = p then st k ++ I else st k
theorem foldR_one (F : Tr → List α → Option α) (t : Tr) (p : Int) (n b : Nat) (st : Nat → List α) (h : st b = []) : Comes (foldR F b [(t, p, n)] st) (match F t [] with
    | none => .inr b
    | some x => .inl x) st b p := by
  have e : foldR F b [(t, p, n)] st = match F t (st b) with
      | none => .inr b
      | some x => .inl (pushI st p x) := rfl
  rw [e, h]
  cases F t [] with
  | none => exact rfl
  | some x => exact ⟨_, rfl, fun k _ => rfl⟩
mutual
theorem foldT (F : Tr → List α → Option α) : ∀ (t : Tr) (b : Nat) (p : Int) (n : Nat) (st : Nat → List α), (∀ k, b ≤ k → k < b + szT t → st k = []) → p < (b : Nat) → Comes (foldR F b (flT b p n t) st) (valT F b t) st b p
  | .word i j, b, p, n, st, h, hp => by
    unfold flT valT
    exact foldR_one F _ p n b st (h b (Nat.le_refl _) (by unfold szT; omega))
  | .gap k vs, b, p, n, st, h, hp => by
    unfold flT valT
    exact foldR_one F _ p n b st (h b (Nat.le_refl _) (by unfold szT; omega))
  | .rule r pl ts, b, p, n, st, h, hp => by
    have ih := foldL F ts (b + 1) b 0 st (fun k h1 h2 => h k (by omega) (by unfold szT; omega)) (by omega)
    unfold flT valT
    have e : foldR F b ((.rule r pl ts, p, n) :: flL (b + 1) b 0 ts) st = match foldR F (b + 1) (flL (b + 1) b 0 ts) st with
      | .inr e => .inr e
      | .inl st' => match F (.rule r pl ts) (st' b) with
        | none => .inr b
        | some x => .inl (pushI st' p x) := rfl
    rw [e]
    cases hv : valL F (b + 1) ts with
    | inr e =>
      rw [hv] at ih
      have ih' : foldR F (b + 1) (flL (b + 1) b 0 ts) st = .inr e := ih
      rw [ih']
      exact rfl
    | inl I =>
      rw [hv] at ih
      obtain ⟨st', ih1, ih2⟩ := ih
      rw [ih1]
      have eb := ih2 b (by omega)
      rw [if_pos rfl, h b (Nat.le_refl _) (by unfold szT; omega), List.nil_append] at eb
      show Comes (match F (.rule r pl ts) (st' b) with
        | none => .inr b
        | some x => .inl (pushI st' p x)) (match F (.rule r pl ts) I with
        | none => .inr b
        | some x => .inl x) st b p
      rw [eb]
      cases F (.rule r pl ts) I with
      | none => exact rfl
      | some x =>
        refine ⟨_, rfl, fun k hk => ?_⟩
        have z := ih2 k (by omega)
        rw [if_neg (by omega)] at z
        show (if p = (k : Nat) then st' k ++ [x] else st' k) = _
        rw [z]
        rfl
theorem foldL (F : Tr → List α → Option α) : ∀ (ts : List Tr) (b p i : Nat) (st : Nat → List α), (∀ k, b ≤ k → k < b + szL ts → st k = []) → p < b → ComesL (foldR F b (flL b p i ts) st) (valL F b ts) st b p
  | [], b, p, i, st, h, hp => by
    unfold flL valL
    exact ⟨st, rfl, fun k _ => by rw [List.append_nil, ite_self]⟩
  | t :: ts, b, p, i, st, h, hp => by
    have e1 : flL b p i (t :: ts) = flL b p (i + 1) ts ++ flT (b + szL ts) p i t := by rw [flL]
    have e2 : szL (t :: ts) = szT t + szL ts := by rw [szL]
    have e3 : valL F b (t :: ts) = match valT F (b + szL ts) t with
      | .inr e => .inr e
      | .inl x => match valL F b ts with
        | .inr e => .inr e
        | .inl I => .inl (x :: I) := by rw [valL]
    rw [e1, foldR_app, flL_len, e3]
    have ih := foldT F t (b + szL ts) p i st (fun k h1 h2 => h k (by omega) (by omega)) (by omega)
    cases hv : valT F (b + szL ts) t with
    | inr e =>
      rw [hv] at ih
      have ih' : foldR F (b + szL ts) (flT (b + szL ts) p i t) st = .inr e := ih
      rw [ih']
      exact rfl
    | inl x =>
      rw [hv] at ih
      obtain ⟨st1, ih1, ih2⟩ := ih
      rw [ih1]
      have ih3 := foldL F ts b p (i + 1) st1 (fun k h1 h2 => by
        rw [ih2 k h2]
        unfold pushI
        rw [if_neg (by omega)]
        exact h k h1 (by omega)) hp
      show ComesL (foldR F b (flL b p (i + 1) ts) st1) _ st b p
      cases hw : valL F b ts with
      | inr e =>
        rw [hw] at ih3
        exact ih3
      | inl I =>
        rw [hw] at ih3
        obtain ⟨st2, ih4, ih5⟩ := ih3
        refine ⟨st2, ih4, fun k hk => ?_⟩
        rw [ih5 k hk, ih2 k (by omega)]
        unfold pushI
        by_cases z : k = p
        · rw [if_pos z, if_pos z, if_pos (by omega), List.append_assoc]
          rfl
        · rw [if_neg z, if_neg z, if_neg (by omega)]
end
end
/-! ### the path to a row -/
inductive PathIs (R : List RwT) : Nat → Rw → Prop
  | top {i n : Nat} {t : Tr} : R[i]? = some (t, -1, n) → PathIs R i []
  | step {i j n : Nat} {t : Tr} {q : Rw} : R[i]? = some (t, ((j : Nat) : Int), n) → j < i → PathIs R j q → PathIs R i (q ++ [n])
section
variable {P : Program} {w : World} {K : PySem.W.Frag} {mg : Str → Option Value} {base : Heap}
def spPt (K : PySem.W.Frag) : Sp := fun vs H Q _ => ∃ (l : Addr) (at_ : Nat) (xs : List V) (R : List RwT) (path : Rw), vs = [.ref l, .int (at_ : Nat)] ∧ H l = some (.lst xs) ∧ RwsAt K H xs R ∧ PathIs R at_ path ∧ R.length ≤ 1000 ∧ ∀ H' q, Same H H' → H' q = some (.tup (iv path)) → Q (.ref q) H'
theorem ok_pt {f : Addr} {fd : FuncData} {k : Nat} (F : Fun K "path_to" "path_to" s_path_to f fd) (mt : mg "tuple" = none) (mr : mg "reversed" = none) : FnOk P w K mg base CX0 (k + 1) f fd ["rows", "at"] (spPt K) := by
  refine F.ok sc_path_to (fun vs H Q E h => ?_) (fun cdv A outer s H vs Q E hr h => ?_)
  · obtain ⟨l, a, xs, R, path, rfl, _⟩ := h
    rfl
  · obtain ⟨l, a, xs, R, path, rfl, hl, hR, hpath, few, q⟩ := h
    refine ⟨_, pss_cons (ps_set (i := 2) sc_path_to.nd rfl (.inl rfl) (pe_lst pa_nil))
      (pss_cons (ps_while PassesOwn.never (pt_cmpR op_ge (pe_ix (ix_tupK (K := K) rfl) (pe_ix (ix_lstK (K := K) rfl) (pv 0) (pv 1) (fun _ _ => rfl)) pe_int (fun _ _ => rfl)) pe_int (nomark _))
        (pss_cons (ps_expr (pe_bm PySem.F.plainAttrs_list PySem.F.slot_list_append PySem.F.type_list_append mt_append (pv 2) (pa_cons (pe_ix (ix_tupK (K := K) rfl) (pe_ix (ix_lstK (K := K) rfl) (pv 0) (pv 1) (fun _ _ => rfl)) pe_int (fun _ _ => rfl)) pa_nil)))
        (pss_one (ps_set (i := 1) sc_path_to.nd rfl (.inl rfl) (pe_ix (ix_tupK (K := K) rfl) (pe_ix (ix_lstK (K := K) rfl) (pv 0) (pv 1) (fun _ _ => rfl)) pe_int (fun _ _ => rfl))))))
      (pss_one (ps_ret (RT.pe_tupRev rfl (by rfl) mt (by rfl) mr (pv 2))))), ?_⟩
    refine ⟨Nat.zero_le _, fun D nD => ?_⟩
    have path_lt : ∀ {i : Nat} {q : Rw}, PathIs R i q → i < R.length := fun {i q} z => by
      cases z with
      | top e => exact (List.getElem?_eq_some_iff.mp e).1
      | step e _ _ => exact (List.getElem?_eq_some_iff.mp e).1
    refine ⟨fun m σ HX => ∃ (i : Nat) (acc q0 : Rw), σ = [some (.ref l), some (.int (i : Nat)), some (.ref D)] ∧ HX = upd H D (.lst (iv acc)) ∧ PathIs R i q0 ∧ q0 ++ acc.reverse = path ∧ acc.length + i < R.length ∧ m = i, ⟨a, a, [], path, rfl, rfl, hpath, List.append_nil _, by rw [List.length_nil, Nat.zero_add]; exact path_lt hpath, rfl⟩, fun m σ HX hW => ?_⟩
    obtain ⟨i, acc, q0, rfl, rfl, hP, hq, hlt, em⟩ := hW
    have hlD : l ≠ D := ne_of_none hl nD
    have hl1 : (upd H D (.lst (iv acc))) l = some (.lst xs) := by rw [upd_ne hlD]; exact hl
    have row : ∀ {t : Tr} {pp : Int} {n : Nat}, R[i]? = some (t, pp, n) → ∃ r tv, xs[i]? = some (.ref r) ∧ (upd H D (.lst (iv acc))) r = some (.tup [tv, .int pp, .int (n : Nat)]) := fun {t pp n} e => by
      obtain ⟨v, e1, r, tv, rfl, e2, _⟩ := paired_atR hR e
      exact ⟨r, tv, e1, by rw [upd_ne (ne_of_none e2 nD)]; exact e2⟩
    cases hP with
    | top e =>
      obtain ⟨r, tv, e1, e2⟩ := row e
      refine ⟨_, rfl, _, rfl, l, xs, _, .ref r, rfl, rfl, .inl (.inl hl1), atI_nat e1, r, _, _, .int (-1), rfl, rfl, .inl (.inl e2), rfl, _, _, rfl, rfl, _, rfl, iteF ?_⟩
      refine ⟨_, rfl, D, _, rfl, .inl (.inl upd_same), fun z nz => q _ _ ((same_new nD).trans (same_new nz)) ?_⟩
      rw [upd_same, ← hq]
      unfold iv
      rw [List.nil_append, List.map_reverse]
    | step e hj hP' =>
      rename_i j n t q1
      obtain ⟨r, tv, e1, e2⟩ := row e
      refine ⟨_, rfl, _, rfl, l, xs, _, .ref r, rfl, rfl, .inl (.inl hl1), atI_nat e1, r, _, _, .int (j : Nat), rfl, rfl, .inl (.inl e2), rfl, _, _, rfl, rfl, _, rfl, ?_⟩
      rw [decide_eq_true (show (0 : Int) ≤ (j : Nat) by omega)]
      refine iteT ⟨_, fun _ _ z => z, ?_⟩
      have hl2 : (upd (upd H D (.lst (iv acc))) D (.lst (iv acc ++ [.int (n : Nat)]))) l = some (.lst xs) := by rw [upd_ne hlD]; exact hl1
      have e3 : (upd (upd H D (.lst (iv acc))) D (.lst (iv acc ++ [.int (n : Nat)]))) r = some (.tup [tv, .int (j : Nat), .int (n : Nat)]) := by rw [upd_ne (ne_of e2 upd_same (by intro z; cases z))]; exact e2
      refine ⟨_, rfl, .inl ⟨rfl, _, .inl (.inl upd_same)⟩, _, rfl, _, rfl, l, xs, _, .ref r, rfl, rfl, .inl (.inl hl1), atI_nat e1, r, _, _, .int (n : Nat), rfl, rfl, .inl (.inl e2), rfl, D, _, _, rfl, rfl, upd_same, ?_, ?_⟩
      · rw [List.length_map]
        exact small_line (by omega)
      refine ⟨_, rfl, _, rfl, l, xs, _, .ref r, rfl, rfl, .inl (.inl hl2), atI_nat e1, r, _, _, .int (j : Nat), rfl, rfl, .inl (.inl e3), rfl, ?_⟩
      refine ⟨j, by omega, j, acc ++ [n], q1, rfl, ?_, hP', ?_, by rw [List.length_append]; show acc.length + 1 + j < _; omega, rfl⟩
      · rw [show iv (acc ++ [n]) = iv acc ++ [.int (n : Nat)] from List.map_append]
        exact upd_upd
      · rw [← hq, List.reverse_append, List.append_assoc]
        rfl
end
end Bn

set_option pp.maxSteps 400
namespace Bn
open PySem PySem.Spec PyProof.Rows L2 BR GX RM GY
theorem nodup_at {α : Type} {l : List α} : ∀ {i j : Nat} {x : α}, l.Nodup → l[i]? = some x → l[j]? = some x → i = j := by
  induction l with
  | nil => intro i j x _ h; simp at h
  | cons a l ih =>
    intro i j x h hi hj
    obtain ⟨h1, h2⟩ := List.nodup_cons.mp h
    cases i with
    | zero =>
      cases j with
      | zero => rfl
      | succ j =>
        have e : a = x := Option.some.inj hi
        have hj' : l[j]? = some x := hj
        exact absurd (by rw [e]; exact List.mem_of_getElem? hj') h1
    | succ i =>
      cases j with
      | zero =>
        have e : a = x := Option.some.inj hj
        have hi' : l[i]? = some x := hi
        exact absurd (by rw [e]; exact List.mem_of_getElem? hi') h1
      | succ j => rw [ih h2 hi hj]
mutual
theorem flT_par : ∀ (t : Tr) (b : Nat) (p : Int) (n : Nat) (r : RwT), r ∈ flT b p n t → r.2.1 = p ∨ ((b : Int) ≤ r.2.1 ∧ r.2.1 < (b : Int) + szT t)
  | .word i j, b, p, n, r, h => by
    unfold flT at h
    rw [List.mem_singleton.mp h]
    exact .inl rfl
  | .gap k vs, b, p, n, r, h => by
    unfold flT at h
    rw [List.mem_singleton.mp h]
    exact .inl rfl
  | .rule i pl ts, b, p, n, r, h => by
    unfold flT at h
    rcases List.mem_cons.mp h with h | h
    · rw [h]
      exact .inl rfl
    · have := flL_par ts (b + 1) b 0 r h
      unfold szT
      omega
theorem flL_par : ∀ (ts : List Tr) (b p i : Nat) (r : RwT), r ∈ flL b p i ts → r.2.1 = (p : Int) ∨ ((b : Int) ≤ r.2.1 ∧ r.2.1 < (b : Int) + szL ts)
  | [], b, p, i, r, h => by
    unfold flL at h
    cases h
  | t :: ts, b, p, i, r, h => by
    rw [flL] at h
    rw [szL]
    rcases List.mem_append.mp h with h | h
    · have := flL_par ts b p (i + 1) r h
      omega
    · have := flT_par t (b + szL ts) p i r h
      omega
end
abbrev st0 {α : Type} : Nat → List α := fun _ => []
section
variable {α : Type}
theorem fold_val {F : Tr → List α → Option α} {t : Tr} {e : Nat} (h : foldR F 0 (flT 0 (-1) 0 t) st0 = .inr e) : valT F 0 t = .inr e := by
  have z := foldT F t 0 (-1) 0 st0 (fun _ _ _ => rfl) (by omega)
  cases hv : valT F 0 t with
  | inr e' =>
    rw [hv] at z
    have z' : foldR F 0 (flT 0 (-1) 0 t) st0 = .inr e' := z
    rw [z'] at h
    rw [Sum.inr.inj h]
  | inl x =>
    rw [hv] at z
    obtain ⟨st', z1, _⟩ := z
    rw [z1] at h
    cases h
theorem fold_err {F : Tr → List α → Option α} {t : Tr} {i e : Nat} (hi : i ≤ (flT 0 (-1) 0 t).length) (h : foldR F i ((flT 0 (-1) 0 t).drop i) st0 = .inr e) : valT F 0 t = .inr e := by
  refine fold_val ?_
  have e1 : flT 0 (-1) 0 t = (flT 0 (-1) 0 t).take i ++ (flT 0 (-1) 0 t).drop i := (List.take_append_drop i _).symm
  rw [e1, foldR_app, List.length_take, Nat.min_eq_left hi, Nat.zero_add, h]
theorem fold_root {F : Tr → List α → Option α} {t : Tr} {st : Nat → List α} (h : foldR F 1 ((flT 0 (-1) 0 t).drop 1) st0 = .inl st) : valT F 0 t = match F t (st 0) with
    | none => .inr 0
    | some x => .inl x := by
  cases t with
  | word i j =>
    have e : st = st0 := (Sum.inl.inj h).symm
    subst e
    rw [valT]
    try rfl
  | gap k vs =>
    have e : st = st0 := (Sum.inl.inj h).symm
    subst e
    rw [valT]
    try rfl
  | rule r pl ts =>
    have h' : foldR F 1 (flL 1 0 0 ts) st0 = .inl st := h
    have z := foldL F ts 1 0 0 st0 (fun _ _ _ => rfl) (by omega)
    rw [valT]
    rw [h'] at z
    cases hv : valL F 1 ts with
    | inr e =>
      rw [hv] at z
      have z' : (Sum.inl st : Sum (Nat → List α) Nat) = .inr e := z
      cases z'
    | inl I =>
      rw [hv] at z
      obtain ⟨st', z1, z2⟩ := z
      cases Sum.inl.inj z1
      have e := z2 0 (by omega)
      rw [if_pos rfl, List.nil_append] at e
      rw [e]
      try rfl
/-- one row more -/
theorem fold_step {F : Tr → List α → Option α} {R : List RwT} {i n : Nat} {t : Tr} {p : Int} {st : Nat → List α} (hi : R[i]? = some (t, p, n)) (h : foldR F (i + 1) (R.drop (i + 1)) st0 = .inl st) : foldR F i (R.drop i) st0 = match F t (st i) with
    | none => .inr i
    | some x => .inl (pushI st p x) := by
  rw [drop_get hi]
  show (match foldR F (i + 1) (R.drop (i + 1)) st0 with
    | .inr e => (.inr e : Sum (Nat → List α) Nat)
    | .inl st' => match F t (st' i) with
      | none => .inr i
      | some x => .inl (pushI st' p x)) = _
  rw [h]
end
/-! ### told_of: what is called tells of each tree what F says -/
section
variable {α : Type}
/-- what stands for things, kept -/
structure RepOk (T : Tb) (Rep : Hp → V → α → Prop) : Prop where
  sl : ∀ H H' v x, SL T H H' → Rep H v x → Rep H' v x
  put : ∀ H v x d ws ys, Rep H v x → H d = some (.lst ws) → v ≠ .ref d → Rep (upd H d (.lst ys)) v x
structure TellsF (K : PySem.W.Frag) (T : Tb) (H0 : Hp) (sp : Sp) (St : Hp → Prop) (F : Tr → List α → Option α) (Rep : Hp → V → α → Prop) : Prop where
  st : ∀ HZ, SL T H0 HZ → St HZ
  ok : ∀ (HZ : Hp) (tv : V) (t : Tr) (il : Addr) (ws : List V) (I : List α) (x : α), SL T H0 HZ → Dp K HZ tv (trD t) → HZ il = some (.lst ws) → Paired (Rep HZ) ws I → F t I = some x → ∀ Q : VK, (∀ H' v, SL T HZ H' → Rep H' v x → (∀ e ys, HZ e = some (.lst ys) → v ≠ .ref e) → Q v H') → sp [tv, .ref il] HZ Q E0
/-- for each row its own list -/
structure TolAt (Rep : Hp → V → α → Prop) (H : Hp) (D : Addr) (n : Nat) (ds : List Addr) (st : Nat → List α) : Prop where
  l : H D = some (.lst (ds.map V.ref))
  n : ds.length = n
  nd : ds.Nodup
  nD : D ∉ ds
  at_ : ∀ k d, ds[k]? = some d → ∃ ws, H d = some (.lst ws) ∧ Paired (Rep H) ws (st k) ∧ ∀ v ∈ ws, ∀ e ∈ ds, v ≠ .ref e
theorem TolAt.sl {T : Tb} {Rep : Hp → V → α → Prop} {H H' : Hp} {D : Addr} {n : Nat} {ds : List Addr} {st : Nat → List α} (R : RepOk T Rep) (h : TolAt Rep H D n ds st) (s : SL T H H') : TolAt Rep H' D n ds st :=
  ⟨s.k _ _ nt_lst h.l, h.n, h.nd, h.nD, fun k d e => let ⟨ws, e1, e2, e3⟩ := h.at_ k d e; ⟨ws, s.k _ _ nt_lst e1, paired_mono e2 fun _ _ z => R.sl _ _ _ _ s z, e3⟩⟩
theorem paired_monoM {α β : Type} {R S : α → β → Prop} {l : List α} {m : List β} (h : Paired R l m) (f : ∀ a b, a ∈ l → R a b → S a b) : Paired S l m := by
  induction h with
  | nil => exact .nil
  | cons a _ ih => exact .cons (f _ _ List.mem_cons_self a) (ih fun _ _ m z => f _ _ (List.mem_cons_of_mem _ m) z)
theorem TolAt.push {T : Tb} {Rep : Hp → V → α → Prop} {H : Hp} {D d : Addr} {n j : Nat} {ds : List Addr} {st : Nat → List α} {v : V} {x : α} {ws : List V} (R : RepOk T Rep) (h : TolAt Rep H D n ds st) (hd : ds[j]? = some d) (hw : H d = some (.lst ws)) (hx : Rep H v x) (off : ∀ e ∈ ds, v ≠ .ref e) : TolAt Rep (upd H d (.lst (ws ++ [v]))) D n ds (pushI st (j : Nat) x) := by
  have dm := List.mem_of_getElem? hd
  refine ⟨?_, h.n, h.nd, h.nD, fun k e hk => ?_⟩
  · rw [upd_ne (fun z => h.nD (by rw [z]; exact dm))]
    exact h.l
  · obtain ⟨ws', e1, e2, e3⟩ := h.at_ k e hk
    have kp := paired_monoM e2 fun a b m z => R.put H a b d ws (ws ++ [v]) z hw (e3 a m d dm)
    by_cases ek : k = j
    · subst ek
      rw [hd] at hk
      cases Option.some.inj hk
      rw [hw] at e1
      cases Option.some.inj e1
      refine ⟨_, upd_same, ?_, fun u hu e he => ?_⟩
      · unfold pushI
        rw [if_pos rfl]
        exact paired_app kp (.cons (R.put _ _ _ _ _ _ hx hw (off d dm)) .nil)
      · rcases List.mem_append.mp hu with z | z
        · exact e3 u z e he
        · rw [List.mem_singleton.mp z]
          exact off e he
    · have ne : e ≠ d := fun z => ek (nodup_at h.nd (z ▸ hk) hd)
      refine ⟨ws', by rw [upd_ne ne]; exact e1, ?_, e3⟩
      unfold pushI
      rw [if_neg (by omega)]
      exact kp
end
theorem flT_later {t : Tr} {r : RwT} (h : r ∈ (flT 0 (-1) 0 t).drop 1) : 0 ≤ r.2.1 ∧ r.2.1 < (szT t : Nat) := by
  cases t with
  | word i j => cases h
  | gap k vs => cases h
  | rule i pl ts =>
    have h' : r ∈ flL 1 0 0 ts := h
    have := flL_par ts 1 0 0 r h'
    unfold szT
    omega
section
variable {P : Program} {w : World} {K : PySem.W.Frag} {mg : Str → Option Value} {base : Heap}
abbrev NTo : List Str := ["tree", "tell", "rows", "inner", "at", "node", "around", "number", "row"]
theorem to_body {α : Type} {T : Tb} {k : Nat} {g f fA : Addr} {fdA : FuncData} {cd : Value} {A : Around} {outer : List Env} {s : Shared} {H : Hp} {sp : Sp} {St : Hp → Prop} {F : Tr → List α → Option α} {Rep : Hp → V → α → Prop} {tv : V} {t : Tr} {x : α} {Q : VK}
    (ml : mg "len" = none) (mr : mg "reversed" = none) (mR : mg "range" = none)
    (kA : PySem.W.keepIn K (.ref fA) = true) (bA : Binds K fdA ["tree"] []) (gA : mg "all_within_trees" = some (.ref fA)) (GA : FnOk P w K mg base CX0 1 fA fdA ["tree"] (spAw K))
    (C : LX.Cal (cxOf CX0 P w K mg base NTo "told_of" (defScope s_told_of) g cd A outer s H E0) k f sp St) (hr : Room k (A.deeper (envOfC "told_of" (defScope s_told_of) s.heap.objs.size g cd))) (h1 : 1 ≤ k)
    (R : RepOk T Rep) (hS : TellsF K T H sp St F Rep) (ht : Dp K H tv (trD t)) (few : szT t ≤ 900) (hv : valT F 0 t = .inl x) (hT : TbOk T H) (q : ∀ H' v, SL T H H' → Rep H' v x → Q v H') :
    ∃ tt, PSs (cxOf CX0 P w K mg base NTo "told_of" (defScope s_told_of) g cd A outer s H E0).nox (defBody s_told_of) tt ∧ tt { nx := fun _ H' => Q .non H', rt := Q } (L2.start NTo [tv, .ref f]) H := by
  refine ⟨_, pss_cons (ps_set (i := 2) sc_told_of.nd rfl (.inl rfl) (pe_call GA (hr.mono h1) (by rfl) gA kA bA .nil pass0 (pa_cons (pv 0) pa_nil)))
    (pss_cons (ps_setLc (i := 3) (own := [("row", 8)]) (g := gName 8) (tt := tYes) rfl sc_told_of.nd rfl rfl (sw_true rfl rfl rfl (by decide +kernel)) (pi_list (pv 2))
          (blkOk_by (own := [("row", 8)]) (N := NTo) (sc := defScope s_told_of) (by decide +kernel)) (fun _ _ _ _ _ => pg_name (i := 8) sc_told_of.nd rfl (Or.inl rfl)) (fun _ _ _ _ _ => pts_nil)
          (fun _ _ _ _ _ => pe_lst pa_nil))
    (pss_cons (ps_for PassesOwn.never rfl (pi_revR (by rfl) mr (prg_2 (by rfl) mR pe_int (pe_callB call_len_seq (by rfl) ml PySem.boot_len (pa_cons (pv 2) pa_nil)))) (pg_name (i := 4) sc_told_of.nd rfl (.inl rfl))
      (pss_cons (ps_asg (pe_ix (ix_lstK (K := K) rfl) (pv 2) (pv 4) (fun _ _ => rfl)) (pg_tupK (K := K) (n := 3) rfl (pg_tup (n := 3) rfl (pgs_cons (pg_name (i := 5) sc_told_of.nd rfl (.inl rfl)) (pgs_cons (pg_name (i := 6) sc_told_of.nd rfl (.inl rfl)) (pgs_cons (pg_name (i := 7) sc_told_of.nd rfl (.inl rfl)) pgs_nil))))))
      (pss_one (ps_expr (pe_bm PySem.F.plainAttrs_list PySem.F.slot_list_append PySem.F.type_list_append mt_append (pe_ix (ix_lstK (K := K) rfl) (pv 3) (pv 6) (fun _ _ => rfl)) (pa_cons (LX.pe_callH (i := 1) C hr rfl (.inl rfl) (pa_cons (pv 5) (pa_cons (pe_ix (ix_lstK (K := K) rfl) (pv 3) (pv 4) (fun _ _ => rfl)) pa_nil))) pa_nil))))))
    (pss_one (ps_ret (LX.pe_callH (i := 1) C hr rfl (.inl rfl) (pa_cons (pv 0) (pa_cons (pe_ix (ix_lstK (K := K) rfl) (pv 3) pe_int (fun _ _ => rfl)) pa_nil))))))), ?_⟩
  refine ⟨_, rfl, tv, t, rfl, ht, by omega, fun H1 l xs sm1 nl hl hR => ?_⟩
  have s1 := SL.of hT sm1
  have xl : xs.length = szT t := by rw [Paired.length hR, flT_len]
  refine ⟨_, rfl, l, rfl, ⟨_, .inl (.inl hl)⟩, fun D nD => ?_⟩
  refine lc_it (walk_list (K := K) (a := l) (xs := xs)) (fun i HX => SL T H1 HX ∧ ∃ ds : List Addr, HX D = some (.lst (ds.map V.ref)) ∧ ds.length = i ∧ ds.Nodup ∧ ∀ d ∈ ds, HX d = some (.lst []) ∧ H1 d = none ∧ d ≠ D) ⟨(SL.refl s1.t).new nD, [], upd_same, rfl, List.nodup_nil, fun d hd => by cases hd⟩ (fun i HX _ z => .inl (.inl (z.1.k _ _ nt_lst hl))) (fun i x HX HX' hi hP' hY => ?_) (fun H2 hP' => ?_)
  · obtain ⟨rfl, hx⟩ := hY
    obtain ⟨sX, ds, hDX, dl, dn, dv⟩ := hP'
    refine ⟨rfl, tYes_in ⟨Nat.zero_le _, fun d nd => ?_⟩⟩
    have sd := sX.new (o := .lst []) nd
    have sr := (SL.refl sX.t).new (o := .lst []) nd
    have hDd := sr.k _ _ nt_lst hDX
    have ndm : d ∉ ds := fun z => by
      have := (dv d z).1
      rw [nd] at this
      cases this
    have hneD : D ≠ d := ne_of_none hDX nd
    have hd1 : (upd HX' d (.lst [])) d = some (.lst []) := upd_same
    have dv2 : ∀ e ∈ ds, (upd HX' d (.lst [])) e = some (.lst []) ∧ H1 e = none ∧ e ≠ D := fun e he => ⟨sr.k _ _ nt_lst (dv e he).1, (dv e he).2⟩
    have hd0 : H1 d = none := sX.free nd
    generalize upd HX' d (.lst []) = HY1 at sd hDd hd1 dv2 ⊢
    refine ⟨_, hDd, ?_, sd.ownL nD hDd, ds ++ [d], ?_, by rw [List.length_append, dl]; rfl, ?_, fun e he => ?_⟩
    · rw [List.length_map]
      exact small_line (by omega)
    · rw [upd_same, List.map_append]
      rfl
    · rw [List.nodup_append]
      exact ⟨dn, List.nodup_cons.mpr ⟨by simp, List.nodup_nil⟩, fun a ha b hb => by rw [List.mem_singleton.mp hb]; exact fun z => ndm (z ▸ ha)⟩
    · rcases List.mem_append.mp he with z | z
      · rw [upd_ne (dv2 e z).2.2]
        exact dv2 e z
      · rw [List.mem_singleton.mp z, upd_ne (Ne.symm hneD)]
        exact ⟨hd1, hd0, Ne.symm hneD⟩
  obtain ⟨s2, ds, hD2, dl, dn, dv⟩ := hP'
  have s02 := s1.trans s2
  have hnone : ∀ d ∈ ds, H1 d = none := fun d hd => (dv d hd).2.1
  have hIn : TolAt Rep H2 D (szT t) ds st0 := ⟨hD2, by rw [dl, xl], dn, fun z => (dv D z).2.2 rfl, fun k d e => ⟨[], (dv d (List.mem_of_getElem? e)).1, .nil, fun v hv => by cases hv⟩⟩
  clear hD2 dv
  obtain ⟨RR, hRe⟩ : ∃ RR, RR = flT 0 (-1) 0 t := ⟨_, rfl⟩
  rw [← hRe] at hR
  have Rl : RR.length = szT t := by rw [hRe, flT_len]
  have n1 := szT_pos t
  obtain ⟨n, hn⟩ : ∃ n, n = szT t := ⟨_, rfl⟩
  rw [← hn] at hIn Rl n1 few xl
  refine ⟨_, rfl, l, xs, rfl, .inl (.inl (.inl (s2.k _ _ nt_lst hl))), _, _, rfl, rfl, by omega, by omega, by omega, by omega, ?_⟩
  have toN : (((xs.length : Nat) : Int) - 1).toNat = n - 1 := by omega
  rw [toN]
  refine for_it walk_rangeC (fun i σ HX => ∃ (st : Nat → List α) (y4 y5 y6 y7 y8 : Option V), σ = [some tv, some (.ref f), some (.ref l), some (.ref D), y4, y5, y6, y7, y8] ∧ SL T H1 HX ∧ TolAt Rep HX D n ds st ∧ foldR F (n - i) (RR.drop (n - i)) st0 = .inl st ∧ ∀ k, (st k).length ≤ i) ?_ (fun i σ HX _ _ => trivial) (fun i x0 σ HX HX' hi hP' hY => ?_) (fun σ HX hP' => ?_)
  · refine ⟨st0, none, none, none, none, none, rfl, s2, hIn, ?_, fun k => Nat.le_refl _⟩
    rw [Nat.sub_zero, ← Rl, List.drop_length]
    rfl
  · obtain ⟨rfl, hxe⟩ := hY
    obtain ⟨st, y4, y5, y6, y7, y8, rfl, sX, hIX, hfold, hlen⟩ := hP'
    obtain ⟨a, ha⟩ : ∃ a, a = n - (i + 1) := ⟨_, rfl⟩
    have ea : n - i = a + 1 := by omega
    rw [ea] at hfold
    have hx2 : x0 = .int ((a : Nat) : Int) := by
      rw [hxe]
      exact congrArg V.int (show (1 + ((n - 1 : Nat) : Int) - 1 + ((i : Nat) : Int) * -1) = ((a : Nat) : Int) by omega)
    clear hxe
    subst hx2
    have lta : a < RR.length := by omega
    obtain ⟨⟨tt, pp, nn⟩, hRa⟩ : ∃ r, RR[a]? = some r := ⟨_, List.getElem?_eq_getElem lta⟩
    have hlater : (tt, pp, nn) ∈ (flT 0 (-1) 0 t).drop 1 := by
      rw [← hRe]
      refine List.mem_of_getElem? (i := a - 1) ?_
      rw [List.getElem?_drop, show 1 + (a - 1) = a by omega]
      exact hRa
    obtain ⟨hp1, hp2⟩ := flT_later hlater
    obtain ⟨rv, hrv, r, tvv, rfl, hr2, htt2⟩ := paired_atR hR hRa
    have sHX := s1.trans sX
    have hrX := sX.k _ _ nt_tup hr2
    have httX := Tr.keep htt2 fun _ _ e => sX.sqT e
    have hlX := sX.k _ _ nt_lst hl
    obtain ⟨d, hd⟩ : ∃ d, ds[a]? = some d := ⟨_, List.getElem?_eq_getElem (by rw [hIX.n]; omega)⟩
    have hdv : (ds.map V.ref)[a]? = some (.ref d) := by rw [List.getElem?_map, hd]; rfl
    obtain ⟨ws, hws, hIw, _⟩ := hIX.at_ a d hd
    obtain ⟨j, rfl⟩ : ∃ j : Nat, pp = (j : Int) := ⟨pp.toNat, by have : (0 : Int) ≤ pp := hp1; omega⟩
    have hjn : j < n := by have : (j : Int) < (szT t : Nat) := hp2; omega
    obtain ⟨dj, hdj⟩ : ∃ d, ds[j]? = some d := ⟨_, List.getElem?_eq_getElem (by rw [hIX.n]; omega)⟩
    have hdjv : (ds.map V.ref)[j]? = some (.ref dj) := by rw [List.getElem?_map, hdj]; rfl
    obtain ⟨wj, hwj, hIj, _⟩ := hIX.at_ j dj hdj
    have wjl : wj.length = (st j).length := Paired.length hIj
    have hfs := fold_step (F := F) hRa hfold
    cases hF : F tt (st a) with
    | none =>
      rw [hF] at hfs
      rw [hRe] at hfs
      have := fold_err (F := F) (by rw [← hRe]; omega) hfs
      rw [hv] at this
      cases this
    | some y =>
      rw [hF] at hfs
      have hfs' : foldR F a (RR.drop a) st0 = .inl (pushI st (j : Nat) y) := hfs
      refine ⟨_, rfl, _, rfl, l, xs, _, .ref r, rfl, rfl, .inl (.inl hlX), atI_nat hrv, r, _, rfl, .inl (.inl hrX), rfl, _, _, rfl, _, _, rfl, _, _, rfl, rfl, ?_⟩
      refine ⟨_, rfl, _, rfl, D, _, _, .ref dj, rfl, rfl, .inl (.inl hIX.l), atI_nat hdjv, .inl ⟨rfl, _, .inl (.inl hwj)⟩, rfl, hS.st _ sHX, _, rfl, _, rfl, _, rfl, D, _, _, .ref d, rfl, rfl, .inl (.inl hIX.l), atI_nat hdv, hS.st _ sHX, hS.ok _ tvv tt d ws (st a) y sHX httX hws hIw hF _ fun H4 v s4 hrep hoff => ?_⟩
      have hwj4 := s4.k _ _ nt_lst hwj
      refine ⟨dj, wj, v, rfl, rfl, hwj4, ?_, ?_⟩
      · have := hlen j
        exact small_line (by omega)
      have e2 : n - (i + 1) = a := ha.symm
      refine ⟨pushI st (j : Nat) y, _, _, _, _, _, rfl, (sX.trans s4).ownL (hnone dj (List.mem_of_getElem? hdj)) hwj4, (hIX.sl R s4).push R hdj hwj4 hrep (fun e he => ?_), by rw [e2]; exact hfs', fun k => ?_⟩
      · obtain ⟨k, hk⟩ := List.getElem?_of_mem he
        obtain ⟨we, hwe, _⟩ := hIX.at_ k e hk
        exact hoff e we hwe
      · unfold pushI
        split
        · rw [List.length_append]
          have := hlen k
          show _ + 1 ≤ _
          omega
        · have := hlen k
          omega
  · obtain ⟨st, y4, y5, y6, y7, y8, rfl, sX, hIX, hfold, hlen⟩ := hP'
    have e1 : n - (n - 1) = 1 := by omega
    rw [e1, hRe] at hfold
    have hval := fold_root hfold
    rw [hv] at hval
    have sHX := s1.trans sX
    obtain ⟨d, hd⟩ : ∃ d, ds[0]? = some d := ⟨_, List.getElem?_eq_getElem (by rw [hIX.n]; omega)⟩
    have hdv : (ds.map V.ref)[0]? = some (.ref d) := by rw [List.getElem?_map, hd]; rfl
    obtain ⟨ws, hws, hIw, _⟩ := hIX.at_ 0 d hd
    cases hF : F t (st 0) with
    | none =>
      rw [hF] at hval
      cases hval
    | some y =>
      rw [hF] at hval
      cases Sum.inl.inj hval
      exact ⟨rfl, hS.st _ sHX, _, rfl, _, rfl, D, _, _, .ref d, rfl, rfl, .inl (.inl hIX.l), atI_nat hdv, hS.st _ sHX, hS.ok _ tv t d ws (st 0) x sHX (Tr.keep ht fun _ _ e => sHX.sqT e) hws hIw hF _ fun H4 v s4 hrep _ => q _ _ (sHX.trans s4) hrep⟩
end
end Bn

set_option pp.maxSteps 400
namespace Bn
open PySem PySem.Spec PyProof.Rows L2 BR GX RM GY
theorem TgB.at {C : Addr} {K : PySem.W.Frag} {N : Addr → Prop} {H : Hp} {p c : Addr} {L : Lx} {kvs : List (Key × V)} (h : TgB C K N H p c L kvs) : TgAt C K N H p L := ⟨c, kvs, h⟩
section
variable {P : Program} {w : World} {K : PySem.W.Frag} {mg : Str → Option Value} {base : Heap}
/-! ### own_words, of a word -/
def spOwW (K : PySem.W.Frag) (T : Tb) (C : Addr) : Sp := fun vs H Q _ => ∃ (p c a : Addr) (il : V) (i j : Nat) (L : Lx) (N : Addr → Prop) (kvs : List (Key × V)) (s : Sd) (e : En), vs = [.ref p, .ref a, il] ∧ TgB C K N H p c L kvs ∧ L.Ok ∧ SqT K H a [.str "word", .int (i : Nat), .int (j : Nat)] ∧ L.ss[i]? = some s ∧ L.es[j]? = some e ∧ TbOk T H ∧
  ∀ H' l, SL T H H' → H l = none → H' l = some (.lst [.str (sewnM L.ms s.x e.x)]) → Q (.ref l) H'
theorem ok_owW {f fT C : Addr} {fd fdT : FuncData} {T : Tb} {k : Nat} (F : Fun K "own_words" "own_words" s_own_words f fd)
    (kT : PySem.W.keepIn K (.ref fT) = true) (bT : Binds K fdT ["tongue", "stem", "ending"] []) (gT : mg "text_of" = some (.ref fT)) (GT : FnOk P w K mg base CX0 2 fT fdT ["tongue", "stem", "ending"] (spText K C)) :
    FnOk P w K mg base CX0 (k + 3) f fd ["tongue", "tree", "inner"] (spOwW K T C) := by
  refine F.ok sc_own_words (fun vs H Q E h => ?_) (fun cdv A outer s H vs Q E hr h => ?_)
  · obtain ⟨p, c, a, il, i, j, L, N, kvs, sd, en, rfl, _⟩ := h
    rfl
  · obtain ⟨p, c, a, il, i, j, L, N, kvs, sd, en, rfl, hTg, hL, ha, hi, hj, hT, q⟩ := h
    refine ⟨_, pss_cons (ps_if (pt_cmpR op_eq (pe_ix ix_tup (pv 1) pe_int (fun _ _ => rfl)) pe_str (nomark _))
        (pss_one (ps_ret (pe_lst (pa_cons (pe_call GT (hr.mono (by omega)) (by rfl) gT kT bT .nil pass0 (pa_cons (pv 0) (pa_cons (pe_ix ix_tup (pv 1) pe_int (fun _ _ => rfl)) (pa_cons (pe_ix ix_tup (pv 1) pe_int (fun _ _ => rfl)) pa_nil)))) pa_nil)))) pss_nil)
      pss_never, ?_⟩
    refine ⟨_, rfl, a, _, _, .str "word", rfl, rfl, ha, rfl, rfl, _, rfl, ?_⟩
    rw [decide_eq_true rfl]
    refine iteT ⟨_, rfl, _, rfl, a, _, _, .int (i : Nat), rfl, rfl, ha, rfl, _, rfl, a, _, _, .int (j : Nat), rfl, rfl, ha, rfl, p, i, j, L, N, sd, en, rfl, hTg.at, hL, hi, hj, (show 1 ≤ sizeLine by decide), fun l nl => ?_⟩
    exact q _ l ((SL.refl hT).new nl) nl upd_same
/-! ### own_cost, of a word -/
def spOc (K : PySem.W.Frag) (C : Addr) : Sp := fun vs H Q _ => ∃ (p c a : Addr) (i j : Nat) (L : Lx) (N : Addr → Prop) (kvs : List (Key × V)) (s : Sd) (e : En), vs = [.ref p, .ref a] ∧ TgB C K N H p c L kvs ∧ SqT K H a [.str "word", .int (i : Nat), .int (j : Nat)] ∧ L.ss[i]? = some s ∧ L.es[j]? = some e ∧ Q (.int (s.r + e.r)) H
theorem ok_oc {f C : Addr} {fd : FuncData} {k : Nat} (F : Fun K "own_cost" "own_cost" s_own_cost f fd) (TC : TgC K C) :
    FnOk P w K mg base CX0 (k + 1) f fd ["tongue", "tree"] (spOc K C) := by
  refine F.ok sc_own_cost (fun vs H Q E h => ?_) (fun cdv A outer s H vs Q E hr h => ?_)
  · obtain ⟨p, c, a, i, j, L, N, kvs, sd, en, rfl, _⟩ := h
    rfl
  · obtain ⟨p, c, a, i, j, L, N, kvs, sd, en, rfl, hTg, ha, hi, hj, q⟩ := h
    have hu := hu_of hr
    refine ⟨_, pss_cons (ps_if (pt_cmpR op_eq (pe_ix ix_tup (pv 1) pe_int (fun _ _ => rfl)) pe_str (nomark _))
        (pss_one (ps_ret (pe_op op_add (pe_ix ix_tup (pe_ix ix_list (pe_dget hu (pe_fld (pv 0) rfl) pe_str (fun _ _ => rfl)) (pe_ix ix_tup (pv 1) pe_int (fun _ _ => rfl)) (fun _ _ => rfl)) pe_int (fun _ _ => rfl)) (pe_ix ix_tup (pe_ix ix_list (pe_dget hu (pe_fld (pv 0) rfl) pe_str (fun _ _ => rfl)) (pe_ix ix_tup (pv 1) pe_int (fun _ _ => rfl)) (fun _ _ => rfl)) pe_int (fun _ _ => rfl))))) pss_nil)
      pss_never, ?_⟩
    obtain ⟨dx, o, fe, kd, pl, h1, h2, h3, _, h4⟩ := id hTg
    obtain ⟨a0, xf, xk, xm, xs, xe, xr, vf, vk, vm, wS, ve, ea, _, LA⟩ := lx_inv h2
    cases ea
    obtain ⟨v1, hv1, hd1⟩ := ix_row LA.ds hi
    obtain ⟨v2, hv2, hd2⟩ := ix_row LA.de hj
    obtain ⟨a1, m1, rfl, ht1, _⟩ := sd_inv hd1
    obtain ⟨a2, m2, rfl, ht2, _⟩ := en_inv hd2
    refine ⟨_, rfl, a, _, _, .str "word", rfl, rfl, ha, rfl, rfl, _, rfl, ?_⟩
    rw [decide_eq_true rfl]
    refine iteT ⟨_, rfl, p, C, dx, _, _, rfl, h1, TC.cl, TC.nO, tgF_own .., o, _, rfl, get_of LA.d lxK_stems, _, rfl, a, _, _, .int (i : Nat), rfl, rfl, ha, rfl, xs, _, _, .ref a1, rfl, rfl, .inl (.inl LA.hs), atI_nat hv1, a1, _, _, .int sd.r, rfl, rfl, ht1, rfl, ?_⟩
    refine ⟨_, rfl, p, C, dx, _, _, rfl, h1, TC.cl, TC.nO, tgF_own .., o, _, rfl, get_of LA.d lxK_endings, _, rfl, a, _, _, .int (j : Nat), rfl, rfl, ha, rfl, xe, _, _, .ref a2, rfl, rfl, .inl (.inl LA.he), atI_nat hv2, a2, _, _, .int en.r, rfl, rfl, ht2, rfl, ?_⟩
    exact ⟨_, _, rfl, rfl, q⟩
/-! ### own_symbol, of a word that there is -/
def WSym (K : PySem.W.Frag) (H : Hp) (v : V) (k : Str) (vs : List Str) : Prop := ∃ a b z, v = .ref a ∧ SqT K H a [.str k, .ref b, .ref z] ∧ SqT K H b (vs.map V.str) ∧ SqT K H z []
theorem WSym.sl {T : Tb} {H H' : Hp} {v : V} {k : Str} {vs : List Str} (h : WSym K H v k vs) (s : SL T H H') : WSym K H' v k vs := by
  obtain ⟨a, b, z, e, h1, h2, h3⟩ := h
  exact ⟨a, b, z, e, s.sqT h1, s.sqT h2, s.sqT h3⟩
def spOs (K : PySem.W.Frag) (T : Tb) (C : Addr) : Sp := fun vs H Q _ => ∃ (p c a : Addr) (il : V) (i j : Nat) (L : Lx) (N : Addr → Prop) (kvs : List (Key × V)) (s : Sd) (e : En) (vl : List Str), vs = [.ref p, .ref a, il] ∧ TgB C K N H p c L kvs ∧ L.Ok ∧ SqT K H a [.str "word", .int (i : Nat), .int (j : Nat)] ∧ L.ss[i]? = some s ∧ L.es[j]? = some e ∧ valsM L s e = some vl ∧ TbOk T H ∧
  ∀ v H', SL T H H' → WSym K H' v s.k vl → Q v H'
theorem ok_os {f fV C : Addr} {fd fdV : FuncData} {T : Tb} {k : Nat} (F : Fun K "own_symbol" "own_symbol" s_own_symbol f fd) (TC : TgC K C)
    (kV : PySem.W.keepIn K (.ref fV) = true) (bV : Binds K fdV ["tongue", "stem", "ending"] []) (gV : mg "values_of" = some (.ref fV)) (GV : FnOk P w K mg base CX0 8 fV fdV ["tongue", "stem", "ending"] (spVals K T C)) :
    FnOk P w K mg base CX0 (k + 9) f fd ["tongue", "tree", "inner"] (spOs K T C) := by
  refine F.ok sc_own_symbol (fun vs H Q E h => ?_) (fun cdv A outer s H vs Q E hr h => ?_)
  · obtain ⟨p, c, a, il, i, j, L, N, kvs, sd, en, vl, rfl, _⟩ := h
    rfl
  · obtain ⟨p, c, a, il, i, j, L, N, kvs, sd, en, vl, rfl, hTg, hL, ha, hi, hj, hvm, hT, q⟩ := h
    have hu := hu_of hr
    refine ⟨_, pss_cons (ps_if (pt_cmpR op_eq (pe_ix ix_tup (pv 1) pe_int (fun _ _ => rfl)) pe_str (nomark _))
        (pss_cons (ps_set (i := 3) sc_own_symbol.nd rfl (.inl rfl) (pe_call GV (hr.mono (by omega)) (by rfl) gV kV bV .nil pass0 (pa_cons (pv 0) (pa_cons (pe_ix ix_tup (pv 1) pe_int (fun _ _ => rfl)) (pa_cons (pe_ix ix_tup (pv 1) pe_int (fun _ _ => rfl)) pa_nil)))))
        (pss_one (ps_ret (pe_ifExp (pt_cmpR op_isN (pv 3) pe_non (nomark _)) pe_non
          (pe_tup (pa_cons (pe_ix ix_tup (pe_ix ix_list (pe_dget hu (pe_fld (pv 0) rfl) pe_str (fun _ _ => rfl)) (pe_ix ix_tup (pv 1) pe_int (fun _ _ => rfl)) (fun _ _ => rfl)) pe_int (fun _ _ => rfl)) (pa_cons (pv 3) (pa_cons (pe_tup pa_nil) pa_nil)))))))) pss_nil)
      pss_never, ?_⟩
    obtain ⟨dx, o, fe, kd, pl, h1, h2, h3, _, h4⟩ := id hTg
    obtain ⟨a0, xf, xk, xm, xs, xe, xr, vf, vk, vm, wS, ve, ea, _, LA⟩ := lx_inv h2
    cases ea
    refine ⟨_, rfl, a, _, _, .str "word", rfl, rfl, ha, rfl, rfl, _, rfl, ?_⟩
    rw [decide_eq_true rfl]
    refine iteT ⟨_, rfl, _, rfl, a, _, _, .int (i : Nat), rfl, rfl, ha, rfl, _, rfl, a, _, _, .int (j : Nat), rfl, rfl, ha, rfl, p, i, j, L, N, sd, en, rfl, hTg.at, hL, hi, hj, hT, fun v H1 s1 hv => ?_⟩
    refine ⟨_, rfl, rfl, _, rfl, ?_⟩
    rw [hvm] at hv
    obtain ⟨pv, rfl, hpv⟩ := hv
    rw [decide_eq_false (fun z => by cases z)]
    obtain ⟨v1, hv1, hd1⟩ := ix_row LA.ds hi
    obtain ⟨a1, m1, rfl, ht1, _⟩ := sd_inv hd1
    refine iteF ⟨_, rfl, p, C, dx, _, _, rfl, s1.k _ _ nt_ins h1, TC.cl, TC.nO, tgF_own .., o, _, rfl, get_of (s1.k _ _ nt_dK LA.d) lxK_stems, _, rfl, a, _, _, .int (i : Nat), rfl, rfl, s1.sqT ha, rfl, xs, _, _, .ref a1, rfl, rfl, .inl (.inl (s1.k _ _ nt_lst LA.hs)), atI_nat hv1, a1, _, _, .str sd.k, rfl, rfl, s1.sqT ht1, rfl, _, rfl, ?_⟩
    refine ⟨Nat.zero_le _, fun z nz => ?_⟩
    have s2 := s1.new (o := .tup []) nz
    have hz : (upd H1 z (.tup [])) z = some (.tup []) := upd_same
    have hpv2 := ((SL.refl s1.t).new (o := .tup []) nz).sqT hpv
    generalize upd H1 z (.tup []) = H2 at s2 hz hpv2 ⊢
    refine ⟨(show 3 ≤ sizeLine by decide), fun y ny => ?_⟩
    have s3 := s2.new (o := .tup [.str sd.k, .ref pv, .ref z]) ny
    have sy := (SL.refl s2.t).new (o := .tup [.str sd.k, .ref pv, .ref z]) ny
    exact q _ _ s3 ⟨y, pv, z, rfl, .inl (.inl upd_same), sy.sqT hpv2, sy.sqT (.inl (.inl hz))⟩
end
end Bn

set_option pp.maxSteps 400
namespace Bn
open PySem PySem.Spec PyProof.Rows L2 BR GX RM GY
theorem dp_word {K : PySem.W.Frag} {H : Hp} {a : Addr} {i j : Nat} (h : SqT K H a [.str "word", .int (i : Nat), .int (j : Nat)]) : Dp K H (.ref a) (trD (.word i j)) := by
  unfold trD
  exact .tup h (.cons (.str _) (.cons (.int _) (.cons (.int _) .nil)))
abbrev NSp : List Str := ["tongue", "tree", "rows", "inner", "symbol", "at", "node", "around", "number", "is_heard", "row", "below", "heard"]
section
variable {P : Program} {w : World} {K : PySem.W.Frag} {mg : Str → Option Value} {base : Heap}
/-! ### symbol_or_path, of a word that there is -/
def spSp (K : PySem.W.Frag) (T : Tb) (C : Addr) : Sp := fun vs H Q _ => ∃ (p c a : Addr) (i j : Nat) (L : Lx) (N : Addr → Prop) (kvs : List (Key × V)) (s : Sd) (e : En) (vl : List Str), vs = [.ref p, .ref a] ∧ TgB C K N H p c L kvs ∧ L.Ok ∧ SqT K H a [.str "word", .int (i : Nat), .int (j : Nat)] ∧ L.ss[i]? = some s ∧ L.es[j]? = some e ∧ valsM L s e = some vl ∧ TbOk T H ∧
  ∀ z y v H', SL T H H' → H' z = some (.tup [v, .ref y]) → WSym K H' v s.k vl → Q (.ref z) H'
theorem ok_sp {f c0 fA fO C : Addr} {fd fdA fdO : FuncData} {T : Tb} {k : Nat} (F : FunC K "symbol_or_path" "symbol_or_path" s_symbol_or_path f fd c0) (ml : mg "len" = none) (mr : mg "reversed" = none) (mR : mg "range" = none)
    (kA : PySem.W.keepIn K (.ref fA) = true) (bA : Binds K fdA ["tree"] []) (gA : mg "all_within_trees" = some (.ref fA)) (GA : FnOk P w K mg base CX0 1 fA fdA ["tree"] (spAw K))
    (kO : PySem.W.keepIn K (.ref fO) = true) (bO : Binds K fdO ["tongue", "tree", "inner"] []) (gO : mg "own_symbol" = some (.ref fO)) (GO : FnOk P w K mg base CX0 (k + 1) fO fdO ["tongue", "tree", "inner"] (spOs K T C)) :
    FnOk P w K mg base CX0 (k + 2) f fd ["tongue", "tree"] (spSp K T C) := by
  refine F.ok sc_symbol_or_path (fun vs H Q E h => ?_) (fun A outer s H vs Q E hr h => ?_)
  · obtain ⟨p, c, a, i, j, L, N, kvs, sd, en, vl, rfl, _⟩ := h
    rfl
  · obtain ⟨p, c, a, i, j, L, N, kvs, sd, en, vl, rfl, hTg, hL, ha, hi, hj, hvm, hT, q⟩ := h
    have hu := hu_of hr
    refine ⟨_, pss_cons (ps_set (i := 2) sc_symbol_or_path.nd rfl (.inl rfl) (pe_call GA (hr.mono (by omega)) (by rfl) gA kA bA .nil pass0 (pa_cons (pv 1) pa_nil)))
      (pss_cons (ps_setLc (i := 3) (own := [("row", 10)]) (g := gName 10) (tt := tYes) rfl sc_symbol_or_path.nd rfl rfl (sw_true rfl rfl rfl (by decide +kernel)) (pi_list (pv 2))
          (blkOk_by (own := [("row", 10)]) (N := NSp) (sc := defScope s_symbol_or_path) (by decide +kernel)) (fun _ _ _ _ _ => pg_name (i := 10) sc_symbol_or_path.nd rfl (Or.inl rfl)) (fun _ _ _ _ _ => pts_nil)
          (fun _ _ _ _ _ => pe_lst pa_nil))
      (pss_cons (ps_set (i := 4) sc_symbol_or_path.nd rfl (.inl rfl) pe_non)
      (pss_cons (ps_for PassesOwn.never rfl (pi_revR (by rfl) mr (prg_1 (by rfl) mR (pe_callB call_len_seq (by rfl) ml PySem.boot_len (pa_cons (pv 2) pa_nil)))) (pg_name (i := 5) sc_symbol_or_path.nd rfl (.inl rfl))
        (pss_cons (ps_asg (pe_ix (ix_lstK (K := K) rfl) (pv 2) (pv 5) (fun _ _ => rfl)) (pg_tupK (K := K) (n := 3) rfl (pg_tup (n := 3) rfl (pgs_cons (pg_name (i := 6) sc_symbol_or_path.nd rfl (.inl rfl)) (pgs_cons (pg_name (i := 7) sc_symbol_or_path.nd rfl (.inl rfl)) (pgs_cons (pg_name (i := 8) sc_symbol_or_path.nd rfl (.inl rfl)) pgs_nil))))))
        (pss_cons (ps_set (i := 4) sc_symbol_or_path.nd rfl (.inl rfl) (pe_call GO (hr.mono (by omega)) (by rfl) gO kO bO .nil pass0 (pa_cons (pv 0) (pa_cons (pv 6) (pa_cons (pe_ix (ix_lstK (K := K) rfl) (pv 3) (pv 5) (fun _ _ => rfl)) pa_nil)))))
        (pss_cons (ps_if (pt_cmpR op_isN (pv 4) pe_non (nomark _)) pss_never pss_nil)
        (pss_one (ps_if (pt_cmpR op_ge (pv 7) pe_int (nomark _)) pss_never pss_nil))))))
      (pss_one (ps_ret (pe_tup (pa_cons (pv 4) (pa_cons (pe_tup pa_nil) pa_nil)))))))), ?_⟩
    refine ⟨_, rfl, .ref a, .word i j, rfl, dp_word ha, by unfold szT; decide, fun H1 l xs sm1 nl hl hR => ?_⟩
    have s1 := SL.of hT sm1
    rw [show flT 0 (-1) 0 (.word i j) = [(.word i j, -1, 0)] by unfold flT; rfl] at hR
    obtain ⟨x0, rfl, r, tvv, rfl, hr2, htt⟩ : ∃ x0, xs = [x0] ∧ ∃ r tvv, x0 = .ref r ∧ H1 r = some (.tup [tvv, .int (-1), .int (0 : Nat)]) ∧ Dp K H1 tvv (trD (.word i j)) := by
      cases hR with
      | cons h1 h2 =>
        cases h2
        obtain ⟨r, tvv, e, e1, e2⟩ := h1
        exact ⟨_, rfl, r, tvv, e, e1, e2⟩
    obtain ⟨a', rfl, ha'⟩ := tr_word htt
    refine ⟨_, rfl, l, rfl, ⟨_, .inl (.inl hl)⟩, fun D nD => ?_⟩
    refine lc_it (walk_list (K := K) (a := l) (xs := [.ref r])) (fun i HX => SL T H1 HX ∧ ∃ ds : List Addr, HX D = some (.lst (ds.map V.ref)) ∧ ds.length = i) ⟨(SL.refl s1.t).new nD, [], upd_same, rfl⟩ (fun i HX _ z => .inl (.inl (z.1.k _ _ nt_lst hl))) (fun i x HX HX' hi hP' hY => ?_) (fun H2 hP' => ?_)
    · obtain ⟨rfl, hx⟩ := hY
      obtain ⟨sX, ds, hDX, dl⟩ := hP'
      refine ⟨rfl, tYes_in ⟨Nat.zero_le _, fun d nd => ?_⟩⟩
      have sd := sX.new (o := .lst []) nd
      have sr := (SL.refl sX.t).new (o := .lst []) nd
      have hDd := sr.k _ _ nt_lst hDX
      generalize upd HX' d (.lst []) = HY1 at sd hDd ⊢
      have hi' : i < 1 := hi
      refine ⟨_, hDd, ?_, sd.ownL nD hDd, ds ++ [d], ?_, by rw [List.length_append, dl]; rfl⟩
      · rw [List.length_map]
        exact small_line (by omega)
      · rw [upd_same, List.map_append]
        rfl
    · obtain ⟨s2, ds, hD, dl⟩ := hP'
      obtain ⟨d, rfl⟩ : ∃ d, ds = [d] := by
        match ds, dl with
        | [d], _ => exact ⟨d, rfl⟩
      have s02 := s1.trans s2
      refine ⟨_, rfl, l, [.ref r], rfl, .inl (.inl (.inl (s2.k _ _ nt_lst hl))), _, rfl, by (first | decide | (rw [List.length_singleton]; decide)), by (first | decide | (rw [List.length_singleton]; decide)), by (first | decide | (rw [List.length_singleton]; decide)), by (first | decide | (rw [List.length_singleton]; decide)), ?_⟩
      refine for_it walk_rangeC (fun k σ HX => ∃ (sy : V) (y5 y6 y7 y8 y9 y10 y11 y12 : Option V), σ = [some (.ref p), some (.ref a), some (.ref l), some (.ref D), some sy, y5, y6, y7, y8, y9, y10, y11, y12] ∧ SL T H2 HX ∧ (k = 0 ∨ WSym K HX sy sd.k vl)) ⟨.non, none, none, none, none, none, none, none, none, rfl, SL.refl s2.t, .inl rfl⟩ (fun k σ HX _ _ => trivial) (fun k x σ HX HX' hk hP' hY => ?_) (fun σ HX hP' => ?_)
      · obtain ⟨rfl, hxe⟩ := hY
        obtain ⟨sy, y5, y6, y7, y8, y9, y10, y11, y12, rfl, sX, _⟩ := hP'
        have k0 : k = 0 := by
          have : k < 1 := hk
          omega
        subst k0
        have hx2 : x = .int ((0 : Nat) : Int) := hxe
        subst hx2
        have s2X := s2.trans sX
        refine ⟨_, rfl, _, rfl, l, [.ref r], _, .ref r, rfl, rfl, .inl (.inl (s2X.k _ _ nt_lst hl)), atI_nat (j := 0) rfl, r, _, rfl, .inl (.inl (s2X.k _ _ nt_tup hr2)), rfl, _, _, rfl, _, _, rfl, _, _, rfl, rfl, ?_⟩
        refine ⟨_, rfl, _, rfl, _, rfl, _, rfl, D, _, _, .ref d, rfl, rfl, .inl (.inl (sX.k _ _ nt_lst hD)), atI_nat (j := 0) rfl, ?_⟩
        refine ⟨p, c, a', .ref d, i, j, L, N, kvs, sd, en, vl, rfl, (hTg.sl s02).sl sX, hL, s2X.sqT ha', hi, hj, hvm, sX.t, fun v H3 s3 hv => ?_⟩
        refine ⟨_, rfl, rfl, _, rfl, ?_⟩
        have hv0 := hv
        obtain ⟨va, vb, vz, rfl, _⟩ := hv0
        rw [decide_eq_false (fun z => by cases z)]
        refine iteF ⟨_, rfl, _, _, rfl, rfl, _, rfl, iteF ⟨.ref va, _, _, _, _, _, _, _, _, rfl, sX.trans s3, .inr hv⟩⟩
      · obtain ⟨sy, y5, y6, y7, y8, y9, y10, y11, y12, rfl, sX, hw⟩ := hP'
        have hw : WSym K HX sy sd.k vl := by
          rcases hw with z | z
          · exact absurd z (by rw [List.length_singleton]; decide)
          · exact z
        refine ⟨_, rfl, Nat.zero_le _, fun e ne => ?_⟩
        have se := (SL.refl sX.t).new (o := .tup []) ne
        generalize upd HX e (.tup []) = HE at se ⊢
        refine ⟨(show 2 ≤ sizeLine by decide), fun z nz => ?_⟩
        have sz := (SL.refl se.t).new (o := .tup [sy, .ref e]) nz
        exact q z e sy _ (((s02.trans sX).trans se).trans sz) upd_same ((hw.sl se).sl sz)
/-! ### symbol_of -/
def spSym0 (K : PySem.W.Frag) (T : Tb) (C : Addr) : Sp := fun vs H Q _ => ∃ (p c a : Addr) (i j : Nat) (L : Lx) (N : Addr → Prop) (kvs : List (Key × V)) (s : Sd) (e : En) (vl : List Str), vs = [.ref p, .ref a] ∧ TgB C K N H p c L kvs ∧ L.Ok ∧ SqT K H a [.str "word", .int (i : Nat), .int (j : Nat)] ∧ L.ss[i]? = some s ∧ L.es[j]? = some e ∧ valsM L s e = some vl ∧ TbOk T H ∧
  ∀ v H', SL T H H' → WSym K H' v s.k vl → Q v H'
theorem ok_sym0 {f fS C : Addr} {fd fdS : FuncData} {T : Tb} {k : Nat} (F : Fun K "symbol_of" "symbol_of" s_symbol_of f fd)
    (kS : PySem.W.keepIn K (.ref fS) = true) (bS : Binds K fdS ["tongue", "tree"] []) (gS : mg "symbol_or_path" = some (.ref fS)) (GS : FnOk P w K mg base CX0 k fS fdS ["tongue", "tree"] (spSp K T C)) :
    FnOk P w K mg base CX0 (k + 1) f fd ["tongue", "tree"] (spSym0 K T C) := by
  refine F.ok sc_symbol_of (fun vs H Q E h => ?_) (fun cdv A outer s H vs Q E hr h => ?_)
  · obtain ⟨p, c, a, i, j, L, N, kvs, sd, en, vl, rfl, _⟩ := h
    rfl
  · obtain ⟨p, c, a, i, j, L, N, kvs, sd, en, vl, rfl, hTg, hL, ha, hi, hj, hvm, hT, q⟩ := h
    refine ⟨_, pss_cons (ps_asg (pe_call GS hr (by rfl) gS kS bS .nil pass0 (pa_cons (pv 0) (pa_cons (pv 1) pa_nil))) (pg_tup rfl (pgs_cons (pg_name (i := 2) sc_symbol_of.nd rfl (.inl rfl)) (pgs_cons (pg_name (i := 3) sc_symbol_of.nd rfl (.inl rfl)) pgs_nil))))
      (pss_cons (ps_if (pt_cmpR op_isN (pv 2) pe_non (nomark _)) pss_never pss_nil)
      (pss_one (ps_ret (pv 2)))), ?_⟩
    refine ⟨_, rfl, _, rfl, p, c, a, i, j, L, N, kvs, sd, en, vl, rfl, hTg, hL, ha, hi, hj, hvm, hT, fun z y v H1 s1 hz hv => ?_⟩
    have hv0 := hv
    obtain ⟨va, vb, vz, rfl, _⟩ := hv0
    refine ⟨z, _, rfl, .inl (.inl hz), rfl, _, _, rfl, _, _, rfl, rfl, ?_⟩
    refine ⟨_, rfl, rfl, _, rfl, ?_⟩
    rw [decide_eq_false (fun z => by cases z)]
    exact iteF ⟨_, rfl, q _ _ s1 hv⟩
end
end Bn

set_option pp.maxSteps 400
namespace Bn
open PySem PySem.Spec PyProof.Rows L2 BR GX RM GY
section
variable {P : Program} {w : World} {K : PySem.W.Frag} {mg : Str → Option Value} {base : Heap}
/-! ### is_whole_sentence, is_sentence -/
def spWs (K : PySem.W.Frag) (C : Addr) : Sp := fun vs H Q _ => ∃ (p c : Addr) (v : V) (L : Lx) (N : Addr → Prop) (kvs : List (Key × V)) (k : Str) (vl : List Str), vs = [.ref p, v] ∧ TgB C K N H p c L kvs ∧ WSym K H v k vl ∧ ∀ H', Same H H' → Q (.bl (decide (k = "verb"))) H'
theorem ok_ws {f C : Addr} {fd : FuncData} {k : Nat} (F : Fun K "is_whole_sentence" "is_whole_sentence" s_is_whole_sentence f fd) (TC : TgC K C) :
    FnOk P w K mg base CX0 (k + 1) f fd ["tongue", "symbol"] (spWs K C) := by
  refine F.ok sc_is_whole_sentence (fun vs H Q E h => ?_) (fun cdv A outer s H vs Q E hr h => ?_)
  · obtain ⟨p, c, v, L, N, kvs, k, vl, rfl, _⟩ := h
    rfl
  · obtain ⟨p, c, v, L, N, kvs, k, vl, rfl, hTg, hv, q⟩ := h
    have hu := hu_of hr
    refine ⟨_, pss_one (ps_ret (pe_and (pe_cmpR op_eq (pe_ix ix_tup (pv 1) pe_int (fun _ _ => rfl)) (pe_dget hu (pe_fld (pv 0) rfl) pe_str (fun _ _ => rfl)) (nomark _)) (pe_one (pe_cmpR (op_eqN hr.units) (pe_ix ix_tup (pv 1) pe_int (fun _ _ => rfl)) (pe_tup pa_nil) (nomark _))))), ?_⟩
    obtain ⟨dx, o, fe, kd, pl, h1, h2, h3, _, h4⟩ := id hTg
    obtain ⟨a0, xf, xk, xm, xs, xe, xr, vf, vk, vm, wS, ve, ea, _, LA⟩ := lx_inv h2
    cases ea
    obtain ⟨va, vb, vz, rfl, e1, e2, e3⟩ := hv
    refine ⟨_, rfl, va, _, _, .str k, rfl, rfl, e1, rfl, _, rfl, p, C, dx, _, _, rfl, h1, TC.cl, TC.nO, tgF_own .., o, _, rfl, get_of LA.d rfl, rfl, _, rfl, ?_⟩
    by_cases hk : k = "verb"
    · subst hk
      rw [decide_eq_true rfl]
      refine iteT ⟨_, rfl, va, _, _, .ref vz, rfl, rfl, e1, rfl, Nat.zero_le _, fun z nz => ?_⟩
      have sz := same_new (o := .tup []) nz
      exact ⟨0, by decide, .inr ⟨vz, z, [], [], rfl, rfl, sqT_of_same sz e3, .inl (.inl upd_same), .nil⟩, q _ sz⟩
    · rw [decide_eq_false (fun z => hk (V.str.inj z))]
      refine iteF ?_
      have := q H (Same.refl H)
      rw [decide_eq_false hk] at this
      exact this
def spSen (K : PySem.W.Frag) (T : Tb) (C : Addr) : Sp := fun vs H Q _ => ∃ (p c a : Addr) (i j : Nat) (L : Lx) (N : Addr → Prop) (kvs : List (Key × V)) (s : Sd) (e : En) (vl : List Str), vs = [.ref p, .ref a] ∧ TgB C K N H p c L kvs ∧ L.Ok ∧ SqT K H a [.str "word", .int (i : Nat), .int (j : Nat)] ∧ L.ss[i]? = some s ∧ L.es[j]? = some e ∧ valsM L s e = some vl ∧ TbOk T H ∧
  ∀ H', SL T H H' → Q (.bl (decide (s.k = "verb"))) H'
theorem ok_sen {f fS fW C : Addr} {fd fdS fdW : FuncData} {T : Tb} {k : Nat} (F : Fun K "is_sentence" "is_sentence" s_is_sentence f fd)
    (kS : PySem.W.keepIn K (.ref fS) = true) (bS : Binds K fdS ["tongue", "tree"] []) (gS : mg "symbol_or_path" = some (.ref fS)) (GS : FnOk P w K mg base CX0 (k + 1) fS fdS ["tongue", "tree"] (spSp K T C))
    (kW : PySem.W.keepIn K (.ref fW) = true) (bW : Binds K fdW ["tongue", "symbol"] []) (gW : mg "is_whole_sentence" = some (.ref fW)) (GW : FnOk P w K mg base CX0 1 fW fdW ["tongue", "symbol"] (spWs K C)) :
    FnOk P w K mg base CX0 (k + 2) f fd ["tongue", "tree"] (spSen K T C) := by
  refine F.ok sc_is_sentence (fun vs H Q E h => ?_) (fun cdv A outer s H vs Q E hr h => ?_)
  · obtain ⟨p, c, a, i, j, L, N, kvs, sd, en, vl, rfl, _⟩ := h
    rfl
  · obtain ⟨p, c, a, i, j, L, N, kvs, sd, en, vl, rfl, hTg, hL, ha, hi, hj, hvm, hT, q⟩ := h
    refine ⟨_, pss_cons (ps_asg (pe_call GS hr (by rfl) gS kS bS .nil pass0 (pa_cons (pv 0) (pa_cons (pv 1) pa_nil))) (pg_tup rfl (pgs_cons (pg_name (i := 2) sc_is_sentence.nd rfl (.inl rfl)) (pgs_cons (pg_name (i := 3) sc_is_sentence.nd rfl (.inl rfl)) pgs_nil))))
      (pss_one (ps_ret (pe_and (pe_cmpR op_notN (pv 2) pe_non (nomark _)) (pe_one (pe_call GW (hr.mono (by omega)) (by rfl) gW kW bW .nil pass0 (pa_cons (pv 0) (pa_cons (pv 2) pa_nil))))))), ?_⟩
    refine ⟨_, rfl, _, rfl, p, c, a, i, j, L, N, kvs, sd, en, vl, rfl, hTg, hL, ha, hi, hj, hvm, hT, fun z y v H1 s1 hz hv => ?_⟩
    have hv0 := hv
    obtain ⟨va, vb, vz, rfl, _⟩ := hv0
    refine ⟨z, _, rfl, .inl (.inl hz), rfl, _, _, rfl, _, _, rfl, rfl, ?_⟩
    refine ⟨_, rfl, rfl, _, rfl, ?_⟩
    rw [decide_eq_false (fun z => by cases z)]
    exact iteT ⟨_, rfl, _, rfl, p, c, _, L, N, kvs, sd.k, vl, rfl, hTg.sl s1, hv, fun H2 s2 => q _ (s1.trans (SL.of s1.t s2))⟩
/-! ### cost_of -/
abbrev NCost : List Str := ["tongue", "tree", "node", "around", "number"]
def spCo (K : PySem.W.Frag) (T : Tb) (C : Addr) : Sp := fun vs H Q _ => ∃ (p c a : Addr) (i j : Nat) (L : Lx) (N : Addr → Prop) (kvs : List (Key × V)) (s : Sd) (e : En) (vl : List Str), vs = [.ref p, .ref a] ∧ TgB C K N H p c L kvs ∧ L.Ok ∧ SqT K H a [.str "word", .int (i : Nat), .int (j : Nat)] ∧ L.ss[i]? = some s ∧ L.es[j]? = some e ∧ valsM L s e = some vl ∧ TbOk T H ∧
  ∀ H', SL T H H' → Q (.int (s.r + e.r)) H'
theorem ok_co {f c0 pT fS fO fA C : Addr} {fd fdS fdO fdA : FuncData} {T : Tb} {k : Nat} (F : FunC K "cost_of" "cost_of" s_cost_of f fd c0) (TB : GxR.TabB base mg c0 pT) (hP : pT ∈ T.ps) (hF : T.F ∉ T.ps) (ms : mg "sum" = none)
    (kS : PySem.W.keepIn K (.ref fS) = true) (bS : Binds K fdS ["tongue", "tree"] []) (gS : mg "symbol_of" = some (.ref fS)) (GS : FnOk P w K mg base CX0 (k + 5) fS fdS ["tongue", "tree"] (spSym0 K T C))
    (kO : PySem.W.keepIn K (.ref fO) = true) (bO : Binds K fdO ["tongue", "tree"] []) (gO : mg "own_cost" = some (.ref fO)) (GO : FnOk P w K mg base CX0 1 fO fdO ["tongue", "tree"] (spOc K C))
    (kA : PySem.W.keepIn K (.ref fA) = true) (bA : Binds K fdA ["tree"] []) (gA : mg "all_within_trees" = some (.ref fA)) (GA : FnOk P w K mg base CX0 1 fA fdA ["tree"] (spAw K)) :
    FnOk P w K mg base CX0 (k + 6) f fd ["tongue", "tree"] (spCo K T C) := by
  refine F.ok sc_cost_of (fun vs H Q E h => ?_) (fun A outer s H vs Q E hr h => ?_)
  · obtain ⟨p, c, a, i, j, L, N, kvs, sd, en, vl, rfl, _⟩ := h
    rfl
  · obtain ⟨p, c, a, i, j, L, N, kvs, sd, en, vl, rfl, hTg, hL, ha, hi, hj, hvm, hT, q⟩ := h
    refine ⟨_, pss_cons (ps_expr (pe_call GS hr (by rfl) gS kS bS .nil pass0 (pa_cons (pv 0) (pa_cons (pv 1) pa_nil))))
      (pss_one (ps_ret (pe_sum (own := [("node", 2), ("around", 3), ("number", 4)]) hr (by rfl) ms TB rfl rfl sc_cost_of.nd (pi_list (pe_call GA (hr.mono (by omega)) (by rfl) gA kA bA .nil pass0 (pa_cons (pv 1) pa_nil)))
        (blkOk_by (own := [("node", 2), ("around", 3), ("number", 4)]) (N := NCost) (sc := defScope s_cost_of) (by decide +kernel)) rfl (by decide +kernel) rfl
        (fun _ _ _ _ _ _ => pg_tupK (K := K) (n := 3) rfl (pg_tup (n := 3) rfl (pgs_cons (pg_name (i := 2) sc_cost_of.nd rfl (Or.inl rfl)) (pgs_cons (pg_name (i := 3) sc_cost_of.nd rfl (Or.inl rfl)) (pgs_cons (pg_name (i := 4) sc_cost_of.nd rfl (Or.inl rfl)) pgs_nil))))) (fun _ _ _ _ _ _ => pts_nil)
        (fun _ _ _ _ _ _ => pe_call GO ((room_gen hr _).mono (by omega)) (by rfl) gO kO bO .nil pass0 (pa_cons (pv 0) (pa_cons (pv 2) pa_nil)))))), ?_⟩
    refine ⟨_, rfl, _, rfl, p, c, a, i, j, L, N, kvs, sd, en, vl, rfl, hTg, hL, ha, hi, hj, hvm, hT, fun v H1 s1 hv => ?_⟩
    refine ⟨_, rfl, .ref a, .word i j, rfl, dp_word (s1.sqT ha), by unfold szT; decide, fun H2 l xs sm2 nl hl hR => ?_⟩
    have s2 := SL.of s1.t sm2
    have s02 := s1.trans s2
    rw [show flT 0 (-1) 0 (.word i j) = [(.word i j, -1, 0)] by unfold flT; rfl] at hR
    obtain ⟨x0, rfl, r, tvv, rfl, hr2, htt⟩ : ∃ x0, xs = [x0] ∧ ∃ r tvv, x0 = .ref r ∧ H2 r = some (.tup [tvv, .int (-1), .int (0 : Nat)]) ∧ Dp K H2 tvv (trD (.word i j)) := by
      cases hR with
      | cons h1 h2 =>
        cases h2
        obtain ⟨r, tvv, e, e1, e2⟩ := h1
        exact ⟨_, rfl, r, tvv, e, e1, e2⟩
    obtain ⟨a', rfl, ha'⟩ := tr_word htt
    refine ⟨l, rfl, ⟨_, .inl (.inl hl)⟩, s2.t.g _ hP, fun H3 hTb => ?_⟩
    refine gx_it (walk_list (K := K) (a := l) (xs := [.ref r])) (fun k n HZ => SL T H2 HZ ∧ n = if k = 0 then 0 else sd.r + en.r) ⟨SL.tab hF s2.t hP hTb, rfl⟩ (fun i _ HZ _ z => .inl (.inl (z.1.k _ _ nt_lst hl))) (fun k x n HZ HZ' hk hP' hY => ?_) (fun n HZ hP' => ?_)
    · obtain ⟨rfl, hx⟩ := hY
      obtain ⟨sZ, rfl⟩ := hP'
      have k0 : k = 0 := by
        have : k < 1 := hk
        omega
      subst k0
      have hx2 : x = .ref r := (Option.some.inj hx).symm
      subst hx2
      refine ⟨r, _, rfl, .inl (.inl (sZ.k _ _ nt_tup hr2)), rfl, _, _, rfl, _, _, rfl, _, _, rfl, rfl, rfl, tYes_in ?_⟩
      refine ⟨_, rfl, _, rfl, p, c, a', i, j, L, N, kvs, sd, en, rfl, (hTg.sl s02).sl sZ, sZ.sqT ha', hi, hj, sd.r + en.r, rfl, sZ, ?_⟩
      rw [if_pos rfl, if_neg (by omega), Int.zero_add]
    · obtain ⟨sZ, rfl⟩ := hP'
      rw [if_neg (by rw [List.length_singleton]; decide)]
      exact q _ (s02.trans sZ)
end
end Bn

set_option pp.maxSteps 400
namespace Bn
open PySem PySem.Spec PyProof.Rows L2 BR GX RM GY
def LstW (H : Hp) (v : V) (ws : List Str) : Prop := ∃ l, v = .ref l ∧ H l = some (.lst (ws.map V.str))
/-! ### words_of, of a word -/
def woE : Expr := match (defBody s_words_of).getD 1 (.Pass ⟨0, 0, 0, 0⟩) with
  | .Return (some (.Call _ [_, lam] _ _)) _ => lam
  | _ => .Name "" ⟨0, 0, 0, 0⟩
def woA : Arguments := match woE with
  | .Lambda params _ _ _ => params
  | _ => defArgs s_words_of
def woB : Expr := match woE with
  | .Lambda _ body _ _ => body
  | e => e
def woS : Scope := match woE with
  | .Lambda _ _ scope _ => scope
  | _ => defScope s_words_of
def woL (q : Str) (cells : List (Str × Addr)) (c : Addr) : LX.LF := ⟨q, woA, woB, woS, cloFrom cells woS.names [], c⟩
abbrev woQ : Str := "words_of.<locals>.<lambda>"
theorem woC : ∀ y ∈ woS.names, y.2 = .free → (defScope s_words_of).names.lookup y.1 = some .cell ∨ (defScope s_words_of).names.lookup y.1 = some .free := by decide +kernel
theorem woFr : ∀ y ∈ (["tongue"] : List Str), (y, NameKind.free) ∈ woS.names := by decide +kernel
def wordF (L : Lx) (t : Tr) (_ : List (List Str)) : Option (List Str) := match t with
  | .word i j => (L.ss[i]?).bind fun s => (L.es[j]?).map fun e => [sewnM L.ms s.x e.x]
  | _ => none
theorem wordF_some {L : Lx} {t : Tr} {I : List (List Str)} {x : List Str} (h : wordF L t I = some x) : ∃ i j s e, t = .word i j ∧ L.ss[i]? = some s ∧ L.es[j]? = some e ∧ x = [sewnM L.ms s.x e.x] := by
  cases t with
  | word i j =>
    have h : ((L.ss[i]?).bind fun s => (L.es[j]?).map fun e => [sewnM L.ms s.x e.x]) = some x := h
    cases h1 : L.ss[i]? with
    | none => rw [h1] at h; cases h
    | some s =>
      cases h2 : L.es[j]? with
      | none => rw [h1, h2] at h; cases h
      | some e =>
        rw [h1, h2] at h
        exact ⟨i, j, s, e, rfl, h1, h2, (Option.some.inj h).symm⟩
  | gap k vs => cases h
  | rule r pl ts => cases h
theorem repW {T : Tb} : RepOk T LstW := ⟨fun H H' v x s ⟨l, e, h⟩ => ⟨l, e, s.k _ _ nt_lst h⟩, fun H v x d ws ys ⟨l, e, h⟩ _ ne => ⟨l, e, by rw [upd_ne (fun z => ne (by rw [e, z]))]; exact h⟩⟩
section
variable {P : Program} {w : World} {K : PySem.W.Frag} {mg : Str → Option Value} {base : Heap}
/-- the lambda -/
def spWl (sp : Sp) : List (Option V) → Sp := fun ws vs H Q E => ∃ (u v il : V), vs = [v, il] ∧ ws = [some u] ∧ sp [u, v, il] H Q E
theorem ok_wol {q : Str} {cells : List (Str × Addr)} {c f g : Addr} {gd : FuncData} {sp : Sp} (kg : PySem.W.keepIn K (.ref g) = true) (bg : Binds K gd ["tongue", "tree", "inner"] []) (gg : mg "own_words" = some (.ref g)) (G : FnOk P w K mg base CX0 3 g gd ["tongue", "tree", "inner"] sp) : LX.LOk P w K mg base 4 f (woL q cells c) ["tongue"] (spWl sp) := by
  refine LX.lok_of (N := ["node", "inner", "tongue"]) (ps := ["node", "inner"]) (NdefX.nscope_by (sc := woS) (by decide +kernel)) (fun pm ctv us hl => match us, hl with | [_, _], _ => rfl) (fun ws vs H Q h => ?_) (fun A outer s H vs ws Q hr h => ?_)
  · obtain ⟨u, v, il, rfl, _⟩ := h
    rfl
  · obtain ⟨u, v, il, rfl, rfl, h⟩ := h
    exact ⟨_, pe_call G hr (by rfl) gg kg bg .nil pass0 (pa_cons (pv 2) (pa_cons (pv 0) (pa_cons (pv 1) pa_nil))), _, rfl, _, rfl, _, rfl, h⟩
def SPto {α : Type} (X : Cx) (K : PySem.W.Frag) (T : Tb) (k : Nat) (F : Tr → List α → Option α) (Rep : Hp → V → α → Prop) : L2.St → List V → Hp → VK → Prop := fun σ vs H Q => ∃ (tv : V) (f : Addr) (t : Tr) (x : α) (sp : Sp) (St : Hp → Prop),
  vs = [tv, .ref f] ∧ LX.CalX X σ k f sp St ∧ TellsF K T H sp St F Rep ∧ Dp K H tv (trD t) ∧ szT t ≤ 900 ∧ valT F 0 t = .inl x ∧ TbOk T H ∧ ∀ H' v, SL T H H' → Rep H' v x → Q v H'
def spWf (K : PySem.W.Frag) (T : Tb) (C : Addr) : Sp := fun vs H Q _ => ∃ (p c a : Addr) (i j : Nat) (L : Lx) (N : Addr → Prop) (kvs : List (Key × V)) (s : Sd) (e : En) (vl : List Str), vs = [.ref p, .ref a] ∧ TgB C K N H p c L kvs ∧ L.Ok ∧ SqT K H a [.str "word", .int (i : Nat), .int (j : Nat)] ∧ L.ss[i]? = some s ∧ L.es[j]? = some e ∧ valsM L s e = some vl ∧ TbOk T H ∧
  ∀ v H', SL T H H' → LstW H' v [sewnM L.ms s.x e.x] → Q v H'
theorem ok_wf {f c0 pW fS fO fT fA C : Addr} {fd fdS fdO fdT fdA : FuncData} {T : Tb} {k : Nat} (F : FunC K "words_of" "words_of" s_words_of f fd c0) (TB : LamX.TabB base mg c0 pW) (hP : (pW, woQ) ∈ T.xs) (ml : mg "len" = none) (mr : mg "reversed" = none) (mR : mg "range" = none)
    (kS : PySem.W.keepIn K (.ref fS) = true) (bS : Binds K fdS ["tongue", "tree"] []) (gS : mg "symbol_of" = some (.ref fS)) (GS : FnOk P w K mg base CX0 (k + 5) fS fdS ["tongue", "tree"] (spSym0 K T C))
    (kO : PySem.W.keepIn K (.ref fO) = true) (bO : Binds K fdO ["tongue", "tree", "inner"] []) (gO : mg "own_words" = some (.ref fO)) (GO : FnOk P w K mg base CX0 3 fO fdO ["tongue", "tree", "inner"] (spOwW K T C))
    (FT : Fun K "told_of" "told_of" s_told_of fT fdT) (bT : Binds K fdT ["tree", "tell"] []) (gT : mg "told_of" = some (.ref fT))
    (kA : PySem.W.keepIn K (.ref fA) = true) (bA : Binds K fdA ["tree"] []) (gA : mg "all_within_trees" = some (.ref fA)) (GA : FnOk P w K mg base CX0 1 fA fdA ["tree"] (spAw K)) :
    FnOk P w K mg base CX0 (k + 6) f fd ["tongue", "tree"] (spWf K T C) := by
  refine F.ok sc_words_of (fun vs H Q E h => ?_) (fun A outer s H vs Q E hr h => ?_)
  · obtain ⟨p, c, a, i, j, L, N, kvs, sd, en, vl, rfl, _⟩ := h
    rfl
  · obtain ⟨p, c, a, i, j, L, N, kvs, sd, en, vl, rfl, hTg, hL, ha, hi, hj, hvm, hT, q⟩ := h
    refine ⟨_, pss_cons (ps_expr (pe_call GS hr (by rfl) gS kS bS .nil pass0 (pa_cons (pv 0) (pa_cons (pv 1) pa_nil))))
      (pss_one (ps_ret (LX.pe_callV (k := 4) FT sc_told_of bT (by rfl) gT (hr.mono (by omega)) (SPto _ K T 4 (wordF L) LstW) (fun pins σ s H vs Q I h => by
          obtain ⟨tv, f1, t, x, sp, St, rfl, C, hS, ht, few, hv, hT1, q1⟩ := h
          exact ⟨rfl, fun cd room => to_body ml mr mR kA bA gA GA (LX.cal_of I C) room (by decide) repW hS ht few hv hT1 q1⟩)
        (pa_cons (pv 1) (pa_cons (LX.pe_lam TB rfl rfl woC) pa_nil))))), ?_⟩
    refine ⟨_, rfl, _, rfl, p, c, a, i, j, L, N, kvs, sd, en, vl, rfl, hTg, hL, ha, hi, hj, hvm, hT, fun v H1 s1 hv => ?_⟩
    have hwrd : valT (wordF L) 0 (.word i j) = .inl [sewnM L.ms sd.x en.x] := by
      have e : wordF L (.word i j) [] = some [sewnM L.ms sd.x en.x] := by
        show ((L.ss[i]?).bind fun s => (L.es[j]?).map fun e => [sewnM L.ms s.x e.x]) = _
        rw [hi, hj]
        rfl
      rw [valT, e]
    refine ⟨_, rfl, s1.t.x (pW, woQ) hP, fun g c' H2 kp tb ng hg hc' => ?_⟩
    have s2 : SL T H1 H2 := SL.lamX (z := (pW, woQ)) s1.t hP kp tb
    have hTg2 := (hTg.sl s1).sl s2
    refine ⟨.ref a, g, .word i j, _, fun vs HX Q' E' => ∃ v il, vs = [v, il] ∧ spOwW K T C [.ref p, v, il] HX Q' E', fun HX => HX g = H2 g ∧ HX c' = H2 c', rfl, ?_, ?_, dp_word ((s1.trans s2).sqT ha), by unfold szT; decide, hwrd, s2.t, fun H3 v3 s3 hr3 => q _ _ ((s1.trans s2).trans s3) hr3⟩
    · refine .inr ⟨woL woQ _ c', ["tongue"], [0], spWl (spOwW K T C), ok_wol kO bO gO GO, fun ok => NdefX.Caps.made (scope := woS) ok woC woFr rfl, fun HX st => ⟨st.1.trans hg, st.2.trans hc'⟩, fun vs HX Q' h => ?_⟩
      obtain ⟨v, il, rfl, h⟩ := h
      exact ⟨.ref p, v, il, rfl, rfl, h⟩
    · refine ⟨fun HZ s => ⟨(s.k _ _ LX.nt_lamO hg).trans hg.symm, (s.k _ _ nt_code hc').trans hc'.symm⟩, fun HZ tv' t' il ws I x' s ht' hil hI hF Q' hq => ?_⟩
      obtain ⟨i', j', s', e', rfl, hi', hj', rfl⟩ := wordF_some hF
      obtain ⟨a', rfl, ha'⟩ := tr_word ht'
      refine ⟨.ref a', .ref il, rfl, p, c, a', .ref il, i', j', L, N, kvs, s', e', rfl, hTg2.sl s, hL, ha', hi', hj', s.t, fun H' l sx nl hl => ?_⟩
      exact hq H' _ sx ⟨l, rfl, hl⟩ fun e ys he z => by
        cases z
        rw [nl] at he
        cases he
end
end Bn

set_option pp.maxSteps 400
namespace Bn
open PySem PySem.Spec PyProof.Rows L2 BR GX RM GY
theorem ix_tail {x : Str} (h : x = "" ∨ x = "s" ∨ x = "ed" ∨ x = "ing") : ∃ z, ([V.str "", V.str "s", V.str "ed", V.str "ing"] : List V)[ix14 x]? = some z ∧ eqV z (.str x) = true ∧ ∀ (m : Nat) (z' : V), m < ix14 x → ([V.str "", V.str "s", V.str "ed", V.str "ing"] : List V)[m]? = some z' → eqV z' (.str x) = false := by
  rcases h with rfl | rfl | rfl | rfl
  · rw [show ix14 "" = 0 by decide +kernel]
    exact ⟨_, rfl, by decide +kernel, fun m z' hm hz => absurd hm (Nat.not_lt_zero _)⟩
  · rw [show ix14 "s" = 1 by decide +kernel]
    refine ⟨_, rfl, by decide +kernel, fun m z' hm hz => ?_⟩
    match m, hm, hz with
    | 0, _, hz => cases hz; decide +kernel
  · rw [show ix14 "ed" = 2 by decide +kernel]
    refine ⟨_, rfl, by decide +kernel, fun m z' hm hz => ?_⟩
    match m, hm, hz with
    | 0, _, hz => cases hz; decide +kernel
    | 1, _, hz => cases hz; decide +kernel
  · rw [show ix14 "ing" = 3 by decide +kernel]
    refine ⟨_, rfl, by decide +kernel, fun m z' hm hz => ?_⟩
    match m, hm, hz with
    | 0, _, hz => cases hz; decide +kernel
    | 1, _, hz => cases hz; decide +kernel
    | 2, _, hz => cases hz; decide +kernel
theorem tails_x : ∀ e ∈ tails14, e.x = "" ∨ e.x = "s" ∨ e.x = "ed" ∨ e.x = "ing" := by decide +kernel
theorem wrow_n : ∀ r ∈ nouns14, ∀ e ∈ tails14, e.l = "n" → 0 < ((tab14 (nS r)).filter fun q => decide (q.getD 0 "" = (nS r).x)).length ∧ ix14 e.x < (((tab14 (nS r)).filter fun q => decide (q.getD 0 "" = (nS r).x)).getD 0 []).length := by decide +kernel
theorem wrow_v : ∀ r ∈ verbs14, ∀ e ∈ tails14, e.l = "v" → 0 < ((tab14 (vS r)).filter fun q => decide (q.getD 0 "" = (vS r).x)).length ∧ ix14 e.x < (((tab14 (vS r)).filter fun q => decide (q.getD 0 "" = (vS r).x)).getD 0 []).length := by decide +kernel
section
variable {P : Program} {w : World} {K : PySem.W.Frag} {mg : Str → Option Value} {base : Heap}
/-! ### _law_written -/
abbrev NWr : List Str := ["_law_stem", "_law_ending", "_law_table", "_law_row"]
def spWr (K : PySem.W.Frag) : Sp := fun vs H Q _ => ∃ (a b m1 m2 : Addr) (s : Sd) (e : En), vs = [.ref a, .ref b] ∧ SqT K H a [.str s.x, .str s.k, .str s.l, .str s.a, .ref m1, .int s.r] ∧ SqT K H b [.str e.l, .str e.x, .ref m2, .int e.r] ∧ ((∃ r ∈ nouns14, s = nS r) ∨ ∃ r ∈ verbs14, s = vS r) ∧ e ∈ tails14 ∧ s.l = e.l ∧
  ∀ H', Same H H' → Q (.str (wr14 s e)) H'
theorem ok_l_written {f fN fW : Addr} {fd fdN fdW : FuncData} {k : Nat} (F : Fun K "_law_written" "_law_written" s_l_written f fd) (mi : mg "int" = none)
    (kN : PySem.W.keepIn K (.ref fN) = true) (bN : Binds K fdN [] []) (gN : mg "_law_nouns" = some (.ref fN)) (GN : FnOk P w K mg base CX0 1 fN fdN [] (spTab K nouns14))
    (kW : PySem.W.keepIn K (.ref fW) = true) (bW : Binds K fdW [] []) (gW : mg "_law_verbs" = some (.ref fW)) (GW : FnOk P w K mg base CX0 1 fW fdW [] (spTab K verbs14)) :
    FnOk P w K mg base CX0 (k + 2) f fd ["_law_stem", "_law_ending"] (spWr K) := by
  refine F.ok sc_l_written (fun vs H Q E h => ?_) (fun cdv A outer s H vs Q E hr h => ?_)
  · obtain ⟨a, b, m1, m2, sd, en, rfl, _⟩ := h
    rfl
  · obtain ⟨a, b, m1, m2, sd, en, rfl, ha, hb, hs, he, hl, q⟩ := h
    refine ⟨_, pss_cons (ps_set (i := 2) sc_l_written.nd rfl (.inl rfl) (pe_ix ix_list (pe_lst (pa_cons (pe_call0 GN (hr.mono (by omega)) (by rfl) gN kN bN .nil pass0) (pa_cons (pe_call0 GW (hr.mono (by omega)) (by rfl) gW kW bW .nil pass0) pa_nil)))
          (pe_callTy call_int1 (by rfl) mi (by decide +kernel) (pa_cons (pe_cmpR op_eq (pe_ix ix_tup (pv 0) pe_int (fun _ _ => rfl)) pe_str (nomark _)) pa_nil)) (fun _ _ => rfl)))
      (pss_one (ps_ret (pe_ix ix_list (pe_ix ix_list (pe_lc (own := [("_law_row", 3)]) (g := gName 3) rfl sc_l_written.nd (pi_list (pv 2))
          (blkOk_by (own := [("_law_row", 3)]) (N := NWr) (sc := defScope s_l_written) (by decide +kernel))
          (fun _ _ _ _ _ => pg_name (i := 3) sc_l_written.nd rfl (Or.inl rfl))
          (fun _ _ _ _ _ => pts_one (pt_cmpR op_eq (pe_ix (ix_lstK (K := K) rfl) (pv 3) pe_int (fun _ _ => rfl)) (pe_ix (ix_tupK (K := K) rfl) (pv 0) pe_int (fun _ _ => rfl)) (nomark _)))
          (fun _ _ _ _ _ => pv 3)) pe_int (fun _ _ => rfl))
        (pe_bm PySem.F.plainAttrs_list PySem.F.slot_list_index PySem.F.type_list_index mt_index (pe_lst (pa_cons pe_str (pa_cons pe_str (pa_cons pe_str (pa_cons pe_str pa_nil))))) (pa_cons (pe_ix ix_tup (pv 1) pe_int (fun _ _ => rfl)) pa_nil)) (fun _ _ => rfl)))), ?_⟩
    have hfx : 0 < ((tab14 sd).filter fun q => decide (q.getD 0 "" = sd.x)).length ∧ ix14 en.x < (((tab14 sd).filter fun q => decide (q.getD 0 "" = sd.x)).getD 0 []).length := by
      rcases hs with ⟨r, hr, rfl⟩ | ⟨r, hr, rfl⟩
      · exact wrow_n r hr en he hl.symm
      · exact wrow_v r hr en he hl.symm
    have hne : ∀ r ∈ tab14 sd, r ≠ [] := by
      unfold tab14
      split
      · exact verbs_ne
      · exact nouns_ne
    have hlen : (tab14 sd).length ≤ 12 := by
      unfold tab14
      split <;> decide
    refine ⟨rfl, fun l1 xs1 H1 s1 n1 h1 d1 => ⟨rfl, fun l2 xs2 H2 s2 n2 h2 d2 => ⟨(show 2 ≤ sizeLine by decide), fun p np => ?_⟩⟩⟩
    have s3 := same_new (o := .lst [.ref l1, .ref l2]) np
    have hp : (upd H2 p (.lst [.ref l1, .ref l2])) p = some (.lst [.ref l1, .ref l2]) := upd_same
    generalize upd H2 p (.lst [.ref l1, .ref l2]) = H3 at s3 hp ⊢
    have s03 := (s1.trans s2).trans s3
    obtain ⟨t, xs, hat, ht, dt⟩ : ∃ (t : Addr) (xs : List V), atI [V.ref l1, V.ref l2] (if decide (V.str sd.k = V.str "verb") = true then 1 else 0) = some (.ref t) ∧ H3 t = some (.lst xs) ∧ DqAll K H3 (fun _ => True) 1 xs ((tab14 sd).map strsD) := by
      rcases hs with ⟨r, hr, rfl⟩ | ⟨r, hr, rfl⟩
      · exact ⟨l1, xs1, rfl, s3 _ _ (s2 _ _ h1), ((d1.same s2).same s3).mono fun _ _ => trivial⟩
      · exact ⟨l2, xs2, rfl, s3 _ _ h2, (d2.same s3).mono fun _ _ => trivial⟩
    refine ⟨_, rfl, a, _, _, .str sd.k, rfl, rfl, sqT_of_same s03 ha, rfl, rfl, .inr ⟨_, rfl, p, _, _, .ref t, rfl, rfl, .inl (.inl hp), hat, ?_⟩⟩
    refine ⟨_, rfl, t, rfl, ⟨_, .inl (.inl ht)⟩, fun D nD => ?_⟩
    have dt := dt.tightN
    refine lc_it (walk_list (K := K) (a := t) (xs := xs)) (fun i HX => Same H3 HX ∧ ∃ vs, HX D = some (.lst vs) ∧ vs.length ≤ i ∧ DqAll K HX (fun x => x ≠ D) 1 vs ((((tab14 sd).take i).filter fun q => decide (q.getD 0 "" = sd.x)).map strsD)) ⟨same_new nD, [], upd_same, Nat.le_refl _, .nil⟩ (fun i HX _ z => .inl (.inl (z.1 _ _ ht))) (fun i x HX HX' hi hP' hY => ?_) (fun H4 hP' => ?_)
    · obtain ⟨rfl, hx⟩ := hY
      obtain ⟨sX, vs, hDX, hvl, hvs⟩ := hP'
      obtain ⟨d, ed, hd⟩ := dt.at hx
      obtain ⟨row, er, rfl⟩ := map_at ed
      obtain ⟨r, hr0, rfl, hrl⟩ := wrow_inv hd
      have hat2 := row_at (hne row (List.mem_of_getElem? er))
      have hD0 : r ≠ D := fun e => hr0.2 (by rw [e]; exact nD)
      refine ⟨rfl, ⟨_, rfl, r, _, _, .str (row.getD 0 ""), rfl, rfl, .inl (.inl (sX _ _ hrl)), hat2, _, rfl, a, _, _, .str sd.x, rfl, rfl, sqT_of_same (s03.trans sX) ha, rfl, rfl, _, rfl, ite2 (fun e => ?_) (fun e => ?_)⟩⟩
      · have e' : row.getD 0 "" = sd.x := V.str.inj (of_decide_eq_true e)
        refine ⟨_, rfl, vs, hDX, small_line (by have : i < xs.length := hi; rw [dt.len, List.length_map] at this; omega), Same.own sX nD, vs ++ [.ref r], upd_same, by rw [List.length_append]; show vs.length + 1 ≤ i + 1; omega, ?_⟩
        rw [take_get er, List.filter_append, List.map_append, List.filter_cons_of_pos (by exact decide_eq_true e'), List.filter_nil]
        have one : Dq K HX' (fun x => x ≠ D) 1 (.ref r) (strsD row) := (hd.mono (N' := fun x => x ≠ D) fun x z => fun e => z.2 (by rw [e]; exact nD)).same sX
        exact (hvs.app (.cons one .nil)).put hDX fun z => z rfl
      · have e' : ¬ row.getD 0 "" = sd.x := fun z => e (decide_eq_true (congrArg V.str z))
        refine ⟨sX, vs, hDX, by omega, ?_⟩
        rw [take_get er, List.filter_append, List.filter_cons_of_neg (by simpa using e'), List.filter_nil, List.append_nil]
        exact hvs
    · obtain ⟨s4, vs, hD, hvl, hvs⟩ := hP'
      have e2 : (tab14 sd).take xs.length = tab14 sd := by rw [dt.len, List.length_map, List.take_length]
      rw [e2] at hvs
      generalize hRR : ((tab14 sd).filter fun q => decide (q.getD 0 "" = sd.x)) = RR at hvs hfx
      have hw : wr14 sd en = (RR.getD 0 []).getD (ix14 en.x) "" := by rw [← hRR]; rfl
      have vl : vs.length = RR.length := by rw [hvs.len, List.length_map]
      have hv0 : vs[0]? = some (vs[0]'(by omega)) := List.getElem?_eq_getElem _
      obtain ⟨d, ed, hd⟩ := hvs.at hv0
      obtain ⟨row, er, rfl⟩ := map_at ed
      obtain ⟨r, hr0, hre, hrl⟩ := wrow_inv hd
      rw [hre] at hv0
      have e0 : RR.getD 0 [] = row := by rw [List.getD_eq_getElem?_getD, er]; rfl
      rw [e0] at hfx hw
      have ew : row[ix14 en.x]? = some (row[ix14 en.x]'hfx.2) := List.getElem?_eq_getElem _
      have ew2 : wr14 sd en = row[ix14 en.x]'hfx.2 := by rw [hw, List.getD_eq_getElem?_getD, ew]; rfl
      rw [← ew2] at ew
      obtain ⟨z, iz1, iz2, iz3⟩ := ix_tail (tails_x en he)
      refine ⟨D, vs, _, .ref r, rfl, rfl, .inl (.inl hD), atI_nat (j := 0) hv0, ⟨(show 4 ≤ sizeLine by decide), fun y ny => ?_⟩⟩
      have s5 := same_new (o := .lst [.str "", .str "s", .str "ed", .str "ing"]) ny
      have hy : (upd H4 y (.lst [.str "", .str "s", .str "ed", .str "ing"])) y = some (.lst [.str "", .str "s", .str "ed", .str "ing"]) := upd_same
      generalize upd H4 y (.lst [.str "", .str "s", .str "ed", .str "ing"]) = H5 at s5 hy ⊢
      have s05 := (s03.trans s4).trans s5
      refine ⟨.inl ⟨rfl, _, .inl (.inl hy)⟩, _, rfl, b, _, _, .str en.x, rfl, rfl, sqT_of_same s05 hb, rfl, y, _, .str en.x, ix14 en.x, z, rfl, rfl, .inl (.inl hy), rfl, rfl, iz1, iz2, iz3, ?_⟩
      exact ⟨r, _, _, .str (wr14 sd en), rfl, rfl, .inl (.inl (s5 _ _ hrl)), atI_nat (by rw [List.getElem?_map, ew]; rfl), q _ s05⟩
end
end Bn

set_option pp.maxSteps 400
namespace Bn
open PySem PySem.Spec PyProof.Rows L2 BR GX RM GY
def numM (e : En) : Str := (getM e.ms "num").getD ""
def mnD (s : Sd) (e : En) : PyData := .tuple [.str s.a, .tuple [.tuple [.str "num", .str (numM e)]], .tuple []]
def fuD (L : Lx) (r : Str × Nat × Nat) : PyData := match L.ss[r.2.1]?, L.es[r.2.2]? with
  | some s, some e => .tuple [.str r.1, .int (r.2.1 : Nat), .int (r.2.2 : Nat), .tuple ((vl14 s e).map PyData.str), mnD s e, .int (s.r + e.r)]
  | _, _ => .none
def duN (L : Lx) (i : Nat) : List (Str × Nat × Nat) := (List.range i).flatMap fun i => (List.range L.es.length).filterMap (dr14 L i)
theorem duN_succ (L : Lx) (i : Nat) : duN L (i + 1) = duN L i ++ (List.range L.es.length).filterMap (dr14 L i) := by
  unfold duN
  rw [List.range_succ, List.flatMap_append]
  simp
theorem dur_succ (L : Lx) (i j : Nat) : (List.range (j + 1)).filterMap (dr14 L i) = (List.range j).filterMap (dr14 L i) ++ (dr14 L i j).toList := by
  rw [List.range_succ, List.filterMap_append]
  congr 1
theorem duN_len (L : Lx) (i : Nat) : (duN L i).length ≤ i * L.es.length := by
  induction i with
  | zero => exact Nat.zero_le _
  | succ i ih =>
    rw [duN_succ, List.length_append, Nat.succ_mul]
    have := List.length_filterMap_le (dr14 L i) (List.range L.es.length)
    rw [List.length_range] at this
    omega
theorem tails_num : ∀ e ∈ tails14, getM e.ms "num" = some (numM e) := by decide +kernel
theorem tails_time : ∀ e ∈ tails14, e.l = "v" → getM e.ms "time" = some ((getM e.ms "time").getD "") := by decide +kernel
theorem strs_mk {K : PySem.W.Frag} {H : Hp} {N : Addr → Prop} {n : Nat} : ∀ zs : List Str, DqAll K H N n (zs.map V.str) (zs.map PyData.str)
  | [] => .nil
  | z :: zs => .cons (.str z) (strs_mk zs)
section
variable {P : Program} {w : World} {K : PySem.W.Frag} {mg : Str → Option Value} {base : Heap}
abbrev NDu : List Str := ["_law_told", "_law_found", "_law_i", "_law_stem", "_law_j", "_law_ending", "_law_values", "_law_meaning"]
def spDue (K : PySem.W.Frag) : Sp := fun vs H Q _ => ∃ (a : Addr) (L : Lx) (N : Addr → Prop), vs = [.ref a] ∧ Dq K H N 4 (.ref a) (lxD L) ∧ In14 L ∧ ∀ H' l xs, Same H H' → H l = none → H' l = some (.lst xs) → DqAll K H' (fun _ => False) 4 xs ((due14 L).map (fuD L)) → Q (.ref l) H'
theorem ok_l_due {f fW : Addr} {fd fdW : FuncData} {k : Nat} (F : Fun K "_law_due" "_law_due" s_l_due f fd) (me : mg "enumerate" = none)
    (kW : PySem.W.keepIn K (.ref fW) = true) (bW : Binds K fdW ["_law_stem", "_law_ending"] []) (gW : mg "_law_written" = some (.ref fW)) (GW : FnOk P w K mg base CX0 (k + 1) fW fdW ["_law_stem", "_law_ending"] (spWr K)) :
    FnOk P w K mg base CX0 (k + 2) f fd ["_law_told"] (spDue K) := by
  refine F.ok sc_l_due (fun vs H Q E h => ?_) (fun cdv A outer s H vs Q E hr h => ?_)
  · obtain ⟨a, L, N, rfl, _⟩ := h
    rfl
  · obtain ⟨a, L, N, rfl, hD, hI, q⟩ := h
    have hu := hu_of hr
    refine ⟨_, pss_cons (ps_set (i := 1) sc_l_due.nd rfl (.inl rfl) (pe_lst pa_nil))
      (pss_cons (ps_for PassesOwn.never rfl (pi_enum (by rfl) me (pa_cons (pe_dget hu (pv 0) pe_str (fun _ _ => rfl)) pa_nil)) (pg_tup rfl (pgs_cons (pg_name (i := 2) sc_l_due.nd rfl (.inl rfl)) (pgs_cons (pg_name (i := 3) sc_l_due.nd rfl (.inl rfl)) pgs_nil)))
        (pss_one (ps_for PassesOwn.never rfl (pi_enum (by rfl) me (pa_cons (pe_dget hu (pv 0) pe_str (fun _ _ => rfl)) pa_nil)) (pg_tup rfl (pgs_cons (pg_name (i := 4) sc_l_due.nd rfl (.inl rfl)) (pgs_cons (pg_name (i := 5) sc_l_due.nd rfl (.inl rfl)) pgs_nil)))
          (pss_one (ps_if (pt_cmpR op_eq (pe_ix ix_tup (pv 3) pe_int (fun _ _ => rfl)) (pe_ix ix_tup (pv 5) pe_int (fun _ _ => rfl)) (nomark _))
            (pss_cons (ps_set (i := 6) sc_l_due.nd rfl (.inl rfl) (pe_tup (pa_cons (pe_dget hu (pe_ix ix_tup (pv 5) pe_int (fun _ _ => rfl)) pe_str (fun _ _ => rfl)) pa_nil)))
            (pss_cons (ps_if (pt_cmpR op_eq (pe_ix ix_tup (pv 3) pe_int (fun _ _ => rfl)) pe_str (nomark _))
              (pss_one (ps_set (i := 6) sc_l_due.nd rfl (.inl rfl) (pe_op op_catT (pe_tup (pa_cons (pe_dget hu (pe_ix ix_tup (pv 5) pe_int (fun _ _ => rfl)) pe_str (fun _ _ => rfl)) pa_nil)) (pv 6)))) pss_nil)
            (pss_cons (ps_set (i := 7) sc_l_due.nd rfl (.inl rfl) (pe_tup (pa_cons (pe_ix ix_tup (pv 3) pe_int (fun _ _ => rfl)) (pa_cons (pe_tup (pa_cons (pe_tup (pa_cons pe_str (pa_cons (pe_dget hu (pe_ix ix_tup (pv 5) pe_int (fun _ _ => rfl)) pe_str (fun _ _ => rfl)) pa_nil))) pa_nil)) (pa_cons (pe_tup pa_nil) pa_nil)))))
            (pss_one (ps_expr (pe_bm PySem.F.plainAttrs_list PySem.F.slot_list_append PySem.F.type_list_append mt_append (pv 1) (pa_cons (pe_tup (pa_cons (pe_call GW hr (by rfl) gW kW bW .nil pass0 (pa_cons (pv 3) (pa_cons (pv 5) pa_nil))) (pa_cons (pv 2) (pa_cons (pv 4) (pa_cons (pv 6) (pa_cons (pv 7) (pa_cons (pe_op op_add (pe_ix ix_tup (pv 3) pe_int (fun _ _ => rfl)) (pe_ix ix_tup (pv 5) pe_int (fun _ _ => rfl))) pa_nil))))))) pa_nil))))))) pss_nil)))))
      (pss_one (ps_ret (pv 1)))), ?_⟩
    have hok := hI.ok
    obtain ⟨a0, xf, xk, xm, xs, xe, xr, vf, vk, vm, wS, ve, ea, _, LA⟩ := lx_inv hD
    cases ea
    have lS : wS.length = L.ss.length := by rw [LA.ds.len, List.length_map]
    have lE : ve.length = L.es.length := by rw [LA.de.len, List.length_map]
    refine ⟨Nat.zero_le _, fun D nD => ?_⟩
    have s1 := same_new (o := .lst []) nD
    have hD1 : (upd H D (.lst [])) D = some (.lst []) := upd_same
    generalize upd H D (.lst []) = H1 at s1 hD1 ⊢
    refine ⟨_, rfl, a, _, rfl, get_of (s1 _ _ LA.d) lxK_stems, xs, wS, rfl, .inl (.inl (s1 _ _ LA.hs)), ?_⟩
    refine for_it (walk_enum (K := K) (a := xs) (xs := wS)) (fun i σ HX => ∃ y2 y3 y4 y5 y6 y7 : Option V, σ = [some (.ref a), some (.ref D), y2, y3, y4, y5, y6, y7] ∧ Same H HX ∧ ∃ vs, HX D = some (.lst vs) ∧ DqAll K HX (fun _ => False) 4 vs ((duN L i).map (fuD L)))
      ⟨_, _, _, _, _, _, rfl, s1, [], hD1, .nil⟩ (fun i σ HX _ z => by obtain ⟨_, _, _, _, _, _, _, sX, _⟩ := z; exact .inl (.inl (sX _ _ LA.hs))) (fun i x σ HX HX' hi hP' hY => ?_) (fun σ HX hP' => ?_)
    · obtain ⟨T1, x1, x2, rfl, nT1, rfl, e1, e2⟩ := hY
      cases Option.some.inj e1
      obtain ⟨y2, y3, y4, y5, y6, y7, rfl, sX, vs, hDX, hvs⟩ := hP'
      have sT := same_new (o := .tup [.int (i : Nat), x2]) nT1
      have hT1 : (upd HX T1 (.tup [.int (i : Nat), x2])) T1 = some (.tup [.int (i : Nat), x2]) := upd_same
      have hDT := sT _ _ hDX
      have hvT := hvs.same sT
      have sHT := sX.trans sT
      generalize upd HX T1 (.tup [.int (i : Nat), x2]) = HT at sT hT1 hDT hvT sHT ⊢
      have li : i < L.ss.length := by rw [← lS]; exact hi
      have es : L.ss[i]? = some L.ss[i] := List.getElem?_eq_getElem li
      generalize L.ss[i] = sd at es
      obtain ⟨v1, hv1, hd1⟩ := ix_row LA.ds es
      have e2 : wS[i]? = some x2 := e2
      rw [e2] at hv1
      cases Option.some.inj hv1
      obtain ⟨a1, m1, rfl, ht1, hm1, _⟩ := sd_inv hd1
      refine ⟨T1, _, rfl, .inl (.inl hT1), rfl, _, _, rfl, _, _, rfl, rfl, ?_⟩
      refine ⟨_, rfl, a, _, rfl, get_of (sHT _ _ LA.d) lxK_endings, xe, ve, rfl, .inl (.inl (sHT _ _ LA.he)), ?_⟩
      refine for_it (walk_enum (K := K) (a := xe) (xs := ve)) (fun j σ HX => ∃ y4 y5 y6 y7 : Option V, σ = [some (.ref a), some (.ref D), some (.int (i : Nat)), some (.ref a1), y4, y5, y6, y7] ∧ Same H HX ∧ ∃ vs, HX D = some (.lst vs) ∧ DqAll K HX (fun _ => False) 4 vs ((duN L i ++ (List.range j).filterMap (dr14 L i)).map (fuD L)))
        ⟨_, _, _, _, rfl, sHT, vs, hDT, by rw [List.range_zero, List.filterMap_nil, List.append_nil]; exact hvT⟩ (fun i σ HX _ z => by obtain ⟨_, _, _, _, _, sX, _⟩ := z; exact .inl (.inl (sX _ _ LA.he))) (fun j x σ HX HX' hj hP' hY => ?_) (fun σ HX hP' => ?_)
      · obtain ⟨T2, x1, x2, rfl, nT2, rfl, e1, e2⟩ := hY
        cases Option.some.inj e1
        obtain ⟨y4, y5, y6, y7, rfl, sY, us, hDY, hus⟩ := hP'
        have sU := same_new (o := .tup [.int (j : Nat), x2]) nT2
        have hT2 : (upd HX T2 (.tup [.int (j : Nat), x2])) T2 = some (.tup [.int (j : Nat), x2]) := upd_same
        have hDU := sU _ _ hDY
        have huU := hus.same sU
        have sHU := sY.trans sU
        generalize upd HX T2 (.tup [.int (j : Nat), x2]) = HU at sU hT2 hDU huU sHU ⊢
        have lj : j < L.es.length := by rw [← lE]; exact hj
        have ee : L.es[j]? = some L.es[j] := List.getElem?_eq_getElem lj
        generalize L.es[j] = en at ee
        obtain ⟨v2, hv2, hd2⟩ := ix_row LA.de ee
        have e2 : ve[j]? = some x2 := e2
        rw [e2] at hv2
        cases Option.some.inj hv2
        obtain ⟨a2, m2, rfl, ht2, hm2, _⟩ := en_inv hd2
        have hsm := List.mem_of_getElem? es
        have hem := hI.e.mem_iff.mp (List.mem_of_getElem? ee)
        have edr : dr14 L i j = if sd.l = en.l then some (wr14 sd en, i, j) else none := by
          unfold dr14
          rw [es, ee]
        refine ⟨T2, _, rfl, .inl (.inl hT2), rfl, _, _, rfl, _, _, rfl, rfl, ?_⟩
        refine ⟨_, rfl, a1, _, _, .str sd.l, rfl, rfl, sqT_of_same sHU ht1, rfl, _, rfl, a2, _, _, .str en.l, rfl, rfl, sqT_of_same sHU ht2, rfl, rfl, _, rfl, ?_⟩
        by_cases hl : sd.l = en.l
        · rw [decide_eq_true (congrArg V.str hl)]
          rw [if_pos hl] at edr
          have hnum : valV (kvM en.ms) (.inr "num") = some (.str (numM en)) := by
            rw [getM_val, tails_num en hem]
            rfl
          refine iteT ⟨_, rfl, a2, _, _, .ref m2, rfl, rfl, sqT_of_same sHU ht2, rfl, m2, _, rfl, get_of (sHU _ _ hm2) hnum, ⟨(show 1 ≤ sizeLine by decide), fun w1 nw1 => ?_⟩⟩
          have q1 := same_new (o := .tup [.str (numM en)]) nw1
          have gw1 : (upd HU w1 (.tup [.str (numM en)])) w1 = some (.tup [.str (numM en)]) := upd_same
          generalize upd HU w1 (.tup [.str (numM en)]) = HW at q1 gw1 ⊢
          have sHW := sHU.trans q1
          refine ⟨_, rfl, a1, _, _, .str sd.k, rfl, rfl, sqT_of_same sHW ht1, rfl, rfl, _, rfl, ?_⟩
          by_cases hk : sd.k = "verb"
          · rw [decide_eq_true (congrArg V.str hk)]
            have hv : en.l = "v" := by
              rcases hI.stem hsm with ⟨r, _, rfl⟩ | ⟨r, _, rfl⟩
              · exact absurd hk (show ¬ ("noun" : Str) = "verb" by decide)
              · exact hl.symm
            have htime : valV (kvM en.ms) (.inr "time") = some (.str ((getM en.ms "time").getD "")) := by
              rw [getM_val, tails_time en hem hv]
              rfl
            refine iteT ⟨_, rfl, a2, _, _, .ref m2, rfl, rfl, sqT_of_same sHW ht2, rfl, m2, _, rfl, get_of (sHW _ _ hm2) htime, ⟨(show 1 ≤ sizeLine by decide), fun w2 nw2 => ?_⟩⟩
            have q2 := same_new (o := .tup [.str ((getM en.ms "time").getD "")]) nw2
            have gw2 : (upd HW w2 (.tup [.str ((getM en.ms "time").getD "")])) w2 = some (.tup [.str ((getM en.ms "time").getD "")]) := upd_same
            generalize upd HW w2 (.tup [.str ((getM en.ms "time").getD "")]) = HX2 at q2 gw2 ⊢
            refine ⟨_, rfl, w2, w1, _, _, rfl, rfl, .inl (.inl gw2), .inl (.inl (q2 _ _ gw1)), by simp, (show 2 ≤ sizeLine by decide), fun z => absurd z (by simp), fun _ wv nwv => ?_⟩
            have q3 := same_new (o := .tup ([.str ((getM en.ms "time").getD "")] ++ [.str (numM en)])) nwv
            have hwv : SqT K (upd HX2 wv (.tup ([.str ((getM en.ms "time").getD "")] ++ [.str (numM en)]))) wv ((vl14 sd en).map V.str) := by
              unfold vl14
              rw [if_pos hk]
              exact .inl (.inl upd_same)
            generalize upd HX2 wv (.tup ([.str ((getM en.ms "time").getD "")] ++ [.str (numM en)])) = HV at q3 hwv ⊢
            have sUV := (q1.trans q2).trans q3
            have sVV := sHU.trans sUV
            have hDV := sUV _ _ hDU
            have huV := huU.same sUV
            have sHV : Same H HV := sVV
            refine ⟨_, rfl, a1, _, _, .str sd.a, rfl, rfl, sqT_of_same sHV ht1, rfl, _, rfl, a2, _, _, .ref m2, rfl, rfl, sqT_of_same sHV ht2, rfl, m2, _, rfl, get_of (sHV _ _ hm2) hnum, ⟨(show 2 ≤ sizeLine by decide), fun z1 nz1 => ?_⟩⟩
            have t1 := same_new (o := .tup [.str "num", .str (numM en)]) nz1
            have g1 : (upd HV z1 (.tup [.str "num", .str (numM en)])) z1 = some (.tup [.str "num", .str (numM en)]) := upd_same
            generalize upd HV z1 (.tup [.str "num", .str (numM en)]) = K1 at t1 g1 ⊢
            refine ⟨(show 1 ≤ sizeLine by decide), fun z2 nz2 => ?_⟩
            have t2 := same_new (o := .tup [.ref z1]) nz2
            have g2 : (upd K1 z2 (.tup [.ref z1])) z2 = some (.tup [.ref z1]) := upd_same
            generalize upd K1 z2 (.tup [.ref z1]) = K2 at t2 g2 ⊢
            refine ⟨Nat.zero_le _, fun z3 nz3 => ?_⟩
            have t3 := same_new (o := .tup []) nz3
            have g3 : (upd K2 z3 (.tup [])) z3 = some (.tup []) := upd_same
            generalize upd K2 z3 (.tup []) = K3 at t3 g3 ⊢
            refine ⟨(show 3 ≤ sizeLine by decide), fun z4 nz4 => ?_⟩
            have t4 := same_new (o := .tup [.str sd.a, .ref z2, .ref z3]) nz4
            have g4 : (upd K3 z4 (.tup [.str sd.a, .ref z2, .ref z3])) z4 = some (.tup [.str sd.a, .ref z2, .ref z3]) := upd_same
            generalize upd K3 z4 (.tup [.str sd.a, .ref z2, .ref z3]) = K4 at t4 g4 ⊢
            have sH4 := (((sHV.trans t1).trans t2).trans t3).trans t4
            have t14 := ((t1.trans t2).trans t3).trans t4
            have hD4 := t14 _ _ hDV
            refine ⟨_, rfl, .inl ⟨rfl, _, .inl (.inl hD4)⟩, _, rfl, _, rfl, a1, a2, m1, m2, sd, en, rfl, sqT_of_same sH4 ht1, sqT_of_same sH4 ht2, hI.stem hsm, hem, hl, fun K5 t5 => ?_⟩
            have sH5 := sH4.trans t5
            refine ⟨_, rfl, _, rfl, _, rfl, _, rfl, _, rfl, a1, _, _, .int sd.r, rfl, rfl, sqT_of_same sH5 ht1, rfl, _, rfl, a2, _, _, .int en.r, rfl, rfl, sqT_of_same sH5 ht2, rfl, _, _, rfl, rfl, ⟨(show 6 ≤ sizeLine by decide), fun z5 nz5 => ?_⟩⟩
            have t6 := same_new (o := .tup [.str (wr14 sd en), .int (i : Nat), .int (j : Nat), .ref wv, .ref z4, .int (sd.r + en.r)]) nz5
            have g6 : (upd K5 z5 (.tup [.str (wr14 sd en), .int (i : Nat), .int (j : Nat), .ref wv, .ref z4, .int (sd.r + en.r)])) z5 = some (.tup [.str (wr14 sd en), .int (i : Nat), .int (j : Nat), .ref wv, .ref z4, .int (sd.r + en.r)]) := upd_same
            generalize upd K5 z5 (.tup [.str (wr14 sd en), .int (i : Nat), .int (j : Nat), .ref wv, .ref z4, .int (sd.r + en.r)]) = K6 at t6 g6 ⊢
            have t56 := t5.trans t6
            have hD6 := t56 _ _ hD4
            have uu := ((huV.same t14).same t56)
            have fu : fuD L (wr14 sd en, i, j) = .tuple [.str (wr14 sd en), .int (i : Nat), .int (j : Nat), .tuple ((vl14 sd en).map PyData.str), mnD sd en, .int (sd.r + en.r)] := by
              unfold fuD
              simp only [es, ee]
            have one : Dq K K6 (fun _ => False) 4 (.ref z5) (fuD L (wr14 sd en, i, j)) := by
              rw [fu]
              refine .tup (.inl (.inl g6)) (show 6 ≤ 1000 by decide) (.cons (.str _) (.cons (.int _) (.cons (.int _) (.cons (.tup (sqT_of_same (t14.trans t56) hwv) ?_ (strs_mk _)) (.cons ?_ (.cons (.int _) .nil))))))
              · rw [List.length_map]
                unfold vl14
                split <;> simp
              · exact .tup (.inl (.inl (t56 _ _ g4))) (show 3 ≤ 1000 by decide) (.cons (.str _) (.cons (.tup (.inl (.inl (((t3.trans t4).trans t56) _ _ g2))) (show 1 ≤ 1000 by decide) (.cons (.tup (.inl (.inl ((((t2.trans t3).trans t4).trans t56) _ _ g1))) (show 2 ≤ 1000 by decide) (.cons (.str _) (.cons (.str _) .nil))) .nil)) (.cons (.tup (.inl (.inl ((t4.trans t56) _ _ g3))) (show 0 ≤ 1000 by decide) .nil) .nil)))
            have few : us.length < 900 := by
              rw [huV.len, List.length_map, List.length_append]
              have b1 := duN_len L i
              have b2 := List.length_filterMap_le (dr14 L i) (List.range j)
              have b3 := hI.sl
              have b4 := hI.el
              rw [b4] at b1 lj
              rw [List.length_range] at b2
              omega
            refine ⟨D, us, .ref z5, rfl, rfl, hD6, small_line (by omega), ?_⟩
            refine ⟨_, _, _, _, rfl, Same.own (sH5.trans t6) nD, us ++ [.ref z5], upd_same, ?_⟩
            rw [dur_succ, edr, ← List.append_assoc, List.map_append]
            exact (uu.app (.cons one .nil)).put hD6 id
          · rw [decide_eq_false (fun z => hk (V.str.inj z))]
            refine iteF ?_
            have hwv : SqT K HW w1 ((vl14 sd en).map V.str) := by
              unfold vl14
              rw [if_neg hk]
              exact .inl (.inl gw1)
            obtain ⟨wv, ewv⟩ : ∃ wv, wv = w1 := ⟨_, rfl⟩
            rw [← ewv] at hwv ⊢
            have sVV := sHW
            have hDV := q1 _ _ hDU
            have huV := huU.same q1
            clear gw1
            generalize HW = HV at sVV hDV huV hwv ⊢
            have sHV : Same H HV := sVV
            refine ⟨_, rfl, a1, _, _, .str sd.a, rfl, rfl, sqT_of_same sHV ht1, rfl, _, rfl, a2, _, _, .ref m2, rfl, rfl, sqT_of_same sHV ht2, rfl, m2, _, rfl, get_of (sHV _ _ hm2) hnum, ⟨(show 2 ≤ sizeLine by decide), fun z1 nz1 => ?_⟩⟩
            have t1 := same_new (o := .tup [.str "num", .str (numM en)]) nz1
            have g1 : (upd HV z1 (.tup [.str "num", .str (numM en)])) z1 = some (.tup [.str "num", .str (numM en)]) := upd_same
            generalize upd HV z1 (.tup [.str "num", .str (numM en)]) = K1 at t1 g1 ⊢
            refine ⟨(show 1 ≤ sizeLine by decide), fun z2 nz2 => ?_⟩
            have t2 := same_new (o := .tup [.ref z1]) nz2
            have g2 : (upd K1 z2 (.tup [.ref z1])) z2 = some (.tup [.ref z1]) := upd_same
            generalize upd K1 z2 (.tup [.ref z1]) = K2 at t2 g2 ⊢
            refine ⟨Nat.zero_le _, fun z3 nz3 => ?_⟩
            have t3 := same_new (o := .tup []) nz3
            have g3 : (upd K2 z3 (.tup [])) z3 = some (.tup []) := upd_same
            generalize upd K2 z3 (.tup []) = K3 at t3 g3 ⊢
            refine ⟨(show 3 ≤ sizeLine by decide), fun z4 nz4 => ?_⟩
            have t4 := same_new (o := .tup [.str sd.a, .ref z2, .ref z3]) nz4
            have g4 : (upd K3 z4 (.tup [.str sd.a, .ref z2, .ref z3])) z4 = some (.tup [.str sd.a, .ref z2, .ref z3]) := upd_same
            generalize upd K3 z4 (.tup [.str sd.a, .ref z2, .ref z3]) = K4 at t4 g4 ⊢
            have sH4 := (((sHV.trans t1).trans t2).trans t3).trans t4
            have t14 := ((t1.trans t2).trans t3).trans t4
            have hD4 := t14 _ _ hDV
            refine ⟨_, rfl, .inl ⟨rfl, _, .inl (.inl hD4)⟩, _, rfl, _, rfl, a1, a2, m1, m2, sd, en, rfl, sqT_of_same sH4 ht1, sqT_of_same sH4 ht2, hI.stem hsm, hem, hl, fun K5 t5 => ?_⟩
            have sH5 := sH4.trans t5
            refine ⟨_, rfl, _, rfl, _, rfl, _, rfl, _, rfl, a1, _, _, .int sd.r, rfl, rfl, sqT_of_same sH5 ht1, rfl, _, rfl, a2, _, _, .int en.r, rfl, rfl, sqT_of_same sH5 ht2, rfl, _, _, rfl, rfl, ⟨(show 6 ≤ sizeLine by decide), fun z5 nz5 => ?_⟩⟩
            have t6 := same_new (o := .tup [.str (wr14 sd en), .int (i : Nat), .int (j : Nat), .ref wv, .ref z4, .int (sd.r + en.r)]) nz5
            have g6 : (upd K5 z5 (.tup [.str (wr14 sd en), .int (i : Nat), .int (j : Nat), .ref wv, .ref z4, .int (sd.r + en.r)])) z5 = some (.tup [.str (wr14 sd en), .int (i : Nat), .int (j : Nat), .ref wv, .ref z4, .int (sd.r + en.r)]) := upd_same
            generalize upd K5 z5 (.tup [.str (wr14 sd en), .int (i : Nat), .int (j : Nat), .ref wv, .ref z4, .int (sd.r + en.r)]) = K6 at t6 g6 ⊢
            have t56 := t5.trans t6
            have hD6 := t56 _ _ hD4
            have uu := ((huV.same t14).same t56)
            have fu : fuD L (wr14 sd en, i, j) = .tuple [.str (wr14 sd en), .int (i : Nat), .int (j : Nat), .tuple ((vl14 sd en).map PyData.str), mnD sd en, .int (sd.r + en.r)] := by
              unfold fuD
              simp only [es, ee]
            have one : Dq K K6 (fun _ => False) 4 (.ref z5) (fuD L (wr14 sd en, i, j)) := by
              rw [fu]
              refine .tup (.inl (.inl g6)) (show 6 ≤ 1000 by decide) (.cons (.str _) (.cons (.int _) (.cons (.int _) (.cons (.tup (sqT_of_same (t14.trans t56) hwv) ?_ (strs_mk _)) (.cons ?_ (.cons (.int _) .nil))))))
              · rw [List.length_map]
                unfold vl14
                split <;> simp
              · exact .tup (.inl (.inl (t56 _ _ g4))) (show 3 ≤ 1000 by decide) (.cons (.str _) (.cons (.tup (.inl (.inl (((t3.trans t4).trans t56) _ _ g2))) (show 1 ≤ 1000 by decide) (.cons (.tup (.inl (.inl ((((t2.trans t3).trans t4).trans t56) _ _ g1))) (show 2 ≤ 1000 by decide) (.cons (.str _) (.cons (.str _) .nil))) .nil)) (.cons (.tup (.inl (.inl ((t4.trans t56) _ _ g3))) (show 0 ≤ 1000 by decide) .nil) .nil)))
            have few : us.length < 900 := by
              rw [huV.len, List.length_map, List.length_append]
              have b1 := duN_len L i
              have b2 := List.length_filterMap_le (dr14 L i) (List.range j)
              have b3 := hI.sl
              have b4 := hI.el
              rw [b4] at b1 lj
              rw [List.length_range] at b2
              omega
            refine ⟨D, us, .ref z5, rfl, rfl, hD6, small_line (by omega), ?_⟩
            refine ⟨_, _, _, _, rfl, Same.own (sH5.trans t6) nD, us ++ [.ref z5], upd_same, ?_⟩
            rw [dur_succ, edr, ← List.append_assoc, List.map_append]
            exact (uu.app (.cons one .nil)).put hD6 id
        · rw [decide_eq_false (fun z => hl (V.str.inj z))]
          refine iteF ⟨_, _, _, _, rfl, sHU, us, hDU, ?_⟩
          rw [dur_succ, edr, if_neg hl]
          show DqAll K HU _ 4 us ((duN L i ++ ((List.range j).filterMap (dr14 L i) ++ [])).map (fuD L))
          rw [List.append_nil]
          exact huU
      · obtain ⟨y4, y5, y6, y7, rfl, sY, us, hDY, hus⟩ := hP'
        refine ⟨_, _, _, _, _, _, rfl, sY, us, hDY, ?_⟩
        rw [duN_succ, ← lE]
        exact hus
    · obtain ⟨y2, y3, y4, y5, y6, y7, rfl, sX, vs, hDX, hvs⟩ := hP'
      rw [lS] at hvs
      exact ⟨_, rfl, q HX D vs sX nD hDX hvs⟩
end
end Bn

set_option pp.maxSteps 400
/-! dict(zip(names, values)), names a list, values a tuple: zip's next while the tuple given out before still stands, over any two that draw -/
namespace RM
open PySem PySem.Spec PyProof.Rows L2
section
variable {prog : Program} {w : World} {A : Around} {E : Value → Shared → Prop} {s : Shared} {z TI TO T i1 i2 : Addr} {fp1 fp2 : List Addr} {n1 n2 i : Nat} {P1 P2 : Nat → Value → Prop} {St1 St2 : Nat → Heap → Prop} {f : Bool} {oT : Obj}
theorem zipD2_item_held {Q : Value → Shared → Prop} (S : ZipSep2 z TI TO i1 i2 fp1 fp2) (D1 : Draws prog w A i1 fp1 n1 P1 St1) (D2 : Draws prog w A i2 fp2 n2 P2 St2)
    (hz : IsZipHeld s.heap z TI TO T f) (hT : s.heap.get? T = some oT) (hTI : IsTupOf2 s.heap TI (.ref i1) (.ref i2)) (st1 : St1 i s.heap) (st2 : St2 i s.heap) (hlt1 : i < n1) (hlt2 : i < n2)
    (hQ : ∀ x1 x2 h' tk, P1 i x1 → P2 i x2 → IsZipHeld h' z TI TO T true → St1 (i + 1) h' → St2 (i + 1) h' → IsTupOf2 h' s.heap.objs.size x1 x2 → h'.objs.size = s.heap.objs.size + 1 →
      (∀ c o, c ≠ z → c ≠ i1 → c ≠ i2 → s.heap.get? c = some o → h'.get? c = some o) → Q (.ref s.heap.objs.size) { s with heap := h', toks := tk }) :
    wpAny (model prog w) A (Builtin.«zip.__next__» ⟨[.ref z], []⟩) (fun fin s' => ∃ v, fin = .done (.ret v) ∧ Q v s') E s := by
  obtain ⟨hp, g, d, tk0, os⟩ := s
  show wpAny _ _ (field (.ref z) 2 >>= _) _ _ _
  refine wpAny_bind (wpAny_field hz rfl (x := .bool false) rfl ?_)
  show wpAny _ _ (field (.ref z) 3 >>= _) _ _ _
  refine wpAny_bind (wpAny_field hz rfl (x := .ref TI) rfl ?_)
  refine wpAny_bind (wpAny_seqItems hTI rfl ?_)
  show wpAny _ _ (Builtin.SmallTypes.ownedTupleIsFree (.ref z) >>= _) _ _ _
  refine wpAny_bind (wpAny_tupleHeld_zip hz hT fun g0 hz0 hs0 => ?_)
  replace hs0 : Heap.SameBut z hp g0 := hs0
  simp only [Bool.false_eq_true, if_false]
  refine wpAny_bind ?_
  rw [← Array.forIn_toList]
  simp only [List.forIn_cons, List.forIn_nil]
  refine wpAny_bind (wpAny_bind (wpAny_holding ?_))
  show wpAny _ _ (Builtin.SmallTypes.nextOf (.ref i1) >>= _) _ _ ⟨g0, g, d, tk0, os⟩
  refine wpAny_bind (D1.item i _ _ _ hlt1 (D1.over st1 hs0 S.zf1) fun x1 p1 tk1 hx1 sn1 hp1 => wpAny_pure ?_)
  replace hp1 : Heap.SameBut i1 g0 p1 := hp1
  refine wpAny_pure ?_
  refine wpAny_bind (wpAny_bind (wpAny_holding ?_))
  show wpAny _ _ (Builtin.SmallTypes.nextOf (.ref i2) >>= _) _ _ ⟨p1, g, d, tk1, os⟩
  refine wpAny_bind (D2.item i _ _ _ hlt2 (D2.over (D2.over st2 hs0 S.zf2) hp1 S.sep1_2) fun x2 p2 tk2 hx2 sn2 hp2 => wpAny_pure ?_)
  replace hp2 : Heap.SameBut i2 p1 p2 := hp2
  refine wpAny_pure (wpAny_pure ?_)
  show wpAny _ _ (newTuple [x1, x2] >>= _) _ _ ⟨p2, g, d, tk2, os⟩
  refine wpAny_bind (wpAny_newTuple ?_)
  have hsz : p2.objs.size = hp.objs.size := by rw [hp2.1, hp1.1, hs0.1]
  have hz₃ : IsZipHeld p2 z TI TO T true := hp2.extBut _ _ S.zi2 (hp1.extBut _ _ S.zi1 hz0)
  have hk : ∀ c o, c ≠ z → c ≠ i1 → c ≠ i2 → hp.get? c = some o → p2.get? c = some o := fun c o c1 c2 c3 e => hp2.extBut _ _ c3 (hp1.extBut _ _ c2 (hs0.extBut _ _ c1 e))
  have hj1 : St1 (i + 1) p2 := D1.over sn1 hp2 S.sep2_1
  refine wpAny_pure ⟨_, rfl, ?_⟩
  show Q (.ref p2.objs.size) ⟨p2.push { cls := .type "tuple", data := .seq #[x1, x2] }, g, d, tk2, os⟩
  have hp' : IsTupOf2 (p2.push { cls := .type "tuple", data := .seq #[x1, x2] }) p2.objs.size x1 x2 := Heap.get?_push_size _ rfl
  have hz4 : (p2.push { cls := .type "tuple", data := .seq #[x1, x2] }).objs.size = p2.objs.size + 1 := Heap.size_push ..
  rw [hsz] at hp' hz4 ⊢
  exact hQ x1 x2 _ tk2 hx1 hx2 (Heap.get?_push_of_some _ hz₃) (D1.frame _ _ _ hj1 fun b _ o e => Heap.get?_push_of_some _ e) (D2.frame _ _ _ sn2 fun b _ o e => Heap.get?_push_of_some _ e) hp' hz4 fun c o c1 c2 c3 e => Heap.get?_push_of_some _ (hk c o c1 c2 c3 e)
theorem zipD2_end_held {Q : Fin → Shared → Prop} (S : ZipSep2 z TI TO i1 i2 fp1 fp2) (D1 : Draws prog w A i1 fp1 n1 P1 St1) (D2 : Draws prog w A i2 fp2 n2 P2 St2)
    (hz : IsZipHeld s.heap z TI TO T f) (hT : s.heap.get? T = some oT) (hTI : IsTupOf2 s.heap TI (.ref i1) (.ref i2)) (st1 : St1 i s.heap) (st2 : St2 i s.heap) (hle1 : i ≤ n1) (hle2 : i ≤ n2) (hend : i = n1 ∨ i = n2)
    (hE : ∀ h' tk e, (∀ c o, c ≠ z → c ≠ i1 → c ≠ i2 → s.heap.get? c = some o → h'.get? c = some o) → (∃ o, h'.get? e = some o ∧ o.cls = .type "StopIteration") → E (.ref e) { s with heap := h', toks := tk }) :
    wpAny (model prog w) A (Builtin.«zip.__next__» ⟨[.ref z], []⟩) Q E s := by
  obtain ⟨hp, g, d, tk0, os⟩ := s
  show wpAny _ _ (field (.ref z) 2 >>= _) _ _ _
  refine wpAny_bind (wpAny_field hz rfl (x := .bool false) rfl ?_)
  show wpAny _ _ (field (.ref z) 3 >>= _) _ _ _
  refine wpAny_bind (wpAny_field hz rfl (x := .ref TI) rfl ?_)
  refine wpAny_bind (wpAny_seqItems hTI rfl ?_)
  show wpAny _ _ (Builtin.SmallTypes.ownedTupleIsFree (.ref z) >>= _) _ _ _
  refine wpAny_bind (wpAny_tupleHeld_zip hz hT fun g0 hz0 hs0 => ?_)
  replace hs0 : Heap.SameBut z hp g0 := hs0
  simp only [Bool.false_eq_true, if_false]
  refine wpAny_bind ?_
  rw [← Array.forIn_toList]
  simp only [List.forIn_cons, List.forIn_nil]
  refine wpAny_bind (wpAny_bind (wpAny_holding ?_))
  show wpAny _ _ (Builtin.SmallTypes.nextOf (.ref i1) >>= _) _ _ ⟨g0, g, d, tk0, os⟩
  by_cases hlt1 : i < n1
  · refine wpAny_bind (D1.item i _ _ _ hlt1 (D1.over st1 hs0 S.zf1) fun x1 p1 tk1 hx1 sn1 hp1 => wpAny_pure ?_)
    replace hp1 : Heap.SameBut i1 g0 p1 := hp1
    refine wpAny_pure ?_
    have hi2 : i = n2 := by omega
    refine wpAny_bind (wpAny_bind (wpAny_holding ?_))
    show wpAny _ _ (Builtin.SmallTypes.nextOf (.ref i2) >>= _) _ _ ⟨p1, g, d, tk1, os⟩
    refine wpAny_bind (D2.done ⟨p1, g, d, tk1, os⟩ _ _ (by rw [← hi2]; exact (D2.over (D2.over st2 hs0 S.zf2) hp1 S.sep1_2)) fun q e hq he => ?_)
    replace hq : Heap.ExtBut i2 p1 q := hq
    exact hE q tk1 e (fun c o cz c1 c2 x => hq _ _ c2 (hp1.extBut _ _ c1 (hs0.extBut _ _ cz x))) he
  · have hi1 : i = n1 := by omega
    refine wpAny_bind (D1.done ⟨g0, g, d, tk0, os⟩ _ _ (by rw [← hi1]; exact (D1.over st1 hs0 S.zf1)) fun q e hq he => ?_)
    replace hq : Heap.ExtBut i1 g0 q := hq
    exact hE q tk0 e (fun c o cz c1 c2 x => hq _ _ c1 (hs0.extBut _ _ cz x)) he
theorem pyNext_zipD2_item_held {Q : Option Value → Shared → Prop} (S : ZipSep2 z TI TO i1 i2 fp1 fp2) (D1 : Draws prog w A.in1 i1 fp1 n1 P1 St1) (D2 : Draws prog w A.in1 i2 fp2 n2 P2 St2)
    (hz : IsZipHeld s.heap z TI TO T f) (hT : s.heap.get? T = some oT) (hTI : IsTupOf2 s.heap TI (.ref i1) (.ref i2)) (st1 : St1 i s.heap) (st2 : St2 i s.heap) (hlt1 : i < n1) (hlt2 : i < n2)
    (hQ : ∀ x1 x2 h' tk, P1 i x1 → P2 i x2 → IsZipHeld h' z TI TO T true → St1 (i + 1) h' → St2 (i + 1) h' → IsTupOf2 h' s.heap.objs.size x1 x2 → h'.objs.size = s.heap.objs.size + 1 →
      (∀ c o, c ≠ z → c ≠ i1 → c ≠ i2 → s.heap.get? c = some o → h'.get? c = some o) → Q (some (.ref s.heap.objs.size)) { s with heap := h', toks := tk }) :
    wpAny (model prog w) A (pyNext (.ref z)) Q E s := by
  have hTy : s.TypeIs (.ref z) "zip" := ⟨_, hz, rfl⟩
  unfold pyNext
  exact wpAny_bind (wpAny_attempt (wpAny_callSpecial?_slot (name := Str.ofString "__next__") hTy F.slot_zip_next
    (wpAny_call_entry F.slot_zip_next hTy F.entry_zip_next
      (zipD2_item_held S D1 D2 hz hT hTI st1 st2 hlt1 hlt2 fun x1 x2 h' tk a1 a2 a3 a4 a5 a6 a7 a8 => wpAny_pure (hQ x1 x2 h' tk a1 a2 a3 a4 a5 a6 a7 a8)) (F.args_zip_next_1 _))))
theorem pyNext_zipD2_end_held {Q : Option Value → Shared → Prop} (S : ZipSep2 z TI TO i1 i2 fp1 fp2) (D1 : Draws prog w A.in1 i1 fp1 n1 P1 St1) (D2 : Draws prog w A.in1 i2 fp2 n2 P2 St2)
    (hz : IsZipHeld s.heap z TI TO T f) (hT : s.heap.get? T = some oT) (hTI : IsTupOf2 s.heap TI (.ref i1) (.ref i2)) (st1 : St1 i s.heap) (st2 : St2 i s.heap) (hle1 : i ≤ n1) (hle2 : i ≤ n2) (hend : i = n1 ∨ i = n2)
    (hQ : ∀ h' tk, (∀ c o, c ≠ z → c ≠ i1 → c ≠ i2 → s.heap.get? c = some o → h'.get? c = some o) → Q none { s with heap := h', toks := tk }) : wpAny (model prog w) A (pyNext (.ref z)) Q E s := by
  have hTy : s.TypeIs (.ref z) "zip" := ⟨_, hz, rfl⟩
  unfold pyNext
  refine wpAny_bind (wpAny_attempt (wpAny_callSpecial?_slot (name := Str.ofString "__next__") hTy F.slot_zip_next
    (wpAny_call_entry F.slot_zip_next hTy F.entry_zip_next (zipD2_end_held S D1 D2 hz hT hTI st1 st2 hle1 hle2 hend fun h' tk e hk he => ?_) (F.args_zip_next_1 _))))
  obtain ⟨o, ho, hc⟩ := he
  refine wpAny_bind (wpAny_isInstance (T := "StopIteration") (b := true) ⟨o, ho, hc⟩ isSubtype_stop ?_)
  exact wpAny_pure (hQ _ _ hk)
end
end RM

set_option pp.maxSteps 400
namespace RM
open PySem PySem.Spec PyProof.Rows L2
section
variable {prog : Program} {w : World}
theorem pair_zipLT {a b z TI TO i1 i2 : Addr} {xs ys : Array Value} (S : ZipSep2 z TI TO i1 i2 [i1, a] [i2, b]) (na : a ≠ i1) (nb : b ≠ i2) :
    PairArg prog w "zip" z [z, TI, TO, i1, i2, a, b] [z, TO, i1, i2] (min xs.size ys.size) (fun i k v => xs[i]? = some k ∧ ys[i]? = some v) (fun h => IsZip h z TI TO .none ∧ IsTupOf2 h TI (.ref i1) (.ref i2) ∧ (∃ x y, IsTupOf2 h TO x y) ∧ h.IsListIter i1 a 0 ∧ h.IsTupleIter i2 b 0 ∧ h.IsList a xs ∧ IsTup h b ys) where
  type := fun s ok => ⟨_, ok.1, rfl⟩
  notDict := by decide
  keep := fun h h' ⟨sz, sI, ⟨x, y, sO⟩, s1, s2, l1, l2⟩ up => ⟨up _ _ sz, up _ _ sI, ⟨x, y, up _ _ sO⟩, s1.at fun o e => up _ o e, s2.at fun o e => up _ o e, l1.at fun o e => up _ o e, let ⟨o, e, c, d⟩ := l2; ⟨o, up _ _ e, c, d⟩⟩
  there := fun h ⟨sz, sI, ⟨x, y, sO⟩, ⟨o1, e1, _⟩, ⟨o2, e2, _⟩, ⟨o3, e3, _⟩, ⟨o4, e4, _⟩⟩ c hc => by
    simp only [List.mem_cons, List.not_mem_nil, or_false] at hc
    rcases hc with rfl | rfl | rfl | rfl | rfl | rfl | rfl
    all_goals first | exact ⟨_, sz⟩ | exact ⟨_, sI⟩ | exact ⟨_, sO⟩ | exact ⟨_, e1⟩ | exact ⟨_, e2⟩ | exact ⟨_, e3⟩ | exact ⟨_, e4⟩
  sub := fun c hc => by simp at hc ⊢; rcases hc with rfl | rfl | rfl | rfl <;> simp
  noKeys := fun A s Q E hA ok h => getAttrOr_miss_zip ok.1 rfl rfl rfl zip_no_keys (by decide +kernel) hA h
  iter := fun A s d Q E hA ok hd hdf h => by
    obtain ⟨sz, sI, ⟨x, y, sO⟩, s1, s2, l1, l2⟩ := ok
    simp only [List.mem_cons, List.not_mem_nil, or_false, not_or] at hdf
    obtain ⟨dz, dTI, dTO, di1, di2, da, db⟩ := hdf
    refine wpAny_pyIter_zip sz (h z [z, TO, i1, i2] (fun i h => IsTupOf2 h TI (.ref i1) (.ref i2) ∧ (h.IsListIter i1 a i ∧ h.IsList a xs) ∧ (h.IsTupleIter i2 b i ∧ IsTup h b ys) ∧
      ((IsZip h z TI TO .none ∧ ∃ x y, IsTupOf2 h TO x y) ∨ ∃ T f oT, IsZipHeld h z TI TO T f ∧ h.get? T = some oT ∧ T ≠ z ∧ T ≠ i1 ∧ T ≠ i2 ∧ T ≠ d)) s.heap s.toks ?_
      ⟨sI, ⟨s1, l1⟩, ⟨s2, l2⟩, .inl ⟨sz, x, y, sO⟩⟩ (fun _ _ e => e) fun c hc => .inl hc)
    exact {
      off := fun hm => by
        simp only [List.mem_cons, List.not_mem_nil, or_false] at hm
        rcases hm with e | e | e | e
        · exact dz e
        · exact dTO e
        · exact di1 e
        · exact di2 e
      frame := fun _ h h' ⟨sI, ⟨s1, l1⟩, ⟨s2, l2⟩, sz⟩ up => by
        refine ⟨up _ _ (Ne.symm dTI) sI, ⟨s1.at fun o e => up _ o (Ne.symm di1) e, l1.at fun o e => up _ o (Ne.symm da) e⟩, ⟨s2.at fun o e => up _ o (Ne.symm di2) e, let ⟨o, e, c, d⟩ := l2; ⟨o, up _ _ (Ne.symm db) e, c, d⟩⟩, ?_⟩
        rcases sz with ⟨sz, x, y, sO⟩ | ⟨T, f, oT, hz, hT, r1, r2, r3, r4⟩
        · exact .inl ⟨up _ _ (Ne.symm dz) sz, x, y, up _ _ (Ne.symm dTO) sO⟩
        · exact .inr ⟨T, f, oT, up _ _ (Ne.symm dz) hz, up _ _ r4 hT, r1, r2, r3, r4⟩
      item := fun i s₁ Q₁ E₁ hi st hds hQ => by
        obtain ⟨sI, st1, st2, hz⟩ := st
        have hix : i < xs.size := Nat.lt_of_lt_of_le hi (Nat.min_le_left ..)
        have hiy : i < ys.size := Nat.lt_of_lt_of_le hi (Nat.min_le_right ..)
        have hh : A.in1.handled = none := hA
        have lt : ∀ {c o}, s₁.heap.get? c = some o → s₁.heap.objs.size ≠ c := fun e => Nat.ne_of_gt (Heap.lt_size e)
        have m1 : s₁.heap.objs.size ≠ i1 := let ⟨⟨_, e, _⟩, _⟩ := st1; lt e
        have m2 : s₁.heap.objs.size ≠ i2 := let ⟨⟨_, e, _⟩, _⟩ := st2; lt e
        rcases hz with ⟨sz, x, y, sO⟩ | ⟨T, f, oT, hz, hT, r1, r2, r3, r4⟩
        · refine wpAny_pyNext_zipD2_item S (Draws.list hh i1 a na xs) (Draws.tuple hh i2 b nb ys) sz sI sO st1 st2 hix hiy fun x1 x2 h' tk ex ey a1 a2 a3 a4 a5 a6 hk => ?_
          exact hQ s₁.heap.objs.size _ _ h' tk ⟨ex, ey⟩ (.inl ⟨_, a5, rfl, _, rfl⟩)
            ⟨hk _ _ S.TIz S.TITO S.TIi1 S.TIi2 sI, a3, a4, .inr ⟨s₁.heap.objs.size, false, _, a1, a5, lt sz, m1, m2, Nat.ne_of_gt hds⟩⟩
            fun c o hc e => hk c o (fun x => hc (by simp [x])) (fun x => hc (by simp [x])) (fun x => hc (by simp [x])) (fun x => hc (by simp [x])) e
        · refine pyNext_zipD2_item_held S (Draws.list hh i1 a na xs) (Draws.tuple hh i2 b nb ys) hz hT sI st1 st2 hix hiy fun x1 x2 h' tk ex ey a1 a3 a4 a5 a6 hk => ?_
          exact hQ s₁.heap.objs.size _ _ h' tk ⟨ex, ey⟩ (.inl ⟨_, a5, rfl, _, rfl⟩)
            ⟨hk _ _ S.TIz S.TIi1 S.TIi2 sI, a3, a4, .inr ⟨T, true, oT, a1, hk _ _ r1 r2 r3 hT, r1, r2, r3, r4⟩⟩
            fun c o hc e => hk c o (fun x => hc (by simp [x])) (fun x => hc (by simp [x])) (fun x => hc (by simp [x])) e
      done := fun s₁ Q₁ E₁ st hQ => by
        obtain ⟨sI, st1, st2, hz⟩ := st
        have hh : A.in1.handled = none := hA
        have hend : min xs.size ys.size = xs.size ∨ min xs.size ys.size = ys.size := by omega
        rcases hz with ⟨sz, x, y, sO⟩ | ⟨T, f, oT, hz, hT, r1, r2, r3, r4⟩
        · exact wpAny_pyNext_zipD2_end S (Draws.list hh i1 a na xs) (Draws.tuple hh i2 b nb ys) sz sI sO st1 st2 (Nat.min_le_left ..) (Nat.min_le_right ..) hend fun h' tk same =>
            hQ h' tk fun c o hc e => same c o (fun x => hc (by simp [x])) (fun x => hc (by simp [x])) (fun x => hc (by simp [x])) (fun x => hc (by simp [x])) e
        · exact pyNext_zipD2_end_held S (Draws.list hh i1 a na xs) (Draws.tuple hh i2 b nb ys) hz hT sI st1 st2 (Nat.min_le_left ..) (Nat.min_le_right ..) hend fun h' tk same =>
            hQ h' tk fun c o hc e => same c o (fun x => hc (by simp [x])) (fun x => hc (by simp [x])) (fun x => hc (by simp [x])) e }
end
end RM

set_option pp.maxSteps 400
namespace RM
open PySem PySem.Spec PyProof.Rows L2
theorem keys_at : ∀ {zs : List Str} {us : List Value}, Vals (zs.map V.str) us → ∀ {i : Nat} {key : Value}, us[i]? = some key → ∃ z t, zs[i]? = some z ∧ key = .str z t
  | [], _, h, i, key, e => by
    cases h
    simp at e
  | z :: zs, _, h, i, key, e => by
    cases h with
    | cons h1 h2 =>
      cases i with
      | zero =>
        obtain ⟨t, rfl⟩ := h1
        cases Option.some.inj e
        exact ⟨z, t, rfl, rfl⟩
      | succ i => exact keys_at h2 (by simpa using e)
def zipK {α : Type} (zs : List Str) (ys : List α) : List (Key × α) := List.zipWith (fun z y => ((.inr z : Key), y)) zs ys
theorem zipK_kv : ∀ {zs : List Str} {ys : List V} {us : List Value}, Vals ys us → KV (zipK zs ys) (zipK zs us)
  | [], _, _, h => by
    cases h <;> exact .nil
  | z :: zs, _, _, h => by
    cases h with
    | nil => exact .nil
    | cons h1 h2 => exact .cons ⟨rfl, h1⟩ (zipK_kv h2)
def tDzLT (K : PySem.W.Frag) (ta : TA) : TE := fun σ H Q => ta σ H fun vs H1 => ∃ a b zs ys, vs = [.ref a, .ref b] ∧ SqL K H1 a (zs.map V.str) ∧ SqT K H1 b ys ∧ zs.length ≤ sizeLine ∧ (mergeK [] (zipK zs ys)).length ≤ sizeLine ∧ ∀ D, H1 D = none → Q (.ref D) (upd H1 D (.dK (mergeK [] (zipK zs ys))))
theorem pe_dictZipLT {X : Cx} {e e2 : Expr} {ta : TA} {p p2 pos pos2 : Pos} (calm : X.calm = true) (gd : Gl X "dict") (md : X.mg "dict" = none) (glo : Gl X "zip") (own : X.mg "zip" = none) (args : PA X [e, e2] ta)
    (st0 : starEach [.Call (.Name "zip" p2) [e, e2] [] pos2] X.env = (false, eval (.Call (.Name "zip" p2) [e, e2] [] pos2) X.env) :: starEach [] X.env := by rfl)
    (st1 : starEach [e, e2] X.env = (false, eval e X.env) :: starEach [e2] X.env := by rfl) (st2 : (backTo pos2 (starEach [e2] X.env)).any (·.1) = false := by rfl) :
    PE X (.Call (.Name "dict" p) [.Call (.Name "zip" p2) [e, e2] [] pos2] [] pos) (tDzLT X.K ta) := by
  refine ⟨fun pins s σ H Q J h => ?_⟩
  refine wpAny_Call_Name_kw (ld_blt J gd md boot_dict (PyProof.Rows.callWith_type1 (args_cons ?_ st0) (by rfl)))
  refine Call_ (ld_blt J glo own PyProof.Rows.boot_zip (PyProof.Rows.callWith_type1 (thn (args.run pos2 pins s σ H _ J h) fun us s1 ⟨vs, H1, J1, r1, a, b, zs, ys, ev, qx, qy, hz, hlen, q⟩ => ?_) st1 st2))
  subst ev
  cases r1 with
  | cons ra rest =>
    cases rest with
    | cons rb none' =>
      cases none'
      cases ra
      cases rb
      obtain ⟨its, rv, px, _⟩ := J1.list qx
      obtain ⟨its2, rv2, py, _⟩ := J1.tuple qy
      have la : a < s1.heap.objs.size := px.lt
      have lb : b < s1.heap.objs.size := Heap.lt_size py.choose_spec.1
      refine zip_begins2 (begins_list a its.toArray) (begins_tuple b its2.toArray) px.isList py fun h' zz tI tO o1 o2 _ up => args_nil ?_
      have hh : X.A.handled = none := J1.ok.hd calm
      have szz := Heap.lt_size zz
      have zl : zs.length = its.length := by
        have := rv.length
        rw [List.length_map] at this
        exact this
      refine call_dict_pairs (knd := mixKind X.prog X.w) (kvs := zipK zs its2) (pair_zipLT (xs := its.toArray) (ys := its2.toArray) (sep_mix _ la lb) (Nat.ne_of_lt la) (Nat.ne_of_lt (Nat.lt_succ_of_lt lb))) hh ⟨zz, tI, ⟨_, _, tO⟩, ⟨_, o1, rfl, rfl⟩, ⟨_, o2, rfl, rfl⟩, px.isList.at fun o e => up _ o e, let ⟨o, e, c, d⟩ := py; ⟨o, up _ _ e, c, d⟩⟩ ⟨?_, fun i key v z => ?_⟩ ?_ fun h2 tk dd keep => ?_
      · unfold zipK
        rw [List.length_zipWith, zl, List.size_toArray, List.size_toArray]
      · obtain ⟨e1, e2⟩ := z
        rw [List.getElem?_toArray] at e1 e2
        obtain ⟨z, t, ez, rfl⟩ := keys_at rv e1
        refine ⟨.inr z, ?_, show keyIs (.inr z) (.str z t) = true from by simp [keyIs, Value.isStrOf]⟩
        unfold zipK
        rw [List.getElem?_zipWith, ez, e2]
      · refine Nat.le_trans (Nat.min_le_left ..) ?_
        rw [List.size_toArray, ← zl]
        exact hz
      have old : ∀ c o, s1.heap.get? c = some o → h2.get? c = some o := fun c o e => by
        have lt := Heap.lt_size e
        refine keep c o (fun hm => ?_) (up c o e)
        simp only [List.mem_cons, List.not_mem_nil, or_false] at hm
        rcases hm with rfl | rfl | rfl | rfl
        · exact Nat.not_lt.mpr (Nat.le_add_right _ 4) lt
        · exact Nat.not_lt.mpr (Nat.le_add_right _ 3) lt
        · exact Nat.lt_irrefl _ lt
        · exact Nat.not_lt.mpr (Nat.le_add_right _ 1) lt
      have ge : s1.heap.objs.size ≤ h'.objs.size := Nat.le_trans (Nat.le_add_right _ 4) (Nat.le_of_lt szz)
      have lo : (h'.objs.size == sysModules) = false := by
        have := J1.big
        exact beq_eq_false_iff_ne.mpr (Nat.ne_of_gt (Nat.lt_of_lt_of_le this ge))
      exact ⟨.ref h'.objs.size, upd H1 h'.objs.size (.dK (mergeK [] (zipK zs ys))), J1.laid (t' := tk) old ge (dk_new hlen lo (KV.merge (zipK_kv rv2) .nil) dd), rfl, q _ (J1.hok.fresh ge)⟩
end RM

set_option pp.maxSteps 400
namespace Bn
open PySem PySem.Spec PyProof.Rows L2 BR GX RM GY
section
variable {P : Program} {w : World} {K : PySem.W.Frag} {mg : Str → Option Value} {base : Heap}
/-! ### marks_of -/
def spMo (K : PySem.W.Frag) (C : Addr) : Sp := fun vs H Q _ => ∃ (p c t : Addr) (kd : Kd) (L : Lx) (N : Addr → Prop) (kvs : List (Key × V)) (ys : List V), vs = [.ref p, .str kd.n, .ref t] ∧ TgB C K N H p c L kvs ∧ L.Ok ∧ kd ∈ L.ks ∧ SqT K H t ys ∧ ∀ d, H d = none → Q (.ref d) (upd H d (.dK (mergeK [] (zipK kd.fs ys))))
theorem ok_mo {f C : Addr} {fd : FuncData} {k : Nat} (F : Fun K "marks_of" "marks_of" s_marks_of f fd) (TC : TgC K C) (md : mg "dict" = none) (mz : mg "zip" = none) : FnOk P w K mg base CX0 (k + 1) f fd ["tongue", "kind", "values"] (spMo K C) := by
  refine F.ok sc_marks_of (fun vs H Q E h => ?_) (fun cdv A outer s H vs Q E hr h => ?_)
  · obtain ⟨p, c, t, kd, L, N, kvs, ys, rfl, _⟩ := h
    rfl
  · obtain ⟨p, c, t, kd, L, N, kvs, ys, rfl, hTg, hL, hkd, ht, q⟩ := h
    have hu := hu_of hr
    refine ⟨_, pss_one (ps_ret (pe_dictZipLT rfl (by rfl) md (by rfl) mz (pa_cons (pe_ix ix_tup (pe_dget hu (pe_fld (pv 0) rfl) (pv 1) (fun _ _ => rfl)) pe_int (fun _ _ => rfl)) (pa_cons (pv 2) pa_nil)))), ?_⟩
    obtain ⟨dx, o, fe, kn, pl, h1, h2, ⟨ks, hk1, hk2⟩, _, h4⟩ := id hTg
    obtain ⟨a, l, hv, ha, hl⟩ := hk2 kd hkd
    have few := (hL.k kd hkd).hi
    have fm := length_mergeK (zipK kd.fs ys) []
    have fz : (zipK kd.fs ys).length ≤ kd.fs.length := by
      unfold zipK
      rw [List.length_zipWith]
      exact Nat.min_le_left ..
    exact ⟨_, rfl, p, C, dx, _, _, rfl, h1, TC.cl, TC.nK, tgF_kn .., _, rfl, kn, .ref a, rfl, get_of hk1 hv, a, _, _, .ref l, rfl, rfl, ha, rfl, _, rfl, l, t, kd.fs, ys, rfl, .inl (.inl hl), ht, line1000 (by omega), line1000 (by rw [List.length_nil] at fm; omega), q⟩
end
end Bn

set_option pp.maxSteps 400
namespace Bn
open PySem PySem.Spec PyProof.Rows L2 BR GX RM GY
theorem TgF.sl {C : Addr} {K : PySem.W.Frag} {T : Tb} {H H' : Hp} {p c : Addr} {L : Lx} (h : TgF C K H p c L) (s : SL T H H') : TgF C K H' p c L := by
  obtain ⟨dx, o, fd, kd, pl, h1, h2, h3⟩ := h
  exact ⟨dx, o, fd, kd, pl, s.k _ _ nt_ins h1, h2.sl s, h3⟩
theorem TgF.slc {C : Addr} {K : PySem.W.Frag} {T : Tb} {H H' : Hp} {p c : Addr} {L : Lx} {kvs : List (Key × V)} (h : TgF C K H p c L) (s : SLc T c H H') (hc : H c = some (.dK kvs)) : TgF C K H' p c L := by
  obtain ⟨dx, o, fd, kd, pl, h1, h2, h3⟩ := h
  exact ⟨dx, o, fd, kd, pl, s.k _ _ (ne_of h1 hc (by intro z; cases z)) nt_ins h1, h2.kp (fun _ e => s.k _ _ h3 nt_dK e) (fun _ _ e => s.sqT hc e), h3⟩
/-! ### meaning_of, of a word -/
def moE : Expr := match (defBody s_meaning_of).getD 1 (.Pass ⟨0, 0, 0, 0⟩) with
  | .Return (some (.Call _ [_, lam] _ _)) _ => lam
  | _ => .Name "" ⟨0, 0, 0, 0⟩
def moA : Arguments := match moE with
  | .Lambda params _ _ _ => params
  | _ => defArgs s_meaning_of
def moB : Expr := match moE with
  | .Lambda _ body _ _ => body
  | e => e
def moS : Scope := match moE with
  | .Lambda _ _ scope _ => scope
  | _ => defScope s_meaning_of
def moL (q : Str) (cells : List (Str × Addr)) (c : Addr) : LX.LF := ⟨q, moA, moB, moS, cloFrom cells moS.names [], c⟩
abbrev moQ : Str := "meaning_of.<locals>.<lambda>"
theorem moC : ∀ y ∈ moS.names, y.2 = .free → (defScope s_meaning_of).names.lookup y.1 = some .cell ∨ (defScope s_meaning_of).names.lookup y.1 = some .free := by decide +kernel
theorem moFr : ∀ y ∈ (["tongue"] : List Str), (y, NameKind.free) ∈ moS.names := by decide +kernel
def mnF (L : Lx) (t : Tr) (_ : List PyData) : Option PyData := match t with
  | .word i j => (L.ss[i]?).bind fun s => (L.es[j]?).bind fun e => if s.l = e.l then some (mnD s e) else none
  | _ => none
theorem mnF_some {L : Lx} {t : Tr} {I : List PyData} {x : PyData} (h : mnF L t I = some x) : ∃ i j s e, t = .word i j ∧ L.ss[i]? = some s ∧ L.es[j]? = some e ∧ s.l = e.l ∧ x = mnD s e := by
  cases t with
  | word i j =>
    have h : ((L.ss[i]?).bind fun s => (L.es[j]?).bind fun e => if s.l = e.l then some (mnD s e) else none) = some x := h
    cases h1 : L.ss[i]? with
    | none => rw [h1] at h; cases h
    | some s =>
      cases h2 : L.es[j]? with
      | none => rw [h1, h2] at h; cases h
      | some e =>
        rw [h1, h2] at h
        by_cases hl : s.l = e.l
        · have h : (if s.l = e.l then some (mnD s e) else none) = some x := h
          rw [if_pos hl] at h
          exact ⟨i, j, s, e, rfl, h1, h2, hl, (Option.some.inj h).symm⟩
        · have h : (if s.l = e.l then some (mnD s e) else none) = some x := h
          rw [if_neg hl] at h
          cases h
  | gap k vs => cases h
  | rule r pl ts => cases h
def RepD (K : PySem.W.Frag) (H : Hp) (v : V) (x : PyData) : Prop := Dq K H (fun _ => False) 3 v x ∧ ∃ r xs, v = .ref r ∧ H r = some (.tup xs)
theorem repD {K : PySem.W.Frag} {T : Tb} : RepOk T (RepD K) := ⟨fun H H' v x s ⟨h, r, xs, e, h2⟩ => ⟨h.sl s, r, xs, e, s.k _ _ nt_tup h2⟩, fun H v x d ws ys ⟨h, r, xs, e, h2⟩ hd _ => by
  have a : DqAll K H (fun _ => False) 3 [v] [x] := .cons h .nil
  have b : DqAll K (upd H d (.lst ys)) (fun _ => False) 3 [v] [x] := a.put hd id
  cases b with
  | cons h1 _ => exact ⟨h1, r, xs, e, by rw [upd_ne (ne_of h2 hd (by intro z; cases z))]; exact h2⟩⟩
section
variable {P : Program} {w : World} {K : PySem.W.Frag} {mg : Str → Option Value} {base : Heap}
/-- word_meaning's promise, and own_meaning's -/
def spWm (K : PySem.W.Frag) (T : Tb) (C : Addr) : Sp := fun vs H Q _ => ∃ (p c : Addr) (i j : Nat) (L : Lx) (N : Addr → Prop) (kvs : List (Key × V)) (s : Sd) (e : En), vs = [.ref p, .int (i : Nat), .int (j : Nat)] ∧ TgB C K N H p c L kvs ∧ TgF C K H p c L ∧ In14 L ∧ L.ss[i]? = some s ∧ L.es[j]? = some e ∧ s.l = e.l ∧ TbOk T H ∧
  ∀ v H', SL T H H' → RepD K H' v (mnD s e) → Q v H'
def spOm (K : PySem.W.Frag) (T : Tb) (C : Addr) : Sp := fun vs H Q _ => ∃ (p c a : Addr) (il : V) (i j : Nat) (L : Lx) (N : Addr → Prop) (kvs : List (Key × V)) (s : Sd) (e : En), vs = [.ref p, .ref a, il] ∧ TgB C K N H p c L kvs ∧ TgF C K H p c L ∧ In14 L ∧ SqT K H a [.str "word", .int (i : Nat), .int (j : Nat)] ∧ L.ss[i]? = some s ∧ L.es[j]? = some e ∧ s.l = e.l ∧ TbOk T H ∧
  ∀ v H', SL T H H' → RepD K H' v (mnD s e) → Q v H'
theorem ok_om {f fM C : Addr} {fd fdM : FuncData} {T : Tb} {k : Nat} (F : Fun K "own_meaning" "own_meaning" s_own_meaning f fd)
    (kM : PySem.W.keepIn K (.ref fM) = true) (bM : Binds K fdM ["tongue", "stem", "ending"] []) (gM : mg "word_meaning" = some (.ref fM)) (GM : FnOk P w K mg base CX0 k fM fdM ["tongue", "stem", "ending"] (spWm K T C)) :
    FnOk P w K mg base CX0 (k + 1) f fd ["tongue", "tree", "inner"] (spOm K T C) := by
  refine F.ok sc_own_meaning (fun vs H Q E h => ?_) (fun cdv A outer s H vs Q E hr h => ?_)
  · obtain ⟨p, c, a, il, i, j, L, N, kvs, sd, en, rfl, _⟩ := h
    rfl
  · obtain ⟨p, c, a, il, i, j, L, N, kvs, sd, en, rfl, hTg, hTf, hI, ha, hi, hj, hl, hT, q⟩ := h
    refine ⟨_, pss_cons (ps_if (pt_cmpR op_eq (pe_ix ix_tup (pv 1) pe_int (fun _ _ => rfl)) pe_str (nomark _))
        (pss_one (ps_ret (pe_call GM hr (by rfl) gM kM bM .nil pass0 (pa_cons (pv 0) (pa_cons (pe_ix ix_tup (pv 1) pe_int (fun _ _ => rfl)) (pa_cons (pe_ix ix_tup (pv 1) pe_int (fun _ _ => rfl)) pa_nil)))))) pss_nil)
      pss_never, ?_⟩
    refine ⟨_, rfl, a, _, _, .str "word", rfl, rfl, ha, rfl, rfl, _, rfl, ?_⟩
    rw [decide_eq_true rfl]
    exact iteT ⟨_, rfl, _, rfl, a, _, _, .int (i : Nat), rfl, rfl, ha, rfl, _, rfl, a, _, _, .int (j : Nat), rfl, rfl, ha, rfl, p, c, i, j, L, N, kvs, sd, en, rfl, hTg, hTf, hI, hi, hj, hl, hT, q⟩
theorem ok_mol {q : Str} {cells : List (Str × Addr)} {c f g : Addr} {gd : FuncData} {sp : Sp} {k : Nat} (kg : PySem.W.keepIn K (.ref g) = true) (bg : Binds K gd ["tongue", "tree", "inner"] []) (gg : mg "own_meaning" = some (.ref g)) (G : FnOk P w K mg base CX0 k g gd ["tongue", "tree", "inner"] sp) : LX.LOk P w K mg base (k + 1) f (moL q cells c) ["tongue"] (spWl sp) := by
  refine LX.lok_of (N := ["node", "inner", "tongue"]) (ps := ["node", "inner"]) (NdefX.nscope_by (sc := moS) (by decide +kernel)) (fun pm ctv us hl => match us, hl with | [_, _], _ => rfl) (fun ws vs H Q h => ?_) (fun A outer s H vs ws Q hr h => ?_)
  · obtain ⟨u, v, il, rfl, _⟩ := h
    rfl
  · obtain ⟨u, v, il, rfl, rfl, h⟩ := h
    exact ⟨_, pe_call G hr (by rfl) gg kg bg .nil pass0 (pa_cons (pv 2) (pa_cons (pv 0) (pa_cons (pv 1) pa_nil))), _, rfl, _, rfl, _, rfl, h⟩
def spMe (K : PySem.W.Frag) (T : Tb) (C : Addr) : Sp := fun vs H Q _ => ∃ (p c a : Addr) (i j : Nat) (L : Lx) (N : Addr → Prop) (kvs : List (Key × V)) (s : Sd) (e : En), vs = [.ref p, .ref a] ∧ TgB C K N H p c L kvs ∧ TgF C K H p c L ∧ In14 L ∧ SqT K H a [.str "word", .int (i : Nat), .int (j : Nat)] ∧ L.ss[i]? = some s ∧ L.es[j]? = some e ∧ s.l = e.l ∧ TbOk T H ∧
  ∀ v H', SL T H H' → RepD K H' v (mnD s e) → Q v H'
theorem ok_me {f c0 pW fS fO fT fA C : Addr} {fd fdS fdO fdT fdA : FuncData} {T : Tb} {k : Nat} (F : FunC K "meaning_of" "meaning_of" s_meaning_of f fd c0) (TB : LamX.TabB base mg c0 pW) (hP : (pW, moQ) ∈ T.xs) (ml : mg "len" = none) (mr : mg "reversed" = none) (mR : mg "range" = none)
    (kS : PySem.W.keepIn K (.ref fS) = true) (bS : Binds K fdS ["tongue", "tree"] []) (gS : mg "symbol_of" = some (.ref fS)) (GS : FnOk P w K mg base CX0 (k + 15) fS fdS ["tongue", "tree"] (spSym0 K T C))
    (kO : PySem.W.keepIn K (.ref fO) = true) (bO : Binds K fdO ["tongue", "tree", "inner"] []) (gO : mg "own_meaning" = some (.ref fO)) (GO : FnOk P w K mg base CX0 12 fO fdO ["tongue", "tree", "inner"] (spOm K T C))
    (FT : Fun K "told_of" "told_of" s_told_of fT fdT) (bT : Binds K fdT ["tree", "tell"] []) (gT : mg "told_of" = some (.ref fT))
    (kA : PySem.W.keepIn K (.ref fA) = true) (bA : Binds K fdA ["tree"] []) (gA : mg "all_within_trees" = some (.ref fA)) (GA : FnOk P w K mg base CX0 1 fA fdA ["tree"] (spAw K)) :
    FnOk P w K mg base CX0 (k + 16) f fd ["tongue", "tree"] (spMe K T C) := by
  refine F.ok sc_meaning_of (fun vs H Q E h => ?_) (fun A outer s H vs Q E hr h => ?_)
  · obtain ⟨p, c, a, i, j, L, N, kvs, sd, en, rfl, _⟩ := h
    rfl
  · obtain ⟨p, c, a, i, j, L, N, kvs, sd, en, rfl, hTg, hTf, hI, ha, hi, hj, hl, hT, q⟩ := h
    have hL := hI.ok
    have hvm : valsM L sd en = some (vl14 sd en) := by rw [hI.vals (List.mem_of_getElem? hi) (List.mem_of_getElem? hj), if_pos hl]
    refine ⟨_, pss_cons (ps_expr (pe_call GS hr (by rfl) gS kS bS .nil pass0 (pa_cons (pv 0) (pa_cons (pv 1) pa_nil))))
      (pss_one (ps_ret (LX.pe_callV (k := 13) FT sc_told_of bT (by rfl) gT (hr.mono (by omega)) (SPto _ K T 13 (mnF L) (RepD K)) (fun pins σ s H vs Q I h => by
          obtain ⟨tv, f1, t, x, sp, St, rfl, C, hS, ht, few, hv, hT1, q1⟩ := h
          exact ⟨rfl, fun cd room => to_body ml mr mR kA bA gA GA (LX.cal_of I C) room (by decide) repD hS ht few hv hT1 q1⟩)
        (pa_cons (pv 1) (pa_cons (LX.pe_lam TB rfl rfl moC) pa_nil))))), ?_⟩
    refine ⟨_, rfl, _, rfl, p, c, a, i, j, L, N, kvs, sd, en, _, rfl, hTg, hL, ha, hi, hj, hvm, hT, fun v H1 s1 hv => ?_⟩
    have hwrd : valT (mnF L) 0 (.word i j) = .inl (mnD sd en) := by
      have e : mnF L (.word i j) [] = some (mnD sd en) := by
        show ((L.ss[i]?).bind fun s => (L.es[j]?).bind fun e => if s.l = e.l then some (mnD s e) else none) = _
        rw [hi, hj]
        show (if sd.l = en.l then some (mnD sd en) else none) = _
        rw [if_pos hl]
      rw [valT, e]
    refine ⟨_, rfl, s1.t.x (pW, moQ) hP, fun g c' H2 kp tb ng hg hc' => ?_⟩
    have s2 : SL T H1 H2 := SL.lamX (z := (pW, moQ)) s1.t hP kp tb
    have hTg2 := (hTg.sl s1).sl s2
    have hTf2 := (hTf.sl s1).sl s2
    refine ⟨.ref a, g, .word i j, _, fun vs HX Q' E' => ∃ v il, vs = [v, il] ∧ spOm K T C [.ref p, v, il] HX Q' E', fun HX => HX g = H2 g ∧ HX c' = H2 c', rfl, ?_, ?_, dp_word ((s1.trans s2).sqT ha), by unfold szT; decide, hwrd, s2.t, fun H3 v3 s3 hr3 => q _ _ ((s1.trans s2).trans s3) hr3⟩
    · refine .inr ⟨moL moQ _ c', ["tongue"], [0], spWl (spOm K T C), ok_mol kO bO gO GO, fun ok => NdefX.Caps.made (scope := moS) ok moC moFr rfl, fun HX st => ⟨st.1.trans hg, st.2.trans hc'⟩, fun vs HX Q' h => ?_⟩
      obtain ⟨v, il, rfl, h⟩ := h
      exact ⟨.ref p, v, il, rfl, rfl, h⟩
    · refine ⟨fun HZ s => ⟨(s.k _ _ LX.nt_lamO hg).trans hg.symm, (s.k _ _ nt_code hc').trans hc'.symm⟩, fun HZ tv' t' il ws I x' s ht' hil hIw hF Q' hq => ?_⟩
      obtain ⟨i', j', s', e', rfl, hi', hj', hl', rfl⟩ := mnF_some hF
      obtain ⟨a', rfl, ha'⟩ := tr_word ht'
      refine ⟨.ref a', .ref il, rfl, p, c, a', .ref il, i', j', L, N, kvs, s', e', rfl, hTg2.sl s, hTf2.sl s, hI, ha', hi', hj', hl', s.t, fun v2 H' sx hv2 => ?_⟩
      refine hq H' _ sx hv2 fun e ys he z => ?_
      obtain ⟨_, r, xs, er, h2⟩ := hv2
      rw [er] at z
      cases z
      have h3 := sx.k _ _ nt_lst he
      rw [h2] at h3
      cases h3
end
end Bn

set_option pp.maxSteps 400
namespace Bn
open PySem PySem.Spec PyProof.Rows L2 BR GX RM GY
section
variable {P : Program} {w : World} {K : PySem.W.Frag} {mg : Str → Option Value} {base : Heap}
/-! ### _law_tree_right -/
def spTr (K : PySem.W.Frag) (T : Tb) (C : Addr) : Sp := fun vs H Q _ => ∃ (p c a r wv mv : Addr) (i j : Nat) (L : Lx) (N N2 : Addr → Prop) (kvs : List (Key × V)) (s : Sd) (e : En), vs = [.ref p, .ref a, .ref r] ∧ TgB C K N H p c L kvs ∧ TgF C K H p c L ∧ In14 L ∧ Dq K H N2 4 (.ref a) (lxD L) ∧ L.ss[i]? = some s ∧ L.es[j]? = some e ∧ s.l = e.l ∧
  SqT K H r [.str (wr14 s e), .int (i : Nat), .int (j : Nat), .ref wv, .ref mv, .int (s.r + e.r)] ∧ SqT K H wv ((vl14 s e).map V.str) ∧ Dq K H (fun _ => False) 3 (.ref mv) (mnD s e) ∧ TbOk T H ∧ ∀ H', SL T H H' → Q (.bl true) H'
theorem ok_l_tree {f fS fW fY fM fC fI C : Addr} {fd fdS fdW fdY fdM fdC fdI : FuncData} {T : Tb} (F : Fun K "_law_tree_right" "_law_tree_right" s_l_tree_right f fd)
    (kS : PySem.W.keepIn K (.ref fS) = true) (bS : Binds K fdS ["_law_found", "_law_due_here"] []) (gS : mg "_law_same" = some (.ref fS)) (GS : ∀ n, FnOk P w K mg base CX0 (n + 1) fS fdS ["_law_found", "_law_due_here"] (spSame K n))
    (kW : PySem.W.keepIn K (.ref fW) = true) (bW : Binds K fdW ["tongue", "tree"] []) (gW : mg "words_of" = some (.ref fW)) (GW : FnOk P w K mg base CX0 16 fW fdW ["tongue", "tree"] (spWf K T C))
    (kY : PySem.W.keepIn K (.ref fY) = true) (bY : Binds K fdY ["tongue", "tree"] []) (gY : mg "symbol_of" = some (.ref fY)) (GY : FnOk P w K mg base CX0 15 fY fdY ["tongue", "tree"] (spSym0 K T C))
    (kM : PySem.W.keepIn K (.ref fM) = true) (bM : Binds K fdM ["tongue", "tree"] []) (gM : mg "meaning_of" = some (.ref fM)) (GM : FnOk P w K mg base CX0 16 fM fdM ["tongue", "tree"] (spMe K T C))
    (kC : PySem.W.keepIn K (.ref fC) = true) (bC : Binds K fdC ["tongue", "tree"] []) (gC : mg "cost_of" = some (.ref fC)) (GC : FnOk P w K mg base CX0 16 fC fdC ["tongue", "tree"] (spCo K T C))
    (kI : PySem.W.keepIn K (.ref fI) = true) (bI : Binds K fdI ["tongue", "tree"] []) (gI : mg "is_sentence" = some (.ref fI)) (GI : FnOk P w K mg base CX0 16 fI fdI ["tongue", "tree"] (spSen K T C)) :
    FnOk P w K mg base CX0 17 f fd ["_law_tongue", "_law_told", "_law_row"] (spTr K T C) := by
  refine F.ok sc_l_tree_right (fun vs H Q E h => ?_) (fun cdv A outer s H vs Q E hr h => ?_)
  · obtain ⟨p, c, a, r, wv, mv, i, j, L, N, N2, kvs, sd, en, rfl, _⟩ := h
    rfl
  · obtain ⟨p, c, a, r, wv, mv, i, j, L, N, N2, kvs, sd, en, rfl, hTg, hTf, hI, hD, hi, hj, hl, hr', hwv, hmv, hT, q⟩ := h
    have hu := hu_of hr
    refine ⟨_, pss_cons (ps_set (i := 3) sc_l_tree_right.nd rfl (.inl rfl) (pe_tup (pa_cons pe_str (pa_cons (pe_ix ix_tup (pv 2) pe_int (fun _ _ => rfl)) (pa_cons (pe_ix ix_tup (pv 2) pe_int (fun _ _ => rfl)) pa_nil)))))
      (pss_cons (ps_set (i := 4) sc_l_tree_right.nd rfl (.inl rfl) (pe_ix ix_tup (pe_ix ix_list (pe_dget hu (pv 1) pe_str (fun _ _ => rfl)) (pe_ix ix_tup (pv 2) pe_int (fun _ _ => rfl)) (fun _ _ => rfl)) pe_int (fun _ _ => rfl)))
      (pss_cons (ps_if (PW.pt (pw_or (pt_not (pt_val (pe_call (GS 1) (hr.mono (by decide)) (by rfl) gS kS bS .nil pass0 (pa_cons (pe_call GW (hr.mono (by decide)) (by rfl) gW kW bW .nil pass0 (pa_cons (pv 0) (pa_cons (pv 3) pa_nil))) (pa_cons (pe_lst (pa_cons (pe_ix ix_tup (pv 2) pe_int (fun _ _ => rfl)) pa_nil)) pa_nil)))))
          (pw_or1 (pt_not (pt_val (pe_call (GS 2) (hr.mono (by decide)) (by rfl) gS kS bS .nil pass0 (pa_cons (pe_call GY (hr.mono (by decide)) (by rfl) gY kY bY .nil pass0 (pa_cons (pv 0) (pa_cons (pv 3) pa_nil))) (pa_cons (pe_tup (pa_cons (pv 4) (pa_cons (pe_ix ix_tup (pv 2) pe_int (fun _ _ => rfl)) (pa_cons (pe_tup pa_nil) pa_nil)))) pa_nil)))))))) (pss_one (ps_ret pe_bl)) pss_nil)
      (pss_cons (ps_if (PW.pt (pw_or (pt_not (pt_val (pe_call (GS 3) (hr.mono (by decide)) (by rfl) gS kS bS .nil pass0 (pa_cons (pe_call GM (hr.mono (by decide)) (by rfl) gM kM bM .nil pass0 (pa_cons (pv 0) (pa_cons (pv 3) pa_nil))) (pa_cons (pe_ix ix_tup (pv 2) pe_int (fun _ _ => rfl)) pa_nil)))))
          (pw_or1 (pt_not (pt_val (pe_call (GS 0) (hr.mono (by decide)) (by rfl) gS kS bS .nil pass0 (pa_cons (pe_call GC (hr.mono (by decide)) (by rfl) gC kC bC .nil pass0 (pa_cons (pv 0) (pa_cons (pv 3) pa_nil))) (pa_cons (pe_ix ix_tup (pv 2) pe_int (fun _ _ => rfl)) pa_nil)))))))) (pss_one (ps_ret pe_bl)) pss_nil)
      (pss_one (ps_ret (pe_call (GS 0) (hr.mono (by decide)) (by rfl) gS kS bS .nil pass0 (pa_cons (pe_call GI (hr.mono (by decide)) (by rfl) gI kI bI .nil pass0 (pa_cons (pv 0) (pa_cons (pv 3) pa_nil))) (pa_cons (pe_cmpR op_eq (pv 4) pe_str (nomark _)) pa_nil)))))))), ?_⟩
    have hL := hI.ok
    have hsm := List.mem_of_getElem? hi
    have hem := List.mem_of_getElem? hj
    have hvm : valsM L sd en = some (vl14 sd en) := by rw [hI.vals hsm hem, if_pos hl]
    obtain ⟨a0, xf, xk, xm, xs, xe, xr, vf, vk, vm, wS, ve, ea, _, LA⟩ := lx_inv hD
    cases ea
    obtain ⟨v1, hv1, hd1⟩ := ix_row LA.ds hi
    obtain ⟨a1, m1, rfl, ht1, _⟩ := sd_inv hd1
    refine ⟨_, rfl, r, _, _, .int (i : Nat), rfl, rfl, hr', rfl, _, rfl, r, _, _, .int (j : Nat), rfl, rfl, hr', rfl, ⟨(show 3 ≤ sizeLine by decide), fun t nt => ?_⟩⟩
    have s1 := SL.new (o := .tup [.str "word", .int (i : Nat), .int (j : Nat)]) (SL.refl hT) nt
    have ht : SqT K (upd H t (.tup [.str "word", .int (i : Nat), .int (j : Nat)])) t [.str "word", .int (i : Nat), .int (j : Nat)] := .inl (.inl upd_same)
    generalize upd H t (.tup [.str "word", .int (i : Nat), .int (j : Nat)]) = H1 at s1 ht ⊢
    refine ⟨_, rfl, a, _, rfl, get_of (s1.k _ _ nt_dK LA.d) lxK_stems, _, rfl, r, _, _, .int (i : Nat), rfl, rfl, s1.sqT hr', rfl, xs, _, _, .ref a1, rfl, rfl, .inl (.inl (s1.k _ _ nt_lst LA.hs)), atI_nat hv1, a1, _, _, .str sd.k, rfl, rfl, s1.sqT ht1, rfl, ?_⟩
    have hwds := (hI.sewn hsm hem hl).1
    refine ⟨_, rfl, _, rfl, p, c, t, i, j, L, N, kvs, sd, en, _, rfl, hTg.sl s1, hL, ht, hi, hj, hvm, s1.t, fun v2 H2 s2 hv2 => ?_⟩
    obtain ⟨l2, rfl, hl2⟩ := hv2
    have s12 := s1.trans s2
    refine ⟨_, rfl, r, _, _, .str (wr14 sd en), rfl, rfl, s12.sqT hr', rfl, ⟨(show 1 ≤ sizeLine by decide), fun l3 nl3 => ?_⟩⟩
    have s3 := SL.new (o := .lst [.str (wr14 sd en)]) (SL.refl s2.t) nl3
    have hl3 : (upd H2 l3 (.lst [.str (wr14 sd en)])) l3 = some (.lst [.str (wr14 sd en)]) := upd_same
    have hl23 := s3.k _ _ nt_lst hl2
    rw [hwds] at hl23
    generalize upd H2 l3 (.lst [.str (wr14 sd en)]) = H3 at s3 hl3 hl23 ⊢
    refine ⟨_, _, .list [.str (wr14 sd en)], fun _ => True, fun _ => True, rfl, .lst hl23 trivial (show 1 ≤ 1000 by decide) (.cons (.str _) .nil), .lst hl3 trivial (show 1 ≤ 1000 by decide) (.cons (.str _) .nil), rfl, fun H4 s4 => ⟨true, rfl, iteF ?_⟩⟩
    have s14 := (s12.trans s3).trans (SL.of s3.t s4)
    refine ⟨_, rfl, _, rfl, p, c, t, i, j, L, N, kvs, sd, en, _, rfl, hTg.sl s14, hL, ((s2.trans s3).trans (SL.of s3.t s4)).sqT ht, hi, hj, hvm, s14.t, fun v5 H5 s5 hv5 => ?_⟩
    obtain ⟨y1, y2, y3, rfl, e1, e2, e3⟩ := hv5
    have s15 := s14.trans s5
    refine ⟨_, rfl, _, rfl, r, _, _, .ref wv, rfl, rfl, s15.sqT hr', rfl, ⟨Nat.zero_le _, fun z1 nz1 => ?_⟩⟩
    have s6 := SL.new (o := .tup []) (SL.refl s15.t) nz1
    have hz1 : (upd H5 z1 (.tup [])) z1 = some (.tup []) := upd_same
    generalize upd H5 z1 (.tup []) = H6 at s6 hz1 ⊢
    refine ⟨(show 3 ≤ sizeLine by decide), fun z2 nz2 => ?_⟩
    have s7 := SL.new (o := .tup [.str sd.k, .ref wv, .ref z1]) (SL.refl s6.t) nz2
    have hz2 : (upd H6 z2 (.tup [.str sd.k, .ref wv, .ref z1])) z2 = some (.tup [.str sd.k, .ref wv, .ref z1]) := upd_same
    generalize upd H6 z2 (.tup [.str sd.k, .ref wv, .ref z1]) = H7 at s7 hz2 ⊢
    have s17 := (s15.trans s6).trans s7
    have s57 := s6.trans s7
    have vle : ((vl14 sd en).map V.str).length ≤ 1000 := by
      rw [List.length_map]
      unfold vl14
      split <;> simp
    have pl : plainD (.tuple [.str sd.k, .tuple ((vl14 sd en).map PyData.str), .tuple []]) = true := by
      unfold vl14
      split <;> rfl
    refine ⟨_, _, .tuple [.str sd.k, .tuple ((vl14 sd en).map PyData.str), .tuple []], fun _ => True, fun _ => True, rfl, .tup (s57.sqT e1) (show 3 ≤ 1000 by decide) (.cons (.str _) (.cons (.tup (s57.sqT e2) vle (strs_mk _)) (.cons (.tup (s57.sqT e3) (by decide) .nil) .nil))), .tup (.inl (.inl hz2)) (show 3 ≤ 1000 by decide) (.cons (.str _) (.cons (.tup (s17.sqT hwv) vle (strs_mk _)) (.cons (.tup (s7.sqT (.inl (.inl hz1))) (by decide) .nil) .nil))), pl, fun H8 s8 => ⟨true, rfl, iteF ?_⟩⟩
    have s18 := s17.trans (SL.of s17.t s8)
    have ht8 := ((((s2.trans s3).trans (SL.of s3.t s4)).trans s5).trans s57).trans (SL.of s17.t s8)
    refine ⟨_, rfl, _, rfl, p, c, t, i, j, L, N, kvs, sd, en, rfl, hTg.sl s18, hTf.sl s18, hI, ht8.sqT ht, hi, hj, hl, s18.t, fun v9 H9 s9 hv9 => ?_⟩
    have s19 := s18.trans s9
    refine ⟨_, rfl, r, _, _, .ref mv, rfl, rfl, s19.sqT hr', rfl, ?_⟩
    refine ⟨_, _, mnD sd en, _, _, rfl, hv9.1, hmv.sl s19, rfl, fun H10 s10 => ⟨true, rfl, iteF ?_⟩⟩
    have s110 := s19.trans (SL.of s19.t s10)
    have ht10 := (ht8.trans s9).trans (SL.of s19.t s10)
    refine ⟨_, rfl, _, rfl, p, c, t, i, j, L, N, kvs, sd, en, _, rfl, hTg.sl s110, hL, ht10.sqT ht, hi, hj, hvm, s110.t, fun H11 s11 => ?_⟩
    have s111 := s110.trans s11
    refine ⟨_, rfl, r, _, _, .int (sd.r + en.r), rfl, rfl, s111.sqT hr', rfl, ?_⟩
    refine ⟨_, _, .int (sd.r + en.r), fun _ => True, fun _ => True, rfl, .int _, .int _, rfl, fun H12 s12' => ⟨true, rfl, iteF ?_⟩⟩
    have s112 := s111.trans (SL.of s111.t s12')
    have ht12 := (ht10.trans s11).trans (SL.of s111.t s12')
    refine ⟨_, rfl, _, rfl, p, c, t, i, j, L, N, kvs, sd, en, _, rfl, hTg.sl s112, hL, ht12.sqT ht, hi, hj, hvm, s112.t, fun H13 s13 => ?_⟩
    have s113 := s112.trans s13
    refine ⟨_, rfl, rfl, ?_⟩
    rw [show decide (V.str sd.k = V.str "verb") = decide (sd.k = "verb") by by_cases hk : sd.k = "verb" <;> simp [hk]]
    exact ⟨_, _, .bool (decide (sd.k = "verb")), fun _ => True, fun _ => True, rfl, .bl _, .bl _, rfl, fun H14 s14' => q _ (s113.trans (SL.of s113.t s14'))⟩
end
end Bn

set_option pp.maxSteps 400
namespace Bn
open PySem PySem.Spec PyProof.Rows L2 BR GX RM GY
theorem SL.seqL {T : Tb} {K : PySem.W.Frag} {H H' : Hp} {a : Addr} {xs : List V} (s : SL T H H') (h : SqL K H a xs) : SqL K H' a xs := by
  rcases h with (h | ⟨o, h⟩) | h
  · exact .inl (.inl (s.k _ _ nt_lst h))
  · exact .inl (.inr ⟨o, s.k _ _ nt_frz h⟩)
  · exact .inr h
theorem SL.kb {T : Tb} {H H1 H2 : Hp} {b : Addr} (s : SL T H H1) (nb : H b = none) (hb : Bx H1 b) (k : Kb b H1 H2) : SL T H H2 := by
  have hn : ∀ {x : Addr} {o : HO}, H x = some o → x ≠ b := fun e z => by rw [z, nb] at e; cases e
  obtain ⟨u1, u2, u3, eb⟩ := hb
  have tab : ∀ {F : Addr} {q : Str}, LamX.TabS H1 F q → LamX.TabS H2 F q := fun {F q} h => by
    obtain ⟨ps, e1, e2, e3⟩ := h
    refine ⟨ps, k.k _ _ (ne_of e1 eb (by intro z; cases z)) e1, e2, fun pos cv h => ?_⟩
    obtain ⟨c, h1, h2⟩ := e3 pos cv h
    exact ⟨c, h1, k.k _ _ (ne_of h2 eb fun z => (ncL c q) (by rw [← z])) h2⟩
  refine ⟨fun x y n e => k.k _ _ (hn e) (s.k _ _ n e), fun x p e => ?_, ⟨fun P hP => ?_, tab s.t.l, fun z hz => tab (s.t.x z hz), s.t.d⟩⟩
  · obtain ⟨p', e'⟩ := s.q _ _ e
    exact ⟨p', k.k _ _ (hn e) e'⟩
  · obtain ⟨ps, h1, h2⟩ := s.t.g P hP
    exact ⟨ps, k.k _ _ (ne_of h1 eb (by intro z; cases z)) h1, h2⟩
theorem fu_inv {K : PySem.W.Frag} {H : Hp} {N : Addr → Prop} {n : Nat} {L : Lx} {r : Str × Nat × Nat} {v : V} (hr : r ∈ due14 L) (h : Dq K H N (n + 2) v (fuD L r)) : ∃ (q wv mv : Addr) (s : Sd) (e : En), v = .ref q ∧ L.ss[r.2.1]? = some s ∧ L.es[r.2.2]? = some e ∧ s.l = e.l ∧ r.1 = wr14 s e ∧
    SqT K H q [.str r.1, .int (r.2.1 : Nat), .int (r.2.2 : Nat), .ref wv, .ref mv, .int (s.r + e.r)] ∧ SqT K H wv ((vl14 s e).map V.str) ∧ Dq K H N (n + 1) (.ref mv) (mnD s e) := by
  obtain ⟨s, e, h1, h2, hl, h3⟩ := due_mem hr
  have fu : fuD L r = .tuple [.str r.1, .int (r.2.1 : Nat), .int (r.2.2 : Nat), .tuple ((vl14 s e).map PyData.str), mnD s e, .int (s.r + e.r)] := by
    unfold fuD
    simp only [h1, h2]
  rw [fu] at h
  cases h with
  | tup a1 _ a2 =>
    cases a2 with
    | cons b1 a2 =>
      cases a2 with
      | cons b2 a2 =>
        cases a2 with
        | cons b3 a2 =>
          cases a2 with
          | cons b4 a2 =>
            cases a2 with
            | cons b5 a2 =>
              cases a2 with
              | cons b6 a2 =>
                cases a2
                cases b1
                cases b2
                cases b3
                cases b6
                cases b4 with
                | tup c1 _ c2 =>
                  rw [dq_strs c2] at c1
                  unfold mnD at b5
                  cases b5 with
                  | tup d1 d0 d2 =>
                    exact ⟨_, _, _, s, e, rfl, h1, h2, hl, h3, a1, c1, .tup d1 d0 d2⟩
theorem plain_rowsD : ∀ rs : List (Str × Nat × Nat), plainAll (rs.map rowD) = true
  | [] => rfl
  | r :: rs => by
    show (plainD (rowD r) && plainAll (rs.map rowD)) = true
    rw [plain_rowsD rs]
    rfl
theorem In14.s1 {L : Lx} (h : In14 L) : 0 < L.ss.length := by
  obtain ⟨N, V, _, _, _, _, h1, h2⟩ := h.s
  rw [h2.length_eq, List.length_append, List.length_map]
  omega
theorem plain_treesD : ∀ rs : List (Str × Nat × Nat), plainAll (rs.map treeD) = true
  | [] => rfl
  | r :: rs => by
    show (plainD (treeD r) && plainAll (rs.map treeD)) = true
    rw [plain_treesD rs]
    rfl
theorem In14.dl {L : Lx} (h : In14 L) : (due14 L).length ≤ 200 := by
  have b1 := duN_len L L.ss.length
  have b3 := h.sl
  have b4 := h.el
  have e : (due14 L).length = (duN L L.ss.length).length := rfl
  rw [b4] at b1
  omega
def rSlB (K : PySem.W.Frag) : V → Option Int → Option Int → Hp → VK → Prop := fun x lo hi H Q => ∃ a xs, x = .ref a ∧ SqT K H a xs ∧ ∀ p H', Same H H' → SqT K H' p (cutV xs lo hi) → Q (.ref p) H'
theorem sl_tupB {X : Cx} : SlR X (rSlB X.K) := by
  intro pins s σ H x v vl vu lo hi sl Q I rx hs pl pu h
  obtain ⟨a, xs, rfl, hx, q⟩ := h
  refine sl_tupA pins s σ H _ v vl vu lo hi sl Q I rx hs pl pu ⟨a, xs, rfl, hx, fun hw => q a H (Same.refl _) ?_, fun hw p np => q p _ (same_new np) (.inl (.inl upd_same))⟩
  have e : cutV xs lo hi = xs := by
    unfold cutV
    rw [hw.1, hw.2, List.drop_zero, Nat.sub_zero, List.take_length]
  rw [e]
  exact hx
theorem sl_tupBK {X : Cx} {K : PySem.W.Frag} (e : X.K = K) : SlR X (rSlB K) := e ▸ sl_tupB
section
variable {P : Program} {w : World} {K : PySem.W.Frag} {mg : Str → Option Value} {base : Heap}
abbrev NLw : List Str := ["_law_script", "_law_k", "_law_told", "_law_tongue", "_law_due_here", "_law_row", "_law_trees", "_law_word", "_law_i", "_law_j", "_law_other"]
def spLaw (K : PySem.W.Frag) (T : Tb) : Sp := fun vs H Q _ => ∃ (a : Addr) (ns : List Int), vs = [.ref a] ∧ SqL K H a (ns.map V.int) ∧ ns.length < 4611686018427387904 ∧ TbOk T H ∧ ∀ H', Q (.bl true) H'
theorem ok_law {f fB fU fI fD fT fF fS fA fR fV C : Addr} {fd fdB fdU fdI fdD fdT fdF fdS fdA fdR fdV : FuncData} {T : Tb} (F : Fun K "law" "law" s_law f fd) (TC : TgC K C) (M : Mk K C fI) (mC : mg "Tongue" = some (.ref C))
    (kB : PySem.W.keepIn K (.ref fB) = true) (bB : Binds K fdB ["_law_script", "_law_k"] []) (gB : mg "_law_box" = some (.ref fB)) (GB : FnOk P w K mg base CX0 2 fB fdB ["_law_script", "_law_k"] (spBox K))
    (kU : PySem.W.keepIn K (.ref fU) = true) (bU : Binds K fdU ["_law_box_here"] []) (gU : mg "_law_built" = some (.ref fU)) (GU : FnOk P w K mg base CX0 5 fU fdU ["_law_box_here"] (spBu K))
    (bI : Binds K fdI ["self", "told"] []) (GI : FnOk P w K mg base CX0 31 fI fdI ["self", "told"] (spInit K T C))
    (kD : PySem.W.keepIn K (.ref fD) = true) (bD : Binds K fdD ["_law_told"] []) (gD : mg "_law_due" = some (.ref fD)) (GD : FnOk P w K mg base CX0 3 fD fdD ["_law_told"] (spDue K))
    (kT : PySem.W.keepIn K (.ref fT) = true) (bT : Binds K fdT ["_law_box_here", "_law_many"] []) (gT : mg "_law_take" = some (.ref fT)) (GT : FnOk P w K mg base CX0 2 fT fdT ["_law_box_here", "_law_many"] spTake)
    (kF : PySem.W.keepIn K (.ref fF) = true) (bF : Binds K fdF ["tongue"] []) (gF : mg "forms" = some (.ref fF)) (GF : FnOk P w K mg base CX0 10 fF fdF ["tongue"] (spForms K T C))
    (kS : PySem.W.keepIn K (.ref fS) = true) (bS : Binds K fdS ["_law_found", "_law_due_here"] []) (gS : mg "_law_same" = some (.ref fS)) (GS : ∀ n, FnOk P w K mg base CX0 (n + 1) fS fdS ["_law_found", "_law_due_here"] (spSame K n))
    (kA : PySem.W.keepIn K (.ref fA) = true) (bA : Binds K fdA ["tongue", "word"] []) (gA : mg "analyses" = some (.ref fA)) (GA : FnOk P w K mg base CX0 11 fA fdA ["tongue", "word"] (spAna K T C))
    (kR : PySem.W.keepIn K (.ref fR) = true) (bR : Binds K fdR ["_law_tongue", "_law_told", "_law_row"] []) (gR : mg "_law_tree_right" = some (.ref fR)) (GR : FnOk P w K mg base CX0 17 fR fdR ["_law_tongue", "_law_told", "_law_row"] (spTr K T C))
    (kV : PySem.W.keepIn K (.ref fV) = true) (bV : Binds K fdV ["tongue", "stem", "ending"] []) (gV : mg "values_of" = some (.ref fV)) (GV : FnOk P w K mg base CX0 8 fV fdV ["tongue", "stem", "ending"] (spVals K T C))
    (mr : mg "range" = none) (mmn : mg "min" = none) (ml : mg "len" = none) : FnOk P w K mg base CX0 33 f fd ["_law_script"] (spLaw K T) := by
  refine F.ok sc_law (fun vs H Q E h => ?_) (fun cdv A outer s H vs Q E hr h => ?_)
  · obtain ⟨a, ns, rfl, _⟩ := h
    rfl
  · obtain ⟨a, ns, rfl, hS, hns, hT, q⟩ := h
    have hu := hu_of hr
    refine ⟨_, pss_cons (ps_for PassesOwn.never rfl (pi_range1 (by rfl) mr (pa_cons (pe_op op_add pe_int (pe_callB (call_min2 rfl) (by rfl) mmn (by decide +kernel) (pa_cons pe_int (pa_cons (pe_callB call_len_seq (by rfl) ml PySem.boot_len (pa_cons (pv 0) pa_nil)) pa_nil)))) pa_nil)) (pg_name (i := 1) sc_law.nd rfl (.inl rfl))
        (pss_cons (ps_set (i := 2) sc_law.nd rfl (.inl rfl) (pe_call GU (hr.mono (by decide)) (by rfl) gU kU bU .nil pass0 (pa_cons (pe_call GB (hr.mono (by decide)) (by rfl) gB kB bB .nil pass0 (pa_cons (pv 0) (pa_cons (pv 1) pa_nil))) pa_nil)))
        (pss_cons (ps_set (i := 3) sc_law.nd rfl (.inl rfl) (pe_make M GI (hr.mono (by decide)) (by rfl) mC bI .nil pass0 (pa_cons (pv 2) pa_nil)))
        (pss_cons (ps_set (i := 4) sc_law.nd rfl (.inl rfl) (pe_call GD (hr.mono (by decide)) (by rfl) gD kD bD .nil pass0 (pa_cons (pv 2) pa_nil)))
        (pss_cons (ps_if (pt_not (pt_val (pe_call (GS 2) (hr.mono (by decide)) (by rfl) gS kS bS .nil pass0 (pa_cons (pe_call GF (hr.mono (by decide)) (by rfl) gF kF bF .nil pass0 (pa_cons (pv 3) pa_nil)) (pa_cons
            (pe_lc (own := [("_law_row", 5)]) (g := gName 5) (tt := tYes) rfl sc_law.nd (pi_list (pv 4)) (blkOk_by (own := [("_law_row", 5)]) (N := NLw) (sc := defScope s_law) (by decide +kernel)) (fun _ _ _ _ _ => pg_name (i := 5) sc_law.nd rfl (.inl rfl)) (fun _ _ _ _ _ => pts_nil)
              (fun _ _ _ _ _ => pe_slice (sl_tupBK (K := K) rfl) (pv 5) po_none (po_some pe_int))) pa_nil))))) (pss_one (ps_ret pe_bl)) pss_nil)
        (pss_cons (ps_for PassesOwn.never rfl (pi_list (pv 4)) (pg_name (i := 5) sc_law.nd rfl (.inr rfl))
          (pss_cons (ps_setLc (i := 6) (own := [("_law_other", 10)]) (g := gName 10) rfl sc_law.nd rfl rfl (sw_true rfl rfl rfl (by decide +kernel)) (pi_list (pv 4)) (blkOk_by (own := [("_law_other", 10)]) (N := NLw) (sc := defScope s_law) (by decide +kernel)) (fun _ _ _ _ _ => pg_name (i := 10) sc_law.nd rfl (.inl rfl))
              (fun _ _ _ _ _ => pts_one (pt_cmpR op_eq (pe_ix (ix_tupK (K := K) rfl) (pv 10) pe_int (fun _ _ => rfl)) (pe_ix (ix_tupK (K := K) rfl) (pv 5) pe_int (fun _ _ => rfl)) (nomark _)))
              (fun _ _ _ _ _ => pe_tup (pa_cons pe_str (pa_cons (pe_ix (ix_tupK (K := K) rfl) (pv 10) pe_int (fun _ _ => rfl)) (pa_cons (pe_ix (ix_tupK (K := K) rfl) (pv 10) pe_int (fun _ _ => rfl)) pa_nil)))))
          (pss_cons (ps_if (PW.pt (pw_or (pt_not (pt_val (pe_call (GS 2) (hr.mono (by decide)) (by rfl) gS kS bS .nil pass0 (pa_cons (pe_call GA (hr.mono (by decide)) (by rfl) gA kA bA .nil pass0 (pa_cons (pv 3) (pa_cons (pe_ix ix_tup (pv 5) pe_int (fun _ _ => rfl)) pa_nil))) (pa_cons (pv 6) pa_nil)))))
              (pw_or1 (pt_not (pt_val (pe_call GR (hr.mono (by decide)) (by rfl) gR kR bR .nil pass0 (pa_cons (pv 3) (pa_cons (pv 2) (pa_cons (pv 5) pa_nil))))))))) (pss_one (ps_ret pe_bl)) pss_nil)
          (pss_one (ps_if (pt_not (pt_val (pe_call (GS 1) (hr.mono (by decide)) (by rfl) gS kS bS .nil pass0 (pa_cons (pe_call GV (hr.mono (by decide)) (by rfl) gV kV bV .nil pass0 (pa_cons (pv 3) (pa_cons (pe_ix ix_tup (pv 5) pe_int (fun _ _ => rfl)) (pa_cons (pe_ix ix_tup (pv 5) pe_int (fun _ _ => rfl)) pa_nil)))) (pa_cons (pe_ix ix_tup (pv 5) pe_int (fun _ _ => rfl)) pa_nil))))) (pss_one (ps_ret pe_bl)) pss_nil)))))
        (pss_cons (ps_for PassesOwn.never rfl (pi_tup (pe_tup (pa_cons pe_str (pa_cons pe_str (pa_cons pe_str (pa_cons pe_str (pa_cons pe_str (pa_cons pe_str (pa_cons pe_str (pa_cons pe_str (pa_cons pe_str (pa_cons pe_str pa_nil)))))))))))) (pg_name (i := 7) sc_law.nd rfl (.inl rfl))
          (pss_one (ps_if (pt_cmpR (op_neE hr.units) (pe_call GA (hr.mono (by decide)) (by rfl) gA kA bA .nil pass0 (pa_cons (pv 3) (pa_cons (pv 7) pa_nil))) (pe_lst pa_nil) (nomark _)) (pss_one (ps_ret pe_bl)) pss_nil)))
        (pss_cons (ps_set (i := 8) sc_law.nd rfl (.inl rfl) (pe_call GT (hr.mono (by decide)) (by rfl) gT kT bT .nil pass0 (pa_cons (pe_call GB (hr.mono (by decide)) (by rfl) gB kB bB .nil pass0 (pa_cons (pv 0) (pa_cons (pe_op op_add pe_int (pv 1)) pa_nil))) (pa_cons (pe_callB call_len_seq (by rfl) ml PySem.boot_len (pa_cons (pe_dget hu (pv 2) pe_str (fun _ _ => rfl)) pa_nil)) pa_nil))))
        (pss_one (ps_for PassesOwn.never rfl (pi_range1 (by rfl) mr (pa_cons pe_int pa_nil)) (pg_name (i := 9) sc_law.nd rfl (.inl rfl))
          (pss_one (ps_if (PW.pt (pw_and (pt_cmpR op_ne (pe_ix ix_tup (pe_ix ix_list (pe_dget hu (pv 2) pe_str (fun _ _ => rfl)) (pv 8) (fun _ _ => rfl)) pe_int (fun _ _ => rfl)) (pe_ix ix_tup (pe_ix ix_list (pe_dget hu (pv 2) pe_str (fun _ _ => rfl)) (pv 9) (fun _ _ => rfl)) pe_int (fun _ _ => rfl)) (nomark _))
              (pw_and1 (pt_cmpR op_notN (pe_call GV (hr.mono (by decide)) (by rfl) gV kV bV .nil pass0 (pa_cons (pv 3) (pa_cons (pv 8) (pa_cons (pv 9) pa_nil)))) pe_non (nomark _))))) (pss_one (ps_ret pe_bl)) pss_nil))))))))))))
      (pss_one (ps_ret pe_bl)), ?_⟩
    refine ⟨_, rfl, a, _, rfl, .inl hS, _, _, rfl, _, _, rfl, rfl, ?_⟩
    rw [List.length_map]
    have hR : ∃ R : Nat, R ≤ 10 ∧ (1 : Int) + (if ((ns.length : Nat) : Int) < 7 then ((ns.length : Nat) : Int) else 7) = ((R : Nat) : Int) := by
      by_cases h1 : ((ns.length : Nat) : Int) < 7
      · exact ⟨ns.length + 1, by omega, by rw [if_pos h1]; omega⟩
      · exact ⟨8, by decide, by rw [if_neg h1]; rfl⟩
    obtain ⟨R, R24, eR⟩ := hR
    have eR' : (fun i j : Int => V.int (i + j)) 1 (if ((ns.length : Nat) : Int) < 7 then ((ns.length : Nat) : Int) else 7) = V.int ((R : Nat) : Int) := congrArg V.int eR
    rw [eR']
    refine ⟨_, rfl, by omega, by omega, ?_⟩
    rw [Int.toNat_natCast]
    refine for_it (walk_range (lo := 0) (n := R)) (fun i σ HY => (∃ y1 y2 y3 y4 y5 y6 y7 y8 y9 z0 : Option V, σ = [some (.ref a), y1, y2, y3, y4, y5, y6, y7, y8, y9, z0]) ∧ SL T H HY) ⟨⟨_, _, _, _, _, _, _, _, _, _, rfl⟩, SL.refl hT⟩ (fun _ _ _ _ _ => trivial) (fun i x σ HY HY' hi hP' hY => ?_) (fun σ HY hP' => q _)
    obtain ⟨rfl, rfl⟩ := hY
    obtain ⟨⟨y1, y2, y3, y4, y5, y6, y7, y8, y9, z0, rfl⟩, sY⟩ := hP'
    refine ⟨_, rfl, _, rfl, a, ns, i, congrArg (fun z => [V.ref a, V.int z]) (Int.zero_add _), sY.seqL hS, fun b HB nb sb hb => ?_⟩
    have sHB := sY.same sb
    have zb : H b = none := sY.free nb
    have nHB : ¬ (HB b = none) := fun z => by
      obtain ⟨_, _, _, e⟩ := hb
      rw [z] at e
      cases e
    refine ⟨b, rfl, hb, fun m HL L kL hD hI => ?_⟩
    have sHL := sHB.kb zb hb kL
    have hL := hI.ok
    refine ⟨_, rfl, fun x dx nx ndx nex => ?_⟩
    have sN : Same HL (upd HL dx (.own x)) := same_new ndx
    have nx' : (upd HL dx (.own x)) x = none := by rw [upd_ne (Ne.symm nex)]; exact nx
    have sN2 : Same HL (upd (upd HL dx (.own x)) x (.ins C dx [])) := sN.trans (same_new nx')
    refine ⟨x, dx, .ref m, HL, L, _, rfl, upd_same, nx, SL.of sHL.t sN2, hD.same sN2, hL, fun c HT s1 zc tg tf => ⟨rfl, ?_⟩⟩
    have sHT := sHL.trans s1
    have hDT := hD.sl s1
    refine ⟨_, rfl, m, L, _, rfl, hDT, hI, fun HU lu us sU nlu hlu hus => ?_⟩
    have sHU := sHT.same sU
    have tgU := tg.b.sl (SL.of s1.t sU)
    have tfU := tf.sl (SL.of s1.t sU)
    have hcU : HU c = some (.dK []) := tgU.c
    have s0U := sHU
    refine ⟨_, rfl, x, c, L, _, fun z => z = c, [], rfl, tgU, ⟨.inl rfl, .inl rfl⟩, rfl, hL, sHU.t, fun kv1 H1 l1 xs1 sc1 tg1 ka1 nl1 dx1 => ?_⟩
    have nlu : lu ≠ c := ne_of hlu hcU (by intro z; cases z)
    have sF := same_new (o := .lst xs1) nl1
    have hlu1 := sF _ _ (sc1.k _ _ nlu nt_lst hlu)
    have hus1 := (hus.slc sc1 hcU id).same sF
    have hl1F : (upd H1 l1 (.lst xs1)) l1 = some (.lst xs1) := upd_same
    have hx1F := dx1.same sF
    have scF := sc1.trans (SLc.of (SL.of sc1.t sF))
    have tgF1 := tg1.sl (SL.of sc1.t sF)
    have kaF := ka1.same sF
    generalize upd H1 l1 (.lst xs1) = HF at hlu1 hus1 hl1F hx1F scF tgF1 kaF ⊢
    refine ⟨_, rfl, lu, rfl, ⟨_, .inl (.inl hlu1)⟩, fun D nD => ?_⟩
    refine lc_it (walk_list (K := K) (a := lu) (xs := us)) (fun i HX => Same HF HX ∧ ∃ vs, HX D = some (.lst vs) ∧ DqAll K HX (fun _ => False) 1 vs (((due14 L).take i).map rowD)) ⟨same_new nD, [], upd_same, .nil⟩ (fun i HX _ z => .inl (.inl (z.1 _ _ hlu1))) (fun j y HX HX' hj hP' hY => ?_) (fun HG hP' => ?_)
    · obtain ⟨rfl, hx⟩ := hY
      obtain ⟨sX, vs, hDX, hvs⟩ := hP'
      obtain ⟨d, ed, hd⟩ := hus1.at hx
      obtain ⟨row, er, rfl⟩ := map_at ed
      obtain ⟨qr, wv, mv, sd, en, rfl, g1, g2, g3, g4, g5, g6, g7⟩ := fu_inv (List.mem_of_getElem? er) hd
      refine ⟨rfl, tYes_in ⟨_, rfl, _, rfl, qr, _, rfl, sqT_of_same sX g5, fun z HZ sZ hz => ?_⟩⟩
      have hz : SqT K HZ z [.str row.1, .int (row.2.1 : Nat), .int (row.2.2 : Nat)] := by
        rw [show (3 : Int) = ((3 : Nat) : Int) from rfl, cutV_take] at hz
        exact hz
      have hDZ := sZ _ _ hDX
      have few : vs.length ≤ 200 := by
        rw [hvs.len, List.length_map, List.length_take]
        have b1 := duN_len L L.ss.length
        have b3 := hI.sl
        have b4 := hI.el
        have e : (due14 L).length = (duN L L.ss.length).length := rfl
        rw [b4] at b1
        omega
      refine ⟨vs, hDZ, small_line (by omega), Same.own (sX.trans sZ) nD, vs ++ [.ref z], upd_same, ?_⟩
      rw [take_get er, List.map_append]
      exact ((hvs.same sZ).app (.cons (row_mk2 hz) .nil)).put hDZ id
    · obtain ⟨sG, vs, hDG, hvs⟩ := hP'
      rw [show (due14 L).take us.length = due14 L by rw [hus1.len, List.length_map, List.take_length]] at hvs
      have hxG := hx1F.same sG
      rw [hI.forms] at hxG
      have dl := hI.dl
      refine ⟨_, _, .list ((due14 L).map rowD), fun _ => True, fun _ => True, rfl, .lst (sG _ _ hl1F) trivial (by rw [hxG.len, List.length_map]; omega) (hxG.mono fun _ _ => trivial), .lst hDG trivial (by rw [hvs.len, List.length_map]; omega) (hvs.mono fun _ _ => trivial), plain_rowsD _, fun HS sS => ⟨true, rfl, iteF ?_⟩⟩
      have scS := scF.trans (SLc.of (SL.of scF.t (sG.trans sS)))
      have hcS : ∃ kvx, HS c = some (.dK kvx) := ⟨_, (sG.trans sS) _ _ tgF1.c⟩
      have hluS : HS lu = some (.lst us) := (sG.trans sS) _ _ hlu1
      have husS : DqAll K HS (fun _ => False) 4 us ((due14 L).map (fuD L)) := (hus1.same (sG.trans sS))
      have tgS0 : TgB C K (fun b => HL b = none) HS x c L kv1 := tgF1.sl (SL.of scF.t (sG.trans sS))
      have kaS0 : KA K HS L (fun z => z = c) kv1 := kaF.same (sG.trans sS)
      refine ⟨_, rfl, lu, rfl, ⟨_, .inl (.inl hluS)⟩, ?_⟩
      refine for_it (walk_list (K := K) (a := lu) (xs := us)) (fun i' σ HZ => (∃ y5 y6 y7 y8 y9 z0 : Option V, σ = [some (.ref a), some (.int (0 + (i : Int))), some (.ref m), some (.ref x), some (.ref lu), y5, y6, y7, y8, y9, z0]) ∧ SLc T c HU HZ ∧ ∃ kvs, TgB C K (fun b => HL b = none) HZ x c L kvs ∧ KA K HZ L (fun z => z = c) kvs) ⟨⟨_, _, _, _, _, _, rfl⟩, scS, kv1, tgS0, kaS0⟩ (fun j' _ HZ _ z => .inl (.inl (z.2.1.k _ _ nlu nt_lst hlu))) (fun j' y σ HZ HZ' hj hP' hY => ?_) (fun σ HZ hP' => ?_)
      · obtain ⟨rfl, hx⟩ := hY
        obtain ⟨⟨y5, y6, y7, y8, y9, z0, rfl⟩, sZ, kvs, tgZ, kaZ⟩ := hP'
        have husZ : DqAll K HZ' (fun _ => False) 4 us ((due14 L).map (fuD L)) := hus.slc sZ hcU id
        have hluZ := sZ.k _ _ nlu nt_lst hlu
        obtain ⟨d, ed, hd⟩ := husZ.at hx
        obtain ⟨row, er, rfl⟩ := map_at ed
        obtain ⟨qr, wv, mv, sd, en, rfl, g1, g2, g3, g4, g5, g6, g7⟩ := fu_inv (List.mem_of_getElem? er) hd
        refine ⟨_, rfl, lu, rfl, ⟨_, .inl (.inl hluZ)⟩, fun D2 nD2 => ?_⟩
        refine lc_it (walk_list (K := K) (a := lu) (xs := us)) (fun i2 HX => Same HZ' HX ∧ ∃ vs, HX D2 = some (.lst vs) ∧ vs.length ≤ i2 ∧ DqAll K HX NF 1 vs ((byT ((due14 L).take i2) row.1).map treeD)) ⟨same_new nD2, [], upd_same, Nat.le_refl _, .nil⟩ (fun i2 HX _ z => .inl (.inl (z.1 _ _ hluZ))) (fun j2 y2 HX HX' hj2 hP2 hY2 => ?_) (fun HX hP2 => ?_)
        · obtain ⟨rfl, hx2⟩ := hY2
          obtain ⟨sX, vs2, hDX, hvl, hvs2⟩ := hP2
          obtain ⟨d2, ed2, hd2⟩ := husZ.at hx2
          obtain ⟨row2, er2, rfl⟩ := map_at ed2
          obtain ⟨qr2, wv2, mv2, sd2, en2, rfl, k1, k2, k3, k4, k5, k6, k7⟩ := fu_inv (List.mem_of_getElem? er2) hd2
          have k5X := sqT_of_same sX k5
          refine ⟨rfl, ⟨_, rfl, qr2, _, _, .str row2.1, rfl, rfl, k5X, rfl, _, rfl, qr, _, _, .str row.1, rfl, rfl, sqT_of_same sX g5, rfl, rfl, _, rfl, ite2 (fun e => ?_) (fun e => ?_)⟩⟩
          · have e' : row2.1 = row.1 := V.str.inj (of_decide_eq_true e)
            refine ⟨_, rfl, qr2, _, _, .int (row2.2.1 : Nat), rfl, rfl, k5X, rfl, _, rfl, qr2, _, _, .int (row2.2.2 : Nat), rfl, rfl, k5X, rfl, ⟨(show 3 ≤ sizeLine by decide), fun z nz => ?_⟩⟩
            have sz := same_new (o := .tup [.str "word", .int (row2.2.1 : Nat), .int (row2.2.2 : Nat)]) nz
            have hz : SqT K (upd HX' z (.tup [.str "word", .int (row2.2.1 : Nat), .int (row2.2.2 : Nat)])) z [.str "word", .int (row2.2.1 : Nat), .int (row2.2.2 : Nat)] := .inl (.inl upd_same)
            generalize upd HX' z (.tup [.str "word", .int (row2.2.1 : Nat), .int (row2.2.2 : Nat)]) = HY2 at sz hz ⊢
            have hDY := sz _ _ hDX
            refine ⟨vs2, hDY, small_line (by have : j2 < us.length := hj2; rw [hus.len, List.length_map] at this; omega), Same.own (sX.trans sz) nD2, vs2 ++ [.ref z], upd_same, by rw [List.length_append]; show vs2.length + 1 ≤ j2 + 1; omega, ?_⟩
            have eb : byT ((due14 L).take (j2 + 1)) row.1 = byT ((due14 L).take j2) row.1 ++ [row2] := by
              unfold byT
              rw [take_get er2, List.filter_append, List.filter_cons_of_pos (by exact decide_eq_true e'), List.filter_nil]
            rw [eb, List.map_append]
            exact ((hvs2.same sz).app (.cons (.tup hz (show 3 ≤ 1000 by decide) (.cons (.str _) (.cons (.int _) (.cons (.int _) .nil)))) .nil)).put hDY id
          · have e' : ¬ row2.1 = row.1 := fun z => e (decide_eq_true (congrArg V.str z))
            refine ⟨sX, vs2, hDX, by omega, ?_⟩
            have eb : byT ((due14 L).take (j2 + 1)) row.1 = byT ((due14 L).take j2) row.1 := by
              unfold byT
              rw [take_get er2, List.filter_append, List.filter_cons_of_neg (by simpa using e'), List.filter_nil, List.append_nil]
            rw [eb]
            exact hvs2
        · obtain ⟨sX, vs2, hDX, hvl, hvs2⟩ := hP2
          rw [show (due14 L).take us.length = due14 L by rw [hus.len, List.length_map, List.take_length]] at hvs2
          have few2 : vs2.length ≤ 1000 := by rw [hus.len, List.length_map] at hvl; omega
          have tgX := tgZ.sl (SL.of sZ.t sX)
          have kaX := kaZ.same sX
          have sZX := sZ.same sX
          have hcX : HX c = some (.dK kvs) := tgX.c
          refine ⟨_, rfl, _, rfl, qr, _, _, .str row.1, rfl, rfl, sqT_of_same sX g5, rfl, x, c, L, _, (fun z => z = c), kvs, row.1, rfl, tgX, kaX, rfl, (fun b hb => by rw [hb, hcX]; exact fun z => by cases z), hL, sZX.t, fun kv2 H2 l2 xs2 sc2 tg2 ka2 nl2 dx2 => ?_⟩
          have sc0 := sZX.trans sc2
          have D2c : D2 ≠ c := ne_of hDX hcX (by intro z; cases z)
          have hD2 := sc2.k _ _ D2c nt_lst hDX
          have hvs3 := hvs2.slc sc2 hcX (fun z => z)
          have sF2 := same_new (o := .lst xs2) nl2
          have hD3 := sF2 _ _ hD2
          have hvs4 := hvs3.same sF2
          have dx3 := dx2.same sF2
          rw [hI.forms] at dx3
          have hl2F : (upd H2 l2 (.lst xs2)) l2 = some (.lst xs2) := upd_same
          have sc3 := sc0.same sF2
          have tg3 := tg2.sl (SL.of sc2.t sF2)
          have ka3 := ka2.same sF2
          have g5F := sqT_of_same sF2 (sc2.sqT hcX (sqT_of_same sX g5))
          have g6F := sqT_of_same sF2 (sc2.sqT hcX (sqT_of_same sX g6))
          have g7F := ((g7.same sX).slc sc2 hcX id).same sF2
          generalize upd H2 l2 (.lst xs2) = H3 at hD3 hvs4 dx3 hl2F sc3 tg3 ka3 g5F g6F g7F ⊢
          have few3 : xs2.length ≤ 1000 := by rw [dx3.len, ← hvs4.len]; exact few2
          refine ⟨_, rfl, _, _, .list ((byT (due14 L) row.1).map treeD), fun _ => True, fun _ => True, rfl, .lst hl2F trivial few3 (dx3.mono fun _ _ => trivial), .lst hD3 trivial few2 (hvs4.mono fun _ _ => trivial), plain_treesD _, fun H4 s4 => ⟨true, rfl, iteF ?_⟩⟩
          have sc4 := sc3.same s4
          have tg4 := tg3.sl (SL.of sc3.t s4)
          have ka4 := ka3.same s4
          have tf4 := tfU.slc sc4 hcU
          have hDT4 : Dq K H4 (fun z => HB z = none ∧ z ≠ c) 4 (.ref m) (lxD L) := ((((hD.off zc).sl s1).same sU).slc sc4 hcU fun z => z.2 rfl)
          refine ⟨_, rfl, _, rfl, _, rfl, x, c, m, qr, wv, mv, row.2.1, row.2.2, L, _, _, kv2, sd, en, rfl, tg4, tf4, hI, hDT4, g1, g2, g3, sqT_of_same s4 (g4 ▸ g5F), sqT_of_same s4 g6F, g7F.same s4, sc4.t, fun H5 s5 => ⟨true, rfl, iteF ?_⟩⟩
          have sc5 := sc4.trans (SLc.of s5)
          have tg5 := tg4.sl s5
          have ka5 := ka4.sl s5 tg4.c rfl
          have g5G := s5.sqT (sqT_of_same s4 g5F)
          have hvm : valsM L sd en = some (vl14 sd en) := by rw [hI.vals (List.mem_of_getElem? g1) (List.mem_of_getElem? g2), if_pos g3]
          refine ⟨_, rfl, _, rfl, qr, _, _, .int (row.2.1 : Nat), rfl, rfl, g5G, rfl, _, rfl, qr, _, _, .int (row.2.2 : Nat), rfl, rfl, g5G, rfl, x, row.2.1, row.2.2, L, _, sd, en, rfl, tg5.at, hL, g1, g2, sc5.t, fun v H6 s6 hv => ?_⟩
          rw [hvm] at hv
          obtain ⟨t, rfl, ht⟩ := hv
          have g5H := s6.sqT g5G
          have g6H := s6.sqT (s5.sqT (sqT_of_same s4 g6F))
          have vle : ((vl14 sd en).map V.str).length ≤ 1000 := by
            rw [List.length_map]
            unfold vl14
            split <;> simp
          have pl : plainD (.tuple ((vl14 sd en).map PyData.str)) = true := by
            unfold vl14
            split <;> rfl
          refine ⟨_, rfl, qr, _, _, .ref wv, rfl, rfl, g5H, rfl, _, _, .tuple ((vl14 sd en).map PyData.str), fun _ => True, fun _ => True, rfl, .tup ht vle (strs_mk _), .tup g6H vle (strs_mk _), pl, fun H7 s7 => ⟨true, rfl, iteF ?_⟩⟩
          exact ⟨⟨_, _, _, _, _, _, rfl⟩, (sc5.trans (SLc.of s6)).same s7, kv2, (tg5.sl s6).sl (SL.of s6.t s7), (ka5.sl s6 tg5.c rfl).same s7⟩
      · obtain ⟨⟨y5, y6, y7, y8, y9, z0, rfl⟩, sZ, kvs, tgZ, kaZ⟩ := hP'
        refine ⟨(show 10 ≤ sizeLine by decide), fun w0 nw0 => ⟨w0, rfl, ⟨_, .inl (.inl upd_same)⟩, ?_⟩⟩
        have sW := sZ.same (same_new (o := .tup [.str "flys", .str "bakeing", .str "boxs", .str "wolfs", .str "plaies", .str "daies", .str "trys", .str "mooves", .str "Cat", .str ""]) nw0)
        have tgW := tgZ.sl (SL.of sZ.t (same_new (o := .tup [.str "flys", .str "bakeing", .str "boxs", .str "wolfs", .str "plaies", .str "daies", .str "trys", .str "mooves", .str "Cat", .str ""]) nw0))
        have kaW := kaZ.same (same_new (o := .tup [.str "flys", .str "bakeing", .str "boxs", .str "wolfs", .str "plaies", .str "daies", .str "trys", .str "mooves", .str "Cat", .str ""]) nw0)
        have hwW : (upd HZ w0 (.tup [.str "flys", .str "bakeing", .str "boxs", .str "wolfs", .str "plaies", .str "daies", .str "trys", .str "mooves", .str "Cat", .str ""])) w0 = some (.tup (bad14.map V.str)) := upd_same
        have w0c : w0 ≠ c := fun z => by
          have := tgZ.c
          rw [← z, nw0] at this
          cases this
        generalize upd HZ w0 (.tup [.str "flys", .str "bakeing", .str "boxs", .str "wolfs", .str "plaies", .str "daies", .str "trys", .str "mooves", .str "Cat", .str ""]) = HW at sW tgW kaW hwW ⊢
        refine for_it (walk_tup (K := K) (a := w0) (xs := bad14.map V.str)) (fun i' σ HZ => (∃ y5 y6 y7 y8 y9 z0 : Option V, σ = [some (.ref a), some (.int (0 + (i : Int))), some (.ref m), some (.ref x), some (.ref lu), y5, y6, y7, y8, y9, z0]) ∧ SLc T c HW HZ ∧ ∃ kvs, TgB C K (fun b => HL b = none) HZ x c L kvs ∧ KA K HZ L (fun z => z = c) kvs) ⟨⟨_, _, _, _, _, _, rfl⟩, SLc.of (SL.refl sW.t), kvs, tgW, kaW⟩ (fun j' _ HZ _ z => .inl (.inl (z.2.1.k _ _ w0c nt_tup hwW))) (fun j' y σ HX HX' hj hP' hY => ?_) (fun σ HX hP' => ?_)
        · obtain ⟨rfl, hx⟩ := hY
          obtain ⟨⟨y5, y6, y7, y8, y9, z0, rfl⟩, sX, kvs3, tgX, kaX⟩ := hP'
          obtain ⟨wd, hwd, rfl⟩ := map_at hx
          have hno := hI.none (List.mem_of_getElem? hwd)
          refine ⟨_, rfl, _, rfl, x, c, L, _, (fun z => z = c), kvs3, wd, rfl, tgX, kaX, rfl, (fun b hb => by rw [hb, tgX.c]; exact fun z => by cases z), hL, sX.t, fun kv2 H2 l2 xs2 sc2 tg2 ka2 nl2 dx2 => ?_⟩
          rw [hno] at dx2
          cases dx2
          have sF2 := same_new (o := .lst []) nl2
          have hl2F : (upd H2 l2 (.lst [])) l2 = some (.lst []) := upd_same
          have sc3 := (sX.trans sc2).same sF2
          have tg3 := tg2.sl (SL.of sc2.t sF2)
          have ka3 := ka2.same sF2
          generalize upd H2 l2 (.lst []) = H3 at sc3 tg3 ka3 hl2F ⊢
          refine ⟨Nat.zero_le _, fun e ne => ?_⟩
          have sF3 := same_new (o := .lst []) ne
          refine ⟨l2, e, [], rfl, rfl, sF3 _ _ hl2F, upd_same, false, rfl, iteF ⟨⟨_, _, _, _, _, _, rfl⟩, sc3.same sF3, kv2, tg3.sl (SL.of sc3.t sF3), ka3.same sF3⟩⟩
        · obtain ⟨⟨y5, y6, y7, y8, y9, z0, rfl⟩, sX, kvs3, tgX, kaX⟩ := hP'
          have sUX := sW.trans sX
          have sHX : SL T H HX := by
            have a1 : SL T HL HX := SLc.sl (s1.trans (SL.of sHT.t sU)) zc sUX
            exact sHL.trans a1
          have hSX := sHX.seqL hS
          refine ⟨_, rfl, _, rfl, _, _, rfl, rfl, a, ns, 9 + i, congrArg (fun z => [V.ref a, V.int z]) (by omega), hSX, fun b2 HB2 nb2 sb2 hb2 => ?_⟩
          have hDX : Dq K HX (fun z => HB z = none ∧ z ≠ c) 4 (.ref m) (lxD L) := ((((hD.off zc).sl s1).same sU).slc sUX hcU fun z => z.2 rfl)
          have hDB := hDX.same sb2
          obtain ⟨m', xf, xk, xm, xs, xe, xr, vf, vk, vm, wS, ve, ea, _, LA⟩ := lx_inv hDB
          cases ea
          have ls : wS.length = L.ss.length := by rw [LA.ds.len, List.length_map]
          have ls1 : 0 < L.ss.length := hI.s1
          have ls2 := hI.sl
          refine ⟨_, rfl, m, _, rfl, get_of LA.d lxK_stems, _, _, rfl, .inl (.inl (.inl LA.hs)), b2, _, rfl, hb2, by omega, by omega, fun q0 H9 hq0 k9 => ?_⟩
          have s9 : SL T HX H9 := (SL.of sX.t sb2).kb nb2 hb2 k9
          have tg9 := tgX.sl s9
          have hD9 := hDX.sl s9
          have lq : q0 < L.ss.length := by omega
          obtain ⟨sd, hsd⟩ : ∃ sd, L.ss[q0]? = some sd := ⟨_, List.getElem?_eq_getElem lq⟩
          refine ⟨_, rfl, by omega, by omega, ?_⟩
          refine for_it (walk_range (lo := 0) (n := 6)) (fun i' σ HZ => (∃ y5 y6 y7 y9 z0 : Option V, σ = [some (.ref a), some (.int (0 + (i : Int))), some (.ref m), some (.ref x), some (.ref lu), y5, y6, y7, some (.int (q0 : Nat)), y9, z0]) ∧ SL T H9 HZ) ⟨⟨_, _, _, _, _, rfl⟩, SL.refl s9.t⟩ (fun _ _ _ _ _ => trivial) (fun j' y σ HY HY'' hj hP' hY => ?_) (fun σ HY hP' => ?_)
          · obtain ⟨rfl, rfl⟩ := hY
            obtain ⟨⟨y5, y6, y7, y9, z0, rfl⟩, sY2⟩ := hP'
            have hDY := hD9.sl sY2
            obtain ⟨m', xf, xk, xm, xs, xe, xr, vf, vk, vm, wS, ve, ea, _, LA2⟩ := lx_inv hDY
            cases ea
            obtain ⟨en, hen⟩ : ∃ en, L.es[j']? = some en := ⟨_, List.getElem?_eq_getElem (by rw [hI.el]; exact hj)⟩
            obtain ⟨v1, hv1, hd1⟩ := ix_row LA2.ds hsd
            obtain ⟨v2, hv2, hd2⟩ := ix_row LA2.de hen
            obtain ⟨a1, m1, rfl, ht1, _⟩ := sd_inv hd1
            obtain ⟨a2, m2, rfl, ht2, _⟩ := en_inv hd2
            refine ⟨_, rfl, m, _, rfl, get_of LA2.d lxK_stems, _, rfl, xs, _, _, .ref a1, rfl, rfl, .inl (.inl LA2.hs), atI_nat hv1, a1, _, _, .str sd.l, rfl, rfl, ht1, rfl, _, rfl, m, _, rfl, get_of LA2.d lxK_endings, _, rfl, xe, _, _, .ref a2, rfl, rfl, .inl (.inl LA2.he), (by rw [Int.zero_add]; exact atI_nat hv2), a2, _, _, .str en.l, rfl, rfl, ht2, rfl, rfl, _, rfl, ite2 (fun e => ?_) (fun e => ?_)⟩
            · have hl : ¬ sd.l = en.l := fun z => by
                rw [z, decide_eq_true rfl] at e
                cases e
              refine ⟨_, rfl, _, rfl, _, rfl, x, q0, j', L, _, sd, en, congrArg (fun z => [V.ref x, V.int (q0 : Nat), V.int z]) (Int.zero_add _), (tg9.sl sY2).at, hL, hsd, hen, sY2.t, fun v H10 s10 hv => ?_⟩
              rw [hI.vals (List.mem_of_getElem? hsd) (List.mem_of_getElem? hen), if_neg hl] at hv
              cases hv
              exact ⟨rfl, _, rfl, iteF ⟨⟨_, _, _, _, _, rfl⟩, sY2.trans s10⟩⟩
            · exact iteF ⟨⟨_, _, _, _, _, rfl⟩, sY2⟩
          · obtain ⟨⟨y5, y6, y7, y9, z0, rfl⟩, sY2⟩ := hP'
            exact ⟨⟨_, _, _, _, _, _, _, _, _, _, rfl⟩, (sHX.trans s9).trans sY2⟩
end
end Bn

namespace GY
open PySem PySem.Spec PyProof.Rows L2 GenW GX
/-- one call deeper -/
abbrev up1 (X : Cx) : Cx := { X with A := X.A.in1 }
theorem inv_up1 {X : Cx} {pins : List (Addr × Obj)} {σ : L2.St} {H : Hp} {s : Shared} (I : Inv X pins σ H s) : Inv (up1 X) pins σ H s :=
  { ok := { mod := I.ok.mod, kind := I.ok.kind, glob := I.ok.glob, blt := I.ok.blt, above := I.ok.above, inj := I.ok.inj, has := I.ok.has, cab := I.ok.cab, hd := I.ok.hd, frames := I.ok.frames, stk := I.ok.stk, exf := I.ok.exf, bs := I.ok.bs, bsz := I.ok.bsz, noex := I.ok.noex, exfs := I.ok.exfs, funs := I.ok.funs, frf := I.ok.frf }, os := I.os, bare := I.bare, base := I.base, loc := I.loc, cell := I.cell, free := I.free, freeC := I.freeC, pin := I.pin, hok := I.hok, len := I.len }
theorem inv_down1 {X : Cx} {pins : List (Addr × Obj)} {σ : L2.St} {H : Hp} {s : Shared} (I : Inv (up1 X) pins σ H s) : Inv X pins σ H s :=
  { ok := { mod := I.ok.mod, kind := I.ok.kind, glob := I.ok.glob, blt := I.ok.blt, above := I.ok.above, inj := I.ok.inj, has := I.ok.has, cab := I.ok.cab, hd := I.ok.hd, frames := I.ok.frames, stk := I.ok.stk, exf := I.ok.exf, bs := I.ok.bs, bsz := I.ok.bsz, noex := I.ok.noex, exfs := I.ok.exfs, funs := I.ok.funs, frf := I.ok.frf }, os := I.os, bare := I.bare, base := I.base, loc := I.loc, cell := I.cell, free := I.free, freeC := I.freeC, pin := I.pin, hok := I.hok, len := I.len }
section
variable {X : Cx}
theorem gen_madeU1 {c P : Addr} {elt tg iter : Expr} {ifs : List Expr} {scope : Scope} {own : List (Str × Nat)} {gpos : Pos} {wi : TI} {g : TG} {tt : TT} {te : TE} {k : Nat}
    (hr : Room k X.A) (TB : GxR.TabB X.base X.mg c P) (hcode : X.env.code = .ref c) (hc : X.calm = true) (hN : X.N.Nodup) (hi : PI X tg iter wi) (ok : BlkOk X.N X.env.scope scope own)
    (hco : scope.isCoroutine = false) (nc : ∀ y ∈ scope.names, y.2 ≠ .cell) (h0 : scope.names.lookup (".0" : Str) = some NameKind.local)
    (hg : ∀ (s : Shared) (H : Hp) (C : Addr) (cl : List (Str × Addr)) (code : Value) (fp : List Addr), PG (gcx (up1 X) s H (genEnv scope cl C code builtinsNs X.env) fp) tg g)
    (ht : ∀ (s : Shared) (H : Hp) (C : Addr) (cl : List (Str × Addr)) (code : Value) (fp : List Addr), PTs (gcx (up1 X) s H (genEnv scope cl C code builtinsNs X.env) fp) ifs tt)
    (he : ∀ (s : Shared) (H : Hp) (C : Addr) (cl : List (Str × Addr)) (code : Value) (fp : List Addr), PE (gcx (up1 X) s H (genEnv scope cl C code builtinsNs X.env) fp) elt te)
    (hs : ∀ v, genFold iter X.env v = pure v)
    {pins : List (Addr × Obj)} {s : Shared} {σ : L2.St} {H : Hp} {Kt : It → Hp → Prop} (I : Inv X pins σ H s) (h : wi σ H fun J H1 => GxR.TabG H1 P ∧ ∀ H2, GxR.Tabbed P H1 H2 → Kt J H2)
    {Q : Value → Shared → Prop} (hq : ∀ (J : It) (fp : List Addr) (H3 : Hp) (ga gi : Nat) (Y : Cx) (go : Obj) (s5 : Shared), Kt J H3 → GenAt (up1 X) pins σ J g tt te (own.map (·.2)) fp H3 ga gi Y go s5 → Q (.ref ga) s5) :
    wpAny (model X.prog X.w) X.A (eval (.GeneratorExp elt [⟨tg, iter, ifs, 0⟩] scope gpos) X.env) Q X.xe s := by
  have caught : ∀ n ∈ scope.names, n.2 = .free → ∃ c, X.env.cells.lookup n.1 = some c := fun n hn hf => I.ok.has _ ((ok.free n hn hf).elim .inl .inr)
  refine wpAny_GeneratorExp_make hco (closure_ok caught) nc h0 ok.kind hr.depth ?_ hs
  refine thn (hi.run pins s σ H _ I h) fun xv s1 hx => thn hx fun itv s2 h2 => ?_
  obtain ⟨it, fp, tn, J, H2, e, I2, T, st2, f2, ⟨ps, hP, ht2⟩, q⟩ := h2
  subst e
  refine ⟨I2.nolimit, ?_⟩
  have hPs : s2.heap.get? P = some { cls := .none, data := .fields ps } := I2.hok P _ hP
  have cd : PySem.W.CodeHd s2.heap c P := TB.code.keeps fun b u e => I2.bk b u e
  have nfP : ∀ b ∈ fp, b ≠ P := fun b hb z => by
    have := (f2 b hb).1
    rw [z, hP] at this
    cases this
  -- behind the code object
  have cont : ∀ (code : Value) (h3 : Heap) (tk : Nat) (ps' : Array Value), Heap.ExtBut P s2.heap h3 → s2.heap.objs.size ≤ h3.objs.size → h3.get? P = some { cls := .none, data := .fields ps' } → (∃ more, ps' = ps ++ more) → TriplesOk ps'.toList →
      wpAny (model X.prog X.w) X.A (builtinsFor X.env.globals X.env.builtins) (fun bi s₄ => ∀ h', h'.Ns s₄.heap.objs.size (fun y => if y = ".0" then some (.ref it) else none) → Heap.SameBut s₄.heap.objs.size (s₄.heap.push { cls := .type "frame", data := .dict #[] }) h' →
          Q (.ref h'.objs.size) { s₄ with
            gens := s₄.gens.push (.fresh (.compStart (.GeneratorExp elt [⟨tg, iter, ifs, 0⟩] scope gpos) 0 (.ref it) .none (genEnv scope (cloFrom X.env.cells scope.names []) s₄.heap.objs.size code bi X.env))),
            toks := s₄.toks + 1 + 1 + 1,
            heap := h'.push { cls := .type "generator", data := .fields #[.int s₄.gens.size 0, .str "<genexpr>" (s₄.toks + 1), .str (X.env.qual ++ "<genexpr>") (s₄.toks + 1 + 1)] } }) X.xe { s2 with heap := h3, toks := tk } := by
    intro code h3 tk ps' hx hsz hP3 ⟨more, em⟩ ht3
    obtain ⟨bmod, bobj, i1, i2, i3, i4, i5, i6, i7, i8⟩ := TB.bm
    have keep3 : ∀ b u, b ≠ P → s2.heap.get? b = some u → h3.get? b = some u := fun b u hb e => hx b u hb e
    refine wpAny_builtinsFor (m := X.mg) (by rw [I2.ok.glob]; exact (I2.mod.glob.keeps I2.bk).extBut hx TB.gP) i1 i2 (keep3 _ _ i4 (I2.bk _ _ i5)) i6 i7 i8 ?_
    intro h' hn' hs'
    -- the state ahead of the frame
    have I3 := GxR.inv_tab (more := more) (h' := h3) (g' := s2.gens) (d' := s2.drawn) (t' := tk) I2 hP (fun b u hb e => keep3 b u hb e) (by rw [← em]; exact hP3) I2.bare
    have hTab : GxR.Tabbed P H2 (upd H2 P (.tbl (ps ++ more))) := ⟨⟨ps ++ more, upd_same, by rw [← em]; exact ht3⟩, fun b hb => upd_ne hb⟩
    have hK := q _ hTab
    generalize upd H2 P (.tbl (ps ++ more)) = H3 at I3 hK hTab
    have st3 : tn 0 h3 := T.keep _ _ _ st2 fun b hb o e => keep3 b o (nfP b hb) e
    have f3 : ∀ b ∈ fp, FpOk X pins H3 b ∧ b < h3.objs.size := fun b hb => by
      obtain ⟨o, e, _⟩ := T.obj _ _ st3 b hb
      exact ⟨⟨by rw [hTab.2 b (nfP b hb)]; exact (f2 b hb).1, (f2 b hb).2⟩, Heap.lt_size e⟩
    generalize hs3 : ({ s2 with heap := h3, toks := tk } : Shared) = s3 at I3
    have es3 : h3 = s3.heap := by rw [← hs3]
    have hn'' : h'.Ns s3.heap.objs.size (fun y => if y = ".0" then some (.ref it) else none) := by rw [← es3]; exact hn'
    have hs'' : Heap.SameBut s3.heap.objs.size (s3.heap.push { cls := .type "frame", data := .dict #[] }) h' := by rw [← es3]; exact hs'
    rw [es3] at st3 f3
    show Q _ { s3 with
            gens := s3.gens.push (.fresh (.compStart (.GeneratorExp elt [⟨tg, iter, ifs, 0⟩] scope gpos) 0 (.ref it) .none (genEnv scope (cloFrom X.env.cells scope.names []) s3.heap.objs.size code builtinsNs X.env))),
            toks := s3.toks + 1 + 1 + 1,
            heap := h'.push { cls := .type "generator", data := .fields #[.int s3.gens.size 0, .str "<genexpr>" (s3.toks + 1), .str (X.env.qual ++ "<genexpr>") (s3.toks + 1 + 1)] } }
    have kp : ∀ b o, s3.heap.get? b = some o → h'.get? b = some o := fun b o e => hs''.extBut b o (Nat.ne_of_lt (Heap.lt_size e)) (Heap.get?_push_of_some _ e)
    have hsz' : h'.objs.size = s3.heap.objs.size + 1 := by rw [hs''.1, Heap.size_push]
    generalize hgo : ({ cls := .type "generator", data := .fields #[.int s3.gens.size 0, .str "<genexpr>" (s3.toks + 1), .str (X.env.qual ++ "<genexpr>") (s3.toks + 1 + 1)] } : Obj) = go
    have hgen0 : ∀ h : Heap, h.get? h'.objs.size = some go → h.IsGen h'.objs.size s3.gens.size := fun h e => ⟨go, _, _, e, by rw [← hgo], by rw [← hgo], by rw [← hgo]⟩
    have ngo : ∀ v, go.data ≠ .cell v := fun v z => by
      rw [← hgo] at z
      cases z
    have hpush : (h'.push go).get? h'.objs.size = some go := by
      rw [← hgo]
      exact Heap.get?_push_size _ rfl
    have kp2 : ∀ b o, s3.heap.get? b = some o → (h'.push go).get? b = some o := fun b o e => Heap.get?_push_of_some _ (kp b o e)
    have pg := hg s3 H3 s3.heap.objs.size (cloFrom X.env.cells scope.names []) code fp
    have pt := ht s3 H3 s3.heap.objs.size (cloFrom X.env.cells scope.names []) code fp
    have pe := he s3 H3 s3.heap.objs.size (cloFrom X.env.cells scope.names []) code fp
    have I3u := inv_up1 I3
    have I4 := gen_start (X := up1 X) (code := code) (tk := s3.toks + 1 + 1 + 1) (h' := h'.push go) (G := s3.gens.push (.fresh (.compStart (.GeneratorExp elt [⟨tg, iter, ifs, 0⟩] scope gpos) 0 (.ref it) .none (genEnv scope (cloFrom X.env.cells scope.names []) s3.heap.objs.size code builtinsNs X.env)))) I3u ok nc hN f3 (hn''.push _) kp2 (AllBare.push I3.bare rfl)
    generalize hce : genEnv scope (cloFrom X.env.cells scope.names []) s3.heap.objs.size code builtinsNs X.env = ce at pg pt pe I4 ⊢
    have cL : ce.locals = s3.heap.objs.size := by subst hce; rfl
    have cS : ce.scope = scope := by subst hce; rfl
    have hgH : H3 h'.objs.size = none := I3.hok.fresh (by rw [hsz']; exact Nat.le_succ _)
    have nfs : h'.objs.size ∉ frs X.stack := fun z => by
      rcases List.mem_cons.mp (I3.stkSub _ z) with z | z
      · have := I3.lt
        rw [← z, hsz'] at this
        exact absurd (Nat.lt_of_succ_lt this) (Nat.lt_irrefl _)
      · exact I3.nofs (by rw [hsz']; exact Nat.le_succ _) z
    have I5 := I4.pins_of (pins' := [(h'.objs.size, go)]) fun p hp => by
      rw [List.mem_singleton.mp hp]
      refine ⟨hpush, hgH, ?_, nfs, ngo⟩
      show h'.objs.size ≠ ce.locals
      rw [cL, hsz']
      exact Nat.succ_ne_self _
    generalize hs5 : ({ s3 with heap := h'.push go, gens := s3.gens.push (.fresh (.compStart (.GeneratorExp elt [⟨tg, iter, ifs, 0⟩] scope gpos) 0 (.ref it) .none ce)), toks := s3.toks + 1 + 1 + 1 } : Shared) = s5 at I5
    have st5 : tn 0 s5.heap := T.keep _ _ _ st3 fun b _ o e => by rw [← hs5]; exact kp2 b o e
    have hgs : s5.gens[s3.gens.size]? = some (.fresh (.compStart (.GeneratorExp elt [⟨tg, iter, ifs, 0⟩] scope gpos) 0 (.ref it) .none ce)) := by
      rw [← hs5]
      exact Array.getElem?_push_size ..
    have hz5 : s5.heap.objs.size = h'.objs.size + 1 := by
      rw [← hs5]
      exact Heap.size_push ..
    refine hq J fp H3 h'.objs.size s3.gens.size (gcx (up1 X) s3 H3 ce fp) go s5 hK ⟨rfl, rfl, I5, rfl, hgen0, fun hb => ?_, fun b hb => ?_, fun pn σ' H' s' I6 => ?_, fun {α} Pn T' D W hpins mono turn m0 a0 pn0 s6 hPn I6 k6 hg6 w0 => ?_⟩
    · have z : h'.objs.size < s3.heap.objs.size := (f3 _ hb).2
      rw [hsz'] at z
      omega
    · have z : b < s3.heap.objs.size := (f3 b hb).2
      rw [hz5, hsz']
      exact Nat.lt_succ_of_lt (Nat.lt_succ_of_lt z)
    · exact I3u.call' (ch := fp) I6.os I6.base I6.hok I6.bare fun b hb => ⟨(f3 b hb).1.2.2.2.1, (f3 b hb).1.2.1, (f3 b hb).1.2.2.2.2.1, (f3 b hb).1.2.2.2.2.2⟩
    · have hgs6 : s6.gens[s3.gens.size]? = some (.fresh (.compStart (.GeneratorExp elt [⟨tg, iter, ifs, 0⟩] scope gpos) 0 (.ref it) .none ce)) := by
        rw [hg6]
        exact hgs
      refine ⟨_, hgs6, rfl, ?_⟩
      have st6 : tn 0 s6.heap := T.keep _ _ _ st5 k6
      refine seg_start (i := 0) T st6 ?_
      exact seg_loopA (Y := gcx (up1 X) s3 H3 ce fp) (vs := own.map (·.2)) rfl rfl hc (by show ce.scope.isCoroutine = false; rw [cS]; exact hco) T pg pt pe (fun b hb => hb) rfl hpins mono turn m0 (m0 + 1) 0 a0 pn0 _ _ H3 (Nat.lt_succ_self _) hPn (fun p hp => (I6.pin p (List.mem_append_right _ hp)).1) (inv_gens I6 (allBare_setGen I6.bare rfl)) st6 (fun b hb => (f3 b hb).1.1) w0
  cases hf : codeAmong gpos ps.toList with
  | none =>
    refine wpAny_genexprCodeX hcode (cd.code hPs ht2) (cd.tab hPs) hf fun c' h' tk hx hge hlt hco' _ htab' _ => ?_
    have trip := hco'.choose_spec.choose_spec.choose_spec.choose_spec.choose_spec.choose_spec.choose_spec.choose_spec.choose_spec.choose_spec.2.2.2.2.2.2.2.2.2.1
    exact cont _ h' tk _ hx (Nat.le_trans hge (Nat.le_of_lt hlt)) htab'.2 ⟨#[_, _, _], rfl⟩ trip
  | some cv =>
    refine wpAny_genexprCode_hit hcode (cd.code hPs ht2) hf ?_
    exact cont cv s2.heap s2.toks ps (Heap.ExtBut.refl _ _) (Nat.le_refl _) hPs ⟨#[], by simp⟩ ht2
end
end GY

/-! sorted(elt for target in iter if ..) -/
namespace GY
open PySem PySem.Spec PyProof.Rows L2 GenW GX BR
/-- items that sort as data -/
def SortsAs (K : PySem.W.Frag) (H : Hp) (ys : List V) (bs : List VD) : Prop := ys = bs.map (·.1) ∧ (∀ b ∈ bs, Dp K H b.1 b.2 ∧ b.2.depth ≤ 60) ∧ PySem.W.AllAlike (bs.map (·.2)) ∧ PySem.W.Sortable (bs.map (·.2))
section
variable {X : Cx}
theorem pe_sortedG {c P : Addr} {elt tg iter : Expr} {ifs : List Expr} {scope : Scope} {own : List (Str × Nat)} {p pos gpos : Pos} {wi : TI} {g : TG} {tt : TT} {te : TE} {k : Nat}
    (hr : Room (k + 5) X.A) (hu : X.A.units + 64 < cLine) (hgl : Gl X "sorted") (hm : X.mg "sorted" = none) (TB : GxR.TabB X.base X.mg c P) (hcode : X.env.code = .ref c) (hc : X.calm = true) (hN : X.N.Nodup) (hi : PI X tg iter wi) (ok : BlkOk X.N X.env.scope scope own)
    (hco : scope.isCoroutine = false) (nc : ∀ y ∈ scope.names, y.2 ≠ .cell) (h0 : scope.names.lookup (".0" : Str) = some NameKind.local)
    (hg : ∀ (s : Shared) (H : Hp) (C : Addr) (cl : List (Str × Addr)) (code : Value) (fp : List Addr), PG (gcx (up1 X) s H (genEnv scope cl C code builtinsNs X.env) fp) tg g)
    (ht : ∀ (s : Shared) (H : Hp) (C : Addr) (cl : List (Str × Addr)) (code : Value) (fp : List Addr), PTs (gcx (up1 X) s H (genEnv scope cl C code builtinsNs X.env) fp) ifs tt)
    (he : ∀ (s : Shared) (H : Hp) (C : Addr) (cl : List (Str × Addr)) (code : Value) (fp : List Addr), PE (gcx (up1 X) s H (genEnv scope cl C code builtinsNs X.env) fp) elt te)
    (hs : ∀ v, genFold iter X.env v = pure v := by intro _; rfl)
    (hst : starEach [.GeneratorExp elt [⟨tg, iter, ifs, 0⟩] scope gpos] X.env = (false, eval (.GeneratorExp elt [⟨tg, iter, ifs, 0⟩] scope gpos) X.env) :: starEach [] X.env := by rfl) :
    PE X (.Call (.Name "sorted" p) [.GeneratorExp elt [⟨tg, iter, ifs, 0⟩] scope gpos] [] pos) (tGx P wi g tt te (own.map (·.2)) ([] : List V) (fun Q ys H => ∃ bs, SortsAs X.K H ys bs ∧ ∀ l, H l = none → Q (.ref l) (upd H l (.lst ((sortD bs).map (·.1))))) (fun _ => dCol)) := by
  refine ⟨fun pins s σ H Q I h => ?_⟩
  refine wpAny_Call_Name_kw (ld_blt I hgl hm (by decide +kernel : bootBuiltins "sorted" = some (.builtin "sorted")) ?_)
  refine PyProof.Rows.callWith_builtin1 ?_ hst (by rfl)
  rw [hst]
  show wpAny _ _ (spliced ((false, eval (.GeneratorExp elt [⟨tg, iter, ifs, 0⟩] scope gpos) X.env) :: backTo pos (starEach [] X.env))) _ _ s
  refine Calls.spliced_cons (gen_madeU1 (k := k) (hr.mono (by omega)) TB hcode hc hN hi ok hco nc h0 hg ht he hs I h fun J fp H3 ga gi Y go s5 ⟨W, ⟨m0, w0⟩, turn⟩ G => ?_)
  refine Calls.spliced_nil ?_
  have hg5 := (G.inv.pin (ga, go) (List.mem_append_right _ (List.mem_singleton.mpr rfl))).1
  refine Calls.call_function_entry kind_sorted plain_sorted entry_sorted (args_sorted1 _) ?_
  unfold Builtin.«sorted»
  refine wpAny_bind (m := checkCount "sorted" 1 1 _) (wpAny_pure ?_)
  show wpAny _ X.A.in1 (collect (.ref ga) >>= _) _ _ s5
  refine wpAny_bind ?_
  unfold collect
  refine wpAny_bind (wpAny_runValue (collect_by (fun h k => G.isgen h (k _ _ hg5)) (Heap.lt_size hg5) fun h' c0 kp hL => ?_))
  have fL := G.inv.fpOk (b := s5.heap.objs.size) (Nat.le_refl _) (G.inv.hok.fresh (Nat.le_refl _))
  have O : OwnL Y ga s5.heap.objs.size fp := ⟨fL.2.2.2.1.elim (fun z => Nat.le_trans G.inv.sz (Nat.le_refl _)) id, fL.2.2.2.2.1, G.ypn, Nat.ne_of_gt (Heap.lt_size hg5), fun hb => Nat.lt_irrefl _ (G.fplt _ hb)⟩
  have I6 : Inv Y [(ga, go), (s5.heap.objs.size, colO #[] c0)] (wipe σ (own.map (·.2))) H3 { s5 with heap := h' } := by
    refine (G.inv.kept (t' := s5.toks) kp).pins_of fun q hq => ?_
    have two : q = (ga, go) ∨ q = (s5.heap.objs.size, colO #[] c0) := by simpa using hq
    have pG := G.inv.pin (ga, go) (List.mem_append_right _ (List.mem_singleton.mpr rfl))
    rcases two with rfl | rfl
    · exact ⟨kp _ _ pG.1, pG.2⟩
    · exact ⟨hL, fL.1, fL.2.1, fL.2.2.1, fun v z => by cases z⟩
  have go6 := G.goes (pnCol ga go s5.heap.objs.size) (fun ys H => ∃ bs, SortsAs X.K H ys bs ∧ ∀ l, H l = none → Q (.ref l) (upd H l (.lst ((sortD bs).map (·.1))))) dCol W (fun a pn ⟨us, c, _, _, e⟩ q hq => by
    rw [e] at hq
    have two : q = (ga, go) ∨ q = (s5.heap.objs.size, colO us c) := by simpa using hq
    rcases two with rfl | rfl
    · exact G.gafp
    · exact O.nfp) dCol_mono turn m0 [] _ { s5 with heap := h' } ⟨#[], c0, .nil, Nat.zero_le _, rfl⟩ I6 (fun b _ o e => kp b o e) rfl w0
  have eprog : Y.prog = X.prog := G.prog
  have ew : Y.w = X.w := G.w
  have go7 : ∃ gs, s5.gens[gi]? = some gs ∧ gs.Goes (model X.prog X.w) X.A.in1.in1.in1 (RGa Y (pnCol ga go s5.heap.objs.size) fun ys H => ∃ bs, SortsAs X.K H ys bs ∧ ∀ l, H l = none → Q (.ref l) (upd H l (.lst ((sortD bs).map (·.1))))) (YGa Y fp (pnCol ga go s5.heap.objs.size) dCol) (m0 + 1) (.send .none) (({ s5 with heap := h' } : Shared).setGen gi .running) := go6
  rw [← eprog, ← ew] at go7 ⊢
  refine col_loop (Y := Y) (A := X.A.in1) (T := fun ys H => ∃ bs, SortsAs X.K H ys bs ∧ ∀ l, H l = none → Q (.ref l) (upd H l (.lst ((sortD bs).map (·.1))))) hr.hd hr.depth G.isgen O (fun ys us c' σ' H' s' rv hz I7 q => ?_) (m0 + 1) _ (kp _ _ hg5) I6.nolimit go7
  have hL7 := (I7.pin (s5.heap.objs.size, colO us c') (by simp)).1
  show wpAny _ X.A.in1 (load s5.heap.objs.size >>= _) _ _ s'
  refine wpAny_bind (wpAny_load hL7 (wpAny_pure ?_))
  obtain ⟨bs, ⟨eys, hd, hal, hso⟩, q⟩ := q
  rw [eys] at rv hz
  have I8 : Inv X pins σ H' s' := inv_down1 (G.back _ _ _ _ I7)
  have e := each_of_vals rv
  have er : PySem.W.EachIs (fun v (b : VD) => ∃ as, Reads s'.heap v b.2 as) us.toList bs := (PySem.W.each_mem e).mono fun v b ⟨r, hb⟩ => Dp.reads I8 b.2 b.1 v (hd b hb).1 r
  rw [List.length_map] at hz
  rw [eprog, ew]
  have hul : us.toList.length = bs.length := by rw [e.length]
  refine wpAny_bind (wpAny_newList ?_ (by rw [hul]; exact hz))
  have hL8 : (s'.heap.push (seqObj "list" us.toList.toArray 0)).get? s'.heap.objs.size = some (seqObj "list" us.toList.toArray 0) := Heap.get?_push_size _ rfl
  have er2 : PySem.W.EachIs (fun v (b : VD) => ∃ as, Reads (PySem.W.sortingHeap (s'.heap.push (seqObj "list" us.toList.toArray 0)) s'.heap.objs.size us.toList) v b.2 as) us.toList bs := er.mono fun v b ⟨as, r⟩ => ⟨as, PyProof.Rows.Reads.keeps (fun b o e => PySem.W.sortingHeap_old (Nat.ne_of_lt (Heap.lt_size e)) (Heap.get?_push_of_some _ e)) r⟩
  refine wpAny_bind (wpAny_holding (wpAny_call_entry slot_list_sort ⟨_, hL8, rfl⟩ entry_list_sort (PySem.W.list_sort_vals (n := 0) (s := { s' with heap := s'.heap.push (seqObj "list" us.toList.toArray 0) }) (κ := PySem.W.dataKind (PySem.W.sortingHeap (s'.heap.push (seqObj "list" us.toList.toArray 0)) s'.heap.objs.size us.toList) (bs.map (·.2))) hL8 (PySem.W.SortsAt.data (s := { s' with heap := PySem.W.sortingHeap (s'.heap.push (seqObj "list" us.toList.toArray 0)) s'.heap.objs.size us.toList }) (PySem.W.each_map (R := fun v d => ∃ as, Reads (PySem.W.sortingHeap (s'.heap.push (seqObj "list" us.toList.toArray 0)) s'.heap.objs.size us.toList) v d as) (fun b : VD => b.2) er2) hal hso (PySem.W.bound_map fun b hb => by have := (hd b hb).2; show X.A.units + 2 + _ < _; omega)) (by rw [hul]; exact hz) ⟨.none, rfl, ?_⟩) (args_list_sort _)))
  have eo := PySem.W.sortVals_data (enc := fun b : VD => b.2) false e er2 hal
  generalize PySem.W.sortVals (PySem.W.dataKind (PySem.W.sortingHeap (s'.heap.push (seqObj "list" us.toList.toArray 0)) s'.heap.objs.size us.toList) (bs.map (·.2))) false us.toList us.toList = out at eo ⊢
  obtain ⟨n, hn⟩ := sortedHeap_at (out := out.toArray) hL8
  refine wpAny_pure ⟨_, rfl, .ref s'.heap.objs.size, upd H' s'.heap.objs.size (.lst ((sortD bs).map (·.1))), I8.laid (t' := s'.toks) (fun b o e => ?_) (Nat.le_refl _) ⟨?_, out, n, vals_of_each eo, ?_⟩, rfl, q _ (I8.hok.fresh (Nat.le_refl _))⟩
  · rw [sortedHeap_old (Nat.ne_of_lt (Heap.lt_size e)) (by rw [size_push']; exact Nat.lt_succ_of_lt (Heap.lt_size e))]
    exact Heap.get?_push_of_some _ e
  · rw [List.length_map]
    show (List.mergeSort bs _).length ≤ _
    rw [List.length_mergeSort]
    exact hz
  · exact hn
end
end GY

set_option pp.maxSteps 400
namespace Bn
open PySem PySem.Spec PyProof.Rows L2 BR GX RM GY
theorem room_gen4 {k : Nat} {A : Around} (hr : Room (k + 4) A) (env : Env) : Room k (A.in1.in1.in1.deeper env) := (((hr.in1).in1).in1).deeper env
theorem sqT_lockG {K : PySem.W.Frag} {H : Hp} {a d : Addr} {xs : List V} {kvs : List (Key × V)} {o : Obj} (h : SqT K H a xs) (hd : H d = some (.dK kvs)) : SqT K (upd H d (.frz o (.dK kvs))) a xs := by
  rcases h with (h | ⟨u, h⟩) | h
  · exact .inl (.inl (by rw [upd_ne (ne_of h hd (by intro z; cases z))]; exact h))
  · exact .inl (.inr ⟨u, by rw [upd_ne (ne_of h hd (by intro z; cases z))]; exact h⟩)
  · exact .inr h
theorem In14.kv {L : Lx} (h : In14 L) {s : Sd} {e : En} (hs : s ∈ L.ss) (_he : e ∈ L.es) : ∃ kd ∈ L.ks, kd.n = s.k ∧ (mergeK [] (zipK kd.fs ((vl14 s e).map V.str)) = [(.inr "num", .str (numM e))] ∨ ∃ t : Str, mergeK [] (zipK kd.fs ((vl14 s e).map V.str)) = [(.inr "time", .str t), (.inr "num", .str (numM e))]) := by
  rcases h.stem hs with ⟨r, hr, rfl⟩ | ⟨r, hr, rfl⟩
  · refine ⟨⟨"noun", ["num"], false, false⟩, h.k.mem_iff.mpr (.head _), rfl, .inl ?_⟩
    have e1 : vl14 (nS r) e = [numM e] := by
      unfold vl14
      rw [if_neg (show ¬ (nS r).k = "verb" from (by decide +kernel : ¬ ("noun" : Str) = "verb"))]
      rfl
    rw [e1]
    rfl
  · refine ⟨⟨"verb", ["time", "num"], true, false⟩, h.k.mem_iff.mpr (.tail _ (.head _)), rfl, .inr ⟨(getM e.ms "time").getD "", ?_⟩⟩
    have e1 : vl14 (vS r) e = [(getM e.ms "time").getD "", numM e] := by
      unfold vl14
      rw [if_pos (show (vS r).k = "verb" from rfl)]
      rfl
    rw [e1]
    rfl
section
variable {P : Program} {w : World} {K : PySem.W.Frag} {mg : Str → Option Value} {base : Heap}
abbrev NWm : List Str := ["tongue", "stem", "ending", "kind", "atom", "marks", "name"]
theorem ok_wm {f c0 pT fM fV C : Addr} {fd fdM fdV : FuncData} {T : Tb} (F : FunC K "word_meaning" "word_meaning" s_word_meaning f fd c0) (TB : GxR.TabB base mg c0 pT) (hP : pT ∈ T.ps) (hF : T.F ∉ T.ps) (TC : TgC K C) (ms : mg "sorted" = none) (mt : mg "tuple" = none)
    (kM : PySem.W.keepIn K (.ref fM) = true) (bM : Binds K fdM ["tongue", "kind", "values"] []) (gM : mg "marks_of" = some (.ref fM)) (GM : FnOk P w K mg base CX0 1 fM fdM ["tongue", "kind", "values"] (spMo K C))
    (kV : PySem.W.keepIn K (.ref fV) = true) (bV : Binds K fdV ["tongue", "stem", "ending"] []) (gV : mg "values_of" = some (.ref fV)) (GV : FnOk P w K mg base CX0 8 fV fdV ["tongue", "stem", "ending"] (spVals K T C)) :
    FnOk P w K mg base CX0 11 f fd ["tongue", "stem", "ending"] (spWm K T C) := by
  refine F.ok sc_word_meaning (fun vs H Q E h => ?_) (fun A outer s H vs Q E hr h => ?_)
  · obtain ⟨p, c, i, j, L, N, kvs, sd, en, rfl, _⟩ := h
    rfl
  · obtain ⟨p, c, i, j, L, N, kvs, sd, en, rfl, hTg, hTf, hI, hi, hj, hl, hT, q⟩ := h
    have hu0 := hu_of hr
    have hu : ∀ env : Env, (_ : Around).units + 1 < cLine := fun env => hu_of (room_gen4 (k := 6) hr env)
    refine ⟨_, pss_cons (ps_par (i := 3) (j := 4) rfl sc_word_meaning.nd rfl rfl (by decide) rfl rfl (pa_cons (pe_ix ix_tup (pe_ix ix_list (pe_dget hu0 (pe_fld (pv 0) rfl) pe_str (fun _ _ => rfl)) (pv 1) (fun _ _ => rfl)) pe_int (fun _ _ => rfl)) (pa_cons (pe_ix ix_tup (pe_ix ix_list (pe_dget hu0 (pe_fld (pv 0) rfl) pe_str (fun _ _ => rfl)) (pv 1) (fun _ _ => rfl)) pe_int (fun _ _ => rfl)) pa_nil)) (by rfl))
      (pss_cons (ps_set (i := 5) sc_word_meaning.nd rfl (.inr rfl) (pe_call GM (hr.mono (by decide)) (by rfl) gM kM bM .nil pass0 (pa_cons (pv 0) (pa_cons (pv 3) (pa_cons (pe_call GV (hr.mono (by decide)) (by rfl) gV kV bV .nil pass0 (pa_cons (pv 0) (pa_cons (pv 1) (pa_cons (pv 2) pa_nil)))) pa_nil)))))
      (pss_one (ps_ret (pe_tup (pa_cons (pv 4) (pa_cons (pe_callTy call_tuple_of (by rfl) mt (by decide +kernel) (pa_cons (pe_lock (pe_sortedG (own := [("name", 6)]) (g := gName 6) (k := 5) hr hr.units (by rfl) ms TB rfl rfl sc_word_meaning.nd (pi_keys (pv 5))
          (blkOk_by (own := [("name", 6)]) (N := NWm) (sc := defScope s_word_meaning) (by decide +kernel)) rfl (by decide +kernel) rfl
          (fun _ _ _ _ _ _ => pg_name (i := 6) sc_word_meaning.nd rfl (Or.inl rfl)) (fun _ _ _ _ _ _ => pts_one (pt_val (pe_ix (ix_tupK (K := K) rfl) (pe_dget (hu _) (pe_fldK (K := K) rfl (pv 0) rfl) (pv 6) (fun _ _ => rfl)) pe_int (fun _ _ => rfl))))
          (fun _ _ _ _ _ _ => pe_tup (pa_cons (pv 6) (pa_cons (pe_dget (hu _) (pv 5) (pv 6) (fun _ _ => rfl)) pa_nil))))) pa_nil)) (pa_cons (pe_tup pa_nil) pa_nil))))))), ?_⟩
    obtain ⟨dx, o, fe, kn, pl, h1, h2, h3, h4, h5⟩ := id hTg
    obtain ⟨dx', o', fd', kd', pl', g1, g2, g3⟩ := id hTf
    rw [h1] at g1
    cases g1
    have hL := hI.ok
    have hsm := List.mem_of_getElem? hi
    have hem := List.mem_of_getElem? hj
    have hvm : valsM L sd en = some (vl14 sd en) := by rw [hI.vals hsm hem, if_pos hl]
    obtain ⟨a0, xf, xk, xm, xs, xe, xr, vf, vk, vm, wS, ve, ea, _, LA⟩ := lx_inv h2
    cases ea
    obtain ⟨v1, hv1, hd1⟩ := ix_row LA.ds hi
    obtain ⟨a1, m1, rfl, ht1, _⟩ := sd_inv hd1
    refine ⟨_, rfl, p, C, dx, _, _, rfl, h1, TC.cl, TC.nO, tgF_own .., o, _, rfl, get_of LA.d lxK_stems, _, rfl, xs, _, _, .ref a1, rfl, rfl, .inl (.inl LA.hs), atI_nat hv1, a1, _, _, .str sd.k, rfl, rfl, ht1, rfl, _, rfl, p, C, dx, _, _, rfl, h1, TC.cl, TC.nO, tgF_own .., o, _, rfl, get_of LA.d lxK_stems, _, rfl, xs, _, _, .ref a1, rfl, rfl, .inl (.inl LA.hs), atI_nat hv1, a1, _, _, .str sd.a, rfl, rfl, ht1, rfl, ?_⟩
    refine ⟨_, _, rfl, _, rfl, _, rfl, _, rfl, _, rfl, _, rfl, p, i, j, L, N, sd, en, rfl, hTg.at, hL, hi, hj, hT, fun v H1 s1 hv => ?_⟩
    rw [hvm] at hv
    obtain ⟨t, rfl, ht⟩ := hv
    obtain ⟨kd, hkd, ek, hkv⟩ := hI.kv hsm hem
    have ev : ([V.ref p, V.str sd.k, V.ref t] ++ [] : List V) = [V.ref p, V.str kd.n, V.ref t] := by rw [ek]; rfl
    refine ⟨p, c, t, kd, L, N, kvs, (vl14 sd en).map V.str, ev, hTg.sl s1, hL, hkd, ht, fun D nD => ?_⟩
    generalize mergeK [] (zipK kd.fs ((vl14 sd en).map V.str)) = kv at hkv ⊢
    have s2 : SL T H (upd H1 D (.dK kv)) := s1.trans (SL.of s1.t (same_new nD))
    have hD : (upd H1 D (.dK kv)) D = some (.dK kv) := upd_same
    generalize upd H1 D (.dK kv) = H2 at s2 hD ⊢
    refine ⟨_, rfl, D, _, hD, trivial, fun od => ⟨_, rfl, D, od, rfl, .inl ⟨kv, upd_same, (s2.t.lock hD).g _ hP, fun H3 hTb => ?_⟩⟩⟩
    have hmL : (upd H2 D (.frz od (.dK kv))) D = some (.frz od (.dK kv)) := upd_same
    have s0 : SL T (upd H2 D (.frz od (.dK kv))) H3 := SL.tab hF (s2.t.lock hD) hP hTb
    have unl : ∀ {HX : Hp}, SL T (upd H2 D (.frz od (.dK kv))) HX → SL T H2 (upd HX D (.dK kv)) := fun sX => SL.unlock hD sX
    have hins : ∀ {HX : Hp}, SL T (upd H2 D (.frz od (.dK kv))) HX → HX p = some (.ins C dx (tgF (.ref o) (.ref fe) (.ref kn) (.ref pl) (.ref c))) := fun {HX} sX => sX.k _ _ nt_ins (by rw [upd_ne (ne_of (s2.k _ _ nt_ins h1) hD (by intro z; cases z))]; exact s2.k _ _ nt_ins h1)
    have hfeA : ∀ {HX : Hp}, SL T (upd H2 D (.frz od (.dK kv))) HX → FtD K HX fe L.fs := fun {HX} sX => by
      have nfe : fe ≠ D := fun z => by
        obtain ⟨ks, e1, _⟩ := g2
        have := s1.k _ _ nt_dK e1
        rw [z, nD] at this
        cases this
      exact ((g2.sl s2).kp (H' := upd H2 D (.frz od (.dK kv))) (fun ks e => by rw [upd_ne nfe]; exact e) (fun a xs z => sqT_lockG z hD)).sl sX
    generalize upd H2 D (.frz od (.dK kv)) = HL at hmL s0 unl hins hfeA ⊢
    refine gx_it (walk_keys (d := D) (o := od) (kvs := kv)) (fun i ys HZ => SL T HL HZ ∧ (if i < kv.length then ys = [] else ∃ r, ys = [.ref r] ∧ SqT K HZ r [.str "num", .str (numM en)])) ⟨s0, ?_⟩ (fun i _ HZ _ z => z.1.k _ _ nt_frz hmL) (fun i x ys HZ HZ' hi' hP' hY => ?_) (fun ys HZ hP' => ?_)
    · rw [if_pos (by rcases hkv with e | ⟨_, e⟩ <;> rw [e] <;> exact Nat.succ_pos _)]
    · obtain ⟨rfl, kq, v0, hkv', rfl⟩ := hY
      obtain ⟨sZ, hys⟩ := hP'
      obtain ⟨kx, hx1, hx2⟩ := hfeA sZ
      obtain ⟨an, ln, vn, qn⟩ := hx2 ⟨"num", ["one", "many", "any"], true⟩ (hI.f.mem_iff.mpr (.head _))
      obtain ⟨am, lm, vm', qm⟩ := hx2 ⟨"time", ["past", "now", "on"], false⟩ (hI.f.mem_iff.mpr (.tail _ (.head _)))
      have hcase : (kq = .inr "num" ∧ i + 1 = kv.length ∧ valV kv (.inr "num") = some (.str (numM en))) ∨ (kq = .inr "time" ∧ i + 1 < kv.length) := by
        rcases hkv with e | ⟨tm, e⟩
        · subst e
          have i0 : i = 0 := by have : i < 1 := hi'; omega
          subst i0
          cases hkv'
          exact .inl ⟨rfl, rfl, rfl⟩
        · subst e
          have i2 : i < 2 := hi'
          rcases (show i = 0 ∨ i = 1 by omega) with rfl | rfl
          · cases hkv'
            exact .inr ⟨rfl, Nat.lt_succ_self _⟩
          · cases hkv'
            exact .inl ⟨rfl, rfl, rfl⟩
      rw [if_pos hi'] at hys
      subst hys
      rcases hcase with ⟨rfl, hlast, hval⟩ | ⟨rfl, hmore⟩
      · refine ⟨rfl, ⟨_, rfl, p, C, dx, _, _, rfl, hins sZ, TC.cl, TC.nF, rfl, _, rfl, fe, .ref an, rfl, get_of hx1 vn, an, _, _, .bl true, rfl, rfl, qn, rfl, true, rfl, iteT ?_⟩⟩
        refine ⟨_, rfl, _, rfl, _, rfl, D, .str (numM en), rfl, .inl ⟨kv, .inr "num", .inr ⟨od, sZ.k _ _ nt_frz hmL⟩, rfl, hval.symm⟩, ⟨(show 2 ≤ sizeLine by decide), fun z nz => ?_⟩⟩
        refine ⟨small_line (Nat.succ_pos _), sZ.same (same_new nz), ?_⟩
        rw [if_neg (by omega)]
        exact ⟨z, rfl, .inl (.inl upd_same)⟩
      · refine ⟨rfl, ⟨_, rfl, p, C, dx, _, _, rfl, hins sZ, TC.cl, TC.nF, rfl, _, rfl, fe, .ref am, rfl, get_of hx1 vm', am, _, _, .bl false, rfl, rfl, qm, rfl, false, rfl, iteF ⟨sZ, ?_⟩⟩⟩
        rw [if_pos hmore]
    · obtain ⟨sZ, hys⟩ := hP'
      rw [if_neg (Nat.lt_irrefl _)] at hys
      obtain ⟨r, rfl, hr'⟩ := hys
      have hsort : (sortD [(V.ref r, PyData.tuple [.str "num", .str (numM en)])]).map (·.1) = [V.ref r] := by
        unfold sortD
        rw [List.mergeSort_singleton]
        rfl
      refine ⟨[(.ref r, .tuple [.str "num", .str (numM en)])], ⟨rfl, fun b hb => ?_, fun d hd d' hd' => ?_, .inl fun d hd => ?_⟩, fun l nl => ?_⟩
      · rw [List.mem_singleton.mp hb]
        exact ⟨.tup hr' (.cons (.str _) (.cons (.str _) .nil)), by simp [PyData.depth, PyData.depthAll]⟩
      · rw [List.mem_singleton.mp hd, List.mem_singleton.mp hd']
        simp [PySem.W.alike, PySem.W.alikeAll]
      · rw [List.mem_singleton.mp hd]
        exact ⟨_, _, rfl⟩
      rw [hsort]
      have sL := same_new (o := .lst [.ref r]) nl
      have hlL : (upd HZ l (.lst [.ref r])) l = some (.lst [.ref r]) := upd_same
      have sLL := sZ.same sL
      have hDL := sLL.k _ _ nt_frz hmL
      refine ⟨hDL, ?_⟩
      have s4 := s2.trans (unl sLL)
      have hl4 : (upd (upd HZ l (.lst [.ref r])) D (.dK kv)) l = some (.lst [.ref r]) := by rw [upd_ne (ne_of hlL hDL (by intro z; cases z))]; exact hlL
      have hr4 : SqT K (upd (upd HZ l (.lst [.ref r])) D (.dK kv)) r [.str "num", .str (numM en)] := by
        rcases sqT_of_same sL hr' with (h | ⟨u, h⟩) | h
        · exact .inl (.inl (by rw [upd_ne (ne_of h hDL (by intro z; cases z))]; exact h))
        · by_cases e : r = D
          · have e2 : (upd HZ l (.lst [.ref r])) r = (upd HZ l (.lst [.ref r])) D := congrArg _ e
            rw [e2, hDL] at h
            cases h
          · exact .inl (.inr ⟨u, by rw [upd_ne e]; exact h⟩)
        · exact .inr h
      generalize upd (upd HZ l (.lst [.ref r])) D (.dK kv) = H4 at s4 hl4 hr4 ⊢
      refine ⟨l, _, rfl, .inl ⟨.inl (.inl hl4), fun t2 nt2 => ?_⟩⟩
      have s5 := s4.same (same_new (o := .tup [.ref r]) nt2)
      have ht2 : (upd H4 t2 (.tup [.ref r])) t2 = some (.tup [.ref r]) := upd_same
      have hr5 := sqT_of_same (same_new (o := .tup [.ref r]) nt2) hr4
      generalize upd H4 t2 (.tup [.ref r]) = H5 at s5 ht2 hr5 ⊢
      refine ⟨Nat.zero_le _, fun z nz => ?_⟩
      have s6 := s5.same (same_new (o := .tup []) nz)
      have hz6 : (upd H5 z (.tup [])) z = some (.tup []) := upd_same
      have ht6 := (same_new (o := .tup []) nz) _ _ ht2
      have hr6 := sqT_of_same (same_new (o := .tup []) nz) hr5
      generalize upd H5 z (.tup []) = H6 at s6 hz6 ht6 hr6 ⊢
      refine ⟨(show 3 ≤ sizeLine by decide), fun y ny => q _ _ (s6.same (same_new ny)) ⟨?_, y, _, rfl, upd_same⟩⟩
      have s7 := same_new (o := .tup [.str sd.a, .ref t2, .ref z]) ny
      exact .tup (.inl (.inl upd_same)) (show 3 ≤ 1000 by decide) (.cons (.str _) (.cons (.tup (.inl (.inl (s7 _ _ ht6))) (show 1 ≤ 1000 by decide) (.cons (.tup (sqT_of_same s7 hr6) (show 2 ≤ 1000 by decide) (.cons (.str _) (.cons (.str _) .nil))) .nil)) (.cons (.tup (.inl (.inl (s7 _ _ hz6))) (Nat.zero_le _) .nil) .nil)))
end
end Bn

namespace Bn
open PySem PySem.Spec PyProof.Rows L2 BR GX RM GY
/-! ### tables: where they stand in the written part -/
def tabPtr (K : PySem.W.Frag) (cd : Value) : Option Addr := match cd with
  | .ref c => (match K.lookup c with
      | some ⟨_, _, .fields vs, _⟩ => (match vs.toList.drop 11 with | .ref P :: _ => some P | _ => none)
      | _ => none)
  | _ => none
theorem tabOfP {q : Program} {K : PySem.W.Frag} {mg : Str → Option Value} {h : Heap} {x : Str} {f : Addr} {params : Arguments} {body : List Stmt} {scope : Scope} {dV kV doc pm cd ct oc : Value} {an od : Option Addr} {osl : Array (Option Value)} {qual name : Str}
    (X : K.In h) (T : TabsTop q mg h) (hx : ((recsOf q).any fun e => e.name == x) = true) (hm : mg x = some (.ref f)) (lk : K.lookup f = some ⟨oc, od, .func (PySem.W.fnOf name qual params body scope dV kV doc pm an cd ct), osl⟩) (ht : tabFree K cd = true) :
    ∃ c P, TabOf K cd h c P ∧ tabPtr K cd = some P := by
  obtain ⟨dL, hmem, hn1⟩ := List.any_eq_true.mp hx
  have hn2 : dL.name = x := beq_iff_eq.mp hn1
  obtain ⟨a', o', fd', c', P', h1, h2, h3, h4, h5, h6⟩ := T dL hmem
  rw [hn2, hm] at h1
  cases h1
  have g1 := X _ _ lk
  rw [g1] at h2
  cases h2
  have h3' : Data.func (PySem.W.fnOf name qual params body scope dV kV doc pm an cd ct) = .func fd' := h3
  cases h3'
  have h4' : cd = .ref c' := h4
  subst h4'
  have key : K.lookup P' = none ∧ tabPtr K (.ref c') = some P' := by
    obtain ⟨⟨oc', vc, e1, _, e3, e4⟩, _⟩ := id h6
    unfold tabFree at ht
    dsimp only at ht
    split at ht
    · rename_i vs sl hk
      have g2 := X _ _ hk
      rw [g2] at e1
      cases e1
      have e3' : Data.fields vs = .fields vc := e3
      cases e3'
      split at ht
      · rename_i P2 r hd
        have e5 : vc.toList[11]? = some (.ref P2) := by
          have : (vc.toList.drop 11)[0]? = some (.ref P2) := by rw [hd]; rfl
          rw [List.getElem?_drop] at this
          exact this
        rw [Array.getElem?_toList, e4] at e5
        cases e5
        refine ⟨Option.isNone_iff_eq_none.mp ht, ?_⟩
        unfold tabPtr
        dsimp only
        rw [hk]
        dsimp only
        rw [hd]
      · cases ht
    · cases ht
  exact ⟨c', P', ⟨rfl, h6.2, key.1, .of h5 h6⟩, key.2⟩

theorem all_mk {q : Program} {l : PySem.W.OpenLaw} {w : World} {K : PySem.W.Frag} {h : Heap} {mg : Str → Option Value} {fa CC f1 f2 f3 f4 f5 f6 f7 f8 f9 f10 f11 f12 f13 f14 f15 f16 f17 f18 f19 f20 f21 f22 f23 f24 f25 f26 f27 f28 f29 f30 f31 f32 f33 f34 f35 f36 f37 f38 f39 f40 f41 f42 f43 f44 f45 f46 f47 f48 f49 f50 f51 f52 : Addr} (X : K.In h) (G : h.Ns mainGlobals mg) (hfa : mg "law" = some (.ref fa)) (T : TabsTop q mg h)
    {od1 an1 od2 an2 od3 an3 od4 an4 od5 an5 od6 an6 od7 an7 od8 an8 od9 an9 od10 an10 od11 an11 od12 an12 od13 an13 od14 an14 od15 an15 od16 an16 od17 an17 od18 an18 od19 an19 od20 an20 od21 an21 od22 an22 od23 an23 od24 an24 od25 an25 od26 an26 od27 an27 od28 an28 od29 an29 od30 an30 od31 an31 od32 an32 od33 an33 od34 an34 od35 an35 od36 an36 od37 an37 od38 an38 od39 an39 od40 an40 od41 an41 od42 an42 od43 an43 od44 an44 od45 an45 od46 an46 od47 an47 od48 an48 od49 an49 od50 an50 od51 an51 od52 an52 : Option Addr} {sl1 sl2 sl3 sl4 sl5 sl6 sl7 sl8 sl9 sl10 sl11 sl12 sl13 sl14 sl15 sl16 sl17 sl18 sl19 sl20 sl21 sl22 sl23 sl24 sl25 sl26 sl27 sl28 sl29 sl30 sl31 sl32 sl33 sl34 sl35 sl36 sl37 sl38 sl39 sl40 sl41 sl42 sl43 sl44 sl45 sl46 sl47 sl48 sl49 sl50 sl51 sl52 : Array (Option Value)} {oc1 kV1 dc1 pm1 cd1 ct1 oc2 kV2 dc2 pm2 cd2 ct2 oc3 kV3 dc3 pm3 cd3 ct3 oc4 kV4 dc4 pm4 cd4 ct4 oc5 kV5 dc5 pm5 cd5 ct5 oc6 kV6 dc6 pm6 cd6 ct6 oc7 kV7 dc7 pm7 cd7 ct7 oc8 kV8 dc8 pm8 cd8 ct8 oc9 kV9 dc9 pm9 cd9 ct9 oc10 kV10 dc10 pm10 cd10 ct10 oc11 kV11 dc11 pm11 cd11 ct11 oc12 kV12 dc12 pm12 cd12 ct12 oc13 kV13 dc13 pm13 cd13 ct13 oc14 kV14 dc14 pm14 cd14 ct14 oc15 kV15 dc15 pm15 cd15 ct15 oc16 kV16 dc16 pm16 cd16 ct16 oc17 kV17 dc17 pm17 cd17 ct17 oc18 kV18 dc18 pm18 cd18 ct18 oc19 kV19 dc19 pm19 cd19 ct19 oc20 kV20 dc20 pm20 cd20 ct20 oc21 kV21 dc21 pm21 cd21 ct21 oc22 kV22 dc22 pm22 cd22 ct22 oc23 kV23 dc23 pm23 cd23 ct23 oc24 kV24 dc24 pm24 cd24 ct24 oc25 kV25 dc25 pm25 cd25 ct25 oc26 kV26 dc26 pm26 cd26 ct26 oc27 kV27 dc27 pm27 cd27 ct27 oc28 kV28 dc28 pm28 cd28 ct28 oc29 kV29 dc29 pm29 cd29 ct29 oc30 kV30 dc30 pm30 cd30 ct30 oc31 kV31 dc31 pm31 cd31 ct31 oc32 kV32 dc32 pm32 cd32 ct32 oc33 kV33 dc33 pm33 cd33 ct33 oc34 kV34 dc34 pm34 cd34 ct34 oc35 kV35 dc35 pm35 cd35 ct35 oc36 kV36 dc36 pm36 cd36 ct36 oc37 kV37 dc37 pm37 cd37 ct37 oc38 kV38 dc38 pm38 cd38 ct38 oc39 kV39 dc39 pm39 cd39 ct39 oc40 kV40 dc40 pm40 cd40 ct40 oc41 kV41 dc41 pm41 cd41 ct41 oc42 kV42 dc42 pm42 cd42 ct42 oc43 kV43 dc43 pm43 cd43 ct43 oc44 kV44 dc44 pm44 cd44 ct44 oc45 kV45 dc45 pm45 cd45 ct45 oc46 kV46 dc46 pm46 cd46 ct46 oc47 kV47 dc47 pm47 cd47 ct47 oc48 kV48 dc48 pm48 cd48 ct48 oc49 kV49 dc49 pm49 cd49 ct49 oc50 kV50 dc50 pm50 cd50 ct50 oc51 kV51 dc51 pm51 cd51 ct51 oc52 kV52 dc52 pm52 cd52 ct52 : Value} {tk1 tk2 tk3 tk4 : Tok}
    (a1 : PySem.W.nsIn K mainGlobals "sewn" = some (some (.ref f1))) (l1 : K.lookup f1 = some ⟨oc1, od1, .func (PySem.W.fnOf "sewn" "sewn" (defArgs s_sewn) (defBody s_sewn) (defScope s_sewn) .none kV1 dc1 pm1 an1 cd1 ct1), sl1⟩) (c1 : PySem.W.codeIn K cd1 "sewn" = true) (k1 : PySem.W.keepIn K (.ref f1) = true)
    (a2 : PySem.W.nsIn K mainGlobals "values_of" = some (some (.ref f2))) (l2 : K.lookup f2 = some ⟨oc2, od2, .func (PySem.W.fnOf "values_of" "values_of" (defArgs s_values_of) (defBody s_values_of) (defScope s_values_of) .none kV2 dc2 pm2 an2 cd2 ct2), sl2⟩) (c2 : PySem.W.codeIn K cd2 "values_of" = true) (k2 : PySem.W.keepIn K (.ref f2) = true)
    (a3 : PySem.W.nsIn K mainGlobals "text_of" = some (some (.ref f3))) (l3 : K.lookup f3 = some ⟨oc3, od3, .func (PySem.W.fnOf "text_of" "text_of" (defArgs s_text_of) (defBody s_text_of) (defScope s_text_of) .none kV3 dc3 pm3 an3 cd3 ct3), sl3⟩) (c3 : PySem.W.codeIn K cd3 "text_of" = true) (k3 : PySem.W.keepIn K (.ref f3) = true)
    (a4 : PySem.W.nsIn K mainGlobals "forms" = some (some (.ref f4))) (l4 : K.lookup f4 = some ⟨oc4, od4, .func (PySem.W.fnOf "forms" "forms" (defArgs s_forms) (defBody s_forms) (defScope s_forms) .none kV4 dc4 pm4 an4 cd4 ct4), sl4⟩) (c4 : PySem.W.codeIn K cd4 "forms" = true) (k4 : PySem.W.keepIn K (.ref f4) = true)
    (a5 : PySem.W.nsIn K mainGlobals "analyses" = some (some (.ref f5))) (l5 : K.lookup f5 = some ⟨oc5, od5, .func (PySem.W.fnOf "analyses" "analyses" (defArgs s_analyses) (defBody s_analyses) (defScope s_analyses) .none kV5 dc5 pm5 an5 cd5 ct5), sl5⟩) (c5 : PySem.W.codeIn K cd5 "analyses" = true) (k5 : PySem.W.keepIn K (.ref f5) = true)
    (a6 : PySem.W.nsIn K mainGlobals "kept_forms" = some (some (.ref f6))) (l6 : K.lookup f6 = some ⟨oc6, od6, .func (PySem.W.fnOf "kept_forms" "kept_forms" (defArgs s_kept_forms) (defBody s_kept_forms) (defScope s_kept_forms) .none kV6 dc6 pm6 an6 cd6 ct6), sl6⟩) (c6 : PySem.W.codeIn K cd6 "kept_forms" = true) (k6 : PySem.W.keepIn K (.ref f6) = true)
    (a7 : PySem.W.nsIn K mainGlobals "trees_by_text" = some (some (.ref f7))) (l7 : K.lookup f7 = some ⟨oc7, od7, .func (PySem.W.fnOf "trees_by_text" "trees_by_text" (defArgs s_trees_by_text) (defBody s_trees_by_text) (defScope s_trees_by_text) .none kV7 dc7 pm7 an7 cd7 ct7), sl7⟩) (c7 : PySem.W.codeIn K cd7 "trees_by_text" = true) (k7 : PySem.W.keepIn K (.ref f7) = true)
    (a8 : PySem.W.nsIn K mainGlobals "is_text" = some (some (.ref f8))) (l8 : K.lookup f8 = some ⟨oc8, od8, .func (PySem.W.fnOf "is_text" "is_text" (defArgs s_is_text) (defBody s_is_text) (defScope s_is_text) .none kV8 dc8 pm8 an8 cd8 ct8), sl8⟩) (c8 : PySem.W.codeIn K cd8 "is_text" = true) (k8 : PySem.W.keepIn K (.ref f8) = true)
    (a9 : PySem.W.nsIn K mainGlobals "is_name" = some (some (.ref f9))) (l9 : K.lookup f9 = some ⟨oc9, od9, .func (PySem.W.fnOf "is_name" "is_name" (defArgs s_is_name) (defBody s_is_name) (defScope s_is_name) .none kV9 dc9 pm9 an9 cd9 ct9), sl9⟩) (c9 : PySem.W.codeIn K cd9 "is_name" = true) (k9 : PySem.W.keepIn K (.ref f9) = true)
    (a10 : PySem.W.nsIn K mainGlobals "is_rank" = some (some (.ref f10))) (l10 : K.lookup f10 = some ⟨oc10, od10, .func (PySem.W.fnOf "is_rank" "is_rank" (defArgs s_is_rank) (defBody s_is_rank) (defScope s_is_rank) .none kV10 dc10 pm10 an10 cd10 ct10), sl10⟩) (c10 : PySem.W.codeIn K cd10 "is_rank" = true) (k10 : PySem.W.keepIn K (.ref f10) = true)
    (a11 : PySem.W.nsIn K mainGlobals "are_unlike" = some (some (.ref f11))) (l11 : K.lookup f11 = some ⟨oc11, od11, .func (PySem.W.fnOf "are_unlike" "are_unlike" (defArgs s_are_unlike) (defBody s_are_unlike) (defScope s_are_unlike) .none kV11 dc11 pm11 an11 cd11 ct11), sl11⟩) (c11 : PySem.W.codeIn K cd11 "are_unlike" = true) (k11 : PySem.W.keepIn K (.ref f11) = true)
    (a12 : PySem.W.nsIn K mainGlobals "is_feature" = some (some (.ref f12))) (l12 : K.lookup f12 = some ⟨oc12, od12, .func (PySem.W.fnOf "is_feature" "is_feature" (defArgs s_is_feature) (defBody s_is_feature) (defScope s_is_feature) .none kV12 dc12 pm12 an12 cd12 ct12), sl12⟩) (c12 : PySem.W.codeIn K cd12 "is_feature" = true) (k12 : PySem.W.keepIn K (.ref f12) = true)
    (a13 : PySem.W.nsIn K mainGlobals "is_kind" = some (some (.ref f13))) (l13 : K.lookup f13 = some ⟨oc13, od13, .func (PySem.W.fnOf "is_kind" "is_kind" (defArgs s_is_kind) (defBody s_is_kind) (defScope s_is_kind) .none kV13 dc13 pm13 an13 cd13 ct13), sl13⟩) (c13 : PySem.W.codeIn K cd13 "is_kind" = true) (k13 : PySem.W.keepIn K (.ref f13) = true)
    (a14 : PySem.W.nsIn K mainGlobals "is_seam" = some (some (.ref f14))) (l14 : K.lookup f14 = some ⟨oc14, od14, .func (PySem.W.fnOf "is_seam" "is_seam" (defArgs s_is_seam) (defBody s_is_seam) (defScope s_is_seam) .none kV14 dc14 pm14 an14 cd14 ct14), sl14⟩) (c14 : PySem.W.codeIn K cd14 "is_seam" = true) (k14 : PySem.W.keepIn K (.ref f14) = true)
    (a15 : PySem.W.nsIn K mainGlobals "are_marks" = some (some (.ref f15))) (l15 : K.lookup f15 = some ⟨oc15, od15, .func (PySem.W.fnOf "are_marks" "are_marks" (defArgs s_are_marks) (defBody s_are_marks) (defScope s_are_marks) .none kV15 dc15 pm15 an15 cd15 ct15), sl15⟩) (c15 : PySem.W.codeIn K cd15 "are_marks" = true) (k15 : PySem.W.keepIn K (.ref f15) = true)
    (a16 : PySem.W.nsIn K mainGlobals "is_stem" = some (some (.ref f16))) (l16 : K.lookup f16 = some ⟨oc16, od16, .func (PySem.W.fnOf "is_stem" "is_stem" (defArgs s_is_stem) (defBody s_is_stem) (defScope s_is_stem) .none kV16 dc16 pm16 an16 cd16 ct16), sl16⟩) (c16 : PySem.W.codeIn K cd16 "is_stem" = true) (k16 : PySem.W.keepIn K (.ref f16) = true)
    (a17 : PySem.W.nsIn K mainGlobals "is_ending" = some (some (.ref f17))) (l17 : K.lookup f17 = some ⟨oc17, od17, .func (PySem.W.fnOf "is_ending" "is_ending" (defArgs s_is_ending) (defBody s_is_ending) (defScope s_is_ending) .none kV17 dc17 pm17 an17 cd17 ct17), sl17⟩) (c17 : PySem.W.codeIn K cd17 "is_ending" = true) (k17 : PySem.W.keepIn K (.ref f17) = true)
    (a18 : PySem.W.nsIn K mainGlobals "copied" = some (some (.ref f18))) (l18 : K.lookup f18 = some ⟨oc18, od18, .func (PySem.W.fnOf "copied" "copied" (defArgs s_copied) (defBody s_copied) (defScope s_copied) .none kV18 dc18 pm18 an18 cd18 ct18), sl18⟩) (c18 : PySem.W.codeIn K cd18 "copied" = true) (k18 : PySem.W.keepIn K (.ref f18) = true)
    (a19 : PySem.W.nsIn K mainGlobals "fault_in" = some (some (.ref f19))) (l19 : K.lookup f19 = some ⟨oc19, od19, .func (PySem.W.fnOf "fault_in" "fault_in" (defArgs s_fault_in) (defBody s_fault_in) (defScope s_fault_in) .none kV19 dc19 pm19 an19 cd19 ct19), sl19⟩) (c19 : PySem.W.codeIn K cd19 "fault_in" = true) (k19 : PySem.W.keepIn K (.ref f19) = true)
    (a20 : PySem.W.nsIn K mainGlobals "first_unsound" = some (some (.ref f20))) (l20 : K.lookup f20 = some ⟨oc20, od20, .func (PySem.W.fnOf "first_unsound" "first_unsound" (defArgs s_first_unsound) (defBody s_first_unsound) (defScope s_first_unsound) .none kV20 dc20 pm20 an20 cd20 ct20), sl20⟩) (c20 : PySem.W.codeIn K cd20 "first_unsound" = true) (k20 : PySem.W.keepIn K (.ref f20) = true)
    (a21 : PySem.W.nsIn K mainGlobals "first_in_ring" = some (some (.ref f21))) (l21 : K.lookup f21 = some ⟨oc21, od21, .func (PySem.W.fnOf "first_in_ring" "first_in_ring" (defArgs s_first_in_ring) (defBody s_first_in_ring) (defScope s_first_in_ring) .none kV21 dc21 pm21 an21 cd21 ct21), sl21⟩) (c21 : PySem.W.codeIn K cd21 "first_in_ring" = true) (k21 : PySem.W.keepIn K (.ref f21) = true)
    (a22 : PySem.W.nsIn K mainGlobals "symbol_of" = some (some (.ref f22))) (l22 : K.lookup f22 = some ⟨oc22, od22, .func (PySem.W.fnOf "symbol_of" "symbol_of" (defArgs s_symbol_of) (defBody s_symbol_of) (defScope s_symbol_of) .none kV22 dc22 pm22 an22 cd22 ct22), sl22⟩) (c22 : PySem.W.codeIn K cd22 "symbol_of" = true) (k22 : PySem.W.keepIn K (.ref f22) = true)
    (a23 : PySem.W.nsIn K mainGlobals "words_of" = some (some (.ref f23))) (l23 : K.lookup f23 = some ⟨oc23, od23, .func (PySem.W.fnOf "words_of" "words_of" (defArgs s_words_of) (defBody s_words_of) (defScope s_words_of) .none kV23 dc23 pm23 an23 cd23 ct23), sl23⟩) (c23 : PySem.W.codeIn K cd23 "words_of" = true) (k23 : PySem.W.keepIn K (.ref f23) = true)
    (a24 : PySem.W.nsIn K mainGlobals "meaning_of" = some (some (.ref f24))) (l24 : K.lookup f24 = some ⟨oc24, od24, .func (PySem.W.fnOf "meaning_of" "meaning_of" (defArgs s_meaning_of) (defBody s_meaning_of) (defScope s_meaning_of) .none kV24 dc24 pm24 an24 cd24 ct24), sl24⟩) (c24 : PySem.W.codeIn K cd24 "meaning_of" = true) (k24 : PySem.W.keepIn K (.ref f24) = true)
    (a25 : PySem.W.nsIn K mainGlobals "cost_of" = some (some (.ref f25))) (l25 : K.lookup f25 = some ⟨oc25, od25, .func (PySem.W.fnOf "cost_of" "cost_of" (defArgs s_cost_of) (defBody s_cost_of) (defScope s_cost_of) .none kV25 dc25 pm25 an25 cd25 ct25), sl25⟩) (c25 : PySem.W.codeIn K cd25 "cost_of" = true) (k25 : PySem.W.keepIn K (.ref f25) = true)
    (a26 : PySem.W.nsIn K mainGlobals "is_sentence" = some (some (.ref f26))) (l26 : K.lookup f26 = some ⟨oc26, od26, .func (PySem.W.fnOf "is_sentence" "is_sentence" (defArgs s_is_sentence) (defBody s_is_sentence) (defScope s_is_sentence) .none kV26 dc26 pm26 an26 cd26 ct26), sl26⟩) (c26 : PySem.W.codeIn K cd26 "is_sentence" = true) (k26 : PySem.W.keepIn K (.ref f26) = true)
    (a27 : PySem.W.nsIn K mainGlobals "is_whole_sentence" = some (some (.ref f27))) (l27 : K.lookup f27 = some ⟨oc27, od27, .func (PySem.W.fnOf "is_whole_sentence" "is_whole_sentence" (defArgs s_is_whole_sentence) (defBody s_is_whole_sentence) (defScope s_is_whole_sentence) .none kV27 dc27 pm27 an27 cd27 ct27), sl27⟩) (c27 : PySem.W.codeIn K cd27 "is_whole_sentence" = true) (k27 : PySem.W.keepIn K (.ref f27) = true)
    (a28 : PySem.W.nsIn K mainGlobals "all_within_trees" = some (some (.ref f28))) (l28 : K.lookup f28 = some ⟨oc28, od28, .func (PySem.W.fnOf "all_within" "all_within" (defArgs s_all_within) (defBody s_all_within) (defScope s_all_within) .none kV28 dc28 pm28 an28 cd28 ct28), sl28⟩) (c28 : PySem.W.codeIn K cd28 "all_within" = true) (k28 : PySem.W.keepIn K (.ref f28) = true)
    (a29 : PySem.W.nsIn K mainGlobals "told_of" = some (some (.ref f29))) (l29 : K.lookup f29 = some ⟨oc29, od29, .func (PySem.W.fnOf "told_of" "told_of" (defArgs s_told_of) (defBody s_told_of) (defScope s_told_of) .none kV29 dc29 pm29 an29 cd29 ct29), sl29⟩) (c29 : PySem.W.codeIn K cd29 "told_of" = true) (k29 : PySem.W.keepIn K (.ref f29) = true)
    (a30 : PySem.W.nsIn K mainGlobals "symbol_or_path" = some (some (.ref f30))) (l30 : K.lookup f30 = some ⟨oc30, od30, .func (PySem.W.fnOf "symbol_or_path" "symbol_or_path" (defArgs s_symbol_or_path) (defBody s_symbol_or_path) (defScope s_symbol_or_path) .none kV30 dc30 pm30 an30 cd30 ct30), sl30⟩) (c30 : PySem.W.codeIn K cd30 "symbol_or_path" = true) (k30 : PySem.W.keepIn K (.ref f30) = true)
    (a31 : PySem.W.nsIn K mainGlobals "own_symbol" = some (some (.ref f31))) (l31 : K.lookup f31 = some ⟨oc31, od31, .func (PySem.W.fnOf "own_symbol" "own_symbol" (defArgs s_own_symbol) (defBody s_own_symbol) (defScope s_own_symbol) .none kV31 dc31 pm31 an31 cd31 ct31), sl31⟩) (c31 : PySem.W.codeIn K cd31 "own_symbol" = true) (k31 : PySem.W.keepIn K (.ref f31) = true)
    (a32 : PySem.W.nsIn K mainGlobals "marks_of" = some (some (.ref f32))) (l32 : K.lookup f32 = some ⟨oc32, od32, .func (PySem.W.fnOf "marks_of" "marks_of" (defArgs s_marks_of) (defBody s_marks_of) (defScope s_marks_of) .none kV32 dc32 pm32 an32 cd32 ct32), sl32⟩) (c32 : PySem.W.codeIn K cd32 "marks_of" = true) (k32 : PySem.W.keepIn K (.ref f32) = true)
    (a33 : PySem.W.nsIn K mainGlobals "own_words" = some (some (.ref f33))) (l33 : K.lookup f33 = some ⟨oc33, od33, .func (PySem.W.fnOf "own_words" "own_words" (defArgs s_own_words) (defBody s_own_words) (defScope s_own_words) .none kV33 dc33 pm33 an33 cd33 ct33), sl33⟩) (c33 : PySem.W.codeIn K cd33 "own_words" = true) (k33 : PySem.W.keepIn K (.ref f33) = true)
    (a34 : PySem.W.nsIn K mainGlobals "own_meaning" = some (some (.ref f34))) (l34 : K.lookup f34 = some ⟨oc34, od34, .func (PySem.W.fnOf "own_meaning" "own_meaning" (defArgs s_own_meaning) (defBody s_own_meaning) (defScope s_own_meaning) .none kV34 dc34 pm34 an34 cd34 ct34), sl34⟩) (c34 : PySem.W.codeIn K cd34 "own_meaning" = true) (k34 : PySem.W.keepIn K (.ref f34) = true)
    (a35 : PySem.W.nsIn K mainGlobals "word_meaning" = some (some (.ref f35))) (l35 : K.lookup f35 = some ⟨oc35, od35, .func (PySem.W.fnOf "word_meaning" "word_meaning" (defArgs s_word_meaning) (defBody s_word_meaning) (defScope s_word_meaning) .none kV35 dc35 pm35 an35 cd35 ct35), sl35⟩) (c35 : PySem.W.codeIn K cd35 "word_meaning" = true) (k35 : PySem.W.keepIn K (.ref f35) = true)
    (a36 : PySem.W.nsIn K mainGlobals "own_cost" = some (some (.ref f36))) (l36 : K.lookup f36 = some ⟨oc36, od36, .func (PySem.W.fnOf "own_cost" "own_cost" (defArgs s_own_cost) (defBody s_own_cost) (defScope s_own_cost) .none kV36 dc36 pm36 an36 cd36 ct36), sl36⟩) (c36 : PySem.W.codeIn K cd36 "own_cost" = true) (k36 : PySem.W.keepIn K (.ref f36) = true)
    (a37 : PySem.W.nsIn K mainGlobals "_law_cell_at" = some (some (.ref f37))) (l37 : K.lookup f37 = some ⟨oc37, od37, .func (PySem.W.fnOf "_law_cell_at" "_law_cell_at" (defArgs s_l_cell_at) (defBody s_l_cell_at) (defScope s_l_cell_at) .none kV37 dc37 pm37 an37 cd37 ct37), sl37⟩) (c37 : PySem.W.codeIn K cd37 "_law_cell_at" = true) (k37 : PySem.W.keepIn K (.ref f37) = true)
    (a38 : PySem.W.nsIn K mainGlobals "_law_mixed" = some (some (.ref f38))) (l38 : K.lookup f38 = some ⟨oc38, od38, .func (PySem.W.fnOf "_law_mixed" "_law_mixed" (defArgs s_l_mixed) (defBody s_l_mixed) (defScope s_l_mixed) .none kV38 dc38 pm38 an38 cd38 ct38), sl38⟩) (c38 : PySem.W.codeIn K cd38 "_law_mixed" = true) (k38 : PySem.W.keepIn K (.ref f38) = true)
    (a39 : PySem.W.nsIn K mainGlobals "_law_box" = some (some (.ref f39))) (l39 : K.lookup f39 = some ⟨oc39, od39, .func (PySem.W.fnOf "_law_box" "_law_box" (defArgs s_l_box) (defBody s_l_box) (defScope s_l_box) .none kV39 dc39 pm39 an39 cd39 ct39), sl39⟩) (c39 : PySem.W.codeIn K cd39 "_law_box" = true) (k39 : PySem.W.keepIn K (.ref f39) = true)
    (a40 : PySem.W.nsIn K mainGlobals "_law_take" = some (some (.ref f40))) (l40 : K.lookup f40 = some ⟨oc40, od40, .func (PySem.W.fnOf "_law_take" "_law_take" (defArgs s_l_take) (defBody s_l_take) (defScope s_l_take) .none kV40 dc40 pm40 an40 cd40 ct40), sl40⟩) (c40 : PySem.W.codeIn K cd40 "_law_take" = true) (k40 : PySem.W.keepIn K (.ref f40) = true)
    (a41 : PySem.W.nsIn K mainGlobals "_law_turned" = some (some (.ref f41))) (l41 : K.lookup f41 = some ⟨oc41, od41, .func (PySem.W.fnOf "_law_turned" "_law_turned" (defArgs s_l_turned) (defBody s_l_turned) (defScope s_l_turned) .none kV41 dc41 pm41 an41 cd41 ct41), sl41⟩) (c41 : PySem.W.codeIn K cd41 "_law_turned" = true) (k41 : PySem.W.keepIn K (.ref f41) = true)
    (a42 : PySem.W.nsIn K mainGlobals "_law_same" = some (some (.ref f42))) (l42 : K.lookup f42 = some ⟨oc42, od42, .func (PySem.W.fnOf "_law_same" "_law_same" (defArgs s_l_same) (defBody s_l_same) (defScope s_l_same) .none kV42 dc42 pm42 an42 cd42 ct42), sl42⟩) (c42 : PySem.W.codeIn K cd42 "_law_same" = true) (k42 : PySem.W.keepIn K (.ref f42) = true)
    (a43 : PySem.W.nsIn K mainGlobals "_law_nouns" = some (some (.ref f43))) (l43 : K.lookup f43 = some ⟨oc43, od43, .func (PySem.W.fnOf "_law_nouns" "_law_nouns" (defArgs s_l_nouns) (defBody s_l_nouns) (defScope s_l_nouns) .none kV43 dc43 pm43 an43 cd43 ct43), sl43⟩) (c43 : PySem.W.codeIn K cd43 "_law_nouns" = true) (k43 : PySem.W.keepIn K (.ref f43) = true)
    (a44 : PySem.W.nsIn K mainGlobals "_law_verbs" = some (some (.ref f44))) (l44 : K.lookup f44 = some ⟨oc44, od44, .func (PySem.W.fnOf "_law_verbs" "_law_verbs" (defArgs s_l_verbs) (defBody s_l_verbs) (defScope s_l_verbs) .none kV44 dc44 pm44 an44 cd44 ct44), sl44⟩) (c44 : PySem.W.codeIn K cd44 "_law_verbs" = true) (k44 : PySem.W.keepIn K (.ref f44) = true)
    (a45 : PySem.W.nsIn K mainGlobals "_law_sewing" = some (some (.ref f45))) (l45 : K.lookup f45 = some ⟨oc45, od45, .func (PySem.W.fnOf "_law_sewing" "_law_sewing" (defArgs s_l_sewing) (defBody s_l_sewing) (defScope s_l_sewing) .none kV45 dc45 pm45 an45 cd45 ct45), sl45⟩) (c45 : PySem.W.codeIn K cd45 "_law_sewing" = true) (k45 : PySem.W.keepIn K (.ref f45) = true)
    (a46 : PySem.W.nsIn K mainGlobals "_law_tails" = some (some (.ref f46))) (l46 : K.lookup f46 = some ⟨oc46, od46, .func (PySem.W.fnOf "_law_tails" "_law_tails" (defArgs s_l_tails) (defBody s_l_tails) (defScope s_l_tails) .none kV46 dc46 pm46 an46 cd46 ct46), sl46⟩) (c46 : PySem.W.codeIn K cd46 "_law_tails" = true) (k46 : PySem.W.keepIn K (.ref f46) = true)
    (a47 : PySem.W.nsIn K mainGlobals "_law_built" = some (some (.ref f47))) (l47 : K.lookup f47 = some ⟨oc47, od47, .func (PySem.W.fnOf "_law_built" "_law_built" (defArgs s_l_built) (defBody s_l_built) (defScope s_l_built) .none kV47 dc47 pm47 an47 cd47 ct47), sl47⟩) (c47 : PySem.W.codeIn K cd47 "_law_built" = true) (k47 : PySem.W.keepIn K (.ref f47) = true)
    (a48 : PySem.W.nsIn K mainGlobals "_law_written" = some (some (.ref f48))) (l48 : K.lookup f48 = some ⟨oc48, od48, .func (PySem.W.fnOf "_law_written" "_law_written" (defArgs s_l_written) (defBody s_l_written) (defScope s_l_written) .none kV48 dc48 pm48 an48 cd48 ct48), sl48⟩) (c48 : PySem.W.codeIn K cd48 "_law_written" = true) (k48 : PySem.W.keepIn K (.ref f48) = true)
    (a49 : PySem.W.nsIn K mainGlobals "_law_due" = some (some (.ref f49))) (l49 : K.lookup f49 = some ⟨oc49, od49, .func (PySem.W.fnOf "_law_due" "_law_due" (defArgs s_l_due) (defBody s_l_due) (defScope s_l_due) .none kV49 dc49 pm49 an49 cd49 ct49), sl49⟩) (c49 : PySem.W.codeIn K cd49 "_law_due" = true) (k49 : PySem.W.keepIn K (.ref f49) = true)
    (a50 : PySem.W.nsIn K mainGlobals "_law_tree_right" = some (some (.ref f50))) (l50 : K.lookup f50 = some ⟨oc50, od50, .func (PySem.W.fnOf "_law_tree_right" "_law_tree_right" (defArgs s_l_tree_right) (defBody s_l_tree_right) (defScope s_l_tree_right) .none kV50 dc50 pm50 an50 cd50 ct50), sl50⟩) (c50 : PySem.W.codeIn K cd50 "_law_tree_right" = true) (k50 : PySem.W.keepIn K (.ref f50) = true)
    (a51 : PySem.W.nsIn K mainGlobals "law" = some (some (.ref f51))) (l51 : K.lookup f51 = some ⟨oc51, od51, .func (PySem.W.fnOf "law" "law" (defArgs s_law) (defBody s_law) (defScope s_law) .none kV51 dc51 pm51 an51 cd51 ct51), sl51⟩) (c51 : PySem.W.codeIn K cd51 "law" = true) (k51 : PySem.W.keepIn K (.ref f51) = true)
    (aC : PySem.W.nsIn K mainGlobals "Tongue" = some (some (.ref CC))) (a52 : PySem.W.findIn K (.ref CC) "__init__" = some (some (.ref f52))) (i52 : PySem.W.isFn K (.ref f52) = true) (l52 : K.lookup f52 = some ⟨oc52, od52, .func (PySem.W.fnOf "__init__" "Tongue.__init__" (defArgs s_init) (defBody s_init) (defScope s_init) .none kV52 dc52 pm52 an52 cd52 ct52), sl52⟩) (c52 : PySem.W.codeIn K cd52 "Tongue.__init__" = true) (k52 : PySem.W.keepIn K (.ref f52) = true)
    (pg : PySem.W.plainGet K CC Str.empty = true) (hd : PySem.W.hasDictIn K CC = true) (po : PySem.W.plainOver K CC = true) (sa : PySem.W.findIn K (.ref CC) "__setattr__" = some (some (.builtin "object.__setattr__"))) (mk : PySem.W.makesIn K CC = true) (kc : PySem.W.keepIn K (.ref CC) = true)
    (n1 : PySem.W.findIn K (.ref CC) "own" = some none) (n2 : PySem.W.findIn K (.ref CC) "feature_named" = some none) (n3 : PySem.W.findIn K (.ref CC) "kind_named" = some none) (n4 : PySem.W.findIn K (.ref CC) "placings" = some none) (n5 : PySem.W.findIn K (.ref CC) "kept" = some none)
    (e1 : PySem.W.nsIn K mainGlobals "LETTERS" = some (some (.str lets26 tk1)))
    (e2 : PySem.W.nsIn K mainGlobals "MOST_VALUES" = some (some (.int 6 tk2)))
    (e3 : PySem.W.nsIn K mainGlobals "MOST_FEATURES_OF_A_KIND" = some (some (.int 4 tk3)))
    (e4 : PySem.W.nsIn K mainGlobals "MOST_RANK" = some (some (.int 999 tk4)))
    (t2 : tabFree K cd2 = true) (r2 : ((recsOf q).any fun e => e.name == ("values_of" : Str)) = true)
    (t8 : tabFree K cd8 = true) (r8 : ((recsOf q).any fun e => e.name == ("is_text" : Str)) = true)
    (t12 : tabFree K cd12 = true) (r12 : ((recsOf q).any fun e => e.name == ("is_feature" : Str)) = true)
    (t13 : tabFree K cd13 = true) (r13 : ((recsOf q).any fun e => e.name == ("is_kind" : Str)) = true)
    (t14 : tabFree K cd14 = true) (r14 : ((recsOf q).any fun e => e.name == ("is_seam" : Str)) = true)
    (t15 : tabFree K cd15 = true) (r15 : ((recsOf q).any fun e => e.name == ("are_marks" : Str)) = true)
    (t18 : tabFree K cd18 = true) (r18 : ((recsOf q).any fun e => e.name == ("copied" : Str)) = true)
    (t25 : tabFree K cd25 = true) (r25 : ((recsOf q).any fun e => e.name == ("cost_of" : Str)) = true)
    (t35 : tabFree K cd35 = true) (r35 : ((recsOf q).any fun e => e.name == ("word_meaning" : Str)) = true)
    (t19 : tabFree K cd19 = true) (r19 : ((recsOf q).any fun e => e.name == ("fault_in" : Str)) = true)
    (t23 : tabFree K cd23 = true) (r23 : ((recsOf q).any fun e => e.name == ("words_of" : Str)) = true)
    (t24 : tabFree K cd24 = true) (r24 : ((recsOf q).any fun e => e.name == ("meaning_of" : Str)) = true)
    (df : ([cd2, cd8, cd12, cd13, cd14, cd15, cd18, cd25, cd35].all fun c => !decide (tabPtr K c = tabPtr K cd19)) = true)
    (dx23 : ([cd2, cd8, cd12, cd13, cd14, cd15, cd18, cd25, cd35, cd19].all fun c => !decide (tabPtr K c = tabPtr K cd23)) = true)
    (dx24 : ([cd2, cd8, cd12, cd13, cd14, cd15, cd18, cd25, cd35, cd19, cd23].all fun c => !decide (tabPtr K c = tabPtr K cd24)) = true)
    (z1 : PySem.W.nsIn K mainGlobals "len" = some none) (z2 : PySem.W.nsIn K mainGlobals "abs" = some none) (z3 : PySem.W.nsIn K mainGlobals "int" = some none) (z4 : PySem.W.nsIn K mainGlobals "list" = some none) (z5 : PySem.W.nsIn K mainGlobals "range" = some none) (z6 : PySem.W.nsIn K mainGlobals "all" = some none) (z7 : PySem.W.nsIn K mainGlobals "any" = some none) (z8 : PySem.W.nsIn K mainGlobals "set" = some none) (z9 : PySem.W.nsIn K mainGlobals "enumerate" = some none) (z10 : PySem.W.nsIn K mainGlobals "isinstance" = some none) (z11 : PySem.W.nsIn K mainGlobals "dict" = some none) (z12 : PySem.W.nsIn K mainGlobals "tuple" = some none) (z13 : PySem.W.nsIn K mainGlobals "str" = some none) (z14 : PySem.W.nsIn K mainGlobals "bool" = some none) (z15 : PySem.W.nsIn K mainGlobals "min" = some none) (z16 : PySem.W.nsIn K mainGlobals "sum" = some none) (z17 : PySem.W.nsIn K mainGlobals "zip" = some none) (z18 : PySem.W.nsIn K mainGlobals "reversed" = some none) (z19 : PySem.W.nsIn K mainGlobals "sorted" = some none) :
    LamX.LawAtS l w K CX0 33 63 "_law_script" mg fa h := by
  have e := hfa.symm.trans (PySem.W.mg_of X G a51)
  cases e
  obtain ⟨C2, P2, ⟨ec2, et2, en2, eh2⟩, ep2⟩ := tabOfP X T r2 (PySem.W.mg_of X G a2) l2 t2
  obtain ⟨C8, P8, ⟨ec8, et8, en8, eh8⟩, ep8⟩ := tabOfP X T r8 (PySem.W.mg_of X G a8) l8 t8
  obtain ⟨C12, P12, ⟨ec12, et12, en12, eh12⟩, ep12⟩ := tabOfP X T r12 (PySem.W.mg_of X G a12) l12 t12
  obtain ⟨C13, P13, ⟨ec13, et13, en13, eh13⟩, ep13⟩ := tabOfP X T r13 (PySem.W.mg_of X G a13) l13 t13
  obtain ⟨C14, P14, ⟨ec14, et14, en14, eh14⟩, ep14⟩ := tabOfP X T r14 (PySem.W.mg_of X G a14) l14 t14
  obtain ⟨C15, P15, ⟨ec15, et15, en15, eh15⟩, ep15⟩ := tabOfP X T r15 (PySem.W.mg_of X G a15) l15 t15
  obtain ⟨C18, P18, ⟨ec18, et18, en18, eh18⟩, ep18⟩ := tabOfP X T r18 (PySem.W.mg_of X G a18) l18 t18
  obtain ⟨C25, P25, ⟨ec25, et25, en25, eh25⟩, ep25⟩ := tabOfP X T r25 (PySem.W.mg_of X G a25) l25 t25
  obtain ⟨C35, P35, ⟨ec35, et35, en35, eh35⟩, ep35⟩ := tabOfP X T r35 (PySem.W.mg_of X G a35) l35 t35
  obtain ⟨C19, P19, ⟨ec19, et19, en19, eh19⟩, ep19⟩ := tabOfP X T r19 (PySem.W.mg_of X G a19) l19 t19
  obtain ⟨C23, P23, ⟨ec23, et23, en23, eh23⟩, ep23⟩ := tabOfP X T r23 (PySem.W.mg_of X G a23) l23 t23
  obtain ⟨C24, P24, ⟨ec24, et24, en24, eh24⟩, ep24⟩ := tabOfP X T r24 (PySem.W.mg_of X G a24) l24 t24
  have np2 : P19 ≠ P2 := fun z => by
    have := List.all_eq_true.mp df cd2 (by simp)
    rw [ep2, ep19, z] at this
    simp at this
  have np8 : P19 ≠ P8 := fun z => by
    have := List.all_eq_true.mp df cd8 (by simp)
    rw [ep8, ep19, z] at this
    simp at this
  have np12 : P19 ≠ P12 := fun z => by
    have := List.all_eq_true.mp df cd12 (by simp)
    rw [ep12, ep19, z] at this
    simp at this
  have np13 : P19 ≠ P13 := fun z => by
    have := List.all_eq_true.mp df cd13 (by simp)
    rw [ep13, ep19, z] at this
    simp at this
  have np14 : P19 ≠ P14 := fun z => by
    have := List.all_eq_true.mp df cd14 (by simp)
    rw [ep14, ep19, z] at this
    simp at this
  have np15 : P19 ≠ P15 := fun z => by
    have := List.all_eq_true.mp df cd15 (by simp)
    rw [ep15, ep19, z] at this
    simp at this
  have np18 : P19 ≠ P18 := fun z => by
    have := List.all_eq_true.mp df cd18 (by simp)
    rw [ep18, ep19, z] at this
    simp at this
  have np25 : P19 ≠ P25 := fun z => by
    have := List.all_eq_true.mp df cd25 (by simp)
    rw [ep25, ep19, z] at this
    simp at this
  have np35 : P19 ≠ P35 := fun z => by
    have := List.all_eq_true.mp df cd35 (by simp)
    rw [ep35, ep19, z] at this
    simp at this
  have nx23_2 : P23 ≠ P2 := fun z => by
    have := List.all_eq_true.mp dx23 cd2 (by simp)
    rw [ep2, ep23, z] at this
    simp at this
  have nx23_8 : P23 ≠ P8 := fun z => by
    have := List.all_eq_true.mp dx23 cd8 (by simp)
    rw [ep8, ep23, z] at this
    simp at this
  have nx23_12 : P23 ≠ P12 := fun z => by
    have := List.all_eq_true.mp dx23 cd12 (by simp)
    rw [ep12, ep23, z] at this
    simp at this
  have nx23_13 : P23 ≠ P13 := fun z => by
    have := List.all_eq_true.mp dx23 cd13 (by simp)
    rw [ep13, ep23, z] at this
    simp at this
  have nx23_14 : P23 ≠ P14 := fun z => by
    have := List.all_eq_true.mp dx23 cd14 (by simp)
    rw [ep14, ep23, z] at this
    simp at this
  have nx23_15 : P23 ≠ P15 := fun z => by
    have := List.all_eq_true.mp dx23 cd15 (by simp)
    rw [ep15, ep23, z] at this
    simp at this
  have nx23_18 : P23 ≠ P18 := fun z => by
    have := List.all_eq_true.mp dx23 cd18 (by simp)
    rw [ep18, ep23, z] at this
    simp at this
  have nx23_25 : P23 ≠ P25 := fun z => by
    have := List.all_eq_true.mp dx23 cd25 (by simp)
    rw [ep25, ep23, z] at this
    simp at this
  have nx23_35 : P23 ≠ P35 := fun z => by
    have := List.all_eq_true.mp dx23 cd35 (by simp)
    rw [ep35, ep23, z] at this
    simp at this
  have nx23_19 : P23 ≠ P19 := fun z => by
    have := List.all_eq_true.mp dx23 cd19 (by simp)
    rw [ep19, ep23, z] at this
    simp at this
  have nx24_2 : P24 ≠ P2 := fun z => by
    have := List.all_eq_true.mp dx24 cd2 (by simp)
    rw [ep2, ep24, z] at this
    simp at this
  have nx24_8 : P24 ≠ P8 := fun z => by
    have := List.all_eq_true.mp dx24 cd8 (by simp)
    rw [ep8, ep24, z] at this
    simp at this
  have nx24_12 : P24 ≠ P12 := fun z => by
    have := List.all_eq_true.mp dx24 cd12 (by simp)
    rw [ep12, ep24, z] at this
    simp at this
  have nx24_13 : P24 ≠ P13 := fun z => by
    have := List.all_eq_true.mp dx24 cd13 (by simp)
    rw [ep13, ep24, z] at this
    simp at this
  have nx24_14 : P24 ≠ P14 := fun z => by
    have := List.all_eq_true.mp dx24 cd14 (by simp)
    rw [ep14, ep24, z] at this
    simp at this
  have nx24_15 : P24 ≠ P15 := fun z => by
    have := List.all_eq_true.mp dx24 cd15 (by simp)
    rw [ep15, ep24, z] at this
    simp at this
  have nx24_18 : P24 ≠ P18 := fun z => by
    have := List.all_eq_true.mp dx24 cd18 (by simp)
    rw [ep18, ep24, z] at this
    simp at this
  have nx24_25 : P24 ≠ P25 := fun z => by
    have := List.all_eq_true.mp dx24 cd25 (by simp)
    rw [ep25, ep24, z] at this
    simp at this
  have nx24_35 : P24 ≠ P35 := fun z => by
    have := List.all_eq_true.mp dx24 cd35 (by simp)
    rw [ep35, ep24, z] at this
    simp at this
  have nx24_19 : P24 ≠ P19 := fun z => by
    have := List.all_eq_true.mp dx24 cd19 (by simp)
    rw [ep19, ep24, z] at this
    simp at this
  have nx24_23 : P24 ≠ P23 := fun z => by
    have := List.all_eq_true.mp dx24 cd23 (by simp)
    rw [ep23, ep24, z] at this
    simp at this
  subst ec2
  subst ec8
  subst ec12
  subst ec13
  subst ec14
  subst ec15
  subst ec18
  subst ec25
  subst ec35
  subst ec19
  subst ec23
  subst ec24
  have F1 := fun_mk (st := s_sewn) l1 c1 k1
  have b1 := F1.binds (ps := ["seams", "stem", "ending"]) fun _ _ _ _ _ _ us hl => match us, hl with | [_, _, _], _ => rfl
  have g1 := PySem.W.mg_of X G a1
  have F2 := fun_mk (st := s_values_of) l2 c2 k2
  have FC2 : FunC K "values_of" "values_of" s_values_of f2 _ C2 := ⟨⟨_, _, _, _, _, _, _, _, rfl, l2, c2⟩, k2⟩
  have b2 := F2.binds (ps := ["tongue", "stem", "ending"]) fun _ _ _ _ _ _ us hl => match us, hl with | [_, _, _], _ => rfl
  have g2 := PySem.W.mg_of X G a2
  have F3 := fun_mk (st := s_text_of) l3 c3 k3
  have b3 := F3.binds (ps := ["tongue", "stem", "ending"]) fun _ _ _ _ _ _ us hl => match us, hl with | [_, _, _], _ => rfl
  have g3 := PySem.W.mg_of X G a3
  have F4 := fun_mk (st := s_forms) l4 c4 k4
  have b4 := F4.binds (ps := ["tongue"]) fun _ _ _ _ _ _ us hl => match us, hl with | [_], _ => rfl
  have g4 := PySem.W.mg_of X G a4
  have F5 := fun_mk (st := s_analyses) l5 c5 k5
  have b5 := F5.binds (ps := ["tongue", "word"]) fun _ _ _ _ _ _ us hl => match us, hl with | [_, _], _ => rfl
  have g5 := PySem.W.mg_of X G a5
  have F6 := fun_mk (st := s_kept_forms) l6 c6 k6
  have b6 := F6.binds (ps := ["tongue"]) fun _ _ _ _ _ _ us hl => match us, hl with | [_], _ => rfl
  have g6 := PySem.W.mg_of X G a6
  have F7 := fun_mk (st := s_trees_by_text) l7 c7 k7
  have b7 := F7.binds (ps := ["tongue"]) fun _ _ _ _ _ _ us hl => match us, hl with | [_], _ => rfl
  have g7 := PySem.W.mg_of X G a7
  have F8 := fun_mk (st := s_is_text) l8 c8 k8
  have FC8 : FunC K "is_text" "is_text" s_is_text f8 _ C8 := ⟨⟨_, _, _, _, _, _, _, _, rfl, l8, c8⟩, k8⟩
  have b8 := F8.binds (ps := ["text", "most"]) fun _ _ _ _ _ _ us hl => match us, hl with | [_, _], _ => rfl
  have g8 := PySem.W.mg_of X G a8
  have F9 := fun_mk (st := s_is_name) l9 c9 k9
  have b9 := F9.binds (ps := ["text"]) fun _ _ _ _ _ _ us hl => match us, hl with | [_], _ => rfl
  have g9 := PySem.W.mg_of X G a9
  have F10 := fun_mk (st := s_is_rank) l10 c10 k10
  have b10 := F10.binds (ps := ["number"]) fun _ _ _ _ _ _ us hl => match us, hl with | [_], _ => rfl
  have g10 := PySem.W.mg_of X G a10
  have F11 := fun_mk (st := s_are_unlike) l11 c11 k11
  have b11 := F11.binds (ps := ["things"]) fun _ _ _ _ _ _ us hl => match us, hl with | [_], _ => rfl
  have g11 := PySem.W.mg_of X G a11
  have F12 := fun_mk (st := s_is_feature) l12 c12 k12
  have FC12 : FunC K "is_feature" "is_feature" s_is_feature f12 _ C12 := ⟨⟨_, _, _, _, _, _, _, _, rfl, l12, c12⟩, k12⟩
  have b12 := F12.binds (ps := ["feature"]) fun _ _ _ _ _ _ us hl => match us, hl with | [_], _ => rfl
  have g12 := PySem.W.mg_of X G a12
  have F13 := fun_mk (st := s_is_kind) l13 c13 k13
  have FC13 : FunC K "is_kind" "is_kind" s_is_kind f13 _ C13 := ⟨⟨_, _, _, _, _, _, _, _, rfl, l13, c13⟩, k13⟩
  have b13 := F13.binds (ps := ["kind", "features"]) fun _ _ _ _ _ _ us hl => match us, hl with | [_, _], _ => rfl
  have g13 := PySem.W.mg_of X G a13
  have F14 := fun_mk (st := s_is_seam) l14 c14 k14
  have FC14 : FunC K "is_seam" "is_seam" s_is_seam f14 _ C14 := ⟨⟨_, _, _, _, _, _, _, _, rfl, l14, c14⟩, k14⟩
  have b14 := F14.binds (ps := ["seam"]) fun _ _ _ _ _ _ us hl => match us, hl with | [_], _ => rfl
  have g14 := PySem.W.mg_of X G a14
  have F15 := fun_mk (st := s_are_marks) l15 c15 k15
  have FC15 : FunC K "are_marks" "are_marks" s_are_marks f15 _ C15 := ⟨⟨_, _, _, _, _, _, _, _, rfl, l15, c15⟩, k15⟩
  have b15 := F15.binds (ps := ["marks", "names", "features"]) fun _ _ _ _ _ _ us hl => match us, hl with | [_, _, _], _ => rfl
  have g15 := PySem.W.mg_of X G a15
  have F16 := fun_mk (st := s_is_stem) l16 c16 k16
  have b16 := F16.binds (ps := ["stem", "features", "kinds"]) fun _ _ _ _ _ _ us hl => match us, hl with | [_, _, _], _ => rfl
  have g16 := PySem.W.mg_of X G a16
  have F17 := fun_mk (st := s_is_ending) l17 c17 k17
  have b17 := F17.binds (ps := ["ending", "features"]) fun _ _ _ _ _ _ us hl => match us, hl with | [_, _], _ => rfl
  have g17 := PySem.W.mg_of X G a17
  have F18 := fun_mk (st := s_copied) l18 c18 k18
  have FC18 : FunC K "copied" "copied" s_copied f18 _ C18 := ⟨⟨_, _, _, _, _, _, _, _, rfl, l18, c18⟩, k18⟩
  have b18 := F18.binds (ps := ["thing"]) fun _ _ _ _ _ _ us hl => match us, hl with | [_], _ => rfl
  have g18 := PySem.W.mg_of X G a18
  have F19 := fun_mk (st := s_fault_in) l19 c19 k19
  have FC19 : FunC K "fault_in" "fault_in" s_fault_in f19 _ C19 := ⟨⟨_, _, _, _, _, _, _, _, rfl, l19, c19⟩, k19⟩
  have b19 := F19.binds (ps := ["told"]) fun _ _ _ _ _ _ us hl => match us, hl with | [_], _ => rfl
  have g19 := PySem.W.mg_of X G a19
  have F20 := fun_mk (st := s_first_unsound) l20 c20 k20
  have b20 := F20.binds (ps := ["things", "most", "is_sound", "is_named"]) fun _ _ _ _ _ _ us hl => match us, hl with | [_, _, _, _], _ => rfl
  have g20 := PySem.W.mg_of X G a20
  have F21 := fun_mk (st := s_first_in_ring) l21 c21 k21
  have b21 := F21.binds (ps := ["rules"]) fun _ _ _ _ _ _ us hl => match us, hl with | [_], _ => rfl
  have g21 := PySem.W.mg_of X G a21
  have F22 := fun_mk (st := s_symbol_of) l22 c22 k22
  have b22 := F22.binds (ps := ["tongue", "tree"]) fun _ _ _ _ _ _ us hl => match us, hl with | [_, _], _ => rfl
  have g22 := PySem.W.mg_of X G a22
  have F23 := fun_mk (st := s_words_of) l23 c23 k23
  have FC23 : FunC K "words_of" "words_of" s_words_of f23 _ C23 := ⟨⟨_, _, _, _, _, _, _, _, rfl, l23, c23⟩, k23⟩
  have b23 := F23.binds (ps := ["tongue", "tree"]) fun _ _ _ _ _ _ us hl => match us, hl with | [_, _], _ => rfl
  have g23 := PySem.W.mg_of X G a23
  have F24 := fun_mk (st := s_meaning_of) l24 c24 k24
  have FC24 : FunC K "meaning_of" "meaning_of" s_meaning_of f24 _ C24 := ⟨⟨_, _, _, _, _, _, _, _, rfl, l24, c24⟩, k24⟩
  have b24 := F24.binds (ps := ["tongue", "tree"]) fun _ _ _ _ _ _ us hl => match us, hl with | [_, _], _ => rfl
  have g24 := PySem.W.mg_of X G a24
  have F25 := fun_mk (st := s_cost_of) l25 c25 k25
  have FC25 : FunC K "cost_of" "cost_of" s_cost_of f25 _ C25 := ⟨⟨_, _, _, _, _, _, _, _, rfl, l25, c25⟩, k25⟩
  have b25 := F25.binds (ps := ["tongue", "tree"]) fun _ _ _ _ _ _ us hl => match us, hl with | [_, _], _ => rfl
  have g25 := PySem.W.mg_of X G a25
  have F26 := fun_mk (st := s_is_sentence) l26 c26 k26
  have b26 := F26.binds (ps := ["tongue", "tree"]) fun _ _ _ _ _ _ us hl => match us, hl with | [_, _], _ => rfl
  have g26 := PySem.W.mg_of X G a26
  have F27 := fun_mk (st := s_is_whole_sentence) l27 c27 k27
  have b27 := F27.binds (ps := ["tongue", "symbol"]) fun _ _ _ _ _ _ us hl => match us, hl with | [_, _], _ => rfl
  have g27 := PySem.W.mg_of X G a27
  have F28 := fun_mk (st := s_all_within) l28 c28 k28
  have b28 := F28.binds (ps := ["tree"]) fun _ _ _ _ _ _ us hl => match us, hl with | [_], _ => rfl
  have g28 := PySem.W.mg_of X G a28
  have F29 := fun_mk (st := s_told_of) l29 c29 k29
  have b29 := F29.binds (ps := ["tree", "tell"]) fun _ _ _ _ _ _ us hl => match us, hl with | [_, _], _ => rfl
  have g29 := PySem.W.mg_of X G a29
  have hc30 : ∃ c, cd30 = .ref c := by
    cases cd30 <;> first | exact ⟨_, rfl⟩ | cases c30
  obtain ⟨C30, ec30⟩ := hc30
  subst ec30
  have F30 := fun_mk (st := s_symbol_or_path) l30 c30 k30
  have FC30 : FunC K "symbol_or_path" "symbol_or_path" s_symbol_or_path f30 _ C30 := ⟨⟨_, _, _, _, _, _, _, _, rfl, l30, c30⟩, k30⟩
  have b30 := F30.binds (ps := ["tongue", "tree"]) fun _ _ _ _ _ _ us hl => match us, hl with | [_, _], _ => rfl
  have g30 := PySem.W.mg_of X G a30
  have F31 := fun_mk (st := s_own_symbol) l31 c31 k31
  have b31 := F31.binds (ps := ["tongue", "tree", "inner"]) fun _ _ _ _ _ _ us hl => match us, hl with | [_, _, _], _ => rfl
  have g31 := PySem.W.mg_of X G a31
  have F32 := fun_mk (st := s_marks_of) l32 c32 k32
  have b32 := F32.binds (ps := ["tongue", "kind", "values"]) fun _ _ _ _ _ _ us hl => match us, hl with | [_, _, _], _ => rfl
  have g32 := PySem.W.mg_of X G a32
  have F33 := fun_mk (st := s_own_words) l33 c33 k33
  have b33 := F33.binds (ps := ["tongue", "tree", "inner"]) fun _ _ _ _ _ _ us hl => match us, hl with | [_, _, _], _ => rfl
  have g33 := PySem.W.mg_of X G a33
  have F34 := fun_mk (st := s_own_meaning) l34 c34 k34
  have b34 := F34.binds (ps := ["tongue", "tree", "inner"]) fun _ _ _ _ _ _ us hl => match us, hl with | [_, _, _], _ => rfl
  have g34 := PySem.W.mg_of X G a34
  have F35 := fun_mk (st := s_word_meaning) l35 c35 k35
  have FC35 : FunC K "word_meaning" "word_meaning" s_word_meaning f35 _ C35 := ⟨⟨_, _, _, _, _, _, _, _, rfl, l35, c35⟩, k35⟩
  have b35 := F35.binds (ps := ["tongue", "stem", "ending"]) fun _ _ _ _ _ _ us hl => match us, hl with | [_, _, _], _ => rfl
  have g35 := PySem.W.mg_of X G a35
  have F36 := fun_mk (st := s_own_cost) l36 c36 k36
  have b36 := F36.binds (ps := ["tongue", "tree"]) fun _ _ _ _ _ _ us hl => match us, hl with | [_, _], _ => rfl
  have g36 := PySem.W.mg_of X G a36
  have F37 := fun_mk (st := s_l_cell_at) l37 c37 k37
  have b37 := F37.binds (ps := ["_law_script", "_law_k"]) fun _ _ _ _ _ _ us hl => match us, hl with | [_, _], _ => rfl
  have g37 := PySem.W.mg_of X G a37
  have F38 := fun_mk (st := s_l_mixed) l38 c38 k38
  have b38 := F38.binds (ps := ["_law_number", "_law_k"]) fun _ _ _ _ _ _ us hl => match us, hl with | [_, _], _ => rfl
  have g38 := PySem.W.mg_of X G a38
  have F39 := fun_mk (st := s_l_box) l39 c39 k39
  have b39 := F39.binds (ps := ["_law_script", "_law_k"]) fun _ _ _ _ _ _ us hl => match us, hl with | [_, _], _ => rfl
  have g39 := PySem.W.mg_of X G a39
  have F40 := fun_mk (st := s_l_take) l40 c40 k40
  have b40 := F40.binds (ps := ["_law_box_here", "_law_many"]) fun _ _ _ _ _ _ us hl => match us, hl with | [_, _], _ => rfl
  have g40 := PySem.W.mg_of X G a40
  have F41 := fun_mk (st := s_l_turned) l41 c41 k41
  have b41 := F41.binds (ps := ["_law_box_here", "_law_row"]) fun _ _ _ _ _ _ us hl => match us, hl with | [_, _], _ => rfl
  have g41 := PySem.W.mg_of X G a41
  have F42 := fun_mk (st := s_l_same) l42 c42 k42
  have b42 := F42.binds (ps := ["_law_found", "_law_due_here"]) fun _ _ _ _ _ _ us hl => match us, hl with | [_, _], _ => rfl
  have g42 := PySem.W.mg_of X G a42
  have F43 := fun_mk (st := s_l_nouns) l43 c43 k43
  have b43 := F43.binds (ps := []) fun _ _ _ _ _ _ us hl => match us, hl with | [], _ => rfl
  have g43 := PySem.W.mg_of X G a43
  have F44 := fun_mk (st := s_l_verbs) l44 c44 k44
  have b44 := F44.binds (ps := []) fun _ _ _ _ _ _ us hl => match us, hl with | [], _ => rfl
  have g44 := PySem.W.mg_of X G a44
  have F45 := fun_mk (st := s_l_sewing) l45 c45 k45
  have b45 := F45.binds (ps := ["_law_box_here"]) fun _ _ _ _ _ _ us hl => match us, hl with | [_], _ => rfl
  have g45 := PySem.W.mg_of X G a45
  have F46 := fun_mk (st := s_l_tails) l46 c46 k46
  have b46 := F46.binds (ps := ["_law_box_here"]) fun _ _ _ _ _ _ us hl => match us, hl with | [_], _ => rfl
  have g46 := PySem.W.mg_of X G a46
  have F47 := fun_mk (st := s_l_built) l47 c47 k47
  have b47 := F47.binds (ps := ["_law_box_here"]) fun _ _ _ _ _ _ us hl => match us, hl with | [_], _ => rfl
  have g47 := PySem.W.mg_of X G a47
  have F48 := fun_mk (st := s_l_written) l48 c48 k48
  have b48 := F48.binds (ps := ["_law_stem", "_law_ending"]) fun _ _ _ _ _ _ us hl => match us, hl with | [_, _], _ => rfl
  have g48 := PySem.W.mg_of X G a48
  have F49 := fun_mk (st := s_l_due) l49 c49 k49
  have b49 := F49.binds (ps := ["_law_told"]) fun _ _ _ _ _ _ us hl => match us, hl with | [_], _ => rfl
  have g49 := PySem.W.mg_of X G a49
  have F50 := fun_mk (st := s_l_tree_right) l50 c50 k50
  have b50 := F50.binds (ps := ["_law_tongue", "_law_told", "_law_row"]) fun _ _ _ _ _ _ us hl => match us, hl with | [_, _, _], _ => rfl
  have g50 := PySem.W.mg_of X G a50
  have F51 := fun_mk (st := s_law) l51 c51 k51
  have F52 := fun_mk (st := s_init) l52 c52 k52
  have b52 := F52.binds (ps := ["self", "told"]) fun _ _ _ _ _ _ us hl => match us, hl with | [_, _], _ => rfl
  have mC := PySem.W.mg_of X G aC
  have m_LETTERS := PySem.W.mg_of X G e1
  have m_MOST_VALUES := PySem.W.mg_of X G e2
  have m_MOST_FEATURES_OF_A_KIND := PySem.W.mg_of X G e3
  have m_MOST_RANK := PySem.W.mg_of X G e4
  have m_len := PySem.W.mg_none_of X G z1
  have m_abs := PySem.W.mg_none_of X G z2
  have m_int := PySem.W.mg_none_of X G z3
  have m_list := PySem.W.mg_none_of X G z4
  have m_range := PySem.W.mg_none_of X G z5
  have m_all := PySem.W.mg_none_of X G z6
  have m_any := PySem.W.mg_none_of X G z7
  have m_set := PySem.W.mg_none_of X G z8
  have m_enumerate := PySem.W.mg_none_of X G z9
  have m_isinstance := PySem.W.mg_none_of X G z10
  have m_dict := PySem.W.mg_none_of X G z11
  have m_tuple := PySem.W.mg_none_of X G z12
  have m_str := PySem.W.mg_none_of X G z13
  have m_bool := PySem.W.mg_none_of X G z14
  have m_min := PySem.W.mg_none_of X G z15
  have m_sum := PySem.W.mg_none_of X G z16
  have m_zip := PySem.W.mg_none_of X G z17
  have m_reversed := PySem.W.mg_none_of X G z18
  have m_sorted := PySem.W.mg_none_of X G z19
  have hT1 : ∀ p ∈ [(C2, P2), (C8, P8), (C12, P12), (C13, P13), (C14, P14), (C15, P15), (C18, P18), (C25, P25), (C35, P35), (C19, P19), (C23, P23), (C24, P24)], h.get? p.2 = some { cls := .none, data := .fields #[] } := fun p hp => by
    rcases List.mem_cons.mp hp with rfl | hp
    · exact et2
    rcases List.mem_cons.mp hp with rfl | hp
    · exact et8
    rcases List.mem_cons.mp hp with rfl | hp
    · exact et12
    rcases List.mem_cons.mp hp with rfl | hp
    · exact et13
    rcases List.mem_cons.mp hp with rfl | hp
    · exact et14
    rcases List.mem_cons.mp hp with rfl | hp
    · exact et15
    rcases List.mem_cons.mp hp with rfl | hp
    · exact et18
    rcases List.mem_cons.mp hp with rfl | hp
    · exact et25
    rcases List.mem_cons.mp hp with rfl | hp
    · exact et35
    rcases List.mem_cons.mp hp with rfl | hp
    · exact et19
    rcases List.mem_cons.mp hp with rfl | hp
    · exact et23
    rw [List.mem_singleton.mp hp]
    exact et24

  have hT2 : ∀ p ∈ [(C2, P2), (C8, P8), (C12, P12), (C13, P13), (C14, P14), (C15, P15), (C18, P18), (C25, P25), (C35, P35), (C19, P19), (C23, P23), (C24, P24)], K.lookup p.2 = none := fun p hp => by
    rcases List.mem_cons.mp hp with rfl | hp
    · exact en2
    rcases List.mem_cons.mp hp with rfl | hp
    · exact en8
    rcases List.mem_cons.mp hp with rfl | hp
    · exact en12
    rcases List.mem_cons.mp hp with rfl | hp
    · exact en13
    rcases List.mem_cons.mp hp with rfl | hp
    · exact en14
    rcases List.mem_cons.mp hp with rfl | hp
    · exact en15
    rcases List.mem_cons.mp hp with rfl | hp
    · exact en18
    rcases List.mem_cons.mp hp with rfl | hp
    · exact en25
    rcases List.mem_cons.mp hp with rfl | hp
    · exact en35
    rcases List.mem_cons.mp hp with rfl | hp
    · exact en19
    rcases List.mem_cons.mp hp with rfl | hp
    · exact en23
    rw [List.mem_singleton.mp hp]
    exact en24

  have hT3 : ∀ p ∈ [(C2, P2), (C8, P8), (C12, P12), (C13, P13), (C14, P14), (C15, P15), (C18, P18), (C25, P25), (C35, P35), (C19, P19), (C23, P23), (C24, P24)], PySem.W.CodeHd h p.1 p.2 := fun p hp => by
    rcases List.mem_cons.mp hp with rfl | hp
    · exact eh2
    rcases List.mem_cons.mp hp with rfl | hp
    · exact eh8
    rcases List.mem_cons.mp hp with rfl | hp
    · exact eh12
    rcases List.mem_cons.mp hp with rfl | hp
    · exact eh13
    rcases List.mem_cons.mp hp with rfl | hp
    · exact eh14
    rcases List.mem_cons.mp hp with rfl | hp
    · exact eh15
    rcases List.mem_cons.mp hp with rfl | hp
    · exact eh18
    rcases List.mem_cons.mp hp with rfl | hp
    · exact eh25
    rcases List.mem_cons.mp hp with rfl | hp
    · exact eh35
    rcases List.mem_cons.mp hp with rfl | hp
    · exact eh19
    rcases List.mem_cons.mp hp with rfl | hp
    · exact eh23
    rw [List.mem_singleton.mp hp]
    exact eh24

  have hF : P19 ∉ [P2, P8, P12, P13, P14, P15, P18, P25, P35] := fun hp => by
    rcases List.mem_cons.mp hp with z | hp
    · exact np2 z
    rcases List.mem_cons.mp hp with z | hp
    · exact np8 z
    rcases List.mem_cons.mp hp with z | hp
    · exact np12 z
    rcases List.mem_cons.mp hp with z | hp
    · exact np13 z
    rcases List.mem_cons.mp hp with z | hp
    · exact np14 z
    rcases List.mem_cons.mp hp with z | hp
    · exact np15 z
    rcases List.mem_cons.mp hp with z | hp
    · exact np18 z
    rcases List.mem_cons.mp hp with z | hp
    · exact np25 z
    exact np35 (List.mem_singleton.mp hp)
  have hD1 : ∀ z ∈ ([(P23, woQ), (P24, moQ)] : List (Addr × Str)), z.1 ∉ [P2, P8, P12, P13, P14, P15, P18, P25, P35] ∧ z.1 ≠ P19 := fun z hz => by
    simp only [List.mem_cons, List.not_mem_nil, or_false] at hz
    rcases hz with rfl | rfl
    · refine ⟨fun hp => ?_, nx23_19⟩
      rcases List.mem_cons.mp hp with z | hp
      · exact nx23_2 z
      rcases List.mem_cons.mp hp with z | hp
      · exact nx23_8 z
      rcases List.mem_cons.mp hp with z | hp
      · exact nx23_12 z
      rcases List.mem_cons.mp hp with z | hp
      · exact nx23_13 z
      rcases List.mem_cons.mp hp with z | hp
      · exact nx23_14 z
      rcases List.mem_cons.mp hp with z | hp
      · exact nx23_15 z
      rcases List.mem_cons.mp hp with z | hp
      · exact nx23_18 z
      rcases List.mem_cons.mp hp with z | hp
      · exact nx23_25 z
      exact nx23_35 (List.mem_singleton.mp hp)
    · refine ⟨fun hp => ?_, nx24_19⟩
      rcases List.mem_cons.mp hp with z | hp
      · exact nx24_2 z
      rcases List.mem_cons.mp hp with z | hp
      · exact nx24_8 z
      rcases List.mem_cons.mp hp with z | hp
      · exact nx24_12 z
      rcases List.mem_cons.mp hp with z | hp
      · exact nx24_13 z
      rcases List.mem_cons.mp hp with z | hp
      · exact nx24_14 z
      rcases List.mem_cons.mp hp with z | hp
      · exact nx24_15 z
      rcases List.mem_cons.mp hp with z | hp
      · exact nx24_18 z
      rcases List.mem_cons.mp hp with z | hp
      · exact nx24_25 z
      exact nx24_35 (List.mem_singleton.mp hp)
  have hD : (∀ z ∈ ([(P23, woQ), (P24, moQ)] : List (Addr × Str)), z.1 ∉ [P2, P8, P12, P13, P14, P15, P18, P25, P35] ∧ z.1 ≠ P19) ∧ ∀ y ∈ ([(P23, woQ), (P24, moQ)] : List (Addr × Str)), ∀ z ∈ ([(P23, woQ), (P24, moQ)] : List (Addr × Str)), y.1 = z.1 → y.2 = z.2 := ⟨hD1, fun y hy z hz e => by
    simp only [List.mem_cons, List.not_mem_nil, or_false] at hy hz
    rcases hy with rfl | rfl <;> rcases hz with rfl | rfl <;> first | rfl | exact absurd e nx24_23 | exact absurd e.symm nx24_23⟩
  refine ⟨PySem.W.fnOf "law" "law" (defArgs s_law) (defBody s_law) (defScope s_law) .none kV51 dc51 pm51 an51 cd51 ct51, [(C2, P2), (C8, P8), (C12, P12), (C13, P13), (C14, P14), (C15, P15), (C18, P18), (C25, P25), (C35, P35), (C19, P19), (C23, P23), (C24, P24)], spLaw K (⟨[P2, P8, P12, P13, P14, P15, P18, P25, P35], P19, lamQ, [(P23, woQ), (P24, moQ)]⟩ : Tb), hT1, hT2, hT3, fun s v => .of_eq rfl, fun H a ns hl _ hT hS => ⟨a, ns, rfl, hS, Nat.lt_of_le_of_lt hl (by decide), ⟨fun P hP => ?_, LamX.TabS.nil (hT (C19, P19) (by simp)), ?hx, hD⟩, fun _ => rfl⟩, fun base _ _ TB => ?_⟩
  · have hP : P ∈ [P2, P8, P12, P13, P14, P15, P18, P25, P35] := hP
    rcases List.mem_cons.mp hP with e | hP
    · rw [e]
      exact ⟨#[], hT (C2, P2) (by simp), trivial⟩
    rcases List.mem_cons.mp hP with e | hP
    · rw [e]
      exact ⟨#[], hT (C8, P8) (by simp), trivial⟩
    rcases List.mem_cons.mp hP with e | hP
    · rw [e]
      exact ⟨#[], hT (C12, P12) (by simp), trivial⟩
    rcases List.mem_cons.mp hP with e | hP
    · rw [e]
      exact ⟨#[], hT (C13, P13) (by simp), trivial⟩
    rcases List.mem_cons.mp hP with e | hP
    · rw [e]
      exact ⟨#[], hT (C14, P14) (by simp), trivial⟩
    rcases List.mem_cons.mp hP with e | hP
    · rw [e]
      exact ⟨#[], hT (C15, P15) (by simp), trivial⟩
    rcases List.mem_cons.mp hP with e | hP
    · rw [e]
      exact ⟨#[], hT (C18, P18) (by simp), trivial⟩
    rcases List.mem_cons.mp hP with e | hP
    · rw [e]
      exact ⟨#[], hT (C25, P25) (by simp), trivial⟩
    rw [List.mem_singleton.mp hP]
    exact ⟨#[], hT (C35, P35) (by simp), trivial⟩
  case hx =>
    intro z hz
    simp only [List.mem_cons, List.not_mem_nil, or_false] at hz
    rcases hz with rfl | rfl
    · exact LamX.TabS.nil (hT (C23, P23) (by simp))
    · exact LamX.TabS.nil (hT (C24, P24) (by simp))
  have TB23 := TB (C23, P23) (by simp)
  have TB24 := TB (C24, P24) (by simp)
  have TB2 := tabB_of (TB (C2, P2) (by simp))
  have hP2 : P2 ∈ [P2, P8, P12, P13, P14, P15, P18, P25, P35] := by simp
  have TB8 := tabB_of (TB (C8, P8) (by simp))
  have hP8 : P8 ∈ [P2, P8, P12, P13, P14, P15, P18, P25, P35] := by simp
  have TB12 := tabB_of (TB (C12, P12) (by simp))
  have hP12 : P12 ∈ [P2, P8, P12, P13, P14, P15, P18, P25, P35] := by simp
  have TB13 := tabB_of (TB (C13, P13) (by simp))
  have hP13 : P13 ∈ [P2, P8, P12, P13, P14, P15, P18, P25, P35] := by simp
  have TB14 := tabB_of (TB (C14, P14) (by simp))
  have hP14 : P14 ∈ [P2, P8, P12, P13, P14, P15, P18, P25, P35] := by simp
  have TB15 := tabB_of (TB (C15, P15) (by simp))
  have hP15 : P15 ∈ [P2, P8, P12, P13, P14, P15, P18, P25, P35] := by simp
  have TB18 := tabB_of (TB (C18, P18) (by simp))
  have hP18 : P18 ∈ [P2, P8, P12, P13, P14, P15, P18, P25, P35] := by simp
  have TB25 := tabB_of (TB (C25, P25) (by simp))
  have hP25 : P25 ∈ [P2, P8, P12, P13, P14, P15, P18, P25, P35] := by simp
  have TB35 := tabB_of (TB (C35, P35) (by simp))
  have hP35 : P35 ∈ [P2, P8, P12, P13, P14, P15, P18, P25, P35] := by simp
  have TB19 := TB (C19, P19) (by simp)
  have TC : TgC K CC := ⟨⟨pg, hd, po, sa⟩, n1, n2, n3, n4, n5⟩
  have M : Mk K CC f52 := ⟨mk, a52, i52, kc⟩
  have GC : FnOk l.prog w K mg base CX0 1 f37 _ ["_law_script", "_law_k"] (spCell K) := ok_cell F37 m_len
  have GM : FnOk l.prog w K mg base CX0 1 f38 _ ["_law_number", "_law_k"] (spMixed) := ok_mixed F38
  have GB := ok_box F39 F37.kp b37 g37 GC F38.kp b38 g38 GM m_abs m_int
  have GT := ok_take F40 F38.kp b38 g38 GM
  have GTu : FnOk l.prog w K mg base CX0 3 f41 _ ["_law_box_here", "_law_row"] (spTurnV) := ok_turnV F41 F40.kp b40 g40 GT m_len m_list
  have GNo : FnOk l.prog w K mg base CX0 1 f43 _ [] (spTab K nouns14) := ok_l_nouns (k := 0) F43
  have GVe : FnOk l.prog w K mg base CX0 1 f44 _ [] (spTab K verbs14) := ok_l_verbs (k := 0) F44
  have GSg : FnOk l.prog w K mg base CX0 4 f45 _ ["_law_box_here"] (spSew K) := ok_sewing F45 F40.kp b40 g40 GT F41.kp b41 g41 GTu
  have GTl : FnOk l.prog w K mg base CX0 4 f46 _ ["_law_box_here"] (spTails K) := ok_tails F46 F41.kp b41 g41 GTu
  have GBl : FnOk l.prog w K mg base CX0 5 f47 _ ["_law_box_here"] (spBu K) := ok_built F47 F40.kp b40 g40 GT F41.kp b41 g41 GTu F43.kp b43 g43 GNo F44.kp b44 g44 GVe F46.kp b46 g46 GTl F45.kp b45 g45 GSg
  have GSa : ∀ n, FnOk l.prog w K mg base CX0 (n + 1) f42 _ ["_law_found", "_law_due_here"] (spSame K n) := ok_same F42 b42 g42 m_isinstance m_list m_tuple m_str m_int m_bool m_len m_range m_all
  have GTx : ∀ k, FnOk l.prog w K mg base CX0 (k + 1) f8 _ ["text", "most"] (spIsText (⟨[P2, P8, P12, P13, P14, P15, P18, P25, P35], P19, lamQ, [(P23, woQ), (P24, moQ)]⟩ : Tb)) := fun k => ok_isText (k := k) FC8 TB8 hP8 hF m_len m_all m_LETTERS
  have GNm : ∀ k, FnOk l.prog w K mg base CX0 (k + 2) f9 _ ["text"] (spIsName (⟨[P2, P8, P12, P13, P14, P15, P18, P25, P35], P19, lamQ, [(P23, woQ), (P24, moQ)]⟩ : Tb)) := fun k => ok_isName F9 F8.kp b8 g8 (GTx k)
  have GRk : ∀ k, FnOk l.prog w K mg base CX0 (k + 1) f10 _ ["number"] spIsRank := fun k => ok_isRank F10 m_MOST_RANK
  have GUn : ∀ k, FnOk l.prog w K mg base CX0 (k + 1) f11 _ ["things"] (spUnlike K) := fun k => ok_unlike F11 m_len m_set
  have GFe : FnOk l.prog w K mg base CX0 8 f12 _ ["feature"] (spIsFeature K (⟨[P2, P8, P12, P13, P14, P15, P18, P25, P35], P19, lamQ, [(P23, woQ), (P24, moQ)]⟩ : Tb)) := ok_isFeature (k := 2) FC12 TB12 hP12 hF m_len m_all m_MOST_VALUES F9.kp b9 g9 (GNm 2) F11.kp b11 g11 (GUn 2)
  have GKi : FnOk l.prog w K mg base CX0 7 f13 _ ["kind", "features"] (spIsKind K (⟨[P2, P8, P12, P13, P14, P15, P18, P25, P35], P19, lamQ, [(P23, woQ), (P24, moQ)]⟩ : Tb)) := ok_isKind (k := 1) FC13 TB13 hP13 hF m_len m_all m_MOST_FEATURES_OF_A_KIND F9.kp b9 g9 (GNm 1) F11.kp b11 g11 (GUn 1)
  have GSe : FnOk l.prog w K mg base CX0 8 f14 _ ["seam"] (spIsSeam K (⟨[P2, P8, P12, P13, P14, P15, P18, P25, P35], P19, lamQ, [(P23, woQ), (P24, moQ)]⟩ : Tb)) := ok_isSeam (k := 3) FC14 TB14 hP14 hF m_all F8.kp b8 g8 (GTx 3)
  have GML : FnOk l.prog w K mg base CX0 6 f15 _ ["marks", "names", "features"] (spMarksL (⟨[P2, P8, P12, P13, P14, P15, P18, P25, P35], P19, lamQ, [(P23, woQ), (P24, moQ)]⟩ : Tb)) := ok_marksL (k := 1) FC15 TB15 hP15 hF m_all
  have GMD : FnOk l.prog w K mg base CX0 6 f15 _ ["marks", "names", "features"] (spMarksD (⟨[P2, P8, P12, P13, P14, P15, P18, P25, P35], P19, lamQ, [(P23, woQ), (P24, moQ)]⟩ : Tb)) := ok_marksD (k := 1) FC15 TB15 hP15 hF m_all
  have GSt : FnOk l.prog w K mg base CX0 7 f16 _ ["stem", "features", "kinds"] (spIsStem K (⟨[P2, P8, P12, P13, P14, P15, P18, P25, P35], P19, lamQ, [(P23, woQ), (P24, moQ)]⟩ : Tb)) := ok_isStem (k := 1) F16 F9.kp b9 g9 (GNm 1) F10.kp b10 g10 (GRk 1) F15.kp b15 g15 GML
  have GEn : FnOk l.prog w K mg base CX0 7 f17 _ ["ending", "features"] (spIsEnding K (⟨[P2, P8, P12, P13, P14, P15, P18, P25, P35], P19, lamQ, [(P23, woQ), (P24, moQ)]⟩ : Tb)) := ok_isEnding (k := 1) F17 F9.kp b9 g9 (GNm 1) F8.kp b8 g8 (GTx 1) F10.kp b10 g10 (GRk 1) F15.kp b15 g15 GMD
  have GCo : FnOk l.prog w K mg base CX0 30 f18 _ ["thing"] (spCopied K (⟨[P2, P8, P12, P13, P14, P15, P18, P25, P35], P19, lamQ, [(P23, woQ), (P24, moQ)]⟩ : Tb) 4) := ok_copied FC18 TB18 hP18 hF b18 g18 m_isinstance m_dict m_list m_tuple 4
  have GRi : FnOk l.prog w K mg base CX0 1 f21 _ ["rules"] (spRing0) := ok_ring0 F21 m_enumerate
  have GFa : FnOk l.prog w K mg base CX0 10 f19 _ ["told"] (spFault K (⟨[P2, P8, P12, P13, P14, P15, P18, P25, P35], P19, lamQ, [(P23, woQ), (P24, moQ)]⟩ : Tb)) := ok_fault FC19 TB19 hF rfl m_enumerate F12.kp b12 g12 GFe F13.kp b13 g13 GKi F14.kp b14 g14 GSe F16.kp b16 g16 GSt F17.kp b17 g17 GEn F20 b20 g20 F21.kp b21 g21 GRi
  have GIn : FnOk l.prog w K mg base CX0 31 f52 _ ["self", "told"] (spInit K (⟨[P2, P8, P12, P13, P14, P15, P18, P25, P35], P19, lamQ, [(P23, woQ), (P24, moQ)]⟩ : Tb) CC) := ok_init F52 TC F18.kp b18 g18 GCo F19.kp b19 g19 GFa
  have GSw : FnOk l.prog w K mg base CX0 1 f1 _ ["seams", "stem", "ending"] (spSewn K) := ok_sewn F1 m_len
  have GTe : FnOk l.prog w K mg base CX0 2 f3 _ ["tongue", "stem", "ending"] (spText K CC) := ok_text F3 TC F1.kp b1 g1 GSw
  have GVo : FnOk l.prog w K mg base CX0 8 f2 _ ["tongue", "stem", "ending"] (spVals K (⟨[P2, P8, P12, P13, P14, P15, P18, P25, P35], P19, lamQ, [(P23, woQ), (P24, moQ)]⟩ : Tb) CC) := ok_vals (k := 0) FC2 TB2 hP2 hF TC m_len m_any m_tuple F3.kp b3 g3 GTe
  have GKf : FnOk l.prog w K mg base CX0 9 f6 _ ["tongue"] (spKept K (⟨[P2, P8, P12, P13, P14, P15, P18, P25, P35], P19, lamQ, [(P23, woQ), (P24, moQ)]⟩ : Tb) CC) := ok_kept F6 TC m_len m_range F2.kp b2 g2 GVo F3.kp b3 g3 GTe
  have GFo : FnOk l.prog w K mg base CX0 10 f4 _ ["tongue"] (spForms K (⟨[P2, P8, P12, P13, P14, P15, P18, P25, P35], P19, lamQ, [(P23, woQ), (P24, moQ)]⟩ : Tb) CC) := ok_forms F4 m_list F6.kp b6 g6 GKf
  have GTt : FnOk l.prog w K mg base CX0 10 f7 _ ["tongue"] (spTrees K (⟨[P2, P8, P12, P13, P14, P15, P18, P25, P35], P19, lamQ, [(P23, woQ), (P24, moQ)]⟩ : Tb) CC) := ok_trees F7 F6.kp b6 g6 GKf
  have GAn : FnOk l.prog w K mg base CX0 11 f5 _ ["tongue", "word"] (spAna K (⟨[P2, P8, P12, P13, P14, P15, P18, P25, P35], P19, lamQ, [(P23, woQ), (P24, moQ)]⟩ : Tb) CC) := ok_ana F5 TC m_list F7.kp b7 g7 GTt
  have GAw : FnOk l.prog w K mg base CX0 1 f28 _ ["tree"] (spAw K) := ok_aw (k := 0) F28 m_len m_enumerate
  have GOw : FnOk l.prog w K mg base CX0 3 f33 _ ["tongue", "tree", "inner"] (spOwW K (⟨[P2, P8, P12, P13, P14, P15, P18, P25, P35], P19, lamQ, [(P23, woQ), (P24, moQ)]⟩ : Tb) CC) := ok_owW (k := 0) F33 F3.kp b3 g3 GTe
  have GOc : FnOk l.prog w K mg base CX0 1 f36 _ ["tongue", "tree"] (spOc K CC) := ok_oc (k := 0) F36 TC
  have GOs : FnOk l.prog w K mg base CX0 9 f31 _ ["tongue", "tree", "inner"] (spOs K (⟨[P2, P8, P12, P13, P14, P15, P18, P25, P35], P19, lamQ, [(P23, woQ), (P24, moQ)]⟩ : Tb) CC) := ok_os (k := 0) F31 TC F2.kp b2 g2 GVo
  have GSp : ∀ k, FnOk l.prog w K mg base CX0 (k + 10) f30 _ ["tongue", "tree"] (spSp K (⟨[P2, P8, P12, P13, P14, P15, P18, P25, P35], P19, lamQ, [(P23, woQ), (P24, moQ)]⟩ : Tb) CC) := fun k => ok_sp (k := k + 8) FC30 m_len m_reversed m_range F28.kp b28 g28 GAw F31.kp b31 g31 (GOs.mono (by omega))
  have GSy : ∀ k, FnOk l.prog w K mg base CX0 (k + 11) f22 _ ["tongue", "tree"] (spSym0 K (⟨[P2, P8, P12, P13, P14, P15, P18, P25, P35], P19, lamQ, [(P23, woQ), (P24, moQ)]⟩ : Tb) CC) := fun k => ok_sym0 F22 F30.kp b30 g30 (GSp k)
  have GWs : FnOk l.prog w K mg base CX0 1 f27 _ ["tongue", "symbol"] (spWs K CC) := ok_ws (k := 0) F27 TC
  have GSn : FnOk l.prog w K mg base CX0 16 f26 _ ["tongue", "tree"] (spSen K (⟨[P2, P8, P12, P13, P14, P15, P18, P25, P35], P19, lamQ, [(P23, woQ), (P24, moQ)]⟩ : Tb) CC) := ok_sen (k := 14) F26 F30.kp b30 g30 (GSp 5) F27.kp b27 g27 GWs
  have GCs : FnOk l.prog w K mg base CX0 16 f25 _ ["tongue", "tree"] (spCo K (⟨[P2, P8, P12, P13, P14, P15, P18, P25, P35], P19, lamQ, [(P23, woQ), (P24, moQ)]⟩ : Tb) CC) := ok_co (k := 10) FC25 TB25 hP25 hF m_sum F22.kp b22 g22 (GSy 4) F36.kp b36 g36 GOc F28.kp b28 g28 GAw
  have GWf : FnOk l.prog w K mg base CX0 16 f23 _ ["tongue", "tree"] (spWf K (⟨[P2, P8, P12, P13, P14, P15, P18, P25, P35], P19, lamQ, [(P23, woQ), (P24, moQ)]⟩ : Tb) CC) := ok_wf (k := 10) FC23 TB23 (by simp) m_len m_reversed m_range F22.kp b22 g22 (GSy 4) F33.kp b33 g33 GOw F29 b29 g29 F28.kp b28 g28 GAw
  have GMo : FnOk l.prog w K mg base CX0 1 f32 _ ["tongue", "kind", "values"] (spMo K CC) := ok_mo (k := 0) F32 TC m_dict m_zip
  have GWm : FnOk l.prog w K mg base CX0 11 f35 _ ["tongue", "stem", "ending"] (spWm K (⟨[P2, P8, P12, P13, P14, P15, P18, P25, P35], P19, lamQ, [(P23, woQ), (P24, moQ)]⟩ : Tb) CC) := ok_wm FC35 TB35 hP35 hF TC m_sorted m_tuple F32.kp b32 g32 GMo F2.kp b2 g2 GVo
  have GOm : FnOk l.prog w K mg base CX0 12 f34 _ ["tongue", "tree", "inner"] (spOm K (⟨[P2, P8, P12, P13, P14, P15, P18, P25, P35], P19, lamQ, [(P23, woQ), (P24, moQ)]⟩ : Tb) CC) := ok_om (k := 11) F34 F35.kp b35 g35 GWm
  have GMe : FnOk l.prog w K mg base CX0 16 f24 _ ["tongue", "tree"] (spMe K (⟨[P2, P8, P12, P13, P14, P15, P18, P25, P35], P19, lamQ, [(P23, woQ), (P24, moQ)]⟩ : Tb) CC) := ok_me (k := 0) FC24 TB24 (by simp) m_len m_reversed m_range F22.kp b22 g22 (GSy 4) F34.kp b34 g34 GOm F29 b29 g29 F28.kp b28 g28 GAw
  have GWr : FnOk l.prog w K mg base CX0 2 f48 _ ["_law_stem", "_law_ending"] (spWr K) := ok_l_written (k := 0) F48 m_int F43.kp b43 g43 GNo F44.kp b44 g44 GVe
  have GDu : FnOk l.prog w K mg base CX0 3 f49 _ ["_law_told"] (spDue K) := ok_l_due (k := 1) F49 m_enumerate F48.kp b48 g48 GWr
  have GTr : FnOk l.prog w K mg base CX0 17 f50 _ ["_law_tongue", "_law_told", "_law_row"] (spTr K (⟨[P2, P8, P12, P13, P14, P15, P18, P25, P35], P19, lamQ, [(P23, woQ), (P24, moQ)]⟩ : Tb) CC) := ok_l_tree F50 F42.kp b42 g42 GSa F23.kp b23 g23 GWf F22.kp b22 g22 (GSy 4) F24.kp b24 g24 GMe F25.kp b25 g25 GCs F26.kp b26 g26 GSn
  exact ok_law F51 TC M mC F39.kp b39 g39 GB F47.kp b47 g47 GBl b52 GIn F49.kp b49 g49 GDu F40.kp b40 g40 GT F4.kp b4 g4 GFo F42.kp b42 g42 GSa F5.kp b5 g5 GAn F50.kp b50 g50 GTr F2.kp b2 g2 GVo m_range m_min m_len
end Bn

open PySem PySem.W PyProof.Rows
set_option maxHeartbeats 0 in
theorem PySem.Challenge.cw_speechloom_k14_whole_everyday_words_holds : PySem.Challenge.rw_speechloom_k14_whole_everyday_words.Holds := by
  w_on; o_law; k_head; (case hw => w_witness2)
  k_fill
  refine GX.walk_ofTabs (l := PySem.Challenge.rw_speechloom_k14_whole_everyday_words) (n := 63) (k := 33) (x := "_law_script") (CX := fun _ => L2.CX0) rfl (by decide) rfl ⟨rfl, by decide, by decide⟩ (fun w h Y => PySem.W.km_in_of Y) ?F (fun _ _ _ _ _ h => h)
  case F =>
    intro w mg fa h KX G hmg T
    refine' Bn.all_mk KX G hmg T ?a1 ?l1 ?c1 ?k1 ?a2 ?l2 ?c2 ?k2 ?a3 ?l3 ?c3 ?k3 ?a4 ?l4 ?c4 ?k4 ?a5 ?l5 ?c5 ?k5 ?a6 ?l6 ?c6 ?k6 ?a7 ?l7 ?c7 ?k7 ?a8 ?l8 ?c8 ?k8 ?a9 ?l9 ?c9 ?k9 ?a10 ?l10 ?c10 ?k10 ?a11 ?l11 ?c11 ?k11 ?a12 ?l12 ?c12 ?k12 ?a13 ?l13 ?c13 ?k13 ?a14 ?l14 ?c14 ?k14 ?a15 ?l15 ?c15 ?k15 ?a16 ?l16 ?c16 ?k16 ?a17 ?l17 ?c17 ?k17 ?a18 ?l18 ?c18 ?k18 ?a19 ?l19 ?c19 ?k19 ?a20 ?l20 ?c20 ?k20 ?a21 ?l21 ?c21 ?k21 ?a22 ?l22 ?c22 ?k22 ?a23 ?l23 ?c23 ?k23 ?a24 ?l24 ?c24 ?k24 ?a25 ?l25 ?c25 ?k25 ?a26 ?l26 ?c26 ?k26 ?a27 ?l27 ?c27 ?k27 ?a28 ?l28 ?c28 ?k28 ?a29 ?l29 ?c29 ?k29 ?a30 ?l30 ?c30 ?k30 ?a31 ?l31 ?c31 ?k31 ?a32 ?l32 ?c32 ?k32 ?a33 ?l33 ?c33 ?k33 ?a34 ?l34 ?c34 ?k34 ?a35 ?l35 ?c35 ?k35 ?a36 ?l36 ?c36 ?k36 ?a37 ?l37 ?c37 ?k37 ?a38 ?l38 ?c38 ?k38 ?a39 ?l39 ?c39 ?k39 ?a40 ?l40 ?c40 ?k40 ?a41 ?l41 ?c41 ?k41 ?a42 ?l42 ?c42 ?k42 ?a43 ?l43 ?c43 ?k43 ?a44 ?l44 ?c44 ?k44 ?a45 ?l45 ?c45 ?k45 ?a46 ?l46 ?c46 ?k46 ?a47 ?l47 ?c47 ?k47 ?a48 ?l48 ?c48 ?k48 ?a49 ?l49 ?c49 ?k49 ?a50 ?l50 ?c50 ?k50 ?a51 ?l51 ?c51 ?k51 ?aC ?a52 ?i52 ?l52 ?c52 ?k52 ?pg ?hd ?po ?sa ?mk ?kc ?n1 ?n2 ?n3 ?n4 ?n5 ?e1 ?e2 ?e3 ?e4 ?t2 ?r2 ?t8 ?r8 ?t12 ?r12 ?t13 ?r13 ?t14 ?r14 ?t15 ?r15 ?t18 ?r18 ?t25 ?r25 ?t35 ?r35 ?t19 ?r19 ?t23 ?r23 ?t24 ?r24 ?df ?dx23 ?dx24 ?z1 ?z2 ?z3 ?z4 ?z5 ?z6 ?z7 ?z8 ?z9 ?z10 ?z11 ?z12 ?z13 ?z14 ?z15 ?z16 ?z17 ?z18 ?z19
    (case a1 => k_is); (case l1 => k_is); (case c1 => k_is); (case k1 => k_is); (case a2 => k_is); (case l2 => k_is); (case c2 => k_is); (case k2 => k_is); (case a3 => k_is); (case l3 => k_is); (case c3 => k_is); (case k3 => k_is); (case a4 => k_is); (case l4 => k_is); (case c4 => k_is); (case k4 => k_is); (case a5 => k_is); (case l5 => k_is); (case c5 => k_is); (case k5 => k_is); (case a6 => k_is); (case l6 => k_is); (case c6 => k_is); (case k6 => k_is); (case a7 => k_is); (case l7 => k_is); (case c7 => k_is); (case k7 => k_is); (case a8 => k_is); (case l8 => k_is); (case c8 => k_is); (case k8 => k_is); (case a9 => k_is); (case l9 => k_is); (case c9 => k_is); (case k9 => k_is); (case a10 => k_is); (case l10 => k_is); (case c10 => k_is); (case k10 => k_is); (case a11 => k_is); (case l11 => k_is); (case c11 => k_is); (case k11 => k_is); (case a12 => k_is); (case l12 => k_is); (case c12 => k_is); (case k12 => k_is); (case a13 => k_is); (case l13 => k_is); (case c13 => k_is); (case k13 => k_is); (case a14 => k_is); (case l14 => k_is); (case c14 => k_is); (case k14 => k_is); (case a15 => k_is); (case l15 => k_is); (case c15 => k_is); (case k15 => k_is); (case a16 => k_is); (case l16 => k_is); (case c16 => k_is); (case k16 => k_is); (case a17 => k_is); (case l17 => k_is); (case c17 => k_is); (case k17 => k_is); (case a18 => k_is); (case l18 => k_is); (case c18 => k_is); (case k18 => k_is); (case a19 => k_is); (case l19 => k_is); (case c19 => k_is); (case k19 => k_is); (case a20 => k_is); (case l20 => k_is); (case c20 => k_is); (case k20 => k_is); (case a21 => k_is); (case l21 => k_is); (case c21 => k_is); (case k21 => k_is); (case a22 => k_is); (case l22 => k_is); (case c22 => k_is); (case k22 => k_is); (case a23 => k_is); (case l23 => k_is); (case c23 => k_is); (case k23 => k_is); (case a24 => k_is); (case l24 => k_is); (case c24 => k_is); (case k24 => k_is); (case a25 => k_is); (case l25 => k_is); (case c25 => k_is); (case k25 => k_is); (case a26 => k_is); (case l26 => k_is); (case c26 => k_is); (case k26 => k_is); (case a27 => k_is); (case l27 => k_is); (case c27 => k_is); (case k27 => k_is); (case a28 => k_is); (case l28 => k_is); (case c28 => k_is); (case k28 => k_is); (case a29 => k_is); (case l29 => k_is); (case c29 => k_is); (case k29 => k_is); (case a30 => k_is); (case l30 => k_is); (case c30 => k_is); (case k30 => k_is); (case a31 => k_is); (case l31 => k_is); (case c31 => k_is); (case k31 => k_is); (case a32 => k_is); (case l32 => k_is); (case c32 => k_is); (case k32 => k_is); (case a33 => k_is); (case l33 => k_is); (case c33 => k_is); (case k33 => k_is); (case a34 => k_is); (case l34 => k_is); (case c34 => k_is); (case k34 => k_is); (case a35 => k_is); (case l35 => k_is); (case c35 => k_is); (case k35 => k_is); (case a36 => k_is); (case l36 => k_is); (case c36 => k_is); (case k36 => k_is); (case a37 => k_is); (case l37 => k_is); (case c37 => k_is); (case k37 => k_is); (case a38 => k_is); (case l38 => k_is); (case c38 => k_is); (case k38 => k_is); (case a39 => k_is); (case l39 => k_is); (case c39 => k_is); (case k39 => k_is); (case a40 => k_is); (case l40 => k_is); (case c40 => k_is); (case k40 => k_is); (case a41 => k_is); (case l41 => k_is); (case c41 => k_is); (case k41 => k_is); (case a42 => k_is); (case l42 => k_is); (case c42 => k_is); (case k42 => k_is); (case a43 => k_is); (case l43 => k_is); (case c43 => k_is); (case k43 => k_is); (case a44 => k_is); (case l44 => k_is); (case c44 => k_is); (case k44 => k_is); (case a45 => k_is); (case l45 => k_is); (case c45 => k_is); (case k45 => k_is); (case a46 => k_is); (case l46 => k_is); (case c46 => k_is); (case k46 => k_is); (case a47 => k_is); (case l47 => k_is); (case c47 => k_is); (case k47 => k_is); (case a48 => k_is); (case l48 => k_is); (case c48 => k_is); (case k48 => k_is); (case a49 => k_is); (case l49 => k_is); (case c49 => k_is); (case k49 => k_is); (case a50 => k_is); (case l50 => k_is); (case c50 => k_is); (case k50 => k_is); (case a51 => k_is); (case l51 => k_is); (case c51 => k_is); (case k51 => k_is); (case aC => k_is); (case a52 => k_is); (case i52 => k_is); (case l52 => k_is); (case c52 => k_is); (case k52 => k_is); (case pg => k_is); (case hd => k_is); (case po => k_is); (case sa => k_is); (case mk => k_is); (case kc => k_is); (case n1 => k_is); (case n2 => k_is); (case n3 => k_is); (case n4 => k_is); (case n5 => k_is); (case e1 => k_is); (case e2 => k_is); (case e3 => k_is); (case e4 => k_is); (case z1 => k_is); (case z2 => k_is); (case z3 => k_is); (case z4 => k_is); (case z5 => k_is); (case z6 => k_is); (case z7 => k_is); (case z8 => k_is); (case z9 => k_is); (case z10 => k_is); (case z11 => k_is); (case z12 => k_is); (case z13 => k_is); (case z14 => k_is); (case z15 => k_is); (case z16 => k_is); (case z17 => k_is); (case z18 => k_is); (case z19 => k_is)
    case t2 => kernel_rfl
    case t8 => kernel_rfl
    case t12 => kernel_rfl
    case t13 => kernel_rfl
    case t14 => kernel_rfl
    case t15 => kernel_rfl
    case t18 => kernel_rfl
    case t25 => kernel_rfl
    case t35 => kernel_rfl
    case t19 => kernel_rfl
    case t23 => kernel_rfl
    case t24 => kernel_rfl
    case df => kernel_rfl
    case dx23 => kernel_rfl
    case dx24 => kernel_rfl
    case r2 => decide +kernel
    case r8 => decide +kernel
    case r12 => decide +kernel
    case r13 => decide +kernel
    case r14 => decide +kernel
    case r15 => decide +kernel
    case r18 => decide +kernel
    case r25 => decide +kernel
    case r35 => decide +kernel
    case r19 => decide +kernel
    case r23 => decide +kernel
    case r24 => decide +kernel
