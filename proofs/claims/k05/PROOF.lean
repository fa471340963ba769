import PyProof.Rows.All
import Wide.All
import OpenK.AllK
import Wide.FinOn
import HandS.ForMost
import HandS.IsInst
import HandS.Codes
import HandS.Conv
import HandS.Star
import HandS.DeepEq
import HandS.ListEq
import HandS.SetFor
import HandS.Flow
import KE.KDictSum
import HandS.Walk
import HandS.AnyAll
import HandS.GenList
import HandS.Words
import HandS.EndTab
import HandS.DictComp
import KE.GoesMore
import PySem.Challenge.RW_speechloom_k05_choices
import HandS.More
set_option Elab.async false
set_option linter.all false
set_option maxRecDepth 100000
set_option maxHeartbeats 4000000
/-! rules of my own over the hand layer -/
namespace PySem.SeqAt
open AutoSeq1 (wpAny_loadPart')
open MeetsSeq MeetsSeq2 MeetsSeq3 SeqRoads2
section
variable {prog : Program} {w : World}
theorem my_neLoop (l b : Addr) (us vs : Array Value) (n m : Nat) (du dv : Option Addr) (su sv : Array (Option Value)) (hz : us.size = vs.size) (k : Nat) : ∀ i : Nat, us.size - i = k →
    MeetsIn prog w (Builtin.«list.__eq__.loop» ⟨[.ref l, .ref b, rawInt i, rawInt 3], []⟩) (fun A R s =>
      s.heap.get? l = some { cls := .type "list", dict := du, data := .seq us n, slots := su } ∧ s.heap.get? b = some { cls := .type "list", dict := dv, data := .seq vs m, slots := sv } ∧
      (∀ j (p : j < us.size) (q : j < vs.size), EqP prog w A.in1 s us[j] vs[j] true) ∧ R (.ok (.ret (.bool false))) s) := by
  induction k with
  | zero =>
    intro i hk A R s h
    obtain ⟨hp, g, d, tk, os⟩ := s
    obtain ⟨hl, hb, he, h⟩ := h
    wp_walk using wpAny_loadPart' hl, wpAny_loadPart' hb
    have e1 : us[((i : Nat) : Int).toNat]? = none := by simp; omega
    have e2 : vs[((i : Nat) : Int).toNat]? = none := by simp; omega
    rw [e1, e2]
    wp_walk using wpAny_loadPart' hl, wpAny_loadPart' hb
    show R (.ok (.ret (.bool (us.size != vs.size)))) _
    rw [hz]
    simpa using h
  | succ k ih =>
    intro i hk A R s h
    obtain ⟨hp, g, d, tk, os⟩ := s
    obtain ⟨hl, hb, he, h⟩ := h
    wp_walk using wpAny_loadPart' hl, wpAny_loadPart' hb
    have p1 : i < us.size := by omega
    have p2 : i < vs.size := by omega
    have e1 : us[((i : Nat) : Int).toNat]? = some us[i] := by simp [p1]
    have e2 : vs[((i : Nat) : Int).toNat]? = some vs[i] := by simp [p2]
    have ec : ((i : Int) + 1) = ((i + 1 : Nat) : Int) := by push_cast; rfl
    rw [e1, e2]
    refine wpAny_bind (he i p1 p2 _ _ ?_)
    wp_walk
    rw [ec]
    exact ⟨plainId_quiet plain_eq_loop _, codeAny_builtin entry_eq_loop (by
      rw [Around.under_plainId plain_eq_loop _]
      exact ih (i + 1) (by omega) A R _ ⟨hl, hb, he, h⟩)⟩
theorem my_listNe (l b : Addr) (us vs : Array Value) (n m : Nat) (du dv : Option Addr) (su sv : Array (Option Value)) (hz : us.size = vs.size) :
    MeetsIn prog w (Builtin.«list.__ne__» ⟨[.ref l, .ref b], []⟩) (fun A R s =>
      s.heap.get? l = some { cls := .type "list", dict := du, data := .seq us n, slots := su } ∧ s.heap.get? b = some { cls := .type "list", dict := dv, data := .seq vs m, slots := sv } ∧
      (∀ j (p : j < us.size) (q : j < vs.size), EqP prog w A.in1 s us[j] vs[j] true) ∧ R (.ok (.ret (.bool false))) s) := by
  intro A R s h
  obtain ⟨hp, g, d, tk, os⟩ := s
  obtain ⟨hl, hb, he, h⟩ := h
  have f3 := AutoSeq1.sub_list_list
  have hn : ¬ (us.size != vs.size) = true := by simp [hz]
  wp_walk using wpAny_loadPart' hl, wpAny_loadPart' hb
  exact ⟨plainId_quiet plain_eq_loop _, codeAny_builtin entry_eq_loop (by
    rw [Around.under_plainId plain_eq_loop _]
    exact my_neLoop l b us vs n m du dv su sv hz _ 0 rfl A R _ ⟨hl, hb, he, h⟩)⟩
theorem my_rcNe {A : Around} {s : Shared} {l b : Addr} {us vs : Array Value} (hl : s.heap.IsList l us) (hb : s.heap.IsList b vs) (hz : us.size = vs.size) (hu : A.units < cLine)
    (he : ∀ j (p : j < us.size) (q : j < vs.size), EqP prog w A.in1 s us[j] vs[j] true) (E Q : Value → Shared → Prop) (h : Q (.bool false) s) : wpAny (model prog w) A (richCompare .NotEq (.ref l) (.ref b)) Q E s := by
  obtain ⟨⟨c1, du, x1, su⟩, ho, hc, n, hd⟩ := id hl
  obtain ⟨⟨c2, dv, x2, sv⟩, ho2, hc2, m, hd2⟩ := id hb
  simp only at hc hd hc2 hd2
  subst hc hd hc2 hd2
  have ta : s.TypeIs (.ref l) "list" := ⟨_, ho, rfl⟩
  have tb : s.TypeIs (.ref b) "list" := ⟨_, ho2, rfl⟩
  exact wpAny_richCompare_same_room (op := .NotEq) ta tb F.slot_list_ne (call_meetsIn F.slot_list_ne ta F.entry_list_ne (F.args_list_ne_2 _ _) (my_listNe l b us vs n m du dv su sv hz)
    ⟨ho, ho2, he, show Value.bool false ≠ Value.notImplemented ∧ Q (.bool false) s from ⟨(fun x => nomatch x), h⟩⟩) hu
end
end PySem.SeqAt
namespace BR
open PySem PySem.Spec PyProof.Rows L2
section
variable {X : Cx}
/-- two lists that are equal to the bottom: a != b is False -/
def rNeV (K : PySem.W.Frag) : R2 := fun x y H Q => ∃ a b xs ys n, x = .ref a ∧ y = .ref b ∧ SqL K H a xs ∧ SqL K H b ys ∧ n ≤ 60 ∧ Paired (EqV K H n) xs ys ∧ Q (.bl false) H
theorem op_neV (hu : X.A.units + 64 < cLine) : OpR X (compareOp .NotEq) (rNeV X.K) := by
  intro pins s σ H x y v u Q I rx ry h
  obtain ⟨a, b, xs, ys, n, rfl, rfl, ha, hb, hn, hp, q⟩ := h
  cases (show v = Value.ref a from rx)
  cases (show u = Value.ref b from ry)
  obtain ⟨us, r1, p1, _⟩ := I.list ha
  obtain ⟨ws, r2, p2, _⟩ := I.list hb
  have hz : us.toArray.size = ws.toArray.size := by
    rw [List.size_toArray, List.size_toArray, ← r1.length, ← r2.length]
    exact Paired.length hp
  refine SeqAt.my_rcNe p1.isList p2.isList hz (by omega) (fun j h1 h2 => ?_) _ _ ⟨.bl false, H, I, rfl, q⟩
  have k := items_run (eqV_run I n X.A.in1 (by show X.A.units + 1 + n < cLine; omega)) hp r1 r2 j (by simpa using h1) (by simpa using h2)
  simpa using k
/-! *d in a display: the keys of a dict -/
theorem star_dK {pins : List (Addr × Obj)} {σ : L2.St} {H : Hp} {s : Shared} {p : Addr} {kvs : List (Key × V)} {E : Value → Shared → Prop} {Q : List Value → Shared → Prop} (hc : X.calm = true) (I : Inv X pins σ H s) (hk : H p = some (.dK kvs))
    (hQ : ∀ us s', Inv X pins σ H s' → Vals (kvs.map fun kv => kV kv.1) us → Q us s') : PySem.W.StarOf (model X.prog X.w) X.A E (.ref p) Q s := by
  obtain ⟨z, lo, vs, rk, hd⟩ := (show ObjOk X.prog X.w H s.heap p (.dK kvs) from I.hok p _ hk)
  obtain ⟨ep, hat⟩ := hd.dictAt
  have hl : kvs.length = vs.length := Paired.length rk
  have hT : s.TypeIs (.ref p) "dict" := hd.typeIs
  have zz : wpAny (model X.prog X.w) X.A (collect (.ref p)) Q E s := by
    refine PySem.W.kdu_collect (PySem.W.kdl_dict (knd := mixKind X.prog X.w) (kvs := vs) (ep := ep) lo) (I.ok.hd hc) hat (by rw [← hl]; exact z) fun h' tk acc hkeep hacc => ?_
    refine hQ acc.toList _ (I.kept (t' := tk) hkeep) ?_
    have el : acc.toList.length = acc.size := by simp
    refine vals_of_at (by rw [List.length_map, el, hacc.1, hl]) fun j x w h1 h2 => ?_
    obtain ⟨k, y, hky, hi⟩ := hacc.2 j w (by rw [← Array.getElem?_toList]; exact h2)
    have e1 : (kvs.map (·.1))[j]? = some k := by
      rw [KV.keys rk, List.getElem?_map, hky] <;> rfl
    have e2 : (kvs.map fun kv => kV kv.1)[j]? = some (kV k) := by
      have e3 : (kvs.map fun kv => kV kv.1) = (kvs.map (·.1)).map kV := by rw [List.map_map] <;> rfl
      rw [e3, List.getElem?_map, e1] <;> rfl
    rw [e2] at h1
    cases h1
    exact keyIs_rel hi
  unfold PySem.W.StarOf notIterableAtAll
  exact wpAny_bind (wpAny_specialOf hT PySem.F.slot_dict_iter.lookup (wpAny_pure ⟨rfl, zz⟩))
def tStarD (te : TE) (t : TA) : TA := fun σ H Q => te σ H fun x H1 => ∃ p kvs, x = V.ref p ∧ H1 p = some (.dK kvs) ∧ t σ H1 fun ys H2 => Q ((kvs.map fun kv => kV kv.1) ++ ys) H2
theorem pa_starD {e : Expr} {es : List Expr} {te : TE} {t : TA} {p : Pos} (hc : X.calm = true) (he : PE X e te) (hr : PA X es t) (hs : starEach (.Starred e p :: es) X.env = (true, eval e X.env) :: starEach es X.env := by rfl) : PA X (.Starred e p :: es) (tStarD te t) := by
  refine ⟨fun pos pins s σ H Q I h => ?_⟩
  refine PySem.W.items_star (thn (he.run pins s σ H _ I h) fun v s1 ⟨y, H1, I1, ry, a, kvs, ey, hx, q⟩ => ?_) hs
  subst ey
  obtain rfl : v = Value.ref a := ry
  refine star_dK hc I1 hx fun us s2 I2 rv => ?_
  exact thn (hr.run pos pins s2 σ H1 _ I2 q) fun ws s3 ⟨vs, H3, I3, r3, q3⟩ => ⟨_ ++ vs, H3, I3, rv.append r3, q3⟩
/-! rules whose reading names the written part, said with a letter for it (for the block of a comprehension) -/
theorem call_listK {K : PySem.W.Frag} (e : X.K = K) : CallR X (.type "list") (fun xs H Q => ∃ p ys, xs = [.ref p] ∧ (SqL K H p ys ∨ SqT K H p ys) ∧ ∀ l, H l = none → Q (.ref l) (upd H l (.lst ys))) := by
  subst e
  exact call_list_of
theorem op_inK {K : PySem.W.Frag} (e : X.K = K) : OpR X (compareOp .In) (rIn K false) := by
  subst e
  exact op_in_seq
theorem pt_truthK {K : PySem.W.Frag} {a : Expr} {ta : TE} (e : X.K = K) (ha : PE X a ta) (he : ∀ whole, isTrue a X.env whole = (do let v ← whole; standAt a.pos; holding [v] (truthy v))) :
    PT X a (fun σ H Q => ta σ H fun x H' => ∃ k, TruV K x H' k ∧ Q k H') := by
  subst e
  exact pt_truth ha he
theorem call_isiX {K : PySem.W.Frag} (e : X.K = K) : CallR X (.builtin "isinstance") (rIsi K) := by
  subst e
  exact call_isi
theorem pe_bmK {K : PySem.W.Frag} {o e : Expr} {es : List Expr} {to : TE} {t : TA} {name : Str} {apos cpos : Pos} {T id : String} {r : V → List V → Hp → VK → Prop} (eK : X.K = K)
    (pa : PlainAttrs T) (slot : Slot T name id) (hty : typeOf (.builtin id) = pure (.type "method_descriptor")) (hm : MtR X id r) (ho : PE X o to) (ha : PA X (e :: es) t)
    (h1 : attributeBase o name X.env (eval o X.env) = eval o X.env := by rfl)
    (h2 : ((backTo cpos (starEach (e :: es) X.env)).all (fun x => !x.1) && (backToKw cpos (keywordEach [] X.env)).all (fun x => x.1.isSome) && decide ((e :: es).length + ([] : List Keyword).length + (if ([] : List Keyword).isEmpty then 0 else 1) < 30)) = true := by rfl)
    (h3 : (apos.endLine == cpos.line) = true := by rfl) (h4 : starEach (e :: es) X.env = (false, eval e X.env) :: starEach es X.env := by rfl) (h5 : (backTo cpos (starEach es X.env)).any (·.1) = false := by rfl) :
    PE X (.Call (.Attribute o name apos) (e :: es) [] cpos) (tBM K T r to t) := by
  subst eK
  exact pe_bm pa slot hty hm ho ha h1 h2 h3 h4 h5
/-! list.count of a text in a list of texts -/
def eqsT (z : Str) : Value → Bool
  | .str y _ => y == z
  | _ => false
theorem eqsT_count {z : Str} : ∀ {ss : List Str} {us : List Value}, Vals (ss.map V.str) us → us.countP (eqsT z) = ss.count z
  | [], _, r => by cases r; rfl
  | y :: ss, _, r => by
    cases r with
    | cons h t =>
      obtain ⟨k, rfl⟩ := h
      rw [List.countP_cons, List.count_cons, eqsT_count t]
      rfl
theorem eqsT_at {A : Around} {s : Shared} {z : Str} {t : Tok} : ∀ {ss : List Str} {us : List Value}, Vals (ss.map V.str) us → ∀ y ∈ us, SeqAt.EqAt A s y (.str z t) (eqsT z y)
  | [], _, r, y, hy => by cases r; cases hy
  | x :: ss, _, r, y, hy => by
    cases r with
    | cons h q =>
      obtain ⟨k, rfl⟩ := h
      rcases List.mem_cons.mp hy with rfl | e
      · exact SeqAt.EqAt.str_str _ _ _ _
      · exact eqsT_at q y e
theorem mt_countS : MtR X "list.count" (fun x vs H Q => ∃ (p : Addr) (ss : List Str) (z : Str), x = .ref p ∧ vs = [.str z] ∧ SqL X.K H p (ss.map V.str) ∧ Q (.int (ss.count z : Nat)) H) := by
  intro pins s σ H x xs v us Q I rx rxs h
  obtain ⟨p, ss, z, rfl, rfl, hs, q⟩ := h
  cases rx
  obtain ⟨u, rfl, ru⟩ := rxs.one
  obtain ⟨t, rfl⟩ := ru
  obtain ⟨its, rv, ⟨⟨c1, dd, x1, sl⟩, n, ho, hc, hdn, hd⟩, hlen⟩ := I.list hs
  simp only at hc hd
  subst hc hd
  refine call_meets PySem.F.slot_list_count ⟨_, ho, rfl⟩ PySem.F.entry_list_count (PySem.F.args_list_count_2 _ _)
    (SeqAt.list_countAt p its.toArray n dd sl (.str z t) (eqsT z)) ⟨ho, fun y hy => eqsT_at rv y (by simpa using hy), ?_⟩
  have ec : its.toArray.toList.countP (eqsT z) = ss.count z := eqsT_count rv
  refine ⟨.int (ss.count z : Nat), H, I.tok _, ⟨s.toks, ?_⟩, q⟩
  show Value.int ((its.toArray.toList.countP (eqsT z) : Nat) : Int) s.toks = Value.int ((ss.count z : Nat) : Int) s.toks
  rw [ec]
theorem mt_countK {K : PySem.W.Frag} (e : X.K = K) : MtR X "list.count" (fun x vs H Q => ∃ (p : Addr) (ss : List Str) (z : Str), x = .ref p ∧ vs = [.str z] ∧ SqL K H p (ss.map V.str) ∧ Q (.int (ss.count z : Nat)) H) := by
  subst e
  exact mt_countS
end
end BR

namespace Bn
open PySem PySem.Spec PyProof.Rows L2 BR
/-! ### heaps -/
def Kp (b : Addr) (H H' : Hp) : Prop := ∀ a o, a ≠ b → H a = some o → H' a = some o
theorem Kp.refl (b : Addr) (H : Hp) : Kp b H H := fun _ _ _ h => h
theorem Kp.trans {b : Addr} {H H1 H2 : Hp} (x : Kp b H H1) (y : Kp b H1 H2) : Kp b H H2 := fun a o n h => y a o n (x a o n h)
theorem Kp.put {b : Addr} {H : Hp} {o : HO} : Kp b H (upd H b o) := fun a x n h => by
  rw [upd_ne n]
  exact h
theorem Kp.new {b p : Addr} {H : Hp} {o : HO} (h : H p = none) : Kp b H (upd H p o) := fun a x n e => by
  rw [upd_ne (ne_of_none e h)]
  exact e
theorem same_new {H : Hp} {p : Addr} {o : HO} (h : H p = none) : Same H (upd H p o) := fun b x e => by
  rw [upd_ne (ne_of_none e h)]
  exact e
theorem Kp.of_same {b : Addr} {H H' : Hp} (h : Same H H') : Kp b H H' := fun a o _ e => h a o e
theorem Same.kp {b : Addr} {H0 H H' : Hp} (s : Same H0 H) (n : H0 b = none) (k : Kp b H H') : Same H0 H' := fun a o e => k a o (ne_of_none e n) (s a o e)
/-- what is new is changed -/
theorem Same.own {p : Addr} {H0 H : Hp} {o : HO} (s : Same H0 H) (n : H0 p = none) : Same H0 (upd H p o) := fun a x e => by
  rw [upd_ne (ne_of_none e n)]
  exact s a x e
def Bx (H : Hp) (b : Addr) : Prop := ∃ x y z t : Int, H b = some (.lst [.int x, .int y, .int z, .int t])
theorem Bx.same {H H' : Hp} {b : Addr} (h : Bx H b) (s : Same H H') : Bx H' b := by
  obtain ⟨x, y, z, t, e⟩ := h
  exact ⟨x, y, z, t, s _ _ e⟩
theorem Bx.ne {H : Hp} {b p : Addr} (h : Bx H b) (n : H p = none) : b ≠ p := by
  obtain ⟨x, y, z, t, e⟩ := h
  exact ne_of_none e n
structure Kb (b : Addr) (H H' : Hp) : Prop where
  k : Kp b H H'
  x : Bx H' b
theorem Kb.refl {b : Addr} {H : Hp} (h : Bx H b) : Kb b H H := ⟨Kp.refl b H, h⟩
theorem Kb.trans {b : Addr} {H H1 H2 : Hp} (p : Kb b H H1) (q : Kb b H1 H2) : Kb b H H2 := ⟨p.k.trans q.k, q.x⟩
theorem Kb.new {b p : Addr} {H : Hp} {o : HO} (hb : Bx H b) (h : H p = none) : Kb b H (upd H p o) := ⟨Kp.new h, hb.same (same_new h)⟩
theorem Kb.free {b a : Addr} {H H' : Hp} (p : Kb b H H') (h : H' a = none) : H a = none := by
  cases e : H a with
  | none => rfl
  | some o =>
    by_cases q : a = b
    · subst q
      obtain ⟨x, y, z, t, e2⟩ := p.x
      rw [e2] at h
      cases h
    · rw [p.k a o q e] at h
      cases h
theorem Kb.own {b p : Addr} {H H' : Hp} {o : HO} (q : Kb b H H') (h : H p = none) (n : p ≠ b) : Kb b H (upd H' p o) := ⟨fun a x na e => by
  rw [upd_ne (ne_of_none e h)]
  exact q.k a x na e, by
  obtain ⟨x, y, z, t, e2⟩ := q.x
  exact ⟨x, y, z, t, by rw [upd_ne n.symm]; exact e2⟩⟩
theorem line1000 {n : Nat} (h : n ≤ 1000) : n ≤ sizeLine := Nat.le_of_lt (small1000 h)
theorem tYes_in {σ : L2.St} {H : Hp} {f g : Hp → Prop} (h : f H) : tYes σ H fun b H3 => if b = true then f H3 else g H3 := by
  show (if true = true then f H else g H)
  exact iteT h
def lenAt (H : Hp) (l : Addr) : Nat := match H l with
  | some (.lst xs) => xs.length
  | _ => 0
theorem lenAt_of {H : Hp} {l : Addr} {xs : List V} (h : H l = some (.lst xs)) : lenAt H l = xs.length := by
  unfold lenAt
  rw [h]
theorem ne_bx {H : Hp} {b p : Addr} {o : HO} (hb : Bx H b) (h : H p = some o) (hn : ∀ x y z t : Int, o ≠ .lst [.int x, .int y, .int z, .int t]) : p ≠ b := fun e => by
  obtain ⟨x, y, z, t, e2⟩ := hb
  rw [e, e2] at h
  exact hn x y z t (Option.some.inj h).symm
/-! ### texts -/
def okS (x : Str) : Prop := ∀ c ∈ TL.tl x, c < 0x110000
theorem okS_iff (x : Str) : PyData.strOk x = true ↔ okS x := by
  unfold PyData.strOk okS TL.tl
  rw [← Array.all_toList, List.all_eq_true]
  exact ⟨fun h c hc => of_decide_eq_true (h c hc), fun h c hc => decide_eq_true (h c hc)⟩
theorem strs_shaped : ∀ (vs : List Str), (∀ x ∈ vs, okS x) → PyData.canLayAll0 (vs.map PyData.str) = true ∧ PyData.depthAll (vs.map PyData.str) = 0
  | [], _ => ⟨rfl, rfl⟩
  | v :: vs, h => by
    obtain ⟨a, b⟩ := strs_shaped vs fun x hx => h x (List.mem_cons_of_mem _ hx)
    refine ⟨?_, ?_⟩
    · show (PyData.strOk v && PyData.canLayAll0 (vs.map PyData.str)) = true
      rw [a, (okS_iff v).mpr (h v (List.mem_cons_self ..))]
      rfl
    · show max 0 (PyData.depthAll (vs.map PyData.str)) = 0
      rw [b]
      rfl
theorem strs_list_shaped {vs : List Str} (h : ∀ x ∈ vs, okS x) : SeqAt.shaped (.list (vs.map PyData.str)) = true := by
  obtain ⟨a, b⟩ := strs_shaped vs h
  show (PyData.canLayAll0 (vs.map PyData.str) && decide (PyData.depthAll (vs.map PyData.str) + 1 ≤ 64)) = true
  rw [a, b]
  rfl
theorem strs_dp {K : PySem.W.Frag} {H : Hp} : ∀ (vs : List Str), DpAll K H (vs.map V.str) (vs.map PyData.str)
  | [] => .nil
  | v :: vs => .cons (.str v) (strs_dp vs)
theorem strs_nil (vs : List Str) : PyData.eqv (.list (vs.map PyData.str)) (.list []) = vs.isEmpty := by
  cases vs with
  | nil => rfl
  | cons v r => rfl
theorem strs_all {ws : List Str} : ∀ {ys : List V}, (∀ y ∈ ys, y ∈ ws.map V.str) → ∃ vs : List Str, ys = vs.map V.str ∧ ∀ v ∈ vs, v ∈ ws
  | [], _ => ⟨[], rfl, fun v hv => by cases hv⟩
  | y :: ys, h => by
    obtain ⟨vs, e, hv⟩ := strs_all (ys := ys) fun z hz => h z (List.mem_cons_of_mem _ hz)
    obtain ⟨x, hx, ex⟩ := List.mem_map.mp (h y (List.mem_cons_self ..))
    refine ⟨x :: vs, ?_, fun v hv' => ?_⟩
    · rw [List.map_cons, ex, e]
    · rcases List.mem_cons.mp hv' with rfl | q
      · exact hx
      · exact hv v q
theorem map_str_inj : ∀ {vs ws : List Str}, vs.map V.str = ws.map V.str → vs = ws
  | [], [], _ => rfl
  | [], _ :: _, h => by cases h
  | _ :: _, [], h => by cases h
  | v :: vs, w :: ws, h => by
    rw [List.map_cons, List.map_cons] at h
    injection h with h1 h2
    rw [V.str.inj h1, map_str_inj h2]
theorem strs_ne_ints {vs : List Str} (h : 1 ≤ vs.length) : ∀ x y z t : Int, HO.lst (vs.map V.str) ≠ .lst [.int x, .int y, .int z, .int t] := fun x y z t e => by
  cases vs with
  | nil => exact absurd h (by decide)
  | cons v r =>
    injection e with e1
    rw [List.map_cons] at e1
    injection e1 with e2 _
    cases e2
/-! ### features -/
structure FtD where
  n : Str
  vs : List Str
  t : Bool
def FtB (d : FtD) : Prop := 1 ≤ d.vs.length ∧ d.vs.length ≤ 6 ∧ okS d.n ∧ ∀ x ∈ d.vs, okS x
def Ft (H : Hp) (v : V) : Prop := ∃ p l d, v = .ref p ∧ H p = some (.tup [.str d.n, .ref l, .bl d.t]) ∧ H l = some (.lst (d.vs.map V.str)) ∧ FtB d
theorem Ft.kp {b : Addr} {H H' : Hp} {v : V} (h : Ft H v) (hb : Bx H b) (k : Kp b H H') : Ft H' v := by
  obtain ⟨p, l, d, rfl, e1, e2, hB⟩ := h
  exact ⟨p, l, d, rfl, k _ _ (ne_bx hb e1 (fun _ _ _ _ z => by cases z)) e1, k _ _ (ne_bx hb e2 (strs_ne_ints hB.1)) e2, hB⟩
theorem Ft.same {H H' : Hp} {v : V} (h : Ft H v) (s : Same H H') : Ft H' v := by
  obtain ⟨p, l, d, rfl, e1, e2, hB⟩ := h
  exact ⟨p, l, d, rfl, s _ _ e1, s _ _ e2, hB⟩
def NameOf (H : Hp) (v : V) (n : Str) : Prop := ∃ p l t, v = .ref p ∧ H p = some (.tup [.str n, .ref l, .bl t])
/-! ### bundles -/
abbrev BD := List (Str × List Str)
inductive Ents (H : Hp) : List (Key × V) → BD → Prop
  | nil : Ents H [] []
  | cons {l : Addr} {n : Str} {vs : List Str} {kvs : List (Key × V)} {b : BD} : H l = some (.lst (vs.map V.str)) → Ents H kvs b → Ents H ((.inr n, .ref l) :: kvs) ((n, vs) :: b)
theorem Ents.mono {H H' : Hp} {kvs : List (Key × V)} {b : BD} (h : Ents H kvs b) (s : ∀ l xs, H l = some (.lst xs) → (∃ n, (n, V.ref l) ∈ kvs) → H' l = some (.lst xs)) : Ents H' kvs b := by
  induction h with
  | nil => exact .nil
  | cons e _ ih => exact .cons (s _ _ e ⟨_, List.mem_cons_self ..⟩) (ih fun l xs h ⟨n, hm⟩ => s l xs h ⟨n, List.mem_cons_of_mem _ hm⟩)
theorem Ents.same {H H' : Hp} {kvs : List (Key × V)} {b : BD} (h : Ents H kvs b) (s : Same H H') : Ents H' kvs b := h.mono fun l xs e _ => s _ _ e
theorem Ents.length {H : Hp} {kvs : List (Key × V)} {b : BD} (h : Ents H kvs b) : kvs.length = b.length := by
  induction h with
  | nil => rfl
  | cons _ _ ih => simp [ih]
theorem Ents.keys {H : Hp} {kvs : List (Key × V)} {b : BD} (h : Ents H kvs b) : kvs.map (·.1) = b.map fun e => Sum.inr e.1 := by
  induction h with
  | nil => rfl
  | cons _ _ ih => rw [List.map_cons, List.map_cons, ih]
theorem Ents.get {H : Hp} {kvs : List (Key × V)} {b : BD} (h : Ents H kvs b) : ∀ {i : Nat} {k : Key} {v : V}, kvs[i]? = some (k, v) → ∃ n l vs, k = .inr n ∧ v = .ref l ∧ H l = some (.lst (vs.map V.str)) ∧ b[i]? = some (n, vs) := by
  induction h with
  | nil => intro i k v e; simp at e
  | cons hl _ ih =>
    intro i k v e
    cases i with
    | zero =>
      have e' := Option.some.inj e
      cases e'
      exact ⟨_, _, _, rfl, rfl, hl, rfl⟩
    | succ j => exact ih e
theorem Ents.app {H : Hp} {kvs ls : List (Key × V)} {b c : BD} (h : Ents H kvs b) (k : Ents H ls c) : Ents H (kvs ++ ls) (b ++ c) := by
  induction h with
  | nil => exact k
  | cons e _ ih => exact .cons e ih
/-- the values of a name, or none -/
def at? (b : BD) (n : Str) : Option (List Str) := (b.find? fun e => decide (e.1 = n)).map (·.2)
theorem at?_nil (n : Str) : at? [] n = none := rfl
theorem at?_cons (e : Str × List Str) (b : BD) (n : Str) : at? (e :: b) n = if e.1 = n then some e.2 else at? b n := by
  unfold at?
  rw [List.find?_cons]
  by_cases h : e.1 = n
  · rw [if_pos h, decide_eq_true h]
    rfl
  · rw [if_neg h, decide_eq_false h]
theorem Ents.val {H : Hp} {kvs : List (Key × V)} {b : BD} (h : Ents H kvs b) (n : Str) : (at? b n = none ∧ valV kvs (.inr n) = none) ∨ ∃ l vs, at? b n = some vs ∧ valV kvs (.inr n) = some (.ref l) ∧ H l = some (.lst (vs.map V.str)) ∧ (Sum.inr n, V.ref l) ∈ kvs := by
  induction h with
  | nil => exact .inl ⟨rfl, rfl⟩
  | @cons l m vs kvs b e _ ih =>
    by_cases q : m = n
    · subst q
      exact .inr ⟨l, vs, by rw [at?_cons, if_pos rfl], valV_pos rfl, e, List.mem_cons_self ..⟩
    · have q2 : ¬ (Sum.inr m : Key) = Sum.inr n := fun z => q (Sum.inr.inj z)
      rcases ih with ⟨h1, h2⟩ | ⟨l', vs', h1, h2, h3, h4⟩
      · exact .inl ⟨by rw [at?_cons, if_neg q]; exact h1, by rw [valV_neg q2]; exact h2⟩
      · exact .inr ⟨l', vs', by rw [at?_cons, if_neg q]; exact h1, by rw [valV_neg q2]; exact h2, h3, List.mem_cons_of_mem _ h4⟩
theorem at?_none_iff (b : BD) (n : Str) : at? b n = none ↔ n ∉ b.map (·.1) := by
  induction b with
  | nil => exact ⟨fun _ h => (nomatch h), fun _ => rfl⟩
  | cons e b ih =>
    rw [at?_cons, List.map_cons, List.mem_cons]
    by_cases h : e.1 = n
    · rw [if_pos h]
      exact ⟨fun z => by (cases z), fun z => absurd (Or.inl h.symm) z⟩
    · rw [if_neg h, ih]
      exact ⟨fun z q => q.elim (fun y => h y.symm) z, fun z y => z (.inr y)⟩
/-- a bundle's dict: names unlike, lists of one to twenty texts -/
def BdB (b : BD) : Prop := (b.map (·.1)).Nodup ∧ b.length ≤ 200 ∧ ∀ e ∈ b, okS e.1 ∧ 1 ≤ e.2.length ∧ e.2.length ≤ 20 ∧ ∀ x ∈ e.2, okS x
def Bd (H : Hp) (a : Addr) (b : BD) : Prop := ∃ kvs, H a = some (.dK kvs) ∧ Ents H kvs b ∧ BdB b
theorem Bd.same {H H' : Hp} {a : Addr} {b : BD} (h : Bd H a b) (s : Same H H') : Bd H' a b := by
  obtain ⟨kvs, e, x, y⟩ := h
  exact ⟨kvs, s _ _ e, x.same s, y⟩
theorem Ents.vals {H : Hp} {kvs : List (Key × V)} {b : BD} (h : Ents H kvs b) : ∀ {n : Key} {l : Addr}, (n, V.ref l) ∈ kvs → ∃ e ∈ b, H l = some (.lst (e.2.map V.str)) := by
  induction h with
  | nil => intro n l hm; cases hm
  | @cons l' m vs kvs b e _ ih =>
    intro n l hm
    rcases List.mem_cons.mp hm with q | q
    · cases q
      exact ⟨_, List.mem_cons_self .., e⟩
    · obtain ⟨x, hx, hl⟩ := ih q
      exact ⟨x, List.mem_cons_of_mem _ hx, hl⟩
theorem Bd.kp {b : Addr} {H H' : Hp} {a : Addr} {d : BD} (h : Bd H a d) (hb : Bx H b) (k : Kp b H H') : Bd H' a d := by
  obtain ⟨kvs, e, x, y⟩ := h
  refine ⟨kvs, k _ _ (ne_bx hb e (fun _ _ _ _ z => by cases z)) e, x.mono fun l xs hl ⟨n, hm⟩ => k _ _ ?_ hl, y⟩
  obtain ⟨e', he', hl'⟩ := x.vals hm
  exact ne_bx hb hl' (strs_ne_ints (y.2.2 e' he').2.1)
theorem rd_lock {H : Hp} {a d : Addr} {u v : HO} {o : Obj} (ha : H a = some v) (hd : H d = some u) : Rd (upd H d (.frz o u)) a v := by
  by_cases e : a = d
  · subst e
    rw [ha] at hd
    cases hd
    exact .inr ⟨o, upd_same⟩
  · exact .inl (by rw [upd_ne e]; exact ha)
theorem unlock {H : Hp} {d : Addr} {u : HO} {o : Obj} (hd : H d = some u) : upd (upd H d (.frz o u)) d u = H := by
  funext x
  by_cases e : x = d
  · subst e
    rw [upd_same, hd]
  · rw [upd_ne e, upd_ne e]
end Bn

/-! all(elt for target in iter if ..), the element by the layer's own rules, over anything that is walked; the heap may move -/
namespace GX
open PySem PySem.Spec PyProof.Rows L2 GenW

/-- the context of a generator expression's frame that was made at s -/
abbrev gcx (X : Cx) (s : Shared) (H : Hp) (cenv : Env) (fp : List Addr) : Cx :=
  { X with A := X.A.in1.in1.deeper cenv, s_0 := s, H_0 := H, env := cenv, outer := X.stack, stack := cenv :: X.stack, ex := fp, fn := fun _ => false, pn := [], xe := fun _ _ => False }

section
variable {X : Cx} {pins : List (Addr × Obj)} {σ : L2.St} {H : Hp} {s : Shared}
theorem gen_start {scope : Scope} {own : List (Str × Nat)} {fp : List Addr} {h' : Heap} {mm : Str → Option Value} {G : Array GenState} {tk : Nat} {code : Value} (J : Inv X pins σ H s) (blk : BlkOk X.N X.env.scope scope own) (nc : ∀ y ∈ scope.names, y.2 ≠ .cell) (nd : X.N.Nodup)
    (walked : ∀ p ∈ fp, FpOk X pins H p ∧ p < s.heap.objs.size) (frame : h'.Ns s.heap.objs.size mm) (up : ∀ p u, s.heap.get? p = some u → h'.get? p = some u) (bare : AllBare G) :
    Inv (gcx X s H (genEnv scope (cloFrom X.env.cells scope.names []) s.heap.objs.size code builtinsNs X.env) fp) [] (wipe σ (own.map (·.2))) H { s with heap := h', gens := G, toks := tk } := by
  have caught : ∀ n ∈ scope.names, n.2 = .free → ∃ c, X.env.cells.lookup n.1 = some c := fun n hn hf =>
    J.ok.has _ ((blk.free n hn hf).elim .inl .inr)
  -- the closure holds cells of the def alone
  have clo : ∀ {n c}, (n, c) ∈ cloFrom X.env.cells scope.names [] → X.env.cells.lookup n = some c ∧ c < s.heap.objs.size := fun {n c} hin => by
    rcases cloFrom_mem hin with none' | ⟨isFree, rfl⟩
    · exact absurd none' List.not_mem_nil
    · obtain ⟨c₀, at₀⟩ := caught _ isFree rfl
      obtain ⟨val, stands⟩ := J.cell _ _ at₀
      rw [at₀]
      exact ⟨rfl, stands.lt⟩
  generalize env' : genEnv scope (cloFrom X.env.cells scope.names []) s.heap.objs.size code builtinsNs X.env = ge
  have gL : ge.locals = s.heap.objs.size := env' ▸ rfl
  have gC : ge.cells = cloFrom X.env.cells scope.names [] := env' ▸ rfl
  have gS : ge.scope = scope := env' ▸ rfl
  have gF : ge.frame = some ge.locals := env' ▸ rfl
  have down : ∀ {n c}, ge.cells.lookup n = some c → X.env.cells.lookup n = some c ∧ c < s.heap.objs.size := fun {n c} q =>
    clo (PySem.mem_of_lookup (gC ▸ q))
  have freeAt : ∀ {n}, scope.names.lookup n = some .free → ∃ c, ge.cells.lookup n = some c ∧ X.env.cells.lookup n = some c := fun {n} q => by
    obtain ⟨c, inGe⟩ := mem_lookup (cloFrom_has (cells := X.env.cells) (acc := []) (PySem.mem_of_lookup q))
    have inGe' : ge.cells.lookup n = some c := gC ▸ inGe
    exact ⟨c, inGe', (down inGe').1⟩
  have wOk : (gcx X s H ge fp).Ok := {
    mod := J.ok.mod
    kind := by show ge.scope.kind = _; rw [gS]; exact blk.kind
    glob := by show ge.globals = _; rw [← env']; exact J.ok.glob
    blt := by show ge.builtins = _; rw [← env']; rfl
    above := Nat.le_of_eq gL.symm
    inj := fun n n' c q q' => J.ok.inj n n' c (down q).1 (down q').1
    has := fun n kinds => by
      have kinds' : scope.names.lookup n = some .cell ∨ scope.names.lookup n = some .free := gS ▸ kinds
      rcases kinds' with isCell | isFree
      · exact absurd rfl (nc _ (PySem.mem_of_lookup isCell))
      · exact (freeAt isFree).imp fun _ q => q.1
    cab := fun _ _ z _ => absurd z Bool.false_ne_true
    hd := J.ok.hd
    frames := Around.frames_deeper J.ok.frames
    stk := .inr ⟨rfl, gF⟩
    exf := fun p hp => ⟨by show p ≠ ge.locals; rw [gL]; exact Nat.ne_of_lt (walked p hp).2, fun n c q => (walked p hp).1.2.2.2.2.1 n c (down q).1⟩
    bs := J.bs
    bsz := Nat.le_trans J.ok.bsz J.sz
    noex := fun p u q hp => (walked p hp).1.2.2.2.1.elim (J.ok.noex p u q) fun young => Nat.lt_irrefl _ (Nat.lt_of_lt_of_le (Heap.lt_size q) (Nat.le_trans J.ok.bsz young))
    exfs := fun p hp z => (List.mem_cons.mp (J.stkSub p z)).elim (walked p hp).1.2.1 (walked p hp).1.2.2.1
    funs := J.stack
    frf := J.stkFree }
  refine { ok := wOk, os := rfl, bare := bare, base := Un.kept up, loc := ⟨mm, by show Heap.Ns _ ge.locals _; rw [gL]; exact frame, fun k n v atN atS vis => ?_⟩, cell := fun n c q => ?_, free := ?_, freeC := fun n c q => J.freeC n c (down q).1, pin := fun _ none' => absurd none' List.not_mem_nil, hok := J.hok.kept up, len := ?_ }
  · obtain ⟨atS, notOwn⟩ := wipe_some atS
    have isFree : scope.names.lookup n = some .free := by
      have ownNot : ∀ kd, scope.names.lookup n = some kd → ¬ (kd = .local ∨ kd = .cell) := fun kd q two => by
        rcases blk.own _ (PySem.mem_of_lookup q) two with among | out
        · obtain ⟨⟨m₁, k₁⟩, in₁, nm⟩ := List.mem_map.mp among
          have nm' : m₁ = n := nm
          have k₁At := blk.ix _ in₁
          rw [show (m₁, k₁).1 = n from nm'] at k₁At
          exact notOwn (List.mem_map.mpr ⟨_, in₁, nodup_ix nd k₁At atN⟩)
        · exact out (List.mem_of_getElem? atN)
      have vis' : Vis scope n := gS ▸ (show Vis ge.scope n from vis)
      rcases vis' with q | q | q
      · exact absurd (.inl rfl) (ownNot _ q)
      · exact absurd (.inr rfl) (ownNot _ q)
      · exact q
    have inDef := blk.free _ (PySem.mem_of_lookup isFree) rfl
    obtain ⟨_, _, reads⟩ := J.loc
    obtain ⟨val, rel, how⟩ := reads k n v atN atS (.inr inDef)
    obtain ⟨c, c1, c2⟩ := freeAt isFree
    refine ⟨val, rel, .inr ⟨.inr (by show ge.scope.names.lookup n = _; rw [gS]; exact isFree), c, c1, ?_⟩⟩
    rcases how with ⟨isLocal, _⟩ | ⟨_, c₂, c₂At, stands⟩
    · have isLocal' : X.env.scope.names.lookup n = some .local := isLocal
      rw [isLocal'] at inDef
      rcases inDef with q | q <;> cases q
    · rw [c2] at c₂At
      cases c₂At
      exact stands.keeps up
  · obtain ⟨val, stands⟩ := J.cell n c (down q).1
    exact ⟨val, stands.keeps up⟩
  · show H ge.locals = none
    exact gL ▸ J.hok.fresh (Nat.le_refl _)
  · exact (wipe_length σ _).trans J.len
end

/-! ### the protocol -/
section
variable {Y : Cx}
def RG (Y : Cx) (pn : List (Addr × Obj)) (T : Hp → Prop) : GenEnd := fun n s₀ r s₁ => r = .ok .next ∧ ∃ σ H, Inv Y pn σ H s₁ ∧ T H
def YG (Y : Cx) (pn : List (Addr × Obj)) (F : Hp → Prop) : Protocol := fun n s₀ v s kap =>
  ∃ b σ H, v = .bool b ∧ Inv Y pn σ H s ∧ (b = true → ∀ G, AllBare G → kap (.send .none) { s with gens := G }) ∧ (b = false → F H)
theorem inv_gens {pn : List (Addr × Obj)} {σ : L2.St} {H : Hp} {s : Shared} {G : Array GenState} (I : Inv Y pn σ H s) (h : AllBare G) : Inv Y pn σ H { s with gens := G } :=
  I.call' (ch := []) rfl (Un.kept fun _ _ e => e) I.hok h fun b z => by simp at z
theorem inv_kept {pn : List (Addr × Obj)} {σ : L2.St} {H : Hp} {s : Shared} {G : Array GenState} {h' : Heap} (I : Inv Y pn σ H s) (h : AllBare G) (k : ∀ b o, s.heap.get? b = some o → h'.get? b = some o) : Inv Y pn σ H { s with gens := G, heap := h' } :=
  I.call' (ch := []) rfl (Un.kept k) (I.hok.kept k) h fun b z => by simp at z

/-- what a turn of the walk wants -/
def AllTurn (J : It) (g : TG) (tt : TT) (te : TE) (vs : List Nat) (σw : L2.St) (W : Nat → Nat → Hp → Prop) (T F : Hp → Prop) : Prop :=
  ∀ i m H, W i m H → (J.stop i H ∧ T H) ∨ (J.go i H ∧ ∃ Nx : Hp → Prop, (∀ H', Nx H' → ∃ m', m' < m ∧ W (i + 1) m' H') ∧ ∀ x H', J.yld i H x H' → g x σw H' fun σ2 H2 => wipe σ2 vs = σw ∧ tt σ2 H2 fun b H3 =>
    if b = true then te σ2 H3 fun y H4 => ∃ c : Bool, y = .bl c ∧ (c = true → Nx H4) ∧ (c = false → F H4) else Nx H3)

theorem seg_loop {A : Around} {elt tg iter : Expr} {ifs : List Expr} {scope : Scope} {pos : Pos} {it : Addr} {fp : List Addr} {tn : Nat → Heap → Prop} {J : It} {g : TG} {tt : TT} {te : TE} {vs : List Nat} {σw : L2.St} {pn : List (Addr × Obj)} {W : Nat → Nat → Hp → Prop} {T F : Hp → Prop}
    (hov : A.over (.compLoop (.GeneratorExp elt [⟨tg, iter, ifs, 0⟩] scope pos) 0 (.ref it) .none Y.env) [] = Y.A) (hxe : Y.xe = fun _ _ => False) (hcalm : Y.calm = true) (hco : Y.env.scope.isCoroutine = false)
    (Tn : Turn Y.prog Y.w Y.K tg J fp it tn) (pg : PG Y tg g) (pt : PTs Y ifs tt) (pe : PE Y elt te) (hex : ∀ b ∈ fp, b ∈ Y.ex) (hpn : Y.pn = []) (hpins : ∀ p ∈ pn, p.1 ∉ fp) (turn : AllTurn J g tt te vs σw W T F) :
    ∀ (m n i : Nat) (s₀ s : Shared) (H : Hp), m < n → Inv Y pn σw H s → tn i s.heap → (∀ b ∈ fp, H b = none) → W i m H →
      Seg (model Y.prog Y.w) A (RG Y pn T) (YG Y pn F) n s₀ (.compLoop (.GeneratorExp elt [⟨tg, iter, ifs, 0⟩] scope pos) 0 (.ref it) .none Y.env)
        ((model Y.prog Y.w).den (.compLoop (.GeneratorExp elt [⟨tg, iter, ifs, 0⟩] scope pos) 0 (.ref it) .none Y.env)) [] s := by
  have stat : ∀ {σ' : L2.St} {H' : Hp} {s' : Shared}, Inv Y pn σ' H' s' → (∀ b ∈ fp, H' b = none) → ∀ b ∈ fp, FpOk Y pn H' b := fun {σ' H' s'} I' hn b hb =>
    ⟨hn b hb, (I'.ok.exf b (hex b hb)).1, I'.ok.exfs b (hex b hb), .inl (hex b hb), fun x c e => (I'.ok.exf b (hex b hb)).2 x c e, fun p hp => by
      rw [hpn] at hp
      exact fun z => hpins p (by simpa using hp) (by rw [z]; exact hb)⟩
  intro m
  induction m using Nat.strongRecOn with
  | ind m ih =>
    intro n i s₀ s H hmn I st nfp w
    show Seg _ A _ _ _ s₀ _ ((compTurn (.GeneratorExp elt [⟨tg, iter, ifs, 0⟩] scope pos) 0 (.ref it) .none Y.env).onRaise (leaving Y.env)) [] s
    rw [compTurn_gen, Sem.onRaise_eq_wrap]
    refine seg_bind_wrap (wpAny_standAt ?_)
    rcases turn i m H w with ⟨stop, qq⟩ | ⟨go, Nx, hNx, step⟩
    · refine seg_bind_wrap ?_
      rw [hov]
      refine thnF (Tn.done Y rfl rfl rfl hcalm i pn s _ H (fun _ _ => False) I (stat I nfp) st stop) fun r s1 ⟨hr, I1⟩ => ?_
      subst hr
      exact seg_end (.ok .next) ⟨rfl, _, _, I1, qq⟩
    · refine seg_bind_wrap ?_
      rw [hov]
      refine thnF (Tn.item Y rfl rfl rfl hcalm i pn s _ H (fun _ _ => False) I (stat I nfp) st go) fun r s1 ⟨u, hr, h1⟩ => ?_
      subst hr
      refine seg_bind_wrap ?_
      rw [hov]
      refine thnF h1 fun _ s2 ⟨x, H2, I2, r2, y2, st2, n2⟩ => ?_
      have I2' := I2.pinned (stat I2 n2) (Tn.obj _ _ st2)
      have no : ∀ {e : Value} {s' : Shared} {C : Prop}, Y.xe e s' → C := fun {e s' C} h => by
        rw [hxe] at h
        exact h.elim
      refine seg_bind_wrap ?_
      rw [hov]
      refine wpAny_mono (pg.run _ s2 _ H2 x u _ I2' r2 (step x H2 y2)) (fun _ s3 h3 => ?_) fun _ _ e => no e
      obtain ⟨σ3, H3, I3, hw3, q3⟩ := h3
      refine seg_bind_wrap ?_
      rw [hov]
      refine wpAny_mono (pt.run _ s3 σ3 H3 _ I3 q3) (fun b s4 h4 => ?_) fun _ _ e => no e
      obtain ⟨H4, I4, q4⟩ := h4
      -- the turn's end
      have fin : ∀ {s' : Shared} {H' : Hp} {G : Array GenState}, Inv Y (pn ++ pinsAt fp s2.heap) σ3 H' s' → AllBare G → Nx H' → ∃ m', m' < m ∧ Inv Y pn σw H' { s' with gens := G } ∧ tn (i + 1) ({ s' with gens := G } : Shared).heap ∧ (∀ b ∈ fp, H' b = none) ∧ W (i + 1) m' H' := fun {s' H' G} I' hG nx => by
        obtain ⟨m', less, w'⟩ := hNx H' nx
        have pin' : ∀ b ∈ fp, ∀ o, s2.heap.get? b = some o → s'.heap.get? b = some o ∧ H' b = none := fun b hb o e =>
          (I'.pin (b, o) (List.mem_append_right _ (List.mem_append_right _ (mem_pinsAt hb e)))).imp id And.left
        have hl : σw.length = σ3.length := by rw [← hw3, wipe_length]
        refine ⟨m', less, inv_gens ((I'.unpinned (pins := pn)).weak hl (fun j v e => ?_)) hG, Tn.keep _ _ _ st2 fun b hb o e => (pin' b hb o e).1, fun b hb => ?_, w'⟩
        · rw [← hw3] at e
          exact (wipe_some e).1
        · obtain ⟨o, e, _⟩ := Tn.obj _ _ st2 b hb
          exact (pin' b hb o e).2
      cases b with
      | false =>
        simp only [Bool.false_eq_true, if_false] at q4 ⊢
        obtain ⟨m', hm, J1, J2, J3, J4⟩ := fin I4 I4.bare q4
        exact seg_again rfl (ih m' hm n (i + 1) s₀ s4 H4 (by omega) J1 J2 J3 J4)
      | true =>
        simp only [if_true] at q4 ⊢
        have hy : ∀ v, yieldOut Y.env v = yieldValue v := fun v => by simp only [yieldOut, hco, Bool.false_eq_true, if_false]
        simp only [hy]
        rw [Sem.bind_eq_wrap', Sem.bind_eq_wrap', Sem.wrap_wrap, Sem.wrap_wrap]
        refine seg_wrap ?_
        rw [hov]
        refine wpAny_mono (pe.run _ s4 σ3 H4 _ I4 q4) (fun v s5 h5 => ?_) fun _ _ e => no e
        obtain ⟨yv, H5, I5, r5, c, ey, hT, hF⟩ := h5
        subst ey
        obtain rfl : v = Value.bool c := r5
        obtain ⟨n', rfl⟩ : ∃ n', n = n' + 1 := ⟨n - 1, by omega⟩
        refine seg_at (seg_yield rfl rfl rfl ⟨c, σ3, H5, rfl, I5.unpinned (pins := pn), fun hc G hG => ?_, hF⟩)
        obtain ⟨m', hm, J1, J2, J3, J4⟩ := fin I5 hG (hT hc)
        exact seg_again rfl (ih m' hm n' (i + 1) _ _ H5 (by omega) J1 J2 J3 J4)

theorem seg_start {A : Around} {elt tg iter : Expr} {ifs : List Expr} {scope : Scope} {pos : Pos} {it : Addr} {fp : List Addr} {tn : Nat → Heap → Prop} {J : It} {n i : Nat} {R : GenEnd} {Yp : Protocol} {s₀ s : Shared} {cenv : Env} {P : Program} {w : World} {K : PySem.W.Frag}
    (Tn : Turn P w K tg J fp it tn) (st : tn i s.heap)
    (loop : Seg (model P w) A R Yp n s₀ (.compLoop (.GeneratorExp elt [⟨tg, iter, ifs, 0⟩] scope pos) 0 (.ref it) .none cenv) ((model P w).den (.compLoop (.GeneratorExp elt [⟨tg, iter, ifs, 0⟩] scope pos) 0 (.ref it) .none cenv)) [] s) :
    Seg (model P w) A R Yp n s₀ (.compStart (.GeneratorExp elt [⟨tg, iter, ifs, 0⟩] scope pos) 0 (.ref it) .none cenv) ((model P w).den (.compStart (.GeneratorExp elt [⟨tg, iter, ifs, 0⟩] scope pos) 0 (.ref it) .none cenv)) [] s := by
  show Seg _ A _ _ _ s₀ _ ((compStart (.GeneratorExp elt [⟨tg, iter, ifs, 0⟩] scope pos) 0 (.ref it) .none cenv).onRaise (leaving cenv)) [] s
  unfold compStart
  rw [Sem.onRaise_eq_wrap]
  show Seg _ A _ _ _ s₀ _ ((ask >>= _).wrap _ _ _ _) [] s
  refine seg_bind_wrap (wpAny_askSetting ?_)
  split
  · exact seg_again rfl loop
  · first
      | exact seg_bind_wrap (wpAny_rule (seg_bind_wrap (wpAny_standAt (seg_bind_wrap (Tn.self _ i s _ _ st (seg_again rfl loop))))))
      | (refine seg_bind_wrap (wpAny_rule ?_); show Seg _ A _ _ _ s₀ _ ((standAt iter.pos >>= _).wrap _ _ _ _) [] s; exact seg_bind_wrap (wpAny_standAt (seg_bind_wrap (Tn.self _ i s _ _ st (seg_again rfl loop)))))

/-! ### all's loop -/
theorem all_loop {A : Around} {R : Result → Shared → Prop} {a : Addr} {g : Nat} {pn : List (Addr × Obj)} {T F : Hp → Prop} (hh : A.handled = none) (hd : A.depth < recursionLimit)
    (hgen : ∀ σ H s, Inv Y pn σ H s → s.heap.IsGen a g) (hT : ∀ σ H s, Inv Y pn σ H s → T H → R (.ok (.ret (.bool true))) s) (hF : ∀ σ H s, Inv Y pn σ H s → F H → R (.ok (.ret (.bool false))) s) :
    ∀ (n : Nat) (s : Shared), s.heap.IsGen a g → s.heap.NoLimit → (∃ gs, s.gens[g]? = some gs ∧ gs.Goes (model Y.prog Y.w) A.in1.in1 (RG Y pn T) (YG Y pn F) n (.send .none) (s.setGen g .running)) →
      codeAny (model Y.prog Y.w) A (.builtin "all.loop" ⟨[.ref a], []⟩) R s := by
  intro n
  induction n with
  | zero =>
    intro s hg hl ⟨gs, hgs, hgo⟩
    refine codeAny_builtin PySem.F.entry_all_loop ?_
    rw [Around.under_plainId PySem.F.plain_all_loop _]
    show wpAny _ A.in1 (pyNext (.ref a) >>= _) _ _ s
    refine wpAny_bind (wpAny_pyNext_genexpQ (A := A.in1) (P := fun _ _ s₁ => ∃ σ H, Inv Y pn σ H s₁ ∧ T H) hh hl hd hg hgs hgo (fun v s₁ gs' hb hv => ?_) (fun s₁ hp h' hk => ?_))
    · obtain ⟨b, σ, H, rfl, I, h1, h2⟩ := hv
      cases b with
      | true => exact (h1 rfl _ I.bare).elim
      | false =>
        refine wpAny_bind (wpAny_holding (wpAny_truthy_bool ?_))
        refine wpAny_bind (wpAny_letGo ?_)
        simp only [Bool.false_eq_true, if_false]
        exact wpAny_bind (wpAny_rule (wpAny_pure (hF σ H _ (inv_gens I (allBare_setGen I.bare hb)) (h2 rfl))))
    · obtain ⟨σ, H, I, q⟩ := hp
      exact wpAny_bind (wpAny_rule (wpAny_pure (hT σ H _ (inv_kept (s := s₁) (G := (s₁.setGen g .finished).gens) I (allBare_setGen I.bare rfl) hk) q)))
  | succ n ih =>
    intro s hg hl ⟨gs, hgs, hgo⟩
    have hgl : g < s.gens.size := (Array.getElem?_eq_some_iff.mp hgs).1
    refine codeAny_builtin PySem.F.entry_all_loop ?_
    rw [Around.under_plainId PySem.F.plain_all_loop _]
    show wpAny _ A.in1 (pyNext (.ref a) >>= _) _ _ s
    refine wpAny_bind (wpAny_gsz (n := g + 1) hgl (wpAny_pyNext_genexpQ (A := A.in1) (P := fun _ _ s₁ => ∃ σ H, Inv Y pn σ H s₁ ∧ T H) hh hl hd hg hgs hgo (fun v s₁ gs' hb hv => ?_) (fun s₁ hp h' hk => ?_)))
    · intro hsz
      obtain ⟨b, σ, H, rfl, I, h1, h2⟩ := hv
      refine wpAny_bind (wpAny_holding (wpAny_truthy_bool ?_))
      refine wpAny_bind (wpAny_letGo ?_)
      cases b with
      | true =>
        simp only [if_true]
        have hsz1 : g < s₁.gens.size := by
          have q : (s₁.setGen g gs').gens.size = s₁.gens.size := setGen_size _ _ _
          have hsz' : g + 1 ≤ (s₁.setGen g gs').gens.size := hsz
          omega
        refine wpAny_pure ⟨plainId_quiet PySem.F.plain_all_loop _, ih (s₁.setGen g gs') (hgen σ H _ (inv_gens I (allBare_setGen I.bare hb))) (show s₁.heap.NoLimit from I.nolimit) ⟨gs', setGen_at hsz1, ?_⟩⟩
        exact h1 rfl _ (allBare_setGen (s := s₁.setGen g gs') (allBare_setGen I.bare hb) rfl)
      | false =>
        simp only [Bool.false_eq_true, if_false]
        exact wpAny_bind (wpAny_rule (wpAny_pure (hF σ H _ (inv_gens I (allBare_setGen I.bare hb)) (h2 rfl))))
    · intro hsz
      obtain ⟨σ, H, I, q⟩ := hp
      exact wpAny_bind (wpAny_rule (wpAny_pure (hT σ H _ (inv_kept (s := s₁) (G := (s₁.setGen g .finished).gens) I (allBare_setGen I.bare rfl) hk) q)))
end
end GX

namespace GX
open PySem PySem.Spec PyProof.Rows L2 GenW
/-- all(elt for tg in iter if ..): behind it the def's table may have grown -/
def tAll (P : Addr) (wi : TI) (g : TG) (tt : TT) (te : TE) (vs : List Nat) : TE := fun σ H Q => wi σ H fun J H1 => GxR.TabG H1 P ∧ ∀ H2, GxR.Tabbed P H1 H2 →
  ∃ W : Nat → Nat → Hp → Prop, (∃ m, W 0 m H2) ∧ AllTurn J g tt te vs (wipe σ vs) W (fun H' => Q (.bl true) H') (fun H' => Q (.bl false) H')
section
variable {X : Cx}
theorem pe_all {c P : Addr} {elt tg iter : Expr} {ifs : List Expr} {scope : Scope} {own : List (Str × Nat)} {p pos gpos : Pos} {wi : TI} {g : TG} {tt : TT} {te : TE} {k : Nat}
    (hr : Room k X.A) (hgl : Gl X "all") (hm : X.mg "all" = none) (hb : bootBuiltins "all" = some (.builtin "all")) (TB : GxR.TabB X.base X.mg c P) (hcode : X.env.code = .ref c) (hc : X.calm = true) (hN : X.N.Nodup) (hi : PI X tg iter wi) (ok : BlkOk X.N X.env.scope scope own)
    (hco : scope.isCoroutine = false) (nc : ∀ y ∈ scope.names, y.2 ≠ .cell) (h0 : scope.names.lookup (".0" : Str) = some NameKind.local)
    (hg : ∀ (s : Shared) (H : Hp) (C : Addr) (cl : List (Str × Addr)) (code : Value) (fp : List Addr), PG (gcx X s H (genEnv scope cl C code builtinsNs X.env) fp) tg g)
    (ht : ∀ (s : Shared) (H : Hp) (C : Addr) (cl : List (Str × Addr)) (code : Value) (fp : List Addr), PTs (gcx X s H (genEnv scope cl C code builtinsNs X.env) fp) ifs tt)
    (he : ∀ (s : Shared) (H : Hp) (C : Addr) (cl : List (Str × Addr)) (code : Value) (fp : List Addr), PE (gcx X s H (genEnv scope cl C code builtinsNs X.env) fp) elt te)
    (hs : ∀ v, genFold iter X.env v = pure v := by intro _; rfl)
    (hst : starEach [.GeneratorExp elt [⟨tg, iter, ifs, 0⟩] scope gpos] X.env = (false, eval (.GeneratorExp elt [⟨tg, iter, ifs, 0⟩] scope gpos) X.env) :: starEach [] X.env := by rfl) :
    PE X (.Call (.Name "all" p) [.GeneratorExp elt [⟨tg, iter, ifs, 0⟩] scope gpos] [] pos) (tAll P wi g tt te (own.map (·.2))) := by
  refine ⟨fun pins s σ H Q I h => ?_⟩
  have caught : ∀ n ∈ scope.names, n.2 = .free → ∃ c, X.env.cells.lookup n.1 = some c := fun n hn hf => I.ok.has _ ((ok.free n hn hf).elim .inl .inr)
  refine wpAny_Call_Name_kw (ld_blt I hgl hm hb ?_)
  refine PyProof.Rows.callWith_builtin1 ?_ hst (by rfl)
  rw [hst]
  show wpAny _ _ (spliced ((false, eval (.GeneratorExp elt [⟨tg, iter, ifs, 0⟩] scope gpos) X.env) :: backTo pos (starEach [] X.env))) _ _ s
  refine Calls.spliced_cons ?_
  refine wpAny_GeneratorExp_make hco (closure_ok caught) nc h0 ok.kind hr.depth ?_ hs
  refine thn (hi.run pins s σ H _ I h) fun xv s1 hx => thn hx fun itv s2 h2 => ?_
  obtain ⟨it, fp, tn, J, H2, e, I2, T, st2, f2, ⟨ps, hP, ht2⟩, q⟩ := h2
  subst e
  refine ⟨I2.nolimit, ?_⟩
  have hPs : s2.heap.get? P = some { cls := .none, data := .fields ps } := I2.hok P _ hP
  have cd : PySem.W.CodeHd s2.heap c P := TB.code.keeps fun b u e => I2.bk b u e
  have nfP : ∀ b ∈ fp, b ≠ P := fun b hb z => by
    have := (f2 b hb).1
    rw [z, hP] at this
    cases this
  -- behind the code object
  have cont : ∀ (code : Value) (h3 : Heap) (tk : Nat) (ps' : Array Value), Heap.ExtBut P s2.heap h3 → s2.heap.objs.size ≤ h3.objs.size → h3.get? P = some { cls := .none, data := .fields ps' } → (∃ more, ps' = ps ++ more) → TriplesOk ps'.toList →
      wpAny (model X.prog X.w) X.A (builtinsFor X.env.globals X.env.builtins) (fun bi s₄ => ∀ h', h'.Ns s₄.heap.objs.size (fun y => if y = ".0" then some (.ref it) else none) → Heap.SameBut s₄.heap.objs.size (s₄.heap.push { cls := .type "frame", data := .dict #[] }) h' →
          wpAny (model X.prog X.w) X.A (spliced (backTo pos (starEach [] X.env))) (fun vs s6 => wpAny (model X.prog X.w) X.A (call (.builtin "all") (.ref h'.objs.size :: vs)) (EP X pins σ Q) X.xe s6) X.xe { s₄ with
            gens := s₄.gens.push (.fresh (.compStart (.GeneratorExp elt [⟨tg, iter, ifs, 0⟩] scope gpos) 0 (.ref it) .none (genEnv scope (cloFrom X.env.cells scope.names []) s₄.heap.objs.size code bi X.env))),
            toks := s₄.toks + 1 + 1 + 1,
            heap := h'.push { cls := .type "generator", data := .fields #[.int s₄.gens.size 0, .str "<genexpr>" (s₄.toks + 1), .str (X.env.qual ++ "<genexpr>") (s₄.toks + 1 + 1)] } }) X.xe { s2 with heap := h3, toks := tk } := by
    intro code h3 tk ps' hx hsz hP3 ⟨more, em⟩ ht3
    obtain ⟨bmod, bobj, i1, i2, i3, i4, i5, i6, i7, i8⟩ := TB.bm
    have keep3 : ∀ b u, b ≠ P → s2.heap.get? b = some u → h3.get? b = some u := fun b u hb e => hx b u hb e
    refine wpAny_builtinsFor (m := X.mg) (by rw [I2.ok.glob]; exact (I2.mod.glob.keeps I2.bk).extBut hx TB.gP) i1 i2 (keep3 _ _ i4 (I2.bk _ _ i5)) i6 i7 i8 ?_
    intro h' hn' hs'
    -- the state ahead of the frame
    have I3 := GxR.inv_tab (more := more) (h' := h3) (g' := s2.gens) (d' := s2.drawn) (t' := tk) I2 hP (fun b u hb e => keep3 b u hb e) (by rw [← em]; exact hP3) I2.bare
    have hTab : GxR.Tabbed P H2 (upd H2 P (.tbl (ps ++ more))) := ⟨⟨ps ++ more, upd_same, by rw [← em]; exact ht3⟩, fun b hb => upd_ne hb⟩
    obtain ⟨W, ⟨m0, w0⟩, turn⟩ := q _ hTab
    generalize upd H2 P (.tbl (ps ++ more)) = H3 at I3 w0 hTab
    have st3 : tn 0 h3 := T.keep _ _ _ st2 fun b hb o e => keep3 b o (nfP b hb) e
    have f3 : ∀ b ∈ fp, FpOk X pins H3 b ∧ b < h3.objs.size := fun b hb => by
      obtain ⟨o, e, _⟩ := T.obj _ _ st3 b hb
      exact ⟨⟨by rw [hTab.2 b (nfP b hb)]; exact (f2 b hb).1, (f2 b hb).2⟩, Heap.lt_size e⟩
    generalize hs3 : ({ s2 with heap := h3, toks := tk } : Shared) = s3 at I3
    have es3 : h3 = s3.heap := by rw [← hs3]
    have hn'' : h'.Ns s3.heap.objs.size (fun y => if y = ".0" then some (.ref it) else none) := by rw [← es3]; exact hn'
    have hs'' : Heap.SameBut s3.heap.objs.size (s3.heap.push { cls := .type "frame", data := .dict #[] }) h' := by rw [← es3]; exact hs'
    rw [es3] at st3 f3
    show wpAny _ _ _ _ _ { s3 with
            gens := s3.gens.push (.fresh (.compStart (.GeneratorExp elt [⟨tg, iter, ifs, 0⟩] scope gpos) 0 (.ref it) .none (genEnv scope (cloFrom X.env.cells scope.names []) s3.heap.objs.size code builtinsNs X.env))),
            toks := s3.toks + 1 + 1 + 1,
            heap := h'.push { cls := .type "generator", data := .fields #[.int s3.gens.size 0, .str "<genexpr>" (s3.toks + 1), .str (X.env.qual ++ "<genexpr>") (s3.toks + 1 + 1)] } }
    have kp : ∀ b o, s3.heap.get? b = some o → h'.get? b = some o := fun b o e => hs''.extBut b o (Nat.ne_of_lt (Heap.lt_size e)) (Heap.get?_push_of_some _ e)
    have hsz' : h'.objs.size = s3.heap.objs.size + 1 := by rw [hs''.1, Heap.size_push]
    generalize hgo : ({ cls := .type "generator", data := .fields #[.int s3.gens.size 0, .str "<genexpr>" (s3.toks + 1), .str (X.env.qual ++ "<genexpr>") (s3.toks + 1 + 1)] } : Obj) = go
    have hgen0 : ∀ h : Heap, h.get? h'.objs.size = some go → h.IsGen h'.objs.size s3.gens.size := fun h e => ⟨go, _, _, e, by rw [← hgo], by rw [← hgo], by rw [← hgo]⟩
    have ngo : ∀ v, go.data ≠ .cell v := fun v z => by
      rw [← hgo] at z
      cases z
    have hpush : (h'.push go).get? h'.objs.size = some go := by
      rw [← hgo]
      exact Heap.get?_push_size _ rfl
    have kp2 : ∀ b o, s3.heap.get? b = some o → (h'.push go).get? b = some o := fun b o e => Heap.get?_push_of_some _ (kp b o e)
    have pg := hg s3 H3 s3.heap.objs.size (cloFrom X.env.cells scope.names []) code fp
    have pt := ht s3 H3 s3.heap.objs.size (cloFrom X.env.cells scope.names []) code fp
    have pe := he s3 H3 s3.heap.objs.size (cloFrom X.env.cells scope.names []) code fp
    have I4 := gen_start (code := code) (tk := s3.toks + 1 + 1 + 1) (h' := h'.push go) (G := s3.gens.push (.fresh (.compStart (.GeneratorExp elt [⟨tg, iter, ifs, 0⟩] scope gpos) 0 (.ref it) .none (genEnv scope (cloFrom X.env.cells scope.names []) s3.heap.objs.size code builtinsNs X.env)))) I3 ok nc hN f3 (hn''.push _) kp2 (AllBare.push I3.bare rfl)
    generalize hce : genEnv scope (cloFrom X.env.cells scope.names []) s3.heap.objs.size code builtinsNs X.env = ce at pg pt pe I4 ⊢
    have cL : ce.locals = s3.heap.objs.size := by subst hce; rfl
    have cS : ce.scope = scope := by subst hce; rfl
    have hgH : H3 h'.objs.size = none := I3.hok.fresh (by rw [hsz']; exact Nat.le_succ _)
    have nfs : h'.objs.size ∉ frs X.stack := fun z => by
      rcases List.mem_cons.mp (I3.stkSub _ z) with z | z
      · have := I3.lt
        rw [← z, hsz'] at this
        exact absurd (Nat.lt_of_succ_lt this) (Nat.lt_irrefl _)
      · exact I3.nofs (by rw [hsz']; exact Nat.le_succ _) z
    have I5 := I4.pins_of (pins' := [(h'.objs.size, go)]) fun p hp => by
      rw [List.mem_singleton.mp hp]
      refine ⟨hpush, hgH, ?_, nfs, ngo⟩
      show h'.objs.size ≠ ce.locals
      rw [cL, hsz']
      exact Nat.succ_ne_self _
    generalize hs5 : ({ s3 with heap := h'.push go, gens := s3.gens.push (.fresh (.compStart (.GeneratorExp elt [⟨tg, iter, ifs, 0⟩] scope gpos) 0 (.ref it) .none ce)), toks := s3.toks + 1 + 1 + 1 } : Shared) = s5 at I5
    have st5 : tn 0 s5.heap := T.keep _ _ _ st3 fun b _ o e => by rw [← hs5]; exact kp2 b o e
    have back : ∀ σ' H' s', Inv (gcx X s3 H3 ce fp) [(h'.objs.size, go)] σ' H' s' → Inv X pins σ H' s' := fun σ' H' s' I6 =>
      I3.call' (ch := fp) I6.os I6.base I6.hok I6.bare fun b hb => ⟨(f3 b hb).1.2.2.2.1, (f3 b hb).1.2.1, (f3 b hb).1.2.2.2.2.1, (f3 b hb).1.2.2.2.2.2⟩
    have hgen : ∀ σ' H' s', Inv (gcx X s3 H3 ce fp) [(h'.objs.size, go)] σ' H' s' → s'.heap.IsGen h'.objs.size s3.gens.size := fun σ' H' s' I6 =>
      hgen0 _ (I6.pin (h'.objs.size, go) (List.mem_append_right _ (List.mem_singleton.mpr rfl))).1
    have hgs : s5.gens[s3.gens.size]? = some (.fresh (.compStart (.GeneratorExp elt [⟨tg, iter, ifs, 0⟩] scope gpos) 0 (.ref it) .none ce)) := by
      rw [← hs5]
      exact Array.getElem?_push_size ..
    have seg : Seg (model X.prog X.w) X.A.in1.in1 (RG (gcx X s3 H3 ce fp) [(h'.objs.size, go)] fun H' => Q (.bl true) H') (YG (gcx X s3 H3 ce fp) [(h'.objs.size, go)] fun H' => Q (.bl false) H') (m0 + 1) (s5.setGen s3.gens.size .running)
        (.compStart (.GeneratorExp elt [⟨tg, iter, ifs, 0⟩] scope gpos) 0 (.ref it) .none ce) ((model X.prog X.w).den (.compStart (.GeneratorExp elt [⟨tg, iter, ifs, 0⟩] scope gpos) 0 (.ref it) .none ce)) [] (s5.setGen s3.gens.size .running) := by
      refine seg_start (i := 0) T st5 ?_
      exact seg_loop (Y := gcx X s3 H3 ce fp) (vs := own.map (·.2)) rfl rfl hc (by show ce.scope.isCoroutine = false; rw [cS]; exact hco) T pg pt pe (fun b hb => hb) rfl (fun p hp hb => by
          rw [List.mem_singleton.mp hp] at hb
          have := (f3 _ hb).2
          have z : h'.objs.size < s3.heap.objs.size := this
          rw [hsz'] at z
          omega) turn m0 (m0 + 1) 0 _ _ H3 (Nat.lt_succ_self _) (inv_gens I5 (allBare_setGen I5.bare rfl)) st5 (fun b hb => (f3 b hb).1.1) w0
    refine Calls.spliced_nil ?_
    refine call_function_tree F.kind_all F.plain_all F.entry_all (F.args_all1 _) ?_
    unfold Builtin.«all»
    refine wpAny_bind (m := oneArg "all" _) (wpAny_pure ?_)
    refine wpAny_bind (wpAny_pyIter_gen (hgen _ _ _ I5) ?_)
    refine wpAny_pure ⟨plainId_quiet F.plain_all_loop _, ?_⟩
    refine all_loop (Y := gcx X s3 H3 ce fp) (T := fun H' => Q (.bl true) H') (F := fun H' => Q (.bl false) H') hr.hd hr.depth hgen (fun σ' H' s' I6 hq => ?_) (fun σ' H' s' I6 hq => ?_) (m0 + 1) s5 (hgen _ _ _ I5) I5.nolimit ⟨_, hgs, rfl, seg⟩
    · exact ⟨.bl true, H', back _ _ _ I6, rfl, hq⟩
    · exact ⟨.bl false, H', back _ _ _ I6, rfl, hq⟩
  cases hf : codeAmong gpos ps.toList with
  | none =>
    refine wpAny_genexprCodeX hcode (cd.code hPs ht2) (cd.tab hPs) hf fun c' h' tk hx hge hlt hco' _ htab' _ => ?_
    have trip := hco'.choose_spec.choose_spec.choose_spec.choose_spec.choose_spec.choose_spec.choose_spec.choose_spec.choose_spec.choose_spec.2.2.2.2.2.2.2.2.2.1
    exact cont _ h' tk _ hx (Nat.le_trans hge (Nat.le_of_lt hlt)) htab'.2 ⟨#[_, _, _], rfl⟩ trip
  | some cv =>
    refine wpAny_genexprCode_hit hcode (cd.code hPs ht2) hf ?_
    exact cont cv s2.heap s2.toks ps (Heap.ExtBut.refl _ _) (Nat.le_refl _) hPs ⟨#[], by simp⟩ ht2
end
end GX

namespace GX
open PySem PySem.Spec PyProof.Rows L2 GenW
/-- all(..) over a walk -/
theorem all_it {J : It} {n : Nat} {G : Hp → Prop} {Y : Nat → Hp → V → Hp → Prop} (w : Walk J n G Y) {g : TG} {tt : TT} {te : TE} {vs : List Nat} {σw : L2.St} {H2 : Hp} {T F : Hp → Prop} (Pv : Nat → Hp → Prop) (h0 : Pv 0 H2) (hG : ∀ i H, i ≤ n → Pv i H → G H)
    (hs : ∀ i x H H', i < n → Pv i H → Y i H x H' → g x σw H' fun σ2 H2 => wipe σ2 vs = σw ∧ tt σ2 H2 fun b H3 => if b = true then te σ2 H3 fun y H4 => ∃ c : Bool, y = .bl c ∧ (c = true → Pv (i + 1) H4) ∧ (c = false → F H4) else Pv (i + 1) H3) (hd : ∀ H, Pv n H → T H) :
    ∃ W : Nat → Nat → Hp → Prop, (∃ m, W 0 m H2) ∧ AllTurn J g tt te vs σw W T F := by
  refine ⟨fun i left H => i + left = n ∧ Pv i H, ⟨n, Nat.zero_add n, h0⟩, fun i left H ⟨sum, pv⟩ => ?_⟩
  have good := hG i H (by omega) pv
  cases left with
  | zero =>
    have last : i = n := sum
    subst last
    exact .inl ⟨w.stops H good, hd H pv⟩
  | succ left =>
    have below : i < n := by omega
    exact .inr ⟨w.goes i H below good, Pv (i + 1), fun H' pv' => ⟨left, Nat.lt_succ_self _, by omega, pv'⟩, fun x H' y => hs i x H H' below pv (w.yields i H x H' below good y)⟩
/-! ### tables -/
def NT (o : HO) : Prop := ∀ q, o ≠ .tbl q
theorem nt_lst {xs : List V} : NT (.lst xs) := fun _ z => by cases z
theorem nt_tup {xs : List V} : NT (.tup xs) := fun _ z => by cases z
theorem nt_dK {xs : List (Key × V)} : NT (.dK xs) := fun _ z => by cases z
theorem nt_frz {o : Obj} {u : HO} : NT (.frz o u) := fun _ z => by cases z
def Tabs (Ps : List Addr) (H : Hp) : Prop := ∀ P ∈ Ps, GxR.TabG H P
/-- all is kept but the tables, which may have grown -/
structure SameN (Ps : List Addr) (H H' : Hp) : Prop where
  k : ∀ x y, NT y → H x = some y → H' x = some y
  q : ∀ x p, H x = some (.tbl p) → ∃ p', H' x = some (.tbl p')
  t : Tabs Ps H'
section
variable {Ps : List Addr} {H H' H1 H2 : Hp}
theorem SameN.refl (t : Tabs Ps H) : SameN Ps H H := ⟨fun _ _ _ e => e, fun _ p e => ⟨p, e⟩, t⟩
theorem SameN.trans (a : SameN Ps H H1) (b : SameN Ps H1 H2) : SameN Ps H H2 := ⟨fun x y n e => b.k x y n (a.k x y n e), fun x p e => let ⟨p', e'⟩ := a.q x p e; b.q x p' e', b.t⟩
theorem Tabs.same (t : Tabs Ps H) (s : Same H H') : Tabs Ps H' := fun P hP => let ⟨ps, e, h⟩ := t P hP; ⟨ps, s _ _ e, h⟩
theorem SameN.of (t : Tabs Ps H) (s : Same H H') : SameN Ps H H' := ⟨fun x y _ e => s x y e, fun x p e => ⟨p, s _ _ e⟩, t.same s⟩
theorem SameN.tab {P : Addr} (t : Tabs Ps H) (hP : P ∈ Ps) (s : GxR.Tabbed P H H') : SameN Ps H H' := by
  obtain ⟨ps, e0, _⟩ := t P hP
  refine ⟨fun x y n e => ?_, fun x p e => ?_, fun P' hP' => ?_⟩
  · rw [s.2 x fun z => by rw [z, e0] at e; exact n ps (Option.some.inj e).symm]
    exact e
  · by_cases z : x = P
    · obtain ⟨ps', e', _⟩ := s.1
      exact ⟨ps', by rw [z]; exact e'⟩
    · exact ⟨p, by rw [s.2 x z]; exact e⟩
  · by_cases z : P' = P
    · rw [z]
      exact s.1
    · obtain ⟨ps', e', h'⟩ := t P' hP'
      exact ⟨ps', by rw [s.2 P' z]; exact e', h'⟩
theorem SameN.free {p : Addr} (s : SameN Ps H H') (h : H' p = none) : H p = none := by
  cases e : H p with
  | none => rfl
  | some o =>
    by_cases z : ∃ q, o = .tbl q
    · obtain ⟨q, rfl⟩ := z
      obtain ⟨q', e'⟩ := s.q p q e
      rw [e'] at h
      cases h
    · rw [s.k p o (fun q y => z ⟨q, y⟩) e] at h
      cases h
theorem SameN.unlock {a : Addr} {u : HO} {o : Obj} (ha : H a = some u) (hu : NT u) (t : Tabs Ps H) (s : SameN Ps (upd H a (.frz o u)) H') : SameN Ps H (upd H' a u) := by
  have hP : ∀ P ∈ Ps, P ≠ a := fun P h z => by
    obtain ⟨ps, e, _⟩ := t P h
    rw [z, ha] at e
    exact hu ps (Option.some.inj e)
  refine ⟨fun x y n e => ?_, fun x p e => ?_, fun P h => ?_⟩
  · by_cases c : x = a
    · subst c
      rw [upd_same, ← ha]
      exact e
    · rw [upd_ne c]
      exact s.k _ _ n (by rw [upd_ne c]; exact e)
  · by_cases c : x = a
    · subst c
      rw [ha] at e
      exact absurd (Option.some.inj e) (hu p)
    · rw [upd_ne c]
      exact s.q _ _ (by rw [upd_ne c]; exact e)
  · obtain ⟨ps, e, h'⟩ := s.t P h
    exact ⟨ps, by rw [upd_ne (hP P h)]; exact e, h'⟩
theorem Tabs.lock {a : Addr} {u : HO} {o : Obj} (ha : H a = some u) (hu : NT u) (t : Tabs Ps H) : Tabs Ps (upd H a (.frz o u)) := fun P h => by
  obtain ⟨ps, e, h'⟩ := t P h
  refine ⟨ps, ?_, h'⟩
  rw [upd_ne fun z => by rw [z, ha] at e; exact hu ps (Option.some.inj e)]
  exact e
end
/-! ### a def whose code object is known -/
structure FunC (K : PySem.W.Frag) (x qual : Str) (st : Stmt) (f : Addr) (fd : FuncData) (c : Addr) : Prop where
  ex : ∃ (oc : Value) (od : Option Addr) (kV doc pm : Value) (an : Option Addr) (ct : Value) (osl : Array (Option Value)),
    fd = PySem.W.fnOf x qual (defArgs st) (defBody st) (defScope st) .none kV doc pm an (.ref c) ct ∧ K.lookup f = some ⟨oc, od, .func fd, osl⟩ ∧ PySem.W.codeIn K (.ref c) qual = true
  kp : PySem.W.keepIn K (.ref f) = true
section
variable {P : Program} {w : World} {K : PySem.W.Frag} {mg : Str → Option Value} {base : Heap}
theorem FunC.ok {x qual : Str} {st : Stmt} {f c : Addr} {fd : FuncData} {N ps : List Str} {k : Nat} {sp : Sp} (F : FunC K x qual st f fd c) (S : FnScope N ps (defScope st)) (len : ∀ vs H Q E, sp vs H Q E → vs.length = ps.length)
    (hbody : ∀ (A : Around) (outer : List Env) (s : Shared) (H : Hp) (vs : List V) (Q : VK) (E : XK), Room k (A.deeper (envOfC qual (defScope st) s.heap.objs.size f (.ref c))) → sp vs H Q E →
      ∃ t, PSs (cxOf CX0 P w K mg base N qual (defScope st) f (.ref c) A outer s H E).nox (defBody st) t ∧ t { nx := fun _ H' => Q .non H', rt := Q } (start N vs) H) : FnOk P w K mg base CX0 (k + 1) f fd ps sp := by
  obtain ⟨oc, od, kV, doc, pm, an, ct, osl, rfl, lk, hcd⟩ := F.ex
  exact fn_of lk hcd S len fun A outer s H vs Q E room said => (hbody A outer s H vs Q E room said).imp fun _ h => ⟨h.1.nox, h.2⟩
theorem FunC.fun {x qual : Str} {st : Stmt} {f c : Addr} {fd : FuncData} (F : FunC K x qual st f fd c) : Fun K x qual st f fd := by
  obtain ⟨oc, od, kV, doc, pm, an, ct, osl, e, lk, hcd⟩ := F.ex
  exact ⟨⟨oc, od, kV, doc, pm, an, _, ct, osl, e, lk, hcd⟩, F.kp⟩
end
/-! ### the end -/
/-- the table of the code object cd is not among what is written -/
def tabFree (K : PySem.W.Frag) (cd : Value) : Bool := match cd with
  | .ref c => (match K.lookup c with
      | some ⟨_, _, .fields vs, _⟩ => (match vs.toList.drop 11 with | .ref P :: _ => (K.lookup P).isNone | _ => false)
      | _ => false)
  | _ => false
/-- the def x's code object at c, its table at P, empty -/
def TabOf (K : PySem.W.Frag) (cd : Value) (h : Heap) (c P : Addr) : Prop := cd = .ref c ∧ h.get? P = some { cls := .none, data := .fields #[] } ∧ K.lookup P = none ∧ PySem.W.CodeHd h c P
def TabsTop (q : Program) (mg : Str → Option Value) (h : Heap) : Prop := ∀ d ∈ recsOf q, ∃ a o fd c P, mg d.name = some (.ref a) ∧ h.get? a = some o ∧ o.data = .func fd ∧ fd.code = .ref c ∧ h.IsCode c P #[] ∧ h.TableAt c P #[]
theorem tabOf {q : Program} {K : PySem.W.Frag} {mg : Str → Option Value} {h : Heap} {x : Str} {f : Addr} {params : Arguments} {body : List Stmt} {scope : Scope} {dV kV doc pm cd ct oc : Value} {an od : Option Addr} {osl : Array (Option Value)} {qual name : Str}
    (X : K.In h) (T : TabsTop q mg h) (hx : ((recsOf q).any fun e => e.name == x) = true) (hm : mg x = some (.ref f)) (lk : K.lookup f = some ⟨oc, od, .func (PySem.W.fnOf name qual params body scope dV kV doc pm an cd ct), osl⟩) (ht : tabFree K cd = true) :
    ∃ c P, TabOf K cd h c P := by
  obtain ⟨dL, hmem, hn1⟩ := List.any_eq_true.mp hx
  have hn2 : dL.name = x := beq_iff_eq.mp hn1
  obtain ⟨a', o', fd', c', P', h1, h2, h3, h4, h5, h6⟩ := T dL hmem
  rw [hn2, hm] at h1
  cases h1
  have g1 := X _ _ lk
  rw [g1] at h2
  cases h2
  have h3' : Data.func (PySem.W.fnOf name qual params body scope dV kV doc pm an cd ct) = .func fd' := h3
  cases h3'
  have h4' : cd = .ref c' := h4
  subst h4'
  refine ⟨c', P', rfl, h6.2, ?_, .of h5 h6⟩
  obtain ⟨⟨oc', vc, e1, _, e3, e4⟩, _⟩ := h6
  unfold tabFree at ht
  dsimp only at ht
  split at ht
  · rename_i vs sl hk
    have g2 := X _ _ hk
    rw [g2] at e1
    cases e1
    have e3' : Data.fields vs = .fields vc := e3
    cases e3'
    split at ht
    · rename_i P2 r hd
      have e5 : vc.toList[11]? = some (.ref P2) := by
        have : (vc.toList.drop 11)[0]? = some (.ref P2) := by rw [hd]; rfl
        rw [List.getElem?_drop] at this
        exact this
      rw [Array.getElem?_toList, e4] at e5
      cases e5
      exact Option.isNone_iff_eq_none.mp ht
    · cases ht
  · cases ht
theorem walk_ofTabs {l : PySem.W.OpenLaw} {n k : Nat} {q : Program} {loose : List Str} {XP : (Str → Option Value) → Heap → Prop} {YP : World → Heap → Prop} {d : DefRec} {K : Params → PySem.W.Frag} {CX : World → CXT} {x : Str}
    (most : l.most = some n) (small : n ≤ sizeLine) (plain : d.params.defaults = []) (room : Room k callerA) (hY : ∀ (w : World) (h : Heap), YP w h → (K w.params).In h)
    (F : ∀ (w : World) (mg : Str → Option Value) (fa : Addr) (h : Heap), (K w.params).In h → h.Ns mainGlobals mg → mg d.name = some (.ref fa) → TabsTop q mg h → LamX.LawAtS l w (K w.params) (CX w) k n x mg fa h)
    (calm : ∀ (w : World) (H : Hp) (s : Shared) (x : Value) (s' : Shared), CX w [] H s (fun _ _ _ => False) x s' → False) : PySem.W.WalkO q loose XP YP l.row.toRowW d [] (fun f vs => PySem.call f vs) := by
  refine Att.attach_callB most plain fun w _ s₁ mg _ fa _ _ _ _ a _ ns G Y _ _ _ hmg lstAt intsAt lenAt' bitsAt gensAt => ?_
  have KX := hY w _ Y
  obtain ⟨fd, cs, sp, hT, nT, C, hb, hsp, hF⟩ := F w mg fa _ KX G.T.g hmg G.T.tab
  exact LamX.law_callTs KX G.T.g G.T.b G.T.builtins G.T.nolimit gensAt hT nT C G.T.bmain lstAt intsAt (Nat.le_trans lenAt' small) room hF hb (fun H tabs sq => hsp H a ns lenAt' bitsAt tabs sq) fun H x s' => calm w H s₁ x s'
theorem tabB_of {base : Heap} {mg : Str → Option Value} {c P : Addr} (t : LamX.TabB base mg c P) : GxR.TabB base mg c P := ⟨t.code, t.bm, t.gP⟩
end GX

/-! rules of my own: zip of a list and a tuple, y = {k: v for ..}, != of lists of data and dicts -/
namespace RM
open PySem PySem.Spec PyProof.Rows L2
/-- a list at a and a tuple at b, walked together -/
def ItzM (K : PySem.W.Frag) (a b : Addr) (xs ys : List V) : It where
  go := fun i H => SqL K H a xs ∧ SqT K H b ys ∧ i < xs.length ∧ i < ys.length
  yld := fun i H v H' => ∃ T x y, v = .ref T ∧ H T = none ∧ H' = upd H T (.tup [x, y]) ∧ xs[i]? = some x ∧ ys[i]? = some y
  stop := fun i H => SqL K H a xs ∧ SqT K H b ys ∧ i ≤ xs.length ∧ i ≤ ys.length ∧ (i = xs.length ∨ i = ys.length)
theorem off_ne (n : Nat) {i j : Nat} (h : i ≠ j) : n + i ≠ n + j := by omega
theorem old_ne {n a : Nat} (h : a < n) (i : Nat) : n + i ≠ a := by omega
theorem sep_mix {a b : Addr} (n : Nat) (ha : Nat.lt a n) (hb : Nat.lt b n) : ZipSep2 (n + 4) (n + 2) (n + 3) n (n + 1) [n, a] [n + 1, b] where
  TIz := off_ne n (by decide)
  TOz := off_ne n (by decide)
  TITO := off_ne n (by decide)
  TIi1 := off_ne n (j := 0) (by decide)
  mem1 := List.mem_cons_self ..
  zf1 := fun z => (List.mem_cons.mp z).elim (off_ne n (j := 0) (by decide)) fun z => old_ne ha 4 (List.mem_singleton.mp z)
  Tf1 := fun z => (List.mem_cons.mp z).elim (off_ne n (j := 0) (by decide)) fun z => old_ne ha 3 (List.mem_singleton.mp z)
  TIi2 := off_ne n (by decide)
  mem2 := List.mem_cons_self ..
  zf2 := fun z => (List.mem_cons.mp z).elim (off_ne n (by decide)) fun z => old_ne hb 4 (List.mem_singleton.mp z)
  Tf2 := fun z => (List.mem_cons.mp z).elim (off_ne n (by decide)) fun z => old_ne hb 3 (List.mem_singleton.mp z)
  sep1_2 := fun z => (List.mem_cons.mp z).elim (off_ne n (i := 0) (by decide)) fun z => old_ne hb 0 (List.mem_singleton.mp z)
  sep2_1 := fun z => (List.mem_cons.mp z).elim (off_ne n (j := 0) (by decide)) fun z => old_ne ha 1 (List.mem_singleton.mp z)
theorem turn_zipM {P : Program} {w : World} {K : PySem.W.Frag} {elts : List Expr} {kk : Nat} {tpos : Pos} {a b z TI TO i1 i2 : Addr} {xs ys : List V} (S : ZipSep2 z TI TO i1 i2 [i1, a] [i2, b]) (na : a ≠ i1) (nb : b ≠ i2) :
    Turn P w K (.Tuple elts kk tpos) (ItzM K a b xs ys) [z, TI, TO, i1, i2] z (fun i h => IsZip h z TI TO .none ∧ IsTupOf2 h TI (.ref i1) (.ref i2) ∧ (∃ x y, IsTupOf2 h TO x y) ∧ h.IsListIter i1 a i ∧ h.IsTupleIter i2 b i) where
  mem := List.mem_cons_self ..
  obj := fun i h st c hc => by
    obtain ⟨sz, sI, ⟨x, y, sO⟩, ⟨o1, e1, _, d1⟩, o2, e2, _, d2⟩ := st
    have five : c = z ∨ c = TI ∨ c = TO ∨ c = i1 ∨ c = i2 := by simpa using hc
    rcases five with rfl | rfl | rfl | rfl | rfl
    · exact ⟨_, sz, fun _ no => nomatch no⟩
    · exact ⟨_, sI, fun _ no => nomatch no⟩
    · exact ⟨_, sO, fun _ no => nomatch no⟩
    · exact ⟨o1, e1, fun _ no => by rw [d1] at no; cases no⟩
    · exact ⟨o2, e2, fun _ no => by rw [d2] at no; cases no⟩
  keep := fun i h h' ⟨sz, sI, ⟨x, y, sO⟩, s1, s2⟩ up =>
    ⟨up z (by simp) _ sz, up TI (by simp) _ sI, ⟨x, y, up TO (by simp) _ sO⟩, s1.at fun o q => up i1 (by simp) o q, s2.at fun o q => up i2 (by simp) o q⟩
  item := by
    intro X eP ew eK calm i pins s σ H E J foot st go
    subst eP ew eK
    obtain ⟨sz, sI, ⟨x0, y0, sO⟩, s1, s2⟩ := st
    obtain ⟨qx, qy, lx, ly⟩ := go
    obtain ⟨us, rx, px, _⟩ := J.list qx
    obtain ⟨vs, ry, py, _⟩ := J.tuple qy
    have hh : X.A.in1.handled = none := J.ok.hd calm
    have lu : i < us.toArray.size := by rw [List.size_toArray, ← rx.length]; exact lx
    have lv : i < vs.toArray.size := by rw [List.size_toArray, ← ry.length]; exact ly
    have zlt : z < s.heap.objs.size := Heap.lt_size sz
    refine wpAny_pyNext_zipD2_item S (Draws.list hh i1 a na us.toArray) (Draws.tuple hh i2 b nb vs.toArray) sz sI sO ⟨s1, px.isList⟩ ⟨s2, py⟩ lu lv fun u v h' tk hu hv zz oo t1 t2 pr _ same => ?_
    refine ⟨_, rfl, wpAny_letOwnedTupleGo_zip (s := { s with heap := h', toks := tk }) zz fun h2 z2 sb => ?_⟩
    have gx : xs[i]? = some xs[i] := List.getElem?_eq_getElem lx
    have gy : ys[i]? = some ys[i] := List.getElem?_eq_getElem ly
    obtain ⟨u', hu', ru⟩ := rx.get gx
    obtain ⟨v', hv', rv⟩ := ry.get gy
    have hu2 : us[i]? = some u := by simpa using hu
    have hv2 : vs[i]? = some v := by simpa using hv
    rw [hu2] at hu'
    rw [hv2] at hv'
    cases hu'
    cases hv'
    have pr2 : h2.get? s.heap.objs.size = some { cls := .type "tuple", data := .seq #[u, v] } := (sb.2 _ (Nat.ne_of_gt zlt)).trans pr
    have fits : ObjOk X.prog X.w (upd H s.heap.objs.size (.tup [xs[i], ys[i]])) h2 s.heap.objs.size (.tup [xs[i], ys[i]]) :=
      ⟨(by show 2 ≤ sizeLine; decide), [u, v], .cons ru (.cons rv .nil), _, pr2, rfl, _, rfl⟩
    have J2 : Inv X pins σ (upd H s.heap.objs.size (.tup [xs[i], ys[i]])) { s with heap := h2, toks := tk } :=
      J.turnedNew (t' := tk) (ch := [z, TI, TO, i1, i2]) (fun c o out q => (sb.2 c fun e => out (by simp [e])).trans (same c o (fun e => out (by simp [e])) (fun e => out (by simp [e])) (fun e => out (by simp [e])) (fun e => out (by simp [e])) q)) foot (Nat.le_refl _) fits
    refine ⟨.ref s.heap.objs.size, _, J2, rfl, ⟨_, xs[i], ys[i], rfl, J.hok.fresh (Nat.le_refl _), rfl, gx, gy⟩, ⟨z2, ?_, ⟨u, v, ?_⟩, ?_, ?_⟩, fun c hc => ?_⟩
    · exact (sb.2 _ S.TIz).trans (same _ _ S.TIz S.TITO S.TIi1 S.TIi2 sI)
    · exact (sb.2 _ S.TOz).trans oo
    · exact t1.1.at fun o q => (sb.2 _ S.zi1.symm).trans q
    · exact t2.1.at fun o q => (sb.2 _ S.zi2.symm).trans q
    · have five : c = z ∨ c = TI ∨ c = TO ∨ c = i1 ∨ c = i2 := by simpa using hc
      have clt : c < s.heap.objs.size := by
        rcases five with rfl | rfl | rfl | rfl | rfl
        · exact zlt
        · exact Heap.lt_size sI
        · exact Heap.lt_size sO
        · exact Heap.lt_size s1.choose_spec.1
        · exact Heap.lt_size s2.choose_spec.1
      rw [upd_ne (Nat.ne_of_lt clt)]
      exact (foot c hc).1
  done := by
    intro X eP ew eK calm i pins s σ H E J foot st stop
    subst eP ew eK
    obtain ⟨sz, sI, ⟨x0, y0, sO⟩, s1, s2⟩ := st
    obtain ⟨qx, qy, lx, ly, fin⟩ := stop
    obtain ⟨us, rx, px, _⟩ := J.list qx
    obtain ⟨vs, ry, py, _⟩ := J.tuple qy
    have hh : X.A.in1.handled = none := J.ok.hd calm
    have nu : us.toArray.size = xs.length := by rw [List.size_toArray, ← rx.length]
    have nv : vs.toArray.size = ys.length := by rw [List.size_toArray, ← ry.length]
    refine wpAny_pyNext_zipD2_end S (Draws.list hh i1 a na us.toArray) (Draws.tuple hh i2 b nb vs.toArray) sz sI sO ⟨s1, px.isList⟩ ⟨s2, py⟩ (by rw [nu]; exact lx) (by rw [nv]; exact ly) (by rw [nu, nv]; exact fin) fun h' tk same => ?_
    exact ⟨rfl, J.turnedL (t' := tk) (ch := [z, TI, TO, i1, i2]) (fun c o out q => same c o (fun e => out (by simp [e])) (fun e => out (by simp [e])) (fun e => out (by simp [e])) (fun e => out (by simp [e])) q) foot⟩
  self := fun _ _ _ _ _ st q => wpAny_pyIter_zip st.1 q
def iZipM (K : PySem.W.Frag) (ta : TA) : TI := fun σ H R => ta σ H fun vs H1 => ∃ a b xs ys, vs = [.ref a, .ref b] ∧ SqL K H1 a xs ∧ SqT K H1 b ys ∧ R (ItzM K a b xs ys) H1
theorem pi_zipM {X : Cx} {e e2 : Expr} {ta : TA} {p pos tpos : Pos} {elts : List Expr} {kk : Nat} (glo : Gl X "zip") (own : X.mg "zip" = none) (args : PA X [e, e2] ta)
    (st1 : starEach [e, e2] X.env = (false, eval e X.env) :: starEach [e2] X.env := by rfl) (st2 : (backTo pos (starEach [e2] X.env)).any (·.1) = false := by rfl) :
    PI X (.Tuple elts kk tpos) (.Call (.Name "zip" p) [e, e2] [] pos) (iZipM X.K ta) := by
  refine ⟨fun pins s σ H R J h => Call_ (ld_blt J glo own PyProof.Rows.boot_zip (PyProof.Rows.callWith_type1 (thn (args.run pos pins s σ H _ J h) fun us s1 ⟨vs, H1, J1, r1, a, b, xs, ys, ev, qx, qy, q⟩ => ?_) st1 st2))⟩
  subst ev
  cases r1 with
  | cons ra rest =>
    cases rest with
    | cons rb none' =>
      cases none'
      cases ra
      cases rb
      obtain ⟨its, _, px, _⟩ := J1.list qx
      obtain ⟨its2, _, py, _⟩ := J1.tuple qy
      have la : a < s1.heap.objs.size := px.lt
      have lb : b < s1.heap.objs.size := Heap.lt_size py.choose_spec.1
      refine zip_begins2 (begins_list a its.toArray) (begins_tuple b its2.toArray) px.isList py fun h' zz tI tO o1 o2 _ up => wpAny_pyIter_zip zz ?_
      have J2 : Inv X pins σ H1 { s1 with heap := h' } := J1.kept (t' := s1.toks) up
      refine ⟨s1.heap.objs.size + 4, [s1.heap.objs.size + 4, s1.heap.objs.size + 2, s1.heap.objs.size + 3, s1.heap.objs.size, s1.heap.objs.size + 1], _, _, H1, rfl, J2, turn_zipM (sep_mix _ la lb) (Nat.ne_of_lt la) (Nat.ne_of_lt (Nat.lt_succ_of_lt lb)), ⟨zz, tI, ⟨_, _, tO⟩, ⟨_, o1, rfl, rfl⟩, _, o2, rfl, rfl⟩, fun c hc => ?_, q⟩
      have old : s1.heap.objs.size ≤ c := by
        have five : c = s1.heap.objs.size + 4 ∨ c = s1.heap.objs.size + 2 ∨ c = s1.heap.objs.size + 3 ∨ c = s1.heap.objs.size ∨ c = s1.heap.objs.size + 1 := by simpa using hc
        rcases five with rfl | rfl | rfl | rfl | rfl
        · exact Nat.le_add_right _ 4
        · exact Nat.le_add_right _ 2
        · exact Nat.le_add_right _ 3
        · exact Nat.le_refl _
        · exact Nat.le_add_right _ 1
      exact J1.fpOk old (J1.hok.fresh old)
/-- both of one length -/
theorem walk_zipM {K : PySem.W.Frag} {a b : Addr} {xs ys : List V} (hl : xs.length = ys.length) : Walk (ItzM K a b xs ys) xs.length (fun H => SqL K H a xs ∧ SqT K H b ys) (YPair (fun i => xs[i]?) (fun i => ys[i]?)) :=
  ⟨fun i H hi q => ⟨q.1, q.2, hi, by omega⟩, fun H q => ⟨q.1, q.2, Nat.le_refl _, by omega, .inl rfl⟩, fun _ _ _ _ _ _ y => y⟩
section
variable {X : Cx}
/-- y = {k: v for ..}, y a local -/
theorem ps_setDc {i : Nat} {y : Str} {py : Pos} {kx vx tg iter : Expr} {ifs : List Expr} {scope : Scope} {own : List (Str × Nat)} {pos spos : Pos} {wi : TI} {g : TG} {tt : TT} {tk tv : TE} (calm : X.calm = true) (nd : X.N.Nodup) (slot : X.N[i]? = some y) (here : X.env.scope.names.lookup y = some .local)
    (sw : swapsWith (.DictComp kx vx [⟨tg, iter, ifs, 0⟩] scope pos) (some (.Name y py)) spos.line X.env = pure true) (hi : PI X tg iter wi) (blk : BlkOk X.N X.env.scope scope own)
    (hg : ∀ (s : Shared) (H : Hp) (C : Addr) (cl : List (PySem.Str × Addr)) (fp : List Addr), PG (X.blk s H scope (compEnvC scope cl C X.env) fp) tg g) (ht : ∀ (s : Shared) (H : Hp) (C : Addr) (cl : List (PySem.Str × Addr)) (fp : List Addr), PTs (X.blk s H scope (compEnvC scope cl C X.env) fp) ifs tt)
    (hk : ∀ (s : Shared) (H : Hp) (C : Addr) (cl : List (PySem.Str × Addr)) (fp : List Addr), PE (X.blk s H scope (compEnvC scope cl C X.env) fp) kx tk)
    (hv : ∀ (s : Shared) (H : Hp) (C : Addr) (cl : List (PySem.Str × Addr)) (fp : List Addr), PE (X.blk s H scope (compEnvC scope cl C X.env) fp) vx tv) (fold : ∀ x, foldedSetIterable iter X.env x = pure x := by intro _; rfl) :
    PS X (.Assign [.Name y py] (.DictComp kx vx [⟨tg, iter, ifs, 0⟩] scope pos) spos) (tAsg (tDc wi g tt tk tv (own.map (·.2))) (gName i)) := by
  refine ⟨fun pins s σ H D J h => ?_⟩
  rw [exec_Assign_Name_used _ _ _ _ sw]
  refine wpAny_bind (wpAny_standAt (wpAny_bind ?_))
  have want : tDc wi g tt tk tv (own.map (·.2)) σ H (fun x H1 => gName i x σ H1 D.nx) := h
  show wpAny _ X.A (do let _ ← comprehension (.DictComp kx vx [⟨tg, iter, ifs, 0⟩] scope pos) scope X.env (firstIterPos [⟨tg, iter, ifs, 0⟩] pos) newDict false (eval iter X.env) (some (assign (.Name y py) X.env))) _ _ s
  refine wpAny_bind (thn (dc_core (Qf := fun _ s' => SP X pins D .next s') calm nd J hi blk hg ht hk hv fold want fun L C s' m H' J' q ns fp => ?_) fun _ s' hq => wpAny_pure (wpAny_pure hq))
  obtain ⟨f0, f1, _, f3, f4, f5⟩ := fp
  show wpAny _ _ (assign (.Name y py) X.env (.ref L)) _ _ _
  refine wpAny_assign_Name (store_ok2 (v := V.ref L) J' nd slot (.inl here) rfl (fun s2 J2 ⟨a, sb, ha⟩ => ?_) (.inr here))
  have apart : C ≠ a := ha.elim (fun z => by rw [z]; exact f1) fun z e => f4 y a z e.symm
  exact ⟨m, ns.sameBut sb apart, fun h3 sb3 => ⟨_, H', J2.turned (t' := s2.toks) (fun b o hb e => (sb3.2 b hb).trans e) f0 f1 f3 f4 f5, q⟩⟩
theorem sw_dict {kx vx : Expr} {gs : List Comprehension} {scope : Scope} {pos py : Pos} {y : Str} {l : Nat} {env : Env} (fn : env.scope.kind = .function) (here : env.scope.names.lookup y = some .local) (line : (py.line == pos.line) = true)
    (off : (scope.names.any fun (n, k) => n == y && (k == .local || k == .cell)) = false) : swapsWith (.DictComp kx vx gs scope pos) (some (.Name y py)) l env = pure true := by
  have k1 : env.kindOf y = some .local := here
  have k2 : env.blockKind = .function := by unfold Env.blockKind; rw [fn]; rfl
  unfold swapsWith
  simp only [k2, k1, off, Expr.pos, line]
  rfl
/-- such a comprehension over a walk -/
theorem dc_it {J : It} {n : Nat} {G : Hp → Prop} {Y : Nat → Hp → V → Hp → Prop} (wk : Walk J n G Y) {g : TG} {tt : TT} {tk tv : TE} {vs : List Nat} {σ : L2.St} {H1 : Hp} {D : Addr} {Qd : Hp → Prop} (Pv : Nat → Hp → Prop) (h0 : Pv 0 (upd H1 D (.dK []))) (hG : ∀ i H, i ≤ n → Pv i H → G H)
    (hs : ∀ i x H H', i < n → Pv i H → Y i H x H' → g x (wipe σ vs) H' fun σ2 H2 => wipe σ2 vs = wipe σ vs ∧ tt σ2 H2 fun b H3 =>
      if b = true then tk σ2 H3 fun y H4 => tv σ2 H4 fun z H5 => ∃ kvs k, y = kV k ∧ H5 D = some (.dK kvs) ∧ kvs.length < sizeLine ∧ Pv (i + 1) (upd H5 D (.dK (putK kvs k z))) else Pv (i + 1) H3) (hd : ∀ H, Pv n H → Qd H) :
    ∃ W : Nat → Nat → Hp → Prop, (∃ m, W 0 m (upd H1 D (.dK []))) ∧ ∀ i m H, W i m H →
      (J.stop i H ∧ Qd H) ∨ (J.go i H ∧ ∃ Nx : Hp → Prop, (∀ H', Nx H' → ∃ m', m' < m ∧ W (i + 1) m' H') ∧ ∀ x H', J.yld i H x H' → g x (wipe σ vs) H' fun σ2 H2 => wipe σ2 vs = wipe σ vs ∧ tt σ2 H2 fun b H3 =>
        if b = true then tk σ2 H3 fun y H4 => tv σ2 H4 fun z H5 => ∃ kvs k, y = kV k ∧ H5 D = some (.dK kvs) ∧ kvs.length < sizeLine ∧ Nx (upd H5 D (.dK (putK kvs k z))) else Nx H3) := by
  refine ⟨fun i left H => i + left = n ∧ Pv i H, ⟨n, Nat.zero_add n, h0⟩, fun i left H ⟨sum, pv⟩ => ?_⟩
  have good := hG i H (by omega) pv
  cases left with
  | zero =>
    have last : i = n := sum
    subst last
    exact .inl ⟨wk.stops H good, hd H pv⟩
  | succ left =>
    have below : i < n := by omega
    exact .inr ⟨wk.goes i H below good, Pv (i + 1), fun H' pv' => ⟨left, Nat.lt_succ_self _, by omega, pv'⟩, fun x H' y => hs i x H H' below pv (wk.yields i H x H' below good y)⟩
/-! lists of data and of dicts -/
/-- one and the same data, or equal by EqV -/
def EqW (K : PySem.W.Frag) (H : Hp) (n : Nat) (x y : V) : Prop := (∃ d, Dp K H x d ∧ Dp K H y d ∧ d.canLay0 = true ∧ d.depth ≤ 60) ∨ EqV K H n x y
theorem eqW_run {pins : List (Addr × Obj)} {σ : L2.St} {H : Hp} {s : Shared} (J : Inv X pins σ H s) (n : Nat) (A : Around) (hn : n ≤ 60) (hu : A.units + 60 < cLine) (x y : V) (v u : Value) (h : EqW X.K H n x y) (rx : RelV x v) (ry : RelV y u) : SeqAt.EqP X.prog X.w A s v u true := by
  rcases h with ⟨d, dx, dy, can, dep⟩ | h
  · obtain ⟨as, ra⟩ := Dp.reads J d x v dx rx
    obtain ⟨bs, rb⟩ := Dp.reads J d y u dy ry
    have e := SeqAt.eqAt_reads d d A s v u as bs ra rb can can (by rw [Nat.min_self]; omega)
    rw [SeqAt.eqv_refl d can] at e
    exact e.eqP
  · exact eqV_run J n A (by omega) x y v u h rx ry
def rNeW (K : PySem.W.Frag) : R2 := fun x y H Q => ∃ a b xs ys n, x = .ref a ∧ y = .ref b ∧ SqL K H a xs ∧ SqL K H b ys ∧ n ≤ 60 ∧ Paired (EqW K H n) xs ys ∧ Q (.bl false) H
theorem op_neW (hu : X.A.units + 64 < cLine) : OpR X (compareOp .NotEq) (rNeW X.K) := by
  intro pins s σ H x y v u Q J rx ry h
  obtain ⟨a, b, xs, ys, n, rfl, rfl, ha, hb, hn, hp, q⟩ := h
  cases (show v = Value.ref a from rx)
  cases (show u = Value.ref b from ry)
  obtain ⟨us, r1, p1, _⟩ := J.list ha
  obtain ⟨ws, r2, p2, _⟩ := J.list hb
  have size : us.toArray.size = ws.toArray.size := by
    rw [List.size_toArray, List.size_toArray, ← r1.length, ← r2.length]
    exact Paired.length hp
  refine SeqAt.my_rcNe p1.isList p2.isList size (by omega) (fun j h1 h2 => ?_) _ _ ⟨.bl false, H, J, rfl, q⟩
  have k := items_run (eqW_run J n X.A.in1 (by omega) (by show X.A.units + 1 + 60 < cLine; omega)) hp r1 r2 j (by simpa using h1) (by simpa using h2)
  simpa using k
end
end RM

namespace RM
open PySem PySem.Spec PyProof.Rows L2
/-- the second clause's loop -/
def In2 (J1 : It) (g1 : TG) (tt1 : TT) (te : TE) (vs1 : List Nat) (D : Addr) (σ2 : L2.St) (H4 : Hp) (Nx : Hp → Prop) : Prop :=
  ∃ W1 : Nat → Nat → Hp → Prop, (∃ m, W1 0 m H4) ∧ ∀ j k H, W1 j k H →
      (J1.stop j H ∧ Nx H) ∨ (J1.go j H ∧ ∃ Nx1 : Hp → Prop, (∀ H', Nx1 H' → ∃ k', k' < k ∧ W1 (j + 1) k' H') ∧ ∀ x H', J1.yld j H x H' → g1 x (wipe σ2 vs1) H' fun σ3 H5 => wipe σ3 vs1 = wipe σ2 vs1 ∧ tt1 σ3 H5 fun b H6 =>
        if b = true then te σ3 H6 fun y H7 => ∃ acc, H7 D = some (.lst acc) ∧ acc.length < sizeLine ∧ Nx1 (upd H7 D (.lst (acc ++ [y]))) else Nx1 H6)
theorem in2_it {J : It} {n : Nat} {G : Hp → Prop} {Y : Nat → Hp → V → Hp → Prop} (wk : Walk J n G Y) {g : TG} {tt : TT} {te : TE} {vs : List Nat} {σ : L2.St} {H1 : Hp} {D : Addr} {Nx : Hp → Prop} (Pv : Nat → Hp → Prop) (h0 : Pv 0 H1) (hG : ∀ i H, i ≤ n → Pv i H → G H)
    (hs : ∀ i x H H', i < n → Pv i H → Y i H x H' → g x (wipe σ vs) H' fun σ2 H2 => wipe σ2 vs = wipe σ vs ∧ tt σ2 H2 fun b H3 =>
      if b = true then te σ2 H3 fun y H4 => ∃ acc, H4 D = some (.lst acc) ∧ acc.length < sizeLine ∧ Pv (i + 1) (upd H4 D (.lst (acc ++ [y]))) else Pv (i + 1) H3) (hd : ∀ H, Pv n H → Nx H) : In2 J g tt te vs D σ H1 Nx := by
  refine ⟨fun i left H => i + left = n ∧ Pv i H, ⟨n, Nat.zero_add n, h0⟩, fun i left H ⟨sum, pv⟩ => ?_⟩
  have good := hG i H (by omega) pv
  cases left with
  | zero =>
    have last : i = n := sum
    subst last
    exact .inl ⟨wk.stops H good, hd H pv⟩
  | succ left =>
    have below : i < n := by omega
    exact .inr ⟨wk.goes i H below good, Pv (i + 1), fun H' pv' => ⟨left, Nat.lt_succ_self _, by omega, pv'⟩, fun x H' y => hs i x H H' below pv (wk.yields i H x H' below good y)⟩
theorem lc2_it {J : It} {n : Nat} {G : Hp → Prop} {Y : Nat → Hp → V → Hp → Prop} (wk : Walk J n G Y) {g g1 : TG} {tt tt1 : TT} {wi1 : TI} {te : TE} {vs vs1 : List Nat} {σ : L2.St} {H1 : Hp} {D : Addr} {Qd : Hp → Prop} (Pv : Nat → Hp → Prop) (h0 : Pv 0 (upd H1 D (.lst []))) (hG : ∀ i H, i ≤ n → Pv i H → G H)
    (hs : ∀ i x H H', i < n → Pv i H → Y i H x H' → g x (wipe σ vs) H' fun σ2 H2 => wipe σ2 vs = wipe σ vs ∧ tt σ2 H2 fun b H3 => if b = true then wi1 σ2 H3 fun J1 H4 => In2 J1 g1 tt1 te vs1 D σ2 H4 (Pv (i + 1)) else Pv (i + 1) H3) (hd : ∀ H, Pv n H → Qd H) :
    ∃ W : Nat → Nat → Hp → Prop, (∃ m, W 0 m (upd H1 D (.lst []))) ∧ ∀ i m H, W i m H →
      (J.stop i H ∧ Qd H) ∨ (J.go i H ∧ ∃ Nx : Hp → Prop, (∀ H', Nx H' → ∃ m', m' < m ∧ W (i + 1) m' H') ∧ ∀ x H', J.yld i H x H' → g x (wipe σ vs) H' fun σ2 H2 => wipe σ2 vs = wipe σ vs ∧ tt σ2 H2 fun b H3 => if b = true then wi1 σ2 H3 fun J1 H4 => In2 J1 g1 tt1 te vs1 D σ2 H4 Nx else Nx H3) := by
  refine ⟨fun i left H => i + left = n ∧ Pv i H, ⟨n, Nat.zero_add n, h0⟩, fun i left H ⟨sum, pv⟩ => ?_⟩
  have good := hG i H (by omega) pv
  cases left with
  | zero =>
    have last : i = n := sum
    subst last
    exact .inl ⟨wk.stops H good, hd H pv⟩
  | succ left =>
    have below : i < n := by omega
    exact .inr ⟨wk.goes i H below good, Pv (i + 1), fun H' pv' => ⟨left, Nat.lt_succ_self _, by omega, pv'⟩, fun x H' y => hs i x H H' below pv (wk.yields i H x H' below good y)⟩
end RM

namespace Bn
open PySem PySem.Spec PyProof.Rows L2 BR GX
def topS (i : Nat) : Stmt := PySem.Challenge.pw_speechloom_k05_choices.main.body.getD i (.Pass ⟨0, 0, 0, 0⟩)
abbrev s_choices : Stmt := topS 1
theorem sc_choices : FnScope ["features", "names", "bundle", "known", "rows", "name", "values", "feature", "value", "row"] ["features", "names", "bundle"] (defScope s_choices) := ⟨rfl, rfl, rfl, by decide +kernel, rfl, by decide +kernel, by decide +kernel⟩
abbrev s_within : Stmt := topS 2
theorem sc_within : FnScope ["inner", "outer", "item"] ["inner", "outer"] (defScope s_within) := ⟨rfl, rfl, rfl, by decide +kernel, rfl, by decide +kernel, by decide +kernel⟩
abbrev s_l_cell : Stmt := topS 4
theorem sc_l_cell : FnScope ["_law_script", "_law_k"] ["_law_script", "_law_k"] (defScope s_l_cell) := ⟨rfl, rfl, rfl, by decide +kernel, rfl, by decide +kernel, by decide +kernel⟩
abbrev s_l_mixed : Stmt := topS 5
theorem sc_l_mixed : FnScope ["_law_number", "_law_k", "_law_once", "_law_twice"] ["_law_number", "_law_k"] (defScope s_l_mixed) := ⟨rfl, rfl, rfl, by decide +kernel, rfl, by decide +kernel, by decide +kernel⟩
abbrev s_l_box : Stmt := topS 6
theorem sc_l_box : FnScope ["_law_cell_here", "_law_k"] ["_law_cell_here", "_law_k"] (defScope s_l_box) := ⟨rfl, rfl, rfl, by decide +kernel, rfl, by decide +kernel, by decide +kernel⟩
abbrev s_l_take : Stmt := topS 7
theorem sc_l_take : FnScope ["_law_box_here", "_law_many", "_law_found"] ["_law_box_here", "_law_many"] (defScope s_l_take) := ⟨rfl, rfl, rfl, by decide +kernel, rfl, by decide +kernel, by decide +kernel⟩
abbrev s_l_some : Stmt := topS 8
theorem sc_l_some : FnScope ["_law_box_here", "_law_words", "_law_many", "_law_left", "_law_found"] ["_law_box_here", "_law_words", "_law_many"] (defScope s_l_some) := ⟨rfl, rfl, rfl, by decide +kernel, rfl, by decide +kernel, by decide +kernel⟩
abbrev s_l_names : Stmt := topS 9
theorem sc_l_names : FnScope ["_law_box_here", "_law_many", "_law_some_here"] ["_law_box_here", "_law_many"] (defScope s_l_names) := ⟨rfl, rfl, rfl, by decide +kernel, rfl, by decide +kernel, by decide +kernel⟩
abbrev s_l_features : Stmt := topS 10
theorem sc_l_features : FnScope ["_law_box_here", "_law_some_here", "_law_found", "_law_name", "_law_values"] ["_law_box_here"] (defScope s_l_features) := ⟨rfl, rfl, rfl, by decide +kernel, rfl, by decide +kernel, by decide +kernel⟩
abbrev s_l_bundle : Stmt := topS 11
theorem sc_l_bundle : FnScope ["_law_box_here", "_law_features_here", "_law_bundle_here", "_law_name", "_law_values", "_law_told", "_law_how", "_law_keep", "_law_value"] ["_law_box_here", "_law_features_here"] (defScope s_l_bundle) := ⟨rfl, rfl, rfl, by decide +kernel, rfl, by decide +kernel, by decide +kernel⟩
abbrev s_l_own : Stmt := topS 12
theorem sc_l_own : FnScope ["_law_bundle_here", "_law_name"] ["_law_bundle_here"] (defScope s_l_own) := ⟨rfl, rfl, rfl, by decide +kernel, rfl, by decide +kernel, by decide +kernel⟩
abbrev s_l_chosen : Stmt := topS 13
theorem sc_l_chosen : FnScope ["_law_box_here", "_law_features_here", "_law_names_here", "_law_many", "_law_name", "_law_values", "_law_told"] ["_law_box_here", "_law_features_here"] (defScope s_l_chosen) := ⟨rfl, rfl, rfl, by decide +kernel, rfl, by decide +kernel, by decide +kernel⟩
abbrev s_l_count : Stmt := topS 14
theorem sc_l_count : FnScope ["_law_features_here", "_law_names_here", "_law_known", "_law_name", "_law_rows", "_law_many", "_law_number", "_law_row", "_law_place", "_law_values", "_law_told"] ["_law_features_here", "_law_names_here"] (defScope s_l_count) := ⟨rfl, rfl, rfl, by decide +kernel, rfl, by decide +kernel, by decide +kernel⟩
abbrev s_l_due : Stmt := topS 15
theorem sc_l_due : FnScope ["_law_features_here", "_law_names_here", "_law_bundle_here", "_law_rows", "_law_row", "_law_name", "_law_value"] ["_law_features_here", "_law_names_here", "_law_bundle_here"] (defScope s_l_due) := ⟨rfl, rfl, rfl, by decide +kernel, rfl, by decide +kernel, by decide +kernel⟩
abbrev s_l_right : Stmt := topS 16
theorem sc_l_right : FnScope ["_law_features_here", "_law_names_here", "_law_bundle_here", "_law_handed", "_law_due_here", "_law_turn", "_law_found", "_law_name", "_law_values", "_law_told", "_law_row"] ["_law_features_here", "_law_names_here", "_law_bundle_here"] (defScope s_l_right) := ⟨rfl, rfl, rfl, by decide +kernel, rfl, by decide +kernel, by decide +kernel⟩
abbrev s_law : Stmt := topS 17
theorem sc_law : FnScope ["_law_script", "_law_k", "_law_cell_here", "_law_box_here", "_law_features_here", "_law_names_here", "_law_bundle_here", "_law_some_here", "_law_feature"] ["_law_script"] (defScope s_law) := ⟨rfl, rfl, rfl, by decide +kernel, rfl, by decide +kernel, by decide +kernel⟩
end Bn

namespace Bn
open PySem PySem.Spec PyProof.Rows L2 BR
section
variable {P : Program} {w : World} {K : PySem.W.Frag} {mg : Str → Option Value} {base : Heap}
/-! ### mixed -/
def spMixed : Sp := fun vs H Q _ => ∃ (n k : Int), vs = [.int n, .int k] ∧ ∀ m : Int, Q (.int m) H
theorem ok_mixed {f : Addr} {fd : FuncData} {k : Nat} (F : Fun K "_law_mixed" "_law_mixed" s_l_mixed f fd) : FnOk P w K mg base CX0 (k + 1) f fd ["_law_number", "_law_k"] spMixed := by
  refine F.ok sc_l_mixed (fun vs H Q E h => ?_) (fun cdv A outer s H vs Q E hr h => ?_)
  · obtain ⟨n, k, rfl, _⟩ := h
    rfl
  · obtain ⟨n, k, rfl, q⟩ := h
    refine ⟨_, pss_cons (ps_set (i := 2) sc_l_mixed.nd rfl (.inl rfl) (pe_op op_mod (pe_op op_mul (pe_op op_add (pe_op op_add (pe_op op_mod (pv 0) pe_int) (pe_op op_mul pe_int (pv 1))) pe_int) pe_int) pe_int))
      (pss_cons (ps_set (i := 3) sc_l_mixed.nd rfl (.inl rfl) (pe_op op_mod (pe_op op_mul (pv 2) (pe_op op_add (pe_op op_add (pe_op op_mod (pv 2) pe_int) (pv 1)) pe_int)) pe_int))
      (pss_one (ps_ret (pe_op op_mod (pe_op op_add (pe_op op_mul (pv 3) pe_int) (pv 2)) pe_int)))), ?_⟩
    refine ⟨_, rfl, _, _, rfl, rfl, (by show (0 : Int) < 2147483629; decide), _, rfl, _, _, rfl, rfl, .inl ⟨by decide, by decide⟩, _, _, rfl, rfl, _, _, rfl, rfl, _, _, rfl, rfl, .inr ⟨by decide, by decide⟩, _, _, rfl, rfl, (by show (0 : Int) < 2147483647; decide), ?_⟩
    generalize (n % 2147483629 + 7919 * k + 11) * 48271 = y
    have y0 := Int.emod_nonneg y (show (2147483647 : Int) ≠ 0 by decide)
    have y1 := Int.emod_lt_of_pos y (show (0 : Int) < 2147483647 by decide)
    refine ⟨_, rfl, _, rfl, _, _, rfl, rfl, (by show (0 : Int) < 1009; decide), _, rfl, _, _, rfl, rfl, _, _, rfl, rfl, _, _, rfl, rfl, .inl ⟨by omega, by omega⟩, _, _, rfl, rfl, (by show (0 : Int) < 998244353; decide), ?_⟩
    exact ⟨_, rfl, _, _, rfl, rfl, .inr ⟨by decide, by decide⟩, _, rfl, _, _, rfl, rfl, _, _, rfl, rfl, (by show (0 : Int) < 2147483629; decide), q _⟩
theorem bit_lo (b : Bool) : -(2 ^ 64) < (if b = true then (1 : Int) else 0) := by cases b <;> decide
theorem bit_hi (b : Bool) : (if b = true then (1 : Int) else 0) < 2 ^ 64 := by cases b <;> decide
/-! ### box -/
def spBox : Sp := fun vs H Q _ => ∃ (c k : Int), vs = [.int c, .int k] ∧ ∀ p H', H p = none → Same H H' → Bx H' p → Q (.ref p) H'
theorem ok_box {f : Addr} {fd : FuncData} {k : Nat} (F : Fun K "_law_box" "_law_box" s_l_box f fd) (ma : mg "abs" = none) (mi : mg "int" = none) : FnOk P w K mg base CX0 (k + 1) f fd ["_law_cell_here", "_law_k"] spBox := by
  refine F.ok sc_l_box (fun vs H Q E h => ?_) (fun cdv A outer s H vs Q E hr h => ?_)
  · obtain ⟨c, k, rfl, _⟩ := h
    rfl
  · obtain ⟨c, k, rfl, q⟩ := h
    refine ⟨_, pss_one (ps_ret (pe_lst (pa_cons (pe_op op_mul (pe_callB call_abs (by rfl) ma (by decide +kernel) (pa_cons (pv 0) pa_nil)) (pe_callTy call_int1 (by rfl) mi (by decide +kernel) (pa_cons (pe_cmpR op_ge (pe_callB call_abs (by rfl) ma (by decide +kernel) (pa_cons (pv 0) pa_nil)) (pe_op op_pow pe_int pe_int) (nomark _)) pa_nil)))
        (pa_cons (pv 0) (pa_cons (pv 1) (pa_cons pe_int pa_nil)))))), ?_⟩
    refine ⟨_, rfl, _, rfl, _, rfl, _, rfl, _, _, rfl, rfl, ⟨by decide, by decide, by decide⟩, _, _, rfl, rfl, .inr ⟨_, rfl, _, _, rfl, rfl, .inr ⟨bit_lo _, bit_hi _⟩, _, rfl, _, rfl, (show 4 ≤ sizeLine by decide), fun p np => ?_⟩⟩
    exact q p _ np (same_new np) ⟨_, _, _, _, upd_same⟩
/-! ### take -/
def spTake : Sp := fun vs H Q _ => ∃ (b : Addr) (m : Int), vs = [.ref b, .int m] ∧ Bx H b ∧ 0 < m ∧ m < 1073741824 ∧ ∀ (n : Int) H', 0 ≤ n → n < m → Kb b H H' → Q (.int n) H'
theorem ok_take {f fM : Addr} {fd fdM : FuncData} (F : Fun K "_law_take" "_law_take" s_l_take f fd)
    (FM : Fun K "_law_mixed" "_law_mixed" s_l_mixed fM fdM) (bM : Binds K fdM ["_law_number", "_law_k"] []) (gM : mg "_law_mixed" = some (.ref fM)) (md : mg "divmod" = none) : FnOk P w K mg base CX0 2 f fd ["_law_box_here", "_law_many"] spTake := by
  have GM : FnOk P w K mg base CX0 1 fM fdM ["_law_number", "_law_k"] spMixed := ok_mixed FM
  refine F.ok sc_l_take (fun vs H Q E h => ?_) (fun cdv A outer s H vs Q E hr h => ?_)
  · obtain ⟨b, m, rfl, _⟩ := h
    rfl
  · obtain ⟨b, m, rfl, ⟨x, y, z, t, hb⟩, m0, m1, q⟩ := h
    refine ⟨_, pss_cons (ps_asg (pe_op op_add (pe_ix ix_list (pv 0) pe_int (fun _ _ => rfl)) pe_int) (pg_sub (pv 0) pe_int set_list))
      (pss_cons (ps_if (pt_cmpR op_gt (pe_ix ix_list (pv 0) pe_int (fun _ _ => rfl)) pe_int (nomark _))
        (pss_cons (ps_asg (pe_callB call_divmod (by rfl) md (by decide +kernel) (pa_cons (pe_ix ix_list (pv 0) pe_int (fun _ _ => rfl)) (pa_cons (pv 1) pa_nil))) (pg_tup rfl (pgs_cons (pg_sub (pv 0) pe_int set_list) (pgs_cons (pg_name (i := 2) sc_l_take.nd rfl (.inl rfl)) pgs_nil))))
        (pss_one (ps_ret (pv 2)))) pss_nil)
      (pss_one (ps_ret (pe_op op_mod (pe_op op_fdiv (pe_call GM hr (by rfl) gM FM.kp bM .nil pass0 (pa_cons (pe_call GM hr (by rfl) gM FM.kp bM .nil pass0 (pa_cons (pe_ix ix_list (pv 0) pe_int (fun _ _ => rfl)) (pa_cons (pe_ix ix_list (pv 0) pe_int (fun _ _ => rfl)) pa_nil))) (pa_cons (pe_op op_add (pe_ix ix_list (pv 0) pe_int (fun _ _ => rfl)) (pe_ix ix_list (pv 0) pe_int (fun _ _ => rfl))) pa_nil))) pe_int) (pv 1))))), ?_⟩
    refine ⟨_, rfl, b, _, _, .int t, rfl, rfl, .inl (.inl hb), rfl, _, _, rfl, rfl, _, rfl, b, _, _, 3, rfl, rfl, hb, rfl, ?_⟩
    have hL : SqL K (upd H b (.lst [.int x, .int y, .int z, .int (t + 1)])) b [.int x, .int y, .int z, .int (t + 1)] := .inl (.inl upd_same)
    refine ⟨_, rfl, b, _, _, .int x, rfl, rfl, hL, rfl, _, _, rfl, rfl, _, rfl, ite2 (fun e => ?_) (fun e => ?_)⟩
    · refine ⟨_, rfl, b, _, _, .int x, rfl, rfl, hL, rfl, _, rfl, _, _, rfl, ⟨m0, m1⟩, fun p np => ?_⟩
      have nbp : b ≠ p := fun e => by
        rw [← e, upd_same] at np
        cases np
      have hb2 : (upd (upd H b (.lst [.int x, .int y, .int z, .int (t + 1)])) p (.tup [.int (x / m), .int (x % m)])) b = some (.lst [.int x, .int y, .int z, .int (t + 1)]) := by
        rw [upd_ne nbp, upd_same]
      refine ⟨p, _, rfl, .inl (.inl upd_same), rfl, _, _, rfl, _, rfl, b, _, _, 0, rfl, rfl, hb2, rfl, _, _, rfl, rfl, ?_⟩
      refine ⟨_, rfl, ?_⟩
      refine q _ _ (Int.emod_nonneg x (by omega)) (Int.emod_lt_of_pos x m0) ⟨fun a o n h => ?_, ⟨_, _, _, _, upd_same⟩⟩
      have ea : (upd H b (.lst [.int x, .int y, .int z, .int (t + 1)])) a = some o := by
        rw [upd_ne n]
        exact h
      rw [upd_ne n, upd_ne (ne_of_none ea np)]
      exact ea
    · refine ⟨_, rfl, b, _, _, .int y, rfl, rfl, hL, rfl, _, rfl, b, _, _, .int (t + 1), rfl, rfl, hL, rfl, _, _, rfl, fun n1 => ?_⟩
      refine ⟨_, rfl, b, _, _, .int z, rfl, rfl, hL, rfl, _, rfl, b, _, _, .int (t + 1), rfl, rfl, hL, rfl, _, _, rfl, rfl, _, _, rfl, fun n2 => ?_⟩
      refine ⟨_, _, rfl, rfl, ⟨by show (0 : Int) < 7; decide, by show (7 : Int) < 1073741824; decide⟩, _, rfl, _, _, rfl, rfl, m0, ?_⟩
      exact q _ _ (Int.emod_nonneg _ (by omega)) (Int.emod_lt_of_pos _ m0) ⟨Kp.put, ⟨_, _, _, _, upd_same⟩⟩
/-! ### some -/
def spSome (K : PySem.W.Frag) : Sp := fun vs H Q _ => ∃ (b r : Addr) (xs : List V) (m : Nat), vs = [.ref b, .ref r, .int m] ∧ Bx H b ∧ SqL K H r xs ∧ m ≤ xs.length ∧ xs.length ≤ 100 ∧ ∀ (p : Addr) (ys : List V) H', H p = none → Kb b H H' → H' p = some (.lst ys) → ys.length = m → (∀ y ∈ ys, y ∈ xs) → Q (.ref p) H'
theorem ok_some {f fT : Addr} {fd fdT : FuncData} (F : Fun K "_law_some" "_law_some" s_l_some f fd)
    (kT : PySem.W.keepIn K (.ref fT) = true) (bT : Binds K fdT ["_law_box_here", "_law_many"] []) (gT : mg "_law_take" = some (.ref fT)) (GT : FnOk P w K mg base CX0 2 fT fdT ["_law_box_here", "_law_many"] spTake)
    (ml : mg "len" = none) (mli : mg "list" = none) : FnOk P w K mg base CX0 3 f fd ["_law_box_here", "_law_words", "_law_many"] (spSome K) := by
  refine F.ok sc_l_some (fun vs H Q E h => ?_) (fun cdv A outer s H vs Q E hr h => ?_)
  · obtain ⟨b, r, xs, m, rfl, _⟩ := h
    rfl
  · obtain ⟨b, r, xs, m, rfl, hb, hS, hmx, hlen, q⟩ := h
    refine ⟨_, pss_cons (ps_set (i := 3) sc_l_some.nd rfl (.inl rfl) (pe_callTy call_list_of (by rfl) mli (by decide +kernel) (pa_cons (pv 1) pa_nil)))
      (pss_cons (ps_set (i := 4) sc_l_some.nd rfl (.inl rfl) (pe_lst pa_nil))
      (pss_cons (ps_while PassesOwn.never (pt_cmpR op_lt (pe_callB call_len_seq (by rfl) ml PySem.boot_len (pa_cons (pv 4) pa_nil)) (pv 2) (nomark _))
        (pss_one (ps_expr (pe_bm PySem.F.plainAttrs_list PySem.F.slot_list_append PySem.F.type_list_append mt_append (pv 4) (pa_cons
          (pe_bm PySem.F.plainAttrs_list PySem.F.slot_list_pop PySem.F.type_list_pop mt_popAt (pv 3) (pa_cons (pe_call GT hr (by rfl) gT kT bT .nil pass0 (pa_cons (pv 0) (pa_cons (pe_callB call_len_seq (by rfl) ml PySem.boot_len (pa_cons (pv 3) pa_nil)) pa_nil))) pa_nil)) pa_nil)))))
      (pss_one (ps_ret (pv 4))))), ?_⟩
    refine ⟨_, rfl, r, xs, rfl, .inl hS, fun l nl => ?_⟩
    refine ⟨Nat.zero_le _, fun d nd => ?_⟩
    have nlb : l ≠ b := (hb.ne nl).symm
    have hb1 : Bx (upd H l (.lst xs)) b := hb.same (same_new nl)
    have ndb : d ≠ b := (hb1.ne nd).symm
    have ndl : d ≠ l := fun e => by
      rw [e, upd_same] at nd
      cases nd
    have nd0 : H d = none := by
      rw [upd_ne ndl] at nd
      exact nd
    refine while_by (fun σ H' => ∃ xs' ys, σ = [some (.ref b), some (.ref r), some (.int m), some (.ref l), some (.ref d)] ∧ Kb b H H' ∧ H' l = some (.lst xs') ∧ H' d = some (.lst ys) ∧ xs'.length + ys.length = xs.length ∧ ys.length ≤ m ∧ (∀ y ∈ xs', y ∈ xs) ∧ ∀ y ∈ ys, y ∈ xs) (fun _ H' => lenAt H' l) ?_ (fun σ H' hP => ?_) (fun σ H' Q1 Q2 hq h => ?_)
    · refine ⟨xs, [], rfl, ((Kb.refl hb).own nl nlb).own nd0 ndb, ?_, upd_same, by simp, Nat.zero_le _, fun y hy => hy, fun y hy => by cases hy⟩
      rw [upd_ne ndl.symm, upd_same]
    · obtain ⟨xs', ys, rfl, kb, hl, hd, hle, hym, hx, hy⟩ := hP
      refine ⟨_, rfl, d, ys, rfl, .inl (.inl (.inl hd)), _, rfl, _, _, rfl, rfl, _, rfl, ite2 (fun e => ?_) (fun e => ?_)⟩
      · have e0 : (ys.length : Int) < (m : Int) := of_decide_eq_true e
        refine ⟨_, rfl, .inl ⟨rfl, _, .inl (.inl hd)⟩, _, rfl, .inl ⟨rfl, _, .inl (.inl hl)⟩, _, rfl, _, rfl, l, _, rfl, .inl (.inl (.inl hl)), b, _, rfl, kb.x, by omega, by omega, fun n H2 n0 n1 k2 => ?_⟩
        have hl2 : H2 l = some (.lst xs') := k2.k _ _ nlb hl
        have hd2 : H2 d = some (.lst ys) := k2.k _ _ ndb hd
        have hn : n.toNat < xs'.length := by omega
        refine ⟨l, xs', n, n.toNat, xs'[n.toNat], rfl, rfl, hl2, by omega, by omega, PySem.seqIndex_of n0 (by omega), List.getElem?_eq_getElem hn, ?_⟩
        have hd3 : (upd H2 l (.lst (xs'.eraseIdx n.toNat))) d = some (.lst ys) := by
          rw [upd_ne ndl]
          exact hd2
        refine ⟨d, ys, _, rfl, rfl, hd3, small1000 (by omega), ⟨xs'.eraseIdx n.toNat, ys ++ [xs'[n.toNat]], rfl, ((kb.trans k2).own nl nlb).own nd0 ndb, ?_, upd_same, ?_, ?_, fun y hy' => hx y (List.mem_of_mem_eraseIdx hy'), fun y hy' => ?_⟩, ?_⟩
        · rw [upd_ne ndl.symm, upd_same]
        · rw [List.length_eraseIdx_of_lt hn, List.length_append]
          show xs'.length - 1 + (ys.length + 1) = xs.length
          omega
        · rw [List.length_append]
          show ys.length + 1 ≤ m
          omega
        · rcases List.mem_append.mp hy' with q1 | q1
          · exact hy y q1
          · rw [List.mem_singleton.mp q1]
            exact hx _ (List.getElem_mem hn)
        · rw [lenAt_of hl, lenAt_of (xs := xs'.eraseIdx n.toNat) (by rw [upd_ne ndl.symm, upd_same]), List.length_eraseIdx_of_lt hn]
          omega
      · have e0 : ¬ (ys.length : Int) < (m : Int) := fun z => e (decide_eq_true z)
        exact ⟨_, rfl, q d ys _ nd0 kb hd (by omega) hy⟩
    · obtain ⟨v, hv, a, zs, e, hs, w', hw, i, j, e1, e2, k, hk, h5⟩ := h
      exact ⟨v, hv, a, zs, e, hs, w', hw, i, j, e1, e2, k, hk, hq _ _ h5⟩
end
end Bn

namespace Bn
open PySem PySem.Spec PyProof.Rows L2 BR
def names12 : List Str := ["a", "ab", "abc", "b", "case", "num", "z", "zz", "person", "aa", "quantity", "zzzzzzzz"]
def words12 : List Str := ["a", "b", "sg", "pl", "s", "sgs", "nom", "first", "aa", "pluralis", "x", "num"]
theorem names12_ok : ∀ x ∈ names12, okS x := fun x hx => (okS_iff x).mp ((List.all_eq_true.mp (show names12.all PyData.strOk = true by decide +kernel)) x hx)
theorem words12_ok : ∀ x ∈ words12, okS x := fun x hx => (okS_iff x).mp ((List.all_eq_true.mp (show words12.all PyData.strOk = true by decide +kernel)) x hx)
section
variable {P : Program} {w : World} {K : PySem.W.Frag} {mg : Str → Option Value} {base : Heap}
/-! ### names -/
def spNames : Sp := fun vs H Q _ => ∃ (b : Addr) (m : Nat), vs = [.ref b, .int m] ∧ Bx H b ∧ m ≤ 12 ∧ ∀ (p : Addr) (ns : List Str) H', H p = none → Kb b H H' → H' p = some (.lst (ns.map V.str)) → ns.length = m → (∀ x ∈ ns, okS x) → Q (.ref p) H'
theorem ok_names {f fS : Addr} {fd fdS : FuncData} (F : Fun K "_law_names" "_law_names" s_l_names f fd)
    (kS : PySem.W.keepIn K (.ref fS) = true) (bS : Binds K fdS ["_law_box_here", "_law_words", "_law_many"] []) (gS : mg "_law_some" = some (.ref fS)) (GS : FnOk P w K mg base CX0 3 fS fdS ["_law_box_here", "_law_words", "_law_many"] (spSome K)) : FnOk P w K mg base CX0 4 f fd ["_law_box_here", "_law_many"] spNames := by
  refine F.ok sc_l_names (fun vs H Q E h => ?_) (fun cdv A outer s H vs Q E hr h => ?_)
  · obtain ⟨b, m, rfl, _⟩ := h
    rfl
  · obtain ⟨b, m, rfl, hb, hm, q⟩ := h
    refine ⟨_, pss_cons (ps_set (i := 2) sc_l_names.nd rfl (.inl rfl) (pe_lst (pa_cons pe_str (pa_cons pe_str (pa_cons pe_str (pa_cons pe_str (pa_cons pe_str (pa_cons pe_str (pa_cons pe_str (pa_cons pe_str (pa_cons pe_str (pa_cons pe_str (pa_cons pe_str (pa_cons pe_str pa_nil)))))))))))))) (pss_one (ps_ret (pe_call GS hr (by rfl) gS kS bS .nil pass0 (pa_cons (pv 0) (pa_cons (pv 2) (pa_cons (pv 1) pa_nil)))))), ?_⟩
    refine ⟨(show 12 ≤ sizeLine by decide), fun l nl => ?_⟩
    have hl : (upd H l (.lst (names12.map V.str))) l = some (.lst (names12.map V.str)) := upd_same
    refine ⟨_, rfl, _, rfl, _, rfl, b, l, names12.map V.str, m, rfl, hb.same (same_new nl), .inl (.inl hl), by rw [List.length_map]; exact hm, by rw [List.length_map]; decide, fun p ys H' np k' hp hy hm' => ?_⟩
    obtain ⟨ns, rfl, hn⟩ := strs_all hm'
    rw [List.length_map] at hy
    exact q p ns H' ((Kb.new hb nl).free np) ((Kb.new hb nl).trans k') hp hy fun x hx => names12_ok x (hn x hx)
theorem pick2 (a b : Int) (k : Bool) : atI [V.int a, V.int b] (if k = true then 1 else 0) = some (V.int (if k = true then b else a)) := by cases k <;> rfl
theorem pick3 (a b c n : Int) (h0 : 0 ≤ n) (h1 : n < 3) : ∃ m : Int, atI [V.int a, V.int b, V.int c] n = some (V.int m) ∧ (m = a ∨ m = b ∨ m = c) := by
  have e : n = 0 ∨ n = 1 ∨ n = 2 := by omega
  rcases e with rfl | rfl | rfl
  · exact ⟨a, rfl, .inl rfl⟩
  · exact ⟨b, rfl, .inr (.inl rfl)⟩
  · exact ⟨c, rfl, .inr (.inr rfl)⟩
/-! ### features -/
def spFeatures : Sp := fun vs H Q _ => ∃ (b : Addr), vs = [.ref b] ∧ Bx H b ∧ ∀ (p : Addr) (ys : List V) H', H p = none → Kb b H H' → H' p = some (.lst ys) → ys.length ≤ 6 → (∀ y ∈ ys, Ft H' y) → Q (.ref p) H'
theorem ok_features {f fT fS fN : Addr} {fd fdT fdS fdN : FuncData} (F : Fun K "_law_features" "_law_features" s_l_features f fd)
    (kT : PySem.W.keepIn K (.ref fT) = true) (bT : Binds K fdT ["_law_box_here", "_law_many"] []) (gT : mg "_law_take" = some (.ref fT)) (GT : FnOk P w K mg base CX0 2 fT fdT ["_law_box_here", "_law_many"] spTake)
    (kS : PySem.W.keepIn K (.ref fS) = true) (bS : Binds K fdS ["_law_box_here", "_law_words", "_law_many"] []) (gS : mg "_law_some" = some (.ref fS)) (GS : FnOk P w K mg base CX0 3 fS fdS ["_law_box_here", "_law_words", "_law_many"] (spSome K))
    (kN : PySem.W.keepIn K (.ref fN) = true) (bN : Binds K fdN ["_law_box_here", "_law_many"] []) (gN : mg "_law_names" = some (.ref fN)) (GN : FnOk P w K mg base CX0 4 fN fdN ["_law_box_here", "_law_many"] spNames)
    (mi : mg "int" = none) : FnOk P w K mg base CX0 5 f fd ["_law_box_here"] spFeatures := by
  refine F.ok sc_l_features (fun vs H Q E h => ?_) (fun cdv A outer s H vs Q E hr h => ?_)
  · obtain ⟨b, rfl, _⟩ := h
    rfl
  · obtain ⟨b, rfl, hb, q⟩ := h
    refine ⟨_, pss_cons (ps_set (i := 1) sc_l_features.nd rfl (.inl rfl) (pe_lst (pa_cons pe_str (pa_cons pe_str (pa_cons pe_str (pa_cons pe_str (pa_cons pe_str (pa_cons pe_str (pa_cons pe_str (pa_cons pe_str (pa_cons pe_str (pa_cons pe_str (pa_cons pe_str (pa_cons pe_str pa_nil))))))))))))))
      (pss_cons (ps_set (i := 2) sc_l_features.nd rfl (.inl rfl) (pe_lst pa_nil))
      (pss_cons (ps_for PassesOwn.never rfl (pi_list (pe_call GN hr (by rfl) gN kN bN .nil pass0 (pa_cons (pv 0) (pa_cons (pe_ix ix_list (pe_lst (pa_cons (pe_call GT (hr.mono (by decide)) (by rfl) gT kT bT .nil pass0 (pa_cons (pv 0) (pa_cons pe_int pa_nil))) (pa_cons pe_int pa_nil))) (pe_callTy call_int1 (by rfl) mi (by decide +kernel) (pa_cons (pe_cmpR op_eq (pe_call GT (hr.mono (by decide)) (by rfl) gT kT bT .nil pass0 (pa_cons (pv 0) (pa_cons pe_int pa_nil))) pe_int (nomark _)) pa_nil)) (fun _ _ => rfl)) pa_nil)))) (pg_name (i := 3) sc_l_features.nd rfl (.inl rfl))
        (pss_cons (ps_set (i := 4) sc_l_features.nd rfl (.inl rfl) (pe_call GS (hr.mono (by decide)) (by rfl) gS kS bS .nil pass0 (pa_cons (pv 0) (pa_cons (pv 1) (pa_cons (pe_ix ix_list (pe_lst (pa_cons (pe_op op_add pe_int (pe_call GT (hr.mono (by decide)) (by rfl) gT kT bT .nil pass0 (pa_cons (pv 0) (pa_cons pe_int pa_nil)))) (pa_cons pe_int (pa_cons pe_int pa_nil)))) (pe_call GT (hr.mono (by decide)) (by rfl) gT kT bT .nil pass0 (pa_cons (pv 0) (pa_cons pe_int pa_nil))) (fun _ _ => rfl)) pa_nil)))))
        (pss_one (ps_expr (pe_bm PySem.F.plainAttrs_list PySem.F.slot_list_append PySem.F.type_list_append mt_append (pv 2) (pa_cons (pe_tup (pa_cons (pv 3) (pa_cons (pv 4) (pa_cons (pe_cmpR op_eq (pe_call GT (hr.mono (by decide)) (by rfl) gT kT bT .nil pass0 (pa_cons (pv 0) (pa_cons pe_int pa_nil))) pe_int (nomark _)) pa_nil)))) pa_nil))))))
      (pss_one (ps_ret (pv 2))))), ?_⟩
    -- some_here, found
    refine ⟨(show 12 ≤ sizeLine by decide), fun l nl => ?_⟩
    have hl0 : (upd H l (.lst (words12.map V.str))) l = some (.lst (words12.map V.str)) := upd_same
    have k1 : Kb b H (upd H l (.lst (words12.map V.str))) := Kb.new hb nl
    show _ ∧ _
    refine ⟨Nat.zero_le _, fun d nd => ?_⟩
    have nd' : (upd H l (.lst (words12.map V.str))) d = none := nd
    have nlb : l ≠ b := (hb.ne nl).symm
    have ndb : d ≠ b := (k1.x.ne nd').symm
    have ndH : H d = none := k1.free nd'
    have ndl : d ≠ l := fun e => by
      rw [e, hl0] at nd'
      cases nd'
    have k2 : Kb b H (upd (upd H l (.lst (words12.map V.str))) d (.lst [])) := k1.trans (Kb.new k1.x nd')
    have hd2 : (upd (upd H l (.lst (words12.map V.str))) d (.lst [])) d = some (.lst []) := upd_same
    have hl2 : (upd (upd H l (.lst (words12.map V.str))) d (.lst [])) l = some (.lst (words12.map V.str)) := by
      rw [upd_ne ndl.symm]
      exact hl0
    -- names(box, ..)
    refine ⟨_, rfl, _, rfl, b, 7, rfl, k2.x, by decide, by decide, fun n1 H3 n10 n11 k3 => ⟨(show 2 ≤ sizeLine by decide), fun p np => ?_⟩⟩
    have k4 := (k2.trans k3).trans (Kb.new (o := .lst [.int n1, .int 6]) k3.x np)
    have npb : p ≠ b := (k3.x.ne np).symm
    refine ⟨_, rfl, b, 3, rfl, k4.x, by decide, by decide, fun n2 H5 n20 n21 k5 => ⟨rfl, .inr ⟨_, rfl, p, _, _, _, rfl, rfl, .inl (.inl (k5.k _ _ npb upd_same)), pick2 n1 6 _, ?_⟩⟩⟩
    obtain ⟨m, em, hm⟩ : ∃ m : Nat, (if decide (V.int n2 = V.int 0) = true then (6 : Int) else n1) = (m : Int) ∧ m ≤ 6 := by
      by_cases c : decide (V.int n2 = V.int 0) = true
      · rw [if_pos c]
        exact ⟨6, rfl, Nat.le_refl _⟩
      · rw [if_neg c]
        exact ⟨n1.toNat, by omega, by omega⟩
    rw [em]
    have k6 := k4.trans k5
    have hd6 : H5 d = some (.lst []) := k5.k _ _ ndb (Kp.new (o := .lst [.int n1, .int 6]) np _ _ ndb (k3.k _ _ ndb hd2))
    have hl6 : H5 l = some (.lst (words12.map V.str)) := k5.k _ _ nlb (Kp.new (o := .lst [.int n1, .int 6]) np _ _ nlb (k3.k _ _ nlb hl2))
    refine ⟨b, m, rfl, k6.x, by omega, fun ln ns H7 nln k7 hln hns okn => ?_⟩
    have nlnb : ln ≠ b := (k6.x.ne nln).symm
    have nlnd : ln ≠ d := (ne_of_none hd6 nln).symm
    have k8 := k6.trans k7
    refine ⟨ln, rfl, ⟨_, .inl (.inl hln)⟩, for_list (K := K) (a := ln) (xs := ns.map V.str) (fun i σ H' => ∃ y3 y4, σ = [some (.ref b), some (.ref l), some (.ref d), y3, y4] ∧ Kb b H H' ∧ H' ln = some (.lst (ns.map V.str)) ∧ H' l = some (.lst (words12.map V.str)) ∧ ∃ ys, H' d = some (.lst ys) ∧ ys.length = i ∧ ∀ y ∈ ys, Ft H' y)
      ⟨none, none, rfl, k8, hln, k7.k _ _ nlb hl6, [], k7.k _ _ ndb hd6, rfl, fun y hy => by cases hy⟩ (fun i σ H' _ h => ?_) (fun i x σ H' hx hP => ?_) (fun σ H' hP => ?_)⟩
    · obtain ⟨_, _, _, _, h, _⟩ := h
      exact .inl (.inl h)
    · obtain ⟨y3, y4, rfl, kb, hn', hw', ys, hd', hyl, hy⟩ := hP
      rw [List.getElem?_map] at hx
      obtain ⟨n, en, ex⟩ := Option.map_eq_some_iff.mp hx
      subst ex
      have nmem : n ∈ ns := List.mem_of_getElem? en
      have hil : i < ns.length := (List.getElem?_eq_some_iff.mp en).1
      refine ⟨_, rfl, _, rfl, _, rfl, b, 6, rfl, kb.x, by decide, by decide, fun a1 HA a10 a11 kA => ⟨_, _, rfl, rfl, (show 3 ≤ sizeLine by decide), fun p2 np2 => ?_⟩⟩
      have kB := kA.trans (Kb.new (o := .lst [.int (1 + a1), .int 6, .int 2]) kA.x np2)
      have np2b : p2 ≠ b := (kA.x.ne np2).symm
      refine ⟨_, rfl, b, 3, rfl, kB.x, by decide, by decide, fun a2 HC a20 a21 kC => ?_⟩
      obtain ⟨m2, em2, hm2⟩ := pick3 (1 + a1) 6 2 a2 a20 a21
      obtain ⟨m3, rfl⟩ : ∃ m3 : Nat, m2 = (m3 : Int) := ⟨m2.toNat, by omega⟩
      have kD := kB.trans kC
      refine ⟨p2, _, a2, _, rfl, rfl, .inl (.inl (kC.k _ _ np2b upd_same)), em2, b, l, words12.map V.str, m3, rfl, kD.x, .inl (.inl (kD.k _ _ nlb hw')), ?_, by rw [List.length_map]; decide, fun pv ws HE npv kE hpv hwl hwm => ?_⟩
      · rw [List.length_map]
        show m3 ≤ 12
        omega
      obtain ⟨us, rfl, hus⟩ := strs_all hwm
      rw [List.length_map] at hwl
      have kF := kD.trans kE
      have npvb : pv ≠ b := (kD.x.ne npv).symm
      -- found.append(..)
      refine ⟨_, rfl, .inl ⟨rfl, _, .inl (.inl (kF.k _ _ ndb hd'))⟩, _, rfl, _, rfl, _, rfl, b, 2, rfl, kF.x, by decide, by decide, fun a3 HG a30 a31 kG => ⟨rfl, (show 3 ≤ sizeLine by decide), fun pt npt => ?_⟩⟩
      have kH := kF.trans kG
      have smt : Same HG (upd HG pt (.tup [.str n, .ref pv, .bl (decide (V.int a3 = V.int 1))])) := same_new npt
      have hdG := kH.k _ _ ndb hd'
      refine ⟨d, ys, _, rfl, rfl, smt _ _ hdG, small1000 (by omega), _, _, rfl, ((kb.trans kH).trans (Kb.new kH.x npt)).own ndH ndb, ?_, ?_, ys ++ [.ref pt], upd_same, by rw [List.length_append, hyl]; rfl, fun y hy' => ?_⟩
      · rw [upd_ne nlnd]
        exact smt _ _ (kH.k _ _ nlnb hn')
      · rw [upd_ne ndl.symm]
        exact smt _ _ (kH.k _ _ nlb hw')
      · have keep : ∀ {v : V}, Ft (upd HG pt (.tup [.str n, .ref pv, .bl (decide (V.int a3 = V.int 1))])) v → Ft (upd (upd HG pt (.tup [.str n, .ref pv, .bl (decide (V.int a3 = V.int 1))])) d (.lst (ys ++ [.ref pt]))) v := by
          intro v hv
          obtain ⟨p', l', dd, rfl, e1, e2, hB⟩ := hv
          refine ⟨p', l', dd, rfl, ?_, ?_, hB⟩
          · rw [upd_ne (ne_of e1 (smt _ _ hdG) (by intro z; cases z))]
            exact e1
          · have : l' ≠ d := fun z => by
              subst z
              rw [smt _ _ hdG] at e2
              have e3 := HO.lst.inj (Option.some.inj e2)
              cases hv2 : dd.vs with
              | nil => exact absurd hB.1 (by rw [hv2]; decide)
              | cons v0 r0 =>
                rw [hv2] at e3
                cases hys : ys with
                | nil => rw [hys] at e3; cases e3
                | cons y0 yr =>
                  rw [hys] at e3
                  injection e3 with e4 _
                  obtain ⟨q1, q2, q3, q4, _⟩ := hy y0 (by rw [hys]; exact List.mem_cons_self ..)
                  rw [q4] at e4
                  cases e4
            rw [upd_ne this]
            exact e2
        rcases List.mem_append.mp hy' with q1 | q1
        · exact keep (((hy y q1).kp kb.x kH.k).same smt)
        · rw [List.mem_singleton.mp q1]
          exact keep ⟨pt, pv, ⟨n, us, _⟩, rfl, upd_same, smt _ _ (kG.k _ _ npvb hpv), by show 1 ≤ us.length; omega, by show us.length ≤ 6; omega, okn n nmem, fun x hx => words12_ok x (hus x hx)⟩
    · obtain ⟨y3, y4, rfl, kb, _, _, ys, hd', hyl, hy⟩ := hP
      rw [List.length_map] at hyl
      exact ⟨_, rfl, q d ys _ ndH kb hd' (by omega) hy⟩
end
end Bn

namespace Bn
open PySem PySem.Spec PyProof.Rows L2 BR
/-! ### a bundle's entry put -/
def putB (b : BD) (n : Str) (vs : List Str) : BD := if (b.any fun e => decide (e.1 = n)) = true then b.map (fun e => if e.1 = n then (e.1, vs) else e) else b ++ [(n, vs)]
theorem Ents.any {H : Hp} {kvs : List (Key × V)} {b : BD} (h : Ents H kvs b) (n : Str) : (kvs.any fun kv => decide (kv.1 = Sum.inr n)) = b.any fun e => decide (e.1 = n) := by
  induction h with
  | nil => rfl
  | @cons l m vs kvs b e _ ih =>
    rw [List.any_cons, List.any_cons, ih]
    congr 1
    by_cases q : m = n
    · rw [decide_eq_true q, decide_eq_true (by rw [q])]
    · rw [decide_eq_false q, decide_eq_false (fun z => q (Sum.inr.inj z))]
theorem Ents.repl {H : Hp} {kvs : List (Key × V)} {b : BD} (h : Ents H kvs b) {n : Str} {l : Addr} {vs : List Str} (hl : H l = some (.lst (vs.map V.str))) :
    Ents H (kvs.map fun kv => if kv.1 = Sum.inr n then (kv.1, V.ref l) else kv) (b.map fun e => if e.1 = n then (e.1, vs) else e) := by
  induction h with
  | nil => exact .nil
  | @cons l' m ws kvs b e _ ih =>
    rw [List.map_cons, List.map_cons]
    by_cases q : m = n
    · subst q
      rw [if_pos rfl, if_pos rfl]
      exact .cons hl ih
    · rw [if_neg (fun z => q (Sum.inr.inj z)), if_neg q]
      exact .cons e ih
theorem Ents.put {H : Hp} {kvs : List (Key × V)} {b : BD} (h : Ents H kvs b) {n : Str} {l : Addr} {vs : List Str} (hl : H l = some (.lst (vs.map V.str))) : Ents H (putK kvs (.inr n) (.ref l)) (putB b n vs) := by
  unfold putK putB
  rw [h.any n]
  by_cases q : (b.any fun e => decide (e.1 = n)) = true
  · rw [if_pos q, if_pos q]
    exact h.repl hl
  · rw [if_neg q, if_neg q]
    exact h.app (.cons hl .nil)
theorem putB_len (b : BD) (n : Str) (vs : List Str) : (putB b n vs).length ≤ b.length + 1 := by
  unfold putB
  split
  · rw [List.length_map]
    omega
  · rw [List.length_append]
    exact Nat.le_refl _
theorem repl_keys (n : Str) (vs : List Str) : ∀ b : BD, (b.map fun e => if e.1 = n then (e.1, vs) else e).map (·.1) = b.map (·.1)
  | [] => rfl
  | e :: b => by
    rw [List.map_cons, List.map_cons, List.map_cons, repl_keys n vs b]
    congr 1
    by_cases q : e.1 = n
    · rw [if_pos q]
    · rw [if_neg q]
theorem putB_keys (b : BD) (n : Str) (vs : List Str) (h : (b.map (·.1)).Nodup) : ((putB b n vs).map (·.1)).Nodup := by
  unfold putB
  by_cases q : (b.any fun e => decide (e.1 = n)) = true
  · rw [if_pos q, repl_keys]
    exact h
  · rw [if_neg q, List.map_append]
    refine nd_snoc h fun m => q ?_
    obtain ⟨e, he, en⟩ := List.mem_map.mp m
    exact List.any_eq_true.mpr ⟨e, he, decide_eq_true en⟩
theorem putB_all {p : Str × List Str → Prop} {b : BD} {n : Str} {vs : List Str} (h : ∀ e ∈ b, p e) (hn : p (n, vs)) : ∀ e ∈ putB b n vs, p e := by
  intro e he
  unfold putB at he
  by_cases q : (b.any fun e => decide (e.1 = n)) = true
  · rw [if_pos q] at he
    obtain ⟨x, hx, ex⟩ := List.mem_map.mp he
    by_cases c : x.1 = n
    · rw [if_pos c] at ex
      rw [← ex, c]
      exact hn
    · rw [if_neg c] at ex
      rw [← ex]
      exact h x hx
  · rw [if_neg q] at he
    rcases List.mem_append.mp he with z | z
    · exact h e z
    · rw [List.mem_singleton.mp z]
      exact hn
theorem Ents.upd_dict {H : Hp} {kvs : List (Key × V)} {b : BD} (h : Ents H kvs b) {a : Addr} {ls ms : List (Key × V)} (ha : H a = some (.dK ls)) : Ents (upd H a (.dK ms)) kvs b :=
  h.mono fun l xs e _ => by
    rw [upd_ne (ne_of e ha (by intro z; cases z))]
    exact e
section
variable {P : Program} {w : World} {K : PySem.W.Frag} {mg : Str → Option Value} {base : Heap}
/-! ### bundle -/
def spBundle (K : PySem.W.Frag) : Sp := fun vs H Q _ => ∃ (b a : Addr) (xs : List V), vs = [.ref b, .ref a] ∧ Bx H b ∧ SqL K H a xs ∧ xs.length ≤ 6 ∧ (∀ v ∈ xs, Ft H v) ∧ ∀ (p : Addr) (d : BD) H', H p = none → Kb b H H' → Bd H' p d → d.length ≤ 6 → (∀ e ∈ d, ∃ v ∈ xs, NameOf H v e.1) → Q (.ref p) H'
theorem ok_bundle {f fT fS : Addr} {fd fdT fdS : FuncData} (F : Fun K "_law_bundle" "_law_bundle" s_l_bundle f fd)
    (kT : PySem.W.keepIn K (.ref fT) = true) (bT : Binds K fdT ["_law_box_here", "_law_many"] []) (gT : mg "_law_take" = some (.ref fT)) (GT : FnOk P w K mg base CX0 2 fT fdT ["_law_box_here", "_law_many"] spTake)
    (kS : PySem.W.keepIn K (.ref fS) = true) (bS : Binds K fdS ["_law_box_here", "_law_words", "_law_many"] []) (gS : mg "_law_some" = some (.ref fS)) (GS : FnOk P w K mg base CX0 3 fS fdS ["_law_box_here", "_law_words", "_law_many"] (spSome K))
    (ml : mg "len" = none) : FnOk P w K mg base CX0 4 f fd ["_law_box_here", "_law_features_here"] (spBundle K) := by
  refine F.ok sc_l_bundle (fun vs H Q E h => ?_) (fun cdv A outer s H vs Q E hr h => ?_)
  · obtain ⟨b, a, xs, rfl, _⟩ := h
    rfl
  · obtain ⟨b, a, xs, rfl, hb, hS, hxl, hF, q⟩ := h
    refine ⟨_, pss_cons (ps_set (i := 2) sc_l_bundle.nd rfl (.inl rfl) pe_dnewK)
      (pss_cons (ps_for PassesOwn.never rfl (pi_list (pe_call GS hr (by rfl) gS kS bS .nil pass0 (pa_cons (pv 0) (pa_cons (pv 1) (pa_cons (pe_callB call_len_seq (by rfl) ml PySem.boot_len (pa_cons (pv 1) pa_nil)) pa_nil)))))
          (pg_tup rfl (pgs_cons (pg_name (i := 3) sc_l_bundle.nd rfl (.inl rfl)) (pgs_cons (pg_name (i := 4) sc_l_bundle.nd rfl (.inl rfl)) (pgs_cons (pg_name (i := 5) sc_l_bundle.nd rfl (.inl rfl)) pgs_nil))))
        (pss_cons (ps_set (i := 6) sc_l_bundle.nd rfl (.inl rfl) (pe_call GT (hr.mono (by decide)) (by rfl) gT kT bT .nil pass0 (pa_cons (pv 0) (pa_cons pe_int pa_nil))))
        (pss_cons (ps_setLc (i := 7) (own := [("_law_value", 8)]) (g := gName 8) rfl sc_l_bundle.nd rfl rfl (sw_true rfl rfl rfl (by decide +kernel)) (pi_list (pv 4))
            (blkOk_by (own := [("_law_value", 8)]) (N := ["_law_box_here", "_law_features_here", "_law_bundle_here", "_law_name", "_law_values", "_law_told", "_law_how", "_law_keep", "_law_value"]) (sc := defScope s_l_bundle) (by decide +kernel))
            (fun _ _ _ _ _ => pg_name (i := 8) sc_l_bundle.nd rfl (Or.inl rfl)) (fun _ _ _ _ _ => pts_one (pt_cmpR op_gt (pe_call GT (hr.mono (by decide)) (by rfl) gT kT bT .nil pass0 (pa_cons (pv 0) (pa_cons pe_int pa_nil))) pe_int (nomark _))) (fun _ _ _ _ _ => pv 8))
        (C8.pss_cut (ps_if (pt_cmpR op_eq (pv 6) pe_int (nomark _)) (pss_one (ps_set (i := 7) sc_l_bundle.nd rfl (.inl rfl) (pe_lst (pa_cons (pe_ix ix_list (pv 4) (pe_call GT (hr.mono (by decide)) (by rfl) gT kT bT .nil pass0 (pa_cons (pv 0) (pa_cons (pe_callB call_len_seq (by rfl) ml PySem.boot_len (pa_cons (pv 4) pa_nil)) pa_nil))) (fun _ _ => rfl)) pa_nil)))) pss_nil)
        (pss_one (ps_if (PW.pt (pw_and (pt_cmpR op_gt (pv 6) pe_int (nomark _)) (pw_and1 (pt_cmpR (op_neD hr.units) (pv 7) (pe_lst pa_nil) (nomark _)))))
          (pss_one (ps_dput (hu_of hr) (pv 2) (pv 3) (pv 7) rfl)) pss_nil))))))
      (pss_one (ps_ret (pv 2)))), ?_⟩
    intro d nd
    have k1 : Kb b H (upd H d (.dK [])) := Kb.new hb nd
    have ndb : d ≠ b := (hb.ne nd).symm
    have hS1 : SqL K (upd H d (.dK [])) a xs := (same_new nd).seq hS
    refine ⟨_, rfl, _, rfl, _, rfl, a, xs, rfl, .inl hS1, b, a, xs, xs.length, rfl, k1.x, hS1, Nat.le_refl _, by omega, fun p ys H2 np k2 hp hyl hym => ?_⟩
    have npb : p ≠ b := (k1.x.ne np).symm
    have hd2 : H2 d = some (.dK []) := k2.k _ _ ndb upd_same
    have npd : p ≠ d := (ne_of_none (upd_same (H := H) (a := d) (o := .dK [])) np).symm
    refine ⟨p, rfl, ⟨_, .inl (.inl hp)⟩, for_list (K := K) (a := p) (xs := ys) (fun i σ H' => ∃ y3 y4 y5 y6 y7 y8, σ = [some (.ref b), some (.ref a), some (.ref d), y3, y4, y5, y6, y7, y8] ∧ Kb b H H' ∧ H' p = some (.lst ys) ∧ ∃ kvs bd, H' d = some (.dK kvs) ∧ Ents H' kvs bd ∧ (bd.map (·.1)).Nodup ∧ bd.length ≤ i ∧ (∀ e ∈ bd, okS e.1 ∧ 1 ≤ e.2.length ∧ e.2.length ≤ 20 ∧ ∀ x ∈ e.2, okS x) ∧ ∀ e ∈ bd, ∃ v ∈ xs, NameOf H v e.1)
      ⟨none, none, none, none, none, none, rfl, k1.trans k2, hp, [], [], hd2, .nil, List.nodup_nil, Nat.le_refl _, (fun e he => nomatch he), (fun e he => nomatch he)⟩ (fun i σ H' _ h => ?_) (fun i x σ H' hx hP => ?_) (fun σ H' hP => ?_)⟩
    · obtain ⟨_, _, _, _, _, _, _, _, h, _⟩ := h
      exact .inl (.inl h)
    · obtain ⟨y3, y4, y5, y6, y7, y8, rfl, kb, hp', kvs, bd, hd', hE, hN, hbl, hB', hNm⟩ := hP
      have hil : i < ys.length := (List.getElem?_eq_some_iff.mp hx).1
      obtain ⟨pt, lv, dd, rfl, f1, f2, hB⟩ := hF x (hym x (List.mem_of_getElem? hx))
      have hxm := hym _ (List.mem_of_getElem? hx)
      have hnm : NameOf H (.ref pt) dd.n := ⟨pt, lv, dd.t, rfl, f1⟩
      have e1 := kb.k _ _ (ne_bx hb f1 (fun _ _ _ _ z => by cases z)) f1
      have e2 := kb.k _ _ (ne_bx hb f2 (strs_ne_ints hB.1)) f2
      have nlb : lv ≠ b := ne_bx kb.x e2 (strs_ne_ints hB.1)
      refine ⟨pt, _, rfl, .inl (.inl e1), rfl, _, _, rfl, _, _, rfl, _, _, rfl, rfl, ?_⟩
      refine ⟨_, rfl, b, 5, rfl, kb.x, by decide, by decide, fun h1 HA h10 h11 kA => ?_⟩
      have e2A := kA.k _ _ nlb e2
      refine ⟨_, rfl, lv, rfl, ⟨_, .inl (.inl e2A)⟩, fun D nD => lc_list (K := K) (a := lv) (xs := dd.vs.map V.str) (fun j HX => Kb b HA HX ∧ ∃ ks : List Str, HX D = some (.lst (ks.map V.str)) ∧ ks.length ≤ j ∧ ∀ x ∈ ks, okS x) ⟨Kb.new kA.x nD, [], upd_same, Nat.le_refl _, fun x hx => by cases hx⟩ (fun j HX _ h => .inl (.inl (h.1.k _ _ nlb e2A))) (fun j x HX hxj hP => ?_) (fun HX hP => ?_)⟩
      · obtain ⟨kX, ks, hD, hkl, hko⟩ := hP
        have nDb : D ≠ b := (kA.x.ne nD).symm
        rw [List.getElem?_map] at hxj
        obtain ⟨v, ev, ex⟩ := Option.map_eq_some_iff.mp hxj
        subst ex
        have hvo : okS v := hB.2.2.2 v (List.mem_of_getElem? ev)
        have hjl : j < dd.vs.length := (List.getElem?_eq_some_iff.mp ev).1
        have hvl := hB.2.1
        refine ⟨rfl, _, rfl, b, 3, rfl, kX.x, by decide, by decide, fun n HB n0 n1 kB => ⟨_, _, rfl, rfl, _, rfl, ite2 (fun e => ?_) (fun e => ?_)⟩⟩
        · refine ⟨_, rfl, ks.map V.str, kB.k _ _ nDb hD, by rw [List.length_map]; exact small1000 (by omega), (kX.trans kB).own nD nDb, ks ++ [v], ?_, by rw [List.length_append]; show ks.length + 1 ≤ j + 1; omega, fun x hx' => ?_⟩
          · rw [upd_same, List.map_append]
            rfl
          · rcases List.mem_append.mp hx' with z | z
            · exact hko x z
            · rw [List.mem_singleton.mp z]
              exact hvo
        · exact ⟨kX.trans kB, ks, kB.k _ _ nDb hD, by omega, hko⟩
      · obtain ⟨kX, ks, hD, hkl, hko⟩ := hP
        rw [List.length_map] at hkl
        have hvl := hB.2.1
        have hv1 := hB.1
        refine ⟨fun σ' HM => ∃ (D' : Addr) (ks : List Str), σ' = [some (.ref b), some (.ref a), some (.ref d), some (.str dd.n), some (.ref lv), some (.bl dd.t), some (.int h1), some (.ref D'), y8] ∧ Kb b HA HM ∧ HM D' = some (.lst (ks.map V.str)) ∧ ks.length ≤ 6 ∧ ∀ x ∈ ks, okS x, ?_, fun σ' HM hM => ?_⟩
        · refine ⟨_, rfl, rfl, _, rfl, ite2 (fun e => ?_) (fun e => ⟨D, ks, rfl, kX, hD, by omega, hko⟩)⟩
          have e2X := kX.k _ _ nlb e2A
          refine ⟨_, rfl, _, rfl, _, rfl, lv, _, rfl, .inl (.inl (.inl e2X)), b, _, rfl, kX.x, by rw [List.length_map]; omega, by rw [List.length_map]; omega, fun n HB n0 n1 kB => ?_⟩
          rw [List.length_map] at n1
          have gl : (dd.vs.map V.str)[n.toNat]? = some (V.str dd.vs[n.toNat]) := by
            rw [List.getElem?_map, List.getElem?_eq_getElem (by omega)]
            rfl
          refine ⟨lv, _, n, _, rfl, rfl, .inl (.inl (kB.k _ _ nlb e2X)), at_of (j := n.toNat) (by omega) gl, (show 1 ≤ sizeLine by decide), fun D2 nD2 => ?_⟩
          refine ⟨D2, [dd.vs[n.toNat]], rfl, (kX.trans kB).trans (Kb.new kB.x nD2), upd_same, (show 1 ≤ 6 by decide), fun x hx' => ?_⟩
          rw [List.mem_singleton.mp hx']
          exact hB.2.2.2 _ (List.getElem_mem _)
        · obtain ⟨D', ks', rfl, kM, hD', hkl', hko'⟩ := hM
          have KM := kA.trans kM
          have hdM : HM d = some (.dK kvs) := KM.k _ _ ndb hd'
          have hpM : HM p = some (.lst ys) := KM.k _ _ npb hp'
          have hEM : Ents HM kvs bd := hE.mono fun l zs hl ⟨n, hm⟩ => by
            obtain ⟨e', he', hl'⟩ := hE.vals hm
            exact KM.k _ _ (ne_bx kb.x hl' (strs_ne_ints (hB' e' he').2.1)) hl
          have stay : ∀ {HZ : Hp}, Same HM HZ → Bx HZ b → ∃ z3 z4 z5 z6 z7 z8, [some (V.ref b), some (.ref a), some (.ref d), some (.str dd.n), some (.ref lv), some (.bl dd.t), some (.int h1), some (.ref D'), y8] = [some (.ref b), some (.ref a), some (.ref d), z3, z4, z5, z6, z7, z8] ∧ Kb b H HZ ∧ HZ p = some (.lst ys) ∧ ∃ kvs bd, HZ d = some (.dK kvs) ∧ Ents HZ kvs bd ∧ (bd.map (·.1)).Nodup ∧ bd.length ≤ i + 1 ∧ (∀ e ∈ bd, okS e.1 ∧ 1 ≤ e.2.length ∧ e.2.length ≤ 20 ∧ ∀ x ∈ e.2, okS x) ∧ ∀ e ∈ bd, ∃ v ∈ xs, NameOf H v e.1 := by
            intro HZ sm hbz
            exact ⟨_, _, _, _, _, _, rfl, (kb.trans KM).trans ⟨Kp.of_same sm, hbz⟩, sm _ _ hpM, kvs, bd, sm _ _ hdM, hEM.same sm, hN, by omega, hB', hNm⟩
          refine ⟨_, rfl, _, _, rfl, rfl, _, rfl, ite2 (fun c => ?_) (fun c => iteF (stay (Same.refl _) KM.x))⟩
          · refine ⟨_, rfl, Nat.zero_le _, fun p1 np1 => ?_⟩
            have sm : Same HM (upd HM p1 (.lst [])) := same_new np1
            refine ⟨_, _, .lst (.inl (.inl (sm _ _ hD'))) (strs_dp ks'), .lst (.inl (.inl upd_same)) .nil, strs_list_shaped hko', rfl, _, rfl, ?_⟩
            rw [strs_nil]
            by_cases hks : ks'.isEmpty = true
            · rw [hks]
              exact iteF (stay sm (KM.x.same sm))
            · have hkf : ks'.isEmpty = false := Bool.eq_false_iff.mpr hks
              rw [hkf]
              have hlen : 1 ≤ ks'.length := by
                cases hq : ks' with
                | nil => rw [hq] at hkf; cases hkf
                | cons k0 kr => exact Nat.succ_le_succ (Nat.zero_le _)
              have hE1 := hEM.same sm
              have hd1 := sm _ _ hdM
              have pl := putB_len bd dd.n ks'
              refine iteT ⟨_, rfl, _, rfl, _, rfl, d, _, rfl, DPut.k (k := .inr dd.n) hd1 (by rw [hEM.length]; exact small1000 (by omega)), ?_⟩
              refine ⟨_, _, _, _, _, _, rfl, (kb.trans (KM.trans (Kb.new KM.x np1))).own nd ndb, ?_, _, putB bd dd.n ks', upd_same, (hE1.put (sm _ _ hD')).upd_dict hd1, putB_keys _ _ _ hN, by omega, putB_all hB' ⟨hB.2.2.1, hlen, by show ks'.length ≤ 20; omega, hko'⟩, putB_all hNm ⟨_, hxm, hnm⟩⟩
              rw [upd_ne npd]
              exact sm _ _ hpM
    · obtain ⟨y3, y4, y5, y6, y7, y8, rfl, kb, hp', kvs, bd, hd', hE, hN, hbl, hB', hNm⟩ := hP
      exact ⟨_, rfl, q d bd _ nd kb ⟨kvs, hd', hE, hN, by omega, hB'⟩ (by omega) hNm⟩
end
end Bn

namespace Bn
open PySem PySem.Spec PyProof.Rows L2 BR
theorem Rd.same {H H' : Hp} {a : Addr} {u : HO} (h : Rd H a u) (s : Same H H') : Rd H' a u := by
  rcases h with h | ⟨o, h⟩
  · exact .inl (s _ _ h)
  · exact .inr ⟨o, s _ _ h⟩
theorem valV_get : ∀ {kvs : List (Key × V)} {i : Nat} {k : Key} {v : V}, (kvs.map (·.1)).Nodup → kvs[i]? = some (k, v) → valV kvs k = some v
  | [], i, k, v, _, h => by simp at h
  | p :: r, 0, k, v, _, h => by
    have e := Option.some.inj h
    subst e
    exact valV_pos rfl
  | p :: r, i + 1, k, v, hn, h => by
    obtain ⟨h1, h2⟩ := List.nodup_cons.mp hn
    have h' : r[i]? = some (k, v) := h
    have hm : k ∈ r.map (·.1) := List.mem_map.mpr ⟨(k, v), List.mem_of_getElem? h', rfl⟩
    rw [valV_neg (fun e => h1 (by rw [show (fun x : Key × V => x.fst) p = k from e]; exact hm))]
    exact valV_get h2 h'
theorem keys_nodup {b : BD} (h : (b.map (·.1)).Nodup) : (b.map fun e => (Sum.inr e.1 : Key)).Nodup := by
  have e : (b.map fun e => (Sum.inr e.1 : Key)) = (b.map (·.1)).map Sum.inr := by
    rw [List.map_map]
    rfl
  rw [e]
  exact List.Pairwise.map Sum.inr (fun a b h z => h (Sum.inr.inj z)) h
theorem merge_new : ∀ (more acc : List (Key × V)), ((acc ++ more).map (·.1)).Nodup → mergeK acc more = acc ++ more
  | [], acc, _ => by rw [List.append_nil]; rfl
  | kv :: r, acc, h => by
    have hn : valV acc kv.1 = none := by
      cases e : valV acc kv.1 with
      | none => rfl
      | some v =>
        have hm := valV_in e
        rw [List.map_append, List.map_cons] at h
        exact absurd rfl ((List.pairwise_append.mp h).2.2 kv.1 hm kv.1 (List.mem_cons_self ..))
    show mergeK (putK acc kv.1 kv.2) r = acc ++ kv :: r
    rw [putK_new kv.2 hn, merge_new r (acc ++ [(kv.1, kv.2)]) (by rw [List.append_assoc]; exact h), List.append_assoc]
    rfl
theorem take_get {α : Type} {l : List α} {i : Nat} {x : α} (h : l[i]? = some x) : l.take (i + 1) = l.take i ++ [x] := by
  rw [List.take_add_one, h]
  rfl
theorem strs_ne_refs {vs : List Str} {ps : List Addr} (h : 1 ≤ vs.length) : vs.map V.str ≠ ps.map V.ref := fun e => by
  cases vs with
  | nil => exact absurd h (by decide)
  | cons v r =>
    cases ps with
    | nil => cases e
    | cons p q =>
      rw [List.map_cons, List.map_cons] at e
      injection e with e1 _
      cases e1
theorem paired_mono {α β : Type} {R S : α → β → Prop} {l : List α} {m : List β} (h : Paired R l m) (f : ∀ a b, R a b → S a b) : Paired S l m := by
  induction h with
  | nil => exact .nil
  | cons x _ ih => exact .cons (f _ _ x) ih
theorem paired_snoc {α β : Type} {R : α → β → Prop} {l : List α} {m : List β} {a : α} {b : β} (h : Paired R l m) (x : R a b) : Paired R (l ++ [a]) (m ++ [b]) := by
  induction h with
  | nil => exact .cons x .nil
  | cons y _ ih => exact .cons y ih
theorem Bd.len {H : Hp} {a : Addr} {d : BD} (h : Bd H a d) : d.length ≤ 200 := by
  obtain ⟨_, _, _, _, h, _⟩ := h
  exact h
section
variable {P : Program} {w : World} {K : PySem.W.Frag} {mg : Str → Option Value} {base : Heap}
/-! ### own -/
def spOwn : Sp := fun vs H Q _ => ∃ (a : Addr) (d : BD), vs = [.ref a] ∧ Bd H a d ∧ ∀ (p : Addr) H', H p = none → Same H H' → Bd H' p d → Q (.ref p) H'
theorem ok_own {f : Addr} {fd : FuncData} {k : Nat} (F : Fun K "_law_own" "_law_own" s_l_own f fd) (md : mg "dict" = none) (mli : mg "list" = none) : FnOk P w K mg base CX0 (k + 1) f fd ["_law_bundle_here"] spOwn := by
  refine F.ok sc_l_own (fun vs H Q E h => ?_) (fun cdv A outer s H vs Q E hr h => ?_)
  · obtain ⟨a, d, rfl, _⟩ := h
    rfl
  · obtain ⟨a, bd, rfl, ⟨kvs, ha, hE, hN, hL, hB⟩, q⟩ := h
    refine ⟨_, pss_one (ps_ret (pe_callTy (call_dictP rfl) (by rfl) md (by decide +kernel) (pa_cons (pe_lock (pe_lc (own := [("_law_name", 1)]) (g := gName 1) (tt := tYes) rfl sc_l_own.nd (pi_keys (pv 0))
      (blkOk_by (own := [("_law_name", 1)]) (N := ["_law_bundle_here", "_law_name"]) (sc := defScope s_l_own) (by decide +kernel))
      (fun _ _ _ _ _ => pg_name (i := 1) sc_l_own.nd rfl (Or.inl rfl)) (fun _ _ _ _ _ => pts_nil)
      (fun _ _ _ _ _ => pe_tup (pa_cons (pv 1) (pa_cons (pe_callTy (T := "list") (call_listK (K := K) rfl) (by rfl) mli (by decide +kernel) (pa_cons (pe_dget (hu_of hr) (pv 0) (pv 1) (fun _ _ => rfl)) pa_nil)) pa_nil))))) pa_nil))), ?_⟩
    have hkn : (kvs.map (·.1)).Nodup := by
      rw [hE.keys]
      exact keys_nodup hN
    have hkl := hE.length
    refine ⟨a, _, ha, trivial, fun od => ⟨_, rfl, a, od, rfl, .inl ⟨kvs, upd_same, fun D nD => ?_⟩⟩⟩
    have nDa : D ≠ a := fun e => by
      rw [e, upd_same] at nD
      cases nD
    have hEL : Ents (upd H a (.frz od (.dK kvs))) kvs bd := hE.mono fun l xs e _ => by
      rw [upd_ne (ne_of e ha (by intro z; cases z))]
      exact e
    have haL : (upd H a (.frz od (.dK kvs))) a = some (.frz od (.dK kvs)) := upd_same
    refine lc_it (walk_keys (d := a) (o := od) (kvs := kvs)) (fun i HX => Same (upd H a (.frz od (.dK kvs))) HX ∧ ∃ (ps : List Addr) (kvs' : List (Key × V)), HX D = some (.lst (ps.map V.ref)) ∧ Paired (fun p kv => HX p = some (.tup [kV kv.1, kv.2])) ps kvs' ∧ Ents HX kvs' (bd.take i) ∧ ps.length = i)
      ⟨same_new nD, [], [], upd_same, .nil, .nil, rfl⟩ (fun i HX _ h => h.1 _ _ haL) (fun i x HX HX' hi hP hY => ?_) (fun HX hP => ?_)
    · obtain ⟨rfl, k, v, hkv, rfl⟩ := hY
      obtain ⟨sL, ps, kvs', hD, hp, hE', hpl⟩ := hP
      obtain ⟨n, l, vs, rfl, rfl, hl, hbi⟩ := hEL.get hkv
      have hv1 : 1 ≤ vs.length := (hB _ (List.mem_of_getElem? hbi)).2.1
      refine ⟨rfl, tYes_in ?_⟩
      refine ⟨_, rfl, _, rfl, _, rfl, a, _, rfl, .inl ⟨kvs, .inr n, .inr ⟨od, sL _ _ haL⟩, rfl, (valV_get hkn hkv).symm⟩, l, _, rfl, .inl (.inl (.inl (sL _ _ hl))), fun l' nl' => ⟨(show 2 ≤ sizeLine by decide), fun pt npt => ?_⟩⟩
      have s1 : Same HX' (upd HX' l' (.lst (vs.map V.str))) := same_new nl'
      have s2 := s1.trans (same_new (o := .tup [.str n, .ref l']) npt)
      have hD2 := s2 _ _ hD
      have hl2 : (upd (upd HX' l' (.lst (vs.map V.str))) pt (.tup [.str n, .ref l'])) l' = some (.lst (vs.map V.str)) := same_new npt _ _ upd_same
      refine ⟨ps.map V.ref, hD2, by rw [List.length_map]; exact small1000 (by omega), Same.own (sL.trans s2) nD, ps ++ [pt], kvs' ++ [(.inr n, .ref l')], ?_, ?_, ?_, by rw [List.length_append, hpl]; rfl⟩
      · rw [upd_same, List.map_append]
        rfl
      · refine paired_mono (paired_snoc (R := fun p (kv : Key × V) => (upd (upd HX' l' (.lst (vs.map V.str))) pt (.tup [.str n, .ref l'])) p = some (.tup [kV kv.1, kv.2])) (paired_mono hp fun p kv e => s2 _ _ e) (b := (.inr n, .ref l')) upd_same) fun p kv e => ?_
        rw [upd_ne (ne_of e hD2 (by intro z; cases z))]
        exact e
      · rw [take_get hbi]
        refine ((hE'.same s2).app (.cons hl2 .nil)).mono fun l0 xs e ⟨nm, hm⟩ => ?_
        rw [upd_ne fun z => ?_]
        · exact e
        · obtain ⟨e', he', hl'⟩ := ((hE'.same s2).app (.cons hl2 .nil)).vals hm
          rw [← take_get hbi] at he'
          rw [z, hD2] at hl'
          exact strs_ne_refs (hB e' (List.mem_of_mem_take he')).2.1 (HO.lst.inj (Option.some.inj hl')).symm
    · obtain ⟨sL, ps, kvs', hD, hp, hE', hpl⟩ := hP
      rw [hkl, List.take_length] at hE'
      have haX := sL _ _ haL
      have sU : Same H (upd HX a (.dK kvs)) := fun x o e => by
        by_cases c : x = a
        · subst c
          rw [upd_same, ← ha]
          exact e
        · rw [upd_ne c]
          exact sL _ _ (by rw [upd_ne c]; exact e)
      have hEU : Ents (upd HX a (.dK kvs)) kvs' bd := hE'.mono fun l xs e _ => by
        rw [upd_ne (ne_of e haX (by intro z; cases z))]
        exact e
      refine ⟨haX, D, ps, kvs', rfl, .inl (.inl (by rw [upd_ne nDa]; exact hD)), paired_mono hp fun p kv e => .inl (.inl (by rw [upd_ne (ne_of e haX (by intro z; cases z))]; exact e)), fun p np => ?_⟩
      have hkn' : (kvs'.map (·.1)).Nodup := by
        rw [hE'.keys]
        exact keys_nodup hN
      have em : mergeK [] kvs' = kvs' := merge_new kvs' [] hkn'
      rw [em]
      exact q p _ (sU.free np) (sU.trans (same_new np)) ⟨kvs', upd_same, hEU.same (same_new np), hN, hL, hB⟩
end
end Bn

namespace Bn
open PySem PySem.Spec PyProof.Rows L2 BR GX
theorem Ents.knames {H : Hp} {kvs : List (Key × V)} {b : BD} (h : Ents H kvs b) : (kvs.map fun kv => kV kv.1) = (b.map (·.1)).map V.str := by
  induction h with
  | nil => rfl
  | cons _ _ ih =>
    rw [List.map_cons, List.map_cons, List.map_cons, ih]
    rfl
theorem Ents.frz {H : Hp} {kvs : List (Key × V)} {b : BD} (h : Ents H kvs b) {a : Addr} {ls : List (Key × V)} {o : Obj} {u : HO} (ha : H a = some (.dK ls)) : Ents (upd H a (.frz o u)) kvs b := h.mono fun l xs e _ => by
  rw [upd_ne (ne_of e ha (by intro z; cases z))]
  exact e
theorem Ents.val_isNone {H : Hp} {kvs : List (Key × V)} {b : BD} (h : Ents H kvs b) (n : Str) : (!(valV kvs (.inr n)).isSome) = (at? b n).isNone := by
  rcases h.val n with ⟨h1, h2⟩ | ⟨l, vs, h1, h2, _⟩
  · rw [h1, h2]
    rfl
  · rw [h1, h2]
    rfl
theorem Same.unlock {H HX : Hp} {a : Addr} {u : HO} {o : Obj} (ha : H a = some u) (s : Same (upd H a (.frz o u)) HX) : Same H (upd HX a u) := fun x y e => by
  by_cases c : x = a
  · subst c
    rw [upd_same, ← ha]
    exact e
  · rw [upd_ne c]
    exact s _ _ (by rw [upd_ne c]; exact e)
theorem inV_str (x : Str) : ∀ ws : List Str, inV (.str x) (ws.map V.str) = decide (x ∈ ws)
  | [] => rfl
  | y :: ws => by
    have ih := inV_str x ws
    unfold inV at ih ⊢
    rw [List.map_cons, List.any_cons, ih]
    show ((y == x) || decide (x ∈ ws)) = decide (x ∈ y :: ws)
    rw [Bool.eq_iff_iff, Bool.or_eq_true, beq_iff_eq, decide_eq_true_eq, decide_eq_true_eq, List.mem_cons]
    exact ⟨fun h => h.imp Eq.symm id, fun h => h.imp Eq.symm id⟩
theorem flat_strs (ws : List Str) : (ws.map V.str).all flatV = true := List.all_eq_true.mpr fun x hx => by
  obtain ⟨y, _, rfl⟩ := List.mem_map.mp hx
  rfl
theorem filter_snoc {α : Type} {p : α → Bool} {l : List α} {i : Nat} {x : α} (h : l[i]? = some x) : (l.take (i + 1)).filter p = (l.take i).filter p ++ if p x = true then [x] else [] := by
  rw [take_get h, List.filter_append]
  congr 1
  by_cases c : p x = true
  · rw [if_pos c, List.filter_cons_of_pos c, List.filter_nil]
  · rw [if_neg c, List.filter_cons_of_neg c, List.filter_nil]

/-! ### bundles behind grown tables -/
theorem Ents.sameN {Ps : List Addr} {H H' : Hp} {kvs : List (Key × V)} {b : BD} (h : Ents H kvs b) (s : SameN Ps H H') : Ents H' kvs b := h.mono fun l xs e _ => s.k _ _ nt_lst e
theorem Bd.sameN {Ps : List Addr} {H H' : Hp} {a : Addr} {b : BD} (h : Bd H a b) (s : SameN Ps H H') : Bd H' a b := by
  obtain ⟨kvs, e, x, y⟩ := h
  exact ⟨kvs, s.k _ _ nt_dK e, x.sameN s, y⟩
theorem room_gen {k : Nat} {A : Around} (hr : Room (k + 3) A) (env : Env) : Room k (A.in1.in1.deeper env) := ((hr.in1).in1).deeper env
theorem rd_sameN {Ps : List Addr} {H H' : Hp} {a : Addr} {v : HO} (h : Rd H a v) (hv : NT v) (s : SameN Ps H H') : Rd H' a v := by
  rcases h with e | ⟨o, e⟩
  · exact .inl (s.k _ _ hv e)
  · exact .inr ⟨o, s.k _ _ nt_frz e⟩
end Bn

namespace Bn
open PySem PySem.Spec PyProof.Rows L2 BR GX
section
variable {P : Program} {w : World} {K : PySem.W.Frag} {mg : Str → Option Value} {base : Heap}
/-! ### within -/
def inF (xs ys : List Str) : Bool := xs.all fun x => decide (x ∈ ys)
def spWithin (Ps : List Addr) : Sp := fun vs H Q _ => ∃ (a c : Addr) (xs ys : List Str), vs = [.ref a, .ref c] ∧ (H a = some (.lst (xs.map V.str)) ∨ ∃ b, Bd H a b ∧ xs = b.map (·.1)) ∧ H c = some (.lst (ys.map V.str)) ∧ Tabs Ps H ∧ ∀ H', SameN Ps H H' → Q (.bl (inF xs ys)) H'
theorem ok_within {f c0 pT : Addr} {fd : FuncData} {k : Nat} {Ps : List Addr} (F : FunC K "within" "within" s_within f fd c0) (TB : GxR.TabB base mg c0 pT) (hP : pT ∈ Ps) (ma : mg "all" = none) : FnOk P w K mg base CX0 (k + 4) f fd ["inner", "outer"] (spWithin Ps) := by
  refine F.ok sc_within (fun vs H Q E h => ?_) (fun A outer s H vs Q E hr h => ?_)
  · obtain ⟨a, c, xs, ys, rfl, _⟩ := h
    rfl
  · obtain ⟨a, c, xs, ys, rfl, ha | ⟨b, ⟨ka, ha, hEa, hNa, hLa, hBa⟩, rfl⟩, hc, hT, q⟩ := h
    · refine ⟨_, pss_one (ps_ret (pe_all (own := [("item", 2)]) (g := gName 2) hr (by rfl) ma (by decide +kernel) TB rfl rfl sc_within.nd (pi_list (pv 0))
        (blkOk_by (own := [("item", 2)]) (N := ["inner", "outer", "item"]) (sc := defScope s_within) (by decide +kernel)) rfl (by decide +kernel) rfl
        (fun _ _ _ _ _ _ => pg_name (i := 2) sc_within.nd rfl (Or.inl rfl)) (fun _ _ _ _ _ _ => pts_nil)
        (fun _ _ _ _ _ _ => pe_cmpR (op_inK (K := K) rfl) (pv 2) (pv 1) (by rfl)))), ?_⟩
      refine ⟨_, rfl, a, rfl, ⟨_, .inl (.inl ha)⟩, hT _ hP, fun H2 hTb => ?_⟩
      have s0 : SameN Ps H H2 := SameN.tab hT hP hTb
      refine all_it (walk_list (K := K) (a := a) (xs := xs.map V.str)) (fun i HX => SameN Ps H HX ∧ inF (xs.take i) ys = true) ⟨s0, rfl⟩ (fun i HX _ h => .inl (.inl (h.1.k _ _ nt_lst ha))) (fun i x HX HX' hi hP' hY => ?_) (fun HX hP' => ?_)
      · obtain ⟨rfl, hx⟩ := hY
        obtain ⟨sX, hin⟩ := hP'
        rw [List.getElem?_map] at hx
        obtain ⟨y, ey, ex⟩ := Option.map_eq_some_iff.mp hx
        subst ex
        refine ⟨rfl, tYes_in ?_⟩
        refine ⟨_, rfl, _, rfl, c, _, rfl, .inl (.inl (.inl (sX.k _ _ nt_lst hc))), rfl, flat_strs ys, _, rfl, fun e => ⟨sX, ?_⟩, fun e => ?_⟩
        · have e' : inV (V.str y) (ys.map V.str) = true := e
          rw [inV_str] at e'
          unfold inF at hin ⊢
          rw [take_get ey, List.all_append, hin, List.all_cons, e']
          rfl
        · have e' : inV (V.str y) (ys.map V.str) = false := e
          rw [inV_str] at e'
          have z : inF xs ys = false := by
            unfold inF
            rw [List.all_eq_false]
            exact ⟨y, List.mem_of_getElem? ey, by rw [e']; decide⟩
          have := q HX' sX
          rw [z] at this
          exact this
      · obtain ⟨sX, hin⟩ := hP'
        rw [List.length_map, List.take_length] at hin
        have := q HX sX
        rw [hin] at this
        exact this
    · refine ⟨_, pss_one (ps_ret (pe_lock (pe_all (own := [("item", 2)]) (g := gName 2) hr (by rfl) ma (by decide +kernel) TB rfl rfl sc_within.nd (pi_keys (pv 0))
        (blkOk_by (own := [("item", 2)]) (N := ["inner", "outer", "item"]) (sc := defScope s_within) (by decide +kernel)) rfl (by decide +kernel) rfl
        (fun _ _ _ _ _ _ => pg_name (i := 2) sc_within.nd rfl (Or.inl rfl)) (fun _ _ _ _ _ _ => pts_nil)
        (fun _ _ _ _ _ _ => pe_cmpR (op_inK (K := K) rfl) (pv 2) (pv 1) (by rfl))))), ?_⟩
      refine ⟨a, _, ha, trivial, fun od => ⟨_, rfl, a, od, rfl, .inl ⟨ka, upd_same, hT.lock ha nt_dK _ hP, fun H2 hTb => ?_⟩⟩⟩
      have haL : (upd H a (.frz od (.dK ka))) a = some (.frz od (.dK ka)) := upd_same
      have hcL : (upd H a (.frz od (.dK ka))) c = some (.lst (ys.map V.str)) := by
        rw [upd_ne (ne_of hc ha (by intro z; cases z))]
        exact hc
      have hEaL := hEa.frz (o := od) (u := .dK ka) ha
      have hTL : Tabs Ps (upd H a (.frz od (.dK ka))) := hT.lock ha nt_dK
      have fin : ∀ {HX : Hp} {r : Bool}, SameN Ps (upd H a (.frz od (.dK ka))) HX → inF (b.map (·.1)) ys = r → HX a = some (.frz od (.dK ka)) ∧ Q (.bl r) (upd HX a (.dK ka)) := fun {HX r} sX e => ⟨sX.k _ _ nt_frz haL, by
        have := q _ (SameN.unlock ha nt_dK hT sX)
        rw [e] at this
        exact this⟩
      refine all_it (walk_keys (d := a) (o := od) (kvs := ka)) (fun i HX => SameN Ps (upd H a (.frz od (.dK ka))) HX ∧ inF ((b.map (·.1)).take i) ys = true) ⟨SameN.tab hTL hP hTb, rfl⟩ (fun i HX _ h => h.1.k _ _ nt_frz haL) (fun i x HX HX' hi hP' hY => ?_) (fun HX hP' => ?_)
      · obtain ⟨rfl, kk, v0, hkv, rfl⟩ := hY
        obtain ⟨sX, hin⟩ := hP'
        obtain ⟨n, la, va, rfl, rfl, hla, hbi⟩ := hEaL.get hkv
        have hni : (b.map (·.1))[i]? = some n := by
          rw [List.getElem?_map, hbi]
          rfl
        refine ⟨rfl, tYes_in ?_⟩
        refine ⟨_, rfl, _, rfl, c, _, rfl, .inl (.inl (.inl (sX.k _ _ nt_lst hcL))), rfl, flat_strs ys, _, rfl, fun e => ⟨sX, ?_⟩, fun e => fin sX ?_⟩
        · have e' : inV (V.str n) (ys.map V.str) = true := e
          rw [inV_str] at e'
          unfold inF at hin ⊢
          rw [take_get hni, List.all_append, hin, List.all_cons, e']
          rfl
        · have e' : inV (V.str n) (ys.map V.str) = false := e
          rw [inV_str] at e'
          unfold inF
          rw [List.all_eq_false]
          exact ⟨n, List.mem_of_getElem? hni, by rw [e']; decide⟩
      · obtain ⟨sX, hin⟩ := hP'
        have hl : ka.length = (b.map (·.1)).length := by rw [List.length_map, hEa.length]
        rw [hl, List.take_length] at hin
        exact fin sX hin
end
end Bn

namespace Bn
open PySem PySem.Spec PyProof.Rows L2 BR GX
/-! ### rows of values, the last name's the quickest; names are kept turned about -/
abbrev Row := List Str
def prodR (f : Str → List Str) : List Str → List Row
  | [] => [[]]
  | n :: rs => (prodR f rs).flatMap fun r => (f n).map fun v => r ++ [v]
def manyR (f : Str → List Str) : List Str → Nat
  | [] => 1
  | n :: rs => manyR f rs * (f n).length
def digR (f : Str → List Str) : List Str → Nat → Row
  | [], _ => []
  | n :: rs, k => digR f rs (k / (f n).length) ++ [(f n).getD (k % (f n).length) ""]
theorem flatMap_snoc {α β : Type} (l : List α) (x : α) (g : α → List β) : (l ++ [x]).flatMap g = l.flatMap g ++ g x := by
  rw [List.flatMap_append, List.flatMap_cons, List.flatMap_nil, List.append_nil]
theorem map_range_get (vs : List Str) (r : Row) : (List.range vs.length).map (fun j => r ++ [vs.getD j ""]) = vs.map fun v => r ++ [v] := by
  refine List.ext_getElem (by rw [List.length_map, List.length_map, List.length_range]) fun i h1 h2 => ?_
  rw [List.getElem_map, List.getElem_map, List.getElem_range]
  rw [List.length_map] at h2
  rw [List.getD_eq_getElem?_getD, List.getElem?_eq_getElem h2]
  rfl
theorem count_step (f : Str → List Str) (n : Str) (rs : List Str) (h : f n ≠ []) : ∀ M, (List.range (M * (f n).length)).map (digR f (n :: rs)) = ((List.range M).map (digR f rs)).flatMap fun r => (f n).map fun v => r ++ [v]
  | 0 => by simp
  | M + 1 => by
    have pos : 0 < (f n).length := List.length_pos_iff.mpr h
    rw [Nat.succ_mul, List.range_add, List.map_append, count_step f n rs h M, List.range_succ, List.map_append, List.map_singleton, flatMap_snoc, List.map_map, ← map_range_get]
    congr 1
    refine List.map_congr_left fun j hj => ?_
    have lt := List.mem_range.mp hj
    show digR f rs ((M * (f n).length + j) / (f n).length) ++ [(f n).getD ((M * (f n).length + j) % (f n).length) ""] = _
    rw [Nat.mul_comm M, Nat.mul_add_div pos, Nat.mul_add_mod, Nat.div_eq_of_lt lt, Nat.mod_eq_of_lt lt, Nat.add_zero]
theorem count_prod (f : Str → List Str) : ∀ rs : List Str, (∀ n ∈ rs, f n ≠ []) → (List.range (manyR f rs)).map (digR f rs) = prodR f rs
  | [], _ => rfl
  | n :: rs, h => by
    show (List.range (manyR f rs * (f n).length)).map (digR f (n :: rs)) = _
    rw [count_step f n rs (h n (List.mem_cons_self ..)), count_prod f rs fun m hm => h m (List.mem_cons_of_mem _ hm)]
    rfl
theorem prodR_len (f : Str → List Str) : ∀ (rs : List Str) (r : Row), r ∈ prodR f rs → r.length = rs.length
  | [], r, h => by rw [List.mem_singleton.mp h]
  | n :: rs, r, h => by
    obtain ⟨r0, h0, h1⟩ := List.mem_flatMap.mp h
    obtain ⟨v, _, rfl⟩ := List.mem_map.mp h1
    rw [List.length_append, prodR_len f rs r0 h0]
    rfl
theorem prodR_mem (f : Str → List Str) (p : Str → Prop) : ∀ (rs : List Str), (∀ n ∈ rs, ∀ v ∈ f n, p v) → ∀ r ∈ prodR f rs, ∀ v ∈ r, p v
  | [], _, r, h => by
    rw [List.mem_singleton.mp h]
    exact fun v hv => absurd hv List.not_mem_nil
  | n :: rs, hp, r, h => by
    obtain ⟨r0, h0, h1⟩ := List.mem_flatMap.mp h
    obtain ⟨v, hv, rfl⟩ := List.mem_map.mp h1
    intro x hx
    rcases List.mem_append.mp hx with z | z
    · exact prodR_mem f p rs (fun m hm => hp m (List.mem_cons_of_mem _ hm)) r0 h0 x z
    · rw [List.mem_singleton.mp z]
      exact hp n (List.mem_cons_self ..) v hv
theorem flatMap_len {α β : Type} (g : α → List β) (c : Nat) : ∀ l : List α, (∀ x ∈ l, (g x).length ≤ c) → (l.flatMap g).length ≤ l.length * c
  | [], _ => Nat.zero_le _
  | x :: l, h => by
    rw [List.flatMap_cons, List.length_append, List.length_cons, Nat.succ_mul]
    have h1 := h x (List.mem_cons_self ..)
    have h2 := flatMap_len g c l fun y hy => h y (List.mem_cons_of_mem _ hy)
    omega
theorem prodR_size (f : Str → List Str) (hf : ∀ n, (f n).length ≤ 6) : ∀ rs : List Str, (prodR f rs).length ≤ 6 ^ rs.length
  | [] => Nat.le_refl _
  | n :: rs => by
    have h1 : (prodR f (n :: rs)).length ≤ (prodR f rs).length * 6 := flatMap_len _ 6 _ fun r _ => by rw [List.length_map]; exact hf n
    have h2 := Nat.mul_le_mul_right 6 (prodR_size f hf rs)
    rw [List.length_cons, Nat.pow_succ]
    exact Nat.le_trans h1 h2
theorem manyR_size (f : Str → List Str) (hf : ∀ n, (f n).length ≤ 6) : ∀ rs : List Str, manyR f rs ≤ 6 ^ rs.length
  | [] => Nat.le_refl _
  | n :: rs => by
    rw [List.length_cons, Nat.pow_succ]
    exact Nat.mul_le_mul (manyR_size f hf rs) (hf n)
/-! ### what a bundle lets -/
def okB (b : BD) (n v : Str) : Bool := match at? b n with
  | none => true
  | some vs => decide (v ∈ vs)
def okRow (b : BD) (ns : List Str) (r : Row) : Bool := (ns.zip r).all fun e => okB b e.1 e.2
theorem okRow_snoc (b : BD) (ns : List Str) (n : Str) (r : Row) (v : Str) (h : ns.length = r.length) : okRow b (ns ++ [n]) (r ++ [v]) = (okRow b ns r && okB b n v) := by
  unfold okRow
  rw [List.zip_append h, List.all_append]
  show (_ && ((okB b n v) && true)) = _
  rw [Bool.and_true]
theorem filter_flatMap {α β : Type} (p : β → Bool) (g : α → List β) : ∀ l : List α, (l.flatMap g).filter p = l.flatMap fun x => (g x).filter p
  | [] => rfl
  | x :: l => by rw [List.flatMap_cons, List.flatMap_cons, List.filter_append, filter_flatMap p g l]
theorem flatMap_filter {α β : Type} (p : α → Bool) (g g' : α → List β) : ∀ l : List α, (∀ x ∈ l, g x = if p x = true then g' x else []) → l.flatMap g = (l.filter p).flatMap g'
  | [], _ => rfl
  | x :: l, h => by
    rw [List.flatMap_cons, h x (List.mem_cons_self ..), flatMap_filter p g g' l fun y hy => h y (List.mem_cons_of_mem _ hy)]
    by_cases c : p x = true
    · rw [if_pos c, List.filter_cons_of_pos c, List.flatMap_cons]
    · rw [if_neg c, List.filter_cons_of_neg c, List.nil_append]
theorem prodR_filter (f : Str → List Str) (b : BD) : ∀ rs : List Str, prodR (fun n => (f n).filter (okB b n)) rs = (prodR f rs).filter (okRow b rs.reverse)
  | [] => rfl
  | n :: rs => by
    show (prodR (fun n => (f n).filter (okB b n)) rs).flatMap _ = ((prodR f rs).flatMap _).filter _
    rw [prodR_filter f b rs, filter_flatMap]
    refine (flatMap_filter (okRow b rs.reverse) _ _ _ fun r hr => ?_).symm
    have hl : rs.reverse.length = r.length := by rw [List.length_reverse, prodR_len f rs r hr]
    rw [List.reverse_cons]
    have e : ∀ vs : List Str, (vs.map fun v => r ++ [v]).filter (okRow b (rs.reverse ++ [n])) = if okRow b rs.reverse r = true then (vs.filter (okB b n)).map (fun v => r ++ [v]) else [] := by
      intro vs
      induction vs with
      | nil => split <;> rfl
      | cons v vs ih =>
        rw [List.map_cons]
        have s := okRow_snoc b rs.reverse n r v hl
        by_cases c : okRow b rs.reverse r = true
        · rw [if_pos c] at ih ⊢
          rw [c, Bool.true_and] at s
          by_cases d : okB b n v = true
          · rw [List.filter_cons_of_pos (by rw [s]; exact d), List.filter_cons_of_pos d, List.map_cons, ih]
          · rw [List.filter_cons_of_neg (by rw [s]; exact d), List.filter_cons_of_neg d, ih]
        · rw [if_neg c] at ih ⊢
          have c' : okRow b rs.reverse r = false := Bool.eq_false_iff.mpr c
          rw [c', Bool.false_and] at s
          rw [List.filter_cons_of_neg (by rw [s]; decide), ih]
    exact e (f n)
/-- the values of a feature -/
def knF (kb : BD) (n : Str) : List Str := (at? kb n).getD []
/-- what is told -/
def choicesF (kb : BD) (ns : List Str) (b : BD) : List Row := if inF (b.map (·.1)) ns = true then prodR (fun n => (knF kb n).filter (okB b n)) ns.reverse else []
/-- counted through -/
theorem choices_count {kb : BD} {ns : List Str} {b : BD} (h : ∀ n ∈ ns, knF kb n ≠ []) (hb : inF (b.map (·.1)) ns = true) : choicesF kb ns b = ((List.range (manyR (knF kb) ns.reverse)).map (digR (knF kb) ns.reverse)).filter (okRow b ns) := by
  unfold choicesF
  rw [if_pos hb, prodR_filter, count_prod _ _ fun n hn => h n (List.mem_reverse.mp hn), List.reverse_reverse]
end Bn

namespace Bn
open PySem PySem.Spec PyProof.Rows L2 BR GX RM
/-! ### rules with a letter for the written part -/
section
variable {X : Cx}
theorem ix_tupK {K : PySem.W.Frag} (e : X.K = K) : IxR X (rIxT K) := by
  subst e
  exact ix_tup
theorem ix_lstK {K : PySem.W.Frag} (e : X.K = K) : IxR X (rIxL K) := by
  subst e
  exact ix_list
theorem pi_listK {tg l : Expr} {tl : TE} {K : PySem.W.Frag} (e : X.K = K) (hl : PE X l tl) : PI X tg l (iList K tl) := by
  subst e
  exact pi_list hl
theorem pa_starK {e : Expr} {es : List Expr} {te : TE} {t : TA} {p : Pos} {K : PySem.W.Frag} (eK : X.K = K) (he : PE X e te) (hr : PA X es t) (hs : starEach (.Starred e p :: es) X.env = (true, eval e X.env) :: starEach es X.env := by rfl) : PA X (.Starred e p :: es) (StX.tStar K te t) := by
  subst eK
  exact StX.pa_star he hr hs
end
/-! ### features, one by one -/
def FtAt (H : Hp) (v : V) (d : FtD) : Prop := ∃ p l, v = .ref p ∧ H p = some (.tup [.str d.n, .ref l, .bl d.t]) ∧ H l = some (.lst (d.vs.map V.str)) ∧ FtB d
abbrev Fts (H : Hp) (ys : List V) (ds : List FtD) : Prop := Paired (FtAt H) ys ds
theorem fts_of {H : Hp} : ∀ {ys : List V}, (∀ y ∈ ys, Ft H y) → ∃ ds, Fts H ys ds
  | [], _ => ⟨[], .nil⟩
  | y :: ys, h => by
    obtain ⟨ds, k⟩ := fts_of (ys := ys) fun z hz => h z (List.mem_cons_of_mem _ hz)
    obtain ⟨p, l, d, e, h1, h2, h3⟩ := h y (List.mem_cons_self ..)
    exact ⟨d :: ds, .cons ⟨p, l, e, h1, h2, h3⟩ k⟩
theorem FtAt.sameN {Ps : List Addr} {H H' : Hp} {v : V} {d : FtD} (h : FtAt H v d) (s : SameN Ps H H') : FtAt H' v d := by
  obtain ⟨p, l, e, h1, h2, h3⟩ := h
  exact ⟨p, l, e, s.k _ _ nt_tup h1, s.k _ _ nt_lst h2, h3⟩
theorem FtAt.same {H H' : Hp} {v : V} {d : FtD} (h : FtAt H v d) (s : Same H H') : FtAt H' v d := by
  obtain ⟨p, l, e, h1, h2, h3⟩ := h
  exact ⟨p, l, e, s _ _ h1, s _ _ h2, h3⟩
theorem Fts.sameN {Ps : List Addr} {H H' : Hp} {ys : List V} {ds : List FtD} (h : Fts H ys ds) (s : SameN Ps H H') : Fts H' ys ds := paired_mono h fun _ _ e => e.sameN s
theorem Fts.same {H H' : Hp} {ys : List V} {ds : List FtD} (h : Fts H ys ds) (s : Same H H') : Fts H' ys ds := paired_mono h fun _ _ e => e.same s
theorem paired_at {α β : Type} {R : α → β → Prop} {l : List α} {m : List β} (h : Paired R l m) : ∀ {i : Nat} {x : α}, l[i]? = some x → ∃ y, m[i]? = some y ∧ R x y := by
  induction h with
  | nil => intro i x e; simp at e
  | cons r _ ih =>
    intro i x e
    cases i with
    | zero =>
      cases Option.some.inj e
      exact ⟨_, rfl, r⟩
    | succ j => exact ih e
theorem paired_mem {α β : Type} {R : α → β → Prop} {l : List α} {m : List β} (h : Paired R l m) {y : β} (hy : y ∈ m) : ∃ x ∈ l, R x y := by
  induction h with
  | nil => exact absurd hy List.not_mem_nil
  | cons r _ ih =>
    rcases List.mem_cons.mp hy with rfl | z
    · exact ⟨_, List.mem_cons_self .., r⟩
    · obtain ⟨x, hx, k⟩ := ih z
      exact ⟨x, List.mem_cons_of_mem _ hx, k⟩
/-! ### what is known of features -/
def knownF (ds : List FtD) : BD := ds.foldl (fun b d => putB b d.n d.vs) []
theorem known_snoc (ds : List FtD) (d : FtD) : knownF (ds ++ [d]) = putB (knownF ds) d.n d.vs := by
  unfold knownF
  rw [List.foldl_append]
  rfl
theorem at?_repl (n m : Str) (vs : List Str) : ∀ b : BD, at? (b.map fun e => if e.1 = n then (e.1, vs) else e) m = if n = m then (at? b m).map (fun _ => vs) else at? b m
  | [] => by split <;> rfl
  | e :: b => by
    rw [List.map_cons, at?_cons, at?_cons, at?_repl n m vs b]
    by_cases c : e.1 = n
    · rw [if_pos c]
      by_cases d : n = m
      · rw [if_pos d, if_pos d, if_pos (c.trans d), if_pos (c.trans d)]
        rfl
      · rw [if_neg d, if_neg d, if_neg (fun z => d (c.symm.trans z)), if_neg (fun z => d (c.symm.trans z))]
    · rw [if_neg c]
      by_cases d : n = m
      · subst d
        rw [if_pos rfl, if_pos rfl, if_neg c, if_neg c]
      · rw [if_neg d, if_neg d]
theorem at?_app (b c : BD) (m : Str) : at? (b ++ c) m = ((at? b m).or (at? c m)) := by
  induction b with
  | nil => rfl
  | cons e b ih =>
    rw [List.cons_append, at?_cons, at?_cons, ih]
    by_cases d : e.1 = m
    · rw [if_pos d, if_pos d]
      rfl
    · rw [if_neg d, if_neg d]
theorem at?_put (b : BD) (n m : Str) (vs : List Str) : at? (putB b n vs) m = if n = m then some vs else at? b m := by
  unfold putB
  by_cases q : (b.any fun e => decide (e.1 = n)) = true
  · rw [if_pos q, at?_repl]
    by_cases d : n = m
    · rw [if_pos d, if_pos d]
      obtain ⟨e, he, en⟩ := List.any_eq_true.mp q
      have en' : e.1 = n := of_decide_eq_true en
      cases z : at? b m with
      | none => exact absurd (List.mem_map.mpr ⟨e, he, en'.trans d⟩) ((at?_none_iff b m).mp z)
      | some v => rfl
    · rw [if_neg d, if_neg d]
  · rw [if_neg q, at?_app, at?_cons, at?_nil]
    by_cases d : n = m
    · rw [if_pos d, if_pos d]
      have z : at? b m = none := (at?_none_iff b m).mpr fun hm => q (by
        obtain ⟨e, he, en⟩ := List.mem_map.mp hm
        exact List.any_eq_true.mpr ⟨e, he, decide_eq_true (en.trans d.symm)⟩)
      rw [z]
      rfl
    · rw [if_neg d, if_neg d, Option.or_none]
theorem known_mem {ds : List FtD} {n : Str} {vs : List Str} (h : at? (knownF ds) n = some vs) : ∃ d ∈ ds, d.n = n ∧ d.vs = vs := by
  have key : ∀ (ds : List FtD) (b : BD), at? (ds.foldl (fun b d => putB b d.n d.vs) b) n = some vs → (∃ d ∈ ds, d.n = n ∧ d.vs = vs) ∨ at? b n = some vs := by
    intro ds
    induction ds with
    | nil => exact fun b e => .inr e
    | cons d ds ih =>
      intro b e
      rcases ih (putB b d.n d.vs) e with ⟨d', hd, k⟩ | k
      · exact .inl ⟨d', List.mem_cons_of_mem _ hd, k⟩
      · rw [at?_put] at k
        by_cases c : d.n = n
        · rw [if_pos c] at k
          exact .inl ⟨d, List.mem_cons_self .., c, Option.some.inj k⟩
        · rw [if_neg c] at k
          exact .inr k
  rcases key ds [] h with z | z
  · exact z
  · cases z
theorem known_has {ds : List FtD} {d : FtD} (hd : d ∈ ds) : ∃ vs, at? (knownF ds) d.n = some vs := by
  have key : ∀ (ds : List FtD) (b : BD), (d ∈ ds ∨ ∃ vs, at? b d.n = some vs) → ∃ vs, at? (ds.foldl (fun b d => putB b d.n d.vs) b) d.n = some vs := by
    intro ds
    induction ds with
    | nil =>
      intro b h
      rcases h with h | h
      · exact absurd h List.not_mem_nil
      · exact h
    | cons e ds ih =>
      intro b h
      refine ih (putB b e.n e.vs) ?_
      rw [at?_put]
      by_cases c : e.n = d.n
      · rw [if_pos c]
        exact .inr ⟨_, rfl⟩
      · rw [if_neg c]
        rcases h with h | h
        · rcases List.mem_cons.mp h with z | z
          · exact absurd (by rw [z]) c
          · exact .inl z
        · exact .inr h
  exact key ds [] (.inl hd)
def FtsB (ds : List FtD) : Prop := ds.length ≤ 6 ∧ ∀ d ∈ ds, FtB d
theorem Fts.b {H : Hp} {ys : List V} {ds : List FtD} (h : Fts H ys ds) (hl : ys.length ≤ 6) : FtsB ds := by
  refine ⟨by rw [← Paired.length h]; exact hl, fun d hd => ?_⟩
  obtain ⟨x, _, p, l, _, _, _, k⟩ := paired_mem h hd
  exact k
theorem knF_len {ds : List FtD} (hB : FtsB ds) (n : Str) : (knF (knownF ds) n).length ≤ 6 := by
  unfold knF
  cases e : at? (knownF ds) n with
  | none => exact Nat.zero_le _
  | some vs =>
    obtain ⟨d, hd, _, rfl⟩ := known_mem e
    exact (hB.2 d hd).2.1
theorem knF_ok {ds : List FtD} (hB : FtsB ds) (n : Str) : ∀ v ∈ knF (knownF ds) n, okS v := by
  unfold knF
  cases e : at? (knownF ds) n with
  | none => exact fun v hv => absurd hv List.not_mem_nil
  | some vs =>
    obtain ⟨d, hd, _, rfl⟩ := known_mem e
    exact (hB.2 d hd).2.2.2
theorem knF_ne {ds : List FtD} (hB : FtsB ds) {n : Str} (hn : n ∈ ds.map (·.n)) : knF (knownF ds) n ≠ [] := by
  obtain ⟨d, hd, rfl⟩ := List.mem_map.mp hn
  obtain ⟨vs, e⟩ := known_has hd
  obtain ⟨d', hd', _, rfl⟩ := known_mem e
  unfold knF
  rw [e]
  have := (hB.2 d' hd').1
  intro z
  have z' : d'.vs = [] := z
  rw [z'] at this
  exact absurd this (by decide)
/-! ### rows -/
abbrev Tps (H : Hp) (ts : List Addr) (rows : List Row) : Prop := Paired (fun t (r : Row) => H t = some (.tup (r.map V.str))) ts rows
theorem Tps.sameN {Ps : List Addr} {H H' : Hp} {ts : List Addr} {rows : List Row} (h : Tps H ts rows) (s : SameN Ps H H') : Tps H' ts rows := paired_mono h fun _ _ e => s.k _ _ nt_tup e
theorem Tps.same {H H' : Hp} {ts : List Addr} {rows : List Row} (h : Tps H ts rows) (s : Same H H') : Tps H' ts rows := paired_mono h fun _ _ e => s _ _ e
theorem Tps.updL {H : Hp} {ts : List Addr} {rows : List Row} {D : Addr} {xs ys : List V} (h : Tps H ts rows) (hD : H D = some (.lst xs)) : Tps (upd H D (.lst ys)) ts rows := paired_mono h fun _ _ e => by
  rw [upd_ne (ne_of e hD (by intro z; cases z))]
  exact e
def RwsAt (H : Hp) (r : Addr) (rows : List Row) : Prop := ∃ ts : List Addr, H r = some (.lst (ts.map V.ref)) ∧ Tps H ts rows
theorem RwsAt.sameN {Ps : List Addr} {H H' : Hp} {r : Addr} {rows : List Row} (h : RwsAt H r rows) (s : SameN Ps H H') : RwsAt H' r rows := by
  obtain ⟨ts, h1, h2⟩ := h
  exact ⟨ts, s.k _ _ nt_lst h1, h2.sameN s⟩
theorem RwsAt.same {H H' : Hp} {r : Addr} {rows : List Row} (h : RwsAt H r rows) (s : Same H H') : RwsAt H' r rows := by
  obtain ⟨ts, h1, h2⟩ := h
  exact ⟨ts, s _ _ h1, h2.same s⟩
theorem _root_.GX.SameN.new {Ps : List Addr} {H H' : Hp} {p : Addr} {o : HO} (s : SameN Ps H H') (n : H' p = none) : SameN Ps H (upd H' p o) := s.trans (SameN.of s.t (same_new n))
theorem _root_.GX.SameN.own {Ps : List Addr} {H H' : Hp} {p : Addr} {o u : HO} (s : SameN Ps H H') (n : H p = none) (e : H' p = some u) (hu : NT u) : SameN Ps H (upd H' p o) := by
  refine ⟨fun x y nt h => ?_, fun x q h => ?_, fun P hP => ?_⟩
  · rw [upd_ne (ne_of_none h n)]
    exact s.k _ _ nt h
  · rw [upd_ne (ne_of_none h n)]
    exact s.q _ _ h
  · obtain ⟨ps, h1, h2⟩ := s.t P hP
    refine ⟨ps, ?_, h2⟩
    rw [upd_ne (ne_of h1 e fun z => hu ps (by rw [← z]))]
    exact h1
theorem small_six {n k : Nat} (h : n ≤ 6 ^ k) (hk : k ≤ 6) : n < sizeLine := Nat.lt_of_le_of_lt (Nat.le_trans h (Nat.pow_le_pow_right (by decide) hk)) (by decide)
end Bn

namespace Bn
open PySem PySem.Spec PyProof.Rows L2 BR GX RM
section
variable {P : Program} {w : World} {K : PySem.W.Frag} {mg : Str → Option Value} {base : Heap}
abbrev NC : List Str := ["features", "names", "bundle", "known", "rows", "name", "values", "feature", "value", "row"]
def spChoices (Ps : List Addr) : Sp := fun vs H Q _ => ∃ (fl nl bl : Addr) (ys : List V) (ds : List FtD) (ns : List Str) (b : BD), vs = [.ref fl, .ref nl, .ref bl] ∧ H fl = some (.lst ys) ∧ Fts H ys ds ∧ ds.length ≤ 6 ∧ H nl = some (.lst (ns.map V.str)) ∧ ns.length ≤ 6 ∧ (∀ n ∈ ns, n ∈ ds.map (·.n)) ∧ Bd H bl b ∧ Tabs Ps H ∧
  ∀ r H', H r = none → SameN Ps H H' → RwsAt H' r (choicesF (knownF ds) ns b) → Q (.ref r) H'
theorem ok_choices {f fW : Addr} {fd fdW : FuncData} {Ps : List Addr} (F : Fun K "choices" "choices" s_choices f fd)
    (kW : PySem.W.keepIn K (.ref fW) = true) (bW : Binds K fdW ["inner", "outer"] []) (gW : mg "within" = some (.ref fW)) (GW : FnOk P w K mg base CX0 4 fW fdW ["inner", "outer"] (spWithin Ps)) : FnOk P w K mg base CX0 5 f fd ["features", "names", "bundle"] (spChoices Ps) := by
  refine F.ok sc_choices (fun vs H Q E h => ?_) (fun cdv A outer s H vs Q E hr h => ?_)
  · obtain ⟨fl, nl, bl, ys, ds, ns, b, rfl, _⟩ := h
    rfl
  · obtain ⟨fl, nl, bl, ys, ds, ns, b, rfl, hfl, hF, hdl, hnl, hnn, hnm, hB, hT, q⟩ := h
    refine ⟨_, pss_cons (ps_if (pt_not (pt_val (pe_call GW hr (by rfl) gW kW bW .nil pass0 (pa_cons (pv 2) (pa_cons (pv 1) pa_nil))))) (pss_one (ps_ret (pe_lst pa_nil))) pss_nil)
      (pss_cons (ps_setDc (i := 3) (own := [("feature", 7)]) (g := gName 7) rfl sc_choices.nd rfl rfl (sw_dict rfl rfl rfl (by decide +kernel)) (pi_list (pv 0))
        (blkOk_by (own := [("feature", 7)]) (N := NC) (sc := defScope s_choices) (by decide +kernel))
        (fun _ _ _ _ _ => pg_name (i := 7) sc_choices.nd rfl (Or.inl rfl)) (fun _ _ _ _ _ => pts_nil)
        (fun _ _ _ _ _ => pe_ix (ix_tupK (K := K) rfl) (pv 7) pe_int (fun _ _ => rfl)) (fun _ _ _ _ _ => pe_ix (ix_tupK (K := K) rfl) (pv 7) pe_int (fun _ _ => rfl)))
      (pss_cons (ps_set (i := 4) sc_choices.nd rfl (.inl rfl) (pe_lst (pa_cons (pe_tup pa_nil) pa_nil)))
      (pss_cons (ps_for PassesOwn.never rfl (pi_list (pv 1)) (pg_name (i := 5) sc_choices.nd rfl (.inr rfl))
        (pss_cons (ps_set (i := 6) sc_choices.nd rfl (.inr rfl) (pe_lc (own := [("value", 8)]) (g := gName 8) rfl sc_choices.nd (pi_list (pe_dget (hu_of hr) (pv 3) (pv 5) (fun _ _ => rfl)))
            (blkOk_by (own := [("value", 8)]) (N := NC) (sc := defScope s_choices) (by decide +kernel))
            (fun _ _ _ _ _ => pg_name (i := 8) sc_choices.nd rfl (Or.inl rfl)) (fun _ _ _ _ _ => pts_one (PW.pt (pw_or (pt_cmp (pc_dnotin (hu_of hr) (pv 5) (pv 2))) (pw_or1 (pt_cmpR (op_inK (K := K) rfl) (pv 8) (pe_dget (hu_of hr) (pv 2) (pv 5) (fun _ _ => rfl)) (by rfl)))))) (fun _ _ _ _ _ => pv 8)))
        (pss_one (ps_setLc2 (i := 4) (own := [("row", 9), ("value", 8)]) (vs1 := [8]) (g := gName 9) (g1 := gName 8) rfl sc_choices.nd rfl rfl (sw_true rfl rfl rfl (by decide +kernel)) (pi_list (pv 4))
            (blkOk_by (own := [("row", 9), ("value", 8)]) (N := NC) (sc := defScope s_choices) (by decide +kernel)) (by decide)
            (fun _ _ _ _ _ => pg_name (i := 9) sc_choices.nd rfl (Or.inl rfl)) (fun _ _ _ _ _ => pts_nil)
            (fun _ _ _ _ _ => pi_listK (K := K) rfl (pv 6)) (fun _ _ _ _ _ => pg_name (i := 8) sc_choices.nd rfl (Or.inl rfl)) (fun _ _ _ _ _ => pts_nil)
            (fun _ _ _ _ _ => pe_tup (pa_starK (K := K) rfl (pv 9) (pa_cons (pv 8) pa_nil)))))))
      (pss_one (ps_ret (pv 4)))))), ?_⟩
    refine ⟨_, rfl, _, rfl, bl, nl, _, ns, rfl, .inr ⟨b, hB, rfl⟩, hnl, hT, fun H1 s1 => ?_⟩
    refine ⟨_, rfl, ?_⟩
    cases hin : inF (b.map (·.1)) ns with
    | false =>
      refine iteT ⟨Nat.zero_le _, fun r nr => q r _ (s1.free nr) (s1.new nr) ?_⟩
      have e : choicesF (knownF ds) ns b = [] := by
        unfold choicesF
        rw [if_neg (by rw [hin]; decide)]
      rw [e]
      exact ⟨[], upd_same, .nil⟩
    | true =>
      have hFB : FtsB ds := hF.b (by rw [Paired.length hF]; exact hdl)
      have hfl1 := s1.k _ _ nt_lst hfl
      have hF1 := hF.sameN s1
      have hlen : ys.length = ds.length := Paired.length hF
      refine iteF ⟨_, rfl, fl, rfl, ⟨_, .inl (.inl hfl1)⟩, fun D nD => ?_⟩
      refine dc_it (walk_list (K := K) (a := fl) (xs := ys)) (fun i HX => Same H1 HX ∧ ∃ kvs, HX D = some (.dK kvs) ∧ Ents HX kvs (knownF (ds.take i)) ∧ kvs.length ≤ i) ⟨same_new nD, [], upd_same, .nil, Nat.le_refl _⟩ (fun i HX _ h => .inl (.inl (h.1 _ _ hfl1))) (fun i x HX HX' hi hP hY => ?_) (fun HX hP => ?_)
      · obtain ⟨rfl, hx⟩ := hY
        obtain ⟨sX, kvs, hD, hE, hkl⟩ := hP
        obtain ⟨d, hdi, p, l, rfl, f1, f2, f3⟩ := paired_at hF1 hx
        refine ⟨rfl, tYes_in ?_⟩
        refine ⟨_, rfl, p, _, _, V.str d.n, rfl, rfl, .inl (.inl (sX _ _ f1)), rfl, _, rfl, p, _, _, V.ref l, rfl, rfl, .inl (.inl (sX _ _ f1)), rfl, kvs, .inr d.n, rfl, hD, small1000 (by omega), Same.own sX nD, _, upd_same, ?_, ?_⟩
        · rw [take_get hdi, known_snoc]
          exact (hE.put (sX _ _ f2)).upd_dict hD
        · have := length_putK kvs (.inr d.n) (V.ref l)
          omega
      · obtain ⟨sX, kvs, hD, hE, hkl⟩ := hP
        rw [hlen, List.take_length] at hE
        refine ⟨Nat.zero_le _, fun t nt => ⟨(show 1 ≤ sizeLine by decide), fun r nr => ?_⟩⟩
        have sA : Same HX (upd HX t (.tup [])) := same_new nt
        have ht : (upd HX t (.tup [])) t = some (.tup []) := upd_same
        generalize upd HX t (.tup []) = HA at sA ht nr ⊢
        have sB : Same HA (upd HA r (.lst [.ref t])) := same_new nr
        have hr0 : (upd HA r (.lst [.ref t])) r = some (.lst [.ref t]) := upd_same
        have nrH : H r = none := s1.free (sX.free (sA.free nr))
        generalize upd HA r (.lst [.ref t]) = HB at sB hr0 ⊢
        have sHB : SameN Ps H HB := ((s1.trans (SameN.of s1.t sX)).trans (SameN.of (s1.t.same sX) sA)).trans (SameN.of ((s1.t.same sX).same sA) sB)
        have hEB : Ents HB kvs (knownF ds) := (hE.same sA).same sB
        have hDB : HB D = some (.dK kvs) := sB _ _ (sA _ _ hD)
        refine ⟨_, rfl, nl, rfl, ⟨_, .inl (.inl (sHB.k _ _ nt_lst hnl))⟩, for_list (K := K) (a := nl) (xs := ns.map V.str) (fun i σ HY => ∃ (r : Addr) (y5 y6 y7 y8 y9 : Option V), σ = [some (.ref fl), some (.ref nl), some (.ref bl), some (.ref D), some (.ref r), y5, y6, y7, y8, y9] ∧ SameN Ps HB HY ∧ H r = none ∧ RwsAt HY r (prodR (fun n => (knF (knownF ds) n).filter (okB b n)) (ns.take i).reverse))
          ⟨r, _, _, _, _, _, rfl, SameN.refl sHB.t, nrH, [t], hr0, .cons (sB _ _ ht) .nil⟩ (fun i σ HY _ h => ?_) (fun i x σ HY hx hP => ?_) (fun σ HY hP => ?_)⟩
        · obtain ⟨_, _, _, _, _, _, _, sY, _⟩ := h
          exact .inl (.inl (sY.k _ _ nt_lst (sHB.k _ _ nt_lst hnl)))
        · obtain ⟨r, y5, y6, y7, y8, y9, rfl, sY, nr', ts, hr', hts⟩ := hP
          rw [List.getElem?_map] at hx
          obtain ⟨n, en, ex⟩ := Option.map_eq_some_iff.mp hx
          subst ex
          have hnd := hnm n (List.mem_of_getElem? en)
          have hi : i < ns.length := (List.getElem?_eq_some_iff.mp en).1
          obtain ⟨l, vs, z1, z2, z3, _⟩ : ∃ l vs, at? (knownF ds) n = some vs ∧ valV kvs (.inr n) = some (.ref l) ∧ HB l = some (.lst (vs.map V.str)) ∧ (Sum.inr n, V.ref l) ∈ kvs := by
            rcases hEB.val n with ⟨z, _⟩ | z
            · obtain ⟨d, hd, ed⟩ := List.mem_map.mp hnd
              obtain ⟨vs, e⟩ := known_has hd
              have ed' : d.n = n := ed
              rw [ed', z] at e
              cases e
            · exact z
          have hk : knF (knownF ds) n = vs := by
            unfold knF
            rw [z1]
            rfl
          have hv6 : vs.length ≤ 6 := by
            rw [← hk]
            exact knF_len hFB n
          obtain ⟨kb, hb, hEb, hNb, hLb, hBb⟩ := hB.sameN (sHB.trans sY)
          have hlY := sY.k _ _ nt_lst z3
          refine ⟨_, rfl, _, rfl, D, V.ref l, rfl, .inl ⟨kvs, .inr n, .inl (sY.k _ _ nt_dK hDB), rfl, z2.symm⟩, l, rfl, ⟨_, .inl (.inl hlY)⟩, fun V0 nV => ?_⟩
          refine lc_list (K := K) (a := l) (xs := vs.map V.str) (fun j HZ => Same HY HZ ∧ HZ V0 = some (.lst (((vs.take j).filter (okB b n)).map V.str))) ⟨same_new nV, upd_same⟩ (fun j HZ _ h => .inl (.inl (h.1 _ _ hlY))) (fun j x HZ hx2 hP => ?_) (fun HZ hP => ?_)
          · obtain ⟨sZ, hV⟩ := hP
            rw [List.getElem?_map] at hx2
            obtain ⟨v, ev, ex⟩ := Option.map_eq_some_iff.mp hx2
            subst ex
            have put : okB b n v = true → Same HY (upd HZ V0 (.lst (((vs.take j).filter (okB b n)).map V.str ++ [V.str v]))) ∧ (upd HZ V0 (.lst (((vs.take j).filter (okB b n)).map V.str ++ [V.str v]))) V0 = some (.lst (((vs.take (j + 1)).filter (okB b n)).map V.str)) := fun e => ⟨Same.own sZ nV, by
              rw [upd_same, filter_snoc ev, if_pos e, List.map_append]
              rfl⟩
            have few : (((vs.take j).filter (okB b n)).map V.str).length < sizeLine := by
              rw [List.length_map]
              refine small1000 (Nat.le_trans (List.length_filter_le _ _) ?_)
              rw [List.length_take]
              omega
            refine ⟨rfl, _, rfl, _, rfl, bl, _, rfl, .inl ⟨kb, .inr n, .inl (sZ _ _ hb), rfl, rfl⟩, _, rfl, ?_⟩
            rcases hEb.val n with ⟨a1, a2⟩ | ⟨la, va, a1, a2, a3, _⟩
            · rw [a2]
              have ok1 : okB b n v = true := by
                unfold okB
                rw [a1]
              exact iteT (iteT ⟨_, rfl, _, hV, few, put ok1⟩)
            · rw [a2]
              have ok1 : okB b n v = decide (v ∈ va) := by
                unfold okB
                rw [a1]
              refine iteF ⟨_, rfl, _, rfl, _, rfl, bl, V.ref la, rfl, .inl ⟨kb, .inr n, .inl (sZ _ _ hb), rfl, a2.symm⟩, la, _, rfl, .inl (.inl (.inl (sZ _ _ a3))), rfl, flat_strs va, _, rfl, ite2 (fun e => ?_) (fun e => ?_)⟩
              · have e' : inV (V.str v) (va.map V.str) = true := e
                rw [inV_str, ← ok1] at e'
                exact ⟨_, rfl, _, hV, few, put e'⟩
              · have e' : ¬ inV (V.str v) (va.map V.str) = true := e
                rw [inV_str, ← ok1] at e'
                refine ⟨sZ, ?_⟩
                rw [filter_snoc ev, if_neg e', List.append_nil]
                exact hV
          · obtain ⟨sZ, hV⟩ := hP
            rw [List.length_map, List.take_length] at hV
            have hrZ := sZ _ _ hr'
            have htsZ := hts.same sZ
            generalize hrows : prodR (fun n => (knF (knownF ds) n).filter (okB b n)) (ns.take i).reverse = rows at htsZ
            generalize hvals : vs.filter (okB b n) = vals at hV
            have hvl : vals.length ≤ 6 := by
              rw [← hvals]
              exact Nat.le_trans (List.length_filter_le _ _) hv6
            have hrl : rows.length ≤ 6 ^ i := by
              have z := prodR_size (fun n => (knF (knownF ds) n).filter (okB b n)) (fun n => Nat.le_trans (List.length_filter_le _ _) (knF_len hFB n)) (ns.take i).reverse
              rw [hrows, List.length_reverse, List.length_take, Nat.min_eq_left (Nat.le_of_lt hi)] at z
              exact z
            have htl : ts.length = rows.length := Paired.length htsZ
            have next : prodR (fun n => (knF (knownF ds) n).filter (okB b n)) (ns.take (i + 1)).reverse = rows.flatMap fun r => vals.map fun v => r ++ [v] := by
              rw [take_get en, List.reverse_append]
              show (prodR _ (ns.take i).reverse).flatMap _ = _
              rw [hrows]
              show (rows.flatMap fun r => ((knF (knownF ds) n).filter (okB b n)).map fun v => r ++ [v]) = _
              rw [hk, hvals]
            refine ⟨_, rfl, r, rfl, ⟨_, .inl (.inl hrZ)⟩, fun D2 nD2 => ?_⟩
            have nD2H : H D2 = none := (sHB.trans sY).free (sZ.free nD2)
            refine lc2_it (walk_list (K := K) (a := r) (xs := ts.map V.ref)) (fun i HW => Same HZ HW ∧ ∃ us : List Addr, HW D2 = some (.lst (us.map V.ref)) ∧ Tps HW us ((rows.take i).flatMap fun r => vals.map fun v => r ++ [v])) ⟨same_new nD2, [], upd_same, .nil⟩ (fun j HW _ h => .inl (.inl (h.1 _ _ hrZ))) (fun j x HW HW' hj hP hY => ?_) (fun HW hP => ?_)
            · obtain ⟨rfl, hx3⟩ := hY
              obtain ⟨sW, us, hD2, hus⟩ := hP
              rw [List.getElem?_map] at hx3
              obtain ⟨t1, et1, ex⟩ := Option.map_eq_some_iff.mp hx3
              subst ex
              obtain ⟨row, hrow, ht1⟩ := paired_at htsZ et1
              have hjr : j < rows.length := (List.getElem?_eq_some_iff.mp hrow).1
              refine ⟨rfl, tYes_in ⟨_, rfl, V0, rfl, ⟨_, .inl (.inl (sW _ _ hV))⟩, ?_⟩⟩
              refine in2_it (walk_list (K := K) (a := V0) (xs := vals.map V.str)) (fun k HU => Same HZ HU ∧ ∃ us : List Addr, HU D2 = some (.lst (us.map V.ref)) ∧ Tps HU us (((rows.take j).flatMap fun r => vals.map fun v => r ++ [v]) ++ (vals.take k).map fun v => row ++ [v])) ⟨sW, us, hD2, by rw [List.take_zero, List.map_nil, List.append_nil]; exact hus⟩ (fun k HU _ h => .inl (.inl (h.1 _ _ hV))) (fun k x HU HU' hk' hP hY => ?_) (fun HU hP => ?_)
              · obtain ⟨rfl, hx4⟩ := hY
                obtain ⟨sU, us, hD2, hus⟩ := hP
                rw [List.getElem?_map] at hx4
                obtain ⟨v, ev, ex⟩ := Option.map_eq_some_iff.mp hx4
                subst ex
                have hkv : k < vals.length := (List.getElem?_eq_some_iff.mp ev).1
                have hul : us.length < sizeLine := by
                  have e := Paired.length hus
                  rw [List.length_append, List.length_map, List.length_take] at e
                  have e2 := flatMap_len (β := Row) (fun r : Row => vals.map fun v => r ++ [v]) 6 (rows.take j) fun r _ => by rw [List.length_map]; exact hvl
                  have e6 : us.length ≤ (rows.take j).length * 6 + min k vals.length := by
                    rw [e]
                    exact Nat.add_le_add_right e2 _
                  rw [List.length_take] at e6
                  have e3 : 6 ^ i * 6 = 6 ^ (i + 1) := rfl
                  have e4 := Nat.mul_le_mul_right 6 hrl
                  refine small_six (k := i + 1) ?_ (by omega)
                  rw [← e3]
                  clear e e2
                  omega
                refine ⟨rfl, tYes_in ⟨_, rfl, t1, _, rfl, .inl (.inl (.inl (sU _ _ ht1))), _, rfl, ?_, fun p np => ?_⟩⟩
                · have hm : row ∈ prodR (fun n => (knF (knownF ds) n).filter (okB b n)) (ns.take i).reverse := by
                    rw [hrows]
                    exact List.mem_of_getElem? hrow
                  have z := prodR_len _ _ _ hm
                  rw [List.length_reverse, List.length_take] at z
                  rw [List.length_append, List.length_map]
                  exact line1000 (by show row.length + 1 ≤ 1000; omega)
                · have sP : Same HU' (upd HU' p (.tup (row.map V.str ++ [V.str v]))) := same_new np
                  have hp : (upd HU' p (.tup (row.map V.str ++ [V.str v]))) p = some (.tup ((row ++ [v]).map V.str)) := by
                    rw [upd_same, List.map_append]
                    rfl
                  generalize upd HU' p (.tup (row.map V.str ++ [V.str v])) = HQ at sP hp ⊢
                  have hD3 := sP _ _ hD2
                  refine ⟨_, hD3, by rw [List.length_map]; exact hul, Same.own (sU.trans sP) nD2, us ++ [p], ?_, ?_⟩
                  · rw [upd_same, List.map_append]
                    rfl
                  · rw [take_get ev, List.map_append, ← List.append_assoc]
                    exact Tps.updL (paired_snoc (hus.same sP) hp) hD3
              · obtain ⟨sU, us, hD2, hus⟩ := hP
                rw [List.length_map, List.take_length] at hus
                refine ⟨sU, us, hD2, ?_⟩
                rw [take_get hrow, flatMap_snoc]
                exact hus
            · obtain ⟨sW, us, hD2, hus⟩ := hP
              rw [List.length_map, htl, List.take_length] at hus
              refine ⟨D2, _, _, _, _, _, rfl, (sY.trans (SameN.of sY.t sZ)).trans (SameN.of (sY.t.same sZ) sW), nD2H, us, hD2, ?_⟩
              rw [next]
              exact hus
        · obtain ⟨r, y5, y6, y7, y8, y9, rfl, sY, nr', hR⟩ := hP
          rw [List.length_map, List.take_length] at hR
          refine ⟨_, rfl, q r HY nr' (sHB.trans sY) ?_⟩
          have e : choicesF (knownF ds) ns b = prodR (fun n => (knF (knownF ds) n).filter (okB b n)) ns.reverse := by
            unfold choicesF
            rw [if_pos hin]
          rw [e]
          exact hR
end
end Bn

namespace Bn
open PySem PySem.Spec PyProof.Rows L2 BR GX RM
theorem FtAt.kp {b : Addr} {H H' : Hp} {v : V} {d : FtD} (h : FtAt H v d) (hb : Bx H b) (k : Kp b H H') : FtAt H' v d := by
  obtain ⟨p, l, e, h1, h2, h3⟩ := h
  exact ⟨p, l, e, k _ _ (ne_bx hb h1 (fun _ _ _ _ z => by cases z)) h1, k _ _ (ne_bx hb h2 (strs_ne_ints h3.1)) h2, h3⟩
theorem Fts.kp {b : Addr} {H H' : Hp} {ys : List V} {ds : List FtD} (h : Fts H ys ds) (hb : Bx H b) (k : Kp b H H') : Fts H' ys ds := paired_mono h fun _ _ e => e.kp hb k
theorem paired_in {α β : Type} {R : α → β → Prop} {l : List α} {m : List β} (h : Paired R l m) {x : α} (hx : x ∈ l) : ∃ y ∈ m, R x y := by
  obtain ⟨i, hi⟩ := List.getElem?_of_mem hx
  obtain ⟨y, hy, r⟩ := paired_at h hi
  exact ⟨y, List.mem_of_getElem? hy, r⟩
theorem fts_ne_box {H : Hp} {ys : List V} {ds : List FtD} (h : Fts H ys ds) (x y z t : Int) : HO.lst ys ≠ .lst [.int x, .int y, .int z, .int t] := fun e => by
  injection e with e
  subst e
  cases h with
  | cons r _ =>
    obtain ⟨p, l, e, _⟩ := r
    cases e
section
variable {P : Program} {w : World} {K : PySem.W.Frag} {mg : Str → Option Value} {base : Heap}
/-! ### chosen -/
def spChosen : Sp := fun vs H Q _ => ∃ (b fl : Addr) (ys : List V) (ds : List FtD), vs = [.ref b, .ref fl] ∧ Bx H b ∧ H fl = some (.lst ys) ∧ Fts H ys ds ∧ ds.length ≤ 6 ∧ ∀ (p : Addr) (ns : List Str) H', H p = none → Kb b H H' → H' p = some (.lst (ns.map V.str)) → ns.length ≤ 6 → (∀ n ∈ ns, n ∈ ds.map (·.n)) → Q (.ref p) H'
theorem ok_chosen {f fT fS : Addr} {fd fdT fdS : FuncData} (F : Fun K "_law_chosen" "_law_chosen" s_l_chosen f fd)
    (kT : PySem.W.keepIn K (.ref fT) = true) (bT : Binds K fdT ["_law_box_here", "_law_many"] []) (gT : mg "_law_take" = some (.ref fT)) (GT : FnOk P w K mg base CX0 2 fT fdT ["_law_box_here", "_law_many"] spTake)
    (kS : PySem.W.keepIn K (.ref fS) = true) (bS : Binds K fdS ["_law_box_here", "_law_words", "_law_many"] []) (gS : mg "_law_some" = some (.ref fS)) (GS : FnOk P w K mg base CX0 3 fS fdS ["_law_box_here", "_law_words", "_law_many"] (spSome K))
    (ml : mg "len" = none) : FnOk P w K mg base CX0 4 f fd ["_law_box_here", "_law_features_here"] spChosen := by
  refine F.ok sc_l_chosen (fun vs H Q E h => ?_) (fun cdv A outer s H vs Q E hr h => ?_)
  · obtain ⟨b, fl, ys, ds, rfl, _⟩ := h
    rfl
  · obtain ⟨b, fl, ys, ds, rfl, hb, hfl, hF, hdl, q⟩ := h
    have hyl : ys.length = ds.length := Paired.length hF
    refine ⟨_, pss_cons (ps_set (i := 2) sc_l_chosen.nd rfl (.inl rfl) (pe_lst pa_nil))
      (pss_cons (ps_set (i := 3) sc_l_chosen.nd rfl (.inl rfl) pe_int)
      (pss_cons (ps_for PassesOwn.never rfl (pi_list (pe_call GS hr (by rfl) gS kS bS .nil pass0 (pa_cons (pv 0) (pa_cons (pv 1) (pa_cons (pe_callB call_len_seq (by rfl) ml PySem.boot_len (pa_cons (pv 1) pa_nil)) pa_nil)))))
          (pg_tup rfl (pgs_cons (pg_name (i := 4) sc_l_chosen.nd rfl (.inl rfl)) (pgs_cons (pg_name (i := 5) sc_l_chosen.nd rfl (.inl rfl)) (pgs_cons (pg_name (i := 6) sc_l_chosen.nd rfl (.inl rfl)) pgs_nil))))
        (pss_one (ps_if (PW.pt (pw_and (pt_cmpR op_le (pe_op op_mul (pv 3) (pe_callB call_len_seq (by rfl) ml PySem.boot_len (pa_cons (pv 5) pa_nil))) pe_int (nomark _)) (pw_and1 (pt_cmpR op_gt (pe_call GT (hr.mono (by decide)) (by rfl) gT kT bT .nil pass0 (pa_cons (pv 0) (pa_cons pe_int pa_nil))) pe_int (nomark _)))))
          (pss_cons (ps_expr (pe_bm PySem.F.plainAttrs_list PySem.F.slot_list_append PySem.F.type_list_append mt_append (pv 2) (pa_cons (pv 4) pa_nil)))
          (pss_one (ps_set (i := 3) sc_l_chosen.nd rfl (.inl rfl) (pe_op op_mul (pv 3) (pe_callB call_len_seq (by rfl) ml PySem.boot_len (pa_cons (pv 5) pa_nil)))))) pss_nil)))
      (pss_one (ps_ret (pv 2))))), ?_⟩
    refine ⟨Nat.zero_le _, fun d nd => ?_⟩
    have k1 : Kb b H (upd H d (.lst [])) := Kb.new hb nd
    have ndb : d ≠ b := (hb.ne nd).symm
    have hd1 : (upd H d (.lst [])) d = some (.lst []) := upd_same
    have hfb : fl ≠ b := ne_bx hb hfl (fts_ne_box hF)
    have hfd : (upd H d (.lst [])) fl = some (.lst ys) := k1.k _ _ hfb hfl
    generalize upd H d (.lst []) = H1 at k1 hd1 hfd ⊢
    refine ⟨_, rfl, _, rfl, _, rfl, fl, ys, rfl, .inl (.inl (.inl hfd)), b, fl, ys, ys.length, rfl, k1.x, .inl (.inl hfd), Nat.le_refl _, by omega, fun p zs H2 np k2 hp hzl hzm => ?_⟩
    have npb : p ≠ b := (k1.x.ne np).symm
    have npd : p ≠ d := (ne_of_none hd1 np).symm
    have hd2 : H2 d = some (.lst []) := k2.k _ _ ndb hd1
    refine ⟨p, rfl, ⟨_, .inl (.inl hp)⟩, for_list (K := K) (a := p) (xs := zs) (fun i σ H' => ∃ (m : Int) (y4 y5 y6 : Option V), σ = [some (.ref b), some (.ref fl), some (.ref d), some (.int m), y4, y5, y6] ∧ Kb b H H' ∧ H' p = some (.lst zs) ∧ 0 ≤ m ∧ m ≤ 300 ∧ ∃ ns : List Str, H' d = some (.lst (ns.map V.str)) ∧ ns.length ≤ i ∧ ∀ n ∈ ns, n ∈ ds.map (·.n))
      ⟨1, _, _, _, rfl, k1.trans k2, hp, by decide, by decide, [], hd2, Nat.le_refl _, fun n hn => absurd hn List.not_mem_nil⟩ (fun i σ H' _ h => ?_) (fun i x σ H' hx hP => ?_) (fun σ H' hP => ?_)⟩
    · obtain ⟨_, _, _, _, _, _, h, _⟩ := h
      exact .inl (.inl h)
    · obtain ⟨m, y4, y5, y6, rfl, kb, hp', m0, m1, ns, hd', hnl, hnm⟩ := hP
      have hil : i < zs.length := (List.getElem?_eq_some_iff.mp hx).1
      obtain ⟨dd, hdd, pt, lv, rfl, g1, g2, hB⟩ := paired_in hF (hzm x (List.mem_of_getElem? hx))
      have f1 := kb.k _ _ (ne_bx hb g1 (fun _ _ _ _ z => by cases z)) g1
      have f2 := kb.k _ _ (ne_bx hb g2 (strs_ne_ints hB.1)) g2
      have hv6 : dd.vs.length ≤ 6 := hB.2.1
      have hv1 := hB.1
      have nlb : lv ≠ b := ne_bx kb.x f2 (strs_ne_ints hB.1)
      have stay : ∀ {HZ : Hp} {m' : Int}, Kb b H' HZ → 0 ≤ m' → m' ≤ 300 → ∃ (m : Int) (z4 z5 z6 : Option V), [some (V.ref b), some (.ref fl), some (.ref d), some (.int m'), some (.str dd.n), some (.ref lv), some (.bl dd.t)] = [some (.ref b), some (.ref fl), some (.ref d), some (.int m), z4, z5, z6] ∧ Kb b H HZ ∧ HZ p = some (.lst zs) ∧ 0 ≤ m ∧ m ≤ 300 ∧ ∃ ns : List Str, HZ d = some (.lst (ns.map V.str)) ∧ ns.length ≤ i + 1 ∧ ∀ n ∈ ns, n ∈ ds.map (·.n) := fun {HZ m'} k a1 a2 =>
        ⟨m', _, _, _, rfl, kb.trans k, k.k _ _ npb hp', a1, a2, ns, k.k _ _ ndb hd', by omega, hnm⟩
      refine ⟨pt, _, rfl, .inl (.inl f1), rfl, _, _, rfl, _, _, rfl, _, _, rfl, rfl, ?_⟩
      refine ⟨_, rfl, _, rfl, lv, _, rfl, .inl (.inl (.inl f2)), _, _, rfl, rfl, .inl ⟨by omega, by omega⟩, _, _, rfl, rfl, _, rfl, ite2 (fun e => ?_) (fun e => iteF (stay (Kb.refl kb.x) m0 m1))⟩
      have e0 : m * ((dd.vs.map V.str).length : Nat) ≤ 300 := of_decide_eq_true e
      have e1 : 0 ≤ m * ((dd.vs.map V.str).length : Nat) := Int.mul_nonneg m0 (by omega)
      refine ⟨_, rfl, b, 5, rfl, kb.x, by decide, by decide, fun h1 HA h10 h11 kA => ⟨_, _, rfl, rfl, _, rfl, ite2 (fun e => ?_) (fun e => stay kA m0 m1)⟩⟩
      have hdA := kA.k _ _ ndb hd'
      have f2A := kA.k _ _ nlb f2
      refine ⟨_, rfl, .inl ⟨rfl, _, .inl (.inl hdA)⟩, _, rfl, d, _, _, rfl, rfl, hdA, by rw [List.length_map]; exact small1000 (by omega), ?_⟩
      have nld : lv ≠ d := ne_of_none g2 nd
      refine ⟨_, rfl, _, rfl, lv, _, rfl, .inl (.inl (.inl (by rw [upd_ne nld]; exact f2A))), _, _, rfl, rfl, .inl ⟨by omega, by omega⟩, _, _, _, _, rfl, ((kb.trans kA).own nd ndb), ?_, e1, e0, ns ++ [dd.n], ?_, by rw [List.length_append]; show ns.length + 1 ≤ i + 1; omega, fun n hn => ?_⟩
      · rw [upd_ne npd]
        exact kA.k _ _ npb hp'
      · rw [upd_same, List.map_append]
        rfl
      · rcases List.mem_append.mp hn with z | z
        · exact hnm n z
        · rw [List.mem_singleton.mp z]
          exact List.mem_map.mpr ⟨dd, hdd, rfl⟩
    · obtain ⟨m, y4, y5, y6, rfl, kb, hp', m0, m1, ns, hd', hnl, hnm⟩ := hP
      exact ⟨_, rfl, q d ns H' nd kb hd' (by omega) hnm⟩
end
end Bn

namespace Bn
open PySem PySem.Spec PyProof.Rows L2 BR GX RM
theorem pg_tupK {X : Cx} {K : PySem.W.Frag} {es : List Expr} {k : Nat} {t : TGs} {n : Nat} {pos : Pos} (eK : X.K = K) (h : PG X (.Tuple es k pos) (gTup X.K n t)) : PG X (.Tuple es k pos) (gTup K n t) := by
  subst eK
  exact h
/-- pairs of names and lists of texts -/
abbrev Nvs (H : Hp) (kvs : List (Key × V)) (ds : List FtD) : Prop := Paired (fun (kv : Key × V) (d : FtD) => ∃ l, kv = (.inr d.n, .ref l) ∧ H l = some (.lst (d.vs.map V.str))) kvs ds
theorem Ents.merge {H : Hp} {kvs : List (Key × V)} {ds : List FtD} (h : Nvs H kvs ds) : ∀ {acc : List (Key × V)} {b : BD}, Ents H acc b → Ents H (mergeK acc kvs) (ds.foldl (fun b d => putB b d.n d.vs) b) := by
  induction h with
  | nil => exact fun e => e
  | cons r _ ih =>
    intro acc b e
    obtain ⟨l, rfl, hl⟩ := r
    exact ih (e.put hl)
theorem Nvs.same {H H' : Hp} {kvs : List (Key × V)} {ds : List FtD} (h : Nvs H kvs ds) (s : Same H H') : Nvs H' kvs ds := paired_mono h fun _ _ ⟨l, e, hl⟩ => ⟨l, e, s _ _ hl⟩
def countF (kb : BD) (ns : List Str) : List Row := (List.range (manyR (knF kb) ns.reverse)).map (digR (knF kb) ns.reverse)
theorem rev_get {ns : List Str} {j : Nat} {x : V} (h : (ns.map V.str)[(ns.map V.str).length - 1 - j]? = some x) (hj : j < ns.length) : ∃ n, x = .str n ∧ ns.reverse[j]? = some n ∧ n ∈ ns := by
  rw [List.length_map, List.getElem?_map] at h
  obtain ⟨n, en, ex⟩ := Option.map_eq_some_iff.mp h
  refine ⟨n, ex.symm, ?_, List.mem_of_getElem? en⟩
  rw [List.getElem?_reverse hj]
  exact en
theorem drop_get {α : Type} {l : List α} {i : Nat} {x : α} (h : l[i]? = some x) : l.drop i = x :: l.drop (i + 1) := by
  obtain ⟨hi, rfl⟩ := List.getElem?_eq_some_iff.mp h
  exact List.drop_eq_getElem_cons hi
section
variable {P : Program} {w : World} {K : PySem.W.Frag} {mg : Str → Option Value} {base : Heap}
/-! ### count -/
abbrev NCo : List Str := ["_law_features_here", "_law_names_here", "_law_known", "_law_name", "_law_rows", "_law_many", "_law_number", "_law_row", "_law_place", "_law_values", "_law_told"]
def spCount : Sp := fun vs H Q _ => ∃ (fl nl : Addr) (ys : List V) (ds : List FtD) (ns : List Str), vs = [.ref fl, .ref nl] ∧ H fl = some (.lst ys) ∧ Fts H ys ds ∧ ds.length ≤ 6 ∧ H nl = some (.lst (ns.map V.str)) ∧ ns.length ≤ 6 ∧ (∀ n ∈ ns, n ∈ ds.map (·.n)) ∧
  ∀ r H', H r = none → Same H H' → RwsAt H' r (countF (knownF ds) ns) → Q (.ref r) H'
theorem ok_count {f : Addr} {fd : FuncData} {k : Nat} (F : Fun K "_law_count" "_law_count" s_l_count f fd) (ml : mg "len" = none) (md : mg "dict" = none) (mr : mg "range" = none) (mrv : mg "reversed" = none) (mdv : mg "divmod" = none) : FnOk P w K mg base CX0 (k + 1) f fd ["_law_features_here", "_law_names_here"] spCount := by
  refine F.ok sc_l_count (fun vs H Q E h => ?_) (fun cdv A outer s H vs Q E hr h => ?_)
  · obtain ⟨fl, nl, ys, ds, ns, rfl, _⟩ := h
    rfl
  · obtain ⟨fl, nl, ys, ds, ns, rfl, hfl, hF, hdl, hnl, hnn, hnm, q⟩ := h
    have hlen : ys.length = ds.length := Paired.length hF
    have hFB : FtsB ds := hF.b (by omega)
    refine ⟨_, pss_cons (ps_set (i := 2) sc_l_count.nd rfl (.inl rfl) (pe_callTy (call_dictP rfl) (by rfl) md (by decide +kernel) (pa_cons (pe_lc (own := [("_law_name", 3), ("_law_values", 9), ("_law_told", 10)]) (tt := tYes) rfl sc_l_count.nd (pi_list (pv 0))
          (blkOk_by (own := [("_law_name", 3), ("_law_values", 9), ("_law_told", 10)]) (N := NCo) (sc := defScope s_l_count) (by decide +kernel))
          (fun _ _ _ _ _ => pg_tupK (K := K) (n := 3) rfl (pg_tup (n := 3) rfl (pgs_cons (pg_name (i := 3) sc_l_count.nd rfl (Or.inl rfl)) (pgs_cons (pg_name (i := 9) sc_l_count.nd rfl (Or.inl rfl)) (pgs_cons (pg_name (i := 10) sc_l_count.nd rfl (Or.inl rfl)) pgs_nil))))) (fun _ _ _ _ _ => pts_nil)
          (fun _ _ _ _ _ => pe_tup (pa_cons (pv 3) (pa_cons (pv 9) pa_nil)))) pa_nil)))
      (pss_cons (ps_set (i := 4) sc_l_count.nd rfl (.inl rfl) (pe_lst pa_nil))
      (pss_cons (ps_set (i := 5) sc_l_count.nd rfl (.inl rfl) pe_int)
      (C8.pss_cut (ps_for PassesOwn.never rfl (pi_list (pv 1)) (pg_name (i := 3) sc_l_count.nd rfl (.inl rfl))
        (pss_one (ps_set (i := 5) sc_l_count.nd rfl (.inl rfl) (pe_op op_mul (pv 5) (pe_callB call_len_seq (by rfl) ml PySem.boot_len (pa_cons (pe_dget (hu_of hr) (pv 2) (pv 3) (fun _ _ => rfl)) pa_nil))))))
      (pss_cons (ps_for PassesOwn.never rfl (pi_range1 (by rfl) mr (pa_cons (pv 5) pa_nil)) (pg_name (i := 6) sc_l_count.nd rfl (.inl rfl))
        (pss_cons (ps_set (i := 7) sc_l_count.nd rfl (.inl rfl) (pe_tup pa_nil))
        (C8.pss_cut (ps_for PassesOwn.never rfl (pi_reversed (by rfl) mrv (pa_cons (pv 1) pa_nil)) (pg_name (i := 3) sc_l_count.nd rfl (.inl rfl))
          (pss_cons (ps_asg (pe_callB call_divmod (by rfl) mdv (by decide +kernel) (pa_cons (pv 6) (pa_cons (pe_callB call_len_seq (by rfl) ml PySem.boot_len (pa_cons (pe_dget (hu_of hr) (pv 2) (pv 3) (fun _ _ => rfl)) pa_nil)) pa_nil))) (pg_tup rfl (pgs_cons (pg_name (i := 6) sc_l_count.nd rfl (.inl rfl)) (pgs_cons (pg_name (i := 8) sc_l_count.nd rfl (.inl rfl)) pgs_nil))))
          (pss_one (ps_set (i := 7) sc_l_count.nd rfl (.inl rfl) (pe_op op_catT (pe_tup (pa_cons (pe_ix ix_list (pe_dget (hu_of hr) (pv 2) (pv 3) (fun _ _ => rfl)) (pv 8) (fun _ _ => rfl)) pa_nil)) (pv 7))))))
        (pss_one (ps_expr (pe_bm PySem.F.plainAttrs_list PySem.F.slot_list_append PySem.F.type_list_append mt_append (pv 4) (pa_cons (pv 7) pa_nil)))))))
      (pss_one (ps_ret (pv 4))))))), ?_⟩
    refine ⟨_, rfl, fl, rfl, ⟨_, .inl (.inl hfl)⟩, fun D nD => ?_⟩
    refine lc_it (walk_list (K := K) (a := fl) (xs := ys)) (fun i HX => Same H HX ∧ ∃ (ps : List Addr) (kvs : List (Key × V)), HX D = some (.lst (ps.map V.ref)) ∧ Paired (fun p kv => HX p = some (.tup [kV kv.1, kv.2])) ps kvs ∧ Nvs H kvs (ds.take i)) ⟨same_new nD, [], [], upd_same, .nil, .nil⟩ (fun i HX _ h => .inl (.inl (h.1 _ _ hfl))) (fun i x HX HX' hi hP hY => ?_) (fun HX hP => ?_)
    · obtain ⟨rfl, hx⟩ := hY
      obtain ⟨sX, ps, kvs, hD, hps, hN⟩ := hP
      obtain ⟨d, hdi, p, l, rfl, f1, f2, f3⟩ := paired_at hF hx
      refine ⟨p, _, rfl, .inl (.inl (sX _ _ f1)), rfl, _, _, rfl, _, _, rfl, _, _, rfl, rfl, ?_⟩
      refine ⟨rfl, tYes_in ⟨_, rfl, _, rfl, (show 2 ≤ sizeLine by decide), fun t nt => ?_⟩⟩
      have sT : Same HX' (upd HX' t (.tup [.str d.n, .ref l])) := same_new nt
      have ht : (upd HX' t (.tup [.str d.n, .ref l])) t = some (.tup [.str d.n, .ref l]) := upd_same
      generalize upd HX' t (.tup [.str d.n, .ref l]) = HT at sT ht ⊢
      have hDT := sT _ _ hD
      have hpl : ps.length = kvs.length := Paired.length hps
      have hkl : kvs.length = (ds.take i).length := Paired.length hN
      rw [List.length_take] at hkl
      refine ⟨_, hDT, by rw [List.length_map]; exact small1000 (by omega), Same.own (sX.trans sT) nD, ps ++ [t], kvs ++ [(.inr d.n, .ref l)], ?_, ?_, ?_⟩
      · rw [upd_same, List.map_append]
        rfl
      · refine paired_mono (paired_snoc (R := fun p (kv : Key × V) => HT p = some (.tup [kV kv.1, kv.2])) (paired_mono hps fun p kv e => sT _ _ e) (b := (.inr d.n, .ref l)) ht) fun p kv e => ?_
        rw [upd_ne (ne_of e hDT (by intro z; cases z))]
        exact e
      · rw [take_get hdi]
        exact paired_snoc hN ⟨l, rfl, f2⟩
    · obtain ⟨sX, ps, kvs, hD, hps, hN⟩ := hP
      rw [hlen, List.take_length] at hN
      refine ⟨D, ps, kvs, rfl, .inl (.inl hD), paired_mono hps fun p kv e => .inl (.inl e), fun kd nkd => ?_⟩
      have sK : Same HX (upd HX kd (.dK (mergeK [] kvs))) := same_new nkd
      have hkd : (upd HX kd (.dK (mergeK [] kvs))) kd = some (.dK (mergeK [] kvs)) := upd_same
      have hE0 : Ents H (mergeK [] kvs) (knownF ds) := Ents.merge hN .nil
      generalize upd HX kd (.dK (mergeK [] kvs)) = HK at sK hkd ⊢
      generalize mergeK [] kvs = km at hkd hE0
      refine ⟨Nat.zero_le _, fun rl nrl => ?_⟩
      have sR : Same HK (upd HK rl (.lst [])) := same_new nrl
      have hrl : (upd HK rl (.lst [])) rl = some (.lst []) := upd_same
      have nrH : H rl = none := sX.free (sK.free nrl)
      generalize upd HK rl (.lst []) = HR at sR hrl ⊢
      have sHR : Same H HR := (sX.trans sK).trans sR
      have hkR := sR _ _ hkd
      have nrk : kd ≠ rl := ne_of hkR hrl (by intro z; cases z)
      -- a name's list
      have look : ∀ n ∈ ns, ∃ l, valV km (.inr n) = some (.ref l) ∧ H l = some (.lst ((knF (knownF ds) n).map V.str)) ∧ 1 ≤ (knF (knownF ds) n).length ∧ (knF (knownF ds) n).length ≤ 6 := fun n hn => by
        rcases hE0.val n with ⟨z, _⟩ | ⟨l, vs, z1, z2, z3, _⟩
        · obtain ⟨d, hd, ed⟩ := List.mem_map.mp (hnm n hn)
          obtain ⟨vs, e⟩ := known_has hd
          have ed' : d.n = n := ed
          rw [ed', z] at e
          cases e
        · have hk : knF (knownF ds) n = vs := by
            unfold knF
            rw [z1]
            rfl
          refine ⟨l, z2, by rw [hk]; exact z3, ?_, knF_len hFB n⟩
          have z := knF_ne hFB (hnm n hn)
          exact List.length_pos_iff.mpr z
      have many6 : ∀ i, i ≤ ns.length → manyR (knF (knownF ds)) (ns.take i).reverse ≤ 46656 := fun i hi => by
        have z := manyR_size (knF (knownF ds)) (knF_len hFB) (ns.take i).reverse
        rw [List.length_reverse, List.length_take] at z
        exact Nat.le_trans z (Nat.le_trans (Nat.pow_le_pow_right (by decide) (show min i ns.length ≤ 6 by omega)) (by decide))
      refine ⟨fun σ HM => HM = HR ∧ ∃ (y3 y6 y7 y8 y9 y10 : Option V), σ = [some (.ref fl), some (.ref nl), some (.ref kd), y3, some (.ref rl), some (.int (manyR (knF (knownF ds)) ns.reverse : Nat)), y6, y7, y8, y9, y10], ?_, fun σ HM hM => ?_⟩
      · have hnlR := sHR _ _ hnl
        refine ⟨_, rfl, nl, rfl, ⟨_, .inl (.inl hnlR)⟩, for_list (K := K) (a := nl) (xs := ns.map V.str) (fun i σ HY => HY = HR ∧ ∃ (y3 y6 y7 y8 y9 y10 : Option V), σ = [some (.ref fl), some (.ref nl), some (.ref kd), y3, some (.ref rl), some (.int (manyR (knF (knownF ds)) (ns.take i).reverse : Nat)), y6, y7, y8, y9, y10]) ⟨rfl, _, _, _, _, _, _, rfl⟩ (fun i σ HY _ h => by rw [h.1]; exact .inl (.inl hnlR)) (fun i x σ HY hx hP => ?_) (fun σ HY hP => ?_)⟩
        · obtain ⟨rfl, y3, y6, y7, y8, y9, y10, rfl⟩ := hP
          rw [List.getElem?_map] at hx
          obtain ⟨n, en, ex⟩ := Option.map_eq_some_iff.mp hx
          subst ex
          obtain ⟨l, z2, z3, l1, l6⟩ := look n (List.mem_of_getElem? en)
          have hi : i < ns.length := (List.getElem?_eq_some_iff.mp en).1
          have m6 := many6 i (Nat.le_of_lt hi)
          refine ⟨_, rfl, _, rfl, _, rfl, kd, V.ref l, rfl, .inl ⟨km, .inr n, .inl hkR, rfl, z2.symm⟩, l, _, rfl, .inl (.inl (.inl (sHR _ _ z3))), _, _, rfl, rfl, .inl ⟨by omega, by omega⟩, rfl, ?_⟩
          have e : ((manyR (knF (knownF ds)) (ns.take i).reverse : Nat) : Int) * (((knF (knownF ds) n).map V.str).length : Nat) = ((manyR (knF (knownF ds)) (ns.take (i + 1)).reverse : Nat) : Int) := by
            rw [take_get en, List.reverse_append, List.length_map]
            show _ = ((manyR (knF (knownF ds)) (n :: (ns.take i).reverse) : Nat) : Int)
            rw [← Int.natCast_mul]
            rfl
          rw [← e]
          exact ⟨_, _, _, _, _, _, rfl⟩
        · obtain ⟨rfl, y3, y6, y7, y8, y9, y10, rfl⟩ := hP
          rw [List.length_map, List.take_length]
          exact ⟨rfl, _, _, _, _, _, _, rfl⟩
      · obtain ⟨rfl, y3, y6, y7, y8, y9, y10, rfl⟩ := hM
        have m6 := many6 ns.length (Nat.le_refl _)
        rw [List.take_length] at m6
        generalize hmany : manyR (knF (knownF ds)) ns.reverse = M at m6 ⊢
        refine ⟨_, rfl, ((M : Nat) : Int), rfl, by omega, by omega, ?_⟩
        rw [Int.toNat_natCast]
        refine for_it (walk_range (lo := 0) (n := M)) (fun i σ HY => (∃ (y3 y6 y7 y8 y9 y10 : Option V), σ = [some (.ref fl), some (.ref nl), some (.ref kd), y3, some (.ref rl), some (.int (M : Nat)), y6, y7, y8, y9, y10]) ∧ Same H HY ∧ HY kd = some (.dK km) ∧ ∃ ts : List Addr, HY rl = some (.lst (ts.map V.ref)) ∧ Tps HY ts ((List.range i).map (digR (knF (knownF ds)) ns.reverse)))
          ⟨⟨_, _, _, _, _, _, rfl⟩, sHR, hkR, [], hrl, .nil⟩ (fun _ _ _ _ _ => trivial) (fun i x σ HY HY' hi hP hY => ?_) (fun σ HY hP => ?_)
        · obtain ⟨rfl, rfl⟩ := hY
          obtain ⟨⟨y3, y6, y7, y8, y9, y10, rfl⟩, sY, hkY, ts, hrY, hts⟩ := hP
          refine ⟨Nat.zero_le _, fun t0 nt0 => ?_⟩
          have sA : Same HY' (upd HY' t0 (.tup [])) := same_new nt0
          have ht0 : (upd HY' t0 (.tup [])) t0 = some (.tup []) := upd_same
          generalize upd HY' t0 (.tup []) = HA at sA ht0 ⊢
          refine ⟨fun σ HM => Same HA HM ∧ ∃ (t : Addr) (y3 y6 y8 y9 y10 : Option V), σ = [some (.ref fl), some (.ref nl), some (.ref kd), y3, some (.ref rl), some (.int (M : Nat)), y6, some (.ref t), y8, y9, y10] ∧ HM t = some (.tup ((digR (knF (knownF ds)) ns.reverse i).map V.str)), ?_, fun σ HM hM => ?_⟩
          · have hnlA := sA _ _ (sY _ _ hnl)
            refine ⟨_, rfl, nl, _, rfl, .inl (.inl hnlA), ?_⟩
            refine for_it (walk_rev (K := K) (a := nl) (xs := ns.map V.str)) (fun j σ HZ => Same HA HZ ∧ ∃ (t : Addr) (k : Nat) (row : Row) (y3 y8 y9 y10 : Option V), σ = [some (.ref fl), some (.ref nl), some (.ref kd), y3, some (.ref rl), some (.int (M : Nat)), some (.int (k : Nat)), some (.ref t), y8, y9, y10] ∧ HZ t = some (.tup (row.map V.str)) ∧ row.length ≤ j ∧ digR (knF (knownF ds)) ns.reverse i = digR (knF (knownF ds)) (ns.reverse.drop j) k ++ row)
              ⟨Same.refl _, t0, i, [], y3, y8, y9, y10, congrArg (fun z => [some (V.ref fl), some (.ref nl), some (.ref kd), y3, some (.ref rl), some (.int (M : Nat)), some (V.int z), some (.ref t0), y8, y9, y10]) (Int.zero_add _), ht0, Nat.le_refl _, by rw [List.drop_zero, List.append_nil]⟩ (fun j σ HZ _ h => .inl (.inl (h.1 _ _ hnlA))) (fun j x σ HZ HZ' hj hP hY => ?_) (fun σ HZ hP => ?_)
            · obtain ⟨rfl, hx⟩ := hY
              obtain ⟨sZ, t, k', row, y3, y8, y9, y10, rfl, ht, hrl', hdig⟩ := hP
              rw [List.length_map] at hj
              obtain ⟨n, rfl, hnj, hnm'⟩ := rev_get hx hj
              obtain ⟨l, z2, z3, l1, l6⟩ := look n hnm'
              have hkZ := sZ _ _ (sA _ _ hkY)
              have hlZ := sZ _ _ (sA _ _ (sY _ _ z3))
              refine ⟨_, rfl, _, rfl, _, rfl, kd, V.ref l, rfl, .inl ⟨km, .inr n, .inl hkZ, rfl, z2.symm⟩, l, _, rfl, .inl (.inl (.inl hlZ)), _, _, rfl, ⟨by rw [List.length_map]; omega, by rw [List.length_map]; omega⟩, fun pd npd => ?_⟩
              have sP : Same HZ' (upd HZ' pd (.tup [.int ((k' : Nat) / (((knF (knownF ds) n).map V.str).length : Nat)), .int ((k' : Nat) % (((knF (knownF ds) n).map V.str).length : Nat))])) := same_new npd
              have hpd : (upd HZ' pd (.tup [.int ((k' : Nat) / (((knF (knownF ds) n).map V.str).length : Nat)), .int ((k' : Nat) % (((knF (knownF ds) n).map V.str).length : Nat))])) pd = some (.tup [.int ((k' : Nat) / (((knF (knownF ds) n).map V.str).length : Nat)), .int ((k' : Nat) % (((knF (knownF ds) n).map V.str).length : Nat))]) := upd_same
              generalize upd HZ' pd (.tup [.int ((k' : Nat) / (((knF (knownF ds) n).map V.str).length : Nat)), .int ((k' : Nat) % (((knF (knownF ds) n).map V.str).length : Nat))]) = HP at sP hpd ⊢
              rw [List.length_map] at hpd
              have hkP := sP _ _ hkZ
              have hlP := sP _ _ hlZ
              have hlt : k' % (knF (knownF ds) n).length < (knF (knownF ds) n).length := Nat.mod_lt _ l1
              have hget : ((knF (knownF ds) n).map V.str)[k' % (knF (knownF ds) n).length]? = some (V.str ((knF (knownF ds) n).getD (k' % (knF (knownF ds) n).length) "")) := by
                rw [List.getElem?_map, List.getElem?_eq_getElem hlt, List.getD_eq_getElem?_getD, List.getElem?_eq_getElem hlt]
                rfl
              refine ⟨pd, _, rfl, .inl (.inl hpd), rfl, _, _, rfl, _, _, rfl, rfl, ?_⟩
              refine ⟨_, rfl, _, rfl, kd, V.ref l, rfl, .inl ⟨km, .inr n, .inl hkP, rfl, z2.symm⟩, _, rfl, l, _, _, _, rfl, rfl, .inl (.inl hlP), at_of (j := k' % (knF (knownF ds) n).length) (by rfl) hget, (show 1 ≤ sizeLine by decide), fun pt npt => ?_⟩
              have sQ : Same HP (upd HP pt (.tup [V.str ((knF (knownF ds) n).getD (k' % (knF (knownF ds) n).length) "")])) := same_new npt
              have hpt : (upd HP pt (.tup [V.str ((knF (knownF ds) n).getD (k' % (knF (knownF ds) n).length) "")])) pt = some (.tup [V.str ((knF (knownF ds) n).getD (k' % (knF (knownF ds) n).length) "")]) := upd_same
              generalize upd HP pt (.tup [V.str ((knF (knownF ds) n).getD (k' % (knF (knownF ds) n).length) "")]) = HQ at sQ hpt ⊢
              have sZQ := (sZ.trans sP).trans sQ
              have htQ := sQ _ _ (sP _ _ ht)
              have next : digR (knF (knownF ds)) ns.reverse i = digR (knF (knownF ds)) (ns.reverse.drop (j + 1)) (k' / (knF (knownF ds) n).length) ++ ((knF (knownF ds) n).getD (k' % (knF (knownF ds) n).length) "" :: row) := by
                rw [hdig, drop_get hnj]
                show (digR _ _ _ ++ [_]) ++ row = _
                rw [List.append_assoc]
                rfl
              refine ⟨_, rfl, pt, t, _, _, rfl, rfl, .inl (.inl hpt), .inl (.inl htQ), (fun z => by cases z), ?_, fun e => ?_, fun e pn npn => ?_⟩
              · rw [List.length_map]
                exact line1000 (by show 1 + row.length ≤ 1000; omega)
              · refine ⟨sZQ, pt, k' / (knF (knownF ds) n).length, _ :: row, _, _, _, _, rfl, ?_, by rw [List.length_cons]; omega, next⟩
                have e' : row = [] := List.map_eq_nil_iff.mp e
                rw [e']
                exact hpt
              · refine ⟨sZQ.trans (same_new npn), pn, k' / (knF (knownF ds) n).length, _ :: row, _, _, _, _, rfl, ?_, by rw [List.length_cons]; omega, next⟩
                rw [upd_same]
                rfl
            · obtain ⟨sZ, t, k', row, y3, y8, y9, y10, rfl, ht, hrl', hdig⟩ := hP
              rw [List.length_map, List.drop_eq_nil_of_le (by rw [List.length_reverse]; exact Nat.le_refl _)] at hdig
              refine ⟨sZ, t, _, _, _, _, _, rfl, ?_⟩
              rw [hdig]
              exact ht
          · obtain ⟨sM, t, y3, y6, y8, y9, y10, rfl, ht⟩ := hM
            have hrM := sM _ _ (sA _ _ hrY)
            have htl : ts.length = i := by
              have z := Paired.length hts
              rw [List.length_map, List.length_range] at z
              exact z
            refine ⟨_, rfl, .inl ⟨rfl, _, .inl (.inl hrM)⟩, _, rfl, rl, _, _, rfl, rfl, hrM, ?_, ⟨_, _, _, _, _, _, rfl⟩, Same.own ((sY.trans sA).trans sM) nrH, ?_, ts ++ [t], ?_, ?_⟩
            · rw [List.length_map, htl]
              exact Nat.lt_of_lt_of_le hi (Nat.le_trans m6 (by decide))
            · rw [upd_ne nrk]
              exact sM _ _ (sA _ _ hkY)
            · rw [upd_same, List.map_append]
              rfl
            · rw [List.range_succ, List.map_append]
              exact Tps.updL (paired_snoc ((hts.same sA).same sM) ht) hrM
        · obtain ⟨⟨y3, y6, y7, y8, y9, y10, rfl⟩, sY, hkY, ts, hrY, hts⟩ := hP
          refine ⟨_, rfl, q rl HY nrH sY ⟨ts, hrY, ?_⟩⟩
          unfold countF
          rw [hmany]
          exact hts
end
end Bn

namespace Bn
open PySem PySem.Spec PyProof.Rows L2 BR GX RM
theorem op_notInK {X : Cx} {K : PySem.W.Frag} (e : X.K = K) : OpR X (compareOp .NotIn) (rIn K true) := by
  subst e
  exact op_notIn_seq
theorem inF_filter (xs ys : List Str) : inF xs ys = (xs.filter fun x => decide (x ∉ ys)).isEmpty := by
  unfold inF
  rw [Bool.eq_iff_iff, List.all_eq_true, List.isEmpty_iff, List.filter_eq_nil_iff]
  constructor
  · intro h x hx
    have := of_decide_eq_true (h x hx)
    rw [decide_eq_false (fun z => z this)]
    decide
  · intro h x hx
    have := h x hx
    by_cases c : x ∈ ys
    · exact decide_eq_true c
    · exact absurd (decide_eq_true c) this
def dueF (kb : BD) (ns : List Str) (b : BD) : List Row := if inF (b.map (·.1)) ns = true then (countF kb ns).filter (okRow b ns) else []
theorem due_choices {kb : BD} {ns : List Str} {b : BD} (h : ∀ n ∈ ns, knF kb n ≠ []) : dueF kb ns b = choicesF kb ns b := by
  unfold dueF
  by_cases c : inF (b.map (·.1)) ns = true
  · rw [if_pos c, choices_count h c]
    rfl
  · rw [if_neg c]
    unfold choicesF
    rw [if_neg c]
theorem all_id {α : Type} (f : α → Bool) : ∀ l : List α, (l.map f).all id = l.all f
  | [] => rfl
  | x :: l => by rw [List.map_cons, List.all_cons, List.all_cons, all_id f l]; rfl
theorem zip_get {ns : List Str} {r : Row} {j : Nat} {n v : Str} (h1 : ns[j]? = some n) (h2 : r[j]? = some v) : (ns.zip r)[j]? = some (n, v) := by
  rw [List.getElem?_zip_eq_some]
  exact ⟨h1, h2⟩
section
variable {P : Program} {w : World} {K : PySem.W.Frag} {mg : Str → Option Value} {base : Heap}
/-! ### due -/
abbrev ND : List Str := ["_law_features_here", "_law_names_here", "_law_bundle_here", "_law_rows", "_law_row", "_law_name", "_law_value"]
def spDue : Sp := fun vs H Q _ => ∃ (fl nl bl : Addr) (ys : List V) (ds : List FtD) (ns : List Str) (b : BD), vs = [.ref fl, .ref nl, .ref bl] ∧ H fl = some (.lst ys) ∧ Fts H ys ds ∧ ds.length ≤ 6 ∧ H nl = some (.lst (ns.map V.str)) ∧ ns.length ≤ 6 ∧ (∀ n ∈ ns, n ∈ ds.map (·.n)) ∧ Bd H bl b ∧
  ∀ r H', H r = none → Same H H' → RwsAt H' r (choicesF (knownF ds) ns b) → Q (.ref r) H'
theorem ok_due {f fC : Addr} {fd fdC : FuncData} (F : Fun K "_law_due" "_law_due" s_l_due f fd)
    (kC : PySem.W.keepIn K (.ref fC) = true) (bC : Binds K fdC ["_law_features_here", "_law_names_here"] []) (gC : mg "_law_count" = some (.ref fC)) (GC : FnOk P w K mg base CX0 1 fC fdC ["_law_features_here", "_law_names_here"] spCount)
    (mal : mg "all" = none) (mz : mg "zip" = none) : FnOk P w K mg base CX0 2 f fd ["_law_features_here", "_law_names_here", "_law_bundle_here"] spDue := by
  refine F.ok sc_l_due (fun vs H Q E h => ?_) (fun cdv A outer s H vs Q E hr h => ?_)
  · obtain ⟨fl, nl, bl, ys, ds, ns, b, rfl, _⟩ := h
    rfl
  · obtain ⟨fl, nl, bl, ys, ds, ns, b, rfl, hfl, hF, hdl, hnl, hnn, hnm, hB, q⟩ := h
    have hlen : ys.length = ds.length := Paired.length hF
    have hFB : FtsB ds := hF.b (by omega)
    have hne : ∀ n ∈ ns, knF (knownF ds) n ≠ [] := fun n hn => knF_ne hFB (hnm n hn)
    rw [← due_choices hne] at q
    have hcp : countF (knownF ds) ns = prodR (knF (knownF ds)) ns.reverse := count_prod _ _ fun n hn => hne n (List.mem_reverse.mp hn)
    obtain ⟨kb, hb, hEb, hNb, hLb, hBb⟩ := hB
    refine ⟨_, pss_cons (ps_if (pt_cmpR (op_neD hr.units) (pe_lock (pe_lc (own := [("_law_name", 5)]) (g := gName 5) rfl sc_l_due.nd (pi_keys (pv 2))
          (blkOk_by (own := [("_law_name", 5)]) (N := ND) (sc := defScope s_l_due) (by decide +kernel))
          (fun _ _ _ _ _ => pg_name (i := 5) sc_l_due.nd rfl (Or.inl rfl)) (fun _ _ _ _ _ => pts_one (pt_cmpR (op_notInK (K := K) rfl) (pv 5) (pv 1) (by rfl))) (fun _ _ _ _ _ => pv 5))) (pe_lst pa_nil) (nomark _))
        (pss_one (ps_ret (pe_lst pa_nil))) pss_nil)
      (pss_cons (ps_set (i := 3) sc_l_due.nd rfl (.inl rfl) (pe_lst pa_nil))
      (pss_cons (ps_for PassesOwn.never rfl (pi_list (pe_call GC hr (by rfl) gC kC bC .nil pass0 (pa_cons (pv 0) (pa_cons (pv 1) pa_nil)))) (pg_name (i := 4) sc_l_due.nd rfl (.inl rfl))
        (pss_one (ps_if (pt_val (pe_callB (cr_all rfl) (by rfl) mal (by decide +kernel) (pa_cons (pe_lc (own := [("_law_name", 5), ("_law_value", 6)]) (tt := tYes) rfl sc_l_due.nd (pi_zipM (by rfl) mz (pa_cons (pv 1) (pa_cons (pv 4) pa_nil)))
            (blkOk_by (own := [("_law_name", 5), ("_law_value", 6)]) (N := ND) (sc := defScope s_l_due) (by decide +kernel))
            (fun _ _ _ _ _ => pg_tupK (K := K) (n := 2) rfl (pg_tup (n := 2) rfl (pgs_cons (pg_name (i := 5) sc_l_due.nd rfl (Or.inl rfl)) (pgs_cons (pg_name (i := 6) sc_l_due.nd rfl (Or.inl rfl)) pgs_nil)))) (fun _ _ _ _ _ => pts_nil)
            (fun _ _ _ _ _ => pe_or (pe_cmp (pc_dnotin (hu_of hr) (pv 5) (pv 2))) (pe_one (pe_cmpR (op_inK (K := K) rfl) (pv 6) (pe_dget (hu_of hr) (pv 2) (pv 5) (fun _ _ => rfl)) (by rfl))))) pa_nil)))
          (pss_one (ps_expr (pe_bm PySem.F.plainAttrs_list PySem.F.slot_list_append PySem.F.type_list_append mt_append (pv 3) (pa_cons (pv 4) pa_nil)))) pss_nil)))
      (pss_one (ps_ret (pv 3))))), ?_⟩
    refine ⟨bl, _, hb, trivial, fun od => ⟨_, rfl, bl, od, rfl, .inl ⟨kb, upd_same, fun D nD => ?_⟩⟩⟩
    have hbL : (upd H bl (.frz od (.dK kb))) bl = some (.frz od (.dK kb)) := upd_same
    have hnL : (upd H bl (.frz od (.dK kb))) nl = some (.lst (ns.map V.str)) := by
      rw [upd_ne (ne_of hnl hb (by intro z; cases z))]
      exact hnl
    have hkl := hEb.length
    refine lc_it (walk_keys (d := bl) (o := od) (kvs := kb)) (fun i HX => Same (upd H bl (.frz od (.dK kb))) HX ∧ HX D = some (.lst ((((b.map (·.1)).take i).filter fun x => decide (x ∉ ns)).map V.str))) ⟨same_new nD, upd_same⟩ (fun i HX _ h => h.1 _ _ hbL) (fun i x HX HX' hi hP hY => ?_) (fun HX hP => ?_)
    · obtain ⟨rfl, kk, v0, hkv, rfl⟩ := hY
      obtain ⟨sX, hD⟩ := hP
      obtain ⟨n, la, va, rfl, rfl, hla, hbi⟩ := hEb.get hkv
      have hni : (b.map (·.1))[i]? = some n := by
        rw [List.getElem?_map, hbi]
        rfl
      refine ⟨rfl, _, rfl, _, rfl, nl, _, rfl, .inl (.inl (.inl (sX _ _ hnL))), rfl, flat_strs ns, _, rfl, ite2 (fun e => ?_) (fun e => ?_)⟩
      · have e' : (!inV (V.str n) (ns.map V.str)) = true := e
        rw [inV_str] at e'
        have no : n ∉ ns := fun z => by
          rw [decide_eq_true z] at e'
          cases e'
        refine ⟨_, rfl, _, hD, ?_, Same.own sX nD, ?_⟩
        · rw [List.length_map]
          refine small1000 (Nat.le_trans (List.length_filter_le _ _) ?_)
          rw [List.length_take, List.length_map]
          omega
        · rw [upd_same, filter_snoc hni, if_pos (decide_eq_true no), List.map_append]
          rfl
      · have e' : ¬ (!inV (V.str n) (ns.map V.str)) = true := e
        rw [inV_str] at e'
        have yes : n ∈ ns := by
          by_cases z : n ∈ ns
          · exact z
          · rw [decide_eq_false z] at e'
            exact absurd rfl e'
        refine ⟨sX, ?_⟩
        rw [filter_snoc hni, if_neg (by rw [decide_eq_false (fun z => z yes)]; decide), List.append_nil]
        exact hD
    · obtain ⟨sX, hD⟩ := hP
      have hl2 : kb.length = (b.map (·.1)).length := by rw [List.length_map, hkl]
      rw [hl2, List.take_length] at hD
      have hbX := sX _ _ hbL
      have sU : Same H (upd HX bl (.dK kb)) := Same.unlock hb sX
      have hDU : (upd HX bl (.dK kb)) D = some (.lst (((b.map (·.1)).filter fun x => decide (x ∉ ns)).map V.str)) := by
        rw [upd_ne (ne_of hD hbX (by intro z; cases z))]
        exact hD
      refine ⟨hbX, ?_⟩
      generalize upd HX bl (.dK kb) = HU at sU hDU ⊢
      refine ⟨Nat.zero_le _, fun p1 np1 => ?_⟩
      have sm : Same HU (upd HU p1 (.lst [])) := same_new np1
      have okx : ∀ x ∈ ((b.map (·.1)).filter fun x => decide (x ∉ ns)), okS x := fun x hx => by
        obtain ⟨e, he, rfl⟩ := List.mem_map.mp (List.mem_filter.mp hx).1
        exact (hBb e he).1
      refine ⟨_, _, .lst (.inl (.inl (sm _ _ hDU))) (strs_dp _), .lst (.inl (.inl upd_same)) .nil, strs_list_shaped okx, rfl, _, rfl, ?_⟩
      rw [strs_nil, ← inF_filter]
      have sA : Same H (upd HU p1 (.lst [])) := sU.trans sm
      generalize upd HU p1 (.lst []) = HA at sA ⊢
      cases hin : inF (b.map (·.1)) ns with
      | false =>
        refine iteT ⟨Nat.zero_le _, fun r nr => q r _ (sA.free nr) (sA.trans (same_new nr)) ?_⟩
        have e : dueF (knownF ds) ns b = [] := by
          unfold dueF
          rw [if_neg (by rw [hin]; decide)]
        rw [e]
        exact ⟨[], upd_same, .nil⟩
      | true =>
        refine iteF ⟨Nat.zero_le _, fun r nr => ?_⟩
        have sR : Same HA (upd HA r (.lst [])) := same_new nr
        have hr0 : (upd HA r (.lst [])) r = some (.lst []) := upd_same
        have nrH : H r = none := sA.free nr
        generalize upd HA r (.lst []) = HR at sR hr0 ⊢
        have sHR := sA.trans sR
        refine ⟨_, rfl, _, rfl, fl, nl, ys, ds, ns, rfl, sHR _ _ hfl, hF.same sHR, hdl, sHR _ _ hnl, hnn, hnm, fun c HC nc sC ⟨ts, hc, hts⟩ => ?_⟩
        have hrC : HC r = some (.lst []) := sC _ _ hr0
        have ncr : c ≠ r := fun z => by
          rw [z, hr0] at nc
          cases nc
        have sHC := sHR.trans sC
        have htl : ts.length = (countF (knownF ds) ns).length := Paired.length hts
        have hcl : (countF (knownF ds) ns).length ≤ 46656 := by
          rw [hcp]
          refine Nat.le_trans (prodR_size _ (knF_len hFB) _) ?_
          rw [List.length_reverse]
          exact Nat.le_trans (Nat.pow_le_pow_right (by decide) hnn) (by decide)
        refine ⟨c, rfl, ⟨_, .inl (.inl hc)⟩, for_list (K := K) (a := c) (xs := ts.map V.ref) (fun i σ HY => (∃ (y4 y5 y6 : Option V), σ = [some (.ref fl), some (.ref nl), some (.ref bl), some (.ref r), y4, y5, y6]) ∧ Same H HY ∧ HY c = some (.lst (ts.map V.ref)) ∧ Tps HY ts (countF (knownF ds) ns) ∧ ∃ us : List Addr, HY r = some (.lst (us.map V.ref)) ∧ Tps HY us (((countF (knownF ds) ns).take i).filter (okRow b ns)))
          ⟨⟨_, _, _, rfl⟩, sHC, hc, hts, [], hrC, .nil⟩ (fun i σ HY _ h => .inl (.inl h.2.2.1)) (fun i x σ HY hx hP => ?_) (fun σ HY hP => ?_)⟩
        · obtain ⟨⟨y4, y5, y6, rfl⟩, sY, hcY, htsY, us, hrY, hus⟩ := hP
          rw [List.getElem?_map] at hx
          obtain ⟨t, et, ex⟩ := Option.map_eq_some_iff.mp hx
          subst ex
          obtain ⟨row, hrow, ht⟩ := paired_at htsY et
          have hrl : row.length = ns.length := by
            have hm := List.mem_of_getElem? hrow
            rw [hcp] at hm
            rw [prodR_len _ _ _ hm, List.length_reverse]
          have hi : i < (countF (knownF ds) ns).length := (List.getElem?_eq_some_iff.mp hrow).1
          refine ⟨_, rfl, _, rfl, nl, t, ns.map V.str, row.map V.str, rfl, .inl (.inl (sY _ _ hnl)), .inl (.inl ht), fun D2 nD2 => ?_⟩
          refine lc_it (walk_zipM (K := K) (a := nl) (b := t) (xs := ns.map V.str) (ys := row.map V.str) (by rw [List.length_map, List.length_map, hrl])) (fun j HZ => Same HY HZ ∧ HZ D2 = some (.lst ((((ns.zip row).take j).map fun e => okB b e.1 e.2).map V.bl))) ⟨same_new nD2, upd_same⟩ (fun j HZ _ h => ⟨.inl (.inl (h.1 _ _ (sY _ _ hnl))), .inl (.inl (h.1 _ _ ht))⟩) (fun j x HZ HZ' hj hP hY => ?_) (fun HZ hP => ?_)
          · obtain ⟨T, x1, x2, rfl, nT, rfl, g1, g2⟩ := hY
            obtain ⟨sZ, hD2⟩ := hP
            have g1' : (ns.map V.str)[j]? = some x1 := g1
            have g2' : (row.map V.str)[j]? = some x2 := g2
            rw [List.getElem?_map] at g1' g2'
            obtain ⟨n, en, rfl⟩ := Option.map_eq_some_iff.mp g1'
            obtain ⟨v, ev, rfl⟩ := Option.map_eq_some_iff.mp g2'
            have sT : Same HZ (upd HZ T (.tup [.str n, .str v])) := same_new nT
            have hT : (upd HZ T (.tup [.str n, .str v])) T = some (.tup [.str n, .str v]) := upd_same
            generalize upd HZ T (.tup [.str n, .str v]) = HT at sT hT ⊢
            have sYT := sZ.trans sT
            have hD3 := sT _ _ hD2
            have few : ((((ns.zip row).take j).map fun e => okB b e.1 e.2).map V.bl).length < sizeLine := by
              rw [List.length_map, List.length_map, List.length_take, List.length_zip]
              exact small1000 (by omega)
            have put : ∀ {k : Bool}, okB b n v = k → Same HY (upd HT D2 (.lst ((((ns.zip row).take j).map fun e => okB b e.1 e.2).map V.bl ++ [V.bl k]))) ∧ (upd HT D2 (.lst ((((ns.zip row).take j).map fun e => okB b e.1 e.2).map V.bl ++ [V.bl k]))) D2 = some (.lst ((((ns.zip row).take (j + 1)).map fun e => okB b e.1 e.2).map V.bl)) := fun {k} e => ⟨Same.own sYT nD2, by
              rw [upd_same, take_get (zip_get en ev), List.map_append, List.map_append, ← e]
              rfl⟩
            have hbT := sYT _ _ (sY _ _ hb)
            refine ⟨T, _, rfl, .inl (.inl hT), rfl, _, _, rfl, _, _, rfl, rfl, rfl, tYes_in ?_⟩
            refine ⟨_, rfl, _, rfl, bl, _, rfl, .inl ⟨kb, .inr n, .inl hbT, rfl, rfl⟩, _, rfl, ?_⟩
            rcases hEb.val n with ⟨a1, a2⟩ | ⟨la, va, a1, a2, a3, _⟩
            · rw [a2]
              have ok1 : okB b n v = true := by
                unfold okB
                rw [a1]
              exact iteT ⟨_, hD3, few, put ok1⟩
            · rw [a2]
              have ok1 : okB b n v = decide (v ∈ va) := by
                unfold okB
                rw [a1]
              refine iteF ⟨_, rfl, _, rfl, _, rfl, bl, V.ref la, rfl, .inl ⟨kb, .inr n, .inl hbT, rfl, a2.symm⟩, la, _, rfl, .inl (.inl (.inl (sYT _ _ (sY _ _ a3)))), rfl, flat_strs va, ?_⟩
              refine ⟨_, hD3, few, put ?_⟩
              show okB b n v = inV (V.str v) (va.map V.str)
              rw [inV_str, ok1]
          · obtain ⟨sZ, hD2⟩ := hP
            have hzl : (ns.map V.str).length = (ns.zip row).length := by
              rw [List.length_map, List.length_zip]
              omega
            rw [hzl, List.take_length] at hD2
            refine ⟨D2, _, rfl, .inl (.inl hD2), _, rfl, ?_⟩
            have hrZ := sZ _ _ hrY
            have eR : (((ns.zip row).map fun e => okB b e.1 e.2).all id) = okRow b ns row := all_id _ _
            rw [eR]
            cases ok : okRow b ns row with
            | true =>
              have hul : us.length ≤ 46656 := by
                rw [Paired.length hus]
                refine Nat.le_trans (List.length_filter_le _ _) ?_
                rw [List.length_take]
                omega
              refine iteT ⟨_, rfl, .inl ⟨rfl, _, .inl (.inl hrZ)⟩, _, rfl, r, _, _, rfl, rfl, hrZ, by rw [List.length_map]; exact Nat.lt_of_le_of_lt hul (by decide), ⟨_, _, _, rfl⟩, Same.own (sY.trans sZ) nrH, ?_, Tps.updL (htsY.same sZ) hrZ, us ++ [t], ?_, ?_⟩
              · rw [upd_ne ncr]
                exact sZ _ _ hcY
              · rw [upd_same, List.map_append]
                rfl
              · rw [filter_snoc hrow, if_pos ok]
                exact Tps.updL (paired_snoc (hus.same sZ) (sZ _ _ ht)) hrZ
            | false =>
              refine iteF ⟨⟨_, _, _, rfl⟩, sY.trans sZ, sZ _ _ hcY, htsY.same sZ, us, hrZ, ?_⟩
              rw [filter_snoc hrow, if_neg (by rw [ok]; decide), List.append_nil]
              exact hus.same sZ
        · obtain ⟨⟨y4, y5, y6, rfl⟩, sY, hcY, htsY, us, hrY, hus⟩ := hP
          rw [List.length_map, htl, List.take_length] at hus
          refine ⟨_, rfl, q r HY nrH sY ?_⟩
          have e : dueF (knownF ds) ns b = (countF (knownF ds) ns).filter (okRow b ns) := by
            unfold dueF
            rw [if_pos hin]
          rw [e]
          exact ⟨us, hrY, hus⟩
end
end Bn

namespace Bn
open PySem PySem.Spec PyProof.Rows L2 BR GX RM
theorem at?_get {b : BD} (hn : (b.map (·.1)).Nodup) : ∀ {i : Nat} {n : Str} {vs : List Str}, b[i]? = some (n, vs) → at? b n = some vs := by
  induction b with
  | nil => intro i n vs h; simp at h
  | cons e b ih =>
    intro i n vs h
    obtain ⟨h1, h2⟩ := List.nodup_cons.mp hn
    cases i with
    | zero =>
      have e' := Option.some.inj h
      subst e'
      rw [at?_cons, if_pos rfl]
    | succ j =>
      have h' : b[j]? = some (n, vs) := h
      rw [at?_cons, if_neg, ih h2 h']
      intro z
      exact h1 (List.mem_map.mpr ⟨(n, vs), List.mem_of_getElem? h', z.symm⟩)
theorem eq_strsN {K : PySem.W.Frag} {H : Hp} {m : Nat} : ∀ vs : List Str, Paired (EqV K H (m + 1)) (vs.map V.str) (vs.map V.str)
  | [] => .nil
  | v :: vs => .cons (.inl ⟨rfl, rfl⟩) (eq_strsN vs)
theorem eq_bundlesN {K : PySem.W.Frag} {H : Hp} {m : Nat} {p r : Addr} {b : BD} (hp : Bd H p b) (hr : Bd H r b) : EqV K H (m + 3) (.ref p) (.ref r) := by
  obtain ⟨kp, e1, ep, hB⟩ := hp
  obtain ⟨kr, e2, er, _⟩ := hr
  refine .inr (.inr (.inr ⟨p, r, kp, kr, rfl, rfl, e1, e2, by rw [ep.length, er.length], fun q hq => ?_⟩))
  obtain ⟨i, hi⟩ := List.getElem?_of_mem hq
  obtain ⟨n, l, vs, z1, z2, z3, z4⟩ := ep.get (k := q.1) (v := q.2) hi
  have ha := at?_get hB.1 z4
  rcases er.val n with ⟨z, _⟩ | ⟨l', vs', y1, y2, y3, _⟩
  · rw [ha] at z
    cases z
  · rw [ha] at y1
    have y4 := Option.some.inj y1
    subst y4
    exact ⟨.ref l', by rw [z1]; exact y2, by rw [z2]; exact .inr (.inr (.inl ⟨l, l', _, _, rfl, rfl, .inl (.inl z3), .inl (.inl y3), eq_strsN vs⟩))⟩
/-! ### data -/
def ftDat (d : FtD) : PyData := .tuple [.str d.n, .list (d.vs.map PyData.str), .bool d.t]
theorem FtAt.dp {K : PySem.W.Frag} {H : Hp} {v : V} {d : FtD} (h : FtAt H v d) : Dp K H v (ftDat d) := by
  obtain ⟨p, l, rfl, h1, h2, _⟩ := h
  exact .tup (.inl (.inl h1)) (.cons (.str _) (.cons (.lst (.inl (.inl h2)) (strs_dp _)) (.cons (.bl _) .nil)))
theorem Fts.dp {K : PySem.W.Frag} {H : Hp} {ys : List V} {ds : List FtD} (h : Fts H ys ds) : DpAll K H ys (ds.map ftDat) := by
  induction h with
  | nil => exact .nil
  | cons r _ ih => exact .cons r.dp ih
theorem fts_can : ∀ ds : List FtD, (∀ d ∈ ds, FtB d) → PyData.canLayAll0 (ds.map ftDat) = true ∧ PyData.depthAll (ds.map ftDat) ≤ 2
  | [], _ => ⟨rfl, Nat.zero_le _⟩
  | d :: ds, h => by
    obtain ⟨a, b⟩ := fts_can ds fun x hx => h x (List.mem_cons_of_mem _ hx)
    obtain ⟨_, _, h3, h4⟩ := h d (List.mem_cons_self ..)
    obtain ⟨c, e⟩ := strs_shaped d.vs h4
    refine ⟨?_, ?_⟩
    · show ((PyData.strOk d.n && (PyData.canLayAll0 (d.vs.map PyData.str) && (true && true))) && PyData.canLayAll0 (ds.map ftDat)) = true
      rw [a, c, (okS_iff d.n).mpr h3]
      rfl
    · show max (max 0 (max (PyData.depthAll (d.vs.map PyData.str) + 1) (max 0 0)) + 1) (PyData.depthAll (ds.map ftDat)) ≤ 2
      rw [e]
      omega
def rowDat (r : Row) : PyData := .tuple (r.map PyData.str)
theorem Tps.dp {K : PySem.W.Frag} {H : Hp} {ts : List Addr} {rows : List Row} (h : Tps H ts rows) : DpAll K H (ts.map V.ref) (rows.map rowDat) := by
  induction h with
  | nil => exact .nil
  | cons r _ ih => exact .cons (.tup (.inl (.inl r)) (strs_dp _)) ih
theorem rows_can : ∀ rows : List Row, (∀ r ∈ rows, ∀ x ∈ r, okS x) → PyData.canLayAll0 (rows.map rowDat) = true ∧ PyData.depthAll (rows.map rowDat) ≤ 1
  | [], _ => ⟨rfl, Nat.zero_le _⟩
  | r :: rows, h => by
    obtain ⟨a, b⟩ := rows_can rows fun x hx => h x (List.mem_cons_of_mem _ hx)
    obtain ⟨c, e⟩ := strs_shaped r (h r (List.mem_cons_self ..))
    refine ⟨?_, ?_⟩
    · show (PyData.canLayAll0 (r.map PyData.str) && PyData.canLayAll0 (rows.map rowDat)) = true
      rw [a, c]
      rfl
    · show max (PyData.depthAll (r.map PyData.str) + 1) (PyData.depthAll (rows.map rowDat)) ≤ 1
      rw [e]
      omega
theorem rows_list {rows : List Row} (h : ∀ r ∈ rows, ∀ x ∈ r, okS x) : SeqAt.shaped (.list (rows.map rowDat)) = true := by
  obtain ⟨a, b⟩ := rows_can rows h
  show (PyData.canLayAll0 (rows.map rowDat) && decide (PyData.depthAll (rows.map rowDat) + 1 ≤ 64)) = true
  rw [a, decide_eq_true (by omega)]
  rfl
theorem choicesF_ok {ds : List FtD} (hB : FtsB ds) (ns : List Str) (b : BD) : ∀ r ∈ choicesF (knownF ds) ns b, ∀ x ∈ r, okS x := by
  intro r hr
  unfold choicesF at hr
  by_cases c : inF (b.map (·.1)) ns = true
  · rw [if_pos c] at hr
    exact prodR_mem _ okS _ (fun n _ v hv => knF_ok hB n v (List.mem_filter.mp hv).1) r hr
  · rw [if_neg c] at hr
    exact absurd hr List.not_mem_nil
theorem choicesF_len {ds : List FtD} (hB : FtsB ds) {ns : List Str} (hn : ns.length ≤ 6) (b : BD) : (choicesF (knownF ds) ns b).length ≤ 46656 := by
  unfold choicesF
  by_cases c : inF (b.map (·.1)) ns = true
  · rw [if_pos c]
    refine Nat.le_trans (prodR_size _ (fun n => Nat.le_trans (List.length_filter_le _ _) (knF_len hB n)) _) ?_
    rw [List.length_reverse]
    exact Nat.le_trans (Nat.pow_le_pow_right (by decide) hn) (by decide)
  · rw [if_neg c]
    exact Nat.zero_le _
theorem Fts.refs {H : Hp} {ys : List V} {ds : List FtD} (h : Fts H ys ds) : ∀ v ∈ ys, ∃ p, v = V.ref p := fun v hv => by
  obtain ⟨d, _, p, l, e, _⟩ := paired_in h hv
  exact ⟨p, e⟩
theorem fts_upd {H : Hp} {D : Addr} {ys zs : List V} {ds : List FtD} {o : HO} (h : Fts H ys ds) (hD : H D = some (.lst zs)) (hz : ∀ v ∈ zs, ∃ p, v = V.ref p) : Fts (upd H D o) ys ds := by
  refine paired_mono h fun v d e => ?_
  obtain ⟨p, l, rfl, h1, h2, h3⟩ := e
  refine ⟨p, l, rfl, ?_, ?_, h3⟩
  · rw [upd_ne (ne_of h1 hD (by intro z; cases z))]
    exact h1
  · rw [upd_ne fun z => ?_]
    · exact h2
    · subst z
      rw [hD] at h2
      have e := HO.lst.inj (Option.some.inj h2)
      have h4 := h3.1
      cases hv : d.vs with
      | nil =>
        rw [hv] at h4
        exact absurd h4 (by decide)
      | cons v0 r0 =>
        rw [hv] at e
        obtain ⟨p, z⟩ := hz (V.str v0) (by rw [e]; exact List.mem_cons_self ..)
        cases z
section
variable {P : Program} {w : World} {K : PySem.W.Frag} {mg : Str → Option Value} {base : Heap}
/-! ### right -/
abbrev NR : List Str := ["_law_features_here", "_law_names_here", "_law_bundle_here", "_law_handed", "_law_due_here", "_law_turn", "_law_found", "_law_name", "_law_values", "_law_told", "_law_row"]
def spRight (Ps : List Addr) : Sp := fun vs H Q _ => ∃ (fl nl bl : Addr) (ys : List V) (ds : List FtD) (ns : List Str) (b : BD), vs = [.ref fl, .ref nl, .ref bl] ∧ H fl = some (.lst ys) ∧ Fts H ys ds ∧ ds.length ≤ 6 ∧ H nl = some (.lst (ns.map V.str)) ∧ ns.length ≤ 6 ∧ (∀ n ∈ ns, n ∈ ds.map (·.n)) ∧ Bd H bl b ∧ Tabs Ps H ∧
  ∀ H', SameN Ps H H' → Q (.bl true) H'
theorem ok_right {f fC fD fO : Addr} {fd fdC fdD fdO : FuncData} {Ps : List Addr} (F : Fun K "_law_right" "_law_right" s_l_right f fd)
    (kC : PySem.W.keepIn K (.ref fC) = true) (bC : Binds K fdC ["features", "names", "bundle"] []) (gC : mg "choices" = some (.ref fC)) (GC : FnOk P w K mg base CX0 5 fC fdC ["features", "names", "bundle"] (spChoices Ps))
    (kD : PySem.W.keepIn K (.ref fD) = true) (bD : Binds K fdD ["_law_features_here", "_law_names_here", "_law_bundle_here"] []) (gD : mg "_law_due" = some (.ref fD)) (GD : FnOk P w K mg base CX0 2 fD fdD ["_law_features_here", "_law_names_here", "_law_bundle_here"] spDue)
    (kO : PySem.W.keepIn K (.ref fO) = true) (bO : Binds K fdO ["_law_bundle_here"] []) (gO : mg "_law_own" = some (.ref fO)) (GO : FnOk P w K mg base CX0 1 fO fdO ["_law_bundle_here"] spOwn)
    (mal : mg "all" = none) (mli : mg "list" = none) (mtu : mg "tuple" = none) (mis : mg "isinstance" = none) (mr : mg "range" = none) : FnOk P w K mg base CX0 6 f fd ["_law_features_here", "_law_names_here", "_law_bundle_here"] (spRight Ps) := by
  refine F.ok sc_l_right (fun vs H Q E h => ?_) (fun cdv A outer s H vs Q E hr h => ?_)
  · obtain ⟨fl, nl, bl, ys, ds, ns, b, rfl, _⟩ := h
    rfl
  · obtain ⟨fl, nl, bl, ys, ds, ns, b, rfl, hfl, hF, hdl, hnl, hnn, hnm, hB, hT, q⟩ := h
    have hlen : ys.length = ds.length := Paired.length hF
    have hFB : FtsB ds := hF.b (by omega)
    refine ⟨_, pss_cons (ps_set (i := 3) sc_l_right.nd rfl (.inl rfl) (pe_lst (pa_cons (pe_lc (own := [("_law_name", 7), ("_law_values", 8), ("_law_told", 9)]) (tt := tYes) rfl sc_l_right.nd (pi_list (pv 0))
          (blkOk_by (own := [("_law_name", 7), ("_law_values", 8), ("_law_told", 9)]) (N := NR) (sc := defScope s_l_right) (by decide +kernel))
          (fun _ _ _ _ _ => pg_tupK (K := K) (n := 3) rfl (pg_tup (n := 3) rfl (pgs_cons (pg_name (i := 7) sc_l_right.nd rfl (Or.inl rfl)) (pgs_cons (pg_name (i := 8) sc_l_right.nd rfl (Or.inl rfl)) (pgs_cons (pg_name (i := 9) sc_l_right.nd rfl (Or.inl rfl)) pgs_nil))))) (fun _ _ _ _ _ => pts_nil)
          (fun _ _ _ _ _ => pe_tup (pa_cons (pv 7) (pa_cons (pe_callTy (T := "list") (call_listK (K := K) rfl) (by rfl) mli (by decide +kernel) (pa_cons (pv 8) pa_nil)) (pa_cons (pv 9) pa_nil)))))
        (pa_cons (pe_callTy call_list_of (by rfl) mli (by decide +kernel) (pa_cons (pv 1) pa_nil)) (pa_cons (pe_call GO (hr.mono (by decide)) (by rfl) gO kO bO .nil pass0 (pa_cons (pv 2) pa_nil)) pa_nil)))))
      (pss_cons (ps_set (i := 4) sc_l_right.nd rfl (.inl rfl) (pe_call GD (hr.mono (by decide)) (by rfl) gD kD bD .nil pass0 (pa_cons (pv 0) (pa_cons (pv 1) (pa_cons (pv 2) pa_nil)))))
      (pss_cons (ps_for PassesOwn.never rfl (pi_range1 (by rfl) mr (pa_cons pe_int pa_nil)) (pg_name (i := 5) sc_l_right.nd rfl (.inl rfl))
        (pss_cons (ps_set (i := 6) sc_l_right.nd rfl (.inl rfl) (pe_call GC hr (by rfl) gC kC bC .nil pass0 (pa_cons (pe_ix ix_list (pv 3) pe_int (fun _ _ => rfl)) (pa_cons (pe_ix ix_list (pv 3) pe_int (fun _ _ => rfl)) (pa_cons (pe_ix ix_list (pv 3) pe_int (fun _ _ => rfl)) pa_nil)))))
        (pss_cons (ps_if (PW.pt (pw_or (pt_not (pt_val (pe_callB call_isi (by rfl) mis (by decide +kernel) (pa_cons (pv 6) (pa_cons (pe_bltn (v := .ty "list") (by rfl) mli (by decide +kernel) rfl) pa_nil))))) (pw_or (pt_cmpR (op_neD hr.units) (pv 6) (pv 4) (nomark _)) (pw_or1 (pt_cmpR (op_neW hr.units) (pv 3) (pe_lst (pa_cons (pv 0) (pa_cons (pv 1) (pa_cons (pv 2) pa_nil)))) (nomark _))))))
          (pss_one (ps_ret pe_bl)) pss_nil)
        (pss_cons (ps_if (pt_not (pt_val (pe_callB (cr_all rfl) (by rfl) mal (by decide +kernel) (pa_cons (pe_lc (own := [("_law_row", 10)]) (g := gName 10) (tt := tYes) rfl sc_l_right.nd (pi_list (pv 6))
            (blkOk_by (own := [("_law_row", 10)]) (N := NR) (sc := defScope s_l_right) (by decide +kernel))
            (fun _ _ _ _ _ => pg_name (i := 10) sc_l_right.nd rfl (Or.inl rfl)) (fun _ _ _ _ _ => pts_nil)
            (fun _ _ _ _ _ => pe_callB (id := "isinstance") (call_isiX (K := K) rfl) (by rfl) mis (by decide +kernel) (pa_cons (pv 10) (pa_cons (pe_bltn (v := .ty "tuple") (by rfl) mtu (by decide +kernel) rfl) pa_nil)))) pa_nil))))
          (pss_one (ps_ret pe_bl)) pss_nil)
        (pss_one (ps_expr (pe_bm PySem.F.plainAttrs_list PySem.F.slot_list_append PySem.F.type_list_append mt_append (pv 6) (pa_cons (pe_tup pa_nil) pa_nil))))))))
      (pss_one (ps_ret pe_bl)))), ?_⟩
    refine ⟨_, rfl, fl, rfl, ⟨_, .inl (.inl hfl)⟩, fun D nD => ?_⟩
    refine lc_it (walk_list (K := K) (a := fl) (xs := ys)) (fun i HX => Same H HX ∧ ∃ zs : List V, HX D = some (.lst zs) ∧ Fts HX zs (ds.take i)) ⟨same_new nD, [], upd_same, .nil⟩ (fun i HX _ h => .inl (.inl (h.1 _ _ hfl))) (fun i x HX HX' hi hP hY => ?_) (fun HX hP => ?_)
    · obtain ⟨rfl, hx⟩ := hY
      obtain ⟨sX, zs, hD, hZ⟩ := hP
      obtain ⟨d, hdi, p, l, rfl, f1, f2, f3⟩ := paired_at hF hx
      have hzl : zs.length ≤ 6 := by
        rw [Paired.length hZ, List.length_take]
        omega
      refine ⟨p, _, rfl, .inl (.inl (sX _ _ f1)), rfl, _, _, rfl, _, _, rfl, _, _, rfl, rfl, rfl, tYes_in ?_⟩
      refine ⟨_, rfl, _, rfl, l, _, rfl, .inl (.inl (.inl (sX _ _ f2))), fun l' nl' => ?_⟩
      have sL : Same HX' (upd HX' l' (.lst (d.vs.map V.str))) := same_new nl'
      have hl' : (upd HX' l' (.lst (d.vs.map V.str))) l' = some (.lst (d.vs.map V.str)) := upd_same
      generalize upd HX' l' (.lst (d.vs.map V.str)) = HL at sL hl' ⊢
      refine ⟨_, rfl, (show 3 ≤ sizeLine by decide), fun t nt => ?_⟩
      have sT : Same HL (upd HL t (.tup [.str d.n, .ref l', .bl d.t])) := same_new nt
      have ht : (upd HL t (.tup [.str d.n, .ref l', .bl d.t])) t = some (.tup [.str d.n, .ref l', .bl d.t]) := upd_same
      generalize upd HL t (.tup [.str d.n, .ref l', .bl d.t]) = HT at sT ht ⊢
      have sLT := sL.trans sT
      have hDT := sLT _ _ hD
      refine ⟨_, hDT, small1000 (by omega), Same.own (sX.trans sLT) nD, zs ++ [.ref t], upd_same, ?_⟩
      rw [take_get hdi]
      exact fts_upd (paired_snoc (hZ.same sLT) ⟨t, l', rfl, ht, sT _ _ hl', f3⟩) hDT hZ.refs
    · obtain ⟨sX, zs, hD, hZ⟩ := hP
      rw [hlen, List.take_length] at hZ
      refine ⟨_, rfl, nl, _, rfl, .inl (.inl (.inl (sX _ _ hnl))), fun NL nNL => ?_⟩
      have sN : Same HX (upd HX NL (.lst (ns.map V.str))) := same_new nNL
      have hNL : (upd HX NL (.lst (ns.map V.str))) NL = some (.lst (ns.map V.str)) := upd_same
      generalize upd HX NL (.lst (ns.map V.str)) = HN at sN hNL ⊢
      refine ⟨_, rfl, bl, b, rfl, hB.same (sX.trans sN), fun BL HB nBL sB hBL => ⟨(show 3 ≤ sizeLine by decide), fun hd nhd => ?_⟩⟩
      have sH : Same HB (upd HB hd (.lst [.ref D, .ref NL, .ref BL])) := same_new nhd
      have hhd : (upd HB hd (.lst [.ref D, .ref NL, .ref BL])) hd = some (.lst [.ref D, .ref NL, .ref BL]) := upd_same
      generalize upd HB hd (.lst [.ref D, .ref NL, .ref BL]) = HH at sH hhd ⊢
      have s1 : Same H HH := ((sX.trans sN).trans sB).trans sH
      refine ⟨_, rfl, _, rfl, _, rfl, fl, nl, bl, ys, ds, ns, b, rfl, s1 _ _ hfl, hF.same s1, hdl, s1 _ _ hnl, hnn, hnm, hB.same s1, fun dl HD ndl sD hdue => ?_⟩
      have s2 : Same H HD := s1.trans sD
      have t2 : Tabs Ps HD := hT.same s2
      have cD : HD D = some (.lst zs) := sD _ _ (sH _ _ (sB _ _ (sN _ _ hD)))
      have cZ : Fts HD zs ds := (((hZ.same sN).same sB).same sH).same sD
      have cN : HD NL = some (.lst (ns.map V.str)) := sD _ _ (sH _ _ (sB _ _ hNL))
      have cB : Bd HD BL b := (hBL.same sH).same sD
      have cH := sD _ _ hhd
      have oks : ∀ n ∈ ns, okS n := fun n hn => by
        obtain ⟨d, hd, rfl⟩ := List.mem_map.mp (hnm n hn)
        exact (hFB.2 d hd).2.2.1
      have hcl := choicesF_len hFB hnn b
      have hrok := rows_list (choicesF_ok hFB ns b)
      generalize hrows : choicesF (knownF ds) ns b = rows at hdue hcl hrok
      refine ⟨2, rfl, by decide, by decide, for_it (walk_range (lo := 0) (n := 2)) (fun i σ HY => (∃ (y5 y6 y7 y8 y9 y10 : Option V), σ = [some (.ref fl), some (.ref nl), some (.ref bl), some (.ref hd), some (.ref dl), y5, y6, y7, y8, y9, y10]) ∧ SameN Ps HD HY) ⟨⟨_, _, _, _, _, _, rfl⟩, SameN.refl t2⟩ (fun _ _ _ _ _ => trivial) (fun i x σ HY HY' hi hP hY => ?_) (fun σ HY hP => ?_)⟩
      · obtain ⟨rfl, rfl⟩ := hY
        obtain ⟨⟨y5, y6, y7, y8, y9, y10, rfl⟩, sY⟩ := hP
        have cHY := sY.k _ _ nt_lst cH
        refine ⟨_, rfl, hd, _, _, V.ref D, rfl, rfl, .inl (.inl cHY), rfl, _, rfl, hd, _, _, V.ref NL, rfl, rfl, .inl (.inl cHY), rfl, _, rfl, hd, _, _, V.ref BL, rfl, rfl, .inl (.inl cHY), rfl, D, NL, BL, zs, ds, ns, b, rfl, sY.k _ _ nt_lst cD, cZ.sameN sY, hdl, sY.k _ _ nt_lst cN, hnn, hnm, cB.sameN sY, sY.t, fun r HR nr sR hR => ?_⟩
        rw [hrows] at hR
        have sYR := sY.trans sR
        have nrD : HD r = none := sY.free nr
        obtain ⟨ts, hr1, hts⟩ := hR
        obtain ⟨us, hd1, hus⟩ := hdue.sameN sYR
        have htl : ts.length = rows.length := Paired.length hts
        refine ⟨_, rfl, _, .ty "list", .type "list", .type "list", true, rfl, .ty "list", .base (.lst hr1), kit_ty (by decide +kernel), true, rfl, iteF ⟨_, rfl, _, rfl, _, _, .lst (.inl (.inl hr1)) hts.dp, .lst (.inl (.inl hd1)) hus.dp, hrok, hrok, _, rfl, ?_⟩⟩
        rw [SeqAt.eqv_refl _ (SeqAt.canLay_of_shaped hrok)]
        refine iteF ⟨_, rfl, _, rfl, _, rfl, _, rfl, (show 3 ≤ sizeLine by decide), fun lz nlz => ?_⟩
        have sZ : Same HR (upd HR lz (.lst [.ref fl, .ref nl, .ref bl])) := same_new nlz
        have hlz : (upd HR lz (.lst [.ref fl, .ref nl, .ref bl])) lz = some (.lst [.ref fl, .ref nl, .ref bl]) := upd_same
        generalize upd HR lz (.lst [.ref fl, .ref nl, .ref bl]) = HZ at sZ hlz ⊢
        have sDZ : SameN Ps HD HZ := sYR.trans (SameN.of sYR.t sZ)
        refine ⟨hd, lz, _, _, 3, rfl, rfl, .inl (.inl (sDZ.k _ _ nt_lst cH)), .inl (.inl hlz), by decide, .cons (.inl ⟨.list (ds.map ftDat), ?_, ?_, ?_, ?_⟩) (.cons (.inl ⟨.list (ns.map PyData.str), ?_, ?_, ?_, ?_⟩) (.cons (.inr (eq_bundlesN (m := 0) (cB.sameN sDZ) ((hB.same s2).sameN sDZ))) .nil)), false, rfl, iteF ?_⟩
        · exact .lst (.inl (.inl (sDZ.k _ _ nt_lst cD))) (cZ.sameN sDZ).dp
        · exact .lst (.inl (.inl (sDZ.k _ _ nt_lst (s2 _ _ hfl)))) ((hF.same s2).sameN sDZ).dp
        · exact (fts_can ds hFB.2).1
        · have z := (fts_can ds hFB.2).2
          show PyData.depthAll (ds.map ftDat) + 1 ≤ 60
          omega
        · exact .lst (.inl (.inl (sDZ.k _ _ nt_lst cN))) (strs_dp _)
        · exact .lst (.inl (.inl (sDZ.k _ _ nt_lst (s2 _ _ hnl)))) (strs_dp _)
        · exact (strs_shaped ns oks).1
        · have z := (strs_shaped ns oks).2
          show PyData.depthAll (ns.map PyData.str) + 1 ≤ 60
          omega
        · have hr2 := sZ _ _ hr1
          have hts2 := hts.same sZ
          refine ⟨_, rfl, r, rfl, ⟨_, .inl (.inl hr2)⟩, fun D2 nD2 => ?_⟩
          refine lc_it (walk_list (K := K) (a := r) (xs := ts.map V.ref)) (fun j HW => Same HZ HW ∧ HW D2 = some (.lst ((List.replicate j true).map V.bl))) ⟨same_new nD2, upd_same⟩ (fun j HW _ h => .inl (.inl (h.1 _ _ hr2))) (fun j x HW HW' hj hP hY => ?_) (fun HW hP => ?_)
          · obtain ⟨rfl, hx⟩ := hY
            obtain ⟨sW, hD2⟩ := hP
            rw [List.getElem?_map] at hx
            obtain ⟨t, et, ex⟩ := Option.map_eq_some_iff.mp hx
            subst ex
            obtain ⟨row, hrow, ht⟩ := paired_at hts2 et
            rw [List.length_map] at hj
            refine ⟨rfl, tYes_in ⟨_, rfl, _, .ty "tuple", .type "tuple", .type "tuple", true, rfl, .ty "tuple", .base (.tup (sW _ _ ht)), kit_ty (by decide +kernel), _, hD2, ?_, Same.own sW nD2, ?_⟩⟩
            · rw [List.length_map, List.length_replicate]
              exact Nat.lt_of_lt_of_le hj (by rw [htl]; exact Nat.le_trans hcl (by decide))
            · rw [upd_same, List.replicate_succ', List.map_append]
              rfl
          · obtain ⟨sW, hD2⟩ := hP
            have eall : ∀ n, (List.replicate n true).all id = true := fun n => by
              rw [List.all_eq_true]
              intro x hx
              exact (List.mem_replicate.mp hx).2
            refine ⟨D2, _, rfl, .inl (.inl hD2), true, by rw [eall], iteF ?_⟩
            have hr3 := sW _ _ hr2
            have sDW : SameN Ps HD HW := sDZ.trans (SameN.of sDZ.t sW)
            refine ⟨_, rfl, .inl ⟨rfl, _, .inl (.inl hr3)⟩, Nat.zero_le _, fun t0 nt0 => ?_⟩
            have sE : Same HW (upd HW t0 (.tup [])) := same_new nt0
            generalize upd HW t0 (.tup []) = HE at sE ⊢
            have hr4 := sE _ _ hr3
            have sDE : SameN Ps HD HE := sDW.trans (SameN.of sDW.t sE)
            exact ⟨r, _, _, rfl, rfl, hr4, by rw [List.length_map, htl]; exact Nat.lt_of_le_of_lt hcl (by decide), ⟨_, _, _, _, _, _, rfl⟩, sDE.own nrD hr4 nt_lst⟩
      · obtain ⟨⟨y5, y6, y7, y8, y9, y10, rfl⟩, sY⟩ := hP
        exact q HY ((SameN.of hT s2).trans sY)
end
end Bn

namespace Bn
open PySem PySem.Spec PyProof.Rows L2 BR GX RM
theorem _root_.GX.SameN.kb {Ps : List Addr} {b : Addr} {H0 H H' : Hp} (s : SameN Ps H0 H) (nb : H0 b = none) (hb : Bx H b) (k : Kb b H H') : SameN Ps H0 H' := by
  refine ⟨fun x y n e => k.k _ _ (ne_of_none e nb) (s.k x y n e), fun x p e => ?_, fun P hP => ?_⟩
  · obtain ⟨p', e'⟩ := s.q x p e
    exact ⟨p', k.k _ _ (ne_of_none e nb) e'⟩
  · obtain ⟨ps, e, h⟩ := s.t P hP
    exact ⟨ps, k.k _ _ (ne_bx hb e (fun _ _ _ _ z => by cases z)) e, h⟩
theorem _root_.GX.SameN.same {Ps : List Addr} {H0 H H' : Hp} (s : SameN Ps H0 H) (k : Same H H') : SameN Ps H0 H' := s.trans (SameN.of s.t k)
theorem cut_strs (ps : List Str) : cutV (ps.map V.str) none (some 1) = (ps.take 1).map V.str := by
  unfold cutV
  rw [List.length_map, HT.sIx_none, List.drop_zero, show (some (1 : Int)) = some ((1 : Nat) : Int) from rfl, HT.sIx_nat, Nat.sub_zero, ← List.map_take]
  congr 1
  cases ps with
  | nil => rfl
  | cons v r => rw [show min 1 (v :: r).length = 1 by rw [List.length_cons]; omega]
theorem cells_len {ns : List Int} (n : Int) : ((cutV (ns.map V.int) none (some 8)) ++ [V.int n]).length ≤ 9 := by
  rw [List.length_append]
  unfold cutV
  rw [List.length_take]
  have : HT.sIx (ns.map V.int).length (ns.map V.int).length (some 8) ≤ 8 := by
    rw [show (some (8 : Int)) = some ((8 : Nat) : Int) from rfl, HT.sIx_nat]
    omega
  show min _ _ + 1 ≤ 9
  omega
theorem cells_int {ns : List Int} (n : Int) : ∀ v ∈ ((cutV (ns.map V.int) none (some 8)) ++ [V.int n]), ∃ m : Int, v = .int m := by
  intro v hv
  rcases List.mem_append.mp hv with z | z
  · unfold cutV at z
    obtain ⟨m, _, e⟩ := List.mem_map.mp (List.mem_of_mem_drop (List.mem_of_mem_take z))
    exact ⟨m, e.symm⟩
  · exact ⟨n, List.mem_singleton.mp z⟩
theorem Bd.empty {H : Hp} {p : Addr} (h : H p = some (.dK [])) : Bd H p [] := ⟨[], h, .nil, List.nodup_nil, Nat.zero_le _, fun e he => absurd he List.not_mem_nil⟩
theorem FtAt.ft {H : Hp} {v : V} {d : FtD} (h : FtAt H v d) : Ft H v := by
  obtain ⟨p, l, e, h1, h2, h3⟩ := h
  exact ⟨p, l, d, e, h1, h2, h3⟩
theorem Fts.ft {H : Hp} {ys : List V} {ds : List FtD} (h : Fts H ys ds) : ∀ v ∈ ys, Ft H v := fun v hv => by
  obtain ⟨d, _, k⟩ := paired_in h hv
  exact k.ft
section
variable {P : Program} {w : World} {K : PySem.W.Frag} {mg : Str → Option Value} {base : Heap}
abbrev NL : List Str := ["_law_script", "_law_k", "_law_cell_here", "_law_box_here", "_law_features_here", "_law_names_here", "_law_bundle_here", "_law_some_here", "_law_feature"]
def spLaw (K : PySem.W.Frag) (Ps : List Addr) : Sp := fun vs H Q _ => ∃ (a : Addr) (ns : List Int), vs = [.ref a] ∧ SqL K H a (ns.map V.int) ∧ ns.length ≤ 63 ∧ Tabs Ps H ∧ ∀ H', Q (.bl true) H'
theorem ok_law {f f1 f2 f3 f4 f5 f6 : Addr} {fd d1 d2 d3 d4 d5 d6 : FuncData} {Ps : List Addr} (F : Fun K "law" "law" s_law f fd)
    (k1 : PySem.W.keepIn K (.ref f1) = true) (b1 : Binds K d1 ["_law_cell_here", "_law_k"] []) (g1 : mg "_law_box" = some (.ref f1)) (G1 : FnOk P w K mg base CX0 1 f1 d1 ["_law_cell_here", "_law_k"] spBox)
    (k2 : PySem.W.keepIn K (.ref f2) = true) (b2 : Binds K d2 ["_law_box_here"] []) (g2 : mg "_law_features" = some (.ref f2)) (G2 : FnOk P w K mg base CX0 5 f2 d2 ["_law_box_here"] spFeatures)
    (k3 : PySem.W.keepIn K (.ref f3) = true) (b3 : Binds K d3 ["_law_box_here", "_law_features_here"] []) (g3 : mg "_law_chosen" = some (.ref f3)) (G3 : FnOk P w K mg base CX0 4 f3 d3 ["_law_box_here", "_law_features_here"] spChosen)
    (k4 : PySem.W.keepIn K (.ref f4) = true) (b4 : Binds K d4 ["_law_box_here", "_law_features_here"] []) (g4 : mg "_law_bundle" = some (.ref f4)) (G4 : FnOk P w K mg base CX0 4 f4 d4 ["_law_box_here", "_law_features_here"] (spBundle K))
    (k5 : PySem.W.keepIn K (.ref f5) = true) (b5 : Binds K d5 ["_law_box_here", "_law_many"] []) (g5 : mg "_law_take" = some (.ref f5)) (G5 : FnOk P w K mg base CX0 2 f5 d5 ["_law_box_here", "_law_many"] spTake)
    (k6 : PySem.W.keepIn K (.ref f6) = true) (b6 : Binds K d6 ["_law_features_here", "_law_names_here", "_law_bundle_here"] []) (g6 : mg "_law_right" = some (.ref f6)) (G6 : FnOk P w K mg base CX0 6 f6 d6 ["_law_features_here", "_law_names_here", "_law_bundle_here"] (spRight Ps))
    (ml : mg "len" = none) (men : mg "enumerate" = none) : FnOk P w K mg base CX0 7 f fd ["_law_script"] (spLaw K Ps) := by
  refine F.ok sc_law (fun vs H Q E h => ?_) (fun cdv A outer s H vs Q E hr h => ?_)
  · obtain ⟨a, ns, rfl, _⟩ := h
    rfl
  · obtain ⟨a, ns, rfl, hS, hlen, hT, q⟩ := h
    refine ⟨_, pss_cons (ps_for PassesOwn.never rfl (pi_enum (by rfl) men (pa_cons (pe_op op_cat (pe_slice sl_list (pv 0) po_none (po_some pe_int)) (pe_lst (pa_cons (pe_callB call_len_seq (by rfl) ml PySem.boot_len (pa_cons (pv 0) pa_nil)) pa_nil))) pa_nil))
        (pg_tup rfl (pgs_cons (pg_name (i := 1) sc_law.nd rfl (.inl rfl)) (pgs_cons (pg_name (i := 2) sc_law.nd rfl (.inl rfl)) pgs_nil)))
        (pss_cons (ps_set (i := 3) sc_law.nd rfl (.inl rfl) (pe_call G1 (hr.mono (by decide)) (by rfl) g1 k1 b1 .nil pass0 (pa_cons (pv 2) (pa_cons (pe_op op_add (pv 1) pe_int) pa_nil))))
        (pss_cons (ps_set (i := 4) sc_law.nd rfl (.inl rfl) (pe_call G2 (hr.mono (by decide)) (by rfl) g2 k2 b2 .nil pass0 (pa_cons (pv 3) pa_nil)))
        (pss_cons (ps_set (i := 5) sc_law.nd rfl (.inr rfl) (pe_call G3 (hr.mono (by decide)) (by rfl) g3 k3 b3 .nil pass0 (pa_cons (pv 3) (pa_cons (pv 4) pa_nil))))
        (pss_cons (ps_set (i := 6) sc_law.nd rfl (.inl rfl) (pe_call G4 (hr.mono (by decide)) (by rfl) g4 k4 b4 .nil pass0 (pa_cons (pv 3) (pa_cons (pe_lc (own := [("_law_feature", 8)]) (g := gName 8) rfl sc_law.nd (pi_list (pv 4))
            (blkOk_by (own := [("_law_feature", 8)]) (N := NL) (sc := defScope s_law) (by decide +kernel))
            (fun _ _ _ _ _ => pg_name (i := 8) sc_law.nd rfl (Or.inl rfl)) (fun _ _ _ _ _ => pts_one (pt_cmpR (op_inK (K := K) rfl) (pe_ix (ix_tupK (K := K) rfl) (pv 8) pe_int (fun _ _ => rfl)) (pv 5) (by rfl))) (fun _ _ _ _ _ => pv 8)) pa_nil))))
        (C8.pss_cut (ps_if (pt_cmpR op_eq (pe_call G5 (hr.mono (by decide)) (by rfl) g5 k5 b5 .nil pass0 (pa_cons (pv 3) (pa_cons pe_int pa_nil))) pe_int (nomark _))
          (pss_one (ps_set (i := 6) sc_law.nd rfl (.inl rfl) (pe_call G4 (hr.mono (by decide)) (by rfl) g4 k4 b4 .nil pass0 (pa_cons (pv 3) (pa_cons (pv 4) pa_nil))))) pss_nil)
        (pss_cons (ps_for PassesOwn.never rfl (pi_tup (pe_tup (pa_cons (pv 6) (pa_cons pe_dnewK pa_nil)))) (pg_name (i := 7) sc_law.nd rfl (.inl rfl))
          (pss_one (ps_if (pt_not (pt_val (pe_call G6 hr (by rfl) g6 k6 b6 .nil pass0 (pa_cons (pv 4) (pa_cons (pv 5) (pa_cons (pv 7) pa_nil)))))) (pss_one (ps_ret pe_bl)) pss_nil)))
        (pss_one (ps_if (PW.pt (pw_or (pt_not (pt_val (pe_call G6 hr (by rfl) g6 k6 b6 .nil pass0 (pa_cons (pv 4) (pa_cons (pe_lst pa_nil) (pa_cons pe_dnewK pa_nil)))))) (pw_or1 (pt_not (pt_val (pe_call G6 hr (by rfl) g6 k6 b6 .nil pass0 (pa_cons (pv 4) (pa_cons (pe_slice sl_list (pv 5) po_none (po_some pe_int)) (pa_cons pe_dnewK pa_nil)))))))))
          (pss_one (ps_ret pe_bl)) pss_nil)))))))))
      (pss_one (ps_ret pe_bl)), ?_⟩
    refine ⟨_, rfl, 8, rfl, a, _, rfl, hS, fun l1 n1 => ?_⟩
    have s1 : Same H (upd H l1 (.lst (cutV (ns.map V.int) none (some 8)))) := same_new n1
    refine ⟨_, rfl, a, _, rfl, .inl (s1.seq hS), (show 1 ≤ sizeLine by decide), fun l2 n2 => ?_⟩
    have s2 := same_new (o := .lst [.int ((ns.map V.int).length : Int)]) n2
    have hl1 := s2 _ _ (upd_same (H := H) (a := l1) (o := .lst (cutV (ns.map V.int) none (some 8))))
    have hl2 := upd_same (H := upd H l1 (.lst (cutV (ns.map V.int) none (some 8)))) (a := l2) (o := .lst [.int ((ns.map V.int).length : Int)])
    have cl := cells_len (ns := ns) ((ns.map V.int).length : Int)
    have ci := cells_int (ns := ns) ((ns.map V.int).length : Int)
    refine ⟨l1, l2, _, _, rfl, rfl, hl1, hl2, by rw [← List.length_append]; exact line1000 (by omega), fun l3 n3 => ?_⟩
    have s3 := (s1.trans s2).trans (same_new (o := .lst ((cutV (ns.map V.int) none (some 8)) ++ [.int ((ns.map V.int).length : Int)])) n3)
    have hl3 := upd_same (H := upd (upd H l1 (.lst (cutV (ns.map V.int) none (some 8)))) l2 (.lst [.int ((ns.map V.int).length : Int)])) (a := l3) (o := .lst ((cutV (ns.map V.int) none (some 8)) ++ [.int ((ns.map V.int).length : Int)]))
    generalize upd (upd (upd H l1 (.lst (cutV (ns.map V.int) none (some 8)))) l2 (.lst [.int ((ns.map V.int).length : Int)])) l3 (.lst ((cutV (ns.map V.int) none (some 8)) ++ [.int ((ns.map V.int).length : Int)])) = H3 at s3 hl3 ⊢
    generalize (cutV (ns.map V.int) none (some 8)) ++ [V.int ((ns.map V.int).length : Int)] = cells at cl ci hl3 ⊢
    have hT3 : Tabs Ps H3 := hT.same s3
    refine ⟨l3, cells, rfl, .inl (.inl hl3), for_it (walk_enum (K := K) (a := l3) (xs := cells)) (fun i σ H' => (∃ y1 y2 y3 y4 y5 y6 y7 y8, σ = [some (.ref a), y1, y2, y3, y4, y5, y6, y7, y8]) ∧ SameN Ps H3 H') ⟨⟨none, none, none, none, none, none, none, none, rfl⟩, SameN.refl hT3⟩ (fun i σ H' _ h => .inl (.inl (h.2.k _ _ nt_lst hl3))) (fun i x σ H4 H5 hi hP hY => ?_) (fun σ H' hP => q _)⟩
    obtain ⟨⟨y1, y2, y3, y4, y5, y6, y7, y8, rfl⟩, s34⟩ := hP
    obtain ⟨T, u1, u2, rfl, nT, rfl, e1, e2⟩ := hY
    obtain ⟨cell, rfl⟩ := ci u2 (List.mem_of_getElem? e2)
    have e1' := Option.some.inj e1
    subst e1'
    have s45 : Same H4 (upd H4 T (.tup [.int (i : Nat), .int cell])) := same_new nT
    refine ⟨T, _, rfl, .inl (.inl upd_same), rfl, _, _, rfl, _, _, rfl, rfl, ?_⟩
    refine ⟨_, rfl, _, rfl, _, _, rfl, rfl, cell, _, rfl, fun b H6 nb s6 hb => ?_⟩
    have s36 := (s34.same s45).same s6
    have nb3 : H3 b = none := (s34.same s45).free nb
    -- features
    refine ⟨_, rfl, b, rfl, hb, fun fl ys H7 nfl k7 hfl hyl hFt => ?_⟩
    obtain ⟨ds, hF⟩ := fts_of hFt
    have hlen2 : ys.length = ds.length := Paired.length hF
    have nfb : fl ≠ b := (hb.ne nfl).symm
    -- names
    refine ⟨_, rfl, _, rfl, b, fl, ys, ds, rfl, k7.x, hfl, hF, by omega, fun nl nms H8 nnl k8 hnl hnn hnm => ?_⟩
    have nnb : nl ≠ b := (k7.x.ne nnl).symm
    have hfl8 := k8.k _ _ nfb hfl
    have hF8 := hF.kp k7.x k8.k
    -- the bundle
    refine ⟨_, rfl, _, rfl, fl, rfl, ⟨_, .inl (.inl hfl8)⟩, fun D nD => ?_⟩
    refine lc_it (walk_list (K := K) (a := fl) (xs := ys)) (fun i HX => Same H8 HX ∧ ∃ zs : List V, HX D = some (.lst zs) ∧ zs.length ≤ i ∧ ∀ z ∈ zs, z ∈ ys) ⟨same_new nD, [], upd_same, Nat.le_refl _, fun z hz => absurd hz List.not_mem_nil⟩ (fun i HX _ h => .inl (.inl (h.1 _ _ hfl8))) (fun j x HX HX' hj hP hY => ?_) (fun HX hP => ?_)
    · obtain ⟨rfl, hx⟩ := hY
      obtain ⟨sX, zs, hD, hzl, hzm⟩ := hP
      obtain ⟨d, hdi, p, l, rfl, f1, f2, f3⟩ := paired_at hF8 hx
      refine ⟨rfl, _, rfl, p, _, _, V.str d.n, rfl, rfl, .inl (.inl (sX _ _ f1)), rfl, _, rfl, nl, _, rfl, .inl (.inl (.inl (sX _ _ hnl))), rfl, flat_strs nms, _, rfl, ite2 (fun e => ?_) (fun e => ⟨sX, zs, hD, by omega, hzm⟩)⟩
      refine ⟨_, rfl, zs, hD, small1000 (by omega), Same.own sX nD, zs ++ [V.ref p], upd_same, by rw [List.length_append]; show zs.length + 1 ≤ j + 1; omega, fun z hz => ?_⟩
      rcases List.mem_append.mp hz with z' | z'
      · exact hzm z z'
      · rw [List.mem_singleton.mp z']
        exact List.mem_of_getElem? hx
    obtain ⟨sX, zs, hD, hzl, hzm⟩ := hP
    have hbX : Bx HX b := k8.x.same sX
    have hFX := hF8.same sX
    refine ⟨b, D, zs, rfl, hbX, .inl (.inl hD), by omega, fun v hv => hFX.ft v (hzm v hv), fun p bd H9 np k9 hBd hbl6 _ => ?_⟩
    have hfl9 := k9.k _ _ nfb (sX _ _ hfl8)
    have hnl9 := k9.k _ _ nnb (sX _ _ hnl)
    have hF9 := hFX.kp hbX k9.k
    refine ⟨fun σ' HM => ∃ (p' : Addr) (bd' : BD), σ' = [some (.ref a), some (.int (i : Nat)), some (.int cell), some (.ref b), some (.ref fl), some (.ref nl), some (.ref p'), y7, y8] ∧ Kb b H9 HM ∧ Bd HM p' bd', ?_, fun σ' HM hM => ?_⟩
    · refine ⟨_, rfl, b, 8, rfl, k9.x, by decide, by decide, fun m HA m0 m1 kA => ⟨rfl, _, rfl, ite2 (fun e => ?_) (fun e => ⟨p, bd, rfl, kA, hBd.kp k9.x kA.k⟩)⟩⟩
      have hflA := kA.k _ _ nfb hfl9
      have hFA := hF9.kp k9.x kA.k
      exact ⟨_, rfl, _, rfl, b, fl, ys, rfl, kA.x, .inl (.inl hflA), by omega, hFA.ft, fun p' bd' HB np' kB hBd' _ _ => ⟨p', bd', rfl, kA.trans kB, hBd'⟩⟩
    obtain ⟨p', bd', rfl, kM, hBM⟩ := hM
    have hflM := kM.k _ _ nfb hfl9
    have hnlM := kM.k _ _ nnb hnl9
    have hFM := hF9.kp k9.x kM.k
    have s3M : SameN Ps H3 HM := s36.kb nb3 hb (((k7.trans k8).trans ⟨Kp.of_same sX, hbX⟩).trans (k9.trans kM))
    -- both bundles
    refine ⟨_, rfl, fun e1 ne1 => ⟨(show 2 ≤ sizeLine by decide), fun tp ntp => ?_⟩⟩
    have r1 : Same HM (upd HM e1 (.dK [])) := same_new ne1
    have he1 : (upd HM e1 (.dK [])) e1 = some (.dK []) := upd_same
    generalize upd HM e1 (.dK []) = HN at r1 he1 ntp ⊢
    have r2 : Same HN (upd HN tp (.tup [.ref p', .ref e1])) := same_new ntp
    have htp : (upd HN tp (.tup [.ref p', .ref e1])) tp = some (.tup [.ref p', .ref e1]) := upd_same
    generalize upd HN tp (.tup [.ref p', .ref e1]) = HO' at r2 htp ⊢
    have rM := r1.trans r2
    have s3O := s3M.same rM
    have hflO := rM _ _ hflM
    have hnlO := rM _ _ hnlM
    have hFO := hFM.same rM
    have two : ∀ v ∈ [V.ref p', .ref e1], ∃ x bb, v = .ref x ∧ Bd HO' x bb := by
      intro v hv
      rcases List.mem_cons.mp hv with rfl | hv
      · exact ⟨p', _, rfl, hBM.same rM⟩
      rw [List.mem_singleton.mp hv]
      exact ⟨e1, [], rfl, Bd.empty (r2 _ _ he1)⟩
    refine ⟨tp, rfl, ⟨_, .inl (.inl htp)⟩, for_tup (K := K) (a := tp) (xs := [V.ref p', .ref e1]) (fun j σ HY => (∃ z7 z8, σ = [some (.ref a), some (.int (i : Nat)), some (.int cell), some (.ref b), some (.ref fl), some (.ref nl), some (.ref p'), z7, z8]) ∧ SameN Ps HO' HY) ⟨⟨_, _, rfl⟩, SameN.refl s3O.t⟩ (fun j σ HY _ h => .inl (.inl (h.2.k _ _ nt_tup htp))) (fun j x σ HY hx2 hP => ?_) (fun σ HY hP => ?_)⟩
    · obtain ⟨⟨z7, z8, rfl⟩, sY⟩ := hP
      obtain ⟨x1, bb, rfl, hx1⟩ := two x (List.mem_of_getElem? hx2)
      exact ⟨_, rfl, _, rfl, _, rfl, fl, nl, x1, ys, ds, nms, bb, rfl, sY.k _ _ nt_lst hflO, hFO.sameN sY, by omega, sY.k _ _ nt_lst hnlO, hnn, hnm, hx1.sameN sY, sY.t, fun HZ sZ => ⟨_, rfl, iteF ⟨⟨_, _, rfl⟩, sY.trans sZ⟩⟩⟩
    · obtain ⟨⟨z7, z8, rfl⟩, sY⟩ := hP
      have hflY := sY.k _ _ nt_lst hflO
      have hFY := hFO.sameN sY
      have hnlY := sY.k _ _ nt_lst hnlO
      refine ⟨_, rfl, Nat.zero_le _, fun l0 nl0 d0 nd0 => ?_⟩
      have t1 : Same HY (upd HY l0 (.lst [])) := same_new nl0
      have hl0 : (upd HY l0 (.lst [])) l0 = some (.lst []) := upd_same
      generalize upd HY l0 (.lst []) = J1 at t1 hl0 nd0 ⊢
      have t2 : Same J1 (upd J1 d0 (.dK [])) := same_new nd0
      have hd0 : (upd J1 d0 (.dK [])) d0 = some (.dK []) := upd_same
      generalize upd J1 d0 (.dK []) = J2 at t2 hd0 ⊢
      have tJ := t1.trans t2
      have sJ : SameN Ps HY J2 := SameN.of sY.t tJ
      refine ⟨fl, l0, d0, ys, ds, [], [], rfl, tJ _ _ hflY, hFY.same tJ, by omega, t2 _ _ hl0, Nat.zero_le _, (fun n hn => absurd hn List.not_mem_nil), Bd.empty hd0, sJ.t, fun J3 s3' => ⟨_, rfl, iteF ?_⟩⟩
      have sJ3 := sJ.trans s3'
      have hflJ := sJ3.k _ _ nt_lst hflY
      have hnlJ := sJ3.k _ _ nt_lst hnlY
      have hFJ := hFY.sameN sJ3
      refine ⟨_, rfl, _, rfl, 1, rfl, nl, _, rfl, .inl (.inl hnlJ), fun l4 nl4 => ?_⟩
      rw [cut_strs]
      have t3 : Same J3 (upd J3 l4 (.lst ((nms.take 1).map V.str))) := same_new nl4
      have hl4 : (upd J3 l4 (.lst ((nms.take 1).map V.str))) l4 = some (.lst ((nms.take 1).map V.str)) := upd_same
      generalize upd J3 l4 (.lst ((nms.take 1).map V.str)) = J4 at t3 hl4 ⊢
      intro d4 nd4
      have t4 : Same J4 (upd J4 d4 (.dK [])) := same_new nd4
      have hd4 : (upd J4 d4 (.dK [])) d4 = some (.dK []) := upd_same
      generalize upd J4 d4 (.dK []) = J5 at t4 hd4 ⊢
      have tK := t3.trans t4
      have sK : SameN Ps J3 J5 := SameN.of sJ3.t tK
      refine ⟨fl, l4, d4, ys, ds, nms.take 1, [], rfl, tK _ _ hflJ, hFJ.same tK, by omega, t4 _ _ hl4, by rw [List.length_take]; omega, (fun n hn => hnm n (List.mem_of_mem_take hn)), Bd.empty hd4, sK.t, fun J6 s6' => ⟨_, rfl, iteF ⟨⟨_, _, _, _, _, _, _, _, rfl⟩, ?_⟩⟩⟩
      exact (s3O.trans sY).trans (sJ3.trans (sK.trans s6'))
end
end Bn

namespace Bn
open PySem PySem.Spec PyProof.Rows L2 BR GX RM
theorem all_mk {q : Program} {l : PySem.W.OpenLaw} {w : World} {K : PySem.W.Frag} {h : Heap} {mg : Str → Option Value} {fa f1 f2 f3 f4 f5 f6 f7 f8 f9 f10 f11 f12 f13 f14 f15 : Addr} (X : K.In h) (G : h.Ns mainGlobals mg) (hfa : mg "law" = some (.ref fa)) (T : TabsTop q mg h)
    {od1 an1 od2 an2 od3 an3 od4 an4 od5 an5 od6 an6 od7 an7 od8 an8 od9 an9 od10 an10 od11 an11 od12 an12 od13 an13 od14 an14 od15 an15 : Option Addr} {sl1 sl2 sl3 sl4 sl5 sl6 sl7 sl8 sl9 sl10 sl11 sl12 sl13 sl14 sl15 : Array (Option Value)} {oc1 kV1 dc1 pm1 cd1 ct1 oc2 kV2 dc2 pm2 cd2 ct2 oc3 kV3 dc3 pm3 cd3 ct3 oc4 kV4 dc4 pm4 cd4 ct4 oc5 kV5 dc5 pm5 cd5 ct5 oc6 kV6 dc6 pm6 cd6 ct6 oc7 kV7 dc7 pm7 cd7 ct7 oc8 kV8 dc8 pm8 cd8 ct8 oc9 kV9 dc9 pm9 cd9 ct9 oc10 kV10 dc10 pm10 cd10 ct10 oc11 kV11 dc11 pm11 cd11 ct11 oc12 kV12 dc12 pm12 cd12 ct12 oc13 kV13 dc13 pm13 cd13 ct13 oc14 kV14 dc14 pm14 cd14 ct14 oc15 kV15 dc15 pm15 cd15 ct15 : Value}
    (a1 : PySem.W.nsIn K mainGlobals "choices" = some (some (.ref f1))) (l1 : K.lookup f1 = some ⟨oc1, od1, .func (PySem.W.fnOf "choices" "choices" (defArgs s_choices) (defBody s_choices) (defScope s_choices) .none kV1 dc1 pm1 an1 cd1 ct1), sl1⟩) (c1 : PySem.W.codeIn K cd1 "choices" = true) (k1 : PySem.W.keepIn K (.ref f1) = true)
    (a2 : PySem.W.nsIn K mainGlobals "within" = some (some (.ref f2))) (l2 : K.lookup f2 = some ⟨oc2, od2, .func (PySem.W.fnOf "within" "within" (defArgs s_within) (defBody s_within) (defScope s_within) .none kV2 dc2 pm2 an2 cd2 ct2), sl2⟩) (c2 : PySem.W.codeIn K cd2 "within" = true) (k2 : PySem.W.keepIn K (.ref f2) = true)
    (a3 : PySem.W.nsIn K mainGlobals "_law_mixed" = some (some (.ref f3))) (l3 : K.lookup f3 = some ⟨oc3, od3, .func (PySem.W.fnOf "_law_mixed" "_law_mixed" (defArgs s_l_mixed) (defBody s_l_mixed) (defScope s_l_mixed) .none kV3 dc3 pm3 an3 cd3 ct3), sl3⟩) (c3 : PySem.W.codeIn K cd3 "_law_mixed" = true) (k3 : PySem.W.keepIn K (.ref f3) = true)
    (a4 : PySem.W.nsIn K mainGlobals "_law_box" = some (some (.ref f4))) (l4 : K.lookup f4 = some ⟨oc4, od4, .func (PySem.W.fnOf "_law_box" "_law_box" (defArgs s_l_box) (defBody s_l_box) (defScope s_l_box) .none kV4 dc4 pm4 an4 cd4 ct4), sl4⟩) (c4 : PySem.W.codeIn K cd4 "_law_box" = true) (k4 : PySem.W.keepIn K (.ref f4) = true)
    (a5 : PySem.W.nsIn K mainGlobals "_law_take" = some (some (.ref f5))) (l5 : K.lookup f5 = some ⟨oc5, od5, .func (PySem.W.fnOf "_law_take" "_law_take" (defArgs s_l_take) (defBody s_l_take) (defScope s_l_take) .none kV5 dc5 pm5 an5 cd5 ct5), sl5⟩) (c5 : PySem.W.codeIn K cd5 "_law_take" = true) (k5 : PySem.W.keepIn K (.ref f5) = true)
    (a6 : PySem.W.nsIn K mainGlobals "_law_some" = some (some (.ref f6))) (l6 : K.lookup f6 = some ⟨oc6, od6, .func (PySem.W.fnOf "_law_some" "_law_some" (defArgs s_l_some) (defBody s_l_some) (defScope s_l_some) .none kV6 dc6 pm6 an6 cd6 ct6), sl6⟩) (c6 : PySem.W.codeIn K cd6 "_law_some" = true) (k6 : PySem.W.keepIn K (.ref f6) = true)
    (a7 : PySem.W.nsIn K mainGlobals "_law_names" = some (some (.ref f7))) (l7 : K.lookup f7 = some ⟨oc7, od7, .func (PySem.W.fnOf "_law_names" "_law_names" (defArgs s_l_names) (defBody s_l_names) (defScope s_l_names) .none kV7 dc7 pm7 an7 cd7 ct7), sl7⟩) (c7 : PySem.W.codeIn K cd7 "_law_names" = true) (k7 : PySem.W.keepIn K (.ref f7) = true)
    (a8 : PySem.W.nsIn K mainGlobals "_law_features" = some (some (.ref f8))) (l8 : K.lookup f8 = some ⟨oc8, od8, .func (PySem.W.fnOf "_law_features" "_law_features" (defArgs s_l_features) (defBody s_l_features) (defScope s_l_features) .none kV8 dc8 pm8 an8 cd8 ct8), sl8⟩) (c8 : PySem.W.codeIn K cd8 "_law_features" = true) (k8 : PySem.W.keepIn K (.ref f8) = true)
    (a9 : PySem.W.nsIn K mainGlobals "_law_bundle" = some (some (.ref f9))) (l9 : K.lookup f9 = some ⟨oc9, od9, .func (PySem.W.fnOf "_law_bundle" "_law_bundle" (defArgs s_l_bundle) (defBody s_l_bundle) (defScope s_l_bundle) .none kV9 dc9 pm9 an9 cd9 ct9), sl9⟩) (c9 : PySem.W.codeIn K cd9 "_law_bundle" = true) (k9 : PySem.W.keepIn K (.ref f9) = true)
    (a10 : PySem.W.nsIn K mainGlobals "_law_own" = some (some (.ref f10))) (l10 : K.lookup f10 = some ⟨oc10, od10, .func (PySem.W.fnOf "_law_own" "_law_own" (defArgs s_l_own) (defBody s_l_own) (defScope s_l_own) .none kV10 dc10 pm10 an10 cd10 ct10), sl10⟩) (c10 : PySem.W.codeIn K cd10 "_law_own" = true) (k10 : PySem.W.keepIn K (.ref f10) = true)
    (a11 : PySem.W.nsIn K mainGlobals "_law_chosen" = some (some (.ref f11))) (l11 : K.lookup f11 = some ⟨oc11, od11, .func (PySem.W.fnOf "_law_chosen" "_law_chosen" (defArgs s_l_chosen) (defBody s_l_chosen) (defScope s_l_chosen) .none kV11 dc11 pm11 an11 cd11 ct11), sl11⟩) (c11 : PySem.W.codeIn K cd11 "_law_chosen" = true) (k11 : PySem.W.keepIn K (.ref f11) = true)
    (a12 : PySem.W.nsIn K mainGlobals "_law_count" = some (some (.ref f12))) (l12 : K.lookup f12 = some ⟨oc12, od12, .func (PySem.W.fnOf "_law_count" "_law_count" (defArgs s_l_count) (defBody s_l_count) (defScope s_l_count) .none kV12 dc12 pm12 an12 cd12 ct12), sl12⟩) (c12 : PySem.W.codeIn K cd12 "_law_count" = true) (k12 : PySem.W.keepIn K (.ref f12) = true)
    (a13 : PySem.W.nsIn K mainGlobals "_law_due" = some (some (.ref f13))) (l13 : K.lookup f13 = some ⟨oc13, od13, .func (PySem.W.fnOf "_law_due" "_law_due" (defArgs s_l_due) (defBody s_l_due) (defScope s_l_due) .none kV13 dc13 pm13 an13 cd13 ct13), sl13⟩) (c13 : PySem.W.codeIn K cd13 "_law_due" = true) (k13 : PySem.W.keepIn K (.ref f13) = true)
    (a14 : PySem.W.nsIn K mainGlobals "_law_right" = some (some (.ref f14))) (l14 : K.lookup f14 = some ⟨oc14, od14, .func (PySem.W.fnOf "_law_right" "_law_right" (defArgs s_l_right) (defBody s_l_right) (defScope s_l_right) .none kV14 dc14 pm14 an14 cd14 ct14), sl14⟩) (c14 : PySem.W.codeIn K cd14 "_law_right" = true) (k14 : PySem.W.keepIn K (.ref f14) = true)
    (a15 : PySem.W.nsIn K mainGlobals "law" = some (some (.ref f15))) (l15 : K.lookup f15 = some ⟨oc15, od15, .func (PySem.W.fnOf "law" "law" (defArgs s_law) (defBody s_law) (defScope s_law) .none kV15 dc15 pm15 an15 cd15 ct15), sl15⟩) (c15 : PySem.W.codeIn K cd15 "law" = true) (k15 : PySem.W.keepIn K (.ref f15) = true)
    (t2 : tabFree K cd2 = true) (r2 : ((recsOf q).any fun e => e.name == ("within" : Str)) = true)
    (z1 : PySem.W.nsIn K mainGlobals "len" = some none) (z2 : PySem.W.nsIn K mainGlobals "abs" = some none) (z3 : PySem.W.nsIn K mainGlobals "int" = some none) (z4 : PySem.W.nsIn K mainGlobals "list" = some none) (z5 : PySem.W.nsIn K mainGlobals "dict" = some none) (z6 : PySem.W.nsIn K mainGlobals "isinstance" = some none) (z7 : PySem.W.nsIn K mainGlobals "tuple" = some none) (z8 : PySem.W.nsIn K mainGlobals "enumerate" = some none) (z9 : PySem.W.nsIn K mainGlobals "divmod" = some none) (z10 : PySem.W.nsIn K mainGlobals "all" = some none) (z11 : PySem.W.nsIn K mainGlobals "range" = some none) (z12 : PySem.W.nsIn K mainGlobals "reversed" = some none) (z13 : PySem.W.nsIn K mainGlobals "zip" = some none) :
    LamX.LawAtS l w K CX0 7 63 "_law_script" mg fa h := by
  have e := hfa.symm.trans (PySem.W.mg_of X G a15)
  cases e
  obtain ⟨C2, P2, ec2, et2, en2, eh2⟩ := tabOf X T r2 (PySem.W.mg_of X G a2) l2 t2
  subst ec2
  have F1 := fun_mk (st := s_choices) l1 c1 k1
  have b1 := F1.binds (ps := ["features", "names", "bundle"]) fun _ _ _ _ _ _ us hl => match us, hl with | [_, _, _], _ => rfl
  have g1 := PySem.W.mg_of X G a1
  have F2 := fun_mk (st := s_within) l2 c2 k2
  have FC2 : FunC K "within" "within" s_within f2 _ C2 := ⟨⟨_, _, _, _, _, _, _, _, rfl, l2, c2⟩, k2⟩
  have b2 := F2.binds (ps := ["inner", "outer"]) fun _ _ _ _ _ _ us hl => match us, hl with | [_, _], _ => rfl
  have g2 := PySem.W.mg_of X G a2
  have F3 := fun_mk (st := s_l_mixed) l3 c3 k3
  have b3 := F3.binds (ps := ["_law_number", "_law_k"]) fun _ _ _ _ _ _ us hl => match us, hl with | [_, _], _ => rfl
  have g3 := PySem.W.mg_of X G a3
  have F4 := fun_mk (st := s_l_box) l4 c4 k4
  have b4 := F4.binds (ps := ["_law_cell_here", "_law_k"]) fun _ _ _ _ _ _ us hl => match us, hl with | [_, _], _ => rfl
  have g4 := PySem.W.mg_of X G a4
  have F5 := fun_mk (st := s_l_take) l5 c5 k5
  have b5 := F5.binds (ps := ["_law_box_here", "_law_many"]) fun _ _ _ _ _ _ us hl => match us, hl with | [_, _], _ => rfl
  have g5 := PySem.W.mg_of X G a5
  have F6 := fun_mk (st := s_l_some) l6 c6 k6
  have b6 := F6.binds (ps := ["_law_box_here", "_law_words", "_law_many"]) fun _ _ _ _ _ _ us hl => match us, hl with | [_, _, _], _ => rfl
  have g6 := PySem.W.mg_of X G a6
  have F7 := fun_mk (st := s_l_names) l7 c7 k7
  have b7 := F7.binds (ps := ["_law_box_here", "_law_many"]) fun _ _ _ _ _ _ us hl => match us, hl with | [_, _], _ => rfl
  have g7 := PySem.W.mg_of X G a7
  have F8 := fun_mk (st := s_l_features) l8 c8 k8
  have b8 := F8.binds (ps := ["_law_box_here"]) fun _ _ _ _ _ _ us hl => match us, hl with | [_], _ => rfl
  have g8 := PySem.W.mg_of X G a8
  have F9 := fun_mk (st := s_l_bundle) l9 c9 k9
  have b9 := F9.binds (ps := ["_law_box_here", "_law_features_here"]) fun _ _ _ _ _ _ us hl => match us, hl with | [_, _], _ => rfl
  have g9 := PySem.W.mg_of X G a9
  have F10 := fun_mk (st := s_l_own) l10 c10 k10
  have b10 := F10.binds (ps := ["_law_bundle_here"]) fun _ _ _ _ _ _ us hl => match us, hl with | [_], _ => rfl
  have g10 := PySem.W.mg_of X G a10
  have F11 := fun_mk (st := s_l_chosen) l11 c11 k11
  have b11 := F11.binds (ps := ["_law_box_here", "_law_features_here"]) fun _ _ _ _ _ _ us hl => match us, hl with | [_, _], _ => rfl
  have g11 := PySem.W.mg_of X G a11
  have F12 := fun_mk (st := s_l_count) l12 c12 k12
  have b12 := F12.binds (ps := ["_law_features_here", "_law_names_here"]) fun _ _ _ _ _ _ us hl => match us, hl with | [_, _], _ => rfl
  have g12 := PySem.W.mg_of X G a12
  have F13 := fun_mk (st := s_l_due) l13 c13 k13
  have b13 := F13.binds (ps := ["_law_features_here", "_law_names_here", "_law_bundle_here"]) fun _ _ _ _ _ _ us hl => match us, hl with | [_, _, _], _ => rfl
  have g13 := PySem.W.mg_of X G a13
  have F14 := fun_mk (st := s_l_right) l14 c14 k14
  have b14 := F14.binds (ps := ["_law_features_here", "_law_names_here", "_law_bundle_here"]) fun _ _ _ _ _ _ us hl => match us, hl with | [_, _, _], _ => rfl
  have g14 := PySem.W.mg_of X G a14
  have F15 := fun_mk (st := s_law) l15 c15 k15
  have m_len := PySem.W.mg_none_of X G z1
  have m_abs := PySem.W.mg_none_of X G z2
  have m_int := PySem.W.mg_none_of X G z3
  have m_list := PySem.W.mg_none_of X G z4
  have m_dict := PySem.W.mg_none_of X G z5
  have m_isinstance := PySem.W.mg_none_of X G z6
  have m_tuple := PySem.W.mg_none_of X G z7
  have m_enumerate := PySem.W.mg_none_of X G z8
  have m_divmod := PySem.W.mg_none_of X G z9
  have m_all := PySem.W.mg_none_of X G z10
  have m_range := PySem.W.mg_none_of X G z11
  have m_reversed := PySem.W.mg_none_of X G z12
  have m_zip := PySem.W.mg_none_of X G z13
  have hT1 : ∀ p ∈ [(C2, P2)], h.get? p.2 = some { cls := .none, data := .fields #[] } := fun p hp => by
    rw [List.mem_singleton.mp hp]
    exact et2

  have hT2 : ∀ p ∈ [(C2, P2)], K.lookup p.2 = none := fun p hp => by
    rw [List.mem_singleton.mp hp]
    exact en2

  have hT3 : ∀ p ∈ [(C2, P2)], PySem.W.CodeHd h p.1 p.2 := fun p hp => by
    rw [List.mem_singleton.mp hp]
    exact eh2

  refine ⟨PySem.W.fnOf "law" "law" (defArgs s_law) (defBody s_law) (defScope s_law) .none kV15 dc15 pm15 an15 cd15 ct15, [(C2, P2)], spLaw K [P2], hT1, hT2, hT3, fun s v => .of_eq rfl, fun H a ns hl _ hT hS => ⟨a, ns, rfl, hS, hl, fun P hP => ?_, fun _ => rfl⟩, fun base _ _ TB => ?_⟩
  · rw [List.mem_singleton.mp hP]
    exact ⟨#[], hT (C2, P2) (by simp), trivial⟩
  have TB2 := tabB_of (TB (C2, P2) (by simp))
  have hP2 : P2 ∈ [P2] := by simp
  have GT := ok_take (P := l.prog) (w := w) (mg := mg) (base := base) F5 F3 b3 g3 m_divmod
  have GS := ok_some F6 F5.kp b5 g5 GT m_len m_list
  have GN := ok_names F7 F6.kp b6 g6 GS
  have GF := ok_features F8 F5.kp b5 g5 GT F6.kp b6 g6 GS F7.kp b7 g7 GN m_int
  have GB := ok_bundle F9 F5.kp b5 g5 GT F6.kp b6 g6 GS m_len
  have GO : FnOk l.prog w K mg base CX0 1 f10 _ ["_law_bundle_here"] spOwn := ok_own F10 m_dict m_list
  have GCh := ok_chosen F11 F5.kp b5 g5 GT F6.kp b6 g6 GS m_len
  have GCo : FnOk l.prog w K mg base CX0 1 f12 _ ["_law_features_here", "_law_names_here"] spCount := ok_count F12 m_len m_dict m_range m_reversed m_divmod
  have GD := ok_due F13 F12.kp b12 g12 GCo m_all m_zip
  have GW : FnOk l.prog w K mg base CX0 4 f2 _ ["inner", "outer"] (spWithin [P2]) := ok_within FC2 TB2 hP2 m_all
  have GC := ok_choices F1 F2.kp b2 g2 GW
  have GR := ok_right F14 F1.kp b1 g1 GC F13.kp b13 g13 GD F10.kp b10 g10 GO m_all m_list m_tuple m_isinstance m_range
  exact ok_law F15 F4.kp b4 g4 (ok_box F4 m_abs m_int) F8.kp b8 g8 GF F11.kp b11 g11 GCh F9.kp b9 g9 GB F5.kp b5 g5 GT F14.kp b14 g14 GR m_len m_enumerate
end Bn
open PySem PySem.W PyProof.Rows
set_option maxHeartbeats 0 in
theorem PySem.Challenge.cw_speechloom_k05_choices_holds : PySem.Challenge.rw_speechloom_k05_choices.Holds := by
  w_on; o_law; k_head; (case hw => w_witness2)
  k_fill
  refine GX.walk_ofTabs (l := PySem.Challenge.rw_speechloom_k05_choices) (n := 63) (k := 7) (x := "_law_script") (CX := fun _ => L2.CX0) rfl (by decide) rfl ⟨rfl, by decide, by decide⟩ (fun w h Y => PySem.W.kIn_of Y) ?F (fun _ _ _ _ _ h => h)
  case F =>
    intro w mg fa h KX G hmg T
    refine' Bn.all_mk KX G hmg T ?a1 ?l1 ?c1 ?k1 ?a2 ?l2 ?c2 ?k2 ?a3 ?l3 ?c3 ?k3 ?a4 ?l4 ?c4 ?k4 ?a5 ?l5 ?c5 ?k5 ?a6 ?l6 ?c6 ?k6 ?a7 ?l7 ?c7 ?k7 ?a8 ?l8 ?c8 ?k8 ?a9 ?l9 ?c9 ?k9 ?a10 ?l10 ?c10 ?k10 ?a11 ?l11 ?c11 ?k11 ?a12 ?l12 ?c12 ?k12 ?a13 ?l13 ?c13 ?k13 ?a14 ?l14 ?c14 ?k14 ?a15 ?l15 ?c15 ?k15 ?t2 ?r2 ?z1 ?z2 ?z3 ?z4 ?z5 ?z6 ?z7 ?z8 ?z9 ?z10 ?z11 ?z12 ?z13
    (case a1 => k_is); (case l1 => k_is); (case c1 => k_is); (case k1 => k_is); (case a2 => k_is); (case l2 => k_is); (case c2 => k_is); (case k2 => k_is); (case a3 => k_is); (case l3 => k_is); (case c3 => k_is); (case k3 => k_is); (case a4 => k_is); (case l4 => k_is); (case c4 => k_is); (case k4 => k_is); (case a5 => k_is); (case l5 => k_is); (case c5 => k_is); (case k5 => k_is); (case a6 => k_is); (case l6 => k_is); (case c6 => k_is); (case k6 => k_is); (case a7 => k_is); (case l7 => k_is); (case c7 => k_is); (case k7 => k_is); (case a8 => k_is); (case l8 => k_is); (case c8 => k_is); (case k8 => k_is); (case a9 => k_is); (case l9 => k_is); (case c9 => k_is); (case k9 => k_is); (case a10 => k_is); (case l10 => k_is); (case c10 => k_is); (case k10 => k_is); (case a11 => k_is); (case l11 => k_is); (case c11 => k_is); (case k11 => k_is); (case a12 => k_is); (case l12 => k_is); (case c12 => k_is); (case k12 => k_is); (case a13 => k_is); (case l13 => k_is); (case c13 => k_is); (case k13 => k_is); (case a14 => k_is); (case l14 => k_is); (case c14 => k_is); (case k14 => k_is); (case a15 => k_is); (case l15 => k_is); (case c15 => k_is); (case k15 => k_is); (case z1 => k_is); (case z2 => k_is); (case z3 => k_is); (case z4 => k_is); (case z5 => k_is); (case z6 => k_is); (case z7 => k_is); (case z8 => k_is); (case z9 => k_is); (case z10 => k_is); (case z11 => k_is); (case z12 => k_is); (case z13 => k_is)
    case t2 => kernel_rfl
    case r2 => decide +kernel
