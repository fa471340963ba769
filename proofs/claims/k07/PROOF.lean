import PyProof.Rows.All
import Wide.All
import OpenK.AllK
import Wide.FinOn
import HandS.ForMost
import HandS.IsInst
import HandS.Codes
import HandS.Conv
import HandS.Star
import HandS.DeepEq
import HandS.ListEq
import HandS.SetFor
import HandS.Flow
import KE.KDictSum
import HandS.Walk
import HandS.AnyAll
import HandS.GenList
import HandS.Words
import HandS.EndTab
import HandS.DictComp
import KE.GoesMore
import KE.KEqDict
import HandS.Deep
import HandS.ListItems
import PySem.Challenge.RW_speechloom_k07_whole_all_that_was_told_a
import KE.DatumOrd
import HandS.SortKw
import HandS.More
set_option Elab.async false
set_option linter.all false
set_option maxRecDepth 100000
set_option maxHeartbeats 4000000
/-! rules of my own over the hand layer -/
namespace PySem.SeqAt
open AutoSeq1 (wpAny_loadPart')
open MeetsSeq MeetsSeq2 MeetsSeq3 SeqRoads2
section
variable {prog : Program} {w : World}
theorem my_neLoop (l b : Addr) (us vs : Array Value) (n m : Nat) (du dv : Option Addr) (su sv : Array (Option Value)) (hz : us.size = vs.size) (k : Nat) : ∀ i : Nat, us.size - i = k →
    MeetsIn prog w (Builtin.«list.__eq__.loop» ⟨[.ref l, .ref b, rawInt i, rawInt 3], []⟩) (fun A R s =>
      s.heap.get? l = some { cls := .type "list", dict := du, data := .seq us n, slots := su } ∧ s.heap.get? b = some { cls := .type "list", dict := dv, data := .seq vs m, slots := sv } ∧
      (∀ j (p : j < us.size) (q : j < vs.size), EqP prog w A.in1 s us[j] vs[j] true) ∧ R (.ok (.ret (.bool false))) s) := by
  induction k with
  | zero =>
    intro i hk A R s h
    obtain ⟨hp, g, d, tk, os⟩ := s
    obtain ⟨hl, hb, he, h⟩ := h
    wp_walk using wpAny_loadPart' hl, wpAny_loadPart' hb
    have e1 : us[((i : Nat) : Int).toNat]? = none := by simp; omega
    have e2 : vs[((i : Nat) : Int).toNat]? = none := by simp; omega
    rw [e1, e2]
    wp_walk using wpAny_loadPart' hl, wpAny_loadPart' hb
    show R (.ok (.ret (.bool (us.size != vs.size)))) _
    rw [hz]
    simpa using h
  | succ k ih =>
    intro i hk A R s h
    obtain ⟨hp, g, d, tk, os⟩ := s
    obtain ⟨hl, hb, he, h⟩ := h
    wp_walk using wpAny_loadPart' hl, wpAny_loadPart' hb
    have p1 : i < us.size := by omega
    have p2 : i < vs.size := by omega
    have e1 : us[((i : Nat) : Int).toNat]? = some us[i] := by simp [p1]
    have e2 : vs[((i : Nat) : Int).toNat]? = some vs[i] := by simp [p2]
    have ec : ((i : Int) + 1) = ((i + 1 : Nat) : Int) := by push_cast; rfl
    rw [e1, e2]
    refine wpAny_bind (he i p1 p2 _ _ ?_)
    wp_walk
    rw [ec]
    exact ⟨plainId_quiet plain_eq_loop _, codeAny_builtin entry_eq_loop (by
      rw [Around.under_plainId plain_eq_loop _]
      exact ih (i + 1) (by omega) A R _ ⟨hl, hb, he, h⟩)⟩
theorem my_listNe (l b : Addr) (us vs : Array Value) (n m : Nat) (du dv : Option Addr) (su sv : Array (Option Value)) (hz : us.size = vs.size) :
    MeetsIn prog w (Builtin.«list.__ne__» ⟨[.ref l, .ref b], []⟩) (fun A R s =>
      s.heap.get? l = some { cls := .type "list", dict := du, data := .seq us n, slots := su } ∧ s.heap.get? b = some { cls := .type "list", dict := dv, data := .seq vs m, slots := sv } ∧
      (∀ j (p : j < us.size) (q : j < vs.size), EqP prog w A.in1 s us[j] vs[j] true) ∧ R (.ok (.ret (.bool false))) s) := by
  intro A R s h
  obtain ⟨hp, g, d, tk, os⟩ := s
  obtain ⟨hl, hb, he, h⟩ := h
  have f3 := AutoSeq1.sub_list_list
  have hn : ¬ (us.size != vs.size) = true := by simp [hz]
  wp_walk using wpAny_loadPart' hl, wpAny_loadPart' hb
  exact ⟨plainId_quiet plain_eq_loop _, codeAny_builtin entry_eq_loop (by
    rw [Around.under_plainId plain_eq_loop _]
    exact my_neLoop l b us vs n m du dv su sv hz _ 0 rfl A R _ ⟨hl, hb, he, h⟩)⟩
theorem my_rcNe {A : Around} {s : Shared} {l b : Addr} {us vs : Array Value} (hl : s.heap.IsList l us) (hb : s.heap.IsList b vs) (hz : us.size = vs.size) (hu : A.units < cLine)
    (he : ∀ j (p : j < us.size) (q : j < vs.size), EqP prog w A.in1 s us[j] vs[j] true) (E Q : Value → Shared → Prop) (h : Q (.bool false) s) : wpAny (model prog w) A (richCompare .NotEq (.ref l) (.ref b)) Q E s := by
  obtain ⟨⟨c1, du, x1, su⟩, ho, hc, n, hd⟩ := id hl
  obtain ⟨⟨c2, dv, x2, sv⟩, ho2, hc2, m, hd2⟩ := id hb
  simp only at hc hd hc2 hd2
  subst hc hd hc2 hd2
  have ta : s.TypeIs (.ref l) "list" := ⟨_, ho, rfl⟩
  have tb : s.TypeIs (.ref b) "list" := ⟨_, ho2, rfl⟩
  exact wpAny_richCompare_same_room (op := .NotEq) ta tb F.slot_list_ne (call_meetsIn F.slot_list_ne ta F.entry_list_ne (F.args_list_ne_2 _ _) (my_listNe l b us vs n m du dv su sv hz)
    ⟨ho, ho2, he, show Value.bool false ≠ Value.notImplemented ∧ Q (.bool false) s from ⟨(fun x => nomatch x), h⟩⟩) hu
end
end PySem.SeqAt
namespace BR
open PySem PySem.Spec PyProof.Rows L2
section
variable {X : Cx}
/-- two lists that are equal to the bottom: a != b is False -/
def rNeV (K : PySem.W.Frag) : R2 := fun x y H Q => ∃ a b xs ys n, x = .ref a ∧ y = .ref b ∧ SqL K H a xs ∧ SqL K H b ys ∧ n ≤ 60 ∧ Paired (EqV K H n) xs ys ∧ Q (.bl false) H
theorem op_neV (hu : X.A.units + 64 < cLine) : OpR X (compareOp .NotEq) (rNeV X.K) := by
  intro pins s σ H x y v u Q I rx ry h
  obtain ⟨a, b, xs, ys, n, rfl, rfl, ha, hb, hn, hp, q⟩ := h
  cases (show v = Value.ref a from rx)
  cases (show u = Value.ref b from ry)
  obtain ⟨us, r1, p1, _⟩ := I.list ha
  obtain ⟨ws, r2, p2, _⟩ := I.list hb
  have hz : us.toArray.size = ws.toArray.size := by
    rw [List.size_toArray, List.size_toArray, ← r1.length, ← r2.length]
    exact Paired.length hp
  refine SeqAt.my_rcNe p1.isList p2.isList hz (by omega) (fun j h1 h2 => ?_) _ _ ⟨.bl false, H, I, rfl, q⟩
  have k := items_run (eqV_run I n X.A.in1 (by show X.A.units + 1 + n < cLine; omega)) hp r1 r2 j (by simpa using h1) (by simpa using h2)
  simpa using k
/-! *d in a display: the keys of a dict -/
theorem star_dK {pins : List (Addr × Obj)} {σ : L2.St} {H : Hp} {s : Shared} {p : Addr} {kvs : List (Key × V)} {E : Value → Shared → Prop} {Q : List Value → Shared → Prop} (hc : X.calm = true) (I : Inv X pins σ H s) (hk : H p = some (.dK kvs))
    (hQ : ∀ us s', Inv X pins σ H s' → Vals (kvs.map fun kv => kV kv.1) us → Q us s') : PySem.W.StarOf (model X.prog X.w) X.A E (.ref p) Q s := by
  obtain ⟨z, lo, vs, rk, hd⟩ := (show ObjOk X.prog X.w H s.heap p (.dK kvs) from I.hok p _ hk)
  obtain ⟨ep, hat⟩ := hd.dictAt
  have hl : kvs.length = vs.length := Paired.length rk
  have hT : s.TypeIs (.ref p) "dict" := hd.typeIs
  have zz : wpAny (model X.prog X.w) X.A (collect (.ref p)) Q E s := by
    refine PySem.W.kdu_collect (PySem.W.kdl_dict (knd := mixKind X.prog X.w) (kvs := vs) (ep := ep) lo) (I.ok.hd hc) hat (by rw [← hl]; exact z) fun h' tk acc hkeep hacc => ?_
    refine hQ acc.toList _ (I.kept (t' := tk) hkeep) ?_
    have el : acc.toList.length = acc.size := by simp
    refine vals_of_at (by rw [List.length_map, el, hacc.1, hl]) fun j x w h1 h2 => ?_
    obtain ⟨k, y, hky, hi⟩ := hacc.2 j w (by rw [← Array.getElem?_toList]; exact h2)
    have e1 : (kvs.map (·.1))[j]? = some k := by
      rw [KV.keys rk, List.getElem?_map, hky] <;> rfl
    have e2 : (kvs.map fun kv => kV kv.1)[j]? = some (kV k) := by
      have e3 : (kvs.map fun kv => kV kv.1) = (kvs.map (·.1)).map kV := by rw [List.map_map] <;> rfl
      rw [e3, List.getElem?_map, e1] <;> rfl
    rw [e2] at h1
    cases h1
    exact keyIs_rel hi
  unfold PySem.W.StarOf notIterableAtAll
  exact wpAny_bind (wpAny_specialOf hT PySem.F.slot_dict_iter.lookup (wpAny_pure ⟨rfl, zz⟩))
def tStarD (te : TE) (t : TA) : TA := fun σ H Q => te σ H fun x H1 => ∃ p kvs, x = V.ref p ∧ H1 p = some (.dK kvs) ∧ t σ H1 fun ys H2 => Q ((kvs.map fun kv => kV kv.1) ++ ys) H2
theorem pa_starD {e : Expr} {es : List Expr} {te : TE} {t : TA} {p : Pos} (hc : X.calm = true) (he : PE X e te) (hr : PA X es t) (hs : starEach (.Starred e p :: es) X.env = (true, eval e X.env) :: starEach es X.env := by rfl) : PA X (.Starred e p :: es) (tStarD te t) := by
  refine ⟨fun pos pins s σ H Q I h => ?_⟩
  refine PySem.W.items_star (thn (he.run pins s σ H _ I h) fun v s1 ⟨y, H1, I1, ry, a, kvs, ey, hx, q⟩ => ?_) hs
  subst ey
  obtain rfl : v = Value.ref a := ry
  refine star_dK hc I1 hx fun us s2 I2 rv => ?_
  exact thn (hr.run pos pins s2 σ H1 _ I2 q) fun ws s3 ⟨vs, H3, I3, r3, q3⟩ => ⟨_ ++ vs, H3, I3, rv.append r3, q3⟩
/-! rules whose reading names the written part, said with a letter for it (for the block of a comprehension) -/
theorem call_listK {K : PySem.W.Frag} (e : X.K = K) : CallR X (.type "list") (fun xs H Q => ∃ p ys, xs = [.ref p] ∧ (SqL K H p ys ∨ SqT K H p ys) ∧ ∀ l, H l = none → Q (.ref l) (upd H l (.lst ys))) := by
  subst e
  exact call_list_of
theorem op_inK {K : PySem.W.Frag} (e : X.K = K) : OpR X (compareOp .In) (rIn K false) := by
  subst e
  exact op_in_seq
theorem pt_truthK {K : PySem.W.Frag} {a : Expr} {ta : TE} (e : X.K = K) (ha : PE X a ta) (he : ∀ whole, isTrue a X.env whole = (do let v ← whole; standAt a.pos; holding [v] (truthy v))) :
    PT X a (fun σ H Q => ta σ H fun x H' => ∃ k, TruV K x H' k ∧ Q k H') := by
  subst e
  exact pt_truth ha he
theorem call_isiX {K : PySem.W.Frag} (e : X.K = K) : CallR X (.builtin "isinstance") (rIsi K) := by
  subst e
  exact call_isi
theorem pe_bmK {K : PySem.W.Frag} {o e : Expr} {es : List Expr} {to : TE} {t : TA} {name : Str} {apos cpos : Pos} {T id : String} {r : V → List V → Hp → VK → Prop} (eK : X.K = K)
    (pa : PlainAttrs T) (slot : Slot T name id) (hty : typeOf (.builtin id) = pure (.type "method_descriptor")) (hm : MtR X id r) (ho : PE X o to) (ha : PA X (e :: es) t)
    (h1 : attributeBase o name X.env (eval o X.env) = eval o X.env := by rfl)
    (h2 : ((backTo cpos (starEach (e :: es) X.env)).all (fun x => !x.1) && (backToKw cpos (keywordEach [] X.env)).all (fun x => x.1.isSome) && decide ((e :: es).length + ([] : List Keyword).length + (if ([] : List Keyword).isEmpty then 0 else 1) < 30)) = true := by rfl)
    (h3 : (apos.endLine == cpos.line) = true := by rfl) (h4 : starEach (e :: es) X.env = (false, eval e X.env) :: starEach es X.env := by rfl) (h5 : (backTo cpos (starEach es X.env)).any (·.1) = false := by rfl) :
    PE X (.Call (.Attribute o name apos) (e :: es) [] cpos) (tBM K T r to t) := by
  subst eK
  exact pe_bm pa slot hty hm ho ha h1 h2 h3 h4 h5
/-! list.count of a text in a list of texts -/
def eqsT (z : Str) : Value → Bool
  | .str y _ => y == z
  | _ => false
theorem eqsT_count {z : Str} : ∀ {ss : List Str} {us : List Value}, Vals (ss.map V.str) us → us.countP (eqsT z) = ss.count z
  | [], _, r => by cases r; rfl
  | y :: ss, _, r => by
    cases r with
    | cons h t =>
      obtain ⟨k, rfl⟩ := h
      rw [List.countP_cons, List.count_cons, eqsT_count t]
      rfl
theorem eqsT_at {A : Around} {s : Shared} {z : Str} {t : Tok} : ∀ {ss : List Str} {us : List Value}, Vals (ss.map V.str) us → ∀ y ∈ us, SeqAt.EqAt A s y (.str z t) (eqsT z y)
  | [], _, r, y, hy => by cases r; cases hy
  | x :: ss, _, r, y, hy => by
    cases r with
    | cons h q =>
      obtain ⟨k, rfl⟩ := h
      rcases List.mem_cons.mp hy with rfl | e
      · exact SeqAt.EqAt.str_str _ _ _ _
      · exact eqsT_at q y e
theorem mt_countS : MtR X "list.count" (fun x vs H Q => ∃ (p : Addr) (ss : List Str) (z : Str), x = .ref p ∧ vs = [.str z] ∧ SqL X.K H p (ss.map V.str) ∧ Q (.int (ss.count z : Nat)) H) := by
  intro pins s σ H x xs v us Q I rx rxs h
  obtain ⟨p, ss, z, rfl, rfl, hs, q⟩ := h
  cases rx
  obtain ⟨u, rfl, ru⟩ := rxs.one
  obtain ⟨t, rfl⟩ := ru
  obtain ⟨its, rv, ⟨⟨c1, dd, x1, sl⟩, n, ho, hc, hdn, hd⟩, hlen⟩ := I.list hs
  simp only at hc hd
  subst hc hd
  refine call_meets PySem.F.slot_list_count ⟨_, ho, rfl⟩ PySem.F.entry_list_count (PySem.F.args_list_count_2 _ _)
    (SeqAt.list_countAt p its.toArray n dd sl (.str z t) (eqsT z)) ⟨ho, fun y hy => eqsT_at rv y (by simpa using hy), ?_⟩
  have ec : its.toArray.toList.countP (eqsT z) = ss.count z := eqsT_count rv
  refine ⟨.int (ss.count z : Nat), H, I.tok _, ⟨s.toks, ?_⟩, q⟩
  show Value.int ((its.toArray.toList.countP (eqsT z) : Nat) : Int) s.toks = Value.int ((ss.count z : Nat) : Int) s.toks
  rw [ec]
theorem mt_countK {K : PySem.W.Frag} (e : X.K = K) : MtR X "list.count" (fun x vs H Q => ∃ (p : Addr) (ss : List Str) (z : Str), x = .ref p ∧ vs = [.str z] ∧ SqL K H p (ss.map V.str) ∧ Q (.int (ss.count z : Nat)) H) := by
  subst e
  exact mt_countS
end
end BR

namespace Bn
open PySem PySem.Spec PyProof.Rows L2 BR
/-! ### heaps -/
def Kp (b : Addr) (H H' : Hp) : Prop := ∀ a o, a ≠ b → H a = some o → H' a = some o
theorem Kp.refl (b : Addr) (H : Hp) : Kp b H H := fun _ _ _ h => h
theorem Kp.trans {b : Addr} {H H1 H2 : Hp} (x : Kp b H H1) (y : Kp b H1 H2) : Kp b H H2 := fun a o n h => y a o n (x a o n h)
theorem Kp.put {b : Addr} {H : Hp} {o : HO} : Kp b H (upd H b o) := fun a x n h => by
  rw [upd_ne n]
  exact h
theorem Kp.new {b p : Addr} {H : Hp} {o : HO} (h : H p = none) : Kp b H (upd H p o) := fun a x n e => by
  rw [upd_ne (ne_of_none e h)]
  exact e
theorem same_new {H : Hp} {p : Addr} {o : HO} (h : H p = none) : Same H (upd H p o) := fun b x e => by
  rw [upd_ne (ne_of_none e h)]
  exact e
theorem Kp.of_same {b : Addr} {H H' : Hp} (h : Same H H') : Kp b H H' := fun a o _ e => h a o e
theorem Same.kp {b : Addr} {H0 H H' : Hp} (s : Same H0 H) (n : H0 b = none) (k : Kp b H H') : Same H0 H' := fun a o e => k a o (ne_of_none e n) (s a o e)
/-- what is new is changed -/
theorem Same.own {p : Addr} {H0 H : Hp} {o : HO} (s : Same H0 H) (n : H0 p = none) : Same H0 (upd H p o) := fun a x e => by
  rw [upd_ne (ne_of_none e n)]
  exact s a x e
def Bx (H : Hp) (b : Addr) : Prop := ∃ x y z t : Int, H b = some (.lst [.int x, .int y, .int z, .int t])
theorem Bx.same {H H' : Hp} {b : Addr} (h : Bx H b) (s : Same H H') : Bx H' b := by
  obtain ⟨x, y, z, t, e⟩ := h
  exact ⟨x, y, z, t, s _ _ e⟩
theorem Bx.ne {H : Hp} {b p : Addr} (h : Bx H b) (n : H p = none) : b ≠ p := by
  obtain ⟨x, y, z, t, e⟩ := h
  exact ne_of_none e n
structure Kb (b : Addr) (H H' : Hp) : Prop where
  k : Kp b H H'
  x : Bx H' b
theorem Kb.refl {b : Addr} {H : Hp} (h : Bx H b) : Kb b H H := ⟨Kp.refl b H, h⟩
theorem Kb.trans {b : Addr} {H H1 H2 : Hp} (p : Kb b H H1) (q : Kb b H1 H2) : Kb b H H2 := ⟨p.k.trans q.k, q.x⟩
theorem Kb.new {b p : Addr} {H : Hp} {o : HO} (hb : Bx H b) (h : H p = none) : Kb b H (upd H p o) := ⟨Kp.new h, hb.same (same_new h)⟩
theorem Kb.free {b a : Addr} {H H' : Hp} (p : Kb b H H') (h : H' a = none) : H a = none := by
  cases e : H a with
  | none => rfl
  | some o =>
    by_cases q : a = b
    · subst q
      obtain ⟨x, y, z, t, e2⟩ := p.x
      rw [e2] at h
      cases h
    · rw [p.k a o q e] at h
      cases h
theorem Kb.own {b p : Addr} {H H' : Hp} {o : HO} (q : Kb b H H') (h : H p = none) (n : p ≠ b) : Kb b H (upd H' p o) := ⟨fun a x na e => by
  rw [upd_ne (ne_of_none e h)]
  exact q.k a x na e, by
  obtain ⟨x, y, z, t, e2⟩ := q.x
  exact ⟨x, y, z, t, by rw [upd_ne n.symm]; exact e2⟩⟩
theorem line1000 {n : Nat} (h : n ≤ 1000) : n ≤ sizeLine := Nat.le_of_lt (small1000 h)
theorem tYes_in {σ : L2.St} {H : Hp} {f g : Hp → Prop} (h : f H) : tYes σ H fun b H3 => if b = true then f H3 else g H3 := by
  show (if true = true then f H else g H)
  exact iteT h
def lenAt (H : Hp) (l : Addr) : Nat := match H l with
  | some (.lst xs) => xs.length
  | _ => 0
theorem lenAt_of {H : Hp} {l : Addr} {xs : List V} (h : H l = some (.lst xs)) : lenAt H l = xs.length := by
  unfold lenAt
  rw [h]
theorem ne_bx {H : Hp} {b p : Addr} {o : HO} (hb : Bx H b) (h : H p = some o) (hn : ∀ x y z t : Int, o ≠ .lst [.int x, .int y, .int z, .int t]) : p ≠ b := fun e => by
  obtain ⟨x, y, z, t, e2⟩ := hb
  rw [e, e2] at h
  exact hn x y z t (Option.some.inj h).symm
/-! ### texts -/
def okS (x : Str) : Prop := ∀ c ∈ TL.tl x, c < 0x110000
theorem okS_iff (x : Str) : PyData.strOk x = true ↔ okS x := by
  unfold PyData.strOk okS TL.tl
  rw [← Array.all_toList, List.all_eq_true]
  exact ⟨fun h c hc => of_decide_eq_true (h c hc), fun h c hc => decide_eq_true (h c hc)⟩
theorem strs_shaped : ∀ (vs : List Str), (∀ x ∈ vs, okS x) → PyData.canLayAll0 (vs.map PyData.str) = true ∧ PyData.depthAll (vs.map PyData.str) = 0
  | [], _ => ⟨rfl, rfl⟩
  | v :: vs, h => by
    obtain ⟨a, b⟩ := strs_shaped vs fun x hx => h x (List.mem_cons_of_mem _ hx)
    refine ⟨?_, ?_⟩
    · show (PyData.strOk v && PyData.canLayAll0 (vs.map PyData.str)) = true
      rw [a, (okS_iff v).mpr (h v (List.mem_cons_self ..))]
      rfl
    · show max 0 (PyData.depthAll (vs.map PyData.str)) = 0
      rw [b]
      rfl
theorem strs_list_shaped {vs : List Str} (h : ∀ x ∈ vs, okS x) : SeqAt.shaped (.list (vs.map PyData.str)) = true := by
  obtain ⟨a, b⟩ := strs_shaped vs h
  show (PyData.canLayAll0 (vs.map PyData.str) && decide (PyData.depthAll (vs.map PyData.str) + 1 ≤ 64)) = true
  rw [a, b]
  rfl
theorem strs_dp {K : PySem.W.Frag} {H : Hp} : ∀ (vs : List Str), DpAll K H (vs.map V.str) (vs.map PyData.str)
  | [] => .nil
  | v :: vs => .cons (.str v) (strs_dp vs)
theorem strs_nil (vs : List Str) : PyData.eqv (.list (vs.map PyData.str)) (.list []) = vs.isEmpty := by
  cases vs with
  | nil => rfl
  | cons v r => rfl
theorem strs_all {ws : List Str} : ∀ {ys : List V}, (∀ y ∈ ys, y ∈ ws.map V.str) → ∃ vs : List Str, ys = vs.map V.str ∧ ∀ v ∈ vs, v ∈ ws
  | [], _ => ⟨[], rfl, fun v hv => by cases hv⟩
  | y :: ys, h => by
    obtain ⟨vs, e, hv⟩ := strs_all (ys := ys) fun z hz => h z (List.mem_cons_of_mem _ hz)
    obtain ⟨x, hx, ex⟩ := List.mem_map.mp (h y (List.mem_cons_self ..))
    refine ⟨x :: vs, ?_, fun v hv' => ?_⟩
    · rw [List.map_cons, ex, e]
    · rcases List.mem_cons.mp hv' with rfl | q
      · exact hx
      · exact hv v q
theorem map_str_inj : ∀ {vs ws : List Str}, vs.map V.str = ws.map V.str → vs = ws
  | [], [], _ => rfl
  | [], _ :: _, h => by cases h
  | _ :: _, [], h => by cases h
  | v :: vs, w :: ws, h => by
    rw [List.map_cons, List.map_cons] at h
    injection h with h1 h2
    rw [V.str.inj h1, map_str_inj h2]
theorem strs_ne_ints {vs : List Str} (h : 1 ≤ vs.length) : ∀ x y z t : Int, HO.lst (vs.map V.str) ≠ .lst [.int x, .int y, .int z, .int t] := fun x y z t e => by
  cases vs with
  | nil => exact absurd h (by decide)
  | cons v r =>
    injection e with e1
    rw [List.map_cons] at e1
    injection e1 with e2 _
    cases e2
/-! ### features -/
structure FtD where
  n : Str
  vs : List Str
  t : Bool
def FtB (d : FtD) : Prop := 1 ≤ d.vs.length ∧ d.vs.length ≤ 6 ∧ okS d.n ∧ ∀ x ∈ d.vs, okS x
def Ft (H : Hp) (v : V) : Prop := ∃ p l d, v = .ref p ∧ H p = some (.tup [.str d.n, .ref l, .bl d.t]) ∧ H l = some (.lst (d.vs.map V.str)) ∧ FtB d
theorem Ft.kp {b : Addr} {H H' : Hp} {v : V} (h : Ft H v) (hb : Bx H b) (k : Kp b H H') : Ft H' v := by
  obtain ⟨p, l, d, rfl, e1, e2, hB⟩ := h
  exact ⟨p, l, d, rfl, k _ _ (ne_bx hb e1 (fun _ _ _ _ z => by cases z)) e1, k _ _ (ne_bx hb e2 (strs_ne_ints hB.1)) e2, hB⟩
theorem Ft.same {H H' : Hp} {v : V} (h : Ft H v) (s : Same H H') : Ft H' v := by
  obtain ⟨p, l, d, rfl, e1, e2, hB⟩ := h
  exact ⟨p, l, d, rfl, s _ _ e1, s _ _ e2, hB⟩
def NameOf (H : Hp) (v : V) (n : Str) : Prop := ∃ p l t, v = .ref p ∧ H p = some (.tup [.str n, .ref l, .bl t])
/-! ### bundles -/
abbrev BD := List (Str × List Str)
inductive Ents (H : Hp) : List (Key × V) → BD → Prop
  | nil : Ents H [] []
  | cons {l : Addr} {n : Str} {vs : List Str} {kvs : List (Key × V)} {b : BD} : H l = some (.lst (vs.map V.str)) → Ents H kvs b → Ents H ((.inr n, .ref l) :: kvs) ((n, vs) :: b)
theorem Ents.mono {H H' : Hp} {kvs : List (Key × V)} {b : BD} (h : Ents H kvs b) (s : ∀ l xs, H l = some (.lst xs) → (∃ n, (n, V.ref l) ∈ kvs) → H' l = some (.lst xs)) : Ents H' kvs b := by
  induction h with
  | nil => exact .nil
  | cons e _ ih => exact .cons (s _ _ e ⟨_, List.mem_cons_self ..⟩) (ih fun l xs h ⟨n, hm⟩ => s l xs h ⟨n, List.mem_cons_of_mem _ hm⟩)
theorem Ents.same {H H' : Hp} {kvs : List (Key × V)} {b : BD} (h : Ents H kvs b) (s : Same H H') : Ents H' kvs b := h.mono fun l xs e _ => s _ _ e
theorem Ents.length {H : Hp} {kvs : List (Key × V)} {b : BD} (h : Ents H kvs b) : kvs.length = b.length := by
  induction h with
  | nil => rfl
  | cons _ _ ih => simp [ih]
theorem Ents.keys {H : Hp} {kvs : List (Key × V)} {b : BD} (h : Ents H kvs b) : kvs.map (·.1) = b.map fun e => Sum.inr e.1 := by
  induction h with
  | nil => rfl
  | cons _ _ ih => rw [List.map_cons, List.map_cons, ih]
theorem Ents.get {H : Hp} {kvs : List (Key × V)} {b : BD} (h : Ents H kvs b) : ∀ {i : Nat} {k : Key} {v : V}, kvs[i]? = some (k, v) → ∃ n l vs, k = .inr n ∧ v = .ref l ∧ H l = some (.lst (vs.map V.str)) ∧ b[i]? = some (n, vs) := by
  induction h with
  | nil => intro i k v e; simp at e
  | cons hl _ ih =>
    intro i k v e
    cases i with
    | zero =>
      have e' := Option.some.inj e
      cases e'
      exact ⟨_, _, _, rfl, rfl, hl, rfl⟩
    | succ j => exact ih e
theorem Ents.app {H : Hp} {kvs ls : List (Key × V)} {b c : BD} (h : Ents H kvs b) (k : Ents H ls c) : Ents H (kvs ++ ls) (b ++ c) := by
  induction h with
  | nil => exact k
  | cons e _ ih => exact .cons e ih
/-- the values of a name, or none -/
def at? (b : BD) (n : Str) : Option (List Str) := (b.find? fun e => decide (e.1 = n)).map (·.2)
theorem at?_nil (n : Str) : at? [] n = none := rfl
theorem at?_cons (e : Str × List Str) (b : BD) (n : Str) : at? (e :: b) n = if e.1 = n then some e.2 else at? b n := by
  unfold at?
  rw [List.find?_cons]
  by_cases h : e.1 = n
  · rw [if_pos h, decide_eq_true h]
    rfl
  · rw [if_neg h, decide_eq_false h]
theorem Ents.val {H : Hp} {kvs : List (Key × V)} {b : BD} (h : Ents H kvs b) (n : Str) : (at? b n = none ∧ valV kvs (.inr n) = none) ∨ ∃ l vs, at? b n = some vs ∧ valV kvs (.inr n) = some (.ref l) ∧ H l = some (.lst (vs.map V.str)) ∧ (Sum.inr n, V.ref l) ∈ kvs := by
  induction h with
  | nil => exact .inl ⟨rfl, rfl⟩
  | @cons l m vs kvs b e _ ih =>
    by_cases q : m = n
    · subst q
      exact .inr ⟨l, vs, by rw [at?_cons, if_pos rfl], valV_pos rfl, e, List.mem_cons_self ..⟩
    · have q2 : ¬ (Sum.inr m : Key) = Sum.inr n := fun z => q (Sum.inr.inj z)
      rcases ih with ⟨h1, h2⟩ | ⟨l', vs', h1, h2, h3, h4⟩
      · exact .inl ⟨by rw [at?_cons, if_neg q]; exact h1, by rw [valV_neg q2]; exact h2⟩
      · exact .inr ⟨l', vs', by rw [at?_cons, if_neg q]; exact h1, by rw [valV_neg q2]; exact h2, h3, List.mem_cons_of_mem _ h4⟩
theorem at?_none_iff (b : BD) (n : Str) : at? b n = none ↔ n ∉ b.map (·.1) := by
  induction b with
  | nil => exact ⟨fun _ h => (nomatch h), fun _ => rfl⟩
  | cons e b ih =>
    rw [at?_cons, List.map_cons, List.mem_cons]
    by_cases h : e.1 = n
    · rw [if_pos h]
      exact ⟨fun z => by (cases z), fun z => absurd (Or.inl h.symm) z⟩
    · rw [if_neg h, ih]
      exact ⟨fun z q => q.elim (fun y => h y.symm) z, fun z y => z (.inr y)⟩
/-- a bundle's dict: names unlike, lists of one to twenty texts -/
def BdB (b : BD) : Prop := (b.map (·.1)).Nodup ∧ b.length ≤ 200 ∧ ∀ e ∈ b, okS e.1 ∧ 1 ≤ e.2.length ∧ e.2.length ≤ 20 ∧ ∀ x ∈ e.2, okS x
def Bd (H : Hp) (a : Addr) (b : BD) : Prop := ∃ kvs, H a = some (.dK kvs) ∧ Ents H kvs b ∧ BdB b
theorem Bd.same {H H' : Hp} {a : Addr} {b : BD} (h : Bd H a b) (s : Same H H') : Bd H' a b := by
  obtain ⟨kvs, e, x, y⟩ := h
  exact ⟨kvs, s _ _ e, x.same s, y⟩
theorem Ents.vals {H : Hp} {kvs : List (Key × V)} {b : BD} (h : Ents H kvs b) : ∀ {n : Key} {l : Addr}, (n, V.ref l) ∈ kvs → ∃ e ∈ b, H l = some (.lst (e.2.map V.str)) := by
  induction h with
  | nil => intro n l hm; cases hm
  | @cons l' m vs kvs b e _ ih =>
    intro n l hm
    rcases List.mem_cons.mp hm with q | q
    · cases q
      exact ⟨_, List.mem_cons_self .., e⟩
    · obtain ⟨x, hx, hl⟩ := ih q
      exact ⟨x, List.mem_cons_of_mem _ hx, hl⟩
theorem Bd.kp {b : Addr} {H H' : Hp} {a : Addr} {d : BD} (h : Bd H a d) (hb : Bx H b) (k : Kp b H H') : Bd H' a d := by
  obtain ⟨kvs, e, x, y⟩ := h
  refine ⟨kvs, k _ _ (ne_bx hb e (fun _ _ _ _ z => by cases z)) e, x.mono fun l xs hl ⟨n, hm⟩ => k _ _ ?_ hl, y⟩
  obtain ⟨e', he', hl'⟩ := x.vals hm
  exact ne_bx hb hl' (strs_ne_ints (y.2.2 e' he').2.1)
theorem rd_lock {H : Hp} {a d : Addr} {u v : HO} {o : Obj} (ha : H a = some v) (hd : H d = some u) : Rd (upd H d (.frz o u)) a v := by
  by_cases e : a = d
  · subst e
    rw [ha] at hd
    cases hd
    exact .inr ⟨o, upd_same⟩
  · exact .inl (by rw [upd_ne e]; exact ha)
theorem unlock {H : Hp} {d : Addr} {u : HO} {o : Obj} (hd : H d = some u) : upd (upd H d (.frz o u)) d u = H := by
  funext x
  by_cases e : x = d
  · subst e
    rw [upd_same, hd]
  · rw [upd_ne e, upd_ne e]
end Bn

/-! all(elt for target in iter if ..), the element by the layer's own rules, over anything that is walked; the heap may move -/
namespace GX
open PySem PySem.Spec PyProof.Rows L2 GenW

/-- the context of a generator expression's frame that was made at s -/
abbrev gcx (X : Cx) (s : Shared) (H : Hp) (cenv : Env) (fp : List Addr) : Cx :=
  { X with A := X.A.in1.in1.deeper cenv, s_0 := s, H_0 := H, env := cenv, outer := X.stack, stack := cenv :: X.stack, ex := fp, fn := fun _ => false, pn := [], xe := fun _ _ => False }

section
variable {X : Cx} {pins : List (Addr × Obj)} {σ : L2.St} {H : Hp} {s : Shared}
theorem gen_start {scope : Scope} {own : List (Str × Nat)} {fp : List Addr} {h' : Heap} {mm : Str → Option Value} {G : Array GenState} {tk : Nat} {code : Value} (J : Inv X pins σ H s) (blk : BlkOk X.N X.env.scope scope own) (nc : ∀ y ∈ scope.names, y.2 ≠ .cell) (nd : X.N.Nodup)
    (walked : ∀ p ∈ fp, FpOk X pins H p ∧ p < s.heap.objs.size) (frame : h'.Ns s.heap.objs.size mm) (up : ∀ p u, s.heap.get? p = some u → h'.get? p = some u) (bare : AllBare G) :
    Inv (gcx X s H (genEnv scope (cloFrom X.env.cells scope.names []) s.heap.objs.size code builtinsNs X.env) fp) [] (wipe σ (own.map (·.2))) H { s with heap := h', gens := G, toks := tk } := by
  have caught : ∀ n ∈ scope.names, n.2 = .free → ∃ c, X.env.cells.lookup n.1 = some c := fun n hn hf =>
    J.ok.has _ ((blk.free n hn hf).elim .inl .inr)
  -- the closure holds cells of the def alone
  have clo : ∀ {n c}, (n, c) ∈ cloFrom X.env.cells scope.names [] → X.env.cells.lookup n = some c ∧ c < s.heap.objs.size := fun {n c} hin => by
    rcases cloFrom_mem hin with none' | ⟨isFree, rfl⟩
    · exact absurd none' List.not_mem_nil
    · obtain ⟨c₀, at₀⟩ := caught _ isFree rfl
      obtain ⟨val, stands⟩ := J.cell _ _ at₀
      rw [at₀]
      exact ⟨rfl, stands.lt⟩
  generalize env' : genEnv scope (cloFrom X.env.cells scope.names []) s.heap.objs.size code builtinsNs X.env = ge
  have gL : ge.locals = s.heap.objs.size := env' ▸ rfl
  have gC : ge.cells = cloFrom X.env.cells scope.names [] := env' ▸ rfl
  have gS : ge.scope = scope := env' ▸ rfl
  have gF : ge.frame = some ge.locals := env' ▸ rfl
  have down : ∀ {n c}, ge.cells.lookup n = some c → X.env.cells.lookup n = some c ∧ c < s.heap.objs.size := fun {n c} q =>
    clo (PySem.mem_of_lookup (gC ▸ q))
  have freeAt : ∀ {n}, scope.names.lookup n = some .free → ∃ c, ge.cells.lookup n = some c ∧ X.env.cells.lookup n = some c := fun {n} q => by
    obtain ⟨c, inGe⟩ := mem_lookup (cloFrom_has (cells := X.env.cells) (acc := []) (PySem.mem_of_lookup q))
    have inGe' : ge.cells.lookup n = some c := gC ▸ inGe
    exact ⟨c, inGe', (down inGe').1⟩
  have wOk : (gcx X s H ge fp).Ok := {
    mod := J.ok.mod
    kind := by show ge.scope.kind = _; rw [gS]; exact blk.kind
    glob := by show ge.globals = _; rw [← env']; exact J.ok.glob
    blt := by show ge.builtins = _; rw [← env']; rfl
    above := Nat.le_of_eq gL.symm
    inj := fun n n' c q q' => J.ok.inj n n' c (down q).1 (down q').1
    has := fun n kinds => by
      have kinds' : scope.names.lookup n = some .cell ∨ scope.names.lookup n = some .free := gS ▸ kinds
      rcases kinds' with isCell | isFree
      · exact absurd rfl (nc _ (PySem.mem_of_lookup isCell))
      · exact (freeAt isFree).imp fun _ q => q.1
    cab := fun _ _ z _ => absurd z Bool.false_ne_true
    hd := J.ok.hd
    frames := Around.frames_deeper J.ok.frames
    stk := .inr ⟨rfl, gF⟩
    exf := fun p hp => ⟨by show p ≠ ge.locals; rw [gL]; exact Nat.ne_of_lt (walked p hp).2, fun n c q => (walked p hp).1.2.2.2.2.1 n c (down q).1⟩
    bs := J.bs
    bsz := Nat.le_trans J.ok.bsz J.sz
    noex := fun p u q hp => (walked p hp).1.2.2.2.1.elim (J.ok.noex p u q) fun young => Nat.lt_irrefl _ (Nat.lt_of_lt_of_le (Heap.lt_size q) (Nat.le_trans J.ok.bsz young))
    exfs := fun p hp z => (List.mem_cons.mp (J.stkSub p z)).elim (walked p hp).1.2.1 (walked p hp).1.2.2.1
    funs := J.stack
    frf := J.stkFree }
  refine { ok := wOk, os := rfl, bare := bare, base := Un.kept up, loc := ⟨mm, by show Heap.Ns _ ge.locals _; rw [gL]; exact frame, fun k n v atN atS vis => ?_⟩, cell := fun n c q => ?_, free := ?_, freeC := fun n c q => J.freeC n c (down q).1, pin := fun _ none' => absurd none' List.not_mem_nil, hok := J.hok.kept up, len := ?_ }
  · obtain ⟨atS, notOwn⟩ := wipe_some atS
    have isFree : scope.names.lookup n = some .free := by
      have ownNot : ∀ kd, scope.names.lookup n = some kd → ¬ (kd = .local ∨ kd = .cell) := fun kd q two => by
        rcases blk.own _ (PySem.mem_of_lookup q) two with among | out
        · obtain ⟨⟨m₁, k₁⟩, in₁, nm⟩ := List.mem_map.mp among
          have nm' : m₁ = n := nm
          have k₁At := blk.ix _ in₁
          rw [show (m₁, k₁).1 = n from nm'] at k₁At
          exact notOwn (List.mem_map.mpr ⟨_, in₁, nodup_ix nd k₁At atN⟩)
        · exact out (List.mem_of_getElem? atN)
      have vis' : Vis scope n := gS ▸ (show Vis ge.scope n from vis)
      rcases vis' with q | q | q
      · exact absurd (.inl rfl) (ownNot _ q)
      · exact absurd (.inr rfl) (ownNot _ q)
      · exact q
    have inDef := blk.free _ (PySem.mem_of_lookup isFree) rfl
    obtain ⟨_, _, reads⟩ := J.loc
    obtain ⟨val, rel, how⟩ := reads k n v atN atS (.inr inDef)
    obtain ⟨c, c1, c2⟩ := freeAt isFree
    refine ⟨val, rel, .inr ⟨.inr (by show ge.scope.names.lookup n = _; rw [gS]; exact isFree), c, c1, ?_⟩⟩
    rcases how with ⟨isLocal, _⟩ | ⟨_, c₂, c₂At, stands⟩
    · have isLocal' : X.env.scope.names.lookup n = some .local := isLocal
      rw [isLocal'] at inDef
      rcases inDef with q | q <;> cases q
    · rw [c2] at c₂At
      cases c₂At
      exact stands.keeps up
  · obtain ⟨val, stands⟩ := J.cell n c (down q).1
    exact ⟨val, stands.keeps up⟩
  · show H ge.locals = none
    exact gL ▸ J.hok.fresh (Nat.le_refl _)
  · exact (wipe_length σ _).trans J.len
end

/-! ### the protocol -/
section
variable {Y : Cx}
def RG (Y : Cx) (pn : List (Addr × Obj)) (T : Hp → Prop) : GenEnd := fun n s₀ r s₁ => r = .ok .next ∧ ∃ σ H, Inv Y pn σ H s₁ ∧ T H
def YG (Y : Cx) (pn : List (Addr × Obj)) (F : Hp → Prop) : Protocol := fun n s₀ v s kap =>
  ∃ b σ H, v = .bool b ∧ Inv Y pn σ H s ∧ (b = true → ∀ G, AllBare G → kap (.send .none) { s with gens := G }) ∧ (b = false → F H)
theorem inv_gens {pn : List (Addr × Obj)} {σ : L2.St} {H : Hp} {s : Shared} {G : Array GenState} (I : Inv Y pn σ H s) (h : AllBare G) : Inv Y pn σ H { s with gens := G } :=
  I.call' (ch := []) rfl (Un.kept fun _ _ e => e) I.hok h fun b z => by simp at z
theorem inv_kept {pn : List (Addr × Obj)} {σ : L2.St} {H : Hp} {s : Shared} {G : Array GenState} {h' : Heap} (I : Inv Y pn σ H s) (h : AllBare G) (k : ∀ b o, s.heap.get? b = some o → h'.get? b = some o) : Inv Y pn σ H { s with gens := G, heap := h' } :=
  I.call' (ch := []) rfl (Un.kept k) (I.hok.kept k) h fun b z => by simp at z

/-- what a turn of the walk wants -/
def AllTurn (J : It) (g : TG) (tt : TT) (te : TE) (vs : List Nat) (σw : L2.St) (W : Nat → Nat → Hp → Prop) (T F : Hp → Prop) : Prop :=
  ∀ i m H, W i m H → (J.stop i H ∧ T H) ∨ (J.go i H ∧ ∃ Nx : Hp → Prop, (∀ H', Nx H' → ∃ m', m' < m ∧ W (i + 1) m' H') ∧ ∀ x H', J.yld i H x H' → g x σw H' fun σ2 H2 => wipe σ2 vs = σw ∧ tt σ2 H2 fun b H3 =>
    if b = true then te σ2 H3 fun y H4 => ∃ c : Bool, y = .bl c ∧ (c = true → Nx H4) ∧ (c = false → F H4) else Nx H3)

theorem seg_loop {A : Around} {elt tg iter : Expr} {ifs : List Expr} {scope : Scope} {pos : Pos} {it : Addr} {fp : List Addr} {tn : Nat → Heap → Prop} {J : It} {g : TG} {tt : TT} {te : TE} {vs : List Nat} {σw : L2.St} {pn : List (Addr × Obj)} {W : Nat → Nat → Hp → Prop} {T F : Hp → Prop}
    (hov : A.over (.compLoop (.GeneratorExp elt [⟨tg, iter, ifs, 0⟩] scope pos) 0 (.ref it) .none Y.env) [] = Y.A) (hxe : Y.xe = fun _ _ => False) (hcalm : Y.calm = true) (hco : Y.env.scope.isCoroutine = false)
    (Tn : Turn Y.prog Y.w Y.K tg J fp it tn) (pg : PG Y tg g) (pt : PTs Y ifs tt) (pe : PE Y elt te) (hex : ∀ b ∈ fp, b ∈ Y.ex) (hpn : Y.pn = []) (hpins : ∀ p ∈ pn, p.1 ∉ fp) (turn : AllTurn J g tt te vs σw W T F) :
    ∀ (m n i : Nat) (s₀ s : Shared) (H : Hp), m < n → Inv Y pn σw H s → tn i s.heap → (∀ b ∈ fp, H b = none) → W i m H →
      Seg (model Y.prog Y.w) A (RG Y pn T) (YG Y pn F) n s₀ (.compLoop (.GeneratorExp elt [⟨tg, iter, ifs, 0⟩] scope pos) 0 (.ref it) .none Y.env)
        ((model Y.prog Y.w).den (.compLoop (.GeneratorExp elt [⟨tg, iter, ifs, 0⟩] scope pos) 0 (.ref it) .none Y.env)) [] s := by
  have stat : ∀ {σ' : L2.St} {H' : Hp} {s' : Shared}, Inv Y pn σ' H' s' → (∀ b ∈ fp, H' b = none) → ∀ b ∈ fp, FpOk Y pn H' b := fun {σ' H' s'} I' hn b hb =>
    ⟨hn b hb, (I'.ok.exf b (hex b hb)).1, I'.ok.exfs b (hex b hb), .inl (hex b hb), fun x c e => (I'.ok.exf b (hex b hb)).2 x c e, fun p hp => by
      rw [hpn] at hp
      exact fun z => hpins p (by simpa using hp) (by rw [z]; exact hb)⟩
  intro m
  induction m using Nat.strongRecOn with
  | ind m ih =>
    intro n i s₀ s H hmn I st nfp w
    show Seg _ A _ _ _ s₀ _ ((compTurn (.GeneratorExp elt [⟨tg, iter, ifs, 0⟩] scope pos) 0 (.ref it) .none Y.env).onRaise (leaving Y.env)) [] s
    rw [compTurn_gen, Sem.onRaise_eq_wrap]
    refine seg_bind_wrap (wpAny_standAt ?_)
    rcases turn i m H w with ⟨stop, qq⟩ | ⟨go, Nx, hNx, step⟩
    · refine seg_bind_wrap ?_
      rw [hov]
      refine thnF (Tn.done Y rfl rfl rfl hcalm i pn s _ H (fun _ _ => False) I (stat I nfp) st stop) fun r s1 ⟨hr, I1⟩ => ?_
      subst hr
      exact seg_end (.ok .next) ⟨rfl, _, _, I1, qq⟩
    · refine seg_bind_wrap ?_
      rw [hov]
      refine thnF (Tn.item Y rfl rfl rfl hcalm i pn s _ H (fun _ _ => False) I (stat I nfp) st go) fun r s1 ⟨u, hr, h1⟩ => ?_
      subst hr
      refine seg_bind_wrap ?_
      rw [hov]
      refine thnF h1 fun _ s2 ⟨x, H2, I2, r2, y2, st2, n2⟩ => ?_
      have I2' := I2.pinned (stat I2 n2) (Tn.obj _ _ st2)
      have no : ∀ {e : Value} {s' : Shared} {C : Prop}, Y.xe e s' → C := fun {e s' C} h => by
        rw [hxe] at h
        exact h.elim
      refine seg_bind_wrap ?_
      rw [hov]
      refine wpAny_mono (pg.run _ s2 _ H2 x u _ I2' r2 (step x H2 y2)) (fun _ s3 h3 => ?_) fun _ _ e => no e
      obtain ⟨σ3, H3, I3, hw3, q3⟩ := h3
      refine seg_bind_wrap ?_
      rw [hov]
      refine wpAny_mono (pt.run _ s3 σ3 H3 _ I3 q3) (fun b s4 h4 => ?_) fun _ _ e => no e
      obtain ⟨H4, I4, q4⟩ := h4
      -- the turn's end
      have fin : ∀ {s' : Shared} {H' : Hp} {G : Array GenState}, Inv Y (pn ++ pinsAt fp s2.heap) σ3 H' s' → AllBare G → Nx H' → ∃ m', m' < m ∧ Inv Y pn σw H' { s' with gens := G } ∧ tn (i + 1) ({ s' with gens := G } : Shared).heap ∧ (∀ b ∈ fp, H' b = none) ∧ W (i + 1) m' H' := fun {s' H' G} I' hG nx => by
        obtain ⟨m', less, w'⟩ := hNx H' nx
        have pin' : ∀ b ∈ fp, ∀ o, s2.heap.get? b = some o → s'.heap.get? b = some o ∧ H' b = none := fun b hb o e =>
          (I'.pin (b, o) (List.mem_append_right _ (List.mem_append_right _ (mem_pinsAt hb e)))).imp id And.left
        have hl : σw.length = σ3.length := by rw [← hw3, wipe_length]
        refine ⟨m', less, inv_gens ((I'.unpinned (pins := pn)).weak hl (fun j v e => ?_)) hG, Tn.keep _ _ _ st2 fun b hb o e => (pin' b hb o e).1, fun b hb => ?_, w'⟩
        · rw [← hw3] at e
          exact (wipe_some e).1
        · obtain ⟨o, e, _⟩ := Tn.obj _ _ st2 b hb
          exact (pin' b hb o e).2
      cases b with
      | false =>
        simp only [Bool.false_eq_true, if_false] at q4 ⊢
        obtain ⟨m', hm, J1, J2, J3, J4⟩ := fin I4 I4.bare q4
        exact seg_again rfl (ih m' hm n (i + 1) s₀ s4 H4 (by omega) J1 J2 J3 J4)
      | true =>
        simp only [if_true] at q4 ⊢
        have hy : ∀ v, yieldOut Y.env v = yieldValue v := fun v => by simp only [yieldOut, hco, Bool.false_eq_true, if_false]
        simp only [hy]
        rw [Sem.bind_eq_wrap', Sem.bind_eq_wrap', Sem.wrap_wrap, Sem.wrap_wrap]
        refine seg_wrap ?_
        rw [hov]
        refine wpAny_mono (pe.run _ s4 σ3 H4 _ I4 q4) (fun v s5 h5 => ?_) fun _ _ e => no e
        obtain ⟨yv, H5, I5, r5, c, ey, hT, hF⟩ := h5
        subst ey
        obtain rfl : v = Value.bool c := r5
        obtain ⟨n', rfl⟩ : ∃ n', n = n' + 1 := ⟨n - 1, by omega⟩
        refine seg_at (seg_yield rfl rfl rfl ⟨c, σ3, H5, rfl, I5.unpinned (pins := pn), fun hc G hG => ?_, hF⟩)
        obtain ⟨m', hm, J1, J2, J3, J4⟩ := fin I5 hG (hT hc)
        exact seg_again rfl (ih m' hm n' (i + 1) _ _ H5 (by omega) J1 J2 J3 J4)

theorem seg_start {A : Around} {elt tg iter : Expr} {ifs : List Expr} {scope : Scope} {pos : Pos} {it : Addr} {fp : List Addr} {tn : Nat → Heap → Prop} {J : It} {n i : Nat} {R : GenEnd} {Yp : Protocol} {s₀ s : Shared} {cenv : Env} {P : Program} {w : World} {K : PySem.W.Frag}
    (Tn : Turn P w K tg J fp it tn) (st : tn i s.heap)
    (loop : Seg (model P w) A R Yp n s₀ (.compLoop (.GeneratorExp elt [⟨tg, iter, ifs, 0⟩] scope pos) 0 (.ref it) .none cenv) ((model P w).den (.compLoop (.GeneratorExp elt [⟨tg, iter, ifs, 0⟩] scope pos) 0 (.ref it) .none cenv)) [] s) :
    Seg (model P w) A R Yp n s₀ (.compStart (.GeneratorExp elt [⟨tg, iter, ifs, 0⟩] scope pos) 0 (.ref it) .none cenv) ((model P w).den (.compStart (.GeneratorExp elt [⟨tg, iter, ifs, 0⟩] scope pos) 0 (.ref it) .none cenv)) [] s := by
  show Seg _ A _ _ _ s₀ _ ((compStart (.GeneratorExp elt [⟨tg, iter, ifs, 0⟩] scope pos) 0 (.ref it) .none cenv).onRaise (leaving cenv)) [] s
  unfold compStart
  rw [Sem.onRaise_eq_wrap]
  show Seg _ A _ _ _ s₀ _ ((ask >>= _).wrap _ _ _ _) [] s
  refine seg_bind_wrap (wpAny_askSetting ?_)
  split
  · exact seg_again rfl loop
  · first
      | exact seg_bind_wrap (wpAny_rule (seg_bind_wrap (wpAny_standAt (seg_bind_wrap (Tn.self _ i s _ _ st (seg_again rfl loop))))))
      | (refine seg_bind_wrap (wpAny_rule ?_); show Seg _ A _ _ _ s₀ _ ((standAt iter.pos >>= _).wrap _ _ _ _) [] s; exact seg_bind_wrap (wpAny_standAt (seg_bind_wrap (Tn.self _ i s _ _ st (seg_again rfl loop)))))

/-! ### all's loop -/
theorem all_loop {A : Around} {R : Result → Shared → Prop} {a : Addr} {g : Nat} {pn : List (Addr × Obj)} {T F : Hp → Prop} (hh : A.handled = none) (hd : A.depth < recursionLimit)
    (hgen : ∀ σ H s, Inv Y pn σ H s → s.heap.IsGen a g) (hT : ∀ σ H s, Inv Y pn σ H s → T H → R (.ok (.ret (.bool true))) s) (hF : ∀ σ H s, Inv Y pn σ H s → F H → R (.ok (.ret (.bool false))) s) :
    ∀ (n : Nat) (s : Shared), s.heap.IsGen a g → s.heap.NoLimit → (∃ gs, s.gens[g]? = some gs ∧ gs.Goes (model Y.prog Y.w) A.in1.in1 (RG Y pn T) (YG Y pn F) n (.send .none) (s.setGen g .running)) →
      codeAny (model Y.prog Y.w) A (.builtin "all.loop" ⟨[.ref a], []⟩) R s := by
  intro n
  induction n with
  | zero =>
    intro s hg hl ⟨gs, hgs, hgo⟩
    refine codeAny_builtin PySem.F.entry_all_loop ?_
    rw [Around.under_plainId PySem.F.plain_all_loop _]
    show wpAny _ A.in1 (pyNext (.ref a) >>= _) _ _ s
    refine wpAny_bind (wpAny_pyNext_genexpQ (A := A.in1) (P := fun _ _ s₁ => ∃ σ H, Inv Y pn σ H s₁ ∧ T H) hh hl hd hg hgs hgo (fun v s₁ gs' hb hv => ?_) (fun s₁ hp h' hk => ?_))
    · obtain ⟨b, σ, H, rfl, I, h1, h2⟩ := hv
      cases b with
      | true => exact (h1 rfl _ I.bare).elim
      | false =>
        refine wpAny_bind (wpAny_holding (wpAny_truthy_bool ?_))
        refine wpAny_bind (wpAny_letGo ?_)
        simp only [Bool.false_eq_true, if_false]
        exact wpAny_bind (wpAny_rule (wpAny_pure (hF σ H _ (inv_gens I (allBare_setGen I.bare hb)) (h2 rfl))))
    · obtain ⟨σ, H, I, q⟩ := hp
      exact wpAny_bind (wpAny_rule (wpAny_pure (hT σ H _ (inv_kept (s := s₁) (G := (s₁.setGen g .finished).gens) I (allBare_setGen I.bare rfl) hk) q)))
  | succ n ih =>
    intro s hg hl ⟨gs, hgs, hgo⟩
    have hgl : g < s.gens.size := (Array.getElem?_eq_some_iff.mp hgs).1
    refine codeAny_builtin PySem.F.entry_all_loop ?_
    rw [Around.under_plainId PySem.F.plain_all_loop _]
    show wpAny _ A.in1 (pyNext (.ref a) >>= _) _ _ s
    refine wpAny_bind (wpAny_gsz (n := g + 1) hgl (wpAny_pyNext_genexpQ (A := A.in1) (P := fun _ _ s₁ => ∃ σ H, Inv Y pn σ H s₁ ∧ T H) hh hl hd hg hgs hgo (fun v s₁ gs' hb hv => ?_) (fun s₁ hp h' hk => ?_)))
    · intro hsz
      obtain ⟨b, σ, H, rfl, I, h1, h2⟩ := hv
      refine wpAny_bind (wpAny_holding (wpAny_truthy_bool ?_))
      refine wpAny_bind (wpAny_letGo ?_)
      cases b with
      | true =>
        simp only [if_true]
        have hsz1 : g < s₁.gens.size := by
          have q : (s₁.setGen g gs').gens.size = s₁.gens.size := setGen_size _ _ _
          have hsz' : g + 1 ≤ (s₁.setGen g gs').gens.size := hsz
          omega
        refine wpAny_pure ⟨plainId_quiet PySem.F.plain_all_loop _, ih (s₁.setGen g gs') (hgen σ H _ (inv_gens I (allBare_setGen I.bare hb))) (show s₁.heap.NoLimit from I.nolimit) ⟨gs', setGen_at hsz1, ?_⟩⟩
        exact h1 rfl _ (allBare_setGen (s := s₁.setGen g gs') (allBare_setGen I.bare hb) rfl)
      | false =>
        simp only [Bool.false_eq_true, if_false]
        exact wpAny_bind (wpAny_rule (wpAny_pure (hF σ H _ (inv_gens I (allBare_setGen I.bare hb)) (h2 rfl))))
    · intro hsz
      obtain ⟨σ, H, I, q⟩ := hp
      exact wpAny_bind (wpAny_rule (wpAny_pure (hT σ H _ (inv_kept (s := s₁) (G := (s₁.setGen g .finished).gens) I (allBare_setGen I.bare rfl) hk) q)))
end
end GX

namespace GX
open PySem PySem.Spec PyProof.Rows L2 GenW
/-- all(elt for tg in iter if ..): behind it the def's table may have grown -/
def tAll (P : Addr) (wi : TI) (g : TG) (tt : TT) (te : TE) (vs : List Nat) : TE := fun σ H Q => wi σ H fun J H1 => GxR.TabG H1 P ∧ ∀ H2, GxR.Tabbed P H1 H2 →
  ∃ W : Nat → Nat → Hp → Prop, (∃ m, W 0 m H2) ∧ AllTurn J g tt te vs (wipe σ vs) W (fun H' => Q (.bl true) H') (fun H' => Q (.bl false) H')
section
variable {X : Cx}
theorem pe_all {c P : Addr} {elt tg iter : Expr} {ifs : List Expr} {scope : Scope} {own : List (Str × Nat)} {p pos gpos : Pos} {wi : TI} {g : TG} {tt : TT} {te : TE} {k : Nat}
    (hr : Room k X.A) (hgl : Gl X "all") (hm : X.mg "all" = none) (hb : bootBuiltins "all" = some (.builtin "all")) (TB : GxR.TabB X.base X.mg c P) (hcode : X.env.code = .ref c) (hc : X.calm = true) (hN : X.N.Nodup) (hi : PI X tg iter wi) (ok : BlkOk X.N X.env.scope scope own)
    (hco : scope.isCoroutine = false) (nc : ∀ y ∈ scope.names, y.2 ≠ .cell) (h0 : scope.names.lookup (".0" : Str) = some NameKind.local)
    (hg : ∀ (s : Shared) (H : Hp) (C : Addr) (cl : List (Str × Addr)) (code : Value) (fp : List Addr), PG (gcx X s H (genEnv scope cl C code builtinsNs X.env) fp) tg g)
    (ht : ∀ (s : Shared) (H : Hp) (C : Addr) (cl : List (Str × Addr)) (code : Value) (fp : List Addr), PTs (gcx X s H (genEnv scope cl C code builtinsNs X.env) fp) ifs tt)
    (he : ∀ (s : Shared) (H : Hp) (C : Addr) (cl : List (Str × Addr)) (code : Value) (fp : List Addr), PE (gcx X s H (genEnv scope cl C code builtinsNs X.env) fp) elt te)
    (hs : ∀ v, genFold iter X.env v = pure v := by intro _; rfl)
    (hst : starEach [.GeneratorExp elt [⟨tg, iter, ifs, 0⟩] scope gpos] X.env = (false, eval (.GeneratorExp elt [⟨tg, iter, ifs, 0⟩] scope gpos) X.env) :: starEach [] X.env := by rfl) :
    PE X (.Call (.Name "all" p) [.GeneratorExp elt [⟨tg, iter, ifs, 0⟩] scope gpos] [] pos) (tAll P wi g tt te (own.map (·.2))) := by
  refine ⟨fun pins s σ H Q I h => ?_⟩
  have caught : ∀ n ∈ scope.names, n.2 = .free → ∃ c, X.env.cells.lookup n.1 = some c := fun n hn hf => I.ok.has _ ((ok.free n hn hf).elim .inl .inr)
  refine wpAny_Call_Name_kw (ld_blt I hgl hm hb ?_)
  refine PyProof.Rows.callWith_builtin1 ?_ hst (by rfl)
  rw [hst]
  show wpAny _ _ (spliced ((false, eval (.GeneratorExp elt [⟨tg, iter, ifs, 0⟩] scope gpos) X.env) :: backTo pos (starEach [] X.env))) _ _ s
  refine Calls.spliced_cons ?_
  refine wpAny_GeneratorExp_make hco (closure_ok caught) nc h0 ok.kind hr.depth ?_ hs
  refine thn (hi.run pins s σ H _ I h) fun xv s1 hx => thn hx fun itv s2 h2 => ?_
  obtain ⟨it, fp, tn, J, H2, e, I2, T, st2, f2, ⟨ps, hP, ht2⟩, q⟩ := h2
  subst e
  refine ⟨I2.nolimit, ?_⟩
  have hPs : s2.heap.get? P = some { cls := .none, data := .fields ps } := I2.hok P _ hP
  have cd : PySem.W.CodeHd s2.heap c P := TB.code.keeps fun b u e => I2.bk b u e
  have nfP : ∀ b ∈ fp, b ≠ P := fun b hb z => by
    have := (f2 b hb).1
    rw [z, hP] at this
    cases this
  -- behind the code object
  have cont : ∀ (code : Value) (h3 : Heap) (tk : Nat) (ps' : Array Value), Heap.ExtBut P s2.heap h3 → s2.heap.objs.size ≤ h3.objs.size → h3.get? P = some { cls := .none, data := .fields ps' } → (∃ more, ps' = ps ++ more) → TriplesOk ps'.toList →
      wpAny (model X.prog X.w) X.A (builtinsFor X.env.globals X.env.builtins) (fun bi s₄ => ∀ h', h'.Ns s₄.heap.objs.size (fun y => if y = ".0" then some (.ref it) else none) → Heap.SameBut s₄.heap.objs.size (s₄.heap.push { cls := .type "frame", data := .dict #[] }) h' →
          wpAny (model X.prog X.w) X.A (spliced (backTo pos (starEach [] X.env))) (fun vs s6 => wpAny (model X.prog X.w) X.A (call (.builtin "all") (.ref h'.objs.size :: vs)) (EP X pins σ Q) X.xe s6) X.xe { s₄ with
            gens := s₄.gens.push (.fresh (.compStart (.GeneratorExp elt [⟨tg, iter, ifs, 0⟩] scope gpos) 0 (.ref it) .none (genEnv scope (cloFrom X.env.cells scope.names []) s₄.heap.objs.size code bi X.env))),
            toks := s₄.toks + 1 + 1 + 1,
            heap := h'.push { cls := .type "generator", data := .fields #[.int s₄.gens.size 0, .str "<genexpr>" (s₄.toks + 1), .str (X.env.qual ++ "<genexpr>") (s₄.toks + 1 + 1)] } }) X.xe { s2 with heap := h3, toks := tk } := by
    intro code h3 tk ps' hx hsz hP3 ⟨more, em⟩ ht3
    obtain ⟨bmod, bobj, i1, i2, i3, i4, i5, i6, i7, i8⟩ := TB.bm
    have keep3 : ∀ b u, b ≠ P → s2.heap.get? b = some u → h3.get? b = some u := fun b u hb e => hx b u hb e
    refine wpAny_builtinsFor (m := X.mg) (by rw [I2.ok.glob]; exact (I2.mod.glob.keeps I2.bk).extBut hx TB.gP) i1 i2 (keep3 _ _ i4 (I2.bk _ _ i5)) i6 i7 i8 ?_
    intro h' hn' hs'
    -- the state ahead of the frame
    have I3 := GxR.inv_tab (more := more) (h' := h3) (g' := s2.gens) (d' := s2.drawn) (t' := tk) I2 hP (fun b u hb e => keep3 b u hb e) (by rw [← em]; exact hP3) I2.bare
    have hTab : GxR.Tabbed P H2 (upd H2 P (.tbl (ps ++ more))) := ⟨⟨ps ++ more, upd_same, by rw [← em]; exact ht3⟩, fun b hb => upd_ne hb⟩
    obtain ⟨W, ⟨m0, w0⟩, turn⟩ := q _ hTab
    generalize upd H2 P (.tbl (ps ++ more)) = H3 at I3 w0 hTab
    have st3 : tn 0 h3 := T.keep _ _ _ st2 fun b hb o e => keep3 b o (nfP b hb) e
    have f3 : ∀ b ∈ fp, FpOk X pins H3 b ∧ b < h3.objs.size := fun b hb => by
      obtain ⟨o, e, _⟩ := T.obj _ _ st3 b hb
      exact ⟨⟨by rw [hTab.2 b (nfP b hb)]; exact (f2 b hb).1, (f2 b hb).2⟩, Heap.lt_size e⟩
    generalize hs3 : ({ s2 with heap := h3, toks := tk } : Shared) = s3 at I3
    have es3 : h3 = s3.heap := by rw [← hs3]
    have hn'' : h'.Ns s3.heap.objs.size (fun y => if y = ".0" then some (.ref it) else none) := by rw [← es3]; exact hn'
    have hs'' : Heap.SameBut s3.heap.objs.size (s3.heap.push { cls := .type "frame", data := .dict #[] }) h' := by rw [← es3]; exact hs'
    rw [es3] at st3 f3
    show wpAny _ _ _ _ _ { s3 with
            gens := s3.gens.push (.fresh (.compStart (.GeneratorExp elt [⟨tg, iter, ifs, 0⟩] scope gpos) 0 (.ref it) .none (genEnv scope (cloFrom X.env.cells scope.names []) s3.heap.objs.size code builtinsNs X.env))),
            toks := s3.toks + 1 + 1 + 1,
            heap := h'.push { cls := .type "generator", data := .fields #[.int s3.gens.size 0, .str "<genexpr>" (s3.toks + 1), .str (X.env.qual ++ "<genexpr>") (s3.toks + 1 + 1)] } }
    have kp : ∀ b o, s3.heap.get? b = some o → h'.get? b = some o := fun b o e => hs''.extBut b o (Nat.ne_of_lt (Heap.lt_size e)) (Heap.get?_push_of_some _ e)
    have hsz' : h'.objs.size = s3.heap.objs.size + 1 := by rw [hs''.1, Heap.size_push]
    generalize hgo : ({ cls := .type "generator", data := .fields #[.int s3.gens.size 0, .str "<genexpr>" (s3.toks + 1), .str (X.env.qual ++ "<genexpr>") (s3.toks + 1 + 1)] } : Obj) = go
    have hgen0 : ∀ h : Heap, h.get? h'.objs.size = some go → h.IsGen h'.objs.size s3.gens.size := fun h e => ⟨go, _, _, e, by rw [← hgo], by rw [← hgo], by rw [← hgo]⟩
    have ngo : ∀ v, go.data ≠ .cell v := fun v z => by
      rw [← hgo] at z
      cases z
    have hpush : (h'.push go).get? h'.objs.size = some go := by
      rw [← hgo]
      exact Heap.get?_push_size _ rfl
    have kp2 : ∀ b o, s3.heap.get? b = some o → (h'.push go).get? b = some o := fun b o e => Heap.get?_push_of_some _ (kp b o e)
    have pg := hg s3 H3 s3.heap.objs.size (cloFrom X.env.cells scope.names []) code fp
    have pt := ht s3 H3 s3.heap.objs.size (cloFrom X.env.cells scope.names []) code fp
    have pe := he s3 H3 s3.heap.objs.size (cloFrom X.env.cells scope.names []) code fp
    have I4 := gen_start (code := code) (tk := s3.toks + 1 + 1 + 1) (h' := h'.push go) (G := s3.gens.push (.fresh (.compStart (.GeneratorExp elt [⟨tg, iter, ifs, 0⟩] scope gpos) 0 (.ref it) .none (genEnv scope (cloFrom X.env.cells scope.names []) s3.heap.objs.size code builtinsNs X.env)))) I3 ok nc hN f3 (hn''.push _) kp2 (AllBare.push I3.bare rfl)
    generalize hce : genEnv scope (cloFrom X.env.cells scope.names []) s3.heap.objs.size code builtinsNs X.env = ce at pg pt pe I4 ⊢
    have cL : ce.locals = s3.heap.objs.size := by subst hce; rfl
    have cS : ce.scope = scope := by subst hce; rfl
    have hgH : H3 h'.objs.size = none := I3.hok.fresh (by rw [hsz']; exact Nat.le_succ _)
    have nfs : h'.objs.size ∉ frs X.stack := fun z => by
      rcases List.mem_cons.mp (I3.stkSub _ z) with z | z
      · have := I3.lt
        rw [← z, hsz'] at this
        exact absurd (Nat.lt_of_succ_lt this) (Nat.lt_irrefl _)
      · exact I3.nofs (by rw [hsz']; exact Nat.le_succ _) z
    have I5 := I4.pins_of (pins' := [(h'.objs.size, go)]) fun p hp => by
      rw [List.mem_singleton.mp hp]
      refine ⟨hpush, hgH, ?_, nfs, ngo⟩
      show h'.objs.size ≠ ce.locals
      rw [cL, hsz']
      exact Nat.succ_ne_self _
    generalize hs5 : ({ s3 with heap := h'.push go, gens := s3.gens.push (.fresh (.compStart (.GeneratorExp elt [⟨tg, iter, ifs, 0⟩] scope gpos) 0 (.ref it) .none ce)), toks := s3.toks + 1 + 1 + 1 } : Shared) = s5 at I5
    have st5 : tn 0 s5.heap := T.keep _ _ _ st3 fun b _ o e => by rw [← hs5]; exact kp2 b o e
    have back : ∀ σ' H' s', Inv (gcx X s3 H3 ce fp) [(h'.objs.size, go)] σ' H' s' → Inv X pins σ H' s' := fun σ' H' s' I6 =>
      I3.call' (ch := fp) I6.os I6.base I6.hok I6.bare fun b hb => ⟨(f3 b hb).1.2.2.2.1, (f3 b hb).1.2.1, (f3 b hb).1.2.2.2.2.1, (f3 b hb).1.2.2.2.2.2⟩
    have hgen : ∀ σ' H' s', Inv (gcx X s3 H3 ce fp) [(h'.objs.size, go)] σ' H' s' → s'.heap.IsGen h'.objs.size s3.gens.size := fun σ' H' s' I6 =>
      hgen0 _ (I6.pin (h'.objs.size, go) (List.mem_append_right _ (List.mem_singleton.mpr rfl))).1
    have hgs : s5.gens[s3.gens.size]? = some (.fresh (.compStart (.GeneratorExp elt [⟨tg, iter, ifs, 0⟩] scope gpos) 0 (.ref it) .none ce)) := by
      rw [← hs5]
      exact Array.getElem?_push_size ..
    have seg : Seg (model X.prog X.w) X.A.in1.in1 (RG (gcx X s3 H3 ce fp) [(h'.objs.size, go)] fun H' => Q (.bl true) H') (YG (gcx X s3 H3 ce fp) [(h'.objs.size, go)] fun H' => Q (.bl false) H') (m0 + 1) (s5.setGen s3.gens.size .running)
        (.compStart (.GeneratorExp elt [⟨tg, iter, ifs, 0⟩] scope gpos) 0 (.ref it) .none ce) ((model X.prog X.w).den (.compStart (.GeneratorExp elt [⟨tg, iter, ifs, 0⟩] scope gpos) 0 (.ref it) .none ce)) [] (s5.setGen s3.gens.size .running) := by
      refine seg_start (i := 0) T st5 ?_
      exact seg_loop (Y := gcx X s3 H3 ce fp) (vs := own.map (·.2)) rfl rfl hc (by show ce.scope.isCoroutine = false; rw [cS]; exact hco) T pg pt pe (fun b hb => hb) rfl (fun p hp hb => by
          rw [List.mem_singleton.mp hp] at hb
          have := (f3 _ hb).2
          have z : h'.objs.size < s3.heap.objs.size := this
          rw [hsz'] at z
          omega) turn m0 (m0 + 1) 0 _ _ H3 (Nat.lt_succ_self _) (inv_gens I5 (allBare_setGen I5.bare rfl)) st5 (fun b hb => (f3 b hb).1.1) w0
    refine Calls.spliced_nil ?_
    refine call_function_tree F.kind_all F.plain_all F.entry_all (F.args_all1 _) ?_
    unfold Builtin.«all»
    refine wpAny_bind (m := oneArg "all" _) (wpAny_pure ?_)
    refine wpAny_bind (wpAny_pyIter_gen (hgen _ _ _ I5) ?_)
    refine wpAny_pure ⟨plainId_quiet F.plain_all_loop _, ?_⟩
    refine all_loop (Y := gcx X s3 H3 ce fp) (T := fun H' => Q (.bl true) H') (F := fun H' => Q (.bl false) H') hr.hd hr.depth hgen (fun σ' H' s' I6 hq => ?_) (fun σ' H' s' I6 hq => ?_) (m0 + 1) s5 (hgen _ _ _ I5) I5.nolimit ⟨_, hgs, rfl, seg⟩
    · exact ⟨.bl true, H', back _ _ _ I6, rfl, hq⟩
    · exact ⟨.bl false, H', back _ _ _ I6, rfl, hq⟩
  cases hf : codeAmong gpos ps.toList with
  | none =>
    refine wpAny_genexprCodeX hcode (cd.code hPs ht2) (cd.tab hPs) hf fun c' h' tk hx hge hlt hco' _ htab' _ => ?_
    have trip := hco'.choose_spec.choose_spec.choose_spec.choose_spec.choose_spec.choose_spec.choose_spec.choose_spec.choose_spec.choose_spec.2.2.2.2.2.2.2.2.2.1
    exact cont _ h' tk _ hx (Nat.le_trans hge (Nat.le_of_lt hlt)) htab'.2 ⟨#[_, _, _], rfl⟩ trip
  | some cv =>
    refine wpAny_genexprCode_hit hcode (cd.code hPs ht2) hf ?_
    exact cont cv s2.heap s2.toks ps (Heap.ExtBut.refl _ _) (Nat.le_refl _) hPs ⟨#[], by simp⟩ ht2
end
end GX

namespace GX
open PySem PySem.Spec PyProof.Rows L2 GenW
/-- all(..) over a walk -/
theorem all_it {J : It} {n : Nat} {G : Hp → Prop} {Y : Nat → Hp → V → Hp → Prop} (w : Walk J n G Y) {g : TG} {tt : TT} {te : TE} {vs : List Nat} {σw : L2.St} {H2 : Hp} {T F : Hp → Prop} (Pv : Nat → Hp → Prop) (h0 : Pv 0 H2) (hG : ∀ i H, i ≤ n → Pv i H → G H)
    (hs : ∀ i x H H', i < n → Pv i H → Y i H x H' → g x σw H' fun σ2 H2 => wipe σ2 vs = σw ∧ tt σ2 H2 fun b H3 => if b = true then te σ2 H3 fun y H4 => ∃ c : Bool, y = .bl c ∧ (c = true → Pv (i + 1) H4) ∧ (c = false → F H4) else Pv (i + 1) H3) (hd : ∀ H, Pv n H → T H) :
    ∃ W : Nat → Nat → Hp → Prop, (∃ m, W 0 m H2) ∧ AllTurn J g tt te vs σw W T F := by
  refine ⟨fun i left H => i + left = n ∧ Pv i H, ⟨n, Nat.zero_add n, h0⟩, fun i left H ⟨sum, pv⟩ => ?_⟩
  have good := hG i H (by omega) pv
  cases left with
  | zero =>
    have last : i = n := sum
    subst last
    exact .inl ⟨w.stops H good, hd H pv⟩
  | succ left =>
    have below : i < n := by omega
    exact .inr ⟨w.goes i H below good, Pv (i + 1), fun H' pv' => ⟨left, Nat.lt_succ_self _, by omega, pv'⟩, fun x H' y => hs i x H H' below pv (w.yields i H x H' below good y)⟩
/-! ### tables -/
def NT (o : HO) : Prop := ∀ q, o ≠ .tbl q
theorem nt_lst {xs : List V} : NT (.lst xs) := fun _ z => by cases z
theorem nt_tup {xs : List V} : NT (.tup xs) := fun _ z => by cases z
theorem nt_dK {xs : List (Key × V)} : NT (.dK xs) := fun _ z => by cases z
theorem nt_frz {o : Obj} {u : HO} : NT (.frz o u) := fun _ z => by cases z
def Tabs (Ps : List Addr) (H : Hp) : Prop := ∀ P ∈ Ps, GxR.TabG H P
/-- all is kept but the tables, which may have grown -/
structure SameN (Ps : List Addr) (H H' : Hp) : Prop where
  k : ∀ x y, NT y → H x = some y → H' x = some y
  q : ∀ x p, H x = some (.tbl p) → ∃ p', H' x = some (.tbl p')
  t : Tabs Ps H'
section
variable {Ps : List Addr} {H H' H1 H2 : Hp}
theorem SameN.refl (t : Tabs Ps H) : SameN Ps H H := ⟨fun _ _ _ e => e, fun _ p e => ⟨p, e⟩, t⟩
theorem SameN.trans (a : SameN Ps H H1) (b : SameN Ps H1 H2) : SameN Ps H H2 := ⟨fun x y n e => b.k x y n (a.k x y n e), fun x p e => let ⟨p', e'⟩ := a.q x p e; b.q x p' e', b.t⟩
theorem Tabs.same (t : Tabs Ps H) (s : Same H H') : Tabs Ps H' := fun P hP => let ⟨ps, e, h⟩ := t P hP; ⟨ps, s _ _ e, h⟩
theorem SameN.of (t : Tabs Ps H) (s : Same H H') : SameN Ps H H' := ⟨fun x y _ e => s x y e, fun x p e => ⟨p, s _ _ e⟩, t.same s⟩
theorem SameN.tab {P : Addr} (t : Tabs Ps H) (hP : P ∈ Ps) (s : GxR.Tabbed P H H') : SameN Ps H H' := by
  obtain ⟨ps, e0, _⟩ := t P hP
  refine ⟨fun x y n e => ?_, fun x p e => ?_, fun P' hP' => ?_⟩
  · rw [s.2 x fun z => by rw [z, e0] at e; exact n ps (Option.some.inj e).symm]
    exact e
  · by_cases z : x = P
    · obtain ⟨ps', e', _⟩ := s.1
      exact ⟨ps', by rw [z]; exact e'⟩
    · exact ⟨p, by rw [s.2 x z]; exact e⟩
  · by_cases z : P' = P
    · rw [z]
      exact s.1
    · obtain ⟨ps', e', h'⟩ := t P' hP'
      exact ⟨ps', by rw [s.2 P' z]; exact e', h'⟩
theorem SameN.free {p : Addr} (s : SameN Ps H H') (h : H' p = none) : H p = none := by
  cases e : H p with
  | none => rfl
  | some o =>
    by_cases z : ∃ q, o = .tbl q
    · obtain ⟨q, rfl⟩ := z
      obtain ⟨q', e'⟩ := s.q p q e
      rw [e'] at h
      cases h
    · rw [s.k p o (fun q y => z ⟨q, y⟩) e] at h
      cases h
theorem SameN.unlock {a : Addr} {u : HO} {o : Obj} (ha : H a = some u) (hu : NT u) (t : Tabs Ps H) (s : SameN Ps (upd H a (.frz o u)) H') : SameN Ps H (upd H' a u) := by
  have hP : ∀ P ∈ Ps, P ≠ a := fun P h z => by
    obtain ⟨ps, e, _⟩ := t P h
    rw [z, ha] at e
    exact hu ps (Option.some.inj e)
  refine ⟨fun x y n e => ?_, fun x p e => ?_, fun P h => ?_⟩
  · by_cases c : x = a
    · subst c
      rw [upd_same, ← ha]
      exact e
    · rw [upd_ne c]
      exact s.k _ _ n (by rw [upd_ne c]; exact e)
  · by_cases c : x = a
    · subst c
      rw [ha] at e
      exact absurd (Option.some.inj e) (hu p)
    · rw [upd_ne c]
      exact s.q _ _ (by rw [upd_ne c]; exact e)
  · obtain ⟨ps, e, h'⟩ := s.t P h
    exact ⟨ps, by rw [upd_ne (hP P h)]; exact e, h'⟩
theorem Tabs.lock {a : Addr} {u : HO} {o : Obj} (ha : H a = some u) (hu : NT u) (t : Tabs Ps H) : Tabs Ps (upd H a (.frz o u)) := fun P h => by
  obtain ⟨ps, e, h'⟩ := t P h
  refine ⟨ps, ?_, h'⟩
  rw [upd_ne fun z => by rw [z, ha] at e; exact hu ps (Option.some.inj e)]
  exact e
end
/-! ### a def whose code object is known -/
structure FunC (K : PySem.W.Frag) (x qual : Str) (st : Stmt) (f : Addr) (fd : FuncData) (c : Addr) : Prop where
  ex : ∃ (oc : Value) (od : Option Addr) (kV doc pm : Value) (an : Option Addr) (ct : Value) (osl : Array (Option Value)),
    fd = PySem.W.fnOf x qual (defArgs st) (defBody st) (defScope st) .none kV doc pm an (.ref c) ct ∧ K.lookup f = some ⟨oc, od, .func fd, osl⟩ ∧ PySem.W.codeIn K (.ref c) qual = true
  kp : PySem.W.keepIn K (.ref f) = true
section
variable {P : Program} {w : World} {K : PySem.W.Frag} {mg : Str → Option Value} {base : Heap}
theorem FunC.ok {x qual : Str} {st : Stmt} {f c : Addr} {fd : FuncData} {N ps : List Str} {k : Nat} {sp : Sp} (F : FunC K x qual st f fd c) (S : FnScope N ps (defScope st)) (len : ∀ vs H Q E, sp vs H Q E → vs.length = ps.length)
    (hbody : ∀ (A : Around) (outer : List Env) (s : Shared) (H : Hp) (vs : List V) (Q : VK) (E : XK), Room k (A.deeper (envOfC qual (defScope st) s.heap.objs.size f (.ref c))) → sp vs H Q E →
      ∃ t, PSs (cxOf CX0 P w K mg base N qual (defScope st) f (.ref c) A outer s H E).nox (defBody st) t ∧ t { nx := fun _ H' => Q .non H', rt := Q } (start N vs) H) : FnOk P w K mg base CX0 (k + 1) f fd ps sp := by
  obtain ⟨oc, od, kV, doc, pm, an, ct, osl, rfl, lk, hcd⟩ := F.ex
  exact fn_of lk hcd S len fun A outer s H vs Q E room said => (hbody A outer s H vs Q E room said).imp fun _ h => ⟨h.1.nox, h.2⟩
theorem FunC.fun {x qual : Str} {st : Stmt} {f c : Addr} {fd : FuncData} (F : FunC K x qual st f fd c) : Fun K x qual st f fd := by
  obtain ⟨oc, od, kV, doc, pm, an, ct, osl, e, lk, hcd⟩ := F.ex
  exact ⟨⟨oc, od, kV, doc, pm, an, _, ct, osl, e, lk, hcd⟩, F.kp⟩
end
/-! ### the end -/
/-- the table of the code object cd is not among what is written -/
def tabFree (K : PySem.W.Frag) (cd : Value) : Bool := match cd with
  | .ref c => (match K.lookup c with
      | some ⟨_, _, .fields vs, _⟩ => (match vs.toList.drop 11 with | .ref P :: _ => (K.lookup P).isNone | _ => false)
      | _ => false)
  | _ => false
/-- the def x's code object at c, its table at P, empty -/
def TabOf (K : PySem.W.Frag) (cd : Value) (h : Heap) (c P : Addr) : Prop := cd = .ref c ∧ h.get? P = some { cls := .none, data := .fields #[] } ∧ K.lookup P = none ∧ PySem.W.CodeHd h c P
def TabsTop (q : Program) (mg : Str → Option Value) (h : Heap) : Prop := ∀ d ∈ recsOf q, ∃ a o fd c P, mg d.name = some (.ref a) ∧ h.get? a = some o ∧ o.data = .func fd ∧ fd.code = .ref c ∧ h.IsCode c P #[] ∧ h.TableAt c P #[]
theorem tabOf {q : Program} {K : PySem.W.Frag} {mg : Str → Option Value} {h : Heap} {x : Str} {f : Addr} {params : Arguments} {body : List Stmt} {scope : Scope} {dV kV doc pm cd ct oc : Value} {an od : Option Addr} {osl : Array (Option Value)} {qual name : Str}
    (X : K.In h) (T : TabsTop q mg h) (hx : ((recsOf q).any fun e => e.name == x) = true) (hm : mg x = some (.ref f)) (lk : K.lookup f = some ⟨oc, od, .func (PySem.W.fnOf name qual params body scope dV kV doc pm an cd ct), osl⟩) (ht : tabFree K cd = true) :
    ∃ c P, TabOf K cd h c P := by
  obtain ⟨dL, hmem, hn1⟩ := List.any_eq_true.mp hx
  have hn2 : dL.name = x := beq_iff_eq.mp hn1
  obtain ⟨a', o', fd', c', P', h1, h2, h3, h4, h5, h6⟩ := T dL hmem
  rw [hn2, hm] at h1
  cases h1
  have g1 := X _ _ lk
  rw [g1] at h2
  cases h2
  have h3' : Data.func (PySem.W.fnOf name qual params body scope dV kV doc pm an cd ct) = .func fd' := h3
  cases h3'
  have h4' : cd = .ref c' := h4
  subst h4'
  refine ⟨c', P', rfl, h6.2, ?_, .of h5 h6⟩
  obtain ⟨⟨oc', vc, e1, _, e3, e4⟩, _⟩ := h6
  unfold tabFree at ht
  dsimp only at ht
  split at ht
  · rename_i vs sl hk
    have g2 := X _ _ hk
    rw [g2] at e1
    cases e1
    have e3' : Data.fields vs = .fields vc := e3
    cases e3'
    split at ht
    · rename_i P2 r hd
      have e5 : vc.toList[11]? = some (.ref P2) := by
        have : (vc.toList.drop 11)[0]? = some (.ref P2) := by rw [hd]; rfl
        rw [List.getElem?_drop] at this
        exact this
      rw [Array.getElem?_toList, e4] at e5
      cases e5
      exact Option.isNone_iff_eq_none.mp ht
    · cases ht
  · cases ht
theorem walk_ofTabs {l : PySem.W.OpenLaw} {n k : Nat} {q : Program} {loose : List Str} {XP : (Str → Option Value) → Heap → Prop} {YP : World → Heap → Prop} {d : DefRec} {K : Params → PySem.W.Frag} {CX : World → CXT} {x : Str}
    (most : l.most = some n) (small : n ≤ sizeLine) (plain : d.params.defaults = []) (room : Room k callerA) (hY : ∀ (w : World) (h : Heap), YP w h → (K w.params).In h)
    (F : ∀ (w : World) (mg : Str → Option Value) (fa : Addr) (h : Heap), (K w.params).In h → h.Ns mainGlobals mg → mg d.name = some (.ref fa) → TabsTop q mg h → LamX.LawAtS l w (K w.params) (CX w) k n x mg fa h)
    (calm : ∀ (w : World) (H : Hp) (s : Shared) (x : Value) (s' : Shared), CX w [] H s (fun _ _ _ => False) x s' → False) : PySem.W.WalkO q loose XP YP l.row.toRowW d [] (fun f vs => PySem.call f vs) := by
  refine Att.attach_callB most plain fun w _ s₁ mg _ fa _ _ _ _ a _ ns G Y _ _ _ hmg lstAt intsAt lenAt' bitsAt gensAt => ?_
  have KX := hY w _ Y
  obtain ⟨fd, cs, sp, hT, nT, C, hb, hsp, hF⟩ := F w mg fa _ KX G.T.g hmg G.T.tab
  exact LamX.law_callTs KX G.T.g G.T.b G.T.builtins G.T.nolimit gensAt hT nT C G.T.bmain lstAt intsAt (Nat.le_trans lenAt' small) room hF hb (fun H tabs sq => hsp H a ns lenAt' bitsAt tabs sq) fun H x s' => calm w H s₁ x s'
theorem tabB_of {base : Heap} {mg : Str → Option Value} {c P : Addr} (t : LamX.TabB base mg c P) : GxR.TabB base mg c P := ⟨t.code, t.bm, t.gP⟩
end GX

/-! rules of my own: zip of a list and a tuple, y = {k: v for ..}, != of lists of data and dicts -/
namespace RM
open PySem PySem.Spec PyProof.Rows L2
/-- a list at a and a tuple at b, walked together -/
def ItzM (K : PySem.W.Frag) (a b : Addr) (xs ys : List V) : It where
  go := fun i H => SqL K H a xs ∧ SqT K H b ys ∧ i < xs.length ∧ i < ys.length
  yld := fun i H v H' => ∃ T x y, v = .ref T ∧ H T = none ∧ H' = upd H T (.tup [x, y]) ∧ xs[i]? = some x ∧ ys[i]? = some y
  stop := fun i H => SqL K H a xs ∧ SqT K H b ys ∧ i ≤ xs.length ∧ i ≤ ys.length ∧ (i = xs.length ∨ i = ys.length)
theorem off_ne (n : Nat) {i j : Nat} (h : i ≠ j) : n + i ≠ n + j := by omega
theorem old_ne {n a : Nat} (h : a < n) (i : Nat) : n + i ≠ a := by omega
theorem sep_mix {a b : Addr} (n : Nat) (ha : Nat.lt a n) (hb : Nat.lt b n) : ZipSep2 (n + 4) (n + 2) (n + 3) n (n + 1) [n, a] [n + 1, b] where
  TIz := off_ne n (by decide)
  TOz := off_ne n (by decide)
  TITO := off_ne n (by decide)
  TIi1 := off_ne n (j := 0) (by decide)
  mem1 := List.mem_cons_self ..
  zf1 := fun z => (List.mem_cons.mp z).elim (off_ne n (j := 0) (by decide)) fun z => old_ne ha 4 (List.mem_singleton.mp z)
  Tf1 := fun z => (List.mem_cons.mp z).elim (off_ne n (j := 0) (by decide)) fun z => old_ne ha 3 (List.mem_singleton.mp z)
  TIi2 := off_ne n (by decide)
  mem2 := List.mem_cons_self ..
  zf2 := fun z => (List.mem_cons.mp z).elim (off_ne n (by decide)) fun z => old_ne hb 4 (List.mem_singleton.mp z)
  Tf2 := fun z => (List.mem_cons.mp z).elim (off_ne n (by decide)) fun z => old_ne hb 3 (List.mem_singleton.mp z)
  sep1_2 := fun z => (List.mem_cons.mp z).elim (off_ne n (i := 0) (by decide)) fun z => old_ne hb 0 (List.mem_singleton.mp z)
  sep2_1 := fun z => (List.mem_cons.mp z).elim (off_ne n (j := 0) (by decide)) fun z => old_ne ha 1 (List.mem_singleton.mp z)
theorem turn_zipM {P : Program} {w : World} {K : PySem.W.Frag} {elts : List Expr} {kk : Nat} {tpos : Pos} {a b z TI TO i1 i2 : Addr} {xs ys : List V} (S : ZipSep2 z TI TO i1 i2 [i1, a] [i2, b]) (na : a ≠ i1) (nb : b ≠ i2) :
    Turn P w K (.Tuple elts kk tpos) (ItzM K a b xs ys) [z, TI, TO, i1, i2] z (fun i h => IsZip h z TI TO .none ∧ IsTupOf2 h TI (.ref i1) (.ref i2) ∧ (∃ x y, IsTupOf2 h TO x y) ∧ h.IsListIter i1 a i ∧ h.IsTupleIter i2 b i) where
  mem := List.mem_cons_self ..
  obj := fun i h st c hc => by
    obtain ⟨sz, sI, ⟨x, y, sO⟩, ⟨o1, e1, _, d1⟩, o2, e2, _, d2⟩ := st
    have five : c = z ∨ c = TI ∨ c = TO ∨ c = i1 ∨ c = i2 := by simpa using hc
    rcases five with rfl | rfl | rfl | rfl | rfl
    · exact ⟨_, sz, fun _ no => nomatch no⟩
    · exact ⟨_, sI, fun _ no => nomatch no⟩
    · exact ⟨_, sO, fun _ no => nomatch no⟩
    · exact ⟨o1, e1, fun _ no => by rw [d1] at no; cases no⟩
    · exact ⟨o2, e2, fun _ no => by rw [d2] at no; cases no⟩
  keep := fun i h h' ⟨sz, sI, ⟨x, y, sO⟩, s1, s2⟩ up =>
    ⟨up z (by simp) _ sz, up TI (by simp) _ sI, ⟨x, y, up TO (by simp) _ sO⟩, s1.at fun o q => up i1 (by simp) o q, s2.at fun o q => up i2 (by simp) o q⟩
  item := by
    intro X eP ew eK calm i pins s σ H E J foot st go
    subst eP ew eK
    obtain ⟨sz, sI, ⟨x0, y0, sO⟩, s1, s2⟩ := st
    obtain ⟨qx, qy, lx, ly⟩ := go
    obtain ⟨us, rx, px, _⟩ := J.list qx
    obtain ⟨vs, ry, py, _⟩ := J.tuple qy
    have hh : X.A.in1.handled = none := J.ok.hd calm
    have lu : i < us.toArray.size := by rw [List.size_toArray, ← rx.length]; exact lx
    have lv : i < vs.toArray.size := by rw [List.size_toArray, ← ry.length]; exact ly
    have zlt : z < s.heap.objs.size := Heap.lt_size sz
    refine wpAny_pyNext_zipD2_item S (Draws.list hh i1 a na us.toArray) (Draws.tuple hh i2 b nb vs.toArray) sz sI sO ⟨s1, px.isList⟩ ⟨s2, py⟩ lu lv fun u v h' tk hu hv zz oo t1 t2 pr _ same => ?_
    refine ⟨_, rfl, wpAny_letOwnedTupleGo_zip (s := { s with heap := h', toks := tk }) zz fun h2 z2 sb => ?_⟩
    have gx : xs[i]? = some xs[i] := List.getElem?_eq_getElem lx
    have gy : ys[i]? = some ys[i] := List.getElem?_eq_getElem ly
    obtain ⟨u', hu', ru⟩ := rx.get gx
    obtain ⟨v', hv', rv⟩ := ry.get gy
    have hu2 : us[i]? = some u := by simpa using hu
    have hv2 : vs[i]? = some v := by simpa using hv
    rw [hu2] at hu'
    rw [hv2] at hv'
    cases hu'
    cases hv'
    have pr2 : h2.get? s.heap.objs.size = some { cls := .type "tuple", data := .seq #[u, v] } := (sb.2 _ (Nat.ne_of_gt zlt)).trans pr
    have fits : ObjOk X.prog X.w (upd H s.heap.objs.size (.tup [xs[i], ys[i]])) h2 s.heap.objs.size (.tup [xs[i], ys[i]]) :=
      ⟨(by show 2 ≤ sizeLine; decide), [u, v], .cons ru (.cons rv .nil), _, pr2, rfl, _, rfl⟩
    have J2 : Inv X pins σ (upd H s.heap.objs.size (.tup [xs[i], ys[i]])) { s with heap := h2, toks := tk } :=
      J.turnedNew (t' := tk) (ch := [z, TI, TO, i1, i2]) (fun c o out q => (sb.2 c fun e => out (by simp [e])).trans (same c o (fun e => out (by simp [e])) (fun e => out (by simp [e])) (fun e => out (by simp [e])) (fun e => out (by simp [e])) q)) foot (Nat.le_refl _) fits
    refine ⟨.ref s.heap.objs.size, _, J2, rfl, ⟨_, xs[i], ys[i], rfl, J.hok.fresh (Nat.le_refl _), rfl, gx, gy⟩, ⟨z2, ?_, ⟨u, v, ?_⟩, ?_, ?_⟩, fun c hc => ?_⟩
    · exact (sb.2 _ S.TIz).trans (same _ _ S.TIz S.TITO S.TIi1 S.TIi2 sI)
    · exact (sb.2 _ S.TOz).trans oo
    · exact t1.1.at fun o q => (sb.2 _ S.zi1.symm).trans q
    · exact t2.1.at fun o q => (sb.2 _ S.zi2.symm).trans q
    · have five : c = z ∨ c = TI ∨ c = TO ∨ c = i1 ∨ c = i2 := by simpa using hc
      have clt : c < s.heap.objs.size := by
        rcases five with rfl | rfl | rfl | rfl | rfl
        · exact zlt
        · exact Heap.lt_size sI
        · exact Heap.lt_size sO
        · exact Heap.lt_size s1.choose_spec.1
        · exact Heap.lt_size s2.choose_spec.1
      rw [upd_ne (Nat.ne_of_lt clt)]
      exact (foot c hc).1
  done := by
    intro X eP ew eK calm i pins s σ H E J foot st stop
    subst eP ew eK
    obtain ⟨sz, sI, ⟨x0, y0, sO⟩, s1, s2⟩ := st
    obtain ⟨qx, qy, lx, ly, fin⟩ := stop
    obtain ⟨us, rx, px, _⟩ := J.list qx
    obtain ⟨vs, ry, py, _⟩ := J.tuple qy
    have hh : X.A.in1.handled = none := J.ok.hd calm
    have nu : us.toArray.size = xs.length := by rw [List.size_toArray, ← rx.length]
    have nv : vs.toArray.size = ys.length := by rw [List.size_toArray, ← ry.length]
    refine wpAny_pyNext_zipD2_end S (Draws.list hh i1 a na us.toArray) (Draws.tuple hh i2 b nb vs.toArray) sz sI sO ⟨s1, px.isList⟩ ⟨s2, py⟩ (by rw [nu]; exact lx) (by rw [nv]; exact ly) (by rw [nu, nv]; exact fin) fun h' tk same => ?_
    exact ⟨rfl, J.turnedL (t' := tk) (ch := [z, TI, TO, i1, i2]) (fun c o out q => same c o (fun e => out (by simp [e])) (fun e => out (by simp [e])) (fun e => out (by simp [e])) (fun e => out (by simp [e])) q) foot⟩
  self := fun _ _ _ _ _ st q => wpAny_pyIter_zip st.1 q
def iZipM (K : PySem.W.Frag) (ta : TA) : TI := fun σ H R => ta σ H fun vs H1 => ∃ a b xs ys, vs = [.ref a, .ref b] ∧ SqL K H1 a xs ∧ SqT K H1 b ys ∧ R (ItzM K a b xs ys) H1
theorem pi_zipM {X : Cx} {e e2 : Expr} {ta : TA} {p pos tpos : Pos} {elts : List Expr} {kk : Nat} (glo : Gl X "zip") (own : X.mg "zip" = none) (args : PA X [e, e2] ta)
    (st1 : starEach [e, e2] X.env = (false, eval e X.env) :: starEach [e2] X.env := by rfl) (st2 : (backTo pos (starEach [e2] X.env)).any (·.1) = false := by rfl) :
    PI X (.Tuple elts kk tpos) (.Call (.Name "zip" p) [e, e2] [] pos) (iZipM X.K ta) := by
  refine ⟨fun pins s σ H R J h => Call_ (ld_blt J glo own PyProof.Rows.boot_zip (PyProof.Rows.callWith_type1 (thn (args.run pos pins s σ H _ J h) fun us s1 ⟨vs, H1, J1, r1, a, b, xs, ys, ev, qx, qy, q⟩ => ?_) st1 st2))⟩
  subst ev
  cases r1 with
  | cons ra rest =>
    cases rest with
    | cons rb none' =>
      cases none'
      cases ra
      cases rb
      obtain ⟨its, _, px, _⟩ := J1.list qx
      obtain ⟨its2, _, py, _⟩ := J1.tuple qy
      have la : a < s1.heap.objs.size := px.lt
      have lb : b < s1.heap.objs.size := Heap.lt_size py.choose_spec.1
      refine zip_begins2 (begins_list a its.toArray) (begins_tuple b its2.toArray) px.isList py fun h' zz tI tO o1 o2 _ up => wpAny_pyIter_zip zz ?_
      have J2 : Inv X pins σ H1 { s1 with heap := h' } := J1.kept (t' := s1.toks) up
      refine ⟨s1.heap.objs.size + 4, [s1.heap.objs.size + 4, s1.heap.objs.size + 2, s1.heap.objs.size + 3, s1.heap.objs.size, s1.heap.objs.size + 1], _, _, H1, rfl, J2, turn_zipM (sep_mix _ la lb) (Nat.ne_of_lt la) (Nat.ne_of_lt (Nat.lt_succ_of_lt lb)), ⟨zz, tI, ⟨_, _, tO⟩, ⟨_, o1, rfl, rfl⟩, _, o2, rfl, rfl⟩, fun c hc => ?_, q⟩
      have old : s1.heap.objs.size ≤ c := by
        have five : c = s1.heap.objs.size + 4 ∨ c = s1.heap.objs.size + 2 ∨ c = s1.heap.objs.size + 3 ∨ c = s1.heap.objs.size ∨ c = s1.heap.objs.size + 1 := by simpa using hc
        rcases five with rfl | rfl | rfl | rfl | rfl
        · exact Nat.le_add_right _ 4
        · exact Nat.le_add_right _ 2
        · exact Nat.le_add_right _ 3
        · exact Nat.le_refl _
        · exact Nat.le_add_right _ 1
      exact J1.fpOk old (J1.hok.fresh old)
/-- both of one length -/
theorem walk_zipM {K : PySem.W.Frag} {a b : Addr} {xs ys : List V} (hl : xs.length = ys.length) : Walk (ItzM K a b xs ys) xs.length (fun H => SqL K H a xs ∧ SqT K H b ys) (YPair (fun i => xs[i]?) (fun i => ys[i]?)) :=
  ⟨fun i H hi q => ⟨q.1, q.2, hi, by omega⟩, fun H q => ⟨q.1, q.2, Nat.le_refl _, by omega, .inl rfl⟩, fun _ _ _ _ _ _ y => y⟩
section
variable {X : Cx}
/-- y = {k: v for ..}, y a local -/
theorem ps_setDc {i : Nat} {y : Str} {py : Pos} {kx vx tg iter : Expr} {ifs : List Expr} {scope : Scope} {own : List (Str × Nat)} {pos spos : Pos} {wi : TI} {g : TG} {tt : TT} {tk tv : TE} (calm : X.calm = true) (nd : X.N.Nodup) (slot : X.N[i]? = some y) (here : X.env.scope.names.lookup y = some .local)
    (sw : swapsWith (.DictComp kx vx [⟨tg, iter, ifs, 0⟩] scope pos) (some (.Name y py)) spos.line X.env = pure true) (hi : PI X tg iter wi) (blk : BlkOk X.N X.env.scope scope own)
    (hg : ∀ (s : Shared) (H : Hp) (C : Addr) (cl : List (PySem.Str × Addr)) (fp : List Addr), PG (X.blk s H scope (compEnvC scope cl C X.env) fp) tg g) (ht : ∀ (s : Shared) (H : Hp) (C : Addr) (cl : List (PySem.Str × Addr)) (fp : List Addr), PTs (X.blk s H scope (compEnvC scope cl C X.env) fp) ifs tt)
    (hk : ∀ (s : Shared) (H : Hp) (C : Addr) (cl : List (PySem.Str × Addr)) (fp : List Addr), PE (X.blk s H scope (compEnvC scope cl C X.env) fp) kx tk)
    (hv : ∀ (s : Shared) (H : Hp) (C : Addr) (cl : List (PySem.Str × Addr)) (fp : List Addr), PE (X.blk s H scope (compEnvC scope cl C X.env) fp) vx tv) (fold : ∀ x, foldedSetIterable iter X.env x = pure x := by intro _; rfl) :
    PS X (.Assign [.Name y py] (.DictComp kx vx [⟨tg, iter, ifs, 0⟩] scope pos) spos) (tAsg (tDc wi g tt tk tv (own.map (·.2))) (gName i)) := by
  refine ⟨fun pins s σ H D J h => ?_⟩
  rw [exec_Assign_Name_used _ _ _ _ sw]
  refine wpAny_bind (wpAny_standAt (wpAny_bind ?_))
  have want : tDc wi g tt tk tv (own.map (·.2)) σ H (fun x H1 => gName i x σ H1 D.nx) := h
  show wpAny _ X.A (do let _ ← comprehension (.DictComp kx vx [⟨tg, iter, ifs, 0⟩] scope pos) scope X.env (firstIterPos [⟨tg, iter, ifs, 0⟩] pos) newDict false (eval iter X.env) (some (assign (.Name y py) X.env))) _ _ s
  refine wpAny_bind (thn (dc_core (Qf := fun _ s' => SP X pins D .next s') calm nd J hi blk hg ht hk hv fold want fun L C s' m H' J' q ns fp => ?_) fun _ s' hq => wpAny_pure (wpAny_pure hq))
  obtain ⟨f0, f1, _, f3, f4, f5⟩ := fp
  show wpAny _ _ (assign (.Name y py) X.env (.ref L)) _ _ _
  refine wpAny_assign_Name (store_ok2 (v := V.ref L) J' nd slot (.inl here) rfl (fun s2 J2 ⟨a, sb, ha⟩ => ?_) (.inr here))
  have apart : C ≠ a := ha.elim (fun z => by rw [z]; exact f1) fun z e => f4 y a z e.symm
  exact ⟨m, ns.sameBut sb apart, fun h3 sb3 => ⟨_, H', J2.turned (t' := s2.toks) (fun b o hb e => (sb3.2 b hb).trans e) f0 f1 f3 f4 f5, q⟩⟩
theorem sw_dict {kx vx : Expr} {gs : List Comprehension} {scope : Scope} {pos py : Pos} {y : Str} {l : Nat} {env : Env} (fn : env.scope.kind = .function) (here : env.scope.names.lookup y = some .local) (line : (py.line == pos.line) = true)
    (off : (scope.names.any fun (n, k) => n == y && (k == .local || k == .cell)) = false) : swapsWith (.DictComp kx vx gs scope pos) (some (.Name y py)) l env = pure true := by
  have k1 : env.kindOf y = some .local := here
  have k2 : env.blockKind = .function := by unfold Env.blockKind; rw [fn]; rfl
  unfold swapsWith
  simp only [k2, k1, off, Expr.pos, line]
  rfl
/-- such a comprehension over a walk -/
theorem dc_it {J : It} {n : Nat} {G : Hp → Prop} {Y : Nat → Hp → V → Hp → Prop} (wk : Walk J n G Y) {g : TG} {tt : TT} {tk tv : TE} {vs : List Nat} {σ : L2.St} {H1 : Hp} {D : Addr} {Qd : Hp → Prop} (Pv : Nat → Hp → Prop) (h0 : Pv 0 (upd H1 D (.dK []))) (hG : ∀ i H, i ≤ n → Pv i H → G H)
    (hs : ∀ i x H H', i < n → Pv i H → Y i H x H' → g x (wipe σ vs) H' fun σ2 H2 => wipe σ2 vs = wipe σ vs ∧ tt σ2 H2 fun b H3 =>
      if b = true then tk σ2 H3 fun y H4 => tv σ2 H4 fun z H5 => ∃ kvs k, y = kV k ∧ H5 D = some (.dK kvs) ∧ kvs.length < sizeLine ∧ Pv (i + 1) (upd H5 D (.dK (putK kvs k z))) else Pv (i + 1) H3) (hd : ∀ H, Pv n H → Qd H) :
    ∃ W : Nat → Nat → Hp → Prop, (∃ m, W 0 m (upd H1 D (.dK []))) ∧ ∀ i m H, W i m H →
      (J.stop i H ∧ Qd H) ∨ (J.go i H ∧ ∃ Nx : Hp → Prop, (∀ H', Nx H' → ∃ m', m' < m ∧ W (i + 1) m' H') ∧ ∀ x H', J.yld i H x H' → g x (wipe σ vs) H' fun σ2 H2 => wipe σ2 vs = wipe σ vs ∧ tt σ2 H2 fun b H3 =>
        if b = true then tk σ2 H3 fun y H4 => tv σ2 H4 fun z H5 => ∃ kvs k, y = kV k ∧ H5 D = some (.dK kvs) ∧ kvs.length < sizeLine ∧ Nx (upd H5 D (.dK (putK kvs k z))) else Nx H3) := by
  refine ⟨fun i left H => i + left = n ∧ Pv i H, ⟨n, Nat.zero_add n, h0⟩, fun i left H ⟨sum, pv⟩ => ?_⟩
  have good := hG i H (by omega) pv
  cases left with
  | zero =>
    have last : i = n := sum
    subst last
    exact .inl ⟨wk.stops H good, hd H pv⟩
  | succ left =>
    have below : i < n := by omega
    exact .inr ⟨wk.goes i H below good, Pv (i + 1), fun H' pv' => ⟨left, Nat.lt_succ_self _, by omega, pv'⟩, fun x H' y => hs i x H H' below pv (wk.yields i H x H' below good y)⟩
/-! lists of data and of dicts -/
/-- one and the same data, or equal by EqV -/
def EqW (K : PySem.W.Frag) (H : Hp) (n : Nat) (x y : V) : Prop := (∃ d, Dp K H x d ∧ Dp K H y d ∧ d.canLay0 = true ∧ d.depth ≤ 60) ∨ EqV K H n x y
theorem eqW_run {pins : List (Addr × Obj)} {σ : L2.St} {H : Hp} {s : Shared} (J : Inv X pins σ H s) (n : Nat) (A : Around) (hn : n ≤ 60) (hu : A.units + 60 < cLine) (x y : V) (v u : Value) (h : EqW X.K H n x y) (rx : RelV x v) (ry : RelV y u) : SeqAt.EqP X.prog X.w A s v u true := by
  rcases h with ⟨d, dx, dy, can, dep⟩ | h
  · obtain ⟨as, ra⟩ := Dp.reads J d x v dx rx
    obtain ⟨bs, rb⟩ := Dp.reads J d y u dy ry
    have e := SeqAt.eqAt_reads d d A s v u as bs ra rb can can (by rw [Nat.min_self]; omega)
    rw [SeqAt.eqv_refl d can] at e
    exact e.eqP
  · exact eqV_run J n A (by omega) x y v u h rx ry
def rNeW (K : PySem.W.Frag) : R2 := fun x y H Q => ∃ a b xs ys n, x = .ref a ∧ y = .ref b ∧ SqL K H a xs ∧ SqL K H b ys ∧ n ≤ 60 ∧ Paired (EqW K H n) xs ys ∧ Q (.bl false) H
theorem op_neW (hu : X.A.units + 64 < cLine) : OpR X (compareOp .NotEq) (rNeW X.K) := by
  intro pins s σ H x y v u Q J rx ry h
  obtain ⟨a, b, xs, ys, n, rfl, rfl, ha, hb, hn, hp, q⟩ := h
  cases (show v = Value.ref a from rx)
  cases (show u = Value.ref b from ry)
  obtain ⟨us, r1, p1, _⟩ := J.list ha
  obtain ⟨ws, r2, p2, _⟩ := J.list hb
  have size : us.toArray.size = ws.toArray.size := by
    rw [List.size_toArray, List.size_toArray, ← r1.length, ← r2.length]
    exact Paired.length hp
  refine SeqAt.my_rcNe p1.isList p2.isList size (by omega) (fun j h1 h2 => ?_) _ _ ⟨.bl false, H, J, rfl, q⟩
  have k := items_run (eqW_run J n X.A.in1 (by omega) (by show X.A.units + 1 + 60 < cLine; omega)) hp r1 r2 j (by simpa using h1) (by simpa using h2)
  simpa using k
end
end RM

namespace RM
open PySem PySem.Spec PyProof.Rows L2
/-- the second clause's loop -/
def In2 (J1 : It) (g1 : TG) (tt1 : TT) (te : TE) (vs1 : List Nat) (D : Addr) (σ2 : L2.St) (H4 : Hp) (Nx : Hp → Prop) : Prop :=
  ∃ W1 : Nat → Nat → Hp → Prop, (∃ m, W1 0 m H4) ∧ ∀ j k H, W1 j k H →
      (J1.stop j H ∧ Nx H) ∨ (J1.go j H ∧ ∃ Nx1 : Hp → Prop, (∀ H', Nx1 H' → ∃ k', k' < k ∧ W1 (j + 1) k' H') ∧ ∀ x H', J1.yld j H x H' → g1 x (wipe σ2 vs1) H' fun σ3 H5 => wipe σ3 vs1 = wipe σ2 vs1 ∧ tt1 σ3 H5 fun b H6 =>
        if b = true then te σ3 H6 fun y H7 => ∃ acc, H7 D = some (.lst acc) ∧ acc.length < sizeLine ∧ Nx1 (upd H7 D (.lst (acc ++ [y]))) else Nx1 H6)
theorem in2_it {J : It} {n : Nat} {G : Hp → Prop} {Y : Nat → Hp → V → Hp → Prop} (wk : Walk J n G Y) {g : TG} {tt : TT} {te : TE} {vs : List Nat} {σ : L2.St} {H1 : Hp} {D : Addr} {Nx : Hp → Prop} (Pv : Nat → Hp → Prop) (h0 : Pv 0 H1) (hG : ∀ i H, i ≤ n → Pv i H → G H)
    (hs : ∀ i x H H', i < n → Pv i H → Y i H x H' → g x (wipe σ vs) H' fun σ2 H2 => wipe σ2 vs = wipe σ vs ∧ tt σ2 H2 fun b H3 =>
      if b = true then te σ2 H3 fun y H4 => ∃ acc, H4 D = some (.lst acc) ∧ acc.length < sizeLine ∧ Pv (i + 1) (upd H4 D (.lst (acc ++ [y]))) else Pv (i + 1) H3) (hd : ∀ H, Pv n H → Nx H) : In2 J g tt te vs D σ H1 Nx := by
  refine ⟨fun i left H => i + left = n ∧ Pv i H, ⟨n, Nat.zero_add n, h0⟩, fun i left H ⟨sum, pv⟩ => ?_⟩
  have good := hG i H (by omega) pv
  cases left with
  | zero =>
    have last : i = n := sum
    subst last
    exact .inl ⟨wk.stops H good, hd H pv⟩
  | succ left =>
    have below : i < n := by omega
    exact .inr ⟨wk.goes i H below good, Pv (i + 1), fun H' pv' => ⟨left, Nat.lt_succ_self _, by omega, pv'⟩, fun x H' y => hs i x H H' below pv (wk.yields i H x H' below good y)⟩
theorem lc2_it {J : It} {n : Nat} {G : Hp → Prop} {Y : Nat → Hp → V → Hp → Prop} (wk : Walk J n G Y) {g g1 : TG} {tt tt1 : TT} {wi1 : TI} {te : TE} {vs vs1 : List Nat} {σ : L2.St} {H1 : Hp} {D : Addr} {Qd : Hp → Prop} (Pv : Nat → Hp → Prop) (h0 : Pv 0 (upd H1 D (.lst []))) (hG : ∀ i H, i ≤ n → Pv i H → G H)
    (hs : ∀ i x H H', i < n → Pv i H → Y i H x H' → g x (wipe σ vs) H' fun σ2 H2 => wipe σ2 vs = wipe σ vs ∧ tt σ2 H2 fun b H3 => if b = true then wi1 σ2 H3 fun J1 H4 => In2 J1 g1 tt1 te vs1 D σ2 H4 (Pv (i + 1)) else Pv (i + 1) H3) (hd : ∀ H, Pv n H → Qd H) :
    ∃ W : Nat → Nat → Hp → Prop, (∃ m, W 0 m (upd H1 D (.lst []))) ∧ ∀ i m H, W i m H →
      (J.stop i H ∧ Qd H) ∨ (J.go i H ∧ ∃ Nx : Hp → Prop, (∀ H', Nx H' → ∃ m', m' < m ∧ W (i + 1) m' H') ∧ ∀ x H', J.yld i H x H' → g x (wipe σ vs) H' fun σ2 H2 => wipe σ2 vs = wipe σ vs ∧ tt σ2 H2 fun b H3 => if b = true then wi1 σ2 H3 fun J1 H4 => In2 J1 g1 tt1 te vs1 D σ2 H4 Nx else Nx H3) := by
  refine ⟨fun i left H => i + left = n ∧ Pv i H, ⟨n, Nat.zero_add n, h0⟩, fun i left H ⟨sum, pv⟩ => ?_⟩
  have good := hG i H (by omega) pv
  cases left with
  | zero =>
    have last : i = n := sum
    subst last
    exact .inl ⟨wk.stops H good, hd H pv⟩
  | succ left =>
    have below : i < n := by omega
    exact .inr ⟨wk.goes i H below good, Pv (i + 1), fun H' pv' => ⟨left, Nat.lt_succ_self _, by omega, pv'⟩, fun x H' y => hs i x H H' below pv (wk.yields i H x H' below good y)⟩
end RM

namespace RM
open PySem PySem.Spec PyProof.Rows L2
section
variable {X : Cx}
/-- keys of the one, each with the same data in the other -/
def SameD (K : PySem.W.Frag) (H : Hp) (ks ls : List (Key × V)) : Prop := ∀ p ∈ ks, ∃ u d, valV ls p.1 = some u ∧ Dp K H p.2 d ∧ Dp K H u d ∧ d.canLay0 = true ∧ d.depth ≤ 60
theorem hits_data {pins : List (Addr × Obj)} {σ : L2.St} {H : Hp} {s : Shared} (J : Inv X pins σ H s) {A : Around} (hu : A.units + 60 < cLine) {ls : List (Key × V)} {vb : List (Key × Value)} (rb : KV ls vb) {ks : List (Key × V)} {va : List (Key × Value)} (ra : KV ks va) : SameD X.K H ks ls → PySem.W.KeqHits A s vb va true := by
  unfold KV at ra
  induction ra with
  | nil => exact fun _ => .nil
  | @cons p q ps qs h t ih =>
    intro hp
    obtain ⟨k1, k2⟩ := h
    obtain ⟨u, d, e, d1, d2, can, dep⟩ := hp p List.mem_cons_self
    have found : RelO (some u) (valueAt vb p.1) := by rw [← e]; exact rb.val p.1
    obtain ⟨y, hy, ry⟩ := found.some_of
    obtain ⟨key, v⟩ := q
    have k1' : p.1 = key := k1
    rw [k1'] at hy
    obtain ⟨as, r1⟩ := Dp.reads J d p.2 v d1 k2
    obtain ⟨bs, r2⟩ := Dp.reads J d u y d2 ry
    have eq := SeqAt.eqAt_reads d d A s v y as bs r1 r2 can can (by rw [Nat.min_self]; omega)
    rw [SeqAt.eqv_refl d can] at eq
    show PySem.W.KeqHits A s vb ((key, v) :: qs) (true && true)
    exact .hit hy eq (ih fun p' hm => hp p' (List.mem_cons_of_mem _ hm))
def rNeDD (K : PySem.W.Frag) : R2 := fun x y H Q => ((x = .non ∧ y = .non) ∨ ∃ a b ks ls, x = .ref a ∧ y = .ref b ∧ H a = some (.dK ks) ∧ H b = some (.dK ls) ∧ ks.length = ls.length ∧ SameD K H ks ls) ∧ Q (.bl false) H
theorem op_neDD (hu : X.A.units + 64 < cLine) : OpR X (compareOp .NotEq) (rNeDD X.K) := by
  intro pins s σ H x y v u Q J rx ry h
  obtain ⟨⟨rfl, rfl⟩ | ⟨a, b, ks, ls, rfl, rfl, ea, eb, hlen, hp⟩, q⟩ := h
  · exact op_ne pins s σ H .non .non v u Q J rx ry ⟨rfl, q⟩
  · obtain rfl : v = Value.ref a := rx
    obtain rfl : u = Value.ref b := ry
    obtain ⟨_, ya, va, ra, da⟩ := (show ObjOk X.prog X.w H s.heap a (.dK ks) from J.hok a _ ea)
    obtain ⟨_, yb, vb, rb, db⟩ := (show ObjOk X.prog X.w H s.heap b (.dK ls) from J.hok b _ eb)
    have size : va.length = vb.length := by rw [← ra.length, ← rb.length]; exact hlen
    refine PySem.W.keq_ne (knd := mixKind X.prog X.w) (r := true) ya yb da db (by omega) (fun _ => hits_data J (by show X.A.units + 1 + 60 < cLine; omega) rb ra hp) ?_
    refine ⟨.bl false, H, J, ?_, q⟩
    show Value.bool _ = Value.bool false
    rw [size]
    simp
theorem cr_sortedK {K : PySem.W.Frag} (e : X.K = K) : CallR X (.builtin "sorted") (rSortedS K) := by
  subst e
  exact cr_sortedS
theorem op_inDK {K : PySem.W.Frag} (e : X.K = K) (hu : X.A.units + 65 < cLine) : OpR X (compareOp .In) (rInD K) := by
  subst e
  exact op_inD hu
theorem op_catK {K : PySem.W.Frag} (e : X.K = K) {r : PySem.W.Frag → R2} {f : Value → Value → Sem Value} (h : OpR X f (r X.K)) : OpR X f (r K) := by
  subst e
  exact h
end
end RM

namespace Bn
open PySem PySem.Spec PyProof.Rows L2 BR GX
def topS (i : Nat) : Stmt := PySem.Challenge.pw_speechloom_k07_whole_all_that_was_told_a.main.body.getD i (.Pass ⟨0, 0, 0, 0⟩)
abbrev s_joined : Stmt := topS 1
theorem sc_joined : FnScope ["one", "other", "both", "name", "values"] ["one", "other"] (defScope s_joined) := ⟨rfl, rfl, rfl, by decide +kernel, rfl, by decide +kernel, by decide +kernel⟩
abbrev s_clash : Stmt := topS 2
theorem sc_clash : FnScope ["one", "other", "names", "name"] ["one", "other"] (defScope s_clash) := ⟨rfl, rfl, rfl, by decide +kernel, rfl, by decide +kernel, by decide +kernel⟩
abbrev s_joined_all : Stmt := topS 3
theorem sc_joined_all : FnScope ["bundles", "whole", "bundle"] ["bundles"] (defScope s_joined_all) := ⟨rfl, rfl, rfl, by decide +kernel, rfl, by decide +kernel, by decide +kernel⟩
abbrev s_lets : Stmt := topS 4
theorem sc_lets : FnScope ["bundle", "marks", "name"] ["bundle", "marks"] (defScope s_lets) := ⟨rfl, rfl, rfl, by decide +kernel, rfl, by decide +kernel, by decide +kernel⟩
abbrev s_lies_in : Stmt := topS 5
theorem sc_lies_in : FnScope ["one", "other", "name"] ["one", "other"] (defScope s_lies_in) := ⟨rfl, rfl, rfl, by decide +kernel, rfl, by decide +kernel, by decide +kernel⟩
abbrev s_choices : Stmt := topS 6
theorem sc_choices : FnScope ["features", "names", "bundle", "known", "rows", "name", "values", "feature", "value", "row"] ["features", "names", "bundle"] (defScope s_choices) := ⟨rfl, rfl, rfl, by decide +kernel, rfl, by decide +kernel, by decide +kernel⟩
abbrev s_names_in_either : Stmt := topS 7
theorem sc_names_in_either : FnScope ["one", "other", "name"] ["one", "other"] (defScope s_names_in_either) := ⟨rfl, rfl, rfl, by decide +kernel, rfl, by decide +kernel, by decide +kernel⟩
abbrev s_values_left : Stmt := topS 8
theorem sc_values_left : FnScope ["one", "other", "name", "value"] ["one", "other", "name"] (defScope s_values_left) := ⟨rfl, rfl, rfl, by decide +kernel, rfl, by decide +kernel, by decide +kernel⟩
abbrev s_within : Stmt := topS 9
theorem sc_within : FnScope ["inner", "outer", "item"] ["inner", "outer"] (defScope s_within) := ⟨rfl, rfl, rfl, by decide +kernel, rfl, by decide +kernel, by decide +kernel⟩
abbrev s_l_cell : Stmt := topS 11
theorem sc_l_cell : FnScope ["_law_script", "_law_k"] ["_law_script", "_law_k"] (defScope s_l_cell) := ⟨rfl, rfl, rfl, by decide +kernel, rfl, by decide +kernel, by decide +kernel⟩
abbrev s_l_mixed : Stmt := topS 12
theorem sc_l_mixed : FnScope ["_law_number", "_law_k", "_law_once", "_law_twice"] ["_law_number", "_law_k"] (defScope s_l_mixed) := ⟨rfl, rfl, rfl, by decide +kernel, rfl, by decide +kernel, by decide +kernel⟩
abbrev s_l_box : Stmt := topS 13
theorem sc_l_box : FnScope ["_law_cell_here", "_law_k"] ["_law_cell_here", "_law_k"] (defScope s_l_box) := ⟨rfl, rfl, rfl, by decide +kernel, rfl, by decide +kernel, by decide +kernel⟩
abbrev s_l_take : Stmt := topS 14
theorem sc_l_take : FnScope ["_law_box_here", "_law_many", "_law_found"] ["_law_box_here", "_law_many"] (defScope s_l_take) := ⟨rfl, rfl, rfl, by decide +kernel, rfl, by decide +kernel, by decide +kernel⟩
abbrev s_l_some : Stmt := topS 15
theorem sc_l_some : FnScope ["_law_box_here", "_law_words", "_law_many", "_law_left", "_law_found"] ["_law_box_here", "_law_words", "_law_many"] (defScope s_l_some) := ⟨rfl, rfl, rfl, by decide +kernel, rfl, by decide +kernel, by decide +kernel⟩
abbrev s_l_names : Stmt := topS 16
theorem sc_l_names : FnScope ["_law_box_here", "_law_many", "_law_some_here"] ["_law_box_here", "_law_many"] (defScope s_l_names) := ⟨rfl, rfl, rfl, by decide +kernel, rfl, by decide +kernel, by decide +kernel⟩
abbrev s_l_bundle : Stmt := topS 17
theorem sc_l_bundle : FnScope ["_law_box_here", "_law_features", "_law_bundle_here", "_law_name", "_law_values", "_law_told", "_law_how", "_law_keep", "_law_value"] ["_law_box_here", "_law_features"] (defScope s_l_bundle) := ⟨rfl, rfl, rfl, by decide +kernel, rfl, by decide +kernel, by decide +kernel⟩
abbrev s_l_small : Stmt := topS 18
theorem sc_l_small : FnScope ["_law_box_here", "_law_some_here", "_law_found", "_law_name"] ["_law_box_here"] (defScope s_l_small) := ⟨rfl, rfl, rfl, by decide +kernel, rfl, by decide +kernel, by decide +kernel⟩
abbrev s_l_with : Stmt := topS 19
theorem sc_l_with : FnScope ["_law_features", "_law_bundle_here", "_law_marks", "_law_made", "_law_name", "_law_values", "_law_told", "_law_value"] ["_law_features", "_law_bundle_here", "_law_marks"] (defScope s_l_with) := ⟨rfl, rfl, rfl, by decide +kernel, rfl, by decide +kernel, by decide +kernel⟩
abbrev s_l_every : Stmt := topS 20
theorem sc_l_every : FnScope ["_law_features", "_law_rows", "_law_name", "_law_values", "_law_told", "_law_more", "_law_row", "_law_value"] ["_law_features"] (defScope s_l_every) := ⟨rfl, rfl, rfl, by decide +kernel, rfl, by decide +kernel, by decide +kernel⟩
abbrev s_l_as_sets : Stmt := topS 21
theorem sc_l_as_sets : FnScope ["_law_bundle_here", "_law_name"] ["_law_bundle_here"] (defScope s_l_as_sets) := ⟨rfl, rfl, rfl, by decide +kernel, rfl, by decide +kernel, by decide +kernel⟩
abbrev s_l_two_right : Stmt := topS 22
theorem sc_l_two_right : FnScope ["_law_features", "_law_every_here", "_law_one", "_law_other", "_law_both", "_law_good", "_law_name", "_law_names_here", "_law_rows", "_law_marks", "_law_value", "_law_feature", "_law_row"] ["_law_features", "_law_every_here", "_law_one", "_law_other"] (defScope s_l_two_right) := ⟨rfl, rfl, rfl, by decide +kernel, rfl, by decide +kernel, by decide +kernel⟩
abbrev s_l_three_right : Stmt := topS 23
theorem sc_l_three_right : FnScope ["_law_one", "_law_other", "_law_third", "_law_first", "_law_last", "_law_left", "_law_right", "_law_within"] ["_law_one", "_law_other", "_law_third"] (defScope s_l_three_right) := ⟨rfl, rfl, rfl, by decide +kernel, rfl, by decide +kernel, by decide +kernel⟩
abbrev s_law : Stmt := topS 24
theorem sc_law : FnScope ["_law_script", "_law_k", "_law_cell_here", "_law_box_here", "_law_features", "_law_every_here", "_law_bundles", "_law_marks", "_law_turn", "_law_bundle_here"] ["_law_script"] (defScope s_law) := ⟨rfl, rfl, rfl, by decide +kernel, rfl, by decide +kernel, by decide +kernel⟩
end Bn

namespace Bn
open PySem PySem.Spec PyProof.Rows L2 BR
section
variable {P : Program} {w : World} {K : PySem.W.Frag} {mg : Str → Option Value} {base : Heap}
/-! ### mixed -/
def spMixed : Sp := fun vs H Q _ => ∃ (n k : Int), vs = [.int n, .int k] ∧ ∀ m : Int, Q (.int m) H
theorem ok_mixed {f : Addr} {fd : FuncData} {k : Nat} (F : Fun K "_law_mixed" "_law_mixed" s_l_mixed f fd) : FnOk P w K mg base CX0 (k + 1) f fd ["_law_number", "_law_k"] spMixed := by
  refine F.ok sc_l_mixed (fun vs H Q E h => ?_) (fun cdv A outer s H vs Q E hr h => ?_)
  · obtain ⟨n, k, rfl, _⟩ := h
    rfl
  · obtain ⟨n, k, rfl, q⟩ := h
    refine ⟨_, pss_cons (ps_set (i := 2) sc_l_mixed.nd rfl (.inl rfl) (pe_op op_mod (pe_op op_mul (pe_op op_add (pe_op op_add (pe_op op_mod (pv 0) pe_int) (pe_op op_mul pe_int (pv 1))) pe_int) pe_int) pe_int))
      (pss_cons (ps_set (i := 3) sc_l_mixed.nd rfl (.inl rfl) (pe_op op_mod (pe_op op_mul (pv 2) (pe_op op_add (pe_op op_add (pe_op op_mod (pv 2) pe_int) (pv 1)) pe_int)) pe_int))
      (pss_one (ps_ret (pe_op op_mod (pe_op op_add (pe_op op_mul (pv 3) pe_int) (pv 2)) pe_int)))), ?_⟩
    refine ⟨_, rfl, _, _, rfl, rfl, (by show (0 : Int) < 2147483629; decide), _, rfl, _, _, rfl, rfl, .inl ⟨by decide, by decide⟩, _, _, rfl, rfl, _, _, rfl, rfl, _, _, rfl, rfl, .inr ⟨by decide, by decide⟩, _, _, rfl, rfl, (by show (0 : Int) < 2147483647; decide), ?_⟩
    generalize (n % 2147483629 + 7919 * k + 11) * 48271 = y
    have y0 := Int.emod_nonneg y (show (2147483647 : Int) ≠ 0 by decide)
    have y1 := Int.emod_lt_of_pos y (show (0 : Int) < 2147483647 by decide)
    refine ⟨_, rfl, _, rfl, _, _, rfl, rfl, (by show (0 : Int) < 1009; decide), _, rfl, _, _, rfl, rfl, _, _, rfl, rfl, _, _, rfl, rfl, .inl ⟨by omega, by omega⟩, _, _, rfl, rfl, (by show (0 : Int) < 998244353; decide), ?_⟩
    exact ⟨_, rfl, _, _, rfl, rfl, .inr ⟨by decide, by decide⟩, _, rfl, _, _, rfl, rfl, _, _, rfl, rfl, (by show (0 : Int) < 2147483629; decide), q _⟩
theorem bit_lo (b : Bool) : -(2 ^ 64) < (if b = true then (1 : Int) else 0) := by cases b <;> decide
theorem bit_hi (b : Bool) : (if b = true then (1 : Int) else 0) < 2 ^ 64 := by cases b <;> decide
/-! ### box -/
def spBox : Sp := fun vs H Q _ => ∃ (c k : Int), vs = [.int c, .int k] ∧ ∀ p H', H p = none → Same H H' → Bx H' p → Q (.ref p) H'
theorem ok_box {f : Addr} {fd : FuncData} {k : Nat} (F : Fun K "_law_box" "_law_box" s_l_box f fd) (ma : mg "abs" = none) (mi : mg "int" = none) : FnOk P w K mg base CX0 (k + 1) f fd ["_law_cell_here", "_law_k"] spBox := by
  refine F.ok sc_l_box (fun vs H Q E h => ?_) (fun cdv A outer s H vs Q E hr h => ?_)
  · obtain ⟨c, k, rfl, _⟩ := h
    rfl
  · obtain ⟨c, k, rfl, q⟩ := h
    refine ⟨_, pss_one (ps_ret (pe_lst (pa_cons (pe_op op_mul (pe_callB call_abs (by rfl) ma (by decide +kernel) (pa_cons (pv 0) pa_nil)) (pe_callTy call_int1 (by rfl) mi (by decide +kernel) (pa_cons (pe_cmpR op_ge (pe_callB call_abs (by rfl) ma (by decide +kernel) (pa_cons (pv 0) pa_nil)) (pe_op op_pow pe_int pe_int) (nomark _)) pa_nil)))
        (pa_cons (pv 0) (pa_cons (pv 1) (pa_cons pe_int pa_nil)))))), ?_⟩
    refine ⟨_, rfl, _, rfl, _, rfl, _, rfl, _, _, rfl, rfl, ⟨by decide, by decide, by decide⟩, _, _, rfl, rfl, .inr ⟨_, rfl, _, _, rfl, rfl, .inr ⟨bit_lo _, bit_hi _⟩, _, rfl, _, rfl, (show 4 ≤ sizeLine by decide), fun p np => ?_⟩⟩
    exact q p _ np (same_new np) ⟨_, _, _, _, upd_same⟩
/-! ### take -/
def spTake : Sp := fun vs H Q _ => ∃ (b : Addr) (m : Int), vs = [.ref b, .int m] ∧ Bx H b ∧ 0 < m ∧ m < 1073741824 ∧ ∀ (n : Int) H', 0 ≤ n → n < m → Kb b H H' → Q (.int n) H'
theorem ok_take {f fM : Addr} {fd fdM : FuncData} (F : Fun K "_law_take" "_law_take" s_l_take f fd)
    (FM : Fun K "_law_mixed" "_law_mixed" s_l_mixed fM fdM) (bM : Binds K fdM ["_law_number", "_law_k"] []) (gM : mg "_law_mixed" = some (.ref fM)) (md : mg "divmod" = none) : FnOk P w K mg base CX0 2 f fd ["_law_box_here", "_law_many"] spTake := by
  have GM : FnOk P w K mg base CX0 1 fM fdM ["_law_number", "_law_k"] spMixed := ok_mixed FM
  refine F.ok sc_l_take (fun vs H Q E h => ?_) (fun cdv A outer s H vs Q E hr h => ?_)
  · obtain ⟨b, m, rfl, _⟩ := h
    rfl
  · obtain ⟨b, m, rfl, ⟨x, y, z, t, hb⟩, m0, m1, q⟩ := h
    refine ⟨_, pss_cons (ps_asg (pe_op op_add (pe_ix ix_list (pv 0) pe_int (fun _ _ => rfl)) pe_int) (pg_sub (pv 0) pe_int set_list))
      (pss_cons (ps_if (pt_cmpR op_gt (pe_ix ix_list (pv 0) pe_int (fun _ _ => rfl)) pe_int (nomark _))
        (pss_cons (ps_asg (pe_callB call_divmod (by rfl) md (by decide +kernel) (pa_cons (pe_ix ix_list (pv 0) pe_int (fun _ _ => rfl)) (pa_cons (pv 1) pa_nil))) (pg_tup rfl (pgs_cons (pg_sub (pv 0) pe_int set_list) (pgs_cons (pg_name (i := 2) sc_l_take.nd rfl (.inl rfl)) pgs_nil))))
        (pss_one (ps_ret (pv 2)))) pss_nil)
      (pss_one (ps_ret (pe_op op_mod (pe_op op_fdiv (pe_call GM hr (by rfl) gM FM.kp bM .nil pass0 (pa_cons (pe_call GM hr (by rfl) gM FM.kp bM .nil pass0 (pa_cons (pe_ix ix_list (pv 0) pe_int (fun _ _ => rfl)) (pa_cons (pe_ix ix_list (pv 0) pe_int (fun _ _ => rfl)) pa_nil))) (pa_cons (pe_op op_add (pe_ix ix_list (pv 0) pe_int (fun _ _ => rfl)) (pe_ix ix_list (pv 0) pe_int (fun _ _ => rfl))) pa_nil))) pe_int) (pv 1))))), ?_⟩
    refine ⟨_, rfl, b, _, _, .int t, rfl, rfl, .inl (.inl hb), rfl, _, _, rfl, rfl, _, rfl, b, _, _, 3, rfl, rfl, hb, rfl, ?_⟩
    have hL : SqL K (upd H b (.lst [.int x, .int y, .int z, .int (t + 1)])) b [.int x, .int y, .int z, .int (t + 1)] := .inl (.inl upd_same)
    refine ⟨_, rfl, b, _, _, .int x, rfl, rfl, hL, rfl, _, _, rfl, rfl, _, rfl, ite2 (fun e => ?_) (fun e => ?_)⟩
    · refine ⟨_, rfl, b, _, _, .int x, rfl, rfl, hL, rfl, _, rfl, _, _, rfl, ⟨m0, m1⟩, fun p np => ?_⟩
      have nbp : b ≠ p := fun e => by
        rw [← e, upd_same] at np
        cases np
      have hb2 : (upd (upd H b (.lst [.int x, .int y, .int z, .int (t + 1)])) p (.tup [.int (x / m), .int (x % m)])) b = some (.lst [.int x, .int y, .int z, .int (t + 1)]) := by
        rw [upd_ne nbp, upd_same]
      refine ⟨p, _, rfl, .inl (.inl upd_same), rfl, _, _, rfl, _, rfl, b, _, _, 0, rfl, rfl, hb2, rfl, _, _, rfl, rfl, ?_⟩
      refine ⟨_, rfl, ?_⟩
      refine q _ _ (Int.emod_nonneg x (by omega)) (Int.emod_lt_of_pos x m0) ⟨fun a o n h => ?_, ⟨_, _, _, _, upd_same⟩⟩
      have ea : (upd H b (.lst [.int x, .int y, .int z, .int (t + 1)])) a = some o := by
        rw [upd_ne n]
        exact h
      rw [upd_ne n, upd_ne (ne_of_none ea np)]
      exact ea
    · refine ⟨_, rfl, b, _, _, .int y, rfl, rfl, hL, rfl, _, rfl, b, _, _, .int (t + 1), rfl, rfl, hL, rfl, _, _, rfl, fun n1 => ?_⟩
      refine ⟨_, rfl, b, _, _, .int z, rfl, rfl, hL, rfl, _, rfl, b, _, _, .int (t + 1), rfl, rfl, hL, rfl, _, _, rfl, rfl, _, _, rfl, fun n2 => ?_⟩
      refine ⟨_, _, rfl, rfl, ⟨by show (0 : Int) < 7; decide, by show (7 : Int) < 1073741824; decide⟩, _, rfl, _, _, rfl, rfl, m0, ?_⟩
      exact q _ _ (Int.emod_nonneg _ (by omega)) (Int.emod_lt_of_pos _ m0) ⟨Kp.put, ⟨_, _, _, _, upd_same⟩⟩
theorem take_out {α : Type} : ∀ {l : List α} {n : Nat} (h : n < l.length), ([l[n]] ++ l.eraseIdx n).Perm l
  | x :: l, 0, _ => List.Perm.refl _
  | x :: l, n + 1, h => by
    have ih := take_out (l := l) (n := n) (Nat.lt_of_succ_lt_succ h)
    show ([l[n]'(Nat.lt_of_succ_lt_succ h)] ++ x :: l.eraseIdx n).Perm (x :: l)
    exact (List.Perm.swap x _ _).trans (List.Perm.cons x ih)
/-! ### some -/
def spSome (K : PySem.W.Frag) : Sp := fun vs H Q _ => ∃ (b r : Addr) (xs : List V) (m : Nat), vs = [.ref b, .ref r, .int m] ∧ Bx H b ∧ SqL K H r xs ∧ m ≤ xs.length ∧ xs.length ≤ 100 ∧ ∀ (p : Addr) (ys : List V) H', H p = none → Kb b H H' → H' p = some (.lst ys) → ys.length = m → (∃ zs, (ys ++ zs).Perm xs) → Q (.ref p) H'
theorem ok_some {f fT : Addr} {fd fdT : FuncData} (F : Fun K "_law_some" "_law_some" s_l_some f fd)
    (kT : PySem.W.keepIn K (.ref fT) = true) (bT : Binds K fdT ["_law_box_here", "_law_many"] []) (gT : mg "_law_take" = some (.ref fT)) (GT : FnOk P w K mg base CX0 2 fT fdT ["_law_box_here", "_law_many"] spTake)
    (ml : mg "len" = none) (mli : mg "list" = none) : FnOk P w K mg base CX0 3 f fd ["_law_box_here", "_law_words", "_law_many"] (spSome K) := by
  refine F.ok sc_l_some (fun vs H Q E h => ?_) (fun cdv A outer s H vs Q E hr h => ?_)
  · obtain ⟨b, r, xs, m, rfl, _⟩ := h
    rfl
  · obtain ⟨b, r, xs, m, rfl, hb, hS, hmx, hlen, q⟩ := h
    refine ⟨_, pss_cons (ps_set (i := 3) sc_l_some.nd rfl (.inl rfl) (pe_callTy call_list_of (by rfl) mli (by decide +kernel) (pa_cons (pv 1) pa_nil)))
      (pss_cons (ps_set (i := 4) sc_l_some.nd rfl (.inl rfl) (pe_lst pa_nil))
      (pss_cons (ps_while PassesOwn.never (pt_cmpR op_lt (pe_callB call_len_seq (by rfl) ml PySem.boot_len (pa_cons (pv 4) pa_nil)) (pv 2) (nomark _))
        (pss_one (ps_expr (pe_bm PySem.F.plainAttrs_list PySem.F.slot_list_append PySem.F.type_list_append mt_append (pv 4) (pa_cons
          (pe_bm PySem.F.plainAttrs_list PySem.F.slot_list_pop PySem.F.type_list_pop mt_popAt (pv 3) (pa_cons (pe_call GT hr (by rfl) gT kT bT .nil pass0 (pa_cons (pv 0) (pa_cons (pe_callB call_len_seq (by rfl) ml PySem.boot_len (pa_cons (pv 3) pa_nil)) pa_nil))) pa_nil)) pa_nil)))))
      (pss_one (ps_ret (pv 4))))), ?_⟩
    refine ⟨_, rfl, r, xs, rfl, .inl hS, fun l nl => ?_⟩
    refine ⟨Nat.zero_le _, fun d nd => ?_⟩
    have nlb : l ≠ b := (hb.ne nl).symm
    have hb1 : Bx (upd H l (.lst xs)) b := hb.same (same_new nl)
    have ndb : d ≠ b := (hb1.ne nd).symm
    have ndl : d ≠ l := fun e => by
      rw [e, upd_same] at nd
      cases nd
    have nd0 : H d = none := by
      rw [upd_ne ndl] at nd
      exact nd
    refine while_by (fun σ H' => ∃ xs' ys, σ = [some (.ref b), some (.ref r), some (.int m), some (.ref l), some (.ref d)] ∧ Kb b H H' ∧ H' l = some (.lst xs') ∧ H' d = some (.lst ys) ∧ xs'.length + ys.length = xs.length ∧ ys.length ≤ m ∧ (ys ++ xs').Perm xs) (fun _ H' => lenAt H' l) ?_ (fun σ H' hP => ?_) (fun σ H' Q1 Q2 hq h => ?_)
    · refine ⟨xs, [], rfl, ((Kb.refl hb).own nl nlb).own nd0 ndb, ?_, upd_same, by simp, Nat.zero_le _, List.Perm.refl _⟩
      rw [upd_ne ndl.symm, upd_same]
    · obtain ⟨xs', ys, rfl, kb, hl, hd, hle, hym, hx⟩ := hP
      refine ⟨_, rfl, d, ys, rfl, .inl (.inl (.inl hd)), _, rfl, _, _, rfl, rfl, _, rfl, ite2 (fun e => ?_) (fun e => ?_)⟩
      · have e0 : (ys.length : Int) < (m : Int) := of_decide_eq_true e
        refine ⟨_, rfl, .inl ⟨rfl, _, .inl (.inl hd)⟩, _, rfl, .inl ⟨rfl, _, .inl (.inl hl)⟩, _, rfl, _, rfl, l, _, rfl, .inl (.inl (.inl hl)), b, _, rfl, kb.x, by omega, by omega, fun n H2 n0 n1 k2 => ?_⟩
        have hl2 : H2 l = some (.lst xs') := k2.k _ _ nlb hl
        have hd2 : H2 d = some (.lst ys) := k2.k _ _ ndb hd
        have hn : n.toNat < xs'.length := by omega
        refine ⟨l, xs', n, n.toNat, xs'[n.toNat], rfl, rfl, hl2, by omega, by omega, PySem.seqIndex_of n0 (by omega), List.getElem?_eq_getElem hn, ?_⟩
        have hd3 : (upd H2 l (.lst (xs'.eraseIdx n.toNat))) d = some (.lst ys) := by
          rw [upd_ne ndl]
          exact hd2
        refine ⟨d, ys, _, rfl, rfl, hd3, small1000 (by omega), ⟨xs'.eraseIdx n.toNat, ys ++ [xs'[n.toNat]], rfl, ((kb.trans k2).own nl nlb).own nd0 ndb, ?_, upd_same, ?_, ?_, ?_⟩, ?_⟩
        · rw [upd_ne ndl.symm, upd_same]
        · rw [List.length_eraseIdx_of_lt hn, List.length_append]
          show xs'.length - 1 + (ys.length + 1) = xs.length
          omega
        · rw [List.length_append]
          show ys.length + 1 ≤ m
          omega
        · rw [List.append_assoc]
          exact (List.Perm.append_left ys (take_out hn)).trans hx
        · rw [lenAt_of hl, lenAt_of (xs := xs'.eraseIdx n.toNat) (by rw [upd_ne ndl.symm, upd_same]), List.length_eraseIdx_of_lt hn]
          omega
      · have e0 : ¬ (ys.length : Int) < (m : Int) := fun z => e (decide_eq_true z)
        exact ⟨_, rfl, q d ys _ nd0 kb hd (by omega) ⟨xs', hx⟩⟩
    · obtain ⟨v, hv, a, zs, e, hs, w', hw, i, j, e1, e2, k, hk, h5⟩ := h
      exact ⟨v, hv, a, zs, e, hs, w', hw, i, j, e1, e2, k, hk, hq _ _ h5⟩
end
end Bn

namespace Bn
open PySem PySem.Spec PyProof.Rows L2 BR
def names12 : List Str := ["a", "ab", "abc", "b", "case", "num", "z", "zz", "person", "aa", "quantity", "zzzzzzzz"]
def words6 : List Str := ["a", "b", "sg", "pl", "s", "nom"]
theorem names12_ok : ∀ x ∈ names12, okS x := fun x hx => (okS_iff x).mp ((List.all_eq_true.mp (show names12.all PyData.strOk = true by decide +kernel)) x hx)
theorem words6_ok : ∀ x ∈ words6, okS x := fun x hx => (okS_iff x).mp ((List.all_eq_true.mp (show words6.all PyData.strOk = true by decide +kernel)) x hx)
theorem names12_nd : names12.Nodup := by decide +kernel
theorem words6_nd : words6.Nodup := by decide +kernel
theorem strs_perm {ws : List Str} {ys zs : List V} (h : (ys ++ zs).Perm (ws.map V.str)) (nd : ws.Nodup) : ∃ vs : List Str, ys = vs.map V.str ∧ (∀ v ∈ vs, v ∈ ws) ∧ vs.Nodup := by
  obtain ⟨vs, rfl, hv⟩ := strs_all (ws := ws) (ys := ys) fun y hy => h.mem_iff.mp (List.mem_append_left _ hy)
  have nd1 : (ws.map V.str).Nodup := List.Pairwise.map V.str (fun a b h z => h (V.str.inj z)) nd
  have nd2 : (vs.map V.str).Nodup := (List.nodup_append.mp (h.nodup_iff.mpr nd1)).1
  exact ⟨vs, rfl, hv, (List.pairwise_map.mp nd2).imp fun h z => h (by rw [z])⟩
section
variable {P : Program} {w : World} {K : PySem.W.Frag} {mg : Str → Option Value} {base : Heap}
/-! ### names -/
def spNames : Sp := fun vs H Q _ => ∃ (b : Addr) (m : Nat), vs = [.ref b, .int m] ∧ Bx H b ∧ m ≤ 12 ∧ ∀ (p : Addr) (ns : List Str) H', H p = none → Kb b H H' → H' p = some (.lst (ns.map V.str)) → ns.length = m → (∀ x ∈ ns, okS x) → ns.Nodup → Q (.ref p) H'
theorem ok_names {f fS : Addr} {fd fdS : FuncData} (F : Fun K "_law_names" "_law_names" s_l_names f fd)
    (kS : PySem.W.keepIn K (.ref fS) = true) (bS : Binds K fdS ["_law_box_here", "_law_words", "_law_many"] []) (gS : mg "_law_some" = some (.ref fS)) (GS : FnOk P w K mg base CX0 3 fS fdS ["_law_box_here", "_law_words", "_law_many"] (spSome K)) : FnOk P w K mg base CX0 4 f fd ["_law_box_here", "_law_many"] spNames := by
  refine F.ok sc_l_names (fun vs H Q E h => ?_) (fun cdv A outer s H vs Q E hr h => ?_)
  · obtain ⟨b, m, rfl, _⟩ := h
    rfl
  · obtain ⟨b, m, rfl, hb, hm, q⟩ := h
    refine ⟨_, pss_cons (ps_set (i := 2) sc_l_names.nd rfl (.inl rfl) (pe_lst (pa_cons pe_str (pa_cons pe_str (pa_cons pe_str (pa_cons pe_str (pa_cons pe_str (pa_cons pe_str (pa_cons pe_str (pa_cons pe_str (pa_cons pe_str (pa_cons pe_str (pa_cons pe_str (pa_cons pe_str pa_nil)))))))))))))) (pss_one (ps_ret (pe_call GS hr (by rfl) gS kS bS .nil pass0 (pa_cons (pv 0) (pa_cons (pv 2) (pa_cons (pv 1) pa_nil)))))), ?_⟩
    refine ⟨(show 12 ≤ sizeLine by decide), fun l nl => ?_⟩
    have hl : (upd H l (.lst (names12.map V.str))) l = some (.lst (names12.map V.str)) := upd_same
    refine ⟨_, rfl, _, rfl, _, rfl, b, l, names12.map V.str, m, rfl, hb.same (same_new nl), .inl (.inl hl), by rw [List.length_map]; exact hm, by rw [List.length_map]; decide, fun p ys H' np k' hp hy ⟨zs, hm'⟩ => ?_⟩
    obtain ⟨ns, rfl, hn, hnd⟩ := strs_perm hm' names12_nd
    rw [List.length_map] at hy
    exact q p ns H' ((Kb.new hb nl).free np) ((Kb.new hb nl).trans k') hp hy (fun x hx => names12_ok x (hn x hx)) hnd
/-! ### features, one by one -/
def FtAt (H : Hp) (v : V) (d : FtD) : Prop := ∃ p l, v = .ref p ∧ H p = some (.tup [.str d.n, .ref l, .bl d.t]) ∧ H l = some (.lst (d.vs.map V.str)) ∧ FtB d
abbrev Fts (H : Hp) (ys : List V) (ds : List FtD) : Prop := Paired (FtAt H) ys ds
theorem FtAt.kp {b : Addr} {H H' : Hp} {v : V} {d : FtD} (h : FtAt H v d) (hb : Bx H b) (k : Kp b H H') : FtAt H' v d := by
  obtain ⟨p, l, e, h1, h2, h3⟩ := h
  exact ⟨p, l, e, k _ _ (ne_bx hb h1 (fun _ _ _ _ z => by cases z)) h1, k _ _ (ne_bx hb h2 (strs_ne_ints h3.1)) h2, h3⟩
theorem FtAt.same {H H' : Hp} {v : V} {d : FtD} (h : FtAt H v d) (s : Same H H') : FtAt H' v d := by
  obtain ⟨p, l, e, h1, h2, h3⟩ := h
  exact ⟨p, l, e, s _ _ h1, s _ _ h2, h3⟩
theorem paired_mon {α β : Type} {R S : α → β → Prop} {l : List α} {m : List β} (h : Paired R l m) (f : ∀ a b, R a b → S a b) : Paired S l m := by
  induction h with
  | nil => exact .nil
  | cons x _ ih => exact .cons (f _ _ x) ih
theorem paired_add {α β : Type} {R : α → β → Prop} {l : List α} {m : List β} {a : α} {b : β} (h : Paired R l m) (x : R a b) : Paired R (l ++ [a]) (m ++ [b]) := by
  induction h with
  | nil => exact .cons x .nil
  | cons y _ ih => exact .cons y ih
theorem Fts.kp {b : Addr} {H H' : Hp} {ys : List V} {ds : List FtD} (h : Fts H ys ds) (hb : Bx H b) (k : Kp b H H') : Fts H' ys ds := paired_mon h fun _ _ e => e.kp hb k
theorem Fts.same {H H' : Hp} {ys : List V} {ds : List FtD} (h : Fts H ys ds) (s : Same H H') : Fts H' ys ds := paired_mon h fun _ _ e => e.same s
theorem paired_at {α β : Type} {R : α → β → Prop} {l : List α} {m : List β} (h : Paired R l m) : ∀ {i : Nat} {x : α}, l[i]? = some x → ∃ y, m[i]? = some y ∧ R x y := by
  induction h with
  | nil => intro i x e; simp at e
  | cons r _ ih =>
    intro i x e
    cases i with
    | zero =>
      cases Option.some.inj e
      exact ⟨_, rfl, r⟩
    | succ j => exact ih e
theorem paired_in {α β : Type} {R : α → β → Prop} {l : List α} {m : List β} (h : Paired R l m) {x : α} (hx : x ∈ l) : ∃ y ∈ m, R x y := by
  obtain ⟨i, hi⟩ := List.getElem?_of_mem hx
  obtain ⟨y, hy, r⟩ := paired_at h hi
  exact ⟨y, List.mem_of_getElem? hy, r⟩
theorem Fts.refs {H : Hp} {ys : List V} {ds : List FtD} (h : Fts H ys ds) : ∀ v ∈ ys, ∃ p, v = V.ref p := fun v hv => by
  obtain ⟨d, _, p, l, e, _⟩ := paired_in h hv
  exact ⟨p, e⟩
theorem fts_upd {H : Hp} {D : Addr} {ys zs : List V} {ds : List FtD} {o : HO} (h : Fts H ys ds) (hD : H D = some (.lst zs)) (hz : ∀ v ∈ zs, ∃ p, v = V.ref p) : Fts (upd H D o) ys ds := by
  refine paired_mon h fun v d e => ?_
  obtain ⟨p, l, rfl, h1, h2, h3⟩ := e
  refine ⟨p, l, rfl, ?_, ?_, h3⟩
  · rw [upd_ne (ne_of h1 hD (by intro z; cases z))]
    exact h1
  · rw [upd_ne fun z => ?_]
    · exact h2
    · subst z
      rw [hD] at h2
      have e := HO.lst.inj (Option.some.inj h2)
      have h4 := h3.1
      cases hv : d.vs with
      | nil =>
        rw [hv] at h4
        exact absurd h4 (by decide)
      | cons v0 r0 =>
        rw [hv] at e
        obtain ⟨p, z⟩ := hz (V.str v0) (by rw [e]; exact List.mem_cons_self ..)
        cases z
theorem fts_ne_box {H : Hp} {ys : List V} {ds : List FtD} (h : Fts H ys ds) (x y z t : Int) : HO.lst ys ≠ .lst [.int x, .int y, .int z, .int t] := fun e => by
  injection e with e
  subst e
  cases h with
  | cons r _ =>
    obtain ⟨p, l, e, _⟩ := r
    cases e
/-- names unlike, values unlike -/
def FtsN (ds : List FtD) : Prop := 1 ≤ ds.length ∧ ds.length ≤ 3 ∧ (ds.map (·.n)).Nodup ∧ ∀ d ∈ ds, FtB d ∧ d.vs.Nodup ∧ d.vs.length ≤ 4
/-! ### small -/
def spSmall : Sp := fun vs H Q _ => ∃ (b : Addr), vs = [.ref b] ∧ Bx H b ∧ ∀ (p : Addr) (ys : List V) (ds : List FtD) H', H p = none → Kb b H H' → H' p = some (.lst ys) → Fts H' ys ds → FtsN ds → Q (.ref p) H'
theorem ok_small {f fT fS fN : Addr} {fd fdT fdS fdN : FuncData} (F : Fun K "_law_small" "_law_small" s_l_small f fd)
    (kT : PySem.W.keepIn K (.ref fT) = true) (bT : Binds K fdT ["_law_box_here", "_law_many"] []) (gT : mg "_law_take" = some (.ref fT)) (GT : FnOk P w K mg base CX0 2 fT fdT ["_law_box_here", "_law_many"] spTake)
    (kS : PySem.W.keepIn K (.ref fS) = true) (bS : Binds K fdS ["_law_box_here", "_law_words", "_law_many"] []) (gS : mg "_law_some" = some (.ref fS)) (GS : FnOk P w K mg base CX0 3 fS fdS ["_law_box_here", "_law_words", "_law_many"] (spSome K))
    (kN : PySem.W.keepIn K (.ref fN) = true) (bN : Binds K fdN ["_law_box_here", "_law_many"] []) (gN : mg "_law_names" = some (.ref fN)) (GN : FnOk P w K mg base CX0 4 fN fdN ["_law_box_here", "_law_many"] spNames) : FnOk P w K mg base CX0 5 f fd ["_law_box_here"] spSmall := by
  refine F.ok sc_l_small (fun vs H Q E h => ?_) (fun cdv A outer s H vs Q E hr h => ?_)
  · obtain ⟨b, rfl, _⟩ := h
    rfl
  · obtain ⟨b, rfl, hb, q⟩ := h
    refine ⟨_, pss_cons (ps_set (i := 1) sc_l_small.nd rfl (.inl rfl) (pe_lst (pa_cons pe_str (pa_cons pe_str (pa_cons pe_str (pa_cons pe_str (pa_cons pe_str (pa_cons pe_str pa_nil))))))))
      (pss_cons (ps_set (i := 2) sc_l_small.nd rfl (.inl rfl) (pe_lst pa_nil))
      (pss_cons (ps_for PassesOwn.never rfl (pi_list (pe_call GN hr (by rfl) gN kN bN .nil pass0 (pa_cons (pv 0) (pa_cons (pe_op op_add pe_int (pe_call GT (hr.mono (by decide)) (by rfl) gT kT bT .nil pass0 (pa_cons (pv 0) (pa_cons pe_int pa_nil)))) pa_nil)))) (pg_name (i := 3) sc_l_small.nd rfl (.inl rfl))
        (pss_one (ps_expr (pe_bm PySem.F.plainAttrs_list PySem.F.slot_list_append PySem.F.type_list_append mt_append (pv 2) (pa_cons (pe_tup (pa_cons (pv 3) (pa_cons (pe_call GS (hr.mono (by decide)) (by rfl) gS kS bS .nil pass0 (pa_cons (pv 0) (pa_cons (pv 1) (pa_cons (pe_op op_add pe_int (pe_call GT (hr.mono (by decide)) (by rfl) gT kT bT .nil pass0 (pa_cons (pv 0) (pa_cons pe_int pa_nil)))) pa_nil)))) (pa_cons (pe_cmpR op_eq (pe_call GT (hr.mono (by decide)) (by rfl) gT kT bT .nil pass0 (pa_cons (pv 0) (pa_cons pe_int pa_nil))) pe_int (nomark _)) pa_nil)))) pa_nil)))))
      (pss_one (ps_ret (pv 2))))), ?_⟩
    refine ⟨(show 6 ≤ sizeLine by decide), fun l nl => ?_⟩
    have k1 : Kb b H (upd H l (.lst (words6.map V.str))) := Kb.new hb nl
    have hl1 : (upd H l (.lst (words6.map V.str))) l = some (.lst (words6.map V.str)) := upd_same
    have nlb : l ≠ b := (hb.ne nl).symm
    show _ ∧ _
    refine ⟨Nat.zero_le _, fun d nd => ?_⟩
    have nd' : (upd H l (.lst (words6.map V.str))) d = none := nd
    have ndb : d ≠ b := (k1.x.ne nd').symm
    have ndH : H d = none := k1.free nd'
    have ndl : d ≠ l := (ne_of_none hl1 nd').symm
    have k2 : Kb b H (upd (upd H l (.lst (words6.map V.str))) d (.lst [])) := k1.trans (Kb.new k1.x nd')
    have hd2 : (upd (upd H l (.lst (words6.map V.str))) d (.lst [])) d = some (.lst []) := upd_same
    have hl2 : (upd (upd H l (.lst (words6.map V.str))) d (.lst [])) l = some (.lst (words6.map V.str)) := by
      rw [upd_ne ndl.symm]
      exact hl1
    refine ⟨_, rfl, _, rfl, b, 3, rfl, k2.x, by decide, by decide, fun n1 H3 n10 n11 k3 => ⟨_, _, rfl, rfl, b, (1 + n1).toNat, by show [V.ref b, V.int (1 + n1)] = [V.ref b, V.int (((1 + n1).toNat : Nat) : Int)]; rw [Int.toNat_of_nonneg (by omega)], k3.x, by omega, fun ln ns H4 nln k4 hln hns okn ndn => ?_⟩⟩
    have hd4 := k4.k _ _ ndb (k3.k _ _ ndb hd2)
    have hl4 := k4.k _ _ nlb (k3.k _ _ nlb hl2)
    have nlnb : ln ≠ b := (k3.x.ne nln).symm
    have nlnd : ln ≠ d := (ne_of_none (k3.k _ _ ndb hd2) nln).symm
    have k24 := (k2.trans k3).trans k4
    refine ⟨ln, rfl, ⟨_, .inl (.inl hln)⟩, for_list (K := K) (a := ln) (xs := ns.map V.str) (fun i σ H' => ∃ y3, σ = [some (.ref b), some (.ref l), some (.ref d), y3] ∧ Kb b H H' ∧ H' ln = some (.lst (ns.map V.str)) ∧ H' l = some (.lst (words6.map V.str)) ∧ ∃ (ys : List V) (ds : List FtD), H' d = some (.lst ys) ∧ Fts H' ys ds ∧ ds.map (·.n) = ns.take i ∧ ∀ d ∈ ds, FtB d ∧ d.vs.Nodup ∧ d.vs.length ≤ 4)
      ⟨none, rfl, k24, hln, hl4, [], [], hd4, .nil, rfl, fun d hd => absurd hd List.not_mem_nil⟩ (fun i σ H' _ h => ?_) (fun i x σ H' hx hP => ?_) (fun σ H' hP => ?_)⟩
    · obtain ⟨_, _, _, h, _⟩ := h
      exact .inl (.inl h)
    · obtain ⟨y3, rfl, kb, hn', hw', ys, ds, hd', hF, hdn, hdB⟩ := hP
      rw [List.getElem?_map] at hx
      obtain ⟨n, en, ex⟩ := Option.map_eq_some_iff.mp hx
      subst ex
      have hil : i < ns.length := (List.getElem?_eq_some_iff.mp en).1
      have hyl : ys.length ≤ 12 := by
        have z := congrArg List.length hdn
        rw [List.length_map, List.length_take, ← Paired.length hF] at z
        omega
      refine ⟨_, rfl, .inl ⟨rfl, _, .inl (.inl hd')⟩, _, rfl, _, rfl, _, rfl, _, rfl, b, 4, rfl, kb.x, by decide, by decide, fun a1 HA a10 a11 kA => ⟨_, _, rfl, rfl, b, l, words6.map V.str, (1 + a1).toNat, by show [V.ref b, V.ref l, V.int (1 + a1)] = [V.ref b, V.ref l, V.int (((1 + a1).toNat : Nat) : Int)]; rw [Int.toNat_of_nonneg (by omega)], kA.x, .inl (.inl (kA.k _ _ nlb hw')), by rw [List.length_map]; show (1 + a1).toNat ≤ 6; omega, by rw [List.length_map]; decide, fun pv ws HE npv kE hpv hwl ⟨zs, hwm⟩ => ?_⟩⟩
      obtain ⟨us, rfl, hus, und⟩ := strs_perm hwm words6_nd
      rw [List.length_map] at hwl
      have npvb : pv ≠ b := (kA.x.ne npv).symm
      refine ⟨_, rfl, b, 2, rfl, kE.x, by decide, by decide, fun a3 HG a30 a31 kG => ⟨rfl, (show 3 ≤ sizeLine by decide), fun pt npt => ?_⟩⟩
      have kH := (kA.trans kE).trans kG
      have smt : Same HG (upd HG pt (.tup [.str n, .ref pv, .bl (decide (V.int a3 = V.int 1))])) := same_new npt
      have kT' : Kb b HG (upd HG pt (.tup [.str n, .ref pv, .bl (decide (V.int a3 = V.int 1))])) := Kb.new kG.x npt
      have hpt : (upd HG pt (.tup [.str n, .ref pv, .bl (decide (V.int a3 = V.int 1))])) pt = some (.tup [.str n, .ref pv, .bl (decide (V.int a3 = V.int 1))]) := upd_same
      generalize upd HG pt (.tup [.str n, .ref pv, .bl (decide (V.int a3 = V.int 1))]) = HI at smt kT' hpt ⊢
      have hdI := smt _ _ (kH.k _ _ ndb hd')
      have hFI : Fts HI ys ds := (hF.kp kb.x kH.k).same smt
      have fB : FtB ⟨n, us, decide (V.int a3 = V.int 1)⟩ := ⟨by show 1 ≤ us.length; omega, by show us.length ≤ 6; omega, okn n (List.mem_of_getElem? en), fun x hx => words6_ok x (hus x hx)⟩
      refine ⟨d, ys, _, rfl, rfl, hdI, small1000 (by omega), _, rfl, ((kb.trans kH).trans kT').own ndH ndb, ?_, ?_, ys ++ [.ref pt], ds ++ [⟨n, us, decide (V.int a3 = V.int 1)⟩], upd_same, fts_upd (paired_add hFI ⟨pt, pv, rfl, hpt, smt _ _ (kG.k _ _ npvb hpv), fB⟩) hdI hF.refs, ?_, fun e he => ?_⟩
      · rw [upd_ne nlnd]
        exact smt _ _ (kH.k _ _ nlnb hn')
      · rw [upd_ne ndl.symm]
        exact smt _ _ (kH.k _ _ nlb hw')
      · rw [List.map_append, hdn, List.take_add_one, en]
        rfl
      · rcases List.mem_append.mp he with z | z
        · exact hdB e z
        · rw [List.mem_singleton.mp z]
          exact ⟨fB, und, by show us.length ≤ 4; omega⟩
    · obtain ⟨y3, rfl, kb, hn', hw', ys, ds, hd', hF, hdn, hdB⟩ := hP
      rw [List.length_map, List.take_length] at hdn
      have z := congrArg List.length hdn
      rw [List.length_map] at z
      exact ⟨_, rfl, q d ys ds _ ndH kb hd' hF ⟨by omega, by omega, by rw [hdn]; exact ndn, hdB⟩⟩
end
end Bn

namespace Bn
open PySem PySem.Spec PyProof.Rows L2 BR
/-! ### a bundle's entry put -/
def putB (b : BD) (n : Str) (vs : List Str) : BD := if (b.any fun e => decide (e.1 = n)) = true then b.map (fun e => if e.1 = n then (e.1, vs) else e) else b ++ [(n, vs)]
theorem Ents.any {H : Hp} {kvs : List (Key × V)} {b : BD} (h : Ents H kvs b) (n : Str) : (kvs.any fun kv => decide (kv.1 = Sum.inr n)) = b.any fun e => decide (e.1 = n) := by
  induction h with
  | nil => rfl
  | @cons l m vs kvs b e _ ih =>
    rw [List.any_cons, List.any_cons, ih]
    congr 1
    by_cases q : m = n
    · rw [decide_eq_true q, decide_eq_true (by rw [q])]
    · rw [decide_eq_false q, decide_eq_false (fun z => q (Sum.inr.inj z))]
theorem Ents.repl {H : Hp} {kvs : List (Key × V)} {b : BD} (h : Ents H kvs b) {n : Str} {l : Addr} {vs : List Str} (hl : H l = some (.lst (vs.map V.str))) :
    Ents H (kvs.map fun kv => if kv.1 = Sum.inr n then (kv.1, V.ref l) else kv) (b.map fun e => if e.1 = n then (e.1, vs) else e) := by
  induction h with
  | nil => exact .nil
  | @cons l' m ws kvs b e _ ih =>
    rw [List.map_cons, List.map_cons]
    by_cases q : m = n
    · subst q
      rw [if_pos rfl, if_pos rfl]
      exact .cons hl ih
    · rw [if_neg (fun z => q (Sum.inr.inj z)), if_neg q]
      exact .cons e ih
theorem Ents.put {H : Hp} {kvs : List (Key × V)} {b : BD} (h : Ents H kvs b) {n : Str} {l : Addr} {vs : List Str} (hl : H l = some (.lst (vs.map V.str))) : Ents H (putK kvs (.inr n) (.ref l)) (putB b n vs) := by
  unfold putK putB
  rw [h.any n]
  by_cases q : (b.any fun e => decide (e.1 = n)) = true
  · rw [if_pos q, if_pos q]
    exact h.repl hl
  · rw [if_neg q, if_neg q]
    exact h.app (.cons hl .nil)
theorem putB_len (b : BD) (n : Str) (vs : List Str) : (putB b n vs).length ≤ b.length + 1 := by
  unfold putB
  split
  · rw [List.length_map]
    omega
  · rw [List.length_append]
    exact Nat.le_refl _
theorem repl_keys (n : Str) (vs : List Str) : ∀ b : BD, (b.map fun e => if e.1 = n then (e.1, vs) else e).map (·.1) = b.map (·.1)
  | [] => rfl
  | e :: b => by
    rw [List.map_cons, List.map_cons, List.map_cons, repl_keys n vs b]
    congr 1
    by_cases q : e.1 = n
    · rw [if_pos q]
    · rw [if_neg q]
theorem putB_keys (b : BD) (n : Str) (vs : List Str) (h : (b.map (·.1)).Nodup) : ((putB b n vs).map (·.1)).Nodup := by
  unfold putB
  by_cases q : (b.any fun e => decide (e.1 = n)) = true
  · rw [if_pos q, repl_keys]
    exact h
  · rw [if_neg q, List.map_append]
    refine nd_snoc h fun m => q ?_
    obtain ⟨e, he, en⟩ := List.mem_map.mp m
    exact List.any_eq_true.mpr ⟨e, he, decide_eq_true en⟩
theorem putB_all {p : Str × List Str → Prop} {b : BD} {n : Str} {vs : List Str} (h : ∀ e ∈ b, p e) (hn : p (n, vs)) : ∀ e ∈ putB b n vs, p e := by
  intro e he
  unfold putB at he
  by_cases q : (b.any fun e => decide (e.1 = n)) = true
  · rw [if_pos q] at he
    obtain ⟨x, hx, ex⟩ := List.mem_map.mp he
    by_cases c : x.1 = n
    · rw [if_pos c] at ex
      rw [← ex, c]
      exact hn
    · rw [if_neg c] at ex
      rw [← ex]
      exact h x hx
  · rw [if_neg q] at he
    rcases List.mem_append.mp he with z | z
    · exact h e z
    · rw [List.mem_singleton.mp z]
      exact hn
theorem Ents.upd_dict {H : Hp} {kvs : List (Key × V)} {b : BD} (h : Ents H kvs b) {a : Addr} {ls ms : List (Key × V)} (ha : H a = some (.dK ls)) : Ents (upd H a (.dK ms)) kvs b :=
  h.mono fun l xs e _ => by
    rw [upd_ne (ne_of e ha (by intro z; cases z))]
    exact e
section
variable {P : Program} {w : World} {K : PySem.W.Frag} {mg : Str → Option Value} {base : Heap}
/-! ### bundle -/
/-- values of a feature, unlike -/
def OfF (ds : List FtD) (e : Str × List Str) : Prop := ∃ f ∈ ds, f.n = e.1 ∧ (∀ x ∈ e.2, x ∈ f.vs) ∧ e.2.Nodup
def spBundle (K : PySem.W.Frag) : Sp := fun vs H Q _ => ∃ (b a : Addr) (xs : List V) (ds : List FtD), vs = [.ref b, .ref a] ∧ Bx H b ∧ H a = some (.lst xs) ∧ Fts H xs ds ∧ FtsN ds ∧ ∀ (p : Addr) (d : BD) H', H p = none → Kb b H H' → Bd H' p d → d.length ≤ 6 → (∀ e ∈ d, OfF ds e) → Q (.ref p) H'
theorem ok_bundle {f fT fS : Addr} {fd fdT fdS : FuncData} (F : Fun K "_law_bundle" "_law_bundle" s_l_bundle f fd)
    (kT : PySem.W.keepIn K (.ref fT) = true) (bT : Binds K fdT ["_law_box_here", "_law_many"] []) (gT : mg "_law_take" = some (.ref fT)) (GT : FnOk P w K mg base CX0 2 fT fdT ["_law_box_here", "_law_many"] spTake)
    (kS : PySem.W.keepIn K (.ref fS) = true) (bS : Binds K fdS ["_law_box_here", "_law_words", "_law_many"] []) (gS : mg "_law_some" = some (.ref fS)) (GS : FnOk P w K mg base CX0 3 fS fdS ["_law_box_here", "_law_words", "_law_many"] (spSome K))
    (ml : mg "len" = none) : FnOk P w K mg base CX0 4 f fd ["_law_box_here", "_law_features"] (spBundle K) := by
  refine F.ok sc_l_bundle (fun vs H Q E h => ?_) (fun cdv A outer s H vs Q E hr h => ?_)
  · obtain ⟨b, a, xs, ds, rfl, _⟩ := h
    rfl
  · obtain ⟨b, a, xs, ds, rfl, hb, hS0, hF, hN0, q⟩ := h
    have hS : SqL K H a xs := .inl (.inl hS0)
    have hxl : xs.length ≤ 3 := by
      rw [Paired.length hF]
      exact hN0.2.1
    refine ⟨_, pss_cons (ps_set (i := 2) sc_l_bundle.nd rfl (.inl rfl) pe_dnewK)
      (pss_cons (ps_for PassesOwn.never rfl (pi_list (pe_call GS hr (by rfl) gS kS bS .nil pass0 (pa_cons (pv 0) (pa_cons (pv 1) (pa_cons (pe_callB call_len_seq (by rfl) ml PySem.boot_len (pa_cons (pv 1) pa_nil)) pa_nil)))))
          (pg_tup rfl (pgs_cons (pg_name (i := 3) sc_l_bundle.nd rfl (.inl rfl)) (pgs_cons (pg_name (i := 4) sc_l_bundle.nd rfl (.inl rfl)) (pgs_cons (pg_name (i := 5) sc_l_bundle.nd rfl (.inl rfl)) pgs_nil))))
        (pss_cons (ps_set (i := 6) sc_l_bundle.nd rfl (.inl rfl) (pe_call GT (hr.mono (by decide)) (by rfl) gT kT bT .nil pass0 (pa_cons (pv 0) (pa_cons pe_int pa_nil))))
        (pss_cons (ps_setLc (i := 7) (own := [("_law_value", 8)]) (g := gName 8) rfl sc_l_bundle.nd rfl rfl (sw_true rfl rfl rfl (by decide +kernel)) (pi_list (pv 4))
            (blkOk_by (own := [("_law_value", 8)]) (N := ["_law_box_here", "_law_features", "_law_bundle_here", "_law_name", "_law_values", "_law_told", "_law_how", "_law_keep", "_law_value"]) (sc := defScope s_l_bundle) (by decide +kernel))
            (fun _ _ _ _ _ => pg_name (i := 8) sc_l_bundle.nd rfl (Or.inl rfl)) (fun _ _ _ _ _ => pts_one (pt_cmpR op_gt (pe_call GT (hr.mono (by decide)) (by rfl) gT kT bT .nil pass0 (pa_cons (pv 0) (pa_cons pe_int pa_nil))) pe_int (nomark _))) (fun _ _ _ _ _ => pv 8))
        (C8.pss_cut (ps_if (pt_cmpR op_eq (pv 6) pe_int (nomark _)) (pss_one (ps_set (i := 7) sc_l_bundle.nd rfl (.inl rfl) (pe_lst (pa_cons (pe_ix ix_list (pv 4) (pe_call GT (hr.mono (by decide)) (by rfl) gT kT bT .nil pass0 (pa_cons (pv 0) (pa_cons (pe_callB call_len_seq (by rfl) ml PySem.boot_len (pa_cons (pv 4) pa_nil)) pa_nil))) (fun _ _ => rfl)) pa_nil)))) pss_nil)
        (pss_one (ps_if (PW.pt (pw_and (pt_cmpR op_gt (pv 6) pe_int (nomark _)) (pw_and1 (pt_cmpR (op_neD hr.units) (pv 7) (pe_lst pa_nil) (nomark _)))))
          (pss_one (ps_dput (hu_of hr) (pv 2) (pv 3) (pv 7) rfl)) pss_nil))))))
      (pss_one (ps_ret (pv 2)))), ?_⟩
    intro d nd
    have k1 : Kb b H (upd H d (.dK [])) := Kb.new hb nd
    have ndb : d ≠ b := (hb.ne nd).symm
    have hS1 : SqL K (upd H d (.dK [])) a xs := (same_new nd).seq hS
    refine ⟨_, rfl, _, rfl, _, rfl, a, xs, rfl, .inl hS1, b, a, xs, xs.length, rfl, k1.x, hS1, Nat.le_refl _, by omega, fun p ys H2 np k2 hp hyl ⟨zs, hpm⟩ => ?_⟩
    have hym : ∀ y ∈ ys, y ∈ xs := fun y hy => hpm.mem_iff.mp (List.mem_append_left _ hy)
    have npb : p ≠ b := (k1.x.ne np).symm
    have hd2 : H2 d = some (.dK []) := k2.k _ _ ndb upd_same
    have npd : p ≠ d := (ne_of_none (upd_same (H := H) (a := d) (o := .dK [])) np).symm
    refine ⟨p, rfl, ⟨_, .inl (.inl hp)⟩, for_list (K := K) (a := p) (xs := ys) (fun i σ H' => ∃ y3 y4 y5 y6 y7 y8, σ = [some (.ref b), some (.ref a), some (.ref d), y3, y4, y5, y6, y7, y8] ∧ Kb b H H' ∧ H' p = some (.lst ys) ∧ ∃ kvs bd, H' d = some (.dK kvs) ∧ Ents H' kvs bd ∧ (bd.map (·.1)).Nodup ∧ bd.length ≤ i ∧ (∀ e ∈ bd, okS e.1 ∧ 1 ≤ e.2.length ∧ e.2.length ≤ 20 ∧ ∀ x ∈ e.2, okS x) ∧ ∀ e ∈ bd, OfF ds e)
      ⟨none, none, none, none, none, none, rfl, k1.trans k2, hp, [], [], hd2, .nil, List.nodup_nil, Nat.le_refl _, (fun e he => nomatch he), (fun e he => nomatch he)⟩ (fun i σ H' _ h => ?_) (fun i x σ H' hx hP => ?_) (fun σ H' hP => ?_)⟩
    · obtain ⟨_, _, _, _, _, _, _, _, h, _⟩ := h
      exact .inl (.inl h)
    · obtain ⟨y3, y4, y5, y6, y7, y8, rfl, kb, hp', kvs, bd, hd', hE, hN, hbl, hB', hNm⟩ := hP
      have hil : i < ys.length := (List.getElem?_eq_some_iff.mp hx).1
      obtain ⟨dd, hdd, pt, lv, rfl, f1, f2, hB⟩ := paired_in hF (hym x (List.mem_of_getElem? hx))
      have hdn := (hN0.2.2.2 dd hdd).2.1
      have e1 := kb.k _ _ (ne_bx hb f1 (fun _ _ _ _ z => by cases z)) f1
      have e2 := kb.k _ _ (ne_bx hb f2 (strs_ne_ints hB.1)) f2
      have nlb : lv ≠ b := ne_bx kb.x e2 (strs_ne_ints hB.1)
      refine ⟨pt, _, rfl, .inl (.inl e1), rfl, _, _, rfl, _, _, rfl, _, _, rfl, rfl, ?_⟩
      refine ⟨_, rfl, b, 5, rfl, kb.x, by decide, by decide, fun h1 HA h10 h11 kA => ?_⟩
      have e2A := kA.k _ _ nlb e2
      refine ⟨_, rfl, lv, rfl, ⟨_, .inl (.inl e2A)⟩, fun D nD => lc_list (K := K) (a := lv) (xs := dd.vs.map V.str) (fun j HX => Kb b HA HX ∧ ∃ ks : List Str, HX D = some (.lst (ks.map V.str)) ∧ ks.Sublist (dd.vs.take j)) ⟨Kb.new kA.x nD, [], upd_same, List.nil_sublist _⟩ (fun j HX _ h => .inl (.inl (h.1.k _ _ nlb e2A))) (fun j x HX hxj hP => ?_) (fun HX hP => ?_)⟩
      · obtain ⟨kX, ks, hD, hkl⟩ := hP
        have hkle := hkl.length_le
        rw [List.length_take] at hkle
        have nDb : D ≠ b := (kA.x.ne nD).symm
        rw [List.getElem?_map] at hxj
        obtain ⟨v, ev, ex⟩ := Option.map_eq_some_iff.mp hxj
        subst ex
        have hvo : okS v := hB.2.2.2 v (List.mem_of_getElem? ev)
        have hjl : j < dd.vs.length := (List.getElem?_eq_some_iff.mp ev).1
        have hvl := hB.2.1
        refine ⟨rfl, _, rfl, b, 3, rfl, kX.x, by decide, by decide, fun n HB n0 n1 kB => ⟨_, _, rfl, rfl, _, rfl, ite2 (fun e => ?_) (fun e => ?_)⟩⟩
        · refine ⟨_, rfl, ks.map V.str, kB.k _ _ nDb hD, by rw [List.length_map]; exact small1000 (by omega), (kX.trans kB).own nD nDb, ks ++ [v], ?_, ?_⟩
          · rw [upd_same, List.map_append]
            rfl
          · rw [List.take_add_one, ev]
            exact hkl.append (List.Sublist.refl _)
        · exact ⟨kX.trans kB, ks, kB.k _ _ nDb hD, hkl.trans (List.take_sublist_take_left (Nat.le_succ j))⟩
      · obtain ⟨kX, ks, hD, hkl⟩ := hP
        rw [List.length_map, List.take_length] at hkl
        have hkle := hkl.length_le
        have hvl := hB.2.1
        have hv1 := hB.1
        refine ⟨fun σ' HM => ∃ (D' : Addr) (ks : List Str), σ' = [some (.ref b), some (.ref a), some (.ref d), some (.str dd.n), some (.ref lv), some (.bl dd.t), some (.int h1), some (.ref D'), y8] ∧ Kb b HA HM ∧ HM D' = some (.lst (ks.map V.str)) ∧ ks.length ≤ 6 ∧ (∀ x ∈ ks, x ∈ dd.vs) ∧ ks.Nodup, ?_, fun σ' HM hM => ?_⟩
        · refine ⟨_, rfl, rfl, _, rfl, ite2 (fun e => ?_) (fun e => ⟨D, ks, rfl, kX, hD, by omega, fun x hx => hkl.subset hx, hkl.nodup hdn⟩)⟩
          have e2X := kX.k _ _ nlb e2A
          refine ⟨_, rfl, _, rfl, _, rfl, lv, _, rfl, .inl (.inl (.inl e2X)), b, _, rfl, kX.x, by rw [List.length_map]; omega, by rw [List.length_map]; omega, fun n HB n0 n1 kB => ?_⟩
          rw [List.length_map] at n1
          have gl : (dd.vs.map V.str)[n.toNat]? = some (V.str dd.vs[n.toNat]) := by
            rw [List.getElem?_map, List.getElem?_eq_getElem (by omega)]
            rfl
          refine ⟨lv, _, n, _, rfl, rfl, .inl (.inl (kB.k _ _ nlb e2X)), at_of (j := n.toNat) (by omega) gl, (show 1 ≤ sizeLine by decide), fun D2 nD2 => ?_⟩
          refine ⟨D2, [dd.vs[n.toNat]], rfl, (kX.trans kB).trans (Kb.new kB.x nD2), upd_same, (show 1 ≤ 6 by decide), fun x hx' => ?_, List.pairwise_singleton _ _⟩
          rw [List.mem_singleton.mp hx']
          exact List.getElem_mem _
        · obtain ⟨D', ks', rfl, kM, hD', hkl', hkv', hkn'⟩ := hM
          have hko' : ∀ x ∈ ks', okS x := fun x hx => hB.2.2.2 x (hkv' x hx)
          have KM := kA.trans kM
          have hdM : HM d = some (.dK kvs) := KM.k _ _ ndb hd'
          have hpM : HM p = some (.lst ys) := KM.k _ _ npb hp'
          have hEM : Ents HM kvs bd := hE.mono fun l zs hl ⟨n, hm⟩ => by
            obtain ⟨e', he', hl'⟩ := hE.vals hm
            exact KM.k _ _ (ne_bx kb.x hl' (strs_ne_ints (hB' e' he').2.1)) hl
          have stay : ∀ {HZ : Hp}, Same HM HZ → Bx HZ b → ∃ z3 z4 z5 z6 z7 z8, [some (V.ref b), some (.ref a), some (.ref d), some (.str dd.n), some (.ref lv), some (.bl dd.t), some (.int h1), some (.ref D'), y8] = [some (.ref b), some (.ref a), some (.ref d), z3, z4, z5, z6, z7, z8] ∧ Kb b H HZ ∧ HZ p = some (.lst ys) ∧ ∃ kvs bd, HZ d = some (.dK kvs) ∧ Ents HZ kvs bd ∧ (bd.map (·.1)).Nodup ∧ bd.length ≤ i + 1 ∧ (∀ e ∈ bd, okS e.1 ∧ 1 ≤ e.2.length ∧ e.2.length ≤ 20 ∧ ∀ x ∈ e.2, okS x) ∧ ∀ e ∈ bd, OfF ds e := by
            intro HZ sm hbz
            exact ⟨_, _, _, _, _, _, rfl, (kb.trans KM).trans ⟨Kp.of_same sm, hbz⟩, sm _ _ hpM, kvs, bd, sm _ _ hdM, hEM.same sm, hN, by omega, hB', hNm⟩
          refine ⟨_, rfl, _, _, rfl, rfl, _, rfl, ite2 (fun c => ?_) (fun c => iteF (stay (Same.refl _) KM.x))⟩
          · refine ⟨_, rfl, Nat.zero_le _, fun p1 np1 => ?_⟩
            have sm : Same HM (upd HM p1 (.lst [])) := same_new np1
            refine ⟨_, _, .lst (.inl (.inl (sm _ _ hD'))) (strs_dp ks'), .lst (.inl (.inl upd_same)) .nil, strs_list_shaped hko', rfl, _, rfl, ?_⟩
            rw [strs_nil]
            by_cases hks : ks'.isEmpty = true
            · rw [hks]
              exact iteF (stay sm (KM.x.same sm))
            · have hkf : ks'.isEmpty = false := Bool.eq_false_iff.mpr hks
              rw [hkf]
              have hlen : 1 ≤ ks'.length := by
                cases hq : ks' with
                | nil => rw [hq] at hkf; cases hkf
                | cons k0 kr => exact Nat.succ_le_succ (Nat.zero_le _)
              have hE1 := hEM.same sm
              have hd1 := sm _ _ hdM
              have pl := putB_len bd dd.n ks'
              refine iteT ⟨_, rfl, _, rfl, _, rfl, d, _, rfl, DPut.k (k := .inr dd.n) hd1 (by rw [hEM.length]; exact small1000 (by omega)), ?_⟩
              refine ⟨_, _, _, _, _, _, rfl, (kb.trans (KM.trans (Kb.new KM.x np1))).own nd ndb, ?_, _, putB bd dd.n ks', upd_same, (hE1.put (sm _ _ hD')).upd_dict hd1, putB_keys _ _ _ hN, by omega, putB_all hB' ⟨hB.2.2.1, hlen, by show ks'.length ≤ 20; omega, hko'⟩, putB_all hNm ⟨dd, hdd, rfl, hkv', hkn'⟩⟩
              rw [upd_ne npd]
              exact sm _ _ hpM
    · obtain ⟨y3, y4, y5, y6, y7, y8, rfl, kb, hp', kvs, bd, hd', hE, hN, hbl, hB', hNm⟩ := hP
      exact ⟨_, rfl, q d bd _ nd kb ⟨kvs, hd', hE, hN, by omega, hB'⟩ (by omega) hNm⟩
end
end Bn

namespace Bn
open PySem PySem.Spec PyProof.Rows L2 BR
theorem Rd.same {H H' : Hp} {a : Addr} {u : HO} (h : Rd H a u) (s : Same H H') : Rd H' a u := by
  rcases h with h | ⟨o, h⟩
  · exact .inl (s _ _ h)
  · exact .inr ⟨o, s _ _ h⟩
theorem valV_get : ∀ {kvs : List (Key × V)} {i : Nat} {k : Key} {v : V}, (kvs.map (·.1)).Nodup → kvs[i]? = some (k, v) → valV kvs k = some v
  | [], i, k, v, _, h => by simp at h
  | p :: r, 0, k, v, _, h => by
    have e := Option.some.inj h
    subst e
    exact valV_pos rfl
  | p :: r, i + 1, k, v, hn, h => by
    obtain ⟨h1, h2⟩ := List.nodup_cons.mp hn
    have h' : r[i]? = some (k, v) := h
    have hm : k ∈ r.map (·.1) := List.mem_map.mpr ⟨(k, v), List.mem_of_getElem? h', rfl⟩
    rw [valV_neg (fun e => h1 (by rw [show (fun x : Key × V => x.fst) p = k from e]; exact hm))]
    exact valV_get h2 h'
theorem keys_nodup {b : BD} (h : (b.map (·.1)).Nodup) : (b.map fun e => (Sum.inr e.1 : Key)).Nodup := by
  have e : (b.map fun e => (Sum.inr e.1 : Key)) = (b.map (·.1)).map Sum.inr := by
    rw [List.map_map]
    rfl
  rw [e]
  exact List.Pairwise.map Sum.inr (fun a b h z => h (Sum.inr.inj z)) h
theorem merge_new : ∀ (more acc : List (Key × V)), ((acc ++ more).map (·.1)).Nodup → mergeK acc more = acc ++ more
  | [], acc, _ => by rw [List.append_nil]; rfl
  | kv :: r, acc, h => by
    have hn : valV acc kv.1 = none := by
      cases e : valV acc kv.1 with
      | none => rfl
      | some v =>
        have hm := valV_in e
        rw [List.map_append, List.map_cons] at h
        exact absurd rfl ((List.pairwise_append.mp h).2.2 kv.1 hm kv.1 (List.mem_cons_self ..))
    show mergeK (putK acc kv.1 kv.2) r = acc ++ kv :: r
    rw [putK_new kv.2 hn, merge_new r (acc ++ [(kv.1, kv.2)]) (by rw [List.append_assoc]; exact h), List.append_assoc]
    rfl
theorem take_get {α : Type} {l : List α} {i : Nat} {x : α} (h : l[i]? = some x) : l.take (i + 1) = l.take i ++ [x] := by
  rw [List.take_add_one, h]
  rfl
theorem strs_ne_refs {vs : List Str} {ps : List Addr} (h : 1 ≤ vs.length) : vs.map V.str ≠ ps.map V.ref := fun e => by
  cases vs with
  | nil => exact absurd h (by decide)
  | cons v r =>
    cases ps with
    | nil => cases e
    | cons p q =>
      rw [List.map_cons, List.map_cons] at e
      injection e with e1 _
      cases e1
theorem paired_mono {α β : Type} {R S : α → β → Prop} {l : List α} {m : List β} (h : Paired R l m) (f : ∀ a b, R a b → S a b) : Paired S l m := by
  induction h with
  | nil => exact .nil
  | cons x _ ih => exact .cons (f _ _ x) ih
theorem paired_snoc {α β : Type} {R : α → β → Prop} {l : List α} {m : List β} {a : α} {b : β} (h : Paired R l m) (x : R a b) : Paired R (l ++ [a]) (m ++ [b]) := by
  induction h with
  | nil => exact .cons x .nil
  | cons y _ ih => exact .cons y ih
theorem Bd.len {H : Hp} {a : Addr} {d : BD} (h : Bd H a d) : d.length ≤ 200 := by
  obtain ⟨_, _, _, _, h, _⟩ := h
  exact h
end Bn

namespace Bn
open PySem PySem.Spec PyProof.Rows L2 BR GX
theorem Ents.knames {H : Hp} {kvs : List (Key × V)} {b : BD} (h : Ents H kvs b) : (kvs.map fun kv => kV kv.1) = (b.map (·.1)).map V.str := by
  induction h with
  | nil => rfl
  | cons _ _ ih =>
    rw [List.map_cons, List.map_cons, List.map_cons, ih]
    rfl
theorem Ents.frz {H : Hp} {kvs : List (Key × V)} {b : BD} (h : Ents H kvs b) {a : Addr} {ls : List (Key × V)} {o : Obj} {u : HO} (ha : H a = some (.dK ls)) : Ents (upd H a (.frz o u)) kvs b := h.mono fun l xs e _ => by
  rw [upd_ne (ne_of e ha (by intro z; cases z))]
  exact e
theorem Ents.val_isNone {H : Hp} {kvs : List (Key × V)} {b : BD} (h : Ents H kvs b) (n : Str) : (!(valV kvs (.inr n)).isSome) = (at? b n).isNone := by
  rcases h.val n with ⟨h1, h2⟩ | ⟨l, vs, h1, h2, _⟩
  · rw [h1, h2]
    rfl
  · rw [h1, h2]
    rfl
theorem Same.unlock {H HX : Hp} {a : Addr} {u : HO} {o : Obj} (ha : H a = some u) (s : Same (upd H a (.frz o u)) HX) : Same H (upd HX a u) := fun x y e => by
  by_cases c : x = a
  · subst c
    rw [upd_same, ← ha]
    exact e
  · rw [upd_ne c]
    exact s _ _ (by rw [upd_ne c]; exact e)
theorem inV_str (x : Str) : ∀ ws : List Str, inV (.str x) (ws.map V.str) = decide (x ∈ ws)
  | [] => rfl
  | y :: ws => by
    have ih := inV_str x ws
    unfold inV at ih ⊢
    rw [List.map_cons, List.any_cons, ih]
    show ((y == x) || decide (x ∈ ws)) = decide (x ∈ y :: ws)
    rw [Bool.eq_iff_iff, Bool.or_eq_true, beq_iff_eq, decide_eq_true_eq, decide_eq_true_eq, List.mem_cons]
    exact ⟨fun h => h.imp Eq.symm id, fun h => h.imp Eq.symm id⟩
theorem flat_strs (ws : List Str) : (ws.map V.str).all flatV = true := List.all_eq_true.mpr fun x hx => by
  obtain ⟨y, _, rfl⟩ := List.mem_map.mp hx
  rfl
theorem filter_snoc {α : Type} {p : α → Bool} {l : List α} {i : Nat} {x : α} (h : l[i]? = some x) : (l.take (i + 1)).filter p = (l.take i).filter p ++ if p x = true then [x] else [] := by
  rw [take_get h, List.filter_append]
  congr 1
  by_cases c : p x = true
  · rw [if_pos c, List.filter_cons_of_pos c, List.filter_nil]
  · rw [if_neg c, List.filter_cons_of_neg c, List.filter_nil]

/-! ### bundles behind grown tables -/
theorem Ents.sameN {Ps : List Addr} {H H' : Hp} {kvs : List (Key × V)} {b : BD} (h : Ents H kvs b) (s : SameN Ps H H') : Ents H' kvs b := h.mono fun l xs e _ => s.k _ _ nt_lst e
theorem Bd.sameN {Ps : List Addr} {H H' : Hp} {a : Addr} {b : BD} (h : Bd H a b) (s : SameN Ps H H') : Bd H' a b := by
  obtain ⟨kvs, e, x, y⟩ := h
  exact ⟨kvs, s.k _ _ nt_dK e, x.sameN s, y⟩
theorem room_gen {k : Nat} {A : Around} (hr : Room (k + 3) A) (env : Env) : Room k (A.in1.in1.deeper env) := ((hr.in1).in1).deeper env
theorem rd_sameN {Ps : List Addr} {H H' : Hp} {a : Addr} {v : HO} (h : Rd H a v) (hv : NT v) (s : SameN Ps H H') : Rd H' a v := by
  rcases h with e | ⟨o, e⟩
  · exact .inl (s.k _ _ hv e)
  · exact .inr ⟨o, s.k _ _ nt_frz e⟩
end Bn

namespace Bn
open PySem PySem.Spec PyProof.Rows L2 BR
/-! ### the mathematics -/
def namesF (b c : BD) : List Str := b.map (·.1) ++ (c.map (·.1)).filter fun n => (at? b n).isNone
def leftF (b c : BD) (n : Str) : List Str := match at? b n, at? c n with
  | none, none => []
  | none, some w => w
  | some v, none => v
  | some v, some w => v.filter fun x => decide (x ∈ w)
def entsF (b c : BD) : BD := (namesF b c).map fun n => (n, leftF b c n)
def joinedF (b c : BD) : Option BD := if ((entsF b c).any fun e => e.2.isEmpty) = true then none else some (entsF b c)
section
variable {P : Program} {w : World} {K : PySem.W.Frag} {mg : Str → Option Value} {base : Heap}
/-! ### names_in_either -/
def spNamesE : Sp := fun vs H Q _ => ∃ (a c : Addr) (b d : BD), vs = [.ref a, .ref c] ∧ Bd H a b ∧ Bd H c d ∧ ∀ (p : Addr) H', H p = none → Same H H' → H' p = some (.lst ((namesF b d).map V.str)) → Q (.ref p) H'
theorem ok_namesE {f : Addr} {fd : FuncData} {k : Nat} (F : Fun K "names_in_either" "names_in_either" s_names_in_either f fd) : FnOk P w K mg base CX0 (k + 1) f fd ["one", "other"] spNamesE := by
  refine F.ok sc_names_in_either (fun vs H Q E h => ?_) (fun cdv A outer s H vs Q E hr h => ?_)
  · obtain ⟨a, c, b, d, rfl, _⟩ := h
    rfl
  · obtain ⟨a, c, b, d, rfl, hA, hC, q⟩ := h
    have la := hA.len
    have lc := hC.len
    obtain ⟨ka, ha, hEa, hNa, hLa, hBa⟩ := hA
    obtain ⟨kc, hc, hEc, hNc, hLc, hBc⟩ := hC
    refine ⟨_, pss_one (ps_ret (pe_lst (pa_starD rfl (pv 0) (StX.pa_star (pe_lock (pe_lc (own := [("name", 2)]) (g := gName 2) rfl sc_names_in_either.nd (pi_keys (pv 1))
      (blkOk_by (own := [("name", 2)]) (N := ["one", "other", "name"]) (sc := defScope s_names_in_either) (by decide +kernel))
      (fun _ _ _ _ _ => pg_name (i := 2) sc_names_in_either.nd rfl (Or.inl rfl)) (fun _ _ _ _ _ => pts_one (pt_cmp (pc_dnotin (hu_of hr) (pv 2) (pv 0))))
      (fun _ _ _ _ _ => pv 2))) pa_nil)))), ?_⟩
    refine ⟨_, rfl, a, ka, rfl, ha, c, _, hc, trivial, fun od => ⟨_, rfl, c, od, rfl, .inl ⟨kc, upd_same, fun D nD => ?_⟩⟩⟩
    have hcL : (upd H c (.frz od (.dK kc))) c = some (.frz od (.dK kc)) := upd_same
    have haL : Rd (upd H c (.frz od (.dK kc))) a (.dK ka) := rd_lock ha hc
    have hEcL := hEc.frz (o := od) (u := .dK kc) hc
    have nDc : D ≠ c := fun e => by
      rw [e, upd_same] at nD
      cases nD
    refine lc_it (walk_keys (d := c) (o := od) (kvs := kc)) (fun i HX => Same (upd H c (.frz od (.dK kc))) HX ∧ HX D = some (.lst (((((d.take i).map (·.1)).filter fun n => (at? b n).isNone)).map V.str)))
      ⟨same_new nD, upd_same⟩ (fun i HX _ h => h.1 _ _ hcL) (fun i x HX HX' hi hP hY => ?_) (fun HX hP => ?_)
    · obtain ⟨rfl, kk, v, hkv, rfl⟩ := hY
      obtain ⟨sL, hD⟩ := hP
      obtain ⟨n, l, vs, rfl, rfl, hl, hbi⟩ := hEcL.get hkv
      refine ⟨rfl, _, rfl, _, rfl, a, _, rfl, .inl ⟨ka, .inr n, Rd.same haL sL, rfl, rfl⟩, _, rfl, ?_⟩
      rw [hEa.val_isNone n]
      have et : ((d.take (i + 1)).map (·.1)).filter (fun n => (at? b n).isNone) = ((d.take i).map (·.1)).filter (fun n => (at? b n).isNone) ++ [n].filter fun n => (at? b n).isNone := by
        rw [take_get hbi, List.map_append, List.filter_append]
        rfl
      cases e : (at? b n).isNone with
      | true =>
        refine iteT ⟨_, rfl, _, hD, ?_, Same.own sL nD, ?_⟩
        · rw [List.length_map]
          refine small1000 (Nat.le_trans (List.length_filter_le _ _) ?_)
          rw [List.length_map, List.length_take]
          omega
        · rw [upd_same, et, List.filter_cons_of_pos (p := fun n => (at? b n).isNone) e, List.map_append]
          rfl
      | false =>
        refine iteF ⟨sL, ?_⟩
        rw [et, List.filter_cons_of_neg (p := fun n => (at? b n).isNone) (by show ¬ (at? b n).isNone = true; rw [e]; decide), hD]
        rw [List.filter_nil, List.append_nil]
    · obtain ⟨sL, hD⟩ := hP
      have hkl := hEc.length
      rw [hkl, List.take_length] at hD
      have sU := Same.unlock hc sL
      refine ⟨sL _ _ hcL, D, _, rfl, .inr (.inl (.inl (by rw [upd_ne nDc]; exact hD))), ?_, fun p np => ?_⟩
      · rw [List.append_nil, List.length_append, List.length_map, List.length_map]
        have := List.length_filter_le (fun n => (at? b n).isNone) (d.map (·.1))
        rw [List.length_map] at this
        have := hEa.length
        exact line1000 (by omega)
      · refine q p _ (sU.free np) (sU.trans (same_new np)) ?_
        rw [upd_same, hEa.knames, List.append_nil, ← List.map_append]
        rfl
/-! ### values_left -/
def spLeft : Sp := fun vs H Q _ => ∃ (a c : Addr) (b d : BD) (n : Str), vs = [.ref a, .ref c, .str n] ∧ Bd H a b ∧ Bd H c d ∧ (at? b n ≠ none ∨ at? d n ≠ none) ∧ ∀ (p : Addr) H', H p = none → Same H H' → H' p = some (.lst ((leftF b d n).map V.str)) → Q (.ref p) H'
theorem ok_left {f : Addr} {fd : FuncData} {k : Nat} (F : Fun K "values_left" "values_left" s_values_left f fd) (mli : mg "list" = none) : FnOk P w K mg base CX0 (k + 1) f fd ["one", "other", "name"] spLeft := by
  refine F.ok sc_values_left (fun vs H Q E h => ?_) (fun cdv A outer s H vs Q E hr h => ?_)
  · obtain ⟨a, c, b, d, n, rfl, _⟩ := h
    rfl
  · obtain ⟨a, c, b, d, n, rfl, ⟨ka, ha, hEa, hNa, hLa, hBa⟩, ⟨kc, hc, hEc, hNc, hLc, hBc⟩, hn, q⟩ := h
    refine ⟨_, pss_cons (ps_if (pt_cmp (pc_dnotin (hu_of hr) (pv 2) (pv 0))) (pss_one (ps_ret (pe_callTy call_list_of (by rfl) mli (by decide +kernel) (pa_cons (pe_dget (hu_of hr) (pv 1) (pv 2) (fun _ _ => rfl)) pa_nil)))) pss_nil)
      (pss_cons (ps_if (pt_cmp (pc_dnotin (hu_of hr) (pv 2) (pv 1))) (pss_one (ps_ret (pe_callTy call_list_of (by rfl) mli (by decide +kernel) (pa_cons (pe_dget (hu_of hr) (pv 0) (pv 2) (fun _ _ => rfl)) pa_nil)))) pss_nil)
      (pss_one (ps_ret (pe_lc (own := [("value", 3)]) (g := gName 3) rfl sc_values_left.nd (pi_list (pe_dget (hu_of hr) (pv 0) (pv 2) (fun _ _ => rfl)))
        (blkOk_by (own := [("value", 3)]) (N := ["one", "other", "name", "value"]) (sc := defScope s_values_left) (by decide +kernel))
        (fun _ _ _ _ _ => pg_name (i := 3) sc_values_left.nd rfl (Or.inl rfl)) (fun _ _ _ _ _ => pts_one (pt_cmpR (op_inK (K := K) rfl) (pv 3) (pe_dget (hu_of hr) (pv 1) (pv 2) (fun _ _ => rfl)) (by rfl)))
        (fun _ _ _ _ _ => pv 3))))), ?_⟩
    refine ⟨_, rfl, _, rfl, a, _, rfl, DGet.k (k := .inr n) ha, _, rfl, ?_⟩
    rcases hEa.val n with ⟨a1, a2⟩ | ⟨la, va, a1, a2, a3, a4⟩
    · rw [a2]
      rcases hEc.val n with ⟨c1, c2⟩ | ⟨lc, vc, c1, c2, c3, c4⟩
      · exact absurd hn (by rw [a1, c1]; exact fun z => z.elim (fun y => y rfl) (fun y => y rfl))
      · have el : leftF b d n = vc := by
          unfold leftF
          rw [a1, c1]
        rw [el] at q
        refine iteT ⟨_, rfl, _, rfl, c, _, rfl, by rw [← c2]; exact DGet.k (k := .inr n) hc, lc, _, rfl, .inl (.inl (.inl c3)), fun p np => ?_⟩
        exact q p _ np (same_new np) upd_same
    · rw [a2]
      refine iteF ⟨_, rfl, _, rfl, c, _, rfl, DGet.k (k := .inr n) hc, _, rfl, ?_⟩
      rcases hEc.val n with ⟨c1, c2⟩ | ⟨lc, vc, c1, c2, c3, c4⟩
      · rw [c2]
        have el : leftF b d n = va := by
          unfold leftF
          rw [a1, c1]
        rw [el] at q
        refine iteT ⟨_, rfl, _, rfl, a, _, rfl, by rw [← a2]; exact DGet.k (k := .inr n) ha, la, _, rfl, .inl (.inl (.inl a3)), fun p np => ?_⟩
        exact q p _ np (same_new np) upd_same
      · rw [c2]
        have el : leftF b d n = va.filter fun x => decide (x ∈ vc) := by
          unfold leftF
          rw [a1, c1]
        rw [el] at q
        refine iteF ⟨_, rfl, _, rfl, a, _, rfl, by rw [← a2]; exact DGet.k (k := .inr n) ha, la, rfl, ⟨_, .inl (.inl a3)⟩, fun D nD => ?_⟩
        have hva : va.length ≤ 20 := by
          obtain ⟨e', he', hl'⟩ := hEa.vals a4
          rw [a3] at hl'
          have := map_str_inj (HO.lst.inj (Option.some.inj hl'))
          rw [this]
          exact (hBa e' he').2.2.1
        refine lc_list (K := K) (a := la) (xs := va.map V.str) (fun i HX => Same H HX ∧ HX D = some (.lst (((va.take i).filter fun x => decide (x ∈ vc)).map V.str))) ⟨same_new nD, upd_same⟩ (fun i HX _ h => .inl (.inl (h.1 _ _ a3))) (fun i x HX hx hP => ?_) (fun HX hP => ?_)
        · obtain ⟨sL, hD⟩ := hP
          rw [List.getElem?_map] at hx
          obtain ⟨y, ey, ex⟩ := Option.map_eq_some_iff.mp hx
          subst ex
          refine ⟨rfl, _, rfl, _, rfl, _, rfl, c, _, rfl, by rw [← c2]; exact DGet.k (k := .inr n) (sL _ _ hc), lc, _, rfl, .inl (.inl (.inl (sL _ _ c3))), rfl, flat_strs vc, _, rfl, ?_⟩
          show if inV (V.str y) (vc.map V.str) = true then _ else _
          rw [inV_str]
          by_cases e : y ∈ vc
          · rw [decide_eq_true e]
            refine iteT ⟨_, rfl, _, hD, ?_, Same.own sL nD, ?_⟩
            · rw [List.length_map]
              refine small1000 (Nat.le_trans (List.length_filter_le _ _) ?_)
              rw [List.length_take]
              omega
            · rw [upd_same, filter_snoc ey, if_pos (decide_eq_true e), List.map_append]
              rfl
          · rw [decide_eq_false e]
            refine iteF ⟨sL, ?_⟩
            rw [filter_snoc ey, if_neg (by rw [decide_eq_false e]; decide), List.append_nil]
            exact hD
        · obtain ⟨sL, hD⟩ := hP
          rw [List.length_map, List.take_length] at hD
          exact q D HX nD sL hD
end
end Bn

namespace Bn
open PySem PySem.Spec PyProof.Rows L2 BR
/-! ### facts of what is joined -/
theorem at?_mem {b : BD} {n : Str} {v : List Str} (h : at? b n = some v) : (n, v) ∈ b := by
  induction b with
  | nil => cases h
  | cons e b ih =>
    rw [at?_cons] at h
    by_cases c : e.1 = n
    · rw [if_pos c] at h
      have h2 := Option.some.inj h
      rw [← c, ← h2]
      exact List.mem_cons_self ..
    · rw [if_neg c] at h
      exact List.mem_cons_of_mem _ (ih h)
theorem at?_of_name {b : BD} {n : Str} (h : n ∈ b.map (·.1)) : at? b n ≠ none := fun e => (at?_none_iff b n).mp e h
theorem namesF_some {b c : BD} {n : Str} (h : n ∈ namesF b c) : at? b n ≠ none ∨ at? c n ≠ none := by
  rcases List.mem_append.mp h with q | q
  · exact .inl (at?_of_name q)
  · exact .inr (at?_of_name (List.mem_filter.mp q).1)
theorem namesF_nodup {b c : BD} (hb : (b.map (·.1)).Nodup) (hc : (c.map (·.1)).Nodup) : (namesF b c).Nodup := by
  refine List.pairwise_append.mpr ⟨hb, List.Pairwise.filter _ hc, fun x hx y hy e => ?_⟩
  subst e
  have h1 := (List.mem_filter.mp hy).2
  exact at?_of_name hx (Option.isNone_iff_eq_none.mp h1)
theorem namesF_len (b c : BD) : (namesF b c).length ≤ b.length + c.length := by
  unfold namesF
  rw [List.length_append, List.length_map]
  have h := List.length_filter_le (fun n => (at? b n).isNone) (c.map (·.1))
  rw [List.length_map] at h
  omega
theorem entsF_names (b c : BD) : (entsF b c).map (·.1) = namesF b c := by
  unfold entsF
  rw [List.map_map]
  exact List.map_id' _
def valOk (e : Str × List Str) : Prop := okS e.1 ∧ 1 ≤ e.2.length ∧ e.2.length ≤ 20 ∧ ∀ x ∈ e.2, okS x
theorem leftF_ok {b c : BD} (hb : ∀ e ∈ b, valOk e) (hc : ∀ e ∈ c, valOk e) (n : Str) : (leftF b c n).length ≤ 20 ∧ ∀ x ∈ leftF b c n, okS x := by
  unfold leftF
  cases e1 : at? b n with
  | none =>
    cases e2 : at? c n with
    | none => exact ⟨Nat.zero_le _, fun x hx => by cases hx⟩
    | some w => exact ⟨(hc _ (at?_mem e2)).2.2.1, (hc _ (at?_mem e2)).2.2.2⟩
  | some v =>
    cases e2 : at? c n with
    | none => exact ⟨(hb _ (at?_mem e1)).2.2.1, (hb _ (at?_mem e1)).2.2.2⟩
    | some w => exact ⟨Nat.le_trans (List.length_filter_le _ _) (hb _ (at?_mem e1)).2.2.1, fun x hx => (hb _ (at?_mem e1)).2.2.2 x (List.mem_filter.mp hx).1⟩
theorem namesF_ok {b c : BD} (hb : ∀ e ∈ b, valOk e) (hc : ∀ e ∈ c, valOk e) {n : Str} (h : n ∈ namesF b c) : okS n := by
  rcases List.mem_append.mp h with q | q
  · obtain ⟨e, he, rfl⟩ := List.mem_map.mp q
    exact (hb e he).1
  · obtain ⟨e, he, rfl⟩ := List.mem_map.mp (List.mem_filter.mp q).1
    exact (hc e he).1
theorem entsF_bdb {b c : BD} (hb : BdB b) (hc : BdB c) (hl : b.length + c.length ≤ 200) (hne : ∀ e ∈ entsF b c, e.2.isEmpty = false) : BdB (entsF b c) := by
  refine ⟨by rw [entsF_names]; exact namesF_nodup hb.1 hc.1, ?_, fun e he => ?_⟩
  · have := namesF_len b c
    have e : (entsF b c).length = (namesF b c).length := List.length_map _
    omega
  · have h1 := hne e he
    obtain ⟨n, hn, rfl⟩ := List.mem_map.mp he
    obtain ⟨h2, h3⟩ := leftF_ok hb.2.2 hc.2.2 n
    refine ⟨namesF_ok hb.2.2 hc.2.2 hn, ?_, h2, h3⟩
    cases e : leftF b c n with
    | nil => rw [show (n, leftF b c n).2 = leftF b c n from rfl, e] at h1; cases h1
    | cons x r => exact Nat.succ_le_succ (Nat.zero_le _)
theorem joinedF_none {b c : BD} {n : Str} (hn : n ∈ namesF b c) (h : leftF b c n = []) : joinedF b c = none := by
  unfold joinedF
  rw [if_pos]
  exact List.any_eq_true.mpr ⟨(n, leftF b c n), List.mem_map.mpr ⟨n, hn, rfl⟩, by show (leftF b c n).isEmpty = true; rw [h]; rfl⟩
theorem joinedF_some {b c : BD} (h : ∀ e ∈ entsF b c, e.2.isEmpty = false) : joinedF b c = some (entsF b c) := by
  unfold joinedF
  rw [if_neg]
  intro z
  obtain ⟨e, he, e2⟩ := List.any_eq_true.mp z
  rw [h e he] at e2
  cases e2
theorem entsF_get {b c : BD} {i : Nat} {n : Str} (h : (namesF b c)[i]? = some n) : (entsF b c)[i]? = some (n, leftF b c n) := by
  unfold entsF
  rw [List.getElem?_map, h]
  rfl
theorem nodup_get {l : List Str} {i : Nat} {n : Str} (hn : l.Nodup) (h : l[i]? = some n) : n ∉ l.take i := fun hm => by
  obtain ⟨j, hj⟩ := List.getElem?_of_mem hm
  obtain ⟨hlt, _⟩ := List.getElem?_eq_some_iff.mp hj
  rw [List.length_take] at hlt
  have hj2 : l[j]? = some n := by
    rw [List.getElem?_take_of_lt (by omega)] at hj
    exact hj
  have := nd_ix hn hj2 h
  omega
theorem Ents.nokey {H : Hp} {kvs : List (Key × V)} {b : BD} (h : Ents H kvs b) {n : Str} (hn : n ∉ b.map (·.1)) : valV kvs (.inr n) = none := by
  rcases h.val n with ⟨_, h2⟩ | ⟨l, vs, h1, _⟩
  · exact h2
  · rw [(at?_none_iff b n).mpr hn] at h1
    cases h1
section
variable {P : Program} {w : World} {K : PySem.W.Frag} {mg : Str → Option Value} {base : Heap}
def spJoined : Sp := fun vs H Q _ => ∃ (a c : Addr) (b d : BD), vs = [.ref a, .ref c] ∧ Bd H a b ∧ Bd H c d ∧ b.length + d.length ≤ 200 ∧ (joinedF b d = none → ∀ H', Same H H' → Q .non H') ∧
  ∀ es, joinedF b d = some es → ∀ (p : Addr) (kvs : List (Key × V)) H', H p = none → Same H H' → H' p = some (.dK kvs) → Ents H' kvs es → BdB es → (∀ n l, (n, V.ref l) ∈ kvs → H l = none) → Q (.ref p) H'
theorem ok_joined {f fN fL : Addr} {fd fdN fdL : FuncData} {k : Nat} (F : Fun K "joined" "joined" s_joined f fd)
    (kN : PySem.W.keepIn K (.ref fN) = true) (bN : Binds K fdN ["one", "other"] []) (gN : mg "names_in_either" = some (.ref fN)) (GN : FnOk P w K mg base CX0 (k + 1) fN fdN ["one", "other"] spNamesE)
    (kL : PySem.W.keepIn K (.ref fL) = true) (bL : Binds K fdL ["one", "other", "name"] []) (gL : mg "values_left" = some (.ref fL)) (GL : FnOk P w K mg base CX0 (k + 1) fL fdL ["one", "other", "name"] spLeft) :
    FnOk P w K mg base CX0 (k + 2) f fd ["one", "other"] spJoined := by
  refine F.ok sc_joined (fun vs H Q E h => ?_) (fun cdv A outer s H vs Q E hr h => ?_)
  · obtain ⟨a, c, b, d, rfl, _⟩ := h
    rfl
  · obtain ⟨a, c, b, d, rfl, hA, hC, hbd, qN, qS⟩ := h
    refine ⟨_, pss_cons (ps_set (i := 2) sc_joined.nd rfl (.inl rfl) pe_dnewK)
      (pss_cons (ps_for PassesOwn.never rfl (pi_list (pe_call GN hr (by rfl) gN kN bN .nil pass0 (pa_cons (pv 0) (pa_cons (pv 1) pa_nil)))) (pg_name (i := 3) sc_joined.nd rfl (.inl rfl))
        (pss_cons (ps_set (i := 4) sc_joined.nd rfl (.inl rfl) (pe_call GL hr (by rfl) gL kL bL .nil pass0 (pa_cons (pv 0) (pa_cons (pv 1) (pa_cons (pv 3) pa_nil)))))
        (pss_cons (ps_if (pt_not (pt_truth (pv 4) (by intro _; rfl))) (pss_one (ps_ret pe_non)) pss_nil)
        (pss_one (ps_dput (hu_of hr) (pv 2) (pv 3) (pv 4) rfl)))))
      (pss_one (ps_ret (pv 2)))), ?_⟩
    intro d0 nd0
    have s1 : Same H (upd H d0 (.dK [])) := same_new nd0
    refine ⟨_, rfl, _, rfl, a, c, b, d, rfl, hA.same s1, hC.same s1, fun ln H2 nln s2 hln => ?_⟩
    have s02 := s1.trans s2
    have hd2 : H2 d0 = some (.dK []) := s2 _ _ upd_same
    have bb : BdB b := by obtain ⟨_, _, _, z⟩ := hA; exact z
    have bc : BdB d := by obtain ⟨_, _, _, z⟩ := hC; exact z
    have nn := namesF_nodup bb.1 bc.1
    have nlen := namesF_len b d
    have nlnH : H ln = none := s1.free nln
    have nld : ln ≠ d0 := (ne_of_none (upd_same (H := H) (a := d0) (o := .dK [])) nln).symm
    refine ⟨ln, rfl, ⟨_, .inl (.inl hln)⟩, for_list (K := K) (a := ln) (xs := (namesF b d).map V.str) (fun i σ H' => ∃ y3 y4, σ = [some (.ref a), some (.ref c), some (.ref d0), y3, y4] ∧ Same H H' ∧ H' ln = some (.lst ((namesF b d).map V.str)) ∧ ∃ kvs, H' d0 = some (.dK kvs) ∧ Ents H' kvs ((entsF b d).take i) ∧ (∀ n l, (n, V.ref l) ∈ kvs → H l = none) ∧ ∀ e ∈ (entsF b d).take i, e.2.isEmpty = false)
      ⟨none, none, rfl, s02, hln, [], hd2, .nil, (fun n l hm => nomatch hm), (fun e he => nomatch he)⟩ (fun i σ H' _ h => ?_) (fun i x σ H' hx hP => ?_) (fun σ H' hP => ?_)⟩
    · obtain ⟨_, _, _, _, h, _⟩ := h
      exact .inl (.inl h)
    · obtain ⟨y3, y4, rfl, sH, hl', kvs, hd', hE, hfr, hne⟩ := hP
      rw [List.getElem?_map] at hx
      obtain ⟨n, en, ex⟩ := Option.map_eq_some_iff.mp hx
      subst ex
      have hmem : n ∈ namesF b d := List.mem_of_getElem? en
      have hil : i < (namesF b d).length := (List.getElem?_eq_some_iff.mp en).1
      refine ⟨_, rfl, _, rfl, _, rfl, a, c, b, d, n, rfl, hA.same sH, hC.same sH, namesF_some hmem, fun p HA np sA hp => ?_⟩
      refine ⟨_, rfl, _, .inl ⟨_, .inl (.inl hp), rfl⟩, ?_⟩
      rw [show ((leftF b d n).map V.str).isEmpty = (leftF b d n).isEmpty from List.isEmpty_map]
      cases he : (leftF b d n).isEmpty with
      | true =>
        refine iteT ?_
        exact qN (joinedF_none hmem (List.isEmpty_iff.mp he)) _ (sH.trans sA)
      | false =>
        have hnew : n ∉ ((entsF b d).take i).map (·.1) := by
          rw [List.map_take, entsF_names]
          exact nodup_get nn en
        have hdA := sA _ _ hd'
        have hEA := hE.same sA
        have hk := hEA.nokey hnew
        refine iteF ⟨_, rfl, _, rfl, _, rfl, d0, _, rfl, DPut.k (k := .inr n) hdA ?_, ?_⟩
        · rw [hEA.length, List.length_take]
          exact small1000 (by omega)
        · rw [putK_new _ hk]
          refine ⟨_, _, rfl, Same.own (sH.trans sA) nd0, ?_, _, upd_same, ?_, fun m l hm => ?_, fun e hm => ?_⟩
          · rw [upd_ne nld]
            exact sA _ _ hl'
          · rw [take_get (entsF_get en)]
            exact (hEA.app (.cons hp .nil)).upd_dict hdA
          · rcases List.mem_append.mp hm with z | z
            · exact hfr m l z
            · have z2 := List.mem_singleton.mp z
              injection z2 with _ z3
              rw [V.ref.inj z3]
              exact sH.free np
          · rw [take_get (entsF_get en)] at hm
            rcases List.mem_append.mp hm with z | z
            · exact hne e z
            · rw [List.mem_singleton.mp z]
              exact he
    · obtain ⟨y3, y4, rfl, sH, hl', kvs, hd', hE, hfr, hne⟩ := hP
      have el : ((namesF b d).map V.str).length = (entsF b d).length := by
        unfold entsF
        rw [List.length_map, List.length_map]
      rw [el, List.take_length] at hE hne
      exact ⟨_, rfl, qS _ (joinedF_some hne) d0 kvs _ nd0 sH hd' hE (entsF_bdb bb bc hbd hne) hfr⟩
end
end Bn

namespace Bn
open PySem PySem.Spec PyProof.Rows L2 BR
/-! ### the least of texts -/
def ltS (a b : Str) : Bool := decide (a.cps.toList < b.cps.toList)
def minS (x : Str) (xs : List Str) : Str := xs.foldl (fun a y => if ltS y a = true then y else a) x
def minV : List Str → V
  | [] => .non
  | y :: ys => .str (minS y ys)
theorem holds_all {h : Heap} : ∀ {ss : List Str} {us : List Value}, Vals (ss.map V.str) us → PySem.W.HoldAll h us ss
  | [], _, r => by
    cases r
    exact PySem.W.HoldAll.nil
  | y :: ss, _, r => by
    cases r with
    | cons a b =>
      obtain ⟨t, rfl⟩ := a
      exact PySem.W.HoldAll.cons (PySem.W.holds_str y t) (holds_all b)
theorem cr_minD {X : Cx} (hc : X.calm = true) (hu : X.A.units + 64 < cLine) : CallRK X (.builtin "min") [Str.ofString "default"] (fun vs zs H Q => ∃ (a : Addr) (ss : List Str), vs = [V.ref a] ∧ zs = [V.non] ∧ SqL X.K H a (ss.map V.str) ∧ Q (minV ss) H) := by
  intro pins s σ H vs zs us ws Q I r rz h
  obtain ⟨a, ss, rfl, rfl, hs, q⟩ := h
  obtain rfl := Vals.ref1 r
  obtain ⟨w1, rfl, e1⟩ := vals1 rz
  obtain rfl : w1 = Value.none := e1
  obtain ⟨its, rv, pl, hz⟩ := I.list hs
  refine PySem.W.min_list_datum_default (α := Str) (xs := ss) (I.ok.hd hc) pl.isList (by simpa using holds_all rv) (by show X.A.units + 1 + 0 < cLine; omega) (fun e h' tk hk => ?_) fun y ys i v h' tk e hi hv hk => ?_
  · subst e
    exact ⟨.non, H, I.kept (t' := tk) hk, rfl, q⟩
  · subst e
    obtain ⟨bs, hr⟩ := hv
    have hv2 : ∃ t, v = Value.str (minS y ys) t := by
      cases hr with
      | str _ t => exact ⟨t, rfl⟩
    exact ⟨.str (minS y ys), H, I.kept (t' := tk) hk, hv2, q⟩
end Bn

namespace Bn
open PySem PySem.Spec PyProof.Rows L2 BR
theorem ltS_irrefl (a : Str) : ltS a a = false := decide_eq_false (List.lt_irrefl _)
theorem ltS_trans {a b c : Str} (h : ltS a b = true) (k : ltS b c = true) : ltS a c = true := decide_eq_true (List.lt_trans (of_decide_eq_true h) (of_decide_eq_true k))
theorem ltS_antisymm {a b : Str} (h : ltS a b = false) (k : ltS b a = false) : a = b := by
  refine TL.ext_tl (List.le_antisymm ?_ ?_)
  · exact List.not_lt.mp (of_decide_eq_false k)
  · exact List.not_lt.mp (of_decide_eq_false h)
theorem minS_spec : ∀ (xs : List Str) (x : Str), minS x xs ∈ x :: xs ∧ ∀ z ∈ x :: xs, ltS z (minS x xs) = false
  | [], x => ⟨List.mem_cons_self .., fun z hz => by
    rw [List.mem_singleton.mp hz]
    exact ltS_irrefl x⟩
  | y :: ys, x => by
    show minS (if ltS y x = true then y else x) ys ∈ x :: y :: ys ∧ ∀ z ∈ x :: y :: ys, ltS z (minS (if ltS y x = true then y else x) ys) = false
    obtain ⟨h1, h2⟩ := minS_spec ys (if ltS y x = true then y else x)
    have hh := h2 _ (List.mem_cons_self ..)
    refine ⟨?_, fun z hz => ?_⟩
    · rcases List.mem_cons.mp h1 with e | e
      · rw [e]
        split
        · exact List.mem_cons_of_mem _ (List.mem_cons_self ..)
        · exact List.mem_cons_self ..
      · exact List.mem_cons_of_mem _ (List.mem_cons_of_mem _ e)
    · generalize minS (if ltS y x = true then y else x) ys = m at h1 h2 hh ⊢
      have key : ∀ {u v : Str}, ltS v u = false → ltS v m = false → ltS u v = true → ltS u m = false → True := fun _ _ _ _ => trivial
      by_cases c : ltS y x = true
      · rw [if_pos c] at hh h2
        rcases List.mem_cons.mp hz with rfl | hz'
        · cases q : ltS z m with
          | false => rfl
          | true =>
            rw [ltS_trans c q] at hh
            cases hh
        · exact h2 z hz'
      · rw [if_neg c] at hh h2
        have c' : ltS y x = false := Bool.eq_false_iff.mpr c
        rcases List.mem_cons.mp hz with rfl | hz'
        · exact hh
        · rcases List.mem_cons.mp hz' with rfl | hz''
          · cases q : ltS z m with
            | false => rfl
            | true =>
              cases q2 : ltS m x with
              | true =>
                rw [ltS_trans q q2] at c'
                cases c'
              | false =>
                rw [ltS_antisymm q2 hh] at q
                rw [q] at c'
                cases c'
          · exact h2 z (List.mem_cons_of_mem _ hz'')
theorem minV_congr {l m : List Str} (h : ∀ x, x ∈ l ↔ x ∈ m) : minV l = minV m := by
  cases l with
  | nil =>
    cases m with
    | nil => rfl
    | cons y ys => exact absurd ((h y).mpr (List.mem_cons_self ..)) (fun z => nomatch z)
  | cons x xs =>
    cases m with
    | nil => exact absurd ((h x).mp (List.mem_cons_self ..)) (fun z => nomatch z)
    | cons y ys =>
      obtain ⟨a1, a2⟩ := minS_spec xs x
      obtain ⟨b1, b2⟩ := minS_spec ys y
      show V.str (minS x xs) = V.str (minS y ys)
      rw [ltS_antisymm (b2 _ ((h _).mp a1)) (a2 _ ((h _).mpr b1))]
/-! ### where two bundles clash -/
def clashL (b c : BD) : List Str := (namesF b c).filter fun n => (leftF b c n).isEmpty
def clashV (b c : BD) : V := minV (clashL b c)
theorem clash_mem {b c : BD} (hb : ∀ e ∈ b, valOk e) (hc : ∀ e ∈ c, valOk e) (n : Str) : n ∈ clashL b c ↔ ∃ v w, at? b n = some v ∧ at? c n = some w ∧ ∀ x ∈ v, x ∉ w := by
  unfold clashL
  rw [List.mem_filter]
  constructor
  · rintro ⟨h1, h2⟩
    unfold leftF at h2
    cases e1 : at? b n with
    | none =>
      cases e2 : at? c n with
      | none =>
        rcases namesF_some h1 with z | z
        · exact absurd e1 z
        · exact absurd e2 z
      | some w =>
        rw [e1, e2] at h2
        have := (hc _ (at?_mem e2)).2.1
        have h3 : w.isEmpty = true := h2
        rw [List.isEmpty_iff.mp h3] at this
        exact absurd this (by show ¬ 1 ≤ 0; decide)
    | some v =>
      cases e2 : at? c n with
      | none =>
        rw [e1, e2] at h2
        have := (hb _ (at?_mem e1)).2.1
        have h3 : v.isEmpty = true := h2
        rw [List.isEmpty_iff.mp h3] at this
        exact absurd this (by show ¬ 1 ≤ 0; decide)
      | some w =>
        rw [e1, e2] at h2
        have h3 : (v.filter fun x => decide (x ∈ w)).isEmpty = true := h2
        refine ⟨v, w, rfl, rfl, fun x hx hw => ?_⟩
        have hm : x ∈ v.filter fun x => decide (x ∈ w) := List.mem_filter.mpr ⟨hx, decide_eq_true hw⟩
        rw [List.isEmpty_iff.mp h3] at hm
        cases hm
  · rintro ⟨v, w, e1, e2, h⟩
    refine ⟨List.mem_append_left _ (List.mem_map.mpr ⟨_, at?_mem e1, rfl⟩), ?_⟩
    unfold leftF
    rw [e1, e2]
    show (v.filter fun x => decide (x ∈ w)).isEmpty = true
    rw [List.isEmpty_iff, List.filter_eq_nil_iff]
    exact fun x hx hd => h x hx (of_decide_eq_true hd)
theorem clash_comm {b c : BD} (hb : ∀ e ∈ b, valOk e) (hc : ∀ e ∈ c, valOk e) : clashV b c = clashV c b := minV_congr fun n => by
  rw [clash_mem hb hc, clash_mem hc hb]
  constructor
  · rintro ⟨v, w, h1, h2, h3⟩
    exact ⟨w, v, h2, h1, fun x hw hv => h3 x hv hw⟩
  · rintro ⟨v, w, h1, h2, h3⟩
    exact ⟨w, v, h2, h1, fun x hw hv => h3 x hv hw⟩
theorem clash_none {l : List Str} (h : l = []) : minV l = .non := by rw [h]; rfl
theorem clash_self {b : BD} (hb : ∀ e ∈ b, valOk e) : clashV b b = .non := by
  refine clash_none (List.eq_nil_iff_forall_not_mem.mpr fun n hn => ?_)
  obtain ⟨v, w, h1, h2, h3⟩ := (clash_mem hb hb n).mp hn
  rw [h1] at h2
  have e := Option.some.inj h2
  subst e
  have hl := (hb _ (at?_mem h1)).2.1
  cases v with
  | nil => exact absurd hl (by show ¬ 1 ≤ 0; decide)
  | cons x r => exact h3 x (List.mem_cons_self ..) (List.mem_cons_self ..)
theorem clash_empty {b : BD} (hb : ∀ e ∈ b, valOk e) : clashV b [] = .non := by
  refine clash_none (List.eq_nil_iff_forall_not_mem.mpr fun n hn => ?_)
  obtain ⟨v, w, h1, h2, h3⟩ := (clash_mem (c := []) hb (fun e he => absurd he List.not_mem_nil) n).mp hn
  cases h2
theorem clash_iff (b c : BD) : (clashV b c = .non) ↔ (joinedF b c ≠ none) := by
  unfold clashV joinedF
  cases e : clashL b c with
  | nil =>
    refine ⟨fun _ => ?_, fun _ => rfl⟩
    rw [if_neg]
    · exact fun z => by cases z
    · intro z
      obtain ⟨x, hx, hx2⟩ := List.any_eq_true.mp z
      obtain ⟨n, hn, rfl⟩ := List.mem_map.mp hx
      have : n ∈ clashL b c := List.mem_filter.mpr ⟨hn, hx2⟩
      rw [e] at this
      cases this
  | cons y ys =>
    refine ⟨fun z => (by cases z), fun z => absurd ?_ z⟩
    rw [if_pos]
    have hy : y ∈ clashL b c := by rw [e]; exact List.mem_cons_self ..
    obtain ⟨h1, h2⟩ := List.mem_filter.mp hy
    exact List.any_eq_true.mpr ⟨_, List.mem_map.mpr ⟨y, h1, rfl⟩, h2⟩
theorem minV_kind (l : List Str) : minV l = .non ∨ ∃ s, minV l = .str s := by
  cases l with
  | nil => exact .inl rfl
  | cons y ys => exact .inr ⟨_, rfl⟩
section
variable {P : Program} {w : World} {K : PySem.W.Frag} {mg : Str → Option Value} {base : Heap}
/-! ### clash -/
def spClash : Sp := fun vs H Q _ => ∃ (a c : Addr) (b d : BD), vs = [.ref a, .ref c] ∧ Bd H a b ∧ Bd H c d ∧ ∀ H', Same H H' → Q (clashV b d) H'
theorem ok_clash {f fN fL : Addr} {fd fdN fdL : FuncData} {k : Nat} (F : Fun K "clash" "clash" s_clash f fd)
    (kN : PySem.W.keepIn K (.ref fN) = true) (bN : Binds K fdN ["one", "other"] []) (gN : mg "names_in_either" = some (.ref fN)) (GN : FnOk P w K mg base CX0 (k + 1) fN fdN ["one", "other"] spNamesE)
    (kL : PySem.W.keepIn K (.ref fL) = true) (bL : Binds K fdL ["one", "other", "name"] []) (gL : mg "values_left" = some (.ref fL)) (GL : FnOk P w K mg base CX0 (k + 1) fL fdL ["one", "other", "name"] spLeft) (mm : mg "min" = none) :
    FnOk P w K mg base CX0 (k + 2) f fd ["one", "other"] spClash := by
  refine F.ok sc_clash (fun vs H Q E h => ?_) (fun cdv A outer s H vs Q E hr h => ?_)
  · obtain ⟨a, c, b, d, rfl, _⟩ := h
    rfl
  · obtain ⟨a, c, b, d, rfl, hA, hC, q⟩ := h
    refine ⟨_, pss_cons (ps_set (i := 2) sc_clash.nd rfl (.inl rfl) (pe_call GN hr (by rfl) gN kN bN .nil pass0 (pa_cons (pv 0) (pa_cons (pv 1) pa_nil))))
      (pss_one (ps_ret (pe_callBK (cr_minD rfl hr.units) (by rfl) mm (by decide +kernel) (pa_cons (pe_lc (own := [("name", 3)]) (g := gName 3) rfl sc_clash.nd (pi_list (pv 2))
        (blkOk_by (own := [("name", 3)]) (N := ["one", "other", "names", "name"]) (sc := defScope s_clash) (by decide +kernel))
        (fun _ _ _ _ _ => pg_name (i := 3) sc_clash.nd rfl (Or.inl rfl)) (fun _ _ _ _ _ => pts_one (pt_not (pt_truthK (K := K) rfl (pe_call GL hr (by rfl) gL kL bL .nil pass0 (pa_cons (pv 0) (pa_cons (pv 1) (pa_cons (pv 3) pa_nil)))) (by intro _; rfl))))
        (fun _ _ _ _ _ => pv 3)) pa_nil) (pk_cons pe_non pk_nil)))), ?_⟩
    have la := hA.len
    have lc := hC.len
    have nl := namesF_len b d
    refine ⟨_, rfl, _, rfl, a, c, b, d, rfl, hA, hC, fun ln H2 nln s2 hln => ?_⟩
    refine ⟨_, rfl, ln, rfl, ⟨_, .inl (.inl hln)⟩, fun D nD => ?_⟩
    refine lc_list (K := K) (a := ln) (xs := (namesF b d).map V.str) (fun i HX => Same H2 HX ∧ HX D = some (.lst ((((namesF b d).take i).filter fun n => (leftF b d n).isEmpty).map V.str))) ⟨same_new nD, upd_same⟩ (fun i HX _ h => .inl (.inl (h.1 _ _ hln))) (fun i x HX hx hP => ?_) (fun HX hP => ?_)
    · obtain ⟨sL, hD⟩ := hP
      rw [List.getElem?_map] at hx
      obtain ⟨n, en, ex⟩ := Option.map_eq_some_iff.mp hx
      subst ex
      have s2X := s2.trans sL
      refine ⟨rfl, _, rfl, _, rfl, _, rfl, a, c, b, d, n, rfl, hA.same s2X, hC.same s2X, namesF_some (List.mem_of_getElem? en), fun p HA np sA hp => ⟨_, .inl ⟨_, .inl (.inl hp), rfl⟩, ?_⟩⟩
      rw [show ((leftF b d n).map V.str).isEmpty = (leftF b d n).isEmpty from List.isEmpty_map]
      have nDA : H2 D = none := nD
      cases he : (leftF b d n).isEmpty with
      | true =>
        refine iteT ⟨_, rfl, _, sA _ _ hD, ?_, Same.own (sL.trans sA) nD, ?_⟩
        · rw [List.length_map]
          refine small1000 (Nat.le_trans (List.length_filter_le _ _) ?_)
          rw [List.length_take]
          omega
        · rw [upd_same, filter_snoc en, if_pos he, List.map_append]
          rfl
      | false =>
        refine iteF ⟨sL.trans sA, ?_⟩
        rw [filter_snoc en, if_neg (by rw [he]; decide), List.append_nil]
        exact sA _ _ hD
    · obtain ⟨sL, hD⟩ := hP
      rw [List.length_map, List.take_length] at hD
      exact ⟨D, _, rfl, rfl, .inl (.inl hD), q _ (s2.trans sL)⟩
end
end Bn

namespace Bn
open PySem PySem.Spec PyProof.Rows L2 BR
theorem Bd.empty {H : Hp} {p : Addr} (h : H p = some (.dK [])) : Bd H p [] := ⟨[], h, .nil, List.nodup_nil, Nat.zero_le _, fun e he => absurd he List.not_mem_nil⟩
theorem Bd.bdb {H : Hp} {a : Addr} {d : BD} (h : Bd H a d) : BdB d := by
  obtain ⟨_, _, _, z⟩ := h
  exact z
/-! ### all joined -/
def stepF (o : Option BD) (b : BD) : Option BD := o.bind fun a => joinedF a b
def allF (ds : List BD) : Option BD := ds.foldl stepF (some [])
theorem allF_snoc (l : List BD) (d : BD) : allF (l ++ [d]) = stepF (allF l) d := by
  unfold allF
  rw [List.foldl_append]
  rfl
theorem stepF_none : ∀ l : List BD, l.foldl stepF none = none
  | [] => rfl
  | d :: l => by
    show l.foldl stepF (stepF none d) = none
    exact stepF_none l
theorem allF_none {ds : List BD} {i : Nat} (h : allF (ds.take i) = none) : allF ds = none := by
  have e : allF ds = (ds.drop i).foldl stepF (allF (ds.take i)) := by
    unfold allF
    rw [← List.foldl_append, List.take_append_drop]
  rw [e, h, stepF_none]
theorem joinedF_eq {b c : BD} {es : BD} (h : joinedF b c = some es) : es = entsF b c := by
  unfold joinedF at h
  split at h
  · cases h
  · exact (Option.some.inj h).symm
theorem joinedF_len {b c es : BD} (h : joinedF b c = some es) : es.length ≤ b.length + c.length := by
  rw [joinedF_eq h]
  unfold entsF
  rw [List.length_map]
  exact namesF_len b c
def Bs (H : Hp) (ps : List Addr) (ds : List BD) : Prop := Paired (fun p d => Bd H p d ∧ d.length ≤ 18) ps ds
theorem Bs.same {H H' : Hp} {ps : List Addr} {ds : List BD} (h : Bs H ps ds) (s : Same H H') : Bs H' ps ds := paired_mono h fun p d x => ⟨x.1.same s, x.2⟩
theorem Bs.kp {b : Addr} {H H' : Hp} {ps : List Addr} {ds : List BD} (h : Bs H ps ds) (hb : Bx H b) (k : Kp b H H') : Bs H' ps ds := paired_mono h fun p d x => ⟨x.1.kp hb k, x.2⟩
section
variable {P : Program} {w : World} {K : PySem.W.Frag} {mg : Str → Option Value} {base : Heap}
def spAll (K : PySem.W.Frag) : Sp := fun vs H Q _ => ∃ (l : Addr) (ps : List Addr) (ds : List BD), vs = [.ref l] ∧ SqL K H l (ps.map V.ref) ∧ Bs H ps ds ∧ ps.length ≤ 10 ∧ (allF ds = none → ∀ H', Same H H' → Q .non H') ∧
  ∀ es, allF ds = some es → ∀ (p : Addr) (kvs : List (Key × V)) H', H p = none → Same H H' → H' p = some (.dK kvs) → Ents H' kvs es → BdB es → (∀ n l, (n, V.ref l) ∈ kvs → H l = none) → Q (.ref p) H'
theorem ok_joinedAll {f fJ : Addr} {fd dJ : FuncData} (F : Fun K "joined_all" "joined_all" s_joined_all f fd)
    (kJ : PySem.W.keepIn K (.ref fJ) = true) (bJ : Binds K dJ ["one", "other"] []) (gJ : mg "joined" = some (.ref fJ)) (GJ : FnOk P w K mg base CX0 2 fJ dJ ["one", "other"] spJoined) : FnOk P w K mg base CX0 3 f fd ["bundles"] (spAll K) := by
  refine F.ok sc_joined_all (fun vs H Q E h => ?_) (fun cdv A outer s H vs Q E hr h => ?_)
  · obtain ⟨l, ps, ds, rfl, _⟩ := h
    rfl
  · obtain ⟨l, ps, ds, rfl, hS, hB, hlen, qN, qS⟩ := h
    refine ⟨_, pss_cons (ps_set (i := 1) sc_joined_all.nd rfl (.inl rfl) pe_dnewK)
      (pss_cons (ps_for PassesOwn.never rfl (pi_list (pv 0)) (pg_name (i := 2) sc_joined_all.nd rfl (.inl rfl))
        (pss_cons (ps_set (i := 1) sc_joined_all.nd rfl (.inl rfl) (pe_call GJ hr (by rfl) gJ kJ bJ .nil pass0 (pa_cons (pv 1) (pa_cons (pv 2) pa_nil))))
        (pss_one (ps_if (pt_cmpR op_isN (pv 1) pe_non (nomark _)) (pss_one (ps_ret pe_non)) pss_nil))))
      (pss_one (ps_ret (pv 1)))), ?_⟩
    have hpl : ps.length = ds.length := Paired.length hB
    intro w0 nw0
    have s1 : Same H (upd H w0 (.dK [])) := same_new nw0
    refine ⟨_, rfl, l, rfl, ⟨_, s1.seq hS⟩, for_list (K := K) (a := l) (xs := ps.map V.ref) (fun i σ H' => ∃ w y2 kvs es, σ = [some (.ref l), some (.ref w), y2] ∧ Same H H' ∧ allF (ds.take i) = some es ∧ H w = none ∧ H' w = some (.dK kvs) ∧ Ents H' kvs es ∧ BdB es ∧ es.length ≤ 18 * i ∧ ∀ n l, (n, V.ref l) ∈ kvs → H l = none)
      ⟨w0, none, [], [], rfl, s1, rfl, nw0, upd_same, .nil, ⟨List.nodup_nil, Nat.zero_le _, fun e he => absurd he List.not_mem_nil⟩, Nat.zero_le _, fun n l hm => absurd hm List.not_mem_nil⟩ (fun i σ H' _ h => ?_) (fun i x σ H' hx hP => ?_) (fun σ H' hP => ?_)⟩
    · obtain ⟨_, _, _, _, _, h, _⟩ := h
      exact h.seq hS
    · obtain ⟨w1, y2, kvs, es, rfl, sH, hal, nw1, hw1, hE, hBe, hle, hfr⟩ := hP
      rw [List.getElem?_map] at hx
      obtain ⟨p, ep, ex⟩ := Option.map_eq_some_iff.mp hx
      subst ex
      have hil : i < ps.length := (List.getElem?_eq_some_iff.mp ep).1
      obtain ⟨d, ed, hd, hdl⟩ := paired_get hB ep
      have hst : allF (ds.take (i + 1)) = joinedF es d := by
        rw [take_get ed, allF_snoc, hal]
        rfl
      refine ⟨_, rfl, _, rfl, w1, p, es, d, rfl, ⟨kvs, hw1, hE, hBe⟩, hd.same sH, by omega, fun hn HA sA => ?_, fun es' hs p' kvs' HA np' sA hp' hE' hB' hf' => ?_⟩
      · exact ⟨_, rfl, rfl, true, rfl, iteT (qN (allF_none (hst.trans hn)) _ (sH.trans sA))⟩
      · refine ⟨_, rfl, rfl, false, rfl, iteF ⟨p', _, kvs', es', rfl, sH.trans sA, hst.trans hs, sH.free np', hp', hE', hB', ?_, fun n l hm => sH.free (hf' n l hm)⟩⟩
        have := joinedF_len hs
        omega
    · obtain ⟨w1, y2, kvs, es, rfl, sH, hal, nw1, hw1, hE, hBe, hle, hfr⟩ := hP
      rw [List.length_map, hpl, List.take_length] at hal
      exact ⟨_, rfl, qS es hal w1 kvs _ nw1 sH hw1 hE hBe hfr⟩
end
end Bn

namespace Bn
open PySem PySem.Spec PyProof.Rows L2 BR GX
section
variable {P : Program} {w : World} {K : PySem.W.Frag} {mg : Str → Option Value} {base : Heap}
/-! ### within -/
def inF (xs ys : List Str) : Bool := xs.all fun x => decide (x ∈ ys)
def spWithin (Ps : List Addr) : Sp := fun vs H Q _ => ∃ (a c : Addr) (xs ys : List Str), vs = [.ref a, .ref c] ∧ (H a = some (.lst (xs.map V.str)) ∨ ∃ b, Bd H a b ∧ xs = b.map (·.1)) ∧ H c = some (.lst (ys.map V.str)) ∧ Tabs Ps H ∧ ∀ H', SameN Ps H H' → Q (.bl (inF xs ys)) H'
theorem ok_within {f c0 pT : Addr} {fd : FuncData} {k : Nat} {Ps : List Addr} (F : FunC K "within" "within" s_within f fd c0) (TB : GxR.TabB base mg c0 pT) (hP : pT ∈ Ps) (ma : mg "all" = none) : FnOk P w K mg base CX0 (k + 4) f fd ["inner", "outer"] (spWithin Ps) := by
  refine F.ok sc_within (fun vs H Q E h => ?_) (fun A outer s H vs Q E hr h => ?_)
  · obtain ⟨a, c, xs, ys, rfl, _⟩ := h
    rfl
  · obtain ⟨a, c, xs, ys, rfl, ha | ⟨b, ⟨ka, ha, hEa, hNa, hLa, hBa⟩, rfl⟩, hc, hT, q⟩ := h
    · refine ⟨_, pss_one (ps_ret (pe_all (own := [("item", 2)]) (g := gName 2) hr (by rfl) ma (by decide +kernel) TB rfl rfl sc_within.nd (pi_list (pv 0))
        (blkOk_by (own := [("item", 2)]) (N := ["inner", "outer", "item"]) (sc := defScope s_within) (by decide +kernel)) rfl (by decide +kernel) rfl
        (fun _ _ _ _ _ _ => pg_name (i := 2) sc_within.nd rfl (Or.inl rfl)) (fun _ _ _ _ _ _ => pts_nil)
        (fun _ _ _ _ _ _ => pe_cmpR (op_inK (K := K) rfl) (pv 2) (pv 1) (by rfl)))), ?_⟩
      refine ⟨_, rfl, a, rfl, ⟨_, .inl (.inl ha)⟩, hT _ hP, fun H2 hTb => ?_⟩
      have s0 : SameN Ps H H2 := SameN.tab hT hP hTb
      refine all_it (walk_list (K := K) (a := a) (xs := xs.map V.str)) (fun i HX => SameN Ps H HX ∧ inF (xs.take i) ys = true) ⟨s0, rfl⟩ (fun i HX _ h => .inl (.inl (h.1.k _ _ nt_lst ha))) (fun i x HX HX' hi hP' hY => ?_) (fun HX hP' => ?_)
      · obtain ⟨rfl, hx⟩ := hY
        obtain ⟨sX, hin⟩ := hP'
        rw [List.getElem?_map] at hx
        obtain ⟨y, ey, ex⟩ := Option.map_eq_some_iff.mp hx
        subst ex
        refine ⟨rfl, tYes_in ?_⟩
        refine ⟨_, rfl, _, rfl, c, _, rfl, .inl (.inl (.inl (sX.k _ _ nt_lst hc))), rfl, flat_strs ys, _, rfl, fun e => ⟨sX, ?_⟩, fun e => ?_⟩
        · have e' : inV (V.str y) (ys.map V.str) = true := e
          rw [inV_str] at e'
          unfold inF at hin ⊢
          rw [take_get ey, List.all_append, hin, List.all_cons, e']
          rfl
        · have e' : inV (V.str y) (ys.map V.str) = false := e
          rw [inV_str] at e'
          have z : inF xs ys = false := by
            unfold inF
            rw [List.all_eq_false]
            exact ⟨y, List.mem_of_getElem? ey, by rw [e']; decide⟩
          have := q HX' sX
          rw [z] at this
          exact this
      · obtain ⟨sX, hin⟩ := hP'
        rw [List.length_map, List.take_length] at hin
        have := q HX sX
        rw [hin] at this
        exact this
    · refine ⟨_, pss_one (ps_ret (pe_lock (pe_all (own := [("item", 2)]) (g := gName 2) hr (by rfl) ma (by decide +kernel) TB rfl rfl sc_within.nd (pi_keys (pv 0))
        (blkOk_by (own := [("item", 2)]) (N := ["inner", "outer", "item"]) (sc := defScope s_within) (by decide +kernel)) rfl (by decide +kernel) rfl
        (fun _ _ _ _ _ _ => pg_name (i := 2) sc_within.nd rfl (Or.inl rfl)) (fun _ _ _ _ _ _ => pts_nil)
        (fun _ _ _ _ _ _ => pe_cmpR (op_inK (K := K) rfl) (pv 2) (pv 1) (by rfl))))), ?_⟩
      refine ⟨a, _, ha, trivial, fun od => ⟨_, rfl, a, od, rfl, .inl ⟨ka, upd_same, hT.lock ha nt_dK _ hP, fun H2 hTb => ?_⟩⟩⟩
      have haL : (upd H a (.frz od (.dK ka))) a = some (.frz od (.dK ka)) := upd_same
      have hcL : (upd H a (.frz od (.dK ka))) c = some (.lst (ys.map V.str)) := by
        rw [upd_ne (ne_of hc ha (by intro z; cases z))]
        exact hc
      have hEaL := hEa.frz (o := od) (u := .dK ka) ha
      have hTL : Tabs Ps (upd H a (.frz od (.dK ka))) := hT.lock ha nt_dK
      have fin : ∀ {HX : Hp} {r : Bool}, SameN Ps (upd H a (.frz od (.dK ka))) HX → inF (b.map (·.1)) ys = r → HX a = some (.frz od (.dK ka)) ∧ Q (.bl r) (upd HX a (.dK ka)) := fun {HX r} sX e => ⟨sX.k _ _ nt_frz haL, by
        have := q _ (SameN.unlock ha nt_dK hT sX)
        rw [e] at this
        exact this⟩
      refine all_it (walk_keys (d := a) (o := od) (kvs := ka)) (fun i HX => SameN Ps (upd H a (.frz od (.dK ka))) HX ∧ inF ((b.map (·.1)).take i) ys = true) ⟨SameN.tab hTL hP hTb, rfl⟩ (fun i HX _ h => h.1.k _ _ nt_frz haL) (fun i x HX HX' hi hP' hY => ?_) (fun HX hP' => ?_)
      · obtain ⟨rfl, kk, v0, hkv, rfl⟩ := hY
        obtain ⟨sX, hin⟩ := hP'
        obtain ⟨n, la, va, rfl, rfl, hla, hbi⟩ := hEaL.get hkv
        have hni : (b.map (·.1))[i]? = some n := by
          rw [List.getElem?_map, hbi]
          rfl
        refine ⟨rfl, tYes_in ?_⟩
        refine ⟨_, rfl, _, rfl, c, _, rfl, .inl (.inl (.inl (sX.k _ _ nt_lst hcL))), rfl, flat_strs ys, _, rfl, fun e => ⟨sX, ?_⟩, fun e => fin sX ?_⟩
        · have e' : inV (V.str n) (ys.map V.str) = true := e
          rw [inV_str] at e'
          unfold inF at hin ⊢
          rw [take_get hni, List.all_append, hin, List.all_cons, e']
          rfl
        · have e' : inV (V.str n) (ys.map V.str) = false := e
          rw [inV_str] at e'
          unfold inF
          rw [List.all_eq_false]
          exact ⟨n, List.mem_of_getElem? hni, by rw [e']; decide⟩
      · obtain ⟨sX, hin⟩ := hP'
        have hl : ka.length = (b.map (·.1)).length := by rw [List.length_map, hEa.length]
        rw [hl, List.take_length] at hin
        exact fin sX hin
end
end Bn

namespace Bn
open PySem PySem.Spec PyProof.Rows L2 BR GX
/-! ### marks -/
abbrev MD := List (Str × Str)
def mkv (ms : MD) : List (Key × V) := ms.map fun e => (.inr e.1, .str e.2)
def mAt (ms : MD) (n : Str) : Option Str := (ms.find? fun e => decide (e.1 = n)).map (·.2)
theorem mAt_cons (e : Str × Str) (b : MD) (n : Str) : mAt (e :: b) n = if e.1 = n then some e.2 else mAt b n := by
  unfold mAt
  rw [List.find?_cons]
  by_cases h : e.1 = n
  · rw [if_pos h, decide_eq_true h]
    rfl
  · rw [if_neg h, decide_eq_false h]
theorem mkv_val (n : Str) : ∀ ms : MD, valV (mkv ms) (.inr n) = (mAt ms n).map V.str
  | [] => rfl
  | e :: ms => by
    rw [mAt_cons]
    show valV ((Sum.inr e.1, V.str e.2) :: mkv ms) (.inr n) = _
    by_cases q : e.1 = n
    · rw [if_pos q]
      exact valV_pos (congrArg Sum.inr q)
    · rw [if_neg q, valV_neg (fun z => q (Sum.inr.inj z))]
      exact mkv_val n ms
def Mk (H : Hp) (m : Addr) (ms : MD) : Prop := H m = some (.dK (mkv ms))
theorem Mk.sameN {Ps : List Addr} {H H' : Hp} {m : Addr} {ms : MD} (h : Mk H m ms) (s : SameN Ps H H') : Mk H' m ms := s.k _ _ nt_dK h
def letsF (b : BD) (ms : MD) : Bool := b.all fun e => match mAt ms e.1 with
  | none => false
  | some v => decide (v ∈ e.2)
def liesF (b d : BD) : Bool := d.all fun e => match at? b e.1 with
  | none => false
  | some v => inF v e.2
theorem all_snoc {α : Type} {p : α → Bool} {l : List α} {i : Nat} {x : α} (h : l[i]? = some x) : (l.take (i + 1)).all p = ((l.take i).all p && p x) := by
  rw [take_get h, List.all_append, List.all_cons, List.all_nil, Bool.and_true]
theorem all_bad {α : Type} {p : α → Bool} {l : List α} {i : Nat} {x : α} (h : l[i]? = some x) (hx : p x = false) : l.all p = false := by
  rw [List.all_eq_false]
  exact ⟨x, List.mem_of_getElem? h, by rw [hx]; decide⟩
section
variable {P : Program} {w : World} {K : PySem.W.Frag} {mg : Str → Option Value} {base : Heap}
/-! ### lets -/
def spLets (Ps : List Addr) : Sp := fun vs H Q _ => ∃ (a m : Addr) (b : BD) (ms : MD), vs = [.ref a, .ref m] ∧ Bd H a b ∧ Mk H m ms ∧ Tabs Ps H ∧ ∀ H', SameN Ps H H' → Q (.bl (letsF b ms)) H'
theorem ok_lets {f c0 pT : Addr} {fd : FuncData} {k : Nat} {Ps : List Addr} (F : FunC K "lets" "lets" s_lets f fd c0) (TB : GxR.TabB base mg c0 pT) (hP : pT ∈ Ps) (ma : mg "all" = none) : FnOk P w K mg base CX0 (k + 4) f fd ["bundle", "marks"] (spLets Ps) := by
  refine F.ok sc_lets (fun vs H Q E h => ?_) (fun A outer s H vs Q E hr h => ?_)
  · obtain ⟨a, m, b, ms, rfl, _⟩ := h
    rfl
  · obtain ⟨a, m, b, ms, rfl, ⟨ka, ha, hEa, hNa, hLa, hBa⟩, hm, hT, q⟩ := h
    have hu : ∀ env : Env, (_ : Around).units + 1 < cLine := fun env => hu_of (room_gen hr env)
    refine ⟨_, pss_one (ps_ret (pe_lock (pe_all (own := [("name", 2)]) (g := gName 2) hr (by rfl) ma (by decide +kernel) TB rfl rfl sc_lets.nd (pi_keys (pv 0))
      (blkOk_by (own := [("name", 2)]) (N := ["bundle", "marks", "name"]) (sc := defScope s_lets) (by decide +kernel)) rfl (by decide +kernel) rfl
      (fun _ _ _ _ _ _ => pg_name (i := 2) sc_lets.nd rfl (Or.inl rfl)) (fun _ _ _ _ _ _ => pts_nil)
      (fun _ _ _ _ _ _ => pe_and (pe_cmp (pc_din (hu _) (pv 2) (pv 1))) (pe_one (pe_cmpR (op_inK (K := K) rfl) (pe_dget (hu _) (pv 1) (pv 2) (fun _ _ => rfl)) (pe_dget (hu _) (pv 0) (pv 2) (fun _ _ => rfl)) (by rfl))))))), ?_⟩
    have hkn : (ka.map (·.1)).Nodup := by
      rw [hEa.keys]
      exact keys_nodup hNa
    refine ⟨a, _, ha, trivial, fun od => ⟨_, rfl, a, od, rfl, .inl ⟨ka, upd_same, hT.lock ha nt_dK _ hP, fun H2 hTb => ?_⟩⟩⟩
    have haL : (upd H a (.frz od (.dK ka))) a = some (.frz od (.dK ka)) := upd_same
    have hmL : Rd (upd H a (.frz od (.dK ka))) m (.dK (mkv ms)) := rd_lock hm ha
    have hEaL := hEa.frz (o := od) (u := .dK ka) ha
    have hTL : Tabs Ps (upd H a (.frz od (.dK ka))) := hT.lock ha nt_dK
    have fin : ∀ {HX : Hp} {r : Bool}, SameN Ps (upd H a (.frz od (.dK ka))) HX → letsF b ms = r → HX a = some (.frz od (.dK ka)) ∧ Q (.bl r) (upd HX a (.dK ka)) := fun {HX r} sX e => ⟨sX.k _ _ nt_frz haL, by
      have := q _ (SameN.unlock ha nt_dK hT sX)
      rw [e] at this
      exact this⟩
    refine all_it (walk_keys (d := a) (o := od) (kvs := ka)) (fun i HX => SameN Ps (upd H a (.frz od (.dK ka))) HX ∧ letsF (b.take i) ms = true) ⟨SameN.tab hTL hP hTb, rfl⟩ (fun i HX _ h => h.1.k _ _ nt_frz haL) (fun i x HX HX' hi hP' hY => ?_) (fun HX hP' => ?_)
    · obtain ⟨rfl, kk, v0, hkv, rfl⟩ := hY
      obtain ⟨sX, hin⟩ := hP'
      obtain ⟨n, la, va, rfl, rfl, hla, hbi⟩ := hEaL.get hkv
      have hval := valV_get hkn hkv
      have hmv := mkv_val n ms
      refine ⟨rfl, tYes_in ?_⟩
      refine ⟨_, rfl, _, rfl, m, _, rfl, .inl ⟨mkv ms, .inr n, rd_sameN hmL nt_dK sX, rfl, rfl⟩, _, rfl, ?_⟩
      rw [hmv]
      cases em : mAt ms n with
      | none =>
        refine iteF ⟨_, rfl, fun z => (by cases z), fun _ => fin sX (all_bad hbi ?_)⟩
        show (match mAt ms n with | none => false | some v => decide (v ∈ va)) = false
        rw [em]
      | some v =>
        rw [em] at hmv
        refine iteT ⟨_, rfl, _, rfl, m, V.str v, rfl, .inl ⟨mkv ms, .inr n, rd_sameN hmL nt_dK sX, rfl, hmv.symm⟩, _, rfl, _, rfl, a, V.ref la, rfl, .inl ⟨ka, .inr n, .inr ⟨od, sX.k _ _ nt_frz haL⟩, rfl, hval.symm⟩, la, _, rfl, .inl (.inl (.inl (sX.k _ _ nt_lst hla))), rfl, flat_strs va, _, rfl, fun e => ⟨sX, ?_⟩, fun e => fin sX (all_bad hbi ?_)⟩
        · have e' : inV (V.str v) (va.map V.str) = true := e
          rw [inV_str] at e'
          unfold letsF at hin ⊢
          rw [all_snoc hbi, hin]
          show (true && (match mAt ms n with | none => false | some v => decide (v ∈ va))) = true
          rw [em]
          exact e'
        · have e' : inV (V.str v) (va.map V.str) = false := e
          rw [inV_str] at e'
          show (match mAt ms n with | none => false | some v => decide (v ∈ va)) = false
          rw [em]
          exact e'
    · obtain ⟨sX, hin⟩ := hP'
      rw [hEa.length, List.take_length] at hin
      exact fin sX hin
/-! ### lies_in -/
def spLies (Ps : List Addr) : Sp := fun vs H Q _ => ∃ (a c : Addr) (b d : BD), vs = [.ref a, .ref c] ∧ Bd H a b ∧ Bd H c d ∧ Tabs Ps H ∧ ∀ H', SameN Ps H H' → Q (.bl (liesF b d)) H'
theorem ok_lies {f c0 pT fW : Addr} {fd fdW : FuncData} {k : Nat} {Ps : List Addr} (F : FunC K "lies_in" "lies_in" s_lies_in f fd c0) (TB : GxR.TabB base mg c0 pT) (hP : pT ∈ Ps) (ma : mg "all" = none)
    (kW : PySem.W.keepIn K (.ref fW) = true) (bW : Binds K fdW ["inner", "outer"] []) (gW : mg "within" = some (.ref fW)) (GW : FnOk P w K mg base CX0 k fW fdW ["inner", "outer"] (spWithin Ps)) : FnOk P w K mg base CX0 (k + 4) f fd ["one", "other"] (spLies Ps) := by
  refine F.ok sc_lies_in (fun vs H Q E h => ?_) (fun A outer s H vs Q E hr h => ?_)
  · obtain ⟨a, c, b, d, rfl, _⟩ := h
    rfl
  · obtain ⟨a, c, b, d, rfl, ⟨ka, ha, hEa, hNa, hLa, hBa⟩, ⟨kc, hc, hEc, hNc, hLc, hBc⟩, hT, q⟩ := h
    refine ⟨_, pss_one (ps_ret (pe_lock (pe_all (own := [("name", 2)]) (g := gName 2) hr (by rfl) ma (by decide +kernel) TB rfl rfl sc_lies_in.nd (pi_keys (pv 1))
      (blkOk_by (own := [("name", 2)]) (N := ["one", "other", "name"]) (sc := defScope s_lies_in) (by decide +kernel)) rfl (by decide +kernel) rfl
      (fun _ _ _ _ _ _ => pg_name (i := 2) sc_lies_in.nd rfl (Or.inl rfl)) (fun _ _ _ _ _ _ => pts_nil)
      (fun _ _ _ _ _ _ => pe_and (pe_cmp (pc_din (hu_of (room_gen hr _)) (pv 2) (pv 0))) (pe_one (pe_call GW (room_gen hr _) (by rfl) gW kW bW .nil pass0 (pa_cons (pe_dget (hu_of (room_gen hr _)) (pv 0) (pv 2) (fun _ _ => rfl)) (pa_cons (pe_dget (hu_of (room_gen hr _)) (pv 1) (pv 2) (fun _ _ => rfl)) pa_nil)))))))), ?_⟩
    have hkn : (kc.map (·.1)).Nodup := by
      rw [hEc.keys]
      exact keys_nodup hNc
    refine ⟨c, _, hc, trivial, fun od => ⟨_, rfl, c, od, rfl, .inl ⟨kc, upd_same, hT.lock hc nt_dK _ hP, fun H2 hTb => ?_⟩⟩⟩
    have hcL : (upd H c (.frz od (.dK kc))) c = some (.frz od (.dK kc)) := upd_same
    have haL : Rd (upd H c (.frz od (.dK kc))) a (.dK ka) := rd_lock ha hc
    have hEcL := hEc.frz (o := od) (u := .dK kc) hc
    have hEaL := hEa.frz (o := od) (u := .dK kc) hc
    have hTL : Tabs Ps (upd H c (.frz od (.dK kc))) := hT.lock hc nt_dK
    have fin : ∀ {HX : Hp} {r : Bool}, SameN Ps (upd H c (.frz od (.dK kc))) HX → liesF b d = r → HX c = some (.frz od (.dK kc)) ∧ Q (.bl r) (upd HX c (.dK kc)) := fun {HX r} sX e => ⟨sX.k _ _ nt_frz hcL, by
      have := q _ (SameN.unlock hc nt_dK hT sX)
      rw [e] at this
      exact this⟩
    refine all_it (walk_keys (d := c) (o := od) (kvs := kc)) (fun i HX => SameN Ps (upd H c (.frz od (.dK kc))) HX ∧ liesF b (d.take i) = true) ⟨SameN.tab hTL hP hTb, rfl⟩ (fun i HX _ h => h.1.k _ _ nt_frz hcL) (fun i x HX HX' hi hP' hY => ?_) (fun HX hP' => ?_)
    · obtain ⟨rfl, kk, v0, hkv, rfl⟩ := hY
      obtain ⟨sX, hin⟩ := hP'
      obtain ⟨n, lc, vc, rfl, rfl, hlc, hdi⟩ := hEcL.get hkv
      have hval := valV_get hkn hkv
      refine ⟨rfl, tYes_in ?_⟩
      refine ⟨_, rfl, _, rfl, a, _, rfl, .inl ⟨ka, .inr n, rd_sameN haL nt_dK sX, rfl, rfl⟩, _, rfl, ?_⟩
      rcases hEaL.val n with ⟨a1, a2⟩ | ⟨la, va, a1, a2, a3, a4⟩
      · rw [a2]
        refine iteF ⟨_, rfl, fun z => (by cases z), fun _ => fin sX (all_bad hdi ?_)⟩
        show (match at? b n with | none => false | some v => inF v vc) = false
        rw [a1]
      · rw [a2]
        refine iteT ⟨_, rfl, _, rfl, a, V.ref la, rfl, .inl ⟨ka, .inr n, rd_sameN haL nt_dK sX, rfl, a2.symm⟩, _, rfl, _, rfl, c, V.ref lc, rfl, .inl ⟨kc, .inr n, .inr ⟨od, sX.k _ _ nt_frz hcL⟩, rfl, hval.symm⟩, la, lc, va, vc, rfl, .inl (sX.k _ _ nt_lst a3), sX.k _ _ nt_lst hlc, sX.t, fun H5 s5 => ⟨_, rfl, fun e => ⟨sX.trans s5, ?_⟩, fun e => fin (sX.trans s5) (all_bad hdi ?_)⟩⟩
        · unfold liesF at hin ⊢
          rw [all_snoc hdi, hin]
          show (true && (match at? b n with | none => false | some v => inF v vc)) = true
          rw [a1]
          exact e
        · show (match at? b n with | none => false | some v => inF v vc) = false
          rw [a1]
          exact e
    · obtain ⟨sX, hin⟩ := hP'
      rw [hEc.length, List.take_length] at hin
      exact fin sX hin
end
end Bn

namespace Bn
open PySem PySem.Spec PyProof.Rows L2 BR GX
/-! ### rows of values, the last name's the quickest; names are kept turned about -/
abbrev Row := List Str
def prodR (f : Str → List Str) : List Str → List Row
  | [] => [[]]
  | n :: rs => (prodR f rs).flatMap fun r => (f n).map fun v => r ++ [v]
def manyR (f : Str → List Str) : List Str → Nat
  | [] => 1
  | n :: rs => manyR f rs * (f n).length
def digR (f : Str → List Str) : List Str → Nat → Row
  | [], _ => []
  | n :: rs, k => digR f rs (k / (f n).length) ++ [(f n).getD (k % (f n).length) ""]
theorem flatMap_snoc {α β : Type} (l : List α) (x : α) (g : α → List β) : (l ++ [x]).flatMap g = l.flatMap g ++ g x := by
  rw [List.flatMap_append, List.flatMap_cons, List.flatMap_nil, List.append_nil]
theorem map_range_get (vs : List Str) (r : Row) : (List.range vs.length).map (fun j => r ++ [vs.getD j ""]) = vs.map fun v => r ++ [v] := by
  refine List.ext_getElem (by rw [List.length_map, List.length_map, List.length_range]) fun i h1 h2 => ?_
  rw [List.getElem_map, List.getElem_map, List.getElem_range]
  rw [List.length_map] at h2
  rw [List.getD_eq_getElem?_getD, List.getElem?_eq_getElem h2]
  rfl
theorem count_step (f : Str → List Str) (n : Str) (rs : List Str) (h : f n ≠ []) : ∀ M, (List.range (M * (f n).length)).map (digR f (n :: rs)) = ((List.range M).map (digR f rs)).flatMap fun r => (f n).map fun v => r ++ [v]
  | 0 => by simp
  | M + 1 => by
    have pos : 0 < (f n).length := List.length_pos_iff.mpr h
    rw [Nat.succ_mul, List.range_add, List.map_append, count_step f n rs h M, List.range_succ, List.map_append, List.map_singleton, flatMap_snoc, List.map_map, ← map_range_get]
    congr 1
    refine List.map_congr_left fun j hj => ?_
    have lt := List.mem_range.mp hj
    show digR f rs ((M * (f n).length + j) / (f n).length) ++ [(f n).getD ((M * (f n).length + j) % (f n).length) ""] = _
    rw [Nat.mul_comm M, Nat.mul_add_div pos, Nat.mul_add_mod, Nat.div_eq_of_lt lt, Nat.mod_eq_of_lt lt, Nat.add_zero]
theorem count_prod (f : Str → List Str) : ∀ rs : List Str, (∀ n ∈ rs, f n ≠ []) → (List.range (manyR f rs)).map (digR f rs) = prodR f rs
  | [], _ => rfl
  | n :: rs, h => by
    show (List.range (manyR f rs * (f n).length)).map (digR f (n :: rs)) = _
    rw [count_step f n rs (h n (List.mem_cons_self ..)), count_prod f rs fun m hm => h m (List.mem_cons_of_mem _ hm)]
    rfl
theorem prodR_len (f : Str → List Str) : ∀ (rs : List Str) (r : Row), r ∈ prodR f rs → r.length = rs.length
  | [], r, h => by rw [List.mem_singleton.mp h]
  | n :: rs, r, h => by
    obtain ⟨r0, h0, h1⟩ := List.mem_flatMap.mp h
    obtain ⟨v, _, rfl⟩ := List.mem_map.mp h1
    rw [List.length_append, prodR_len f rs r0 h0]
    rfl
theorem prodR_mem (f : Str → List Str) (p : Str → Prop) : ∀ (rs : List Str), (∀ n ∈ rs, ∀ v ∈ f n, p v) → ∀ r ∈ prodR f rs, ∀ v ∈ r, p v
  | [], _, r, h => by
    rw [List.mem_singleton.mp h]
    exact fun v hv => absurd hv List.not_mem_nil
  | n :: rs, hp, r, h => by
    obtain ⟨r0, h0, h1⟩ := List.mem_flatMap.mp h
    obtain ⟨v, hv, rfl⟩ := List.mem_map.mp h1
    intro x hx
    rcases List.mem_append.mp hx with z | z
    · exact prodR_mem f p rs (fun m hm => hp m (List.mem_cons_of_mem _ hm)) r0 h0 x z
    · rw [List.mem_singleton.mp z]
      exact hp n (List.mem_cons_self ..) v hv
theorem flatMap_len {α β : Type} (g : α → List β) (c : Nat) : ∀ l : List α, (∀ x ∈ l, (g x).length ≤ c) → (l.flatMap g).length ≤ l.length * c
  | [], _ => Nat.zero_le _
  | x :: l, h => by
    rw [List.flatMap_cons, List.length_append, List.length_cons, Nat.succ_mul]
    have h1 := h x (List.mem_cons_self ..)
    have h2 := flatMap_len g c l fun y hy => h y (List.mem_cons_of_mem _ hy)
    omega
theorem prodR_size (f : Str → List Str) (hf : ∀ n, (f n).length ≤ 6) : ∀ rs : List Str, (prodR f rs).length ≤ 6 ^ rs.length
  | [] => Nat.le_refl _
  | n :: rs => by
    have h1 : (prodR f (n :: rs)).length ≤ (prodR f rs).length * 6 := flatMap_len _ 6 _ fun r _ => by rw [List.length_map]; exact hf n
    have h2 := Nat.mul_le_mul_right 6 (prodR_size f hf rs)
    rw [List.length_cons, Nat.pow_succ]
    exact Nat.le_trans h1 h2
theorem manyR_size (f : Str → List Str) (hf : ∀ n, (f n).length ≤ 6) : ∀ rs : List Str, manyR f rs ≤ 6 ^ rs.length
  | [] => Nat.le_refl _
  | n :: rs => by
    rw [List.length_cons, Nat.pow_succ]
    exact Nat.mul_le_mul (manyR_size f hf rs) (hf n)
/-! ### what a bundle lets -/
def okB (b : BD) (n v : Str) : Bool := match at? b n with
  | none => true
  | some vs => decide (v ∈ vs)
def okRow (b : BD) (ns : List Str) (r : Row) : Bool := (ns.zip r).all fun e => okB b e.1 e.2
theorem okRow_snoc (b : BD) (ns : List Str) (n : Str) (r : Row) (v : Str) (h : ns.length = r.length) : okRow b (ns ++ [n]) (r ++ [v]) = (okRow b ns r && okB b n v) := by
  unfold okRow
  rw [List.zip_append h, List.all_append]
  show (_ && ((okB b n v) && true)) = _
  rw [Bool.and_true]
theorem filter_flatMap {α β : Type} (p : β → Bool) (g : α → List β) : ∀ l : List α, (l.flatMap g).filter p = l.flatMap fun x => (g x).filter p
  | [] => rfl
  | x :: l => by rw [List.flatMap_cons, List.flatMap_cons, List.filter_append, filter_flatMap p g l]
theorem flatMap_filter {α β : Type} (p : α → Bool) (g g' : α → List β) : ∀ l : List α, (∀ x ∈ l, g x = if p x = true then g' x else []) → l.flatMap g = (l.filter p).flatMap g'
  | [], _ => rfl
  | x :: l, h => by
    rw [List.flatMap_cons, h x (List.mem_cons_self ..), flatMap_filter p g g' l fun y hy => h y (List.mem_cons_of_mem _ hy)]
    by_cases c : p x = true
    · rw [if_pos c, List.filter_cons_of_pos c, List.flatMap_cons]
    · rw [if_neg c, List.filter_cons_of_neg c, List.nil_append]
theorem prodR_filter (f : Str → List Str) (b : BD) : ∀ rs : List Str, prodR (fun n => (f n).filter (okB b n)) rs = (prodR f rs).filter (okRow b rs.reverse)
  | [] => rfl
  | n :: rs => by
    show (prodR (fun n => (f n).filter (okB b n)) rs).flatMap _ = ((prodR f rs).flatMap _).filter _
    rw [prodR_filter f b rs, filter_flatMap]
    refine (flatMap_filter (okRow b rs.reverse) _ _ _ fun r hr => ?_).symm
    have hl : rs.reverse.length = r.length := by rw [List.length_reverse, prodR_len f rs r hr]
    rw [List.reverse_cons]
    have e : ∀ vs : List Str, (vs.map fun v => r ++ [v]).filter (okRow b (rs.reverse ++ [n])) = if okRow b rs.reverse r = true then (vs.filter (okB b n)).map (fun v => r ++ [v]) else [] := by
      intro vs
      induction vs with
      | nil => split <;> rfl
      | cons v vs ih =>
        rw [List.map_cons]
        have s := okRow_snoc b rs.reverse n r v hl
        by_cases c : okRow b rs.reverse r = true
        · rw [if_pos c] at ih ⊢
          rw [c, Bool.true_and] at s
          by_cases d : okB b n v = true
          · rw [List.filter_cons_of_pos (by rw [s]; exact d), List.filter_cons_of_pos d, List.map_cons, ih]
          · rw [List.filter_cons_of_neg (by rw [s]; exact d), List.filter_cons_of_neg d, ih]
        · rw [if_neg c] at ih ⊢
          have c' : okRow b rs.reverse r = false := Bool.eq_false_iff.mpr c
          rw [c', Bool.false_and] at s
          rw [List.filter_cons_of_neg (by rw [s]; decide), ih]
    exact e (f n)
/-- the values of a feature -/
def knF (kb : BD) (n : Str) : List Str := (at? kb n).getD []
/-- what is told -/
def choicesF (kb : BD) (ns : List Str) (b : BD) : List Row := if inF (b.map (·.1)) ns = true then prodR (fun n => (knF kb n).filter (okB b n)) ns.reverse else []
/-- counted through -/
theorem choices_count {kb : BD} {ns : List Str} {b : BD} (h : ∀ n ∈ ns, knF kb n ≠ []) (hb : inF (b.map (·.1)) ns = true) : choicesF kb ns b = ((List.range (manyR (knF kb) ns.reverse)).map (digR (knF kb) ns.reverse)).filter (okRow b ns) := by
  unfold choicesF
  rw [if_pos hb, prodR_filter, count_prod _ _ fun n hn => h n (List.mem_reverse.mp hn), List.reverse_reverse]
end Bn

namespace Bn
open PySem PySem.Spec PyProof.Rows L2 BR GX RM
/-! ### rules with a letter for the written part -/
section
variable {X : Cx}
theorem ix_tupK {K : PySem.W.Frag} (e : X.K = K) : IxR X (rIxT K) := by
  subst e
  exact ix_tup
theorem ix_lstK {K : PySem.W.Frag} (e : X.K = K) : IxR X (rIxL K) := by
  subst e
  exact ix_list
theorem pi_listK {tg l : Expr} {tl : TE} {K : PySem.W.Frag} (e : X.K = K) (hl : PE X l tl) : PI X tg l (iList K tl) := by
  subst e
  exact pi_list hl
theorem pa_starK {e : Expr} {es : List Expr} {te : TE} {t : TA} {p : Pos} {K : PySem.W.Frag} (eK : X.K = K) (he : PE X e te) (hr : PA X es t) (hs : starEach (.Starred e p :: es) X.env = (true, eval e X.env) :: starEach es X.env := by rfl) : PA X (.Starred e p :: es) (StX.tStar K te t) := by
  subst eK
  exact StX.pa_star he hr hs
end
/-! ### features, one by one -/
theorem fts_of {H : Hp} : ∀ {ys : List V}, (∀ y ∈ ys, Ft H y) → ∃ ds, Fts H ys ds
  | [], _ => ⟨[], .nil⟩
  | y :: ys, h => by
    obtain ⟨ds, k⟩ := fts_of (ys := ys) fun z hz => h z (List.mem_cons_of_mem _ hz)
    obtain ⟨p, l, d, e, h1, h2, h3⟩ := h y (List.mem_cons_self ..)
    exact ⟨d :: ds, .cons ⟨p, l, e, h1, h2, h3⟩ k⟩
theorem FtAt.sameN {Ps : List Addr} {H H' : Hp} {v : V} {d : FtD} (h : FtAt H v d) (s : SameN Ps H H') : FtAt H' v d := by
  obtain ⟨p, l, e, h1, h2, h3⟩ := h
  exact ⟨p, l, e, s.k _ _ nt_tup h1, s.k _ _ nt_lst h2, h3⟩
theorem Fts.sameN {Ps : List Addr} {H H' : Hp} {ys : List V} {ds : List FtD} (h : Fts H ys ds) (s : SameN Ps H H') : Fts H' ys ds := paired_mono h fun _ _ e => e.sameN s
theorem paired_mem {α β : Type} {R : α → β → Prop} {l : List α} {m : List β} (h : Paired R l m) {y : β} (hy : y ∈ m) : ∃ x ∈ l, R x y := by
  induction h with
  | nil => exact absurd hy List.not_mem_nil
  | cons r _ ih =>
    rcases List.mem_cons.mp hy with rfl | z
    · exact ⟨_, List.mem_cons_self .., r⟩
    · obtain ⟨x, hx, k⟩ := ih z
      exact ⟨x, List.mem_cons_of_mem _ hx, k⟩
/-! ### what is known of features -/
def knownF (ds : List FtD) : BD := ds.foldl (fun b d => putB b d.n d.vs) []
theorem known_snoc (ds : List FtD) (d : FtD) : knownF (ds ++ [d]) = putB (knownF ds) d.n d.vs := by
  unfold knownF
  rw [List.foldl_append]
  rfl
theorem at?_repl (n m : Str) (vs : List Str) : ∀ b : BD, at? (b.map fun e => if e.1 = n then (e.1, vs) else e) m = if n = m then (at? b m).map (fun _ => vs) else at? b m
  | [] => by split <;> rfl
  | e :: b => by
    rw [List.map_cons, at?_cons, at?_cons, at?_repl n m vs b]
    by_cases c : e.1 = n
    · rw [if_pos c]
      by_cases d : n = m
      · rw [if_pos d, if_pos d, if_pos (c.trans d), if_pos (c.trans d)]
        rfl
      · rw [if_neg d, if_neg d, if_neg (fun z => d (c.symm.trans z)), if_neg (fun z => d (c.symm.trans z))]
    · rw [if_neg c]
      by_cases d : n = m
      · subst d
        rw [if_pos rfl, if_pos rfl, if_neg c, if_neg c]
      · rw [if_neg d, if_neg d]
theorem at?_app (b c : BD) (m : Str) : at? (b ++ c) m = ((at? b m).or (at? c m)) := by
  induction b with
  | nil => rfl
  | cons e b ih =>
    rw [List.cons_append, at?_cons, at?_cons, ih]
    by_cases d : e.1 = m
    · rw [if_pos d, if_pos d]
      rfl
    · rw [if_neg d, if_neg d]
theorem at?_put (b : BD) (n m : Str) (vs : List Str) : at? (putB b n vs) m = if n = m then some vs else at? b m := by
  unfold putB
  by_cases q : (b.any fun e => decide (e.1 = n)) = true
  · rw [if_pos q, at?_repl]
    by_cases d : n = m
    · rw [if_pos d, if_pos d]
      obtain ⟨e, he, en⟩ := List.any_eq_true.mp q
      have en' : e.1 = n := of_decide_eq_true en
      cases z : at? b m with
      | none => exact absurd (List.mem_map.mpr ⟨e, he, en'.trans d⟩) ((at?_none_iff b m).mp z)
      | some v => rfl
    · rw [if_neg d, if_neg d]
  · rw [if_neg q, at?_app, at?_cons, at?_nil]
    by_cases d : n = m
    · rw [if_pos d, if_pos d]
      have z : at? b m = none := (at?_none_iff b m).mpr fun hm => q (by
        obtain ⟨e, he, en⟩ := List.mem_map.mp hm
        exact List.any_eq_true.mpr ⟨e, he, decide_eq_true (en.trans d.symm)⟩)
      rw [z]
      rfl
    · rw [if_neg d, if_neg d, Option.or_none]
theorem known_mem {ds : List FtD} {n : Str} {vs : List Str} (h : at? (knownF ds) n = some vs) : ∃ d ∈ ds, d.n = n ∧ d.vs = vs := by
  have key : ∀ (ds : List FtD) (b : BD), at? (ds.foldl (fun b d => putB b d.n d.vs) b) n = some vs → (∃ d ∈ ds, d.n = n ∧ d.vs = vs) ∨ at? b n = some vs := by
    intro ds
    induction ds with
    | nil => exact fun b e => .inr e
    | cons d ds ih =>
      intro b e
      rcases ih (putB b d.n d.vs) e with ⟨d', hd, k⟩ | k
      · exact .inl ⟨d', List.mem_cons_of_mem _ hd, k⟩
      · rw [at?_put] at k
        by_cases c : d.n = n
        · rw [if_pos c] at k
          exact .inl ⟨d, List.mem_cons_self .., c, Option.some.inj k⟩
        · rw [if_neg c] at k
          exact .inr k
  rcases key ds [] h with z | z
  · exact z
  · cases z
theorem known_has {ds : List FtD} {d : FtD} (hd : d ∈ ds) : ∃ vs, at? (knownF ds) d.n = some vs := by
  have key : ∀ (ds : List FtD) (b : BD), (d ∈ ds ∨ ∃ vs, at? b d.n = some vs) → ∃ vs, at? (ds.foldl (fun b d => putB b d.n d.vs) b) d.n = some vs := by
    intro ds
    induction ds with
    | nil =>
      intro b h
      rcases h with h | h
      · exact absurd h List.not_mem_nil
      · exact h
    | cons e ds ih =>
      intro b h
      refine ih (putB b e.n e.vs) ?_
      rw [at?_put]
      by_cases c : e.n = d.n
      · rw [if_pos c]
        exact .inr ⟨_, rfl⟩
      · rw [if_neg c]
        rcases h with h | h
        · rcases List.mem_cons.mp h with z | z
          · exact absurd (by rw [z]) c
          · exact .inl z
        · exact .inr h
  exact key ds [] (.inl hd)
def FtsB (ds : List FtD) : Prop := ds.length ≤ 6 ∧ ∀ d ∈ ds, FtB d
theorem Fts.b {H : Hp} {ys : List V} {ds : List FtD} (h : Fts H ys ds) (hl : ys.length ≤ 6) : FtsB ds := by
  refine ⟨by rw [← Paired.length h]; exact hl, fun d hd => ?_⟩
  obtain ⟨x, _, p, l, _, _, _, k⟩ := paired_mem h hd
  exact k
theorem knF_len {ds : List FtD} (hB : FtsB ds) (n : Str) : (knF (knownF ds) n).length ≤ 6 := by
  unfold knF
  cases e : at? (knownF ds) n with
  | none => exact Nat.zero_le _
  | some vs =>
    obtain ⟨d, hd, _, rfl⟩ := known_mem e
    exact (hB.2 d hd).2.1
theorem knF_ok {ds : List FtD} (hB : FtsB ds) (n : Str) : ∀ v ∈ knF (knownF ds) n, okS v := by
  unfold knF
  cases e : at? (knownF ds) n with
  | none => exact fun v hv => absurd hv List.not_mem_nil
  | some vs =>
    obtain ⟨d, hd, _, rfl⟩ := known_mem e
    exact (hB.2 d hd).2.2.2
theorem knF_ne {ds : List FtD} (hB : FtsB ds) {n : Str} (hn : n ∈ ds.map (·.n)) : knF (knownF ds) n ≠ [] := by
  obtain ⟨d, hd, rfl⟩ := List.mem_map.mp hn
  obtain ⟨vs, e⟩ := known_has hd
  obtain ⟨d', hd', _, rfl⟩ := known_mem e
  unfold knF
  rw [e]
  have := (hB.2 d' hd').1
  intro z
  have z' : d'.vs = [] := z
  rw [z'] at this
  exact absurd this (by decide)
/-! ### rows -/
abbrev Tps (H : Hp) (ts : List Addr) (rows : List Row) : Prop := Paired (fun t (r : Row) => H t = some (.tup (r.map V.str))) ts rows
theorem Tps.sameN {Ps : List Addr} {H H' : Hp} {ts : List Addr} {rows : List Row} (h : Tps H ts rows) (s : SameN Ps H H') : Tps H' ts rows := paired_mono h fun _ _ e => s.k _ _ nt_tup e
theorem Tps.same {H H' : Hp} {ts : List Addr} {rows : List Row} (h : Tps H ts rows) (s : Same H H') : Tps H' ts rows := paired_mono h fun _ _ e => s _ _ e
theorem Tps.updL {H : Hp} {ts : List Addr} {rows : List Row} {D : Addr} {xs ys : List V} (h : Tps H ts rows) (hD : H D = some (.lst xs)) : Tps (upd H D (.lst ys)) ts rows := paired_mono h fun _ _ e => by
  rw [upd_ne (ne_of e hD (by intro z; cases z))]
  exact e
def RwsAt (H : Hp) (r : Addr) (rows : List Row) : Prop := ∃ ts : List Addr, H r = some (.lst (ts.map V.ref)) ∧ Tps H ts rows
theorem RwsAt.sameN {Ps : List Addr} {H H' : Hp} {r : Addr} {rows : List Row} (h : RwsAt H r rows) (s : SameN Ps H H') : RwsAt H' r rows := by
  obtain ⟨ts, h1, h2⟩ := h
  exact ⟨ts, s.k _ _ nt_lst h1, h2.sameN s⟩
theorem RwsAt.same {H H' : Hp} {r : Addr} {rows : List Row} (h : RwsAt H r rows) (s : Same H H') : RwsAt H' r rows := by
  obtain ⟨ts, h1, h2⟩ := h
  exact ⟨ts, s _ _ h1, h2.same s⟩
theorem _root_.GX.SameN.new {Ps : List Addr} {H H' : Hp} {p : Addr} {o : HO} (s : SameN Ps H H') (n : H' p = none) : SameN Ps H (upd H' p o) := s.trans (SameN.of s.t (same_new n))
theorem _root_.GX.SameN.own {Ps : List Addr} {H H' : Hp} {p : Addr} {o u : HO} (s : SameN Ps H H') (n : H p = none) (e : H' p = some u) (hu : NT u) : SameN Ps H (upd H' p o) := by
  refine ⟨fun x y nt h => ?_, fun x q h => ?_, fun P hP => ?_⟩
  · rw [upd_ne (ne_of_none h n)]
    exact s.k _ _ nt h
  · rw [upd_ne (ne_of_none h n)]
    exact s.q _ _ h
  · obtain ⟨ps, h1, h2⟩ := s.t P hP
    refine ⟨ps, ?_, h2⟩
    rw [upd_ne (ne_of h1 e fun z => hu ps (by rw [← z]))]
    exact h1
theorem small_six {n k : Nat} (h : n ≤ 6 ^ k) (hk : k ≤ 6) : n < sizeLine := Nat.lt_of_le_of_lt (Nat.le_trans h (Nat.pow_le_pow_right (by decide) hk)) (by decide)
end Bn

namespace Bn
open PySem PySem.Spec PyProof.Rows L2 BR GX RM
section
variable {P : Program} {w : World} {K : PySem.W.Frag} {mg : Str → Option Value} {base : Heap}
abbrev NC : List Str := ["features", "names", "bundle", "known", "rows", "name", "values", "feature", "value", "row"]
def spChoices (Ps : List Addr) : Sp := fun vs H Q _ => ∃ (fl nl bl : Addr) (ys : List V) (ds : List FtD) (ns : List Str) (b : BD), vs = [.ref fl, .ref nl, .ref bl] ∧ H fl = some (.lst ys) ∧ Fts H ys ds ∧ ds.length ≤ 6 ∧ H nl = some (.lst (ns.map V.str)) ∧ ns.length ≤ 6 ∧ (∀ n ∈ ns, n ∈ ds.map (·.n)) ∧ Bd H bl b ∧ Tabs Ps H ∧
  ∀ r H', H r = none → SameN Ps H H' → RwsAt H' r (choicesF (knownF ds) ns b) → Q (.ref r) H'
theorem ok_choices {f fW : Addr} {fd fdW : FuncData} {Ps : List Addr} (F : Fun K "choices" "choices" s_choices f fd)
    (kW : PySem.W.keepIn K (.ref fW) = true) (bW : Binds K fdW ["inner", "outer"] []) (gW : mg "within" = some (.ref fW)) (GW : FnOk P w K mg base CX0 4 fW fdW ["inner", "outer"] (spWithin Ps)) : FnOk P w K mg base CX0 5 f fd ["features", "names", "bundle"] (spChoices Ps) := by
  refine F.ok sc_choices (fun vs H Q E h => ?_) (fun cdv A outer s H vs Q E hr h => ?_)
  · obtain ⟨fl, nl, bl, ys, ds, ns, b, rfl, _⟩ := h
    rfl
  · obtain ⟨fl, nl, bl, ys, ds, ns, b, rfl, hfl, hF, hdl, hnl, hnn, hnm, hB, hT, q⟩ := h
    refine ⟨_, pss_cons (ps_if (pt_not (pt_val (pe_call GW hr (by rfl) gW kW bW .nil pass0 (pa_cons (pv 2) (pa_cons (pv 1) pa_nil))))) (pss_one (ps_ret (pe_lst pa_nil))) pss_nil)
      (pss_cons (ps_setDc (i := 3) (own := [("feature", 7)]) (g := gName 7) rfl sc_choices.nd rfl rfl (sw_dict rfl rfl rfl (by decide +kernel)) (pi_list (pv 0))
        (blkOk_by (own := [("feature", 7)]) (N := NC) (sc := defScope s_choices) (by decide +kernel))
        (fun _ _ _ _ _ => pg_name (i := 7) sc_choices.nd rfl (Or.inl rfl)) (fun _ _ _ _ _ => pts_nil)
        (fun _ _ _ _ _ => pe_ix (ix_tupK (K := K) rfl) (pv 7) pe_int (fun _ _ => rfl)) (fun _ _ _ _ _ => pe_ix (ix_tupK (K := K) rfl) (pv 7) pe_int (fun _ _ => rfl)))
      (pss_cons (ps_set (i := 4) sc_choices.nd rfl (.inl rfl) (pe_lst (pa_cons (pe_tup pa_nil) pa_nil)))
      (pss_cons (ps_for PassesOwn.never rfl (pi_list (pv 1)) (pg_name (i := 5) sc_choices.nd rfl (.inr rfl))
        (pss_cons (ps_set (i := 6) sc_choices.nd rfl (.inr rfl) (pe_lc (own := [("value", 8)]) (g := gName 8) rfl sc_choices.nd (pi_list (pe_dget (hu_of hr) (pv 3) (pv 5) (fun _ _ => rfl)))
            (blkOk_by (own := [("value", 8)]) (N := NC) (sc := defScope s_choices) (by decide +kernel))
            (fun _ _ _ _ _ => pg_name (i := 8) sc_choices.nd rfl (Or.inl rfl)) (fun _ _ _ _ _ => pts_one (PW.pt (pw_or (pt_cmp (pc_dnotin (hu_of hr) (pv 5) (pv 2))) (pw_or1 (pt_cmpR (op_inK (K := K) rfl) (pv 8) (pe_dget (hu_of hr) (pv 2) (pv 5) (fun _ _ => rfl)) (by rfl)))))) (fun _ _ _ _ _ => pv 8)))
        (pss_one (ps_setLc2 (i := 4) (own := [("row", 9), ("value", 8)]) (vs1 := [8]) (g := gName 9) (g1 := gName 8) rfl sc_choices.nd rfl rfl (sw_true rfl rfl rfl (by decide +kernel)) (pi_list (pv 4))
            (blkOk_by (own := [("row", 9), ("value", 8)]) (N := NC) (sc := defScope s_choices) (by decide +kernel)) (by decide)
            (fun _ _ _ _ _ => pg_name (i := 9) sc_choices.nd rfl (Or.inl rfl)) (fun _ _ _ _ _ => pts_nil)
            (fun _ _ _ _ _ => pi_listK (K := K) rfl (pv 6)) (fun _ _ _ _ _ => pg_name (i := 8) sc_choices.nd rfl (Or.inl rfl)) (fun _ _ _ _ _ => pts_nil)
            (fun _ _ _ _ _ => pe_tup (pa_starK (K := K) rfl (pv 9) (pa_cons (pv 8) pa_nil)))))))
      (pss_one (ps_ret (pv 4)))))), ?_⟩
    refine ⟨_, rfl, _, rfl, bl, nl, _, ns, rfl, .inr ⟨b, hB, rfl⟩, hnl, hT, fun H1 s1 => ?_⟩
    refine ⟨_, rfl, ?_⟩
    cases hin : inF (b.map (·.1)) ns with
    | false =>
      refine iteT ⟨Nat.zero_le _, fun r nr => q r _ (s1.free nr) (s1.new nr) ?_⟩
      have e : choicesF (knownF ds) ns b = [] := by
        unfold choicesF
        rw [if_neg (by rw [hin]; decide)]
      rw [e]
      exact ⟨[], upd_same, .nil⟩
    | true =>
      have hFB : FtsB ds := hF.b (by rw [Paired.length hF]; exact hdl)
      have hfl1 := s1.k _ _ nt_lst hfl
      have hF1 := hF.sameN s1
      have hlen : ys.length = ds.length := Paired.length hF
      refine iteF ⟨_, rfl, fl, rfl, ⟨_, .inl (.inl hfl1)⟩, fun D nD => ?_⟩
      refine dc_it (walk_list (K := K) (a := fl) (xs := ys)) (fun i HX => Same H1 HX ∧ ∃ kvs, HX D = some (.dK kvs) ∧ Ents HX kvs (knownF (ds.take i)) ∧ kvs.length ≤ i) ⟨same_new nD, [], upd_same, .nil, Nat.le_refl _⟩ (fun i HX _ h => .inl (.inl (h.1 _ _ hfl1))) (fun i x HX HX' hi hP hY => ?_) (fun HX hP => ?_)
      · obtain ⟨rfl, hx⟩ := hY
        obtain ⟨sX, kvs, hD, hE, hkl⟩ := hP
        obtain ⟨d, hdi, p, l, rfl, f1, f2, f3⟩ := paired_at hF1 hx
        refine ⟨rfl, tYes_in ?_⟩
        refine ⟨_, rfl, p, _, _, V.str d.n, rfl, rfl, .inl (.inl (sX _ _ f1)), rfl, _, rfl, p, _, _, V.ref l, rfl, rfl, .inl (.inl (sX _ _ f1)), rfl, kvs, .inr d.n, rfl, hD, small1000 (by omega), Same.own sX nD, _, upd_same, ?_, ?_⟩
        · rw [take_get hdi, known_snoc]
          exact (hE.put (sX _ _ f2)).upd_dict hD
        · have := length_putK kvs (.inr d.n) (V.ref l)
          omega
      · obtain ⟨sX, kvs, hD, hE, hkl⟩ := hP
        rw [hlen, List.take_length] at hE
        refine ⟨Nat.zero_le _, fun t nt => ⟨(show 1 ≤ sizeLine by decide), fun r nr => ?_⟩⟩
        have sA : Same HX (upd HX t (.tup [])) := same_new nt
        have ht : (upd HX t (.tup [])) t = some (.tup []) := upd_same
        generalize upd HX t (.tup []) = HA at sA ht nr ⊢
        have sB : Same HA (upd HA r (.lst [.ref t])) := same_new nr
        have hr0 : (upd HA r (.lst [.ref t])) r = some (.lst [.ref t]) := upd_same
        have nrH : H r = none := s1.free (sX.free (sA.free nr))
        generalize upd HA r (.lst [.ref t]) = HB at sB hr0 ⊢
        have sHB : SameN Ps H HB := ((s1.trans (SameN.of s1.t sX)).trans (SameN.of (s1.t.same sX) sA)).trans (SameN.of ((s1.t.same sX).same sA) sB)
        have hEB : Ents HB kvs (knownF ds) := (hE.same sA).same sB
        have hDB : HB D = some (.dK kvs) := sB _ _ (sA _ _ hD)
        refine ⟨_, rfl, nl, rfl, ⟨_, .inl (.inl (sHB.k _ _ nt_lst hnl))⟩, for_list (K := K) (a := nl) (xs := ns.map V.str) (fun i σ HY => ∃ (r : Addr) (y5 y6 y7 y8 y9 : Option V), σ = [some (.ref fl), some (.ref nl), some (.ref bl), some (.ref D), some (.ref r), y5, y6, y7, y8, y9] ∧ SameN Ps HB HY ∧ H r = none ∧ RwsAt HY r (prodR (fun n => (knF (knownF ds) n).filter (okB b n)) (ns.take i).reverse))
          ⟨r, _, _, _, _, _, rfl, SameN.refl sHB.t, nrH, [t], hr0, .cons (sB _ _ ht) .nil⟩ (fun i σ HY _ h => ?_) (fun i x σ HY hx hP => ?_) (fun σ HY hP => ?_)⟩
        · obtain ⟨_, _, _, _, _, _, _, sY, _⟩ := h
          exact .inl (.inl (sY.k _ _ nt_lst (sHB.k _ _ nt_lst hnl)))
        · obtain ⟨r, y5, y6, y7, y8, y9, rfl, sY, nr', ts, hr', hts⟩ := hP
          rw [List.getElem?_map] at hx
          obtain ⟨n, en, ex⟩ := Option.map_eq_some_iff.mp hx
          subst ex
          have hnd := hnm n (List.mem_of_getElem? en)
          have hi : i < ns.length := (List.getElem?_eq_some_iff.mp en).1
          obtain ⟨l, vs, z1, z2, z3, _⟩ : ∃ l vs, at? (knownF ds) n = some vs ∧ valV kvs (.inr n) = some (.ref l) ∧ HB l = some (.lst (vs.map V.str)) ∧ (Sum.inr n, V.ref l) ∈ kvs := by
            rcases hEB.val n with ⟨z, _⟩ | z
            · obtain ⟨d, hd, ed⟩ := List.mem_map.mp hnd
              obtain ⟨vs, e⟩ := known_has hd
              have ed' : d.n = n := ed
              rw [ed', z] at e
              cases e
            · exact z
          have hk : knF (knownF ds) n = vs := by
            unfold knF
            rw [z1]
            rfl
          have hv6 : vs.length ≤ 6 := by
            rw [← hk]
            exact knF_len hFB n
          obtain ⟨kb, hb, hEb, hNb, hLb, hBb⟩ := hB.sameN (sHB.trans sY)
          have hlY := sY.k _ _ nt_lst z3
          refine ⟨_, rfl, _, rfl, D, V.ref l, rfl, .inl ⟨kvs, .inr n, .inl (sY.k _ _ nt_dK hDB), rfl, z2.symm⟩, l, rfl, ⟨_, .inl (.inl hlY)⟩, fun V0 nV => ?_⟩
          refine lc_list (K := K) (a := l) (xs := vs.map V.str) (fun j HZ => Same HY HZ ∧ HZ V0 = some (.lst (((vs.take j).filter (okB b n)).map V.str))) ⟨same_new nV, upd_same⟩ (fun j HZ _ h => .inl (.inl (h.1 _ _ hlY))) (fun j x HZ hx2 hP => ?_) (fun HZ hP => ?_)
          · obtain ⟨sZ, hV⟩ := hP
            rw [List.getElem?_map] at hx2
            obtain ⟨v, ev, ex⟩ := Option.map_eq_some_iff.mp hx2
            subst ex
            have put : okB b n v = true → Same HY (upd HZ V0 (.lst (((vs.take j).filter (okB b n)).map V.str ++ [V.str v]))) ∧ (upd HZ V0 (.lst (((vs.take j).filter (okB b n)).map V.str ++ [V.str v]))) V0 = some (.lst (((vs.take (j + 1)).filter (okB b n)).map V.str)) := fun e => ⟨Same.own sZ nV, by
              rw [upd_same, filter_snoc ev, if_pos e, List.map_append]
              rfl⟩
            have few : (((vs.take j).filter (okB b n)).map V.str).length < sizeLine := by
              rw [List.length_map]
              refine small1000 (Nat.le_trans (List.length_filter_le _ _) ?_)
              rw [List.length_take]
              omega
            refine ⟨rfl, _, rfl, _, rfl, bl, _, rfl, .inl ⟨kb, .inr n, .inl (sZ _ _ hb), rfl, rfl⟩, _, rfl, ?_⟩
            rcases hEb.val n with ⟨a1, a2⟩ | ⟨la, va, a1, a2, a3, _⟩
            · rw [a2]
              have ok1 : okB b n v = true := by
                unfold okB
                rw [a1]
              exact iteT (iteT ⟨_, rfl, _, hV, few, put ok1⟩)
            · rw [a2]
              have ok1 : okB b n v = decide (v ∈ va) := by
                unfold okB
                rw [a1]
              refine iteF ⟨_, rfl, _, rfl, _, rfl, bl, V.ref la, rfl, .inl ⟨kb, .inr n, .inl (sZ _ _ hb), rfl, a2.symm⟩, la, _, rfl, .inl (.inl (.inl (sZ _ _ a3))), rfl, flat_strs va, _, rfl, ite2 (fun e => ?_) (fun e => ?_)⟩
              · have e' : inV (V.str v) (va.map V.str) = true := e
                rw [inV_str, ← ok1] at e'
                exact ⟨_, rfl, _, hV, few, put e'⟩
              · have e' : ¬ inV (V.str v) (va.map V.str) = true := e
                rw [inV_str, ← ok1] at e'
                refine ⟨sZ, ?_⟩
                rw [filter_snoc ev, if_neg e', List.append_nil]
                exact hV
          · obtain ⟨sZ, hV⟩ := hP
            rw [List.length_map, List.take_length] at hV
            have hrZ := sZ _ _ hr'
            have htsZ := hts.same sZ
            generalize hrows : prodR (fun n => (knF (knownF ds) n).filter (okB b n)) (ns.take i).reverse = rows at htsZ
            generalize hvals : vs.filter (okB b n) = vals at hV
            have hvl : vals.length ≤ 6 := by
              rw [← hvals]
              exact Nat.le_trans (List.length_filter_le _ _) hv6
            have hrl : rows.length ≤ 6 ^ i := by
              have z := prodR_size (fun n => (knF (knownF ds) n).filter (okB b n)) (fun n => Nat.le_trans (List.length_filter_le _ _) (knF_len hFB n)) (ns.take i).reverse
              rw [hrows, List.length_reverse, List.length_take, Nat.min_eq_left (Nat.le_of_lt hi)] at z
              exact z
            have htl : ts.length = rows.length := Paired.length htsZ
            have next : prodR (fun n => (knF (knownF ds) n).filter (okB b n)) (ns.take (i + 1)).reverse = rows.flatMap fun r => vals.map fun v => r ++ [v] := by
              rw [take_get en, List.reverse_append]
              show (prodR _ (ns.take i).reverse).flatMap _ = _
              rw [hrows]
              show (rows.flatMap fun r => ((knF (knownF ds) n).filter (okB b n)).map fun v => r ++ [v]) = _
              rw [hk, hvals]
            refine ⟨_, rfl, r, rfl, ⟨_, .inl (.inl hrZ)⟩, fun D2 nD2 => ?_⟩
            have nD2H : H D2 = none := (sHB.trans sY).free (sZ.free nD2)
            refine lc2_it (walk_list (K := K) (a := r) (xs := ts.map V.ref)) (fun i HW => Same HZ HW ∧ ∃ us : List Addr, HW D2 = some (.lst (us.map V.ref)) ∧ Tps HW us ((rows.take i).flatMap fun r => vals.map fun v => r ++ [v])) ⟨same_new nD2, [], upd_same, .nil⟩ (fun j HW _ h => .inl (.inl (h.1 _ _ hrZ))) (fun j x HW HW' hj hP hY => ?_) (fun HW hP => ?_)
            · obtain ⟨rfl, hx3⟩ := hY
              obtain ⟨sW, us, hD2, hus⟩ := hP
              rw [List.getElem?_map] at hx3
              obtain ⟨t1, et1, ex⟩ := Option.map_eq_some_iff.mp hx3
              subst ex
              obtain ⟨row, hrow, ht1⟩ := paired_at htsZ et1
              have hjr : j < rows.length := (List.getElem?_eq_some_iff.mp hrow).1
              refine ⟨rfl, tYes_in ⟨_, rfl, V0, rfl, ⟨_, .inl (.inl (sW _ _ hV))⟩, ?_⟩⟩
              refine in2_it (walk_list (K := K) (a := V0) (xs := vals.map V.str)) (fun k HU => Same HZ HU ∧ ∃ us : List Addr, HU D2 = some (.lst (us.map V.ref)) ∧ Tps HU us (((rows.take j).flatMap fun r => vals.map fun v => r ++ [v]) ++ (vals.take k).map fun v => row ++ [v])) ⟨sW, us, hD2, by rw [List.take_zero, List.map_nil, List.append_nil]; exact hus⟩ (fun k HU _ h => .inl (.inl (h.1 _ _ hV))) (fun k x HU HU' hk' hP hY => ?_) (fun HU hP => ?_)
              · obtain ⟨rfl, hx4⟩ := hY
                obtain ⟨sU, us, hD2, hus⟩ := hP
                rw [List.getElem?_map] at hx4
                obtain ⟨v, ev, ex⟩ := Option.map_eq_some_iff.mp hx4
                subst ex
                have hkv : k < vals.length := (List.getElem?_eq_some_iff.mp ev).1
                have hul : us.length < sizeLine := by
                  have e := Paired.length hus
                  rw [List.length_append, List.length_map, List.length_take] at e
                  have e2 := flatMap_len (β := Row) (fun r : Row => vals.map fun v => r ++ [v]) 6 (rows.take j) fun r _ => by rw [List.length_map]; exact hvl
                  have e6 : us.length ≤ (rows.take j).length * 6 + min k vals.length := by
                    rw [e]
                    exact Nat.add_le_add_right e2 _
                  rw [List.length_take] at e6
                  have e3 : 6 ^ i * 6 = 6 ^ (i + 1) := rfl
                  have e4 := Nat.mul_le_mul_right 6 hrl
                  refine small_six (k := i + 1) ?_ (by omega)
                  rw [← e3]
                  clear e e2
                  omega
                refine ⟨rfl, tYes_in ⟨_, rfl, t1, _, rfl, .inl (.inl (.inl (sU _ _ ht1))), _, rfl, ?_, fun p np => ?_⟩⟩
                · have hm : row ∈ prodR (fun n => (knF (knownF ds) n).filter (okB b n)) (ns.take i).reverse := by
                    rw [hrows]
                    exact List.mem_of_getElem? hrow
                  have z := prodR_len _ _ _ hm
                  rw [List.length_reverse, List.length_take] at z
                  rw [List.length_append, List.length_map]
                  exact line1000 (by show row.length + 1 ≤ 1000; omega)
                · have sP : Same HU' (upd HU' p (.tup (row.map V.str ++ [V.str v]))) := same_new np
                  have hp : (upd HU' p (.tup (row.map V.str ++ [V.str v]))) p = some (.tup ((row ++ [v]).map V.str)) := by
                    rw [upd_same, List.map_append]
                    rfl
                  generalize upd HU' p (.tup (row.map V.str ++ [V.str v])) = HQ at sP hp ⊢
                  have hD3 := sP _ _ hD2
                  refine ⟨_, hD3, by rw [List.length_map]; exact hul, Same.own (sU.trans sP) nD2, us ++ [p], ?_, ?_⟩
                  · rw [upd_same, List.map_append]
                    rfl
                  · rw [take_get ev, List.map_append, ← List.append_assoc]
                    exact Tps.updL (paired_snoc (hus.same sP) hp) hD3
              · obtain ⟨sU, us, hD2, hus⟩ := hP
                rw [List.length_map, List.take_length] at hus
                refine ⟨sU, us, hD2, ?_⟩
                rw [take_get hrow, flatMap_snoc]
                exact hus
            · obtain ⟨sW, us, hD2, hus⟩ := hP
              rw [List.length_map, htl, List.take_length] at hus
              refine ⟨D2, _, _, _, _, _, rfl, (sY.trans (SameN.of sY.t sZ)).trans (SameN.of (sY.t.same sZ) sW), nD2H, us, hD2, ?_⟩
              rw [next]
              exact hus
        · obtain ⟨r, y5, y6, y7, y8, y9, rfl, sY, nr', hR⟩ := hP
          rw [List.length_map, List.take_length] at hR
          refine ⟨_, rfl, q r HY nr' (sHB.trans sY) ?_⟩
          have e : choicesF (knownF ds) ns b = prodR (fun n => (knF (knownF ds) n).filter (okB b n)) ns.reverse := by
            unfold choicesF
            rw [if_pos hin]
          rw [e]
          exact hR
end
end Bn

namespace Bn
open PySem PySem.Spec PyProof.Rows L2 BR GX
/-! ### bundles by their names -/
theorem at?_memN {b : BD} (hn : (b.map (·.1)).Nodup) {e : Str × List Str} (he : e ∈ b) : at? b e.1 = some e.2 := by
  induction b with
  | nil => exact absurd he List.not_mem_nil
  | cons x b ih =>
    obtain ⟨h1, h2⟩ := List.nodup_cons.mp hn
    rw [at?_cons]
    rcases List.mem_cons.mp he with rfl | z
    · rw [if_pos rfl]
    · rw [if_neg, ih h2 z]
      exact fun y => h1 (List.mem_map.mpr ⟨e, z, y.symm⟩)
def jAt : Option (List Str) → Option (List Str) → Option (List Str)
  | none, none => none
  | none, some w => some w
  | some v, none => some v
  | some v, some w => some (v.filter fun x => decide (x ∈ w))
theorem mem_names (b c : BD) (n : Str) : n ∈ namesF b c ↔ (at? b n ≠ none ∨ at? c n ≠ none) := by
  refine ⟨namesF_some, fun h => ?_⟩
  unfold namesF
  by_cases z : n ∈ b.map (·.1)
  · exact List.mem_append_left _ z
  · have e := (at?_none_iff b n).mpr z
    refine List.mem_append_right _ (List.mem_filter.mpr ⟨?_, by rw [e]; rfl⟩)
    rcases h with h | h
    · exact absurd e h
    · by_cases y : n ∈ c.map (·.1)
      · exact y
      · exact absurd ((at?_none_iff c n).mpr y) h
theorem at?_mapped (f : Str → List Str) (n : Str) : ∀ l : List Str, at? (l.map fun m => (m, f m)) n = if n ∈ l then some (f n) else none
  | [] => rfl
  | m :: l => by
    rw [List.map_cons, at?_cons, at?_mapped f n l]
    by_cases c : m = n
    · subst c
      rw [if_pos rfl, if_pos (List.mem_cons_self ..)]
    · rw [if_neg c]
      by_cases d : n ∈ l
      · rw [if_pos d, if_pos (List.mem_cons_of_mem _ d)]
      · rw [if_neg d, if_neg fun z => (List.mem_cons.mp z).elim (fun y => c y.symm) d]
theorem at?_ents (b c : BD) (n : Str) : at? (entsF b c) n = jAt (at? b n) (at? c n) := by
  unfold entsF
  rw [at?_mapped]
  have m := mem_names b c n
  unfold leftF
  cases e1 : at? b n with
  | none =>
    cases e2 : at? c n with
    | none =>
      rw [if_neg fun z => ?_]
      · rfl
      · rw [e1, e2] at m
        rcases m.mp z with y | y <;> exact y rfl
    | some w =>
      rw [if_pos (m.mpr (.inr (by rw [e2]; exact fun z => nomatch z)))]
      rfl
  | some v =>
    rw [if_pos (m.mpr (.inl (by rw [e1]; exact fun z => nomatch z)))]
    cases e2 : at? c n with
    | none => rfl
    | some w => rfl
theorem joined_none (b c : BD) : joinedF b c = none ↔ ∃ n, jAt (at? b n) (at? c n) = some [] := by
  unfold joinedF
  constructor
  · intro h
    by_cases z : ((entsF b c).any fun e => e.2.isEmpty) = true
    · obtain ⟨e, he, e2⟩ := List.any_eq_true.mp z
      obtain ⟨n, hn, rfl⟩ := List.mem_map.mp he
      refine ⟨n, ?_⟩
      rw [← at?_ents]
      unfold entsF
      rw [at?_mapped, if_pos hn, List.isEmpty_iff.mp (show (leftF b c n).isEmpty = true from e2)]
    · rw [if_neg z] at h
      cases h
  · rintro ⟨n, h⟩
    rw [if_pos]
    rw [← at?_ents] at h
    exact List.any_eq_true.mpr ⟨_, at?_mem h, rfl⟩
theorem joined_ents {b c es : BD} (h : joinedF b c = some es) : es = entsF b c ∧ ∀ n, at? es n = jAt (at? b n) (at? c n) := by
  have e := joinedF_eq h
  exact ⟨e, fun n => by rw [e, at?_ents]⟩
theorem jAt_assoc (x y z : Option (List Str)) : jAt (jAt x y) z = jAt x (jAt y z) := by
  cases x with
  | none =>
    cases y with
    | none =>
      cases z <;> rfl
    | some v => cases z <;> rfl
  | some u =>
    cases y with
    | none => cases z <;> rfl
    | some v =>
      cases z with
      | none => rfl
      | some w =>
        show some ((u.filter fun x => decide (x ∈ v)).filter fun x => decide (x ∈ w)) = some (u.filter fun x => decide (x ∈ v.filter fun x => decide (x ∈ w)))
        rw [List.filter_filter]
        congr 1
        refine List.filter_congr fun x _ => ?_
        rw [Bool.eq_iff_iff, Bool.and_eq_true, decide_eq_true_eq, decide_eq_true_eq, decide_eq_true_eq, List.mem_filter, decide_eq_true_eq]
        exact ⟨fun h => ⟨h.2, h.1⟩, fun h => ⟨h.2, h.1⟩⟩
theorem jAt_bad_left {x y z : Option (List Str)} (h : jAt x y = some []) : jAt (jAt x y) z = some [] := by
  rw [h]
  cases z <;> rfl
theorem jAt_bad_right {x y z : Option (List Str)} (h : jAt y z = some []) : jAt x (jAt y z) = some [] := by
  rw [h]
  cases x with
  | none => rfl
  | some u =>
    show some (u.filter fun x => decide (x ∈ [])) = some []
    congr 1
    rw [List.filter_eq_nil_iff]
    intro x _ z
    exact absurd (of_decide_eq_true z) List.not_mem_nil
theorem jAt_bad_comm {x y : Option (List Str)} (h : jAt x y = some []) : jAt y x = some [] := by
  cases x with
  | none =>
    cases y with
    | none => cases h
    | some w => exact h
  | some v =>
    cases y with
    | none => exact h
    | some w =>
      have h' : v.filter (fun x => decide (x ∈ w)) = [] := Option.some.inj h
      show some (w.filter fun x => decide (x ∈ v)) = some []
      congr 1
      rw [List.filter_eq_nil_iff] at h' ⊢
      exact fun x hx z => h' x (of_decide_eq_true z) (decide_eq_true hx)
theorem joined_comm_none {b c : BD} (h : joinedF b c = none) : joinedF c b = none := by
  obtain ⟨n, e⟩ := (joined_none b c).mp h
  exact (joined_none c b).mpr ⟨n, jAt_bad_comm e⟩
/-- both ways of brackets -/
def lftF (a b c : BD) : Option BD := (joinedF a b).bind fun f => joinedF f c
def rgtF (a b c : BD) : Option BD := (joinedF b c).bind fun l => joinedF a l
theorem lft_none (a b c : BD) : lftF a b c = none ↔ ∃ n, jAt (jAt (at? a n) (at? b n)) (at? c n) = some [] := by
  unfold lftF
  cases e : joinedF a b with
  | none =>
    obtain ⟨n, h⟩ := (joined_none a b).mp e
    exact ⟨fun _ => ⟨n, jAt_bad_left h⟩, fun _ => rfl⟩
  | some f =>
    show joinedF f c = none ↔ _
    rw [joined_none]
    obtain ⟨_, hf⟩ := joined_ents e
    constructor <;> rintro ⟨n, h⟩ <;> exact ⟨n, by rw [hf] at * <;> exact h⟩
theorem rgt_none (a b c : BD) : rgtF a b c = none ↔ ∃ n, jAt (at? a n) (jAt (at? b n) (at? c n)) = some [] := by
  unfold rgtF
  cases e : joinedF b c with
  | none =>
    obtain ⟨n, h⟩ := (joined_none b c).mp e
    exact ⟨fun _ => ⟨n, jAt_bad_right h⟩, fun _ => rfl⟩
  | some f =>
    show joinedF a f = none ↔ _
    rw [joined_none]
    obtain ⟨_, hf⟩ := joined_ents e
    constructor <;> rintro ⟨n, h⟩ <;> exact ⟨n, by rw [hf] at * <;> exact h⟩
theorem lft_rgt_none {a b c : BD} : lftF a b c = none ↔ rgtF a b c = none := by
  rw [lft_none, rgt_none]
  constructor <;> rintro ⟨n, h⟩ <;> exact ⟨n, by first | rw [← jAt_assoc]; exact h | rw [jAt_assoc]; exact h⟩
theorem lft_at {a b c x : BD} (h : lftF a b c = some x) (n : Str) : at? x n = jAt (jAt (at? a n) (at? b n)) (at? c n) := by
  unfold lftF at h
  cases e : joinedF a b with
  | none => rw [e] at h; cases h
  | some f =>
    rw [e] at h
    have h' : joinedF f c = some x := h
    rw [(joined_ents h').2, (joined_ents e).2]
theorem rgt_at {a b c x : BD} (h : rgtF a b c = some x) (n : Str) : at? x n = jAt (at? a n) (jAt (at? b n) (at? c n)) := by
  unfold rgtF at h
  cases e : joinedF b c with
  | none => rw [e] at h; cases h
  | some f =>
    rw [e] at h
    have h' : joinedF a f = some x := h
    rw [(joined_ents h').2, (joined_ents e).2]
/-! ### one after the other, from none on -/
theorem ents_nil {a : BD} (hn : (a.map (·.1)).Nodup) : entsF [] a = a := by
  have e1 : namesF [] a = a.map (·.1) := by
    unfold namesF
    rw [List.map_nil, List.nil_append, List.filter_eq_self.mpr]
    intro n _
    rfl
  unfold entsF
  rw [e1, List.map_map]
  refine (List.map_congr_left fun e he => ?_).trans (List.map_id a)
  show (e.1, leftF [] a e.1) = e
  unfold leftF
  rw [at?_memN hn he]
  rfl
theorem joined_nil {a : BD} (h : BdB a) : joinedF [] a = some a := by
  rw [joinedF_some, ents_nil h.1]
  rw [ents_nil h.1]
  intro e he
  have := (h.2.2 e he).2.1
  cases hv : e.2 with
  | nil => rw [hv] at this; exact absurd this (by decide)
  | cons x r => rfl
theorem all_three {a b c : BD} (h : BdB a) : allF [a, b, c] = lftF a b c := by
  show stepF (stepF (stepF (some []) a) b) c = _
  have e : stepF (some []) a = some a := joined_nil h
  rw [e]
  rfl
/-! ### what is let, what lies in -/
theorem lets_iff {b : BD} (hn : (b.map (·.1)).Nodup) (ms : MD) : letsF b ms = true ↔ ∀ n v, at? b n = some v → ∃ x, mAt ms n = some x ∧ x ∈ v := by
  unfold letsF
  rw [List.all_eq_true]
  constructor
  · intro h n v e
    have := h _ (at?_mem e)
    have this' : (match mAt ms n with | none => false | some x => decide (x ∈ v)) = true := this
    cases em : mAt ms n with
    | none => rw [em] at this'; cases this'
    | some x =>
      rw [em] at this'
      exact ⟨x, rfl, of_decide_eq_true this'⟩
  · intro h e he
    obtain ⟨x, h1, h2⟩ := h e.1 e.2 (at?_memN hn he)
    show (match mAt ms e.1 with | none => false | some x => decide (x ∈ e.2)) = true
    rw [h1]
    exact decide_eq_true h2
theorem lies_iff {b d : BD} (hn : (d.map (·.1)).Nodup) : liesF b d = true ↔ ∀ n w, at? d n = some w → ∃ v, at? b n = some v ∧ ∀ x ∈ v, x ∈ w := by
  unfold liesF
  rw [List.all_eq_true]
  constructor
  · intro h n w e
    have this : (match at? b n with | none => false | some v => inF v w) = true := h _ (at?_mem e)
    cases em : at? b n with
    | none => rw [em] at this; cases this
    | some v =>
      rw [em] at this
      refine ⟨v, rfl, fun x hx => of_decide_eq_true (List.all_eq_true.mp (show inF v w = true from this) x hx)⟩
  · intro h e he
    obtain ⟨v, h1, h2⟩ := h e.1 e.2 (at?_memN hn he)
    show (match at? b e.1 with | none => false | some v => inF v e.2) = true
    rw [h1]
    exact List.all_eq_true.mpr fun x hx => decide_eq_true (h2 x hx)
theorem ents_nodup {b c : BD} (hb : (b.map (·.1)).Nodup) (hc : (c.map (·.1)).Nodup) : ((entsF b c).map (·.1)).Nodup := by
  rw [entsF_names]
  exact namesF_nodup hb hc
theorem lets_both {b c : BD} (hb : (b.map (·.1)).Nodup) (hc : (c.map (·.1)).Nodup) (ms : MD) : letsF (entsF b c) ms = (letsF b ms && letsF c ms) := by
  rw [Bool.eq_iff_iff, Bool.and_eq_true, lets_iff (ents_nodup hb hc), lets_iff hb, lets_iff hc]
  constructor
  · intro h
    refine ⟨fun n v e => ?_, fun n w e => ?_⟩
    · cases ec : at? c n with
      | none => exact h n v (by rw [at?_ents, e, ec]; rfl)
      | some w =>
        obtain ⟨x, h1, h2⟩ := h n (v.filter fun x => decide (x ∈ w)) (by rw [at?_ents, e, ec]; rfl)
        exact ⟨x, h1, (List.mem_filter.mp h2).1⟩
    · cases eb : at? b n with
      | none => exact h n w (by rw [at?_ents, e, eb]; rfl)
      | some v =>
        obtain ⟨x, h1, h2⟩ := h n (v.filter fun x => decide (x ∈ w)) (by rw [at?_ents, e, eb]; rfl)
        exact ⟨x, h1, of_decide_eq_true (List.mem_filter.mp h2).2⟩
  · rintro ⟨h1, h2⟩ n v e
    rw [at?_ents] at e
    cases eb : at? b n with
    | none =>
      cases ec : at? c n with
      | none => rw [eb, ec] at e; cases e
      | some w =>
        rw [eb, ec] at e
        cases e
        exact h2 n _ ec
    | some u =>
      cases ec : at? c n with
      | none =>
        rw [eb, ec] at e
        cases e
        exact h1 n _ eb
      | some w =>
        rw [eb, ec] at e
        cases e
        obtain ⟨x, a1, a2⟩ := h1 n u eb
        obtain ⟨y, b1, b2⟩ := h2 n w ec
        rw [a1] at b1
        cases b1
        exact ⟨x, a1, List.mem_filter.mpr ⟨a2, decide_eq_true b2⟩⟩
theorem lets_none {b c : BD} (hB : BdB b) (hC : BdB c) (h : joinedF b c = none) (ms : MD) : (letsF b ms && letsF c ms) = false := by
  cases z : (letsF b ms && letsF c ms) with
  | false => rfl
  | true =>
    rw [← lets_both hB.1 hC.1] at z
    obtain ⟨n, e⟩ := (joined_none b c).mp h
    obtain ⟨x, _, hx⟩ := (lets_iff (ents_nodup hB.1 hC.1) ms).mp z n [] (by rw [at?_ents, e])
    exact absurd hx List.not_mem_nil
theorem lies_left {b c : BD} (hb : (b.map (·.1)).Nodup) : liesF (entsF b c) b = true := by
  rw [lies_iff hb]
  intro n v e
  cases ec : at? c n with
  | none => exact ⟨v, by rw [at?_ents, e, ec]; rfl, fun x hx => hx⟩
  | some w => exact ⟨_, by rw [at?_ents, e, ec]; rfl, fun x hx => (List.mem_filter.mp hx).1⟩
theorem lies_right {b c : BD} (hc : (c.map (·.1)).Nodup) : liesF (entsF b c) c = true := by
  rw [lies_iff hc]
  intro n w e
  cases eb : at? b n with
  | none => exact ⟨w, by rw [at?_ents, e, eb]; rfl, fun x hx => hx⟩
  | some v => exact ⟨_, by rw [at?_ents, e, eb]; rfl, fun x hx => of_decide_eq_true (List.mem_filter.mp hx).2⟩
theorem lies_within {t b c : BD} (hT : BdB t) (hB : BdB b) (hC : BdB c) (h1 : liesF t b = true) (h2 : liesF t c = true) : joinedF b c = some (entsF b c) ∧ liesF t (entsF b c) = true := by
  have k1 := (lies_iff hB.1).mp h1
  have k2 := (lies_iff hC.1).mp h2
  constructor
  · cases e : joinedF b c with
    | some x => rw [(joined_ents e).1]
    | none =>
      obtain ⟨n, z⟩ := (joined_none b c).mp e
      have bad : ∀ {v : List Str}, at? t n = some v → (∀ x ∈ v, x ∈ ([] : List Str)) → False := fun {v} ev hv => by
        have := (hT.2.2 _ (at?_mem ev)).2.1
        cases v with
        | nil => exact absurd this (by show ¬ 1 ≤ 0; decide)
        | cons x r => exact absurd (hv x (List.mem_cons_self ..)) List.not_mem_nil
      cases eb : at? b n with
      | none =>
        cases ec : at? c n with
        | none => rw [eb, ec] at z; cases z
        | some w =>
          rw [eb, ec] at z
          cases z
          obtain ⟨v, ev, hv⟩ := k2 n _ ec
          exact (bad ev hv).elim
      | some u =>
        obtain ⟨v, ev, hv⟩ := k1 n _ eb
        cases ec : at? c n with
        | none =>
          rw [eb, ec] at z
          cases z
          exact (bad ev hv).elim
        | some w =>
          obtain ⟨v', ev', hv'⟩ := k2 n _ ec
          rw [ev] at ev'
          cases ev'
          rw [eb, ec] at z
          have z' : u.filter (fun x => decide (x ∈ w)) = [] := Option.some.inj z
          exact (bad ev fun x hx => by rw [← z']; exact List.mem_filter.mpr ⟨hv x hx, decide_eq_true (hv' x hx)⟩).elim
  · rw [lies_iff (ents_nodup hB.1 hC.1)]
    intro n s e
    rw [at?_ents] at e
    cases eb : at? b n with
    | none =>
      cases ec : at? c n with
      | none => rw [eb, ec] at e; cases e
      | some w =>
        rw [eb, ec] at e
        cases e
        exact k2 n _ ec
    | some u =>
      obtain ⟨v, ev, hv⟩ := k1 n _ eb
      cases ec : at? c n with
      | none =>
        rw [eb, ec] at e
        cases e
        exact ⟨v, ev, hv⟩
      | some w =>
        obtain ⟨v', ev', hv'⟩ := k2 n _ ec
        rw [ev] at ev'
        cases ev'
        rw [eb, ec] at e
        cases e
        exact ⟨v, ev, fun x hx => List.mem_filter.mpr ⟨hv x hx, decide_eq_true (hv' x hx)⟩⟩
/-! ### as sets -/
def Nd (b : BD) : Prop := ∀ e ∈ b, e.2.Nodup
def EqS (b c : BD) : Prop := ∀ n, (at? b n = none ∧ at? c n = none) ∨ ∃ v w, at? b n = some v ∧ at? c n = some w ∧ v.Perm w
theorem eqS_of {b c : BD} (h : ∀ n, at? b n = at? c n) : EqS b c := fun n => by
  cases e : at? b n with
  | none => exact .inl ⟨rfl, (h n).symm.trans e⟩
  | some v => exact .inr ⟨v, v, rfl, (h n).symm.trans e, List.Perm.refl _⟩
theorem eqS_comm {b c : BD} (hb : Nd b) (hc : Nd c) : EqS (entsF b c) (entsF c b) := fun n => by
  rw [at?_ents, at?_ents]
  cases eb : at? b n with
  | none =>
    cases ec : at? c n with
    | none => exact .inl ⟨rfl, rfl⟩
    | some w => exact .inr ⟨w, w, rfl, rfl, List.Perm.refl _⟩
  | some v =>
    cases ec : at? c n with
    | none => exact .inr ⟨v, v, rfl, rfl, List.Perm.refl _⟩
    | some w =>
      refine .inr ⟨_, _, rfl, rfl, ?_⟩
      have n1 : v.Nodup := hb _ (at?_mem eb)
      have n2 : w.Nodup := hc _ (at?_mem ec)
      refine (List.perm_ext_iff_of_nodup (n1.filter _) (n2.filter _)).mpr fun x => ?_
      rw [List.mem_filter, List.mem_filter, decide_eq_true_eq, decide_eq_true_eq]
      exact And.comm
theorem eqS_assoc {a b c x y : BD} (h : lftF a b c = some x) (k : rgtF a b c = some y) : EqS x y := eqS_of fun n => by rw [lft_at h, rgt_at k, jAt_assoc]
/-- the bundle with its values sorted -/
def SrtOf (b c : BD) : Prop := Paired (fun (e f : Str × List Str) => f.1 = e.1 ∧ f.2.Perm e.2 ∧ sortedS f.2 = true) b c
theorem rising_pair : ∀ (l : List Str) (p : Str), risingS p l = true → (∀ x ∈ l, ¬ x.cps.toList < p.cps.toList) ∧ l.Pairwise fun a b => ¬ b.cps.toList < a.cps.toList
  | [], p, _ => ⟨fun x hx => absurd hx List.not_mem_nil, List.Pairwise.nil⟩
  | x :: r, p, h => by
    have h' : (!ltCps x.cps.toList p.cps.toList && risingS x r) = true := h
    obtain ⟨h1, h2⟩ := Bool.and_eq_true_iff.mp h'
    rw [ltCps_eq] at h1
    have h3 : ¬ x.cps.toList < p.cps.toList := fun z => by
      rw [decide_eq_true z] at h1
      cases h1
    obtain ⟨k1, k2⟩ := rising_pair r x h2
    refine ⟨fun y hy => ?_, List.pairwise_cons.mpr ⟨k1, k2⟩⟩
    rcases List.mem_cons.mp hy with rfl | z
    · exact h3
    · exact fun q => h3 (List.lt_of_le_of_lt (List.not_lt.mp (k1 y z)) q)
theorem sorted_pair {l : List Str} (h : sortedS l = true) : l.Pairwise fun a b => ¬ b.cps.toList < a.cps.toList := by
  cases l with
  | nil => exact List.Pairwise.nil
  | cons x r =>
    obtain ⟨k1, k2⟩ := rising_pair r x h
    exact List.pairwise_cons.mpr ⟨k1, k2⟩
theorem sorted_eq {l m : List Str} (h : sortedS l = true) (k : sortedS m = true) (p : l.Perm m) : l = m :=
  p.eq_of_pairwise (fun a b _ _ h1 h2 => TL.ext_tl (List.le_antisymm (List.not_lt.mp h1) (List.not_lt.mp h2))) (sorted_pair h) (sorted_pair k)
theorem srt_at {b c : BD} (h : SrtOf b c) (n : Str) : (at? b n = none ∧ at? c n = none) ∨ ∃ v w, at? b n = some v ∧ at? c n = some w ∧ w.Perm v ∧ sortedS w = true := by
  induction h with
  | nil => exact .inl ⟨rfl, rfl⟩
  | @cons e f _ _ r _ ih =>
    obtain ⟨r1, r2, r3⟩ := r
    rw [at?_cons, at?_cons, r1]
    by_cases q : e.1 = n
    · rw [if_pos q, if_pos q]
      exact .inr ⟨_, _, rfl, rfl, r2, r3⟩
    · rw [if_neg q, if_neg q]
      exact ih
theorem srt_names {b c : BD} (h : SrtOf b c) : c.map (·.1) = b.map (·.1) := by
  induction h with
  | nil => rfl
  | cons r _ ih => rw [List.map_cons, List.map_cons, ih, r.1]
theorem srt_eq {b b' c c' : BD} (h : SrtOf b c) (h' : SrtOf b' c') (e : EqS b b') (n : Str) : at? c n = at? c' n := by
  rcases e n with ⟨e1, e2⟩ | ⟨v, w, e1, e2, p⟩
  · rcases srt_at h n with ⟨_, z⟩ | ⟨_, _, z, _⟩
    · rcases srt_at h' n with ⟨_, z'⟩ | ⟨_, _, z', _⟩
      · rw [z, z']
      · rw [e2] at z'; cases z'
    · rw [e1] at z; cases z
  · rcases srt_at h n with ⟨z, _⟩ | ⟨v1, w1, z1, z2, z3, z4⟩
    · rw [e1] at z; cases z
    · rcases srt_at h' n with ⟨z', _⟩ | ⟨v2, w2, y1, y2, y3, y4⟩
      · rw [e2] at z'; cases z'
      · rw [e1] at z1
        rw [e2] at y1
        cases z1
        cases y1
        rw [z2, y2, sorted_eq z4 y4 ((z3.trans p).trans y3.symm)]
theorem same_len {b c : BD} (hb : (b.map (·.1)).Nodup) (hc : (c.map (·.1)).Nodup) (h : ∀ n, at? b n = at? c n) : b.length = c.length := by
  have p : (b.map (·.1)).Perm (c.map (·.1)) := (List.perm_ext_iff_of_nodup hb hc).mpr fun n => by
    have z1 := at?_none_iff b n
    have z2 := at?_none_iff c n
    rw [h n] at z1
    constructor
    · intro m
      by_cases q : n ∈ c.map (·.1)
      · exact q
      · exact absurd m (z1.mp (z2.mpr q))
    · intro m
      by_cases q : n ∈ b.map (·.1)
      · exact q
      · exact absurd m (z2.mp (z1.mpr q))
  have := p.length_eq
  rw [List.length_map, List.length_map] at this
  exact this
theorem srt_bdb {b c : BD} (h : SrtOf b c) (hB : BdB b) : BdB c := by
  refine ⟨by rw [srt_names h]; exact hB.1, by rw [← Paired.length h]; exact hB.2.1, fun f hf => ?_⟩
  obtain ⟨e, he, r1, r2, _⟩ := paired_mem h hf
  obtain ⟨o1, o2, o3, o4⟩ := hB.2.2 e he
  have hl := r2.length_eq
  exact ⟨by rw [r1]; exact o1, by omega, by omega, fun x hx => o4 x (r2.mem_iff.mp hx)⟩
/-! ### choices of what is joined -/
theorem okB_both (b c : BD) (n v : Str) : okB (entsF b c) n v = (okB b n v && okB c n v) := by
  unfold okB
  rw [at?_ents]
  cases eb : at? b n with
  | none =>
    cases ec : at? c n with
    | none => rfl
    | some w => show decide (v ∈ w) = (true && decide (v ∈ w)); rw [Bool.true_and]
  | some u =>
    cases ec : at? c n with
    | none => show decide (v ∈ u) = (decide (v ∈ u) && true); rw [Bool.and_true]
    | some w =>
      show decide (v ∈ u.filter fun x => decide (x ∈ w)) = (decide (v ∈ u) && decide (v ∈ w))
      rw [Bool.eq_iff_iff, Bool.and_eq_true, decide_eq_true_eq, decide_eq_true_eq, decide_eq_true_eq, List.mem_filter, decide_eq_true_eq]
theorem okRow_both (b c : BD) (ns : List Str) (r : Row) : okRow (entsF b c) ns r = (okRow b ns r && okRow c ns r) := by
  unfold okRow
  generalize ns.zip r = l
  induction l with
  | nil => rfl
  | cons e l ih =>
    rw [List.all_cons, List.all_cons, List.all_cons, ih, okB_both]
    cases okB b e.1 e.2 <;> cases okB c e.1 e.2 <;> simp
theorem choices_all (kb : BD) (ns : List Str) {b : BD} (h : inF (b.map (·.1)) ns = true) : choicesF kb ns b = (prodR (knF kb) ns.reverse).filter (okRow b ns) := by
  unfold choicesF
  rw [if_pos h, prodR_filter, List.reverse_reverse]
theorem in_both {ns : List Str} {b c : BD} (hb : inF (b.map (·.1)) ns = true) (hc : inF (c.map (·.1)) ns = true) : inF ((entsF b c).map (·.1)) ns = true := by
  rw [entsF_names]
  unfold inF at hb hc ⊢
  rw [List.all_eq_true] at hb hc ⊢
  intro n hn
  unfold namesF at hn
  rcases List.mem_append.mp hn with z | z
  · exact hb n z
  · exact hc n (List.mem_filter.mp z).1
theorem choices_both {kb : BD} {ns : List Str} {b c : BD} (hb : inF (b.map (·.1)) ns = true) (hc : inF (c.map (·.1)) ns = true) : choicesF kb ns (entsF b c) = (choicesF kb ns b).filter fun r => decide (r ∈ choicesF kb ns c) := by
  rw [choices_all kb ns hb, choices_all kb ns (in_both hb hc), List.filter_filter]
  refine List.filter_congr fun r hr => ?_
  rw [okRow_both, choices_all kb ns hc]
  have e : decide (r ∈ (prodR (knF kb) ns.reverse).filter (okRow c ns)) = okRow c ns r := by
    rw [Bool.eq_iff_iff, decide_eq_true_eq, List.mem_filter]
    exact ⟨fun z => z.2, fun z => ⟨hr, z⟩⟩
  rw [e, Bool.and_comm]
end Bn

namespace Bn
open PySem PySem.Spec PyProof.Rows L2 BR GX RM
theorem SrtOf.app {b c : BD} {e f : Str × List Str} (h : SrtOf b c) (k : f.1 = e.1 ∧ f.2.Perm e.2 ∧ sortedS f.2 = true) : SrtOf (b ++ [e]) (c ++ [f]) := paired_snoc h k
theorem ft_uniq {ds : List FtD} (h : (ds.map (·.n)).Nodup) {f d : FtD} (hf : f ∈ ds) (hd : d ∈ ds) (e : f.n = d.n) : f = d := by
  induction ds with
  | nil => exact absurd hf List.not_mem_nil
  | cons x ds ih =>
    obtain ⟨h1, h2⟩ := List.nodup_cons.mp h
    rcases List.mem_cons.mp hf with rfl | zf
    · rcases List.mem_cons.mp hd with rfl | zd
      · rfl
      · exact absurd (List.mem_map.mpr ⟨d, zd, e.symm⟩) h1
    · rcases List.mem_cons.mp hd with rfl | zd
      · exact absurd (List.mem_map.mpr ⟨f, zf, e⟩) h1
      · exact ih h2 zf zd
section
variable {P : Program} {w : World} {K : PySem.W.Frag} {mg : Str → Option Value} {base : Heap}
/-! ### as sets -/
def spSets : Sp := fun vs H Q _ => ∃ x : V, vs = [x] ∧ ((x = .non ∧ ∀ H', Same H H' → Q .non H') ∨ ∃ a b, x = .ref a ∧ Bd H a b ∧ ∀ (p : Addr) (c : BD) H', H p = none → Same H H' → Bd H' p c → SrtOf b c → Q (.ref p) H')
theorem ok_sets {f : Addr} {fd : FuncData} {k : Nat} (F : Fun K "_law_as_sets" "_law_as_sets" s_l_as_sets f fd) (md : mg "dict" = none) (mso : mg "sorted" = none) : FnOk P w K mg base CX0 (k + 1) f fd ["_law_bundle_here"] spSets := by
  refine F.ok sc_l_as_sets (fun vs H Q E h => ?_) (fun cdv A outer s H vs Q E hr h => ?_)
  · obtain ⟨x, rfl, _⟩ := h
    rfl
  · obtain ⟨x, rfl, h⟩ := h
    rcases h with ⟨rfl, q⟩ | ⟨a, bd, rfl, ⟨kvs, ha, hE, hN, hL, hB⟩, q⟩
    · refine ⟨_, pss_cons (ps_if (pt_cmpR op_isN (pv 0) pe_non (nomark _)) (pss_one (ps_ret pe_non)) pss_nil) pss_never, ?_⟩
      exact ⟨_, rfl, rfl, true, rfl, iteT (q _ (Same.refl _))⟩
    · refine ⟨_, pss_cons (ps_if (pt_cmpR op_isN (pv 0) pe_non (nomark _)) (pss_one (ps_ret pe_non)) pss_nil)
        (pss_one (ps_ret (pe_callTy (call_dictP rfl) (by rfl) md (by decide +kernel) (pa_cons (pe_lock (pe_lc (own := [("_law_name", 1)]) (g := gName 1) (tt := tYes) rfl sc_l_as_sets.nd (pi_keys (pv 0))
        (blkOk_by (own := [("_law_name", 1)]) (N := ["_law_bundle_here", "_law_name"]) (sc := defScope s_l_as_sets) (by decide +kernel))
        (fun _ _ _ _ _ => pg_name (i := 1) sc_l_as_sets.nd rfl (Or.inl rfl)) (fun _ _ _ _ _ => pts_nil)
        (fun _ _ _ _ _ => pe_tup (pa_cons (pv 1) (pa_cons (pe_callB (id := "sorted") (cr_sortedK (K := K) rfl) (by rfl) mso (by decide +kernel) (pa_cons (pe_dget (hu_of hr) (pv 0) (pv 1) (fun _ _ => rfl)) pa_nil)) pa_nil))))) pa_nil)))), ?_⟩
      have hkn : (kvs.map (·.1)).Nodup := by
        rw [hE.keys]
        exact keys_nodup hN
      have hkl := hE.length
      refine ⟨_, rfl, rfl, false, rfl, iteF ⟨a, _, ha, trivial, fun od => ⟨_, rfl, a, od, rfl, .inl ⟨kvs, upd_same, fun D nD => ?_⟩⟩⟩⟩
      have nDa : D ≠ a := fun e => by
        rw [e, upd_same] at nD
        cases nD
      have hEL : Ents (upd H a (.frz od (.dK kvs))) kvs bd := hE.mono fun l xs e _ => by
        rw [upd_ne (ne_of e ha (by intro z; cases z))]
        exact e
      have haL : (upd H a (.frz od (.dK kvs))) a = some (.frz od (.dK kvs)) := upd_same
      refine lc_it (walk_keys (d := a) (o := od) (kvs := kvs)) (fun i HX => Same (upd H a (.frz od (.dK kvs))) HX ∧ ∃ (ps : List Addr) (kvs' : List (Key × V)) (c : BD), HX D = some (.lst (ps.map V.ref)) ∧ Paired (fun p kv => HX p = some (.tup [kV kv.1, kv.2])) ps kvs' ∧ Ents HX kvs' c ∧ SrtOf (bd.take i) c ∧ ps.length = i ∧ ∀ n l, (n, V.ref l) ∈ kvs' → l ≠ D)
        ⟨same_new nD, [], [], [], upd_same, .nil, .nil, .nil, rfl, fun n l hm => absurd hm List.not_mem_nil⟩ (fun i HX _ h => h.1 _ _ haL) (fun i x HX HX' hi hP hY => ?_) (fun HX hP => ?_)
      · obtain ⟨rfl, k, v, hkv, rfl⟩ := hY
        obtain ⟨sL, ps, kvs', c, hD, hp, hE', hS, hpl, hnD⟩ := hP
        obtain ⟨n, l, vs, rfl, rfl, hl, hbi⟩ := hEL.get hkv
        have hv1 := (hB _ (List.mem_of_getElem? hbi)).2.2.1
        refine ⟨rfl, tYes_in ?_⟩
        refine ⟨_, rfl, _, rfl, _, rfl, a, _, rfl, .inl ⟨kvs, .inr n, .inr ⟨od, sL _ _ haL⟩, rfl, (valV_get hkn hkv).symm⟩, l, vs, rfl, .inl (.inl (sL _ _ hl)), Nat.lt_of_le_of_lt hv1 (by decide), fun vs' l' pm st nl' => ⟨(show 2 ≤ sizeLine by decide), fun pt npt => ?_⟩⟩
        have s1 : Same HX' (upd HX' l' (.lst (vs'.map V.str))) := same_new nl'
        have s2 := s1.trans (same_new (o := .tup [.str n, .ref l']) npt)
        have hD2 := s2 _ _ hD
        have hl2 : (upd (upd HX' l' (.lst (vs'.map V.str))) pt (.tup [.str n, .ref l'])) l' = some (.lst (vs'.map V.str)) := same_new npt _ _ upd_same
        have hlD : l' ≠ D := (ne_of_none hD nl').symm
        have hnD2 : ∀ m l0, (m, V.ref l0) ∈ kvs' ++ [(Sum.inr n, V.ref l')] → l0 ≠ D := fun m l0 hm => by
          rcases List.mem_append.mp hm with z | z
          · exact hnD m l0 z
          · have z' := List.mem_singleton.mp z
            cases z'
            exact hlD
        refine ⟨ps.map V.ref, hD2, by rw [List.length_map]; exact small1000 (by omega), Same.own (sL.trans s2) nD, ps ++ [pt], kvs' ++ [(.inr n, .ref l')], c ++ [(n, vs')], ?_, ?_, ?_, ?_, by rw [List.length_append, hpl]; rfl, hnD2⟩
        · rw [upd_same, List.map_append]
          rfl
        · refine paired_mono (paired_snoc (R := fun p (kv : Key × V) => (upd (upd HX' l' (.lst (vs'.map V.str))) pt (.tup [.str n, .ref l'])) p = some (.tup [kV kv.1, kv.2])) (paired_mono hp fun p kv e => s2 _ _ e) (b := (.inr n, .ref l')) upd_same) fun p kv e => ?_
          rw [upd_ne (ne_of e hD2 (by intro z; cases z))]
          exact e
        · refine ((hE'.same s2).app (.cons hl2 .nil)).mono fun l0 xs e ⟨nm, hm⟩ => ?_
          rw [upd_ne (hnD2 nm l0 hm)]
          exact e
        · rw [take_get hbi]
          exact hS.app ⟨rfl, pm, st⟩
      · obtain ⟨sL, ps, kvs', c, hD, hp, hE', hS, hpl, hnD⟩ := hP
        rw [hkl, List.take_length] at hS
        have haX := sL _ _ haL
        have sU : Same H (upd HX a (.dK kvs)) := Same.unlock ha sL
        have hEU : Ents (upd HX a (.dK kvs)) kvs' c := hE'.mono fun l xs e _ => by
          rw [upd_ne (ne_of e haX (by intro z; cases z))]
          exact e
        refine ⟨haX, D, ps, kvs', rfl, .inl (.inl (by rw [upd_ne nDa]; exact hD)), paired_mono hp fun p kv e => .inl (.inl (by rw [upd_ne (ne_of e haX (by intro z; cases z))]; exact e)), fun p np => ?_⟩
        have hBc := srt_bdb hS ⟨hN, hL, hB⟩
        have hkn' : (kvs'.map (·.1)).Nodup := by
          rw [hE'.keys]
          exact keys_nodup hBc.1
        have em : mergeK [] kvs' = kvs' := merge_new kvs' [] hkn'
        rw [em]
        exact q p c _ (sU.free np) (sU.trans (same_new np)) ⟨kvs', upd_same, hEU.same (same_new np), hBc⟩ hS
end
end Bn

namespace Bn
open PySem PySem.Spec PyProof.Rows L2 BR GX RM
theorem Mk.same {H H' : Hp} {m : Addr} {ms : MD} (h : Mk H m ms) (s : Same H H') : Mk H' m ms := s _ _ h
section
variable {P : Program} {w : World} {K : PySem.W.Frag} {mg : Str → Option Value} {base : Heap}
/-! ### with -/
abbrev NW : List Str := ["_law_features", "_law_bundle_here", "_law_marks", "_law_made", "_law_name", "_law_values", "_law_told", "_law_value"]
def spWith : Sp := fun vs H Q _ => ∃ (fl a m : Addr) (ys : List V) (ds : List FtD) (b : BD) (ms : MD), vs = [.ref fl, .ref a, .ref m] ∧ H fl = some (.lst ys) ∧ Fts H ys ds ∧ FtsN ds ∧ Bd H a b ∧ (∀ e ∈ b, OfF ds e) ∧ Mk H m ms ∧ (∀ d ∈ ds, ∃ x, mAt ms d.n = some x) ∧
  ∀ (p : Addr) (c : BD) H', H p = none → Same H H' → Bd H' p c → c.length ≤ 6 → (∀ e ∈ c, OfF ds e) → Q (.ref p) H'
theorem ok_with {f : Addr} {fd : FuncData} {k : Nat} (F : Fun K "_law_with" "_law_with" s_l_with f fd) : FnOk P w K mg base CX0 (k + 1) f fd ["_law_features", "_law_bundle_here", "_law_marks"] spWith := by
  refine F.ok sc_l_with (fun vs H Q E h => ?_) (fun cdv A outer s H vs Q E hr h => ?_)
  · obtain ⟨fl, a, m, ys, ds, b, ms, rfl, _⟩ := h
    rfl
  · obtain ⟨fl, a, m, ys, ds, b, ms, rfl, hfl, hF, hN, ⟨kb, ha, hEb, hNb, hLb, hBb⟩, hO, hm, hmm, q⟩ := h
    refine ⟨_, pss_cons (ps_set (i := 3) sc_l_with.nd rfl (.inl rfl) pe_dnewK)
      (pss_cons (ps_for PassesOwn.never rfl (pi_list (pv 0)) (pg_tup rfl (pgs_cons (pg_name (i := 4) sc_l_with.nd rfl (.inr rfl)) (pgs_cons (pg_name (i := 5) sc_l_with.nd rfl (.inl rfl)) (pgs_cons (pg_name (i := 6) sc_l_with.nd rfl (.inl rfl)) pgs_nil))))
        (pss_one (ps_if (pt_cmp (pc_din (hu_of hr) (pv 4) (pv 1)))
          (pss_one (ps_dput (hu_of hr) (pv 3) (pv 4) (pe_lc (own := [("_law_value", 7)]) (g := gName 7) rfl sc_l_with.nd (pi_list (pv 5))
              (blkOk_by (own := [("_law_value", 7)]) (N := NW) (sc := defScope s_l_with) (by decide +kernel))
              (fun _ _ _ _ _ => pg_name (i := 7) sc_l_with.nd rfl (Or.inl rfl)) (fun _ _ _ _ _ => pts_one (pt_cmpR (op_inK (K := K) rfl) (pv 7) (pe_op op_cat (pe_dget (hu_of hr) (pv 1) (pv 4) (fun _ _ => rfl)) (pe_lst (pa_cons (pe_dget (hu_of hr) (pv 2) (pv 4) (fun _ _ => rfl)) pa_nil))) (by rfl))) (fun _ _ _ _ _ => pv 7)) rfl)) pss_nil)))
      (pss_one (ps_ret (pv 3)))), ?_⟩
    have hlen : ys.length = ds.length := Paired.length hF
    have hl3 := hN.2.1
    intro d nd
    have s1 : Same H (upd H d (.dK [])) := same_new nd
    have hd1 : (upd H d (.dK [])) d = some (.dK []) := upd_same
    generalize upd H d (.dK []) = H1 at s1 hd1 ⊢
    refine ⟨_, rfl, fl, rfl, ⟨_, .inl (.inl (s1 _ _ hfl))⟩, for_list (K := K) (a := fl) (xs := ys) (fun i σ HX => (∃ y4 y5 y6 y7, σ = [some (.ref fl), some (.ref a), some (.ref m), some (.ref d), y4, y5, y6, y7]) ∧ Same H HX ∧ ∃ kvs c, HX d = some (.dK kvs) ∧ Ents HX kvs c ∧ (c.map (·.1)).Nodup ∧ c.length ≤ i ∧ (∀ e ∈ c, okS e.1 ∧ 1 ≤ e.2.length ∧ e.2.length ≤ 20 ∧ ∀ x ∈ e.2, okS x) ∧ ∀ e ∈ c, OfF ds e)
      ⟨⟨_, _, _, _, rfl⟩, s1, [], [], hd1, .nil, List.nodup_nil, Nat.le_refl _, (fun e he => nomatch he), fun e he => nomatch he⟩ (fun i σ HX _ h => .inl (.inl (h.2.1 _ _ hfl))) (fun i x σ HX hx hP => ?_) (fun σ HX hP => ?_)⟩
    · obtain ⟨⟨y4, y5, y6, y7, rfl⟩, sX, kvs, c, hd', hE, hNc, hcl, hBc, hOc⟩ := hP
      have hil : i < ys.length := (List.getElem?_eq_some_iff.mp hx).1
      obtain ⟨dd, hdi, pt, lv, rfl, f1, f2, hB⟩ := paired_at hF hx
      have hdd := List.mem_of_getElem? hdi
      have hdn := (hN.2.2.2 dd hdd).2.1
      have hv6 := hB.2.1
      refine ⟨pt, _, rfl, .inl (.inl (sX _ _ f1)), rfl, _, _, rfl, _, _, rfl, _, _, rfl, rfl, ?_⟩
      refine ⟨_, rfl, _, rfl, a, _, rfl, .inl ⟨kb, .inr dd.n, .inl (sX _ _ ha), rfl, rfl⟩, _, rfl, ?_⟩
      rcases hEb.val dd.n with ⟨a1, a2⟩ | ⟨la, va, a1, a2, a3, _⟩
      · rw [a2]
        exact iteF ⟨⟨_, _, _, _, rfl⟩, sX, kvs, c, hd', hE, hNc, by omega, hBc, hOc⟩
      · rw [a2]
        obtain ⟨mv, hmv⟩ := hmm dd hdd
        have hval : valV (mkv ms) (.inr dd.n) = some (V.str mv) := by
          rw [mkv_val, hmv]
          rfl
        have va20 : va.length ≤ 20 := (hBb _ (at?_mem a1)).2.2.1
        refine iteT ⟨_, rfl, lv, rfl, ⟨_, .inl (.inl (sX _ _ f2))⟩, fun D nD => ?_⟩
        refine lc_list (K := K) (a := lv) (xs := dd.vs.map V.str) (fun j HZ => Same HX HZ ∧ HZ D = some (.lst (((dd.vs.take j).filter fun x => decide (x ∈ va ++ [mv])).map V.str))) ⟨same_new nD, upd_same⟩ (fun j HZ _ h => .inl (.inl (h.1 _ _ (sX _ _ f2)))) (fun j x HZ hxj hP => ?_) (fun HZ hP => ?_)
        · obtain ⟨sZ, hD⟩ := hP
          rw [List.getElem?_map] at hxj
          obtain ⟨v, ev, ex⟩ := Option.map_eq_some_iff.mp hxj
          subst ex
          have sHZ := sX.trans sZ
          refine ⟨rfl, _, rfl, _, rfl, _, rfl, a, V.ref la, rfl, .inl ⟨kb, .inr dd.n, .inl (sHZ _ _ ha), rfl, a2.symm⟩, _, rfl, _, rfl, m, V.str mv, rfl, .inl ⟨mkv ms, .inr dd.n, .inl (sHZ _ _ hm), rfl, hval.symm⟩, (show 1 ≤ sizeLine by decide), fun l1 n1 => ?_⟩
          have t1 : Same HZ (upd HZ l1 (.lst [.str mv])) := same_new n1
          have hl1 : (upd HZ l1 (.lst [.str mv])) l1 = some (.lst [.str mv]) := upd_same
          generalize upd HZ l1 (.lst [.str mv]) = HA at t1 hl1 ⊢
          refine ⟨la, l1, _, _, rfl, rfl, t1 _ _ (sHZ _ _ a3), hl1, by rw [List.length_map]; exact line1000 (by show va.length + 1 ≤ 1000; omega), fun l2 n2 => ?_⟩
          have t2 : Same HA (upd HA l2 (.lst (va.map V.str ++ [.str mv]))) := same_new n2
          have hl2 : (upd HA l2 (.lst (va.map V.str ++ [.str mv]))) l2 = some (.lst ((va ++ [mv]).map V.str)) := by
            rw [upd_same, List.map_append]
            rfl
          generalize upd HA l2 (.lst (va.map V.str ++ [.str mv])) = HB at t2 hl2 ⊢
          have sB := (sZ.trans t1).trans t2
          have hDB := t2 _ _ (t1 _ _ hD)
          refine ⟨l2, _, rfl, .inl (.inl (.inl hl2)), rfl, flat_strs _, _, rfl, ite2 (fun e => ?_) (fun e => ?_)⟩
          · have e' : inV (V.str v) ((va ++ [mv]).map V.str) = true := e
            rw [inV_str] at e'
            refine ⟨_, rfl, _, hDB, ?_, Same.own sB nD, ?_⟩
            · rw [List.length_map]
              refine small1000 (Nat.le_trans (List.length_filter_le _ _) ?_)
              rw [List.length_take]
              omega
            · rw [upd_same, filter_snoc ev, if_pos e', List.map_append]
              rfl
          · have e' : ¬ inV (V.str v) ((va ++ [mv]).map V.str) = true := e
            rw [inV_str] at e'
            refine ⟨sB, ?_⟩
            rw [filter_snoc ev, if_neg e', List.append_nil]
            exact hDB
        · obtain ⟨sZ, hD⟩ := hP
          rw [List.length_map, List.take_length] at hD
          have hkm : ∀ x ∈ dd.vs.filter (fun x => decide (x ∈ va ++ [mv])), x ∈ dd.vs := fun x hx => (List.mem_filter.mp hx).1
          have hk1 : 1 ≤ (dd.vs.filter fun x => decide (x ∈ va ++ [mv])).length := by
            obtain ⟨f0, hf0, fn, fv, _⟩ := hO _ (at?_mem a1)
            have ef := ft_uniq hN.2.2.1 hf0 hdd fn
            have hva := (hBb _ (at?_mem a1)).2.1
            cases hv : va with
            | nil => rw [hv] at hva; exact absurd hva (by show ¬ 1 ≤ 0; decide)
            | cons v0 r0 =>
              have h0 : v0 ∈ dd.vs := by
                rw [← ef]
                exact fv v0 (by rw [hv]; exact List.mem_cons_self ..)
              exact List.length_pos_of_mem (List.mem_filter.mpr ⟨h0, decide_eq_true (List.mem_append_left _ (List.mem_cons_self ..))⟩)
          have hk6 : (dd.vs.filter fun x => decide (x ∈ va ++ [mv])).length ≤ 6 := Nat.le_trans (List.length_filter_le _ _) hv6
          have hkn : (dd.vs.filter fun x => decide (x ∈ va ++ [mv])).Nodup := hdn.filter _
          generalize dd.vs.filter (fun x => decide (x ∈ va ++ [mv])) = ks at hD hkm hk1 hk6 hkn
          have hdZ := sZ _ _ hd'
          have hEZ := hE.same sZ
          have pl := putB_len c dd.n ks
          refine ⟨_, rfl, _, rfl, d, _, rfl, DPut.k (k := .inr dd.n) hdZ (by rw [hE.length]; exact small1000 (by omega)), ?_⟩
          refine ⟨⟨_, _, _, _, rfl⟩, Same.own (sX.trans sZ) nd, _, putB c dd.n ks, upd_same, (hEZ.put hD).upd_dict hdZ, putB_keys _ _ _ hNc, by omega, putB_all hBc ⟨hB.2.2.1, hk1, by show ks.length ≤ 20; omega, fun x hx => hB.2.2.2 x (hkm x hx)⟩, putB_all hOc ⟨dd, hdd, rfl, hkm, hkn⟩⟩
    · obtain ⟨⟨y4, y5, y6, y7, rfl⟩, sX, kvs, c, hd', hE, hNc, hcl, hBc, hOc⟩ := hP
      exact ⟨_, rfl, q d c _ nd sX ⟨kvs, hd', hE, hNc, by omega, hBc⟩ (by omega) hOc⟩
end
end Bn

namespace Bn
open PySem PySem.Spec PyProof.Rows L2 BR GX RM
/-! ### rows of marks -/
abbrev Mks (H : Hp) (rs : List Addr) (R : List MD) : Prop := Paired (fun r ms => Mk H r ms) rs R
theorem Mks.same {H H' : Hp} {rs : List Addr} {R : List MD} (h : Mks H rs R) (s : Same H H') : Mks H' rs R := paired_mono h fun _ _ e => s _ _ e
theorem Mks.sameN {Ps : List Addr} {H H' : Hp} {rs : List Addr} {R : List MD} (h : Mks H rs R) (s : SameN Ps H H') : Mks H' rs R := paired_mono h fun _ _ e => e.sameN s
theorem Mks.updL {H : Hp} {rs : List Addr} {R : List MD} {D : Addr} {xs ys : List V} (h : Mks H rs R) (hD : H D = some (.lst xs)) : Mks (upd H D (.lst ys)) rs R := paired_mono h fun r ms e => by
  have e' : H r = some (.dK (mkv ms)) := e
  show (upd H D (.lst ys)) r = some (.dK (mkv ms))
  rw [upd_ne (ne_of e' hD (by intro z; cases z))]
  exact e'
theorem paired_app {α β : Type} {R : α → β → Prop} {l l' : List α} {m m' : List β} (h : Paired R l m) (k : Paired R l' m') : Paired R (l ++ l') (m ++ m') := by
  induction h with
  | nil => exact k
  | cons x _ ih => exact .cons x ih
theorem mkv_app (ms : MD) (e : Str × Str) : mkv (ms ++ [e]) = mkv ms ++ [(.inr e.1, .str e.2)] := by
  unfold mkv
  rw [List.map_append]
  rfl
theorem mkv_keys {ms : MD} (h : (ms.map (·.1)).Nodup) : ((mkv ms).map (·.1)).Nodup := by
  have e : (mkv ms).map (·.1) = (ms.map (·.1)).map Sum.inr := by
    unfold mkv
    rw [List.map_map, List.map_map]
    rfl
  rw [e]
  exact List.Pairwise.map Sum.inr (fun a b h z => h (Sum.inr.inj z)) h
theorem mAt_has {ms : MD} {n : Str} (h : n ∈ ms.map (·.1)) : ∃ x, mAt ms n = some x := by
  induction ms with
  | nil => exact absurd h List.not_mem_nil
  | cons e ms ih =>
    rw [mAt_cons]
    by_cases c : e.1 = n
    · exact ⟨_, if_pos c⟩
    · rw [if_neg c]
      rw [List.map_cons] at h
      rcases List.mem_cons.mp h with z | z
      · exact absurd z.symm c
      · exact ih z
section
variable {P : Program} {w : World} {K : PySem.W.Frag} {mg : Str → Option Value} {base : Heap}
/-! ### every -/
abbrev NE : List Str := ["_law_features", "_law_rows", "_law_name", "_law_values", "_law_told", "_law_more", "_law_row", "_law_value"]
def spEvery : Sp := fun vs H Q _ => ∃ (fl : Addr) (ys : List V) (ds : List FtD), vs = [.ref fl] ∧ H fl = some (.lst ys) ∧ Fts H ys ds ∧ FtsN ds ∧
  ∀ (p : Addr) (rs : List Addr) (R : List MD) H', H p = none → Same H H' → H' p = some (.lst (rs.map V.ref)) → Mks H' rs R → 1 ≤ rs.length → rs.length ≤ 64 → (∀ ms ∈ R, ∀ d ∈ ds, ∃ x, mAt ms d.n = some x) → Q (.ref p) H'
theorem ok_every {f : Addr} {fd : FuncData} {k : Nat} (F : Fun K "_law_every" "_law_every" s_l_every f fd) (md : mg "dict" = none) (mli : mg "list" = none) : FnOk P w K mg base CX0 (k + 1) f fd ["_law_features"] spEvery := by
  refine F.ok sc_l_every (fun vs H Q E h => ?_) (fun cdv A outer s H vs Q E hr h => ?_)
  · obtain ⟨fl, ys, ds, rfl, _⟩ := h
    rfl
  · obtain ⟨fl, ys, ds, rfl, hfl, hF, hN, q⟩ := h
    have hcd : ∀ {X : Cx}, X.K = K → X.calm = true → CallR X (.type "dict") (fun xs H Q => ∃ (a : Addr) (ps : List Addr) (kvs : List (Key × V)), xs = [.ref a] ∧ SqL K H a (ps.map V.ref) ∧ Paired (fun p kv => SqT K H p [kV kv.1, kv.2]) ps kvs ∧ ∀ p, H p = none → Q (.ref p) (upd H p (.dK (mergeK [] kvs)))) := fun {X} e c => by
      subst e
      exact call_dictP c
    refine ⟨_, pss_cons (ps_set (i := 1) sc_l_every.nd rfl (.inl rfl) (pe_lst (pa_cons pe_dnewK pa_nil)))
      (pss_cons (ps_for PassesOwn.never rfl (pi_list (pv 0)) (pg_tup rfl (pgs_cons (pg_name (i := 2) sc_l_every.nd rfl (.inr rfl)) (pgs_cons (pg_name (i := 3) sc_l_every.nd rfl (.inl rfl)) (pgs_cons (pg_name (i := 4) sc_l_every.nd rfl (.inl rfl)) pgs_nil))))
        (pss_cons (ps_set (i := 5) sc_l_every.nd rfl (.inl rfl) (pe_lst pa_nil))
        (C8.pss_cut (ps_for PassesOwn.never rfl (pi_list (pv 1)) (pg_name (i := 6) sc_l_every.nd rfl (.inr rfl))
          (pss_one (ps_expr (pe_bm PySem.F.plainAttrs_list PySem.F.slot_list_extend PySem.F.type_list_extend mt_extend (pv 5) (pa_cons (pe_lc (own := [("_law_value", 7)]) (g := gName 7) (tt := tYes) rfl sc_l_every.nd (pi_list (pv 3))
              (blkOk_by (own := [("_law_value", 7)]) (N := NE) (sc := defScope s_l_every) (by decide +kernel))
              (fun _ _ _ _ _ => pg_name (i := 7) sc_l_every.nd rfl (Or.inl rfl)) (fun _ _ _ _ _ => pts_nil)
              (fun _ _ _ _ _ => pe_callTy (T := "dict") (hcd rfl rfl) (by rfl) md (by decide +kernel) (pa_cons (pe_op op_cat (LiI.pe_listItems rfl (pv 6) (by rfl) mli (by decide +kernel)) (pe_lst (pa_cons (pe_tup (pa_cons (pv 2) (pa_cons (pv 7) pa_nil))) pa_nil))) pa_nil))) pa_nil)))))
        (pss_one (ps_set (i := 1) sc_l_every.nd rfl (.inl rfl) (pv 5))))))
      (pss_one (ps_ret (pv 1)))), ?_⟩
    have hlen : ys.length = ds.length := Paired.length hF
    have hl3 := hN.2.1
    refine fun e0 ne0 => ⟨(show 1 ≤ sizeLine by decide), fun r0 nr0 => ?_⟩
    have sE : Same H (upd H e0 (.dK [])) := same_new ne0
    have he0 : (upd H e0 (.dK [])) e0 = some (.dK []) := upd_same
    generalize upd H e0 (.dK []) = H0 at sE he0 nr0 ⊢
    have sR : Same H0 (upd H0 r0 (.lst [.ref e0])) := same_new nr0
    have hr0 : (upd H0 r0 (.lst [.ref e0])) r0 = some (.lst [.ref e0]) := upd_same
    have nr0H : H r0 = none := sE.free nr0
    generalize upd H0 r0 (.lst [.ref e0]) = H1 at sR hr0 ⊢
    have s1 := sE.trans sR
    refine ⟨_, rfl, fl, rfl, ⟨_, .inl (.inl (s1 _ _ hfl))⟩, for_list (K := K) (a := fl) (xs := ys) (fun i σ HX => ∃ (r : Addr) (rs : List Addr) (R : List MD) (y2 y3 y4 y5 y6 y7 : Option V), σ = [some (.ref fl), some (.ref r), y2, y3, y4, y5, y6, y7] ∧ Same H HX ∧ H r = none ∧ HX r = some (.lst (rs.map V.ref)) ∧ Mks HX rs R ∧ 1 ≤ rs.length ∧ rs.length ≤ 4 ^ i ∧ ∀ ms ∈ R, ms.map (·.1) = (ds.take i).map (·.n))
      ⟨r0, [e0], [[]], _, _, _, _, _, _, rfl, s1, nr0H, hr0, .cons (sR _ _ he0) .nil, Nat.le_refl _, Nat.le_refl _, fun ms hm => by rw [List.mem_singleton.mp hm]; rfl⟩ (fun i σ HX _ h => ?_) (fun i x σ HX hx hP => ?_) (fun σ HX hP => ?_)⟩
    · obtain ⟨_, _, _, _, _, _, _, _, _, _, sX, _⟩ := h
      exact .inl (.inl (sX _ _ hfl))
    · obtain ⟨r, rs, R, y2, y3, y4, y5, y6, y7, rfl, sX, nr, hr', hM, hr1, hr4, hkeys⟩ := hP
      have hil : i < ys.length := (List.getElem?_eq_some_iff.mp hx).1
      obtain ⟨dd, hdi, pt, lv, rfl, f1, f2, hB⟩ := paired_at hF hx
      have hdd := List.mem_of_getElem? hdi
      have hv1 := hB.1
      have hv4 := (hN.2.2.2 dd hdd).2.2
      have hi3 : i < 3 := by omega
      have p64 : 4 ^ (i + 1) ≤ 64 := Nat.le_trans (Nat.pow_le_pow_right (by decide) (show i + 1 ≤ 3 by omega)) (by decide)
      have p64' : 4 ^ (i + 1) = 4 ^ i * 4 := rfl
      have nds : ((ds.take (i + 1)).map (·.n)).Nodup := (List.Sublist.map _ (List.take_sublist ..)).nodup hN.2.2.1
      refine ⟨pt, _, rfl, .inl (.inl (sX _ _ f1)), rfl, _, _, rfl, _, _, rfl, _, _, rfl, rfl, ?_⟩
      refine ⟨Nat.zero_le _, fun mo nmo => ?_⟩
      have sO : Same HX (upd HX mo (.lst [])) := same_new nmo
      have hmo : (upd HX mo (.lst [])) mo = some (.lst []) := upd_same
      have nmr : r ≠ mo := ne_of_none hr' nmo
      have nmH : H mo = none := sX.free nmo
      generalize upd HX mo (.lst []) = HO' at sO hmo ⊢
      have sHO := sX.trans sO
      have hrO := sO _ _ hr'
      have hMO := hM.same sO
      have hlR : rs.length = R.length := Paired.length hM
      refine ⟨fun σ HM => ∃ (us : List Addr) (U : List MD) (y6 y7 : Option V), σ = [some (.ref fl), some (.ref r), some (.str dd.n), some (.ref lv), some (.bl dd.t), some (.ref mo), y6, y7] ∧ Same H HM ∧ HM mo = some (.lst (us.map V.ref)) ∧ Mks HM us U ∧ us.length = rs.length * dd.vs.length ∧ ∀ ms ∈ U, ms.map (·.1) = (ds.take (i + 1)).map (·.n), ?_, fun σ HM hM' => ?_⟩
      · refine ⟨_, rfl, r, rfl, ⟨_, .inl (.inl hrO)⟩, for_list (K := K) (a := r) (xs := rs.map V.ref) (fun j σ HY => ∃ (us : List Addr) (U : List MD) (y6 y7 : Option V), σ = [some (.ref fl), some (.ref r), some (.str dd.n), some (.ref lv), some (.bl dd.t), some (.ref mo), y6, y7] ∧ Same H HY ∧ HY r = some (.lst (rs.map V.ref)) ∧ Mks HY rs R ∧ HY mo = some (.lst (us.map V.ref)) ∧ Mks HY us U ∧ us.length = j * dd.vs.length ∧ ∀ ms ∈ U, ms.map (·.1) = (ds.take (i + 1)).map (·.n))
          ⟨[], [], _, _, rfl, sHO, hrO, hMO, hmo, .nil, (Nat.zero_mul _).symm, fun ms hm => absurd hm List.not_mem_nil⟩ (fun j σ HY _ h => ?_) (fun j x σ HY hxj hP => ?_) (fun σ HY hP => ?_)⟩
        · obtain ⟨_, _, _, _, _, _, h, _⟩ := h
          exact .inl (.inl h)
        · obtain ⟨us, U, y6, y7, rfl, sY, hrY, hMY, hmoY, hUs, hul, hUk⟩ := hP
          rw [List.getElem?_map] at hxj
          obtain ⟨rr, er, ex⟩ := Option.map_eq_some_iff.mp hxj
          subst ex
          have hjr : j < rs.length := (List.getElem?_eq_some_iff.mp er).1
          obtain ⟨ms, hmj, hrr⟩ := paired_at hMY er
          have hmk := hkeys ms (List.mem_of_getElem? hmj)
          have hlY := sY _ _ f2
          have hul64 : us.length ≤ 64 := by
            rw [hul]
            refine Nat.le_trans (Nat.mul_le_mul (Nat.le_of_lt hjr) hv4) ?_
            have := Nat.mul_le_mul_right 4 hr4
            omega
          refine ⟨_, rfl, .inl ⟨rfl, _, .inl (.inl hmoY)⟩, _, rfl, lv, rfl, ⟨_, .inl (.inl hlY)⟩, fun D nD => ?_⟩
          have nDm : mo ≠ D := ne_of_none hmoY nD
          refine lc_list (K := K) (a := lv) (xs := dd.vs.map V.str) (fun k HZ => Same HY HZ ∧ ∃ ws : List Addr, HZ D = some (.lst (ws.map V.ref)) ∧ Mks HZ ws ((dd.vs.take k).map fun v => ms ++ [(dd.n, v)])) ⟨same_new nD, [], upd_same, .nil⟩ (fun k HZ _ h => .inl (.inl (h.1 _ _ hlY))) (fun k x HZ hxk hP => ?_) (fun HZ hP => ?_)
          · obtain ⟨sZ, ws, hD, hws⟩ := hP
            rw [List.getElem?_map] at hxk
            obtain ⟨v, ev, ex⟩ := Option.map_eq_some_iff.mp hxk
            subst ex
            have hwl : ws.length ≤ 6 := by
              rw [Paired.length hws, List.length_map, List.length_take]
              omega
            refine ⟨rfl, tYes_in ?_⟩
            refine ⟨_, rfl, rr, mkv ms, rfl, sZ _ _ hrr, fun HA p ts keep np nts npt hp hpr => ?_⟩
            have sA : Same HZ HA := keep
            refine ⟨_, rfl, _, rfl, (show 2 ≤ sizeLine by decide), fun t nt => ⟨(show 1 ≤ sizeLine by decide), fun l nl => ?_⟩⟩
            have sT : Same HA (upd HA t (.tup [.str dd.n, .str v])) := same_new nt
            have ht : (upd HA t (.tup [.str dd.n, .str v])) t = some (.tup [.str dd.n, .str v]) := upd_same
            generalize upd HA t (.tup [.str dd.n, .str v]) = HT at sT ht nl ⊢
            have sL : Same HT (upd HT l (.lst [.ref t])) := same_new nl
            have hl : (upd HT l (.lst [.ref t])) l = some (.lst [.ref t]) := upd_same
            generalize upd HT l (.lst [.ref t]) = HL at sL hl ⊢
            have hml : ms.length ≤ 3 := by
              have z := congrArg List.length hmk
              rw [List.length_map, List.length_map, List.length_take] at z
              omega
            have htl : ts.length = ms.length := by
              have z := Paired.length hpr
              rw [z]
              unfold mkv
              rw [List.length_map]
            refine ⟨p, l, _, _, rfl, rfl, sL _ _ (sT _ _ hp), hl, by rw [List.length_map]; exact line1000 (by show ts.length + 1 ≤ 1000; omega), fun l2 nl2 => ?_⟩
            have s2 : Same HL (upd HL l2 (.lst (ts.map V.ref ++ [.ref t]))) := same_new nl2
            have hl2 : (upd HL l2 (.lst (ts.map V.ref ++ [.ref t]))) l2 = some (.lst ((ts ++ [t]).map V.ref)) := by
              rw [upd_same, List.map_append]
              rfl
            generalize upd HL l2 (.lst (ts.map V.ref ++ [.ref t])) = H2 at s2 hl2 ⊢
            have sA2 := (sT.trans sL).trans s2
            have htk : SqT K H2 t [kV ((.inr dd.n, .str v) : Key × V).1, ((.inr dd.n, .str v) : Key × V).2] := .inl (.inl (s2 _ _ (sL _ _ ht)))
            refine ⟨l2, ts ++ [t], mkv ms ++ [(.inr dd.n, .str v)], rfl, .inl (.inl hl2), paired_app (paired_mono hpr fun t' kv e => .inl (.inl (sA2 _ _ e))) (.cons htk .nil), fun pd npd => ?_⟩
            have emk : mergeK [] (mkv ms ++ [(.inr dd.n, .str v)]) = mkv (ms ++ [(dd.n, v)]) := by
              rw [← mkv_app ms (dd.n, v)]
              refine merge_new _ [] (mkv_keys ?_)
              rw [List.map_append, hmk]
              have z := nds
              rw [take_get hdi, List.map_append] at z
              exact z
            rw [emk]
            have sP : Same H2 (upd H2 pd (.dK (mkv (ms ++ [(dd.n, v)])))) := same_new npd
            have hpd : (upd H2 pd (.dK (mkv (ms ++ [(dd.n, v)])))) pd = some (.dK (mkv (ms ++ [(dd.n, v)]))) := upd_same
            generalize upd H2 pd (.dK (mkv (ms ++ [(dd.n, v)]))) = HP at sP hpd ⊢
            have sZP := (sA.trans sA2).trans sP
            have hDP := sZP _ _ hD
            refine ⟨_, hDP, by rw [List.length_map]; exact small1000 (by omega), Same.own (sZ.trans sZP) nD, ws ++ [pd], ?_, ?_⟩
            · rw [upd_same, List.map_append]
              rfl
            · rw [take_get ev, List.map_append]
              exact Mks.updL (paired_snoc (hws.same sZP) hpd) hDP
          · obtain ⟨sZ, ws, hD, hws⟩ := hP
            rw [List.length_map, List.take_length] at hws
            have hwl : ws.length = dd.vs.length := by
              rw [Paired.length hws, List.length_map]
            have hmoZ := sZ _ _ hmoY
            refine ⟨mo, D, _, _, rfl, rfl, hmoZ, hD, by rw [List.length_map, List.length_map]; exact line1000 (by omega), us ++ ws, U ++ (dd.vs.map fun v => ms ++ [(dd.n, v)]), _, _, rfl, Same.own (sY.trans sZ) nmH, ?_, Mks.updL (hMY.same sZ) hmoZ, ?_, Mks.updL (paired_app (hUs.same sZ) hws) hmoZ, ?_, fun m hm => ?_⟩
            · rw [upd_ne nmr]
              exact sZ _ _ hrY
            · rw [upd_same, List.map_append]
            · rw [List.length_append, hul, hwl, Nat.succ_mul]
            · rcases List.mem_append.mp hm with z | z
              · exact hUk m z
              · obtain ⟨v, _, rfl⟩ := List.mem_map.mp z
                rw [List.map_append, hmk, take_get hdi, List.map_append]
                rfl
        · obtain ⟨us, U, y6, y7, rfl, sY, hrY, hMY, hmoY, hUs, hul, hUk⟩ := hP
          rw [List.length_map] at hul
          exact ⟨us, U, _, _, rfl, sY, hmoY, hUs, hul, hUk⟩
      · obtain ⟨us, U, y6, y7, rfl, sM, hmoM, hUs, hul, hUk⟩ := hM'
        refine ⟨_, rfl, mo, us, U, _, _, _, _, _, _, rfl, sM, nmH, hmoM, hUs, ?_, ?_, hUk⟩
        · rw [hul]
          exact Nat.mul_le_mul hr1 hv1
        · rw [hul, p64']
          exact Nat.mul_le_mul hr4 hv4
    · obtain ⟨r, rs, R, y2, y3, y4, y5, y6, y7, rfl, sX, nr, hr', hM, hr1, hr4, hkeys⟩ := hP
      rw [hlen, List.take_length] at hkeys
      refine ⟨_, rfl, q r rs R _ nr sX hr' hM hr1 ?_ fun ms hm d hd => mAt_has ?_⟩
      · rw [hlen] at hr4
        exact Nat.le_trans hr4 (Nat.le_trans (Nat.pow_le_pow_right (by decide) hl3) (by decide))
      · rw [hkeys ms hm]
        exact List.mem_map.mpr ⟨d, hd, rfl⟩
end
end Bn

namespace Bn
open PySem PySem.Spec PyProof.Rows L2 BR GX RM
/-! ### None or a bundle -/
def OB (H : Hp) (x : V) : Option BD → Prop
  | none => x = .non
  | some d => ∃ p, x = .ref p ∧ Bd H p d
theorem OB.same {H H' : Hp} {x : V} {o : Option BD} (h : OB H x o) (s : Same H H') : OB H' x o := by
  cases o with
  | none => exact h
  | some d =>
    obtain ⟨p, e, k⟩ := h
    exact ⟨p, e, k.same s⟩
theorem OB.sameN {Ps : List Addr} {H H' : Hp} {x : V} {o : Option BD} (h : OB H x o) (s : SameN Ps H H') : OB H' x o := by
  cases o with
  | none => exact h
  | some d =>
    obtain ⟨p, e, k⟩ := h
    exact ⟨p, e, k.sameN s⟩
def SO (H : Hp) (y : V) : Option BD → Prop
  | none => y = .non
  | some b => ∃ p c, y = .ref p ∧ Bd H p c ∧ SrtOf b c
theorem SO.same {H H' : Hp} {x : V} {o : Option BD} (h : SO H x o) (s : Same H H') : SO H' x o := by
  cases o with
  | none => exact h
  | some d =>
    obtain ⟨p, c, e, k, z⟩ := h
    exact ⟨p, c, e, k.same s, z⟩
theorem joined_use {H : Hp} {a c : Addr} {A C : BD} {Q : VK} {E : XK} (hA : Bd H a A) (hC : Bd H c C) (hl : A.length + C.length ≤ 200) (q : ∀ x H', Same H H' → OB H' x (joinedF A C) → Q x H') : spJoined [.ref a, .ref c] H Q E := by
  refine ⟨a, c, A, C, rfl, hA, hC, hl, fun e H' s => q .non H' s (by rw [e]; exact rfl), fun es e p kvs H' _ s h1 h2 h3 _ => q (.ref p) H' s ?_⟩
  rw [e]
  exact ⟨p, rfl, kvs, h1, h2, h3⟩
theorem sets_use {H : Hp} {x : V} {o : Option BD} {Q : VK} {E : XK} (h : OB H x o) (q : ∀ y H', Same H H' → SO H' y o → Q y H') : spSets [x] H Q E := by
  refine ⟨x, rfl, ?_⟩
  cases o with
  | none => exact .inl ⟨h, fun H' s => q .non H' s rfl⟩
  | some b =>
    obtain ⟨p, e, k⟩ := h
    exact .inr ⟨p, b, e, k, fun r c H' _ s k1 k2 => q (.ref r) H' s ⟨r, c, rfl, k1, k2⟩⟩
theorem all_use {K : PySem.W.Frag} {H : Hp} {l : Addr} {ps : List Addr} {ds : List BD} {Q : VK} {E : XK} (hl : H l = some (.lst (ps.map V.ref))) (hB : Bs H ps ds) (hn : ps.length ≤ 10) (q : ∀ x H', Same H H' → OB H' x (allF ds) → Q x H') : spAll K [.ref l] H Q E := by
  refine ⟨l, ps, ds, rfl, .inl (.inl hl), hB, hn, fun e H' s => q .non H' s (by rw [e]; exact rfl), fun es e p kvs H' _ s h1 h2 h3 _ => q (.ref p) H' s ?_⟩
  rw [e]
  exact ⟨p, rfl, kvs, h1, h2, h3⟩
theorem sameD_of {K : PySem.W.Frag} {H : Hp} {kp kr : List (Key × V)} {b c : BD} (ep : Ents H kp b) (er : Ents H kr c) (hB : BdB b) (h : ∀ n, at? b n = at? c n) : SameD K H kp kr := by
  intro q hq
  obtain ⟨i, hi⟩ := List.getElem?_of_mem hq
  obtain ⟨n, l, vs, z1, z2, z3, z4⟩ := ep.get (k := q.1) (v := q.2) hi
  have hm := List.mem_of_getElem? z4
  have ha : at? b n = some vs := at?_memN hB.1 hm
  rcases er.val n with ⟨z, _⟩ | ⟨l', vs', y1, y2, y3, _⟩
  · rw [← h, ha] at z
    cases z
  · rw [← h, ha] at y1
    cases y1
    obtain ⟨c1, c2⟩ := strs_shaped vs (hB.2.2 _ hm).2.2.2
    refine ⟨.ref l', .list (vs.map PyData.str), by rw [z1]; exact y2, by rw [z2]; exact .lst (.inl (.inl z3)) (strs_dp _), .lst (.inl (.inl y3)) (strs_dp _), c1, ?_⟩
    show PyData.depthAll (vs.map PyData.str) + 1 ≤ 60
    omega
theorem ne_dicts {K : PySem.W.Frag} {H : Hp} {p r : Addr} {b c : BD} (hp : Bd H p b) (hr : Bd H r c) (h : ∀ n, at? b n = at? c n) : ∃ a b ks ls, V.ref p = .ref a ∧ V.ref r = .ref b ∧ H a = some (.dK ks) ∧ H b = some (.dK ls) ∧ ks.length = ls.length ∧ SameD K H ks ls := by
  obtain ⟨kp, e1, ep, hB⟩ := hp
  obtain ⟨kr, e2, er, hC⟩ := hr
  exact ⟨p, r, kp, kr, rfl, rfl, e1, e2, by rw [ep.length, er.length]; exact same_len hB.1 hC.1 h, sameD_of ep er hB h⟩
theorem ne_sets {K : PySem.W.Frag} {H : Hp} {x y : V} {o1 o2 : Option BD} (h1 : SO H x o1) (h2 : SO H y o2) (hn : o1 = none ↔ o2 = none) (he : ∀ b c, o1 = some b → o2 = some c → EqS b c) :
    (x = .non ∧ y = .non) ∨ ∃ a b ks ls, x = .ref a ∧ y = .ref b ∧ H a = some (.dK ks) ∧ H b = some (.dK ls) ∧ ks.length = ls.length ∧ SameD K H ks ls := by
  cases o1 with
  | none =>
    have e := hn.mp rfl
    subst e
    exact .inl ⟨h1, h2⟩
  | some b =>
    cases o2 with
    | none => exact absurd (hn.mpr rfl) (fun z => nomatch z)
    | some c =>
      obtain ⟨p, b', rfl, k1, s1⟩ := h1
      obtain ⟨r, c', rfl, k2, s2⟩ := h2
      exact .inr (ne_dicts k1 k2 fun n => srt_eq s1 s2 (he b c rfl rfl) n)
theorem ne_same {K : PySem.W.Frag} {H : Hp} {x y : V} {o : Option BD} (h1 : OB H x o) (h2 : OB H y o) :
    (x = .non ∧ y = .non) ∨ ∃ a b ks ls, x = .ref a ∧ y = .ref b ∧ H a = some (.dK ks) ∧ H b = some (.dK ls) ∧ ks.length = ls.length ∧ SameD K H ks ls := by
  cases o with
  | none => exact .inl ⟨h1, h2⟩
  | some b =>
    obtain ⟨p, rfl, k1⟩ := h1
    obtain ⟨r, rfl, k2⟩ := h2
    exact .inr (ne_dicts k1 k2 fun n => rfl)
theorem Bd.b {H : Hp} {a : Addr} {b : BD} (h : Bd H a b) : BdB b := by
  obtain ⟨_, _, _, z⟩ := h
  exact z
theorem OB.isN {H : Hp} {x : V} {o : Option BD} (h : OB H x o) : decide (x = V.non) = o.isNone := by
  cases o with
  | none =>
    have h' : x = .non := h
    rw [h']
    rfl
  | some d =>
    obtain ⟨p, rfl, _⟩ := h
    rfl
section
variable {P : Program} {w : World} {K : PySem.W.Frag} {mg : Str → Option Value} {base : Heap}
/-! ### weaker promises -/
def spJ : Sp := fun vs H Q _ => ∃ (a c : Addr) (A C : BD), vs = [.ref a, .ref c] ∧ Bd H a A ∧ Bd H c C ∧ A.length + C.length ≤ 200 ∧ ∀ x H', Same H H' → OB H' x (joinedF A C) → Q x H'
theorem weak_joined {f : Addr} {fd : FuncData} {k : Nat} (G : FnOk P w K mg base CX0 k f fd ["one", "other"] spJoined) : FnOk P w K mg base CX0 k f fd ["one", "other"] spJ := G.imp fun vs H Q E h => by
  obtain ⟨a, c, A, C, rfl, h1, h2, h3, q⟩ := h
  exact joined_use h1 h2 h3 q
def spS : Sp := fun vs H Q _ => ∃ (x : V) (o : Option BD), vs = [x] ∧ OB H x o ∧ ∀ y H', Same H H' → SO H' y o → Q y H'
theorem weak_sets {f : Addr} {fd : FuncData} {k : Nat} (G : FnOk P w K mg base CX0 k f fd ["_law_bundle_here"] spSets) : FnOk P w K mg base CX0 k f fd ["_law_bundle_here"] spS := G.imp fun vs H Q E h => by
  obtain ⟨x, o, rfl, h1, q⟩ := h
  exact sets_use h1 q
def spA : Sp := fun vs H Q _ => ∃ (l : Addr) (ps : List Addr) (ds : List BD), vs = [.ref l] ∧ H l = some (.lst (ps.map V.ref)) ∧ Bs H ps ds ∧ ps.length ≤ 10 ∧ ∀ x H', Same H H' → OB H' x (allF ds) → Q x H'
theorem weak_all {f : Addr} {fd : FuncData} {k : Nat} (G : FnOk P w K mg base CX0 k f fd ["bundles"] (spAll K)) : FnOk P w K mg base CX0 k f fd ["bundles"] spA := G.imp fun vs H Q E h => by
  obtain ⟨l, ps, ds, rfl, h1, h2, h3, q⟩ := h
  exact all_use h1 h2 h3 q
/-! ### three right -/
def spThree (Ps : List Addr) : Sp := fun vs H Q _ => ∃ (a b c : Addr) (A B C : BD), vs = [.ref a, .ref b, .ref c] ∧ Bd H a A ∧ Bd H b B ∧ Bd H c C ∧ A.length ≤ 6 ∧ B.length ≤ 6 ∧ C.length ≤ 18 ∧ Tabs Ps H ∧ ∀ H', SameN Ps H H' → Q (.bl true) H'
theorem ok_three {f fJ fS fA fL : Addr} {fd dJ dS dA dL : FuncData} {Ps : List Addr} (F : Fun K "_law_three_right" "_law_three_right" s_l_three_right f fd)
    (kJ : PySem.W.keepIn K (.ref fJ) = true) (bJ : Binds K dJ ["one", "other"] []) (gJ : mg "joined" = some (.ref fJ)) (GJ : FnOk P w K mg base CX0 2 fJ dJ ["one", "other"] spJ)
    (kS : PySem.W.keepIn K (.ref fS) = true) (bS : Binds K dS ["_law_bundle_here"] []) (gS : mg "_law_as_sets" = some (.ref fS)) (GS : FnOk P w K mg base CX0 1 fS dS ["_law_bundle_here"] spS)
    (kA : PySem.W.keepIn K (.ref fA) = true) (bA : Binds K dA ["bundles"] []) (gA : mg "joined_all" = some (.ref fA)) (GA : FnOk P w K mg base CX0 3 fA dA ["bundles"] spA)
    (kL : PySem.W.keepIn K (.ref fL) = true) (bL : Binds K dL ["one", "other"] []) (gL : mg "lies_in" = some (.ref fL)) (GL : FnOk P w K mg base CX0 8 fL dL ["one", "other"] (spLies Ps)) : FnOk P w K mg base CX0 9 f fd ["_law_one", "_law_other", "_law_third"] (spThree Ps) := by
  refine F.ok sc_l_three_right (fun vs H Q E h => ?_) (fun cdv A outer s H vs Q E hr h => ?_)
  · obtain ⟨a, b, c, _, _, _, rfl, _⟩ := h
    rfl
  · obtain ⟨a, b, c, BA, BB, BC, rfl, hA, hB, hC, lA, lB, lC, hT, q⟩ := h
    refine ⟨_, pss_cons (ps_set (i := 3) sc_l_three_right.nd rfl (.inl rfl) (pe_call GJ (hr.mono (by decide)) (by rfl) gJ kJ bJ .nil pass0 (pa_cons (pv 0) (pa_cons (pv 1) pa_nil))))
      (pss_cons (ps_set (i := 4) sc_l_three_right.nd rfl (.inl rfl) (pe_call GJ (hr.mono (by decide)) (by rfl) gJ kJ bJ .nil pass0 (pa_cons (pv 1) (pa_cons (pv 2) pa_nil))))
      (C8.pss_cut (ps_set (i := 5) sc_l_three_right.nd rfl (.inl rfl) (pe_ifExp (pt_cmpR op_isN (pv 3) pe_non (nomark _)) pe_non (pe_call GJ (hr.mono (by decide)) (by rfl) gJ kJ bJ .nil pass0 (pa_cons (pv 3) (pa_cons (pv 2) pa_nil)))))
      (C8.pss_cut (ps_set (i := 6) sc_l_three_right.nd rfl (.inl rfl) (pe_ifExp (pt_cmpR op_isN (pv 4) pe_non (nomark _)) pe_non (pe_call GJ (hr.mono (by decide)) (by rfl) gJ kJ bJ .nil pass0 (pa_cons (pv 0) (pa_cons (pv 4) pa_nil)))))
      (pss_cons (ps_if (PW.pt (pw_or (pt_cmpR (op_neDD hr.units) (pe_call GS (hr.mono (by decide)) (by rfl) gS kS bS .nil pass0 (pa_cons (pv 5) pa_nil)) (pe_call GS (hr.mono (by decide)) (by rfl) gS kS bS .nil pass0 (pa_cons (pv 6) pa_nil)) (nomark _))
          (pw_or1 (pt_cmpR (op_neDD hr.units) (pv 5) (pe_call GA (hr.mono (by decide)) (by rfl) gA kA bA .nil pass0 (pa_cons (pe_lst (pa_cons (pv 0) (pa_cons (pv 1) (pa_cons (pv 2) pa_nil)))) pa_nil)) (nomark _)))))
        (pss_one (ps_ret pe_bl)) pss_nil)
      (C8.pss_cut (ps_set (i := 7) sc_l_three_right.nd rfl (.inl rfl) (pe_and (pe_call GL hr (by rfl) gL kL bL .nil pass0 (pa_cons (pv 2) (pa_cons (pv 0) pa_nil))) (pe_one (pe_call GL hr (by rfl) gL kL bL .nil pass0 (pa_cons (pv 2) (pa_cons (pv 1) pa_nil))))))
      (C8.pss_cut (ps_if (PW.pt (pw_and (pt_val (pv 7)) (pw_and1 (PW.pt (pw_or (pt_cmpR op_isN (pv 3) pe_non (nomark _)) (pw_or1 (pt_not (pt_val (pe_call GL hr (by rfl) gL kL bL .nil pass0 (pa_cons (pv 2) (pa_cons (pv 3) pa_nil)))))))))))
        (pss_one (ps_ret pe_bl)) pss_nil)
      (pss_one (ps_ret (pe_or (pe_cmpR op_isN (pv 5) pe_non (nomark _)) (pe_one (pe_and (pe_cmpR op_notN (pv 3) pe_non (nomark _)) (pe_and (pe_call GL hr (by rfl) gL kL bL .nil pass0 (pa_cons (pv 5) (pa_cons (pv 3) pa_nil))) (pe_one (pe_call GL hr (by rfl) gL kL bL .nil pass0 (pa_cons (pv 5) (pa_cons (pv 2) pa_nil)))))))))))))))), ?_⟩
    refine ⟨_, rfl, _, rfl, a, b, BA, BB, rfl, hA, hB, by omega, fun x1 H1 s1 o1 => ?_⟩
    refine ⟨_, rfl, _, rfl, b, c, BB, BC, rfl, hB.same s1, hC.same s1, by omega, fun x2 H2 s2 o2 => ?_⟩
    have s12 := s1.trans s2
    replace o1 := o1.same s2
    have lf : ∀ {X Y Z : BD}, joinedF X Y = some Z → Z.length ≤ X.length + Y.length := fun h => joinedF_len h
    refine ⟨fun σ HM => ∃ x3, σ = [some (.ref a), some (.ref b), some (.ref c), some x1, some x2, some x3, none, none] ∧ Same H2 HM ∧ OB HM x3 (lftF BA BB BC), ?_, fun σ HM hM => ?_⟩
    · refine ⟨_, rfl, rfl, _, rfl, ?_⟩
      rw [o1.isN]
      cases e : joinedF BA BB with
      | none => exact iteT ⟨.non, rfl, Same.refl _, by unfold lftF; rw [e]; exact rfl⟩
      | some f1 =>
        rw [e] at o1
        obtain ⟨p1, rfl, hp1⟩ := o1
        have := lf e
        exact iteF ⟨_, rfl, _, rfl, p1, c, f1, BC, rfl, hp1, hC.same s12, by omega, fun x3 H3 s3 o3 => ⟨x3, rfl, s3, by unfold lftF; rw [e]; exact o3⟩⟩
    obtain ⟨x3, rfl, s23, o3⟩ := hM
    replace o1 := o1.same s23
    replace o2 := o2.same s23
    have s13 := s12.trans s23
    refine ⟨fun σ HN => ∃ x4, σ = [some (.ref a), some (.ref b), some (.ref c), some x1, some x2, some x3, some x4, none] ∧ Same HM HN ∧ OB HN x4 (rgtF BA BB BC), ?_, fun σ HN hM => ?_⟩
    · refine ⟨_, rfl, rfl, _, rfl, ?_⟩
      rw [o2.isN]
      cases e : joinedF BB BC with
      | none => exact iteT ⟨.non, rfl, Same.refl _, by unfold rgtF; rw [e]; exact rfl⟩
      | some f1 =>
        rw [e] at o2
        obtain ⟨p1, rfl, hp1⟩ := o2
        have := lf e
        exact iteF ⟨_, rfl, _, rfl, a, p1, BA, f1, rfl, hA.same s13, hp1, by omega, fun x4 H3 s3 o3 => ⟨x4, rfl, s3, by unfold rgtF; rw [e]; exact o3⟩⟩
    obtain ⟨x4, rfl, s34, o4⟩ := hM
    replace o1 := o1.same s34
    replace o3 := o3.same s34
    have s14 := s13.trans s34
    refine ⟨_, rfl, x3, _, rfl, o3, fun y3 H5 s5 q3 => ⟨_, rfl, x4, _, rfl, o4.same s5, fun y4 H6 s6 q4 => ⟨ne_sets (q3.same s6) q4 lft_rgt_none fun b c h k => eqS_assoc h k, false, rfl, iteF ?_⟩⟩⟩
    have s56 := s5.trans s6
    have s16 := s14.trans s56
    refine ⟨_, rfl, _, rfl, _, rfl, _, rfl, (show 3 ≤ sizeLine by decide), fun l nl => ?_⟩
    have sL : Same H6 (upd H6 l (.lst [.ref a, .ref b, .ref c])) := same_new nl
    have hl : (upd H6 l (.lst [.ref a, .ref b, .ref c])) l = some (.lst [.ref a, .ref b, .ref c]) := upd_same
    generalize upd H6 l (.lst [.ref a, .ref b, .ref c]) = H7 at sL hl ⊢
    have s17 := s16.trans sL
    refine ⟨l, [a, b, c], [BA, BB, BC], rfl, hl, .cons ⟨hA.same s17, by omega⟩ (.cons ⟨hB.same s17, by omega⟩ (.cons ⟨hC.same s17, by omega⟩ .nil)), (by show 3 ≤ 10; decide), fun y H8 s8 oy => ?_⟩
    rw [all_three hA.b] at oy
    have s48 := (s56.trans sL).trans s8
    refine ⟨ne_same (o3.same s48) oy, false, rfl, iteF ?_⟩
    have s18 := s14.trans s48
    have t8 : Tabs Ps H8 := hT.same s18
    have hA8 := hA.same s18
    have hB8 := hB.same s18
    have hC8 := hC.same s18
    replace o1 := o1.same s48
    replace o3 := o3.same s48
    refine ⟨fun σ HP => σ = [some (.ref a), some (.ref b), some (.ref c), some x1, some x2, some x3, some x4, some (.bl (liesF BC BA && liesF BC BB))] ∧ SameN Ps H8 HP, ?_, fun σ HP hM => ?_⟩
    · refine ⟨_, rfl, _, rfl, c, a, BC, BA, rfl, hC8, hA8, t8, fun H9 s9 => ⟨_, rfl, ?_⟩⟩
      cases e : liesF BC BA with
      | false => exact iteF ⟨rfl, s9⟩
      | true => exact iteT ⟨_, rfl, _, rfl, c, b, BC, BB, rfl, hC8.sameN s9, hB8.sameN s9, s9.t, fun H10 s10 => ⟨by rw [Bool.true_and]; rfl, s9.trans s10⟩⟩
    obtain ⟨rfl, s89⟩ := hM
    refine ⟨fun σ HR => σ = [some (.ref a), some (.ref b), some (.ref c), some x1, some x2, some x3, some x4, some (.bl (liesF BC BA && liesF BC BB))] ∧ SameN Ps H8 HR, ?_, fun σ HR hM => ?_⟩
    · refine ⟨_, rfl, _, rfl, ?_⟩
      cases e : (liesF BC BA && liesF BC BB) with
      | false => exact iteF (iteF ⟨rfl, s89⟩)
      | true =>
        obtain ⟨e1, e2⟩ := Bool.and_eq_true_iff.mp e
        obtain ⟨j1, j2⟩ := lies_within hC.b hA.b hB.b e1 e2
        rw [j1] at o1
        obtain ⟨p1, rfl, hp1⟩ := o1
        refine iteT ⟨_, rfl, rfl, false, rfl, iteF ⟨_, rfl, _, rfl, c, p1, BC, entsF BA BB, rfl, hC8.sameN s89, hp1.sameN s89, s89.t, fun H9 s9 => ?_⟩⟩
        rw [j2]
        exact ⟨true, rfl, iteF ⟨rfl, s89.trans s9⟩⟩
    obtain ⟨rfl, s8R⟩ := hM
    have fin : ∀ {HZ : Hp}, SameN Ps H8 HZ → Q (.bl true) HZ := fun sz => q _ ((SameN.of hT s18).trans sz)
    refine ⟨_, rfl, rfl, _, rfl, ?_⟩
    rw [o3.isN]
    cases e : lftF BA BB BC with
    | none => exact iteT (fin s8R)
    | some X =>
      have e' := e
      unfold lftF at e'
      cases f : joinedF BA BB with
      | none => rw [f] at e'; cases e'
      | some f1 =>
        rw [f] at e'
        have g : joinedF f1 BC = some X := e'
        rw [f] at o1
        rw [e] at o3
        obtain ⟨p1, rfl, hp1⟩ := o1
        obtain ⟨p3, rfl, hp3⟩ := o3
        have eX := (joined_ents g).1
        refine iteF ⟨_, rfl, rfl, true, rfl, iteT ⟨_, rfl, _, rfl, p3, p1, X, f1, rfl, hp3.sameN s8R, hp1.sameN s8R, s8R.t, fun H9 s9 => ?_⟩⟩
        have l1 : liesF X f1 = true := by rw [eX]; exact lies_left hp1.b.1
        have l2 : liesF X BC = true := by rw [eX]; exact lies_right hC.b.1
        rw [l1]
        refine ⟨true, rfl, iteT ⟨_, rfl, _, rfl, p3, c, X, BC, rfl, (hp3.sameN s8R).sameN s9, (hC8.sameN s8R).sameN s9, s9.t, fun H10 s10 => ?_⟩⟩
        rw [l2]
        exact fin ((s8R.trans s9).trans s10)
end
end Bn

namespace Bn
open PySem PySem.Spec PyProof.Rows L2 BR GX RM
theorem _root_.GX.SameN.kb {Ps : List Addr} {b : Addr} {H0 H H' : Hp} (s : SameN Ps H0 H) (nb : H0 b = none) (hb : Bx H b) (k : Kb b H H') : SameN Ps H0 H' := by
  refine ⟨fun x y n e => k.k _ _ (ne_of_none e nb) (s.k x y n e), fun x p e => ?_, fun P hP => ?_⟩
  · obtain ⟨p', e'⟩ := s.q x p e
    exact ⟨p', k.k _ _ (ne_of_none e nb) e'⟩
  · obtain ⟨ps, e, h⟩ := s.t P hP
    exact ⟨ps, k.k _ _ (ne_bx hb e (fun _ _ _ _ z => by cases z)) e, h⟩
theorem _root_.GX.SameN.same {Ps : List Addr} {H0 H H' : Hp} (s : SameN Ps H0 H) (k : Same H H') : SameN Ps H0 H' := s.trans (SameN.of s.t k)
/-! ### rows as data -/
def rowDat (r : Row) : PyData := .tuple (r.map PyData.str)
theorem Tps.dp {K : PySem.W.Frag} {H : Hp} {ts : List Addr} {rows : List Row} (h : Tps H ts rows) : DpAll K H (ts.map V.ref) (rows.map rowDat) := by
  induction h with
  | nil => exact .nil
  | cons r _ ih => exact .cons (.tup (.inl (.inl r)) (strs_dp _)) ih
theorem rows_can : ∀ rows : List Row, (∀ r ∈ rows, ∀ x ∈ r, okS x) → PyData.canLayAll0 (rows.map rowDat) = true ∧ PyData.depthAll (rows.map rowDat) ≤ 1
  | [], _ => ⟨rfl, Nat.zero_le _⟩
  | r :: rows, h => by
    obtain ⟨a, b⟩ := rows_can rows fun x hx => h x (List.mem_cons_of_mem _ hx)
    obtain ⟨c, e⟩ := strs_shaped r (h r (List.mem_cons_self ..))
    refine ⟨?_, ?_⟩
    · show (PyData.canLayAll0 (r.map PyData.str) && PyData.canLayAll0 (rows.map rowDat)) = true
      rw [a, c]
      rfl
    · show max (PyData.depthAll (r.map PyData.str) + 1) (PyData.depthAll (rows.map rowDat)) ≤ 1
      rw [e]
      omega
theorem rows_list {rows : List Row} (h : ∀ r ∈ rows, ∀ x ∈ r, okS x) : SeqAt.shaped (.list (rows.map rowDat)) = true := by
  obtain ⟨a, b⟩ := rows_can rows h
  show (PyData.canLayAll0 (rows.map rowDat) && decide (PyData.depthAll (rows.map rowDat) + 1 ≤ 64)) = true
  rw [a, decide_eq_true (by omega)]
  rfl
theorem choicesF_ok {ds : List FtD} (hB : FtsB ds) (ns : List Str) (b : BD) : ∀ r ∈ choicesF (knownF ds) ns b, ∀ x ∈ r, okS x := by
  intro r hr
  unfold choicesF at hr
  by_cases c : inF (b.map (·.1)) ns = true
  · rw [if_pos c] at hr
    exact prodR_mem _ okS _ (fun n _ v hv => knF_ok hB n v (List.mem_filter.mp hv).1) r hr
  · rw [if_neg c] at hr
    exact absurd hr List.not_mem_nil
theorem choicesF_len {ds : List FtD} (hB : FtsB ds) {ns : List Str} (hn : ns.length ≤ 6) (b : BD) : (choicesF (knownF ds) ns b).length ≤ 46656 := by
  unfold choicesF
  by_cases c : inF (b.map (·.1)) ns = true
  · rw [if_pos c]
    refine Nat.le_trans (prodR_size _ (fun n => Nat.le_trans (List.length_filter_le _ _) (knF_len hB n)) _) ?_
    rw [List.length_reverse]
    exact Nat.le_trans (Nat.pow_le_pow_right (by decide) hn) (by decide)
  · rw [if_neg c]
    exact Nat.zero_le _
theorem eqv_strs : ∀ a b : List Str, PyData.eqvAll (a.map PyData.str) (b.map PyData.str) = decide (a = b)
  | [], [] => rfl
  | [], _ :: _ => rfl
  | _ :: _, [] => rfl
  | x :: a, y :: b => by
    show ((x == y) && PyData.eqvAll (a.map PyData.str) (b.map PyData.str)) = _
    rw [eqv_strs a b, Bool.eq_iff_iff, Bool.and_eq_true, beq_iff_eq, decide_eq_true_eq, decide_eq_true_eq]
    constructor
    · rintro ⟨rfl, rfl⟩
      rfl
    · intro e
      cases e
      exact ⟨rfl, rfl⟩
theorem rows_any (r : Row) : ∀ rows : List Row, ((rows.map rowDat).any fun z => PyData.eqv z (rowDat r)) = decide (r ∈ rows)
  | [] => rfl
  | x :: rows => by
    rw [List.map_cons, List.any_cons, rows_any r rows]
    have e : PyData.eqv (rowDat x) (rowDat r) = decide (x = r) := eqv_strs x r
    rw [e, Bool.eq_iff_iff, Bool.or_eq_true, decide_eq_true_eq, decide_eq_true_eq, decide_eq_true_eq, List.mem_cons]
    exact ⟨fun h => h.imp Eq.symm id, fun h => h.imp Eq.symm id⟩
theorem row_shaped {r : Row} (h : ∀ x ∈ r, okS x) : SeqAt.shaped (rowDat r) = true := by
  obtain ⟨c, e⟩ := strs_shaped r h
  show (PyData.canLayAll0 (r.map PyData.str) && decide (PyData.depthAll (r.map PyData.str) + 1 ≤ 64)) = true
  rw [c, e]
  rfl
theorem eq_refs {K : PySem.W.Frag} {H : Hp} {m : Nat} : ∀ ts : List Addr, Paired (EqV K H (m + 1)) (ts.map V.ref) (ts.map V.ref)
  | [] => .nil
  | t :: ts => .cons (.inr (.inl ⟨t, rfl, rfl⟩)) (eq_refs ts)
/-- those of the rows of marks that are let -/
def pick (p : MD → Bool) (rs : List Addr) (R : List MD) : List Addr := ((rs.zip R).filter fun e => p e.2).map (·.1)
theorem pick_snoc {p : MD → Bool} {rs : List Addr} {R : List MD} {i : Nat} {r : Addr} {ms : MD} (h1 : rs[i]? = some r) (h2 : R[i]? = some ms) : pick p (rs.take (i + 1)) (R.take (i + 1)) = pick p (rs.take i) (R.take i) ++ if p ms = true then [r] else [] := by
  unfold pick
  have hi1 := (List.getElem?_eq_some_iff.mp h1).1
  have hi2 := (List.getElem?_eq_some_iff.mp h2).1
  rw [take_get h1, take_get h2, List.zip_append (by rw [List.length_take, List.length_take]; omega), List.filter_append, List.map_append]
  congr 1
  show (([(r, ms)] : List (Addr × MD)).filter fun e => p e.2).map (·.1) = _
  by_cases c : p ms = true
  · rw [if_pos c, List.filter_cons_of_pos (p := fun e : Addr × MD => p e.2) c]
    rfl
  · rw [if_neg c, List.filter_cons_of_neg (p := fun e : Addr × MD => p e.2) c]
    rfl
theorem pick_len (p : MD → Bool) (rs : List Addr) (R : List MD) : (pick p rs R).length ≤ rs.length := by
  unfold pick
  rw [List.length_map]
  refine Nat.le_trans (List.length_filter_le _ _) ?_
  rw [List.length_zip]
  omega
theorem pick_congr {p p' : MD → Bool} (h : ∀ ms, p ms = p' ms) (rs : List Addr) (R : List MD) : pick p rs R = pick p' rs R := by
  have e : p = p' := funext h
  rw [e]
theorem pick_none {p : MD → Bool} (h : ∀ ms, p ms = false) (rs : List Addr) (R : List MD) : pick p rs R = [] := by
  unfold pick
  rw [List.filter_eq_nil_iff.mpr fun e _ => by rw [h]; decide]
  rfl
theorem clash_str {b c : BD} (hb : BdB b) (hc : BdB c) (h : joinedF b c = none) : ∃ n v w, clashV b c = .str n ∧ at? b n = some v ∧ at? c n = some w ∧ v.filter (fun x => decide (x ∈ w)) = [] := by
  cases e : clashL b c with
  | nil =>
    have z : clashV b c = .non := by
      unfold clashV
      rw [e]
      rfl
    exact absurd h ((clash_iff b c).mp z)
  | cons y ys =>
    have hm : minS y ys ∈ clashL b c := by
      rw [e]
      exact (minS_spec ys y).1
    obtain ⟨v, w, h1, h2, h3⟩ := (clash_mem hb.2.2 hc.2.2 _).mp hm
    refine ⟨minS y ys, v, w, ?_, h1, h2, ?_⟩
    · unfold clashV
      rw [e]
      rfl
    · rw [List.filter_eq_nil_iff]
      exact fun x hx z => h3 x hx (of_decide_eq_true z)
theorem FtsN.b {ds : List FtD} (h : FtsN ds) : FtsB ds := ⟨Nat.le_trans h.2.1 (by decide), fun d hd => (h.2.2.2 d hd).1⟩
theorem OfF.nd {ds : List FtD} {b : BD} (h : ∀ e ∈ b, OfF ds e) : Nd b := fun e he => by
  obtain ⟨_, _, _, _, z⟩ := h e he
  exact z
theorem OfF.names {ds : List FtD} {b : BD} (h : ∀ e ∈ b, OfF ds e) : inF (b.map (·.1)) (ds.map (·.n)) = true := by
  unfold inF
  rw [List.all_eq_true]
  intro n hn
  obtain ⟨e, he, rfl⟩ := List.mem_map.mp hn
  obtain ⟨f, hf, en, _⟩ := h e he
  exact decide_eq_true (List.mem_map.mpr ⟨f, hf, en⟩)
section
variable {P : Program} {w : World} {K : PySem.W.Frag} {mg : Str → Option Value} {base : Heap}
/-! ### two right -/
abbrev NT2 : List Str := ["_law_features", "_law_every_here", "_law_one", "_law_other", "_law_both", "_law_good", "_law_name", "_law_names_here", "_law_rows", "_law_marks", "_law_value", "_law_feature", "_law_row"]
def spTwo (Ps : List Addr) : Sp := fun vs H Q _ => ∃ (fl el a b : Addr) (ys : List V) (ds : List FtD) (rs : List Addr) (R : List MD) (A B : BD), vs = [.ref fl, .ref el, .ref a, .ref b] ∧ H fl = some (.lst ys) ∧ Fts H ys ds ∧ FtsN ds ∧ H el = some (.lst (rs.map V.ref)) ∧ Mks H rs R ∧ rs.length ≤ 64 ∧ Bd H a A ∧ Bd H b B ∧ A.length ≤ 6 ∧ B.length ≤ 6 ∧ (∀ e ∈ A, OfF ds e) ∧ (∀ e ∈ B, OfF ds e) ∧ Tabs Ps H ∧ ∀ H', SameN Ps H H' → Q (.bl true) H'
theorem ok_two {f fJ fC fS fT fL fH : Addr} {fd dJ dC dS dT dL dH : FuncData} {Ps : List Addr} (F : Fun K "_law_two_right" "_law_two_right" s_l_two_right f fd)
    (kJ : PySem.W.keepIn K (.ref fJ) = true) (bJ : Binds K dJ ["one", "other"] []) (gJ : mg "joined" = some (.ref fJ)) (GJ : FnOk P w K mg base CX0 2 fJ dJ ["one", "other"] spJ)
    (kC : PySem.W.keepIn K (.ref fC) = true) (bC : Binds K dC ["one", "other"] []) (gC : mg "clash" = some (.ref fC)) (GC : FnOk P w K mg base CX0 2 fC dC ["one", "other"] spClash)
    (kS : PySem.W.keepIn K (.ref fS) = true) (bS : Binds K dS ["_law_bundle_here"] []) (gS : mg "_law_as_sets" = some (.ref fS)) (GS : FnOk P w K mg base CX0 1 fS dS ["_law_bundle_here"] spS)
    (kT : PySem.W.keepIn K (.ref fT) = true) (bT : Binds K dT ["bundle", "marks"] []) (gT : mg "lets" = some (.ref fT)) (GT : FnOk P w K mg base CX0 4 fT dT ["bundle", "marks"] (spLets Ps))
    (kL : PySem.W.keepIn K (.ref fL) = true) (bL : Binds K dL ["one", "other"] []) (gL : mg "lies_in" = some (.ref fL)) (GL : FnOk P w K mg base CX0 8 fL dL ["one", "other"] (spLies Ps))
    (kH : PySem.W.keepIn K (.ref fH) = true) (bH : Binds K dH ["features", "names", "bundle"] []) (gH : mg "choices" = some (.ref fH)) (GH : FnOk P w K mg base CX0 5 fH dH ["features", "names", "bundle"] (spChoices Ps)) : FnOk P w K mg base CX0 9 f fd ["_law_features", "_law_every_here", "_law_one", "_law_other"] (spTwo Ps) := by
  refine F.ok sc_l_two_right (fun vs H Q E h => ?_) (fun cdv A outer s H vs Q E hr h => ?_)
  · obtain ⟨fl, el, a, b, ys, ds, rs, R, BA, BB, rfl, _⟩ := h
    rfl
  · obtain ⟨fl, el, a, b, ys, ds, rs, R, BA, BB, rfl, hfl, hF, hN, hel, hM, hrl, hA, hB, lA, lB, oA, oB, hT, q⟩ := h
    have h65 : (cxOf CX0 P w K mg base NT2 "_law_two_right" (defScope s_l_two_right) f cdv A outer s H E).A.units + 65 < cLine := by
      have := hr.un
      show (A.deeper _).units + 65 < cLine
      omega
    refine ⟨_, pss_cons (ps_set (i := 4) sc_l_two_right.nd rfl (.inr rfl) (pe_call GJ (hr.mono (by decide)) (by rfl) gJ kJ bJ .nil pass0 (pa_cons (pv 2) (pa_cons (pv 3) pa_nil))))
      (C8.pss_cut (ps_setLc (i := 5) (own := [("_law_marks", 9)]) (g := gName 9) rfl sc_l_two_right.nd rfl rfl (sw_true rfl rfl rfl (by decide +kernel)) (pi_list (pv 1))
        (blkOk_by (own := [("_law_marks", 9)]) (N := NT2) (sc := defScope s_l_two_right) (by decide +kernel))
        (fun _ _ _ _ _ => pg_name (i := 9) sc_l_two_right.nd rfl (Or.inl rfl)) (fun _ _ _ _ _ => pts_one (PW.pt (pw_and (pt_val (pe_call GT (hr.mono (by decide)) (by rfl) gT kT bT .nil pass0 (pa_cons (pv 2) (pa_cons (pv 9) pa_nil)))) (pw_and1 (pt_val (pe_call GT (hr.mono (by decide)) (by rfl) gT kT bT .nil pass0 (pa_cons (pv 3) (pa_cons (pv 9) pa_nil)))))))) (fun _ _ _ _ _ => pv 9))
      (pss_cons (ps_set (i := 6) sc_l_two_right.nd rfl (.inr rfl) (pe_call GC (hr.mono (by decide)) (by rfl) gC kC bC .nil pass0 (pa_cons (pv 2) (pa_cons (pv 3) pa_nil))))
      (pss_cons (ps_if (pt_cmpR op_isN (pv 4) pe_non (nomark _))
        (pss_cons (ps_if (PW.pt (pw_or (pt_cmpR op_isN (pv 6) pe_non (nomark _)) (pw_or1 (pt_cmpR (op_neD hr.units) (pe_lc (own := [("_law_value", 10)]) (g := gName 10) rfl sc_l_two_right.nd (pi_list (pe_dget (hu_of hr) (pv 2) (pv 6) (fun _ _ => rfl)))
              (blkOk_by (own := [("_law_value", 10)]) (N := NT2) (sc := defScope s_l_two_right) (by decide +kernel))
              (fun _ _ _ _ _ => pg_name (i := 10) sc_l_two_right.nd rfl (Or.inl rfl)) (fun _ _ _ _ _ => pts_one (pt_cmpR (op_inK (K := K) rfl) (pv 10) (pe_dget (hu_of hr) (pv 3) (pv 6) (fun _ _ => rfl)) (by rfl))) (fun _ _ _ _ _ => pv 10)) (pe_lst pa_nil) (nomark _)))))
            (pss_one (ps_ret pe_bl)) pss_nil)
        (pss_one (ps_ret (pe_and (pe_cmpR (op_eqD hr.units) (pv 5) (pe_lst pa_nil) (nomark _)) (pe_one (pe_cmpR op_isN (pe_call GJ (hr.mono (by decide)) (by rfl) gJ kJ bJ .nil pass0 (pa_cons (pv 3) (pa_cons (pv 2) pa_nil))) pe_non (nomark _))))))) pss_nil)
      (pss_cons (ps_if (PW.pt (pw_or (pt_cmpR op_notN (pv 6) pe_non (nomark _)) (pw_or1 (pt_cmpR (op_neDD hr.units) (pe_call GS (hr.mono (by decide)) (by rfl) gS kS bS .nil pass0 (pa_cons (pe_call GJ (hr.mono (by decide)) (by rfl) gJ kJ bJ .nil pass0 (pa_cons (pv 3) (pa_cons (pv 2) pa_nil))) pa_nil)) (pe_call GS (hr.mono (by decide)) (by rfl) gS kS bS .nil pass0 (pa_cons (pv 4) pa_nil)) (nomark _)))))
        (pss_one (ps_ret pe_bl)) pss_nil)
      (pss_cons (ps_if (PW.pt (pw_or (pt_cmpR (op_neV hr.units) (pv 5) (pe_lc (own := [("_law_marks", 9)]) (g := gName 9) rfl sc_l_two_right.nd (pi_list (pv 1))
            (blkOk_by (own := [("_law_marks", 9)]) (N := NT2) (sc := defScope s_l_two_right) (by decide +kernel))
            (fun _ _ _ _ _ => pg_name (i := 9) sc_l_two_right.nd rfl (Or.inl rfl)) (fun _ _ _ _ _ => pts_one (pt_val (pe_call GT (hr.mono (by decide)) (by rfl) gT kT bT .nil pass0 (pa_cons (pv 4) (pa_cons (pv 9) pa_nil))))) (fun _ _ _ _ _ => pv 9)) (nomark _))
          (pw_or1 (pt_not (pt_val (pe_call GL hr (by rfl) gL kL bL .nil pass0 (pa_cons (pv 4) (pa_cons (pv 2) pa_nil))))))))
        (pss_one (ps_ret pe_bl)) pss_nil)
      (pss_cons (ps_set (i := 7) sc_l_two_right.nd rfl (.inr rfl) (pe_lc (own := [("_law_feature", 11)]) (g := gName 11) (tt := tYes) rfl sc_l_two_right.nd (pi_list (pv 0))
        (blkOk_by (own := [("_law_feature", 11)]) (N := NT2) (sc := defScope s_l_two_right) (by decide +kernel))
        (fun _ _ _ _ _ => pg_name (i := 11) sc_l_two_right.nd rfl (Or.inl rfl)) (fun _ _ _ _ _ => pts_nil) (fun _ _ _ _ _ => pe_ix (ix_tupK (K := K) rfl) (pv 11) pe_int (fun _ _ => rfl))))
      (pss_cons (ps_setLc (i := 8) (own := [("_law_row", 12)]) (g := gName 12) rfl sc_l_two_right.nd rfl rfl (sw_true rfl rfl rfl (by decide +kernel)) (pi_list (pe_call GH (hr.mono (by decide)) (by rfl) gH kH bH .nil pass0 (pa_cons (pv 0) (pa_cons (pv 7) (pa_cons (pv 2) pa_nil)))))
        (blkOk_by (own := [("_law_row", 12)]) (N := NT2) (sc := defScope s_l_two_right) (by decide +kernel))
        (fun _ _ _ _ _ => pg_name (i := 12) sc_l_two_right.nd rfl (Or.inl rfl)) (fun _ _ _ _ _ => pts_one (pt_cmpR (op_inDK (K := K) rfl h65) (pv 12) (pe_call GH (hr.mono (by decide)) (by rfl) gH kH bH .nil pass0 (pa_cons (pv 0) (pa_cons (pv 7) (pa_cons (pv 3) pa_nil)))) (by rfl))) (fun _ _ _ _ _ => pv 12))
      (pss_one (ps_ret (pe_and (pe_call GL hr (by rfl) gL kL bL .nil pass0 (pa_cons (pv 4) (pa_cons (pv 3) pa_nil))) (pe_one (pe_cmpR (op_eqD hr.units) (pe_call GH (hr.mono (by decide)) (by rfl) gH kH bH .nil pass0 (pa_cons (pv 0) (pa_cons (pv 7) (pa_cons (pv 4) pa_nil)))) (pv 8) (nomark _))))))))))))), ?_⟩
    refine ⟨_, rfl, _, rfl, a, b, BA, BB, rfl, hA, hB, by omega, fun x1 H1 s1 o1 => ?_⟩
    have hel1 := s1 _ _ hel
    have hM1 := hM.same s1
    have t1 : Tabs Ps H1 := hT.same s1
    have hA1 := hA.same s1
    have hB1 := hB.same s1
    have hlR : rs.length = R.length := Paired.length hM
    refine ⟨fun σ HM => ∃ D, σ = [some (.ref fl), some (.ref el), some (.ref a), some (.ref b), some x1, some (.ref D), none, none, none, none, none, none, none] ∧ SameN Ps H1 HM ∧ HM D = some (.lst ((pick (fun ms => letsF BA ms && letsF BB ms) rs R).map V.ref)), ?_, fun σ HM hM' => ?_⟩
    · refine ⟨_, rfl, el, rfl, ⟨_, .inl (.inl hel1)⟩, fun D nD => ?_⟩
      refine lc_list (K := K) (a := el) (xs := rs.map V.ref) (fun i HX => SameN Ps H1 HX ∧ HX D = some (.lst ((pick (fun ms => letsF BA ms && letsF BB ms) (rs.take i) (R.take i)).map V.ref))) ⟨(SameN.refl t1).new nD, upd_same⟩ (fun i HX _ h => .inl (.inl (h.1.k _ _ nt_lst hel1))) (fun i x HX hx hP => ?_) (fun HX hP => ?_)
      · obtain ⟨sX, hD⟩ := hP
        rw [List.getElem?_map] at hx
        obtain ⟨r, er, ex⟩ := Option.map_eq_some_iff.mp hx
        subst ex
        obtain ⟨ms, hmi, hmk⟩ := paired_at hM1 er
        have stay : ∀ {HZ : Hp}, SameN Ps HX HZ → (letsF BA ms && letsF BB ms) = false → SameN Ps H1 HZ ∧ HZ D = some (.lst ((pick (fun ms => letsF BA ms && letsF BB ms) (rs.take (i + 1)) (R.take (i + 1))).map V.ref)) := fun {HZ} sz e => ⟨sX.trans sz, by
          rw [pick_snoc er hmi, if_neg (by rw [e]; decide), List.append_nil]
          exact sz.k _ _ nt_lst hD⟩
        refine ⟨rfl, _, rfl, _, rfl, a, r, BA, ms, rfl, hA1.sameN sX, hmk.sameN sX, sX.t, fun HY sY => ⟨_, rfl, ?_⟩⟩
        cases e1 : letsF BA ms with
        | false => exact iteF (iteF (stay sY (by rw [e1]; rfl)))
        | true =>
          refine iteT ⟨_, rfl, _, rfl, b, r, BB, ms, rfl, (hB1.sameN sX).sameN sY, (hmk.sameN sX).sameN sY, sY.t, fun HZ sZ => ⟨_, rfl, ?_⟩⟩
          have sYZ := sY.trans sZ
          cases e2 : letsF BB ms with
          | false => exact iteF (stay sYZ (by rw [e1, e2]; rfl))
          | true =>
            have hDZ := sYZ.k _ _ nt_lst hD
            refine iteT ⟨_, rfl, _, hDZ, ?_, (sX.trans sYZ).own nD hDZ nt_lst, ?_⟩
            · rw [List.length_map]
              refine small1000 (Nat.le_trans (pick_len _ _ _) ?_)
              rw [List.length_take]
              omega
            · rw [upd_same, pick_snoc er hmi, if_pos (by rw [e1, e2]; rfl), List.map_append]
              rfl
      · obtain ⟨sX, hD⟩ := hP
        have e1 : (rs.map V.ref).length = rs.length := List.length_map _
        rw [e1, List.take_length, hlR, List.take_length] at hD
        exact ⟨D, rfl, sX, hD⟩
    obtain ⟨D, rfl, sM, hD⟩ := hM'
    refine ⟨_, rfl, _, rfl, a, b, BA, BB, rfl, hA1.sameN sM, hB1.sameN sM, fun H3 s3 => ?_⟩
    have s13 : SameN Ps H1 H3 := sM.same s3
    have s03 : SameN Ps H H3 := (SameN.of hT s1).trans s13
    have hD3 := s3 _ _ hD
    replace o1 := o1.sameN s13
    have hA3 := hA1.sameN s13
    have hB3 := hB1.sameN s13
    refine ⟨_, rfl, rfl, _, rfl, ?_⟩
    rw [o1.isN]
    cases e : joinedF BA BB with
    | none =>
      obtain ⟨n, v, wv, hc, h1, h2, h3⟩ := clash_str hA.b hB.b e
      have eg : pick (fun ms => letsF BA ms && letsF BB ms) rs R = [] := pick_none (fun ms => lets_none hA.b hB.b e ms) rs R
      rw [eg] at hD3
      rw [hc]
      obtain ⟨ka, ha, hEa, _⟩ := hA3
      obtain ⟨kb, hb, hEb, _⟩ := hB3
      rcases hEa.val n with ⟨z, _⟩ | ⟨la, va, a1, a2, a3, _⟩
      · rw [h1] at z
        cases z
      rcases hEb.val n with ⟨z, _⟩ | ⟨lb, vb, b1, b2, b3, _⟩
      · rw [h2] at z
        cases z
      rw [h1] at a1
      rw [h2] at b1
      cases a1
      cases b1
      refine iteT ⟨_, rfl, rfl, false, rfl, iteF ⟨_, rfl, _, rfl, a, V.ref la, rfl, .inl ⟨ka, .inr n, .inl ha, rfl, a2.symm⟩, la, rfl, ⟨_, .inl (.inl a3)⟩, fun D2 nD2 => ?_⟩⟩
      refine lc_list (K := K) (a := la) (xs := v.map V.str) (fun j HZ => Same H3 HZ ∧ HZ D2 = some (.lst [])) ⟨same_new nD2, upd_same⟩ (fun j HZ _ h => .inl (.inl (h.1 _ _ a3))) (fun j x HZ hx hP => ?_) (fun HZ hP => ?_)
      · obtain ⟨sZ, hDZ⟩ := hP
        rw [List.getElem?_map] at hx
        obtain ⟨y, ey, ex⟩ := Option.map_eq_some_iff.mp hx
        subst ex
        have no : y ∉ wv := fun z => by
          have := List.filter_eq_nil_iff.mp h3 y (List.mem_of_getElem? ey)
          exact this (decide_eq_true z)
        refine ⟨rfl, _, rfl, _, rfl, _, rfl, b, V.ref lb, rfl, .inl ⟨kb, .inr n, .inl (sZ _ _ hb), rfl, b2.symm⟩, lb, _, rfl, .inl (.inl (.inl (sZ _ _ b3))), rfl, flat_strs wv, _, rfl, ?_⟩
        show (if inV (V.str y) (wv.map V.str) = true then _ else _)
        rw [inV_str, decide_eq_false no]
        exact iteF ⟨sZ, hDZ⟩
      · obtain ⟨sZ, hDZ⟩ := hP
        refine ⟨Nat.zero_le _, fun p2 np2 => ?_⟩
        have sP : Same HZ (upd HZ p2 (.lst [])) := same_new np2
        refine ⟨.list [], .list [], .lst (.inl (.inl (sP _ _ hDZ))) .nil, .lst (.inl (.inl upd_same)) .nil, rfl, rfl, false, rfl, iteF ?_⟩
        generalize upd HZ p2 (.lst []) = HQ at sP ⊢
        have s3Q := sZ.trans sP
        refine ⟨_, rfl, Nat.zero_le _, fun p3 np3 => ?_⟩
        have sR : Same HQ (upd HQ p3 (.lst [])) := same_new np3
        refine ⟨.list [], .list [], .lst (.inl (.inl (sR _ _ (s3Q _ _ hD3)))) .nil, .lst (.inl (.inl upd_same)) .nil, rfl, rfl, true, rfl, iteT ?_⟩
        generalize upd HQ p3 (.lst []) = HR at sR ⊢
        have s0R := s03.same (s3Q.trans sR)
        refine ⟨_, rfl, _, rfl, b, a, BB, BA, rfl, hB.sameN s0R, hA.sameN s0R, by omega, fun x2 H5 s5 o2 => ⟨rfl, ?_⟩⟩
        rw [joined_comm_none e] at o2
        have o2' : x2 = .non := o2
        rw [o2']
        exact q _ (s0R.same s5)
    | some es =>
      have ees := (joined_ents e).1
      rw [e] at o1
      obtain ⟨p1, rfl, hp1⟩ := o1
      rw [ees] at hp1
      have hc : clashV BA BB = .non := (clash_iff BA BB).mpr (by rw [e]; exact fun z => nomatch z)
      rw [hc]
      refine iteF ⟨_, rfl, rfl, false, rfl, iteF ⟨_, rfl, _, rfl, b, a, BB, BA, rfl, hB3, hA3, by omega, fun x2 H4 s4 o2 => ⟨x2, _, rfl, o2, fun y2 H5 s5 q2 => ⟨_, rfl, .ref p1, some (entsF BA BB), rfl, ⟨p1, rfl, (hp1.same s4).same s5⟩, fun y1 H6 s6 q1 => ⟨?_, false, rfl, iteF ?_⟩⟩⟩⟩⟩
      · refine ne_sets (q2.same s6) q1 ⟨fun z => ?_, fun z => nomatch z⟩ fun X Y hX hY => ?_
        · rw [joined_comm_none z] at e
          cases e
        · cases hY
          rw [(joined_ents hX).1]
          exact eqS_comm (OfF.nd oB) (OfF.nd oA)
      have s36 := (s4.trans s5).trans s6
      have s06 := s03.same s36
      have hD6 := s36 _ _ hD3
      have hp6 := hp1.same s36
      have hel6 := s06.k _ _ nt_lst hel
      have hM6 := hM.sameN s06
      refine ⟨_, rfl, _, rfl, el, rfl, ⟨_, .inl (.inl hel6)⟩, fun D2 nD2 => ?_⟩
      refine lc_list (K := K) (a := el) (xs := rs.map V.ref) (fun i HX => SameN Ps H6 HX ∧ HX D2 = some (.lst ((pick (fun ms => letsF (entsF BA BB) ms) (rs.take i) (R.take i)).map V.ref))) ⟨(SameN.refl s06.t).new nD2, upd_same⟩ (fun i HX _ h => .inl (.inl (h.1.k _ _ nt_lst hel6))) (fun i x HX hx hP => ?_) (fun HX hP => ?_)
      · obtain ⟨sX, hDX⟩ := hP
        rw [List.getElem?_map] at hx
        obtain ⟨r, er, ex⟩ := Option.map_eq_some_iff.mp hx
        subst ex
        obtain ⟨ms, hmi, hmk⟩ := paired_at hM6 er
        refine ⟨rfl, _, rfl, _, rfl, p1, r, entsF BA BB, ms, rfl, hp6.sameN sX, hmk.sameN sX, sX.t, fun HY sY => ⟨_, rfl, ?_⟩⟩
        have hDY := sY.k _ _ nt_lst hDX
        cases e1 : letsF (entsF BA BB) ms with
        | false =>
          refine iteF ⟨sX.trans sY, ?_⟩
          rw [pick_snoc er hmi, if_neg (by rw [e1]; decide), List.append_nil]
          exact hDY
        | true =>
          refine iteT ⟨_, rfl, _, hDY, ?_, (sX.trans sY).own nD2 hDY nt_lst, ?_⟩
          · rw [List.length_map]
            refine small1000 (Nat.le_trans (pick_len _ _ _) ?_)
            rw [List.length_take]
            omega
          · rw [upd_same, pick_snoc er hmi, if_pos (by rw [e1]), List.map_append]
            rfl
      obtain ⟨sX, hDX⟩ := hP
      have e1 : (rs.map V.ref).length = rs.length := List.length_map _
      rw [e1, List.take_length, hlR, List.take_length, pick_congr (fun ms => lets_both hA.b.1 hB.b.1 ms)] at hDX
      have s0X := s06.trans sX
      refine ⟨D, D2, _, _, 1, rfl, rfl, .inl (.inl (sX.k _ _ nt_lst hD6)), .inl (.inl hDX), by decide, eq_refs _, false, rfl, iteF ?_⟩
      refine ⟨_, rfl, _, rfl, p1, a, entsF BA BB, BA, rfl, hp6.sameN sX, hA.sameN s0X, sX.t, fun H8 s8 => ?_⟩
      rw [lies_left hA.b.1]
      refine ⟨true, rfl, iteF ?_⟩
      have s08 := s0X.trans s8
      have s68 := sX.trans s8
      -- names
      have hlen : ys.length = ds.length := Paired.length hF
      have hl3 := hN.2.1
      have hfl8 := s08.k _ _ nt_lst hfl
      have hF8 := hF.sameN s08
      refine ⟨_, rfl, fl, rfl, ⟨_, .inl (.inl hfl8)⟩, fun NL nNL => ?_⟩
      refine lc_list (K := K) (a := fl) (xs := ys) (fun i HY => Same H8 HY ∧ HY NL = some (.lst (((ds.take i).map (·.n)).map V.str))) ⟨same_new nNL, upd_same⟩ (fun i HY _ h => .inl (.inl (h.1 _ _ hfl8))) (fun i x HY hx hP => ?_) (fun HY hP => ?_)
      · obtain ⟨sY, hNL⟩ := hP
        obtain ⟨d, hdi, p, l, rfl, f1, f2, f3⟩ := paired_at hF8 hx
        refine ⟨rfl, tYes_in ⟨_, rfl, p, _, _, V.str d.n, rfl, rfl, .inl (.inl (sY _ _ f1)), rfl, _, hNL, ?_, Same.own sY nNL, ?_⟩⟩
        · rw [List.length_map, List.length_map, List.length_take]
          exact small1000 (by omega)
        · rw [upd_same, take_get hdi, List.map_append, List.map_append]
          rfl
      obtain ⟨sY, hNL⟩ := hP
      rw [hlen, List.take_length] at hNL
      have s0Y := s08.same sY
      have hpY := (hp6.sameN s68).same sY
      have nin : ∀ n ∈ ds.map (·.n), n ∈ ds.map (·.n) := fun n hn => hn
      have n6 : (ds.map (·.n)).length ≤ 6 := by rw [List.length_map]; omega
      have iA := OfF.names oA
      have iB := OfF.names oB
      have hcb := choices_both (kb := knownF ds) iA iB
      have okA := choicesF_ok hN.b (ds.map (·.n)) BA
      have okB' := choicesF_ok hN.b (ds.map (·.n)) BB
      have okC := choicesF_ok hN.b (ds.map (·.n)) (entsF BA BB)
      have lnA := choicesF_len hN.b n6 BA
      -- rows
      refine ⟨_, rfl, _, rfl, _, rfl, fl, NL, a, ys, ds, ds.map (·.n), BA, rfl, s0Y.k _ _ nt_lst hfl, hF.sameN s0Y, by omega, hNL, n6, nin, hA.sameN s0Y, s0Y.t, fun r1 HZ nr1 sZ hr1 => ?_⟩
      obtain ⟨ts, hts1, hts2⟩ := hr1
      have htl : ts.length = (choicesF (knownF ds) (ds.map (·.n)) BA).length := Paired.length hts2
      have s0Z := s0Y.trans sZ
      refine ⟨r1, rfl, ⟨_, .inl (.inl hts1)⟩, fun D3 nD3 => ?_⟩
      refine lc_list (K := K) (a := r1) (xs := ts.map V.ref) (fun i HW => SameN Ps HZ HW ∧ ∃ us : List Addr, HW D3 = some (.lst (us.map V.ref)) ∧ Tps HW us (((choicesF (knownF ds) (ds.map (·.n)) BA).take i).filter fun r => decide (r ∈ choicesF (knownF ds) (ds.map (·.n)) BB))) ⟨(SameN.refl sZ.t).new nD3, [], upd_same, .nil⟩ (fun i HW _ h => .inl (.inl (h.1.k _ _ nt_lst hts1))) (fun i x HW hx hP => ?_) (fun HW hP => ?_)
      · obtain ⟨sW, us, hD3', hus⟩ := hP
        rw [List.getElem?_map] at hx
        obtain ⟨t, et, ex⟩ := Option.map_eq_some_iff.mp hx
        subst ex
        obtain ⟨row, hrow, ht⟩ := paired_at hts2 et
        have s0W := s0Z.trans sW
        have hi : i < (choicesF (knownF ds) (ds.map (·.n)) BA).length := (List.getElem?_eq_some_iff.mp hrow).1
        refine ⟨rfl, _, rfl, _, rfl, _, rfl, _, rfl, fl, NL, b, ys, ds, ds.map (·.n), BB, rfl, s0W.k _ _ nt_lst hfl, hF.sameN s0W, by omega, sW.k _ _ nt_lst (sZ.k _ _ nt_lst hNL), n6, nin, hB.sameN s0W, sW.t, fun r2 HV nr2 sV hr2 => ?_⟩
        obtain ⟨vs, hv1, hv2⟩ := hr2
        have htV := sV.k _ _ nt_tup (sW.k _ _ nt_tup ht)
        have hDV := sV.k _ _ nt_lst hD3'
        refine ⟨rowDat row, _, .tup (.inl (.inl htV)) (strs_dp _), .lst (.inl (.inl hv1)) hv2.dp, row_shaped (okA row (List.mem_of_getElem? hrow)), rows_list okB', _, rfl, ?_⟩
        rw [rows_any]
        by_cases c : row ∈ choicesF (knownF ds) (ds.map (·.n)) BB
        · rw [decide_eq_true c]
          have hul : us.length ≤ 46656 := by
            rw [Paired.length hus]
            refine Nat.le_trans (List.length_filter_le _ _) ?_
            rw [List.length_take]
            omega
          refine iteT ⟨_, rfl, _, hDV, by rw [List.length_map]; exact Nat.lt_of_le_of_lt hul (by decide), (sW.trans sV).own nD3 hDV nt_lst, us ++ [t], ?_, ?_⟩
          · rw [upd_same, List.map_append]
            rfl
          · rw [filter_snoc hrow, if_pos (decide_eq_true c)]
            exact Tps.updL (paired_snoc (hus.sameN sV) htV) hDV
        · rw [decide_eq_false c]
          refine iteF ⟨sW.trans sV, us, hDV, ?_⟩
          rw [filter_snoc hrow, if_neg (by rw [decide_eq_false c]; decide), List.append_nil]
          exact hus.sameN sV
      obtain ⟨sW, us, hD3', hus⟩ := hP
      rw [List.length_map, htl, List.take_length, ← hcb] at hus
      have s0W := s0Z.trans sW
      have sYW := sZ.trans sW
      refine ⟨_, rfl, _, rfl, p1, b, entsF BA BB, BB, rfl, hpY.sameN sYW, hB.sameN s0W, sW.t, fun HU sU => ?_⟩
      rw [lies_right hB.b.1]
      have s0U := s0W.trans sU
      have sYU := sYW.trans sU
      refine ⟨true, rfl, iteT ⟨_, rfl, _, rfl, _, rfl, fl, NL, p1, ys, ds, ds.map (·.n), entsF BA BB, rfl, s0U.k _ _ nt_lst hfl, hF.sameN s0U, by omega, sYU.k _ _ nt_lst hNL, n6, nin, hpY.sameN sYU, sU.t, fun r3 HQ nr3 sQ hr3 => ?_⟩⟩
      obtain ⟨qs, hq1, hq2⟩ := hr3
      have hshape := rows_list okC
      refine ⟨_, rfl, _, _, .lst (.inl (.inl hq1)) hq2.dp, .lst (.inl (.inl (sQ.k _ _ nt_lst (sU.k _ _ nt_lst hD3')))) ((hus.sameN sU).sameN sQ).dp, hshape, hshape, ?_⟩
      rw [SeqAt.eqv_refl _ (SeqAt.canLay_of_shaped hshape)]
      exact q _ (s0U.trans sQ)
end
end Bn

namespace Bn
open PySem PySem.Spec PyProof.Rows L2 BR GX RM
theorem cells_len {ns : List Int} (n : Int) : ((cutV (ns.map V.int) none (some 8)) ++ [V.int n]).length ≤ 9 := by
  rw [List.length_append]
  unfold cutV
  rw [List.length_take]
  have : HT.sIx (ns.map V.int).length (ns.map V.int).length (some 8) ≤ 8 := by
    rw [show (some (8 : Int)) = some ((8 : Nat) : Int) from rfl, HT.sIx_nat]
    omega
  show min _ _ + 1 ≤ 9
  omega
theorem cells_int {ns : List Int} (n : Int) : ∀ v ∈ ((cutV (ns.map V.int) none (some 8)) ++ [V.int n]), ∃ m : Int, v = .int m := by
  intro v hv
  rcases List.mem_append.mp hv with z | z
  · unfold cutV at z
    obtain ⟨m, _, e⟩ := List.mem_map.mp (List.mem_of_mem_drop (List.mem_of_mem_take z))
    exact ⟨m, e.symm⟩
  · exact ⟨n, List.mem_singleton.mp z⟩
theorem Mks.kp {b : Addr} {H H' : Hp} {rs : List Addr} {R : List MD} (h : Mks H rs R) (hb : Bx H b) (k : Kp b H H') : Mks H' rs R := paired_mono h fun r ms e => k _ _ (ne_bx hb (show H r = some (.dK (mkv ms)) from e) (fun _ _ _ _ z => by cases z)) e
theorem Bd.updR {H : Hp} {D p : Addr} {d : BD} {ps : List Addr} {o : HO} (h : Bd H p d) (hD : H D = some (.lst (ps.map V.ref))) : Bd (upd H D o) p d := by
  obtain ⟨kvs, e, hE, hB⟩ := h
  refine ⟨kvs, by rw [upd_ne (ne_of e hD (by intro z; cases z))]; exact e, hE.mono fun l xs hl ⟨n, hm⟩ => ?_, hB⟩
  rw [upd_ne fun z => ?_]
  · exact hl
  · obtain ⟨e', he', hl'⟩ := hE.vals hm
    rw [z, hD] at hl'
    exact strs_ne_refs (hB.2.2 e' he').2.1 (HO.lst.inj (Option.some.inj hl')).symm
/-- bundles of these features -/
abbrev Bf (ds : List FtD) (H : Hp) (ps : List Addr) (L : List BD) : Prop := Paired (fun p d => Bd H p d ∧ d.length ≤ 6 ∧ ∀ e ∈ d, OfF ds e) ps L
theorem Bf.same {ds : List FtD} {H H' : Hp} {ps : List Addr} {L : List BD} (h : Bf ds H ps L) (s : Same H H') : Bf ds H' ps L := paired_mono h fun _ _ x => ⟨x.1.same s, x.2⟩
theorem Bf.kp {ds : List FtD} {b : Addr} {H H' : Hp} {ps : List Addr} {L : List BD} (h : Bf ds H ps L) (hb : Bx H b) (k : Kp b H H') : Bf ds H' ps L := paired_mono h fun _ _ x => ⟨x.1.kp hb k, x.2⟩
theorem Bf.updR {ds : List FtD} {H : Hp} {D : Addr} {ps qs : List Addr} {L : List BD} {o : HO} (h : Bf ds H ps L) (hD : H D = some (.lst (qs.map V.ref))) : Bf ds (upd H D o) ps L := paired_mono h fun _ _ x => ⟨x.1.updR hD, x.2⟩
theorem refs_ne_ints (ps : List Addr) : ∀ x y z t : Int, HO.lst (ps.map V.ref) ≠ .lst [.int x, .int y, .int z, .int t] := fun x y z t e => by
  injection e with e1
  cases ps with
  | nil => cases e1
  | cons p r =>
    rw [List.map_cons] at e1
    injection e1 with e2 _
    cases e2
section
variable {P : Program} {w : World} {K : PySem.W.Frag} {mg : Str → Option Value} {base : Heap}
abbrev NL : List Str := ["_law_script", "_law_k", "_law_cell_here", "_law_box_here", "_law_features", "_law_every_here", "_law_bundles", "_law_marks", "_law_turn", "_law_bundle_here"]
def spLaw (K : PySem.W.Frag) (Ps : List Addr) : Sp := fun vs H Q _ => ∃ (a : Addr) (ns : List Int), vs = [.ref a] ∧ SqL K H a (ns.map V.int) ∧ ns.length ≤ 63 ∧ Tabs Ps H ∧ ∀ H', Q (.bl true) H'
theorem ok_law {f f1 f2 f3 f4 f5 f6 f7 f8 f9 : Addr} {fd d1 d2 d3 d4 d5 d6 d7 d8 d9 : FuncData} {Ps : List Addr} (F : Fun K "law" "law" s_law f fd)
    (k1 : PySem.W.keepIn K (.ref f1) = true) (b1 : Binds K d1 ["_law_cell_here", "_law_k"] []) (g1 : mg "_law_box" = some (.ref f1)) (G1 : FnOk P w K mg base CX0 1 f1 d1 ["_law_cell_here", "_law_k"] spBox)
    (k2 : PySem.W.keepIn K (.ref f2) = true) (b2 : Binds K d2 ["_law_box_here"] []) (g2 : mg "_law_small" = some (.ref f2)) (G2 : FnOk P w K mg base CX0 5 f2 d2 ["_law_box_here"] spSmall)
    (k3 : PySem.W.keepIn K (.ref f3) = true) (b3 : Binds K d3 ["_law_features"] []) (g3 : mg "_law_every" = some (.ref f3)) (G3 : FnOk P w K mg base CX0 1 f3 d3 ["_law_features"] spEvery)
    (k4 : PySem.W.keepIn K (.ref f4) = true) (b4 : Binds K d4 ["_law_box_here", "_law_features"] []) (g4 : mg "_law_bundle" = some (.ref f4)) (G4 : FnOk P w K mg base CX0 4 f4 d4 ["_law_box_here", "_law_features"] (spBundle K))
    (k5 : PySem.W.keepIn K (.ref f5) = true) (b5 : Binds K d5 ["_law_box_here", "_law_many"] []) (g5 : mg "_law_take" = some (.ref f5)) (G5 : FnOk P w K mg base CX0 2 f5 d5 ["_law_box_here", "_law_many"] spTake)
    (k6 : PySem.W.keepIn K (.ref f6) = true) (b6 : Binds K d6 ["_law_features", "_law_bundle_here", "_law_marks"] []) (g6 : mg "_law_with" = some (.ref f6)) (G6 : FnOk P w K mg base CX0 1 f6 d6 ["_law_features", "_law_bundle_here", "_law_marks"] spWith)
    (k7 : PySem.W.keepIn K (.ref f7) = true) (b7 : Binds K d7 ["_law_features", "_law_every_here", "_law_one", "_law_other"] []) (g7 : mg "_law_two_right" = some (.ref f7)) (G7 : FnOk P w K mg base CX0 9 f7 d7 ["_law_features", "_law_every_here", "_law_one", "_law_other"] (spTwo Ps))
    (k8 : PySem.W.keepIn K (.ref f8) = true) (b8 : Binds K d8 ["_law_one", "_law_other", "_law_third"] []) (g8 : mg "_law_three_right" = some (.ref f8)) (G8 : FnOk P w K mg base CX0 9 f8 d8 ["_law_one", "_law_other", "_law_third"] (spThree Ps))
    (k9 : PySem.W.keepIn K (.ref f9) = true) (b9 : Binds K d9 ["bundles"] []) (g9 : mg "joined_all" = some (.ref f9)) (G9 : FnOk P w K mg base CX0 3 f9 d9 ["bundles"] spA)
    (ml : mg "len" = none) (men : mg "enumerate" = none) (mr : mg "range" = none) : FnOk P w K mg base CX0 10 f fd ["_law_script"] (spLaw K Ps) := by
  refine F.ok sc_law (fun vs H Q E h => ?_) (fun cdv A outer s H vs Q E hr h => ?_)
  · obtain ⟨a, ns, rfl, _⟩ := h
    rfl
  · obtain ⟨a, ns, rfl, hS, hlen, hT, q⟩ := h
    refine ⟨_, pss_cons (ps_for PassesOwn.never rfl (pi_enum (by rfl) men (pa_cons (pe_op op_cat (pe_slice sl_list (pv 0) po_none (po_some pe_int)) (pe_lst (pa_cons (pe_callB call_len_seq (by rfl) ml PySem.boot_len (pa_cons (pv 0) pa_nil)) pa_nil))) pa_nil))
        (pg_tup rfl (pgs_cons (pg_name (i := 1) sc_law.nd rfl (.inl rfl)) (pgs_cons (pg_name (i := 2) sc_law.nd rfl (.inl rfl)) pgs_nil)))
        (pss_cons (ps_set (i := 3) sc_law.nd rfl (.inr rfl) (pe_call G1 (hr.mono (by decide)) (by rfl) g1 k1 b1 .nil pass0 (pa_cons (pv 2) (pa_cons (pe_op op_add (pv 1) pe_int) pa_nil))))
        (pss_cons (ps_set (i := 4) sc_law.nd rfl (.inr rfl) (pe_call G2 (hr.mono (by decide)) (by rfl) g2 k2 b2 .nil pass0 (pa_cons (pv 3) pa_nil)))
        (pss_cons (ps_set (i := 5) sc_law.nd rfl (.inl rfl) (pe_call G3 (hr.mono (by decide)) (by rfl) g3 k3 b3 .nil pass0 (pa_cons (pv 4) pa_nil)))
        (C8.pss_cut (ps_setLc (i := 6) (own := [("_law_turn", 8)]) (g := gName 8) (tt := tYes) rfl sc_law.nd rfl rfl (sw_true rfl rfl rfl (by decide +kernel)) (pi_range1 (by rfl) mr (pa_cons pe_int pa_nil))
          (blkOk_by (own := [("_law_turn", 8)]) (N := NL) (sc := defScope s_law) (by decide +kernel))
          (fun _ _ _ _ _ => pg_name (i := 8) sc_law.nd rfl (Or.inl rfl)) (fun _ _ _ _ _ => pts_nil) (fun _ _ _ _ _ => pe_call G4 (hr.mono (by decide)) (by rfl) g4 k4 b4 .nil pass0 (pa_cons (pv 3) (pa_cons (pv 4) pa_nil))))
        (C8.pss_cut (ps_if (pt_cmpR op_eq (pe_call G5 (hr.mono (by decide)) (by rfl) g5 k5 b5 .nil pass0 (pa_cons (pv 3) (pa_cons pe_int pa_nil))) pe_int (nomark _))
          (pss_cons (ps_set (i := 7) sc_law.nd rfl (.inr rfl) (pe_ix ix_list (pv 5) (pe_call G5 (hr.mono (by decide)) (by rfl) g5 k5 b5 .nil pass0 (pa_cons (pv 3) (pa_cons (pe_callB call_len_seq (by rfl) ml PySem.boot_len (pa_cons (pv 5) pa_nil)) pa_nil))) (fun _ _ => rfl)))
          (pss_one (ps_setLc (i := 6) (own := [("_law_bundle_here", 9)]) (g := gName 9) (tt := tYes) rfl sc_law.nd rfl rfl (sw_true rfl rfl rfl (by decide +kernel)) (pi_list (pv 6))
            (blkOk_by (own := [("_law_bundle_here", 9)]) (N := NL) (sc := defScope s_law) (by decide +kernel))
            (fun _ _ _ _ _ => pg_name (i := 9) sc_law.nd rfl (Or.inl rfl)) (fun _ _ _ _ _ => pts_nil) (fun _ _ _ _ _ => pe_call G6 (hr.mono (by decide)) (by rfl) g6 k6 b6 .nil pass0 (pa_cons (pv 4) (pa_cons (pv 9) (pa_cons (pv 7) pa_nil))))))) pss_nil)
        (pss_cons (ps_if (pt_not (pt_val (pe_call G7 hr (by rfl) g7 k7 b7 .nil pass0 (pa_cons (pv 4) (pa_cons (pv 5) (pa_cons (pe_ix ix_list (pv 6) pe_int (fun _ _ => rfl)) (pa_cons (pe_ix ix_list (pv 6) pe_int (fun _ _ => rfl)) pa_nil))))))) (pss_one (ps_ret pe_bl)) pss_nil)
        (pss_cons (ps_if (pt_not (pt_val (pe_call G8 hr (by rfl) g8 k8 b8 .nil pass0 (pa_cons (pe_ix ix_list (pv 6) pe_int (fun _ _ => rfl)) (pa_cons (pe_ix ix_list (pv 6) pe_int (fun _ _ => rfl)) (pa_cons (pe_ix ix_list (pv 6) pe_int (fun _ _ => rfl)) pa_nil)))))) (pss_one (ps_ret pe_bl)) pss_nil)
        (pss_one (ps_if (pt_not (pt_val (pe_call G8 hr (by rfl) g8 k8 b8 .nil pass0 (pa_cons (pe_ix ix_list (pv 6) pe_int (fun _ _ => rfl)) (pa_cons (pe_ix ix_list (pv 6) pe_int (fun _ _ => rfl)) (pa_cons (pe_orT (pe_call G9 (hr.mono (by decide)) (by rfl) g9 k9 b9 .nil pass0 (pa_cons (pv 6) pa_nil)) (pe_one (pe_ix ix_list (pv 6) pe_int (fun _ _ => rfl)))) pa_nil)))))) (pss_one (ps_ret pe_bl)) pss_nil))))))))))
      (pss_one (ps_ret pe_bl)), ?_⟩
    refine ⟨_, rfl, 8, rfl, a, _, rfl, hS, fun l1 n1 => ?_⟩
    have s1 : Same H (upd H l1 (.lst (cutV (ns.map V.int) none (some 8)))) := same_new n1
    refine ⟨_, rfl, a, _, rfl, .inl (s1.seq hS), (show 1 ≤ sizeLine by decide), fun l2 n2 => ?_⟩
    have s2 := same_new (o := .lst [.int ((ns.map V.int).length : Int)]) n2
    have hl1 := s2 _ _ (upd_same (H := H) (a := l1) (o := .lst (cutV (ns.map V.int) none (some 8))))
    have hl2 := upd_same (H := upd H l1 (.lst (cutV (ns.map V.int) none (some 8)))) (a := l2) (o := .lst [.int ((ns.map V.int).length : Int)])
    have cl := cells_len (ns := ns) ((ns.map V.int).length : Int)
    have ci := cells_int (ns := ns) ((ns.map V.int).length : Int)
    refine ⟨l1, l2, _, _, rfl, rfl, hl1, hl2, by rw [← List.length_append]; exact line1000 (by omega), fun l3 n3 => ?_⟩
    have s3 := (s1.trans s2).trans (same_new (o := .lst ((cutV (ns.map V.int) none (some 8)) ++ [.int ((ns.map V.int).length : Int)])) n3)
    have hl3 := upd_same (H := upd (upd H l1 (.lst (cutV (ns.map V.int) none (some 8)))) l2 (.lst [.int ((ns.map V.int).length : Int)])) (a := l3) (o := .lst ((cutV (ns.map V.int) none (some 8)) ++ [.int ((ns.map V.int).length : Int)]))
    generalize upd (upd (upd H l1 (.lst (cutV (ns.map V.int) none (some 8)))) l2 (.lst [.int ((ns.map V.int).length : Int)])) l3 (.lst ((cutV (ns.map V.int) none (some 8)) ++ [.int ((ns.map V.int).length : Int)])) = H3 at s3 hl3 ⊢
    generalize (cutV (ns.map V.int) none (some 8)) ++ [V.int ((ns.map V.int).length : Int)] = cells at cl ci hl3 ⊢
    have hT3 : Tabs Ps H3 := hT.same s3
    refine ⟨l3, cells, rfl, .inl (.inl hl3), for_it (walk_enum (K := K) (a := l3) (xs := cells)) (fun i σ H' => (∃ y1 y2 y3 y4 y5 y6 y7 y8 y9, σ = [some (.ref a), y1, y2, y3, y4, y5, y6, y7, y8, y9]) ∧ SameN Ps H3 H') ⟨⟨none, none, none, none, none, none, none, none, none, rfl⟩, SameN.refl hT3⟩ (fun i σ H' _ h => .inl (.inl (h.2.k _ _ nt_lst hl3))) (fun i x σ H4 H5 hi hP hY => ?_) (fun σ H' hP => q _)⟩
    obtain ⟨⟨y1, y2, y3, y4, y5, y6, y7, y8, y9, rfl⟩, s34⟩ := hP
    obtain ⟨T, u1, u2, rfl, nT, rfl, e1, e2⟩ := hY
    obtain ⟨cell, rfl⟩ := ci u2 (List.mem_of_getElem? e2)
    have e1' := Option.some.inj e1
    subst e1'
    have s45 : Same H4 (upd H4 T (.tup [.int (i : Nat), .int cell])) := same_new nT
    refine ⟨T, _, rfl, .inl (.inl upd_same), rfl, _, _, rfl, _, _, rfl, rfl, ?_⟩
    refine ⟨_, rfl, _, rfl, _, _, rfl, rfl, cell, _, rfl, fun b H6 nb s6 hb => ?_⟩
    have s36 := (s34.same s45).same s6
    have nb3 : H3 b = none := (s34.same s45).free nb
    -- features, every
    refine ⟨_, rfl, b, rfl, hb, fun fl ys ds H7 nfl k7' hfl hF hN => ?_⟩
    have nfb : fl ≠ b := (hb.ne nfl).symm
    refine ⟨_, rfl, fl, ys, ds, rfl, hfl, hF, hN, fun el rs R H8 nel s8 hel hM hr1 hr64 hmm => ?_⟩
    have k78 : Kb b H7 H8 := ⟨Kp.of_same s8, k7'.x.same s8⟩
    have neb : el ≠ b := (k7'.x.ne nel).symm
    have hfl8 := s8 _ _ hfl
    have hF8 := hF.same s8
    have hlR : rs.length = R.length := Paired.length hM
    -- bundles
    refine ⟨fun σ HM => ∃ (D : Addr) (ps : List Addr) (L : List BD), σ = [some (.ref a), some (.int (i : Nat)), some (.int cell), some (.ref b), some (.ref fl), some (.ref el), some (.ref D), y7, y8, y9] ∧ Kb b H8 HM ∧ D ≠ b ∧ HM D = some (.lst (ps.map V.ref)) ∧ Bf ds HM ps L ∧ ps.length = 3, ?_, fun σ' HM hM' => ?_⟩
    · refine ⟨3, rfl, by decide, by decide, fun D nD => ?_⟩
      have nDb : D ≠ b := (k78.x.ne nD).symm
      refine lc_range (lo := 0) (n := 3) (fun j HX => Kb b H8 HX ∧ ∃ (ps : List Addr) (L : List BD), HX D = some (.lst (ps.map V.ref)) ∧ Bf ds HX ps L ∧ ps.length = j) ⟨Kb.new k78.x nD, [], [], upd_same, .nil, rfl⟩ (fun j HX hj hP => ?_) (fun HX hP => ?_)
      · obtain ⟨kX, ps, L, hD, hBf, hpl⟩ := hP
        refine ⟨rfl, tYes_in ?_⟩
        refine ⟨_, rfl, _, rfl, b, fl, ys, ds, rfl, kX.x, kX.k _ _ nfb hfl8, hF8.kp k78.x kX.k, hN, fun p bd HZ np kZ hBd hb6 hO => ?_⟩
        have hDZ := kZ.k _ _ nDb hD
        refine ⟨_, hDZ, by rw [List.length_map]; exact small1000 (by omega), (kX.trans kZ).own nD nDb, ps ++ [p], L ++ [bd], ?_, Bf.updR (paired_snoc (hBf.kp kX.x kZ.k) ⟨hBd, hb6, hO⟩) hDZ, by rw [List.length_append, hpl]; rfl⟩
        rw [upd_same, List.map_append]
        rfl
      · obtain ⟨kX, ps, L, hD, hBf, hpl⟩ := hP
        exact ⟨D, ps, L, rfl, kX, nDb, hD, hBf, hpl⟩
    obtain ⟨D, ps, L, rfl, kM, nDb, hD, hBf, hpl⟩ := hM'
    have hflM := kM.k _ _ nfb hfl8
    have hFM := hF8.kp k78.x kM.k
    have helM := kM.k _ _ neb hel
    have hMM := hM.kp k78.x kM.k
    refine ⟨fun σ HR => ∃ (D : Addr) (ps : List Addr) (L : List BD) (z7 z9 : Option V), σ = [some (.ref a), some (.int (i : Nat)), some (.int cell), some (.ref b), some (.ref fl), some (.ref el), some (.ref D), z7, y8, z9] ∧ Kb b HM HR ∧ HR D = some (.lst (ps.map V.ref)) ∧ Bf ds HR ps L ∧ ps.length = 3, ?_, fun σ' HR hR => ?_⟩
    · refine ⟨_, rfl, b, 2, rfl, kM.x, by decide, by decide, fun m HA m0 m1 kA => ⟨rfl, _, rfl, ite2 (fun e => ?_) (fun e => ⟨D, ps, L, _, _, rfl, kA, kA.k _ _ nDb hD, hBf.kp kM.x kA.k, hpl⟩)⟩⟩
      have helA := kA.k _ _ neb helM
      refine ⟨_, rfl, _, rfl, _, rfl, el, _, rfl, .inl (.inl (.inl helA)), b, _, rfl, kA.x, by rw [List.length_map]; omega, by rw [List.length_map]; omega, fun n HB n0 n1' kB => ?_⟩
      rw [List.length_map] at n1'
      have kAB := kA.trans kB
      have hn : n.toNat < rs.length := by omega
      have gl : (rs.map V.ref)[n.toNat]? = some (V.ref rs[n.toNat]) := by
        rw [List.getElem?_map, List.getElem?_eq_getElem hn]
        rfl
      obtain ⟨ms, hms, hmk⟩ := paired_at (hMM.kp kM.x kAB.k) (List.getElem?_eq_getElem hn)
      refine ⟨el, _, n, _, rfl, rfl, .inl (.inl (kAB.k _ _ neb helM)), at_of (j := n.toNat) (by omega) gl, ?_⟩
      have hDB := kAB.k _ _ nDb hD
      have hBfB := hBf.kp kM.x kAB.k
      have hflB := kAB.k _ _ nfb hflM
      have hFB := hFM.kp kM.x kAB.k
      refine ⟨_, rfl, D, rfl, ⟨_, .inl (.inl hDB)⟩, fun D2 nD2 => ?_⟩
      refine lc_list (K := K) (a := D) (xs := ps.map V.ref) (fun j HX => Same HB HX ∧ ∃ (qs : List Addr) (L' : List BD), HX D2 = some (.lst (qs.map V.ref)) ∧ Bf ds HX qs L' ∧ qs.length = j) ⟨same_new nD2, [], [], upd_same, .nil, rfl⟩ (fun j HX _ h => .inl (.inl (h.1 _ _ hDB))) (fun j x HX hx hP => ?_) (fun HX hP => ?_)
      · obtain ⟨sX, qs, L', hD2, hQ, hql⟩ := hP
        rw [List.getElem?_map] at hx
        obtain ⟨p, ep, ex⟩ := Option.map_eq_some_iff.mp hx
        subst ex
        have hjl : j < ps.length := (List.getElem?_eq_some_iff.mp ep).1
        obtain ⟨bd, hbi, hbd, hb6, hbO⟩ := paired_at hBfB ep
        refine ⟨rfl, tYes_in ?_⟩
        refine ⟨_, rfl, _, rfl, _, rfl, fl, p, rs[n.toNat], ys, ds, bd, ms, rfl, sX _ _ hflB, hFB.same sX, hN, hbd.same sX, hbO, hmk.same sX, hmm ms (List.mem_of_getElem? hms), fun p' c HZ np' sZ hc hc6 hcO => ?_⟩
        have hDZ := sZ _ _ hD2
        refine ⟨_, hDZ, by rw [List.length_map]; exact small1000 (by omega), Same.own (sX.trans sZ) nD2, qs ++ [p'], L' ++ [c], ?_, Bf.updR (paired_snoc (hQ.same sZ) ⟨hc, hc6, hcO⟩) hDZ, by rw [List.length_append, hql]; rfl⟩
        rw [upd_same, List.map_append]
        rfl
      · obtain ⟨sX, qs, L', hD2, hQ, hql⟩ := hP
        rw [List.length_map, hpl] at hql
        exact ⟨D2, qs, L', _, _, rfl, ⟨fun x o nx ex => sX _ _ (kAB.k x o nx ex), kAB.x.same sX⟩, hD2, hQ, hql⟩
    obtain ⟨D', ps', L', z7, z9, rfl, kR, hD', hBf', hpl'⟩ := hR
    have hflR := kR.k _ _ nfb hflM
    have hFR := hFM.kp kM.x kR.k
    have helR := kR.k _ _ neb helM
    have hMR := hMM.kp kM.x kR.k
    have s3R : SameN Ps H3 HR := s36.kb nb3 hb (((k7'.trans k78).trans kM).trans kR)
    -- three bundles
    obtain ⟨p0, p1, p2, rfl⟩ : ∃ p0 p1 p2, ps' = [p0, p1, p2] := by
      match ps', hpl' with
      | [x, y, z], _ => exact ⟨x, y, z, rfl⟩
    cases hBf' with
    | @cons _ A0 _ _ r0 t0 =>
      cases t0 with
      | @cons _ A1 _ _ r1 t1 =>
        cases t1 with
        | @cons _ A2 _ _ r2 t2 =>
          cases t2
          obtain ⟨h0, l0, w0⟩ := r0
          obtain ⟨h1, l1', w1⟩ := r1
          obtain ⟨h2, l2', w2⟩ := r2
          have ix : ∀ {HZ : Hp}, HZ D' = some (.lst ([p0, p1, p2].map V.ref)) → SqL K HZ D' [V.ref p0, .ref p1, .ref p2] := fun e => .inl (.inl e)
          refine ⟨_, rfl, _, rfl, _, rfl, D', _, _, V.ref p0, rfl, rfl, ix hD', rfl, _, rfl, D', _, _, V.ref p1, rfl, rfl, ix hD', rfl, fl, el, p0, p1, ys, ds, rs, R, A0, A1, rfl, hflR, hFR, hN, helR, hMR, hr64, h0, h1, l0, l1', w0, w1, s3R.t, fun HS sS => ⟨_, rfl, iteF ?_⟩⟩
          have hDS := sS.k _ _ nt_lst hD'
          refine ⟨_, rfl, D', _, _, V.ref p0, rfl, rfl, ix hDS, rfl, _, rfl, D', _, _, V.ref p1, rfl, rfl, ix hDS, rfl, _, rfl, D', _, _, V.ref p2, rfl, rfl, ix hDS, rfl, p0, p1, p2, A0, A1, A2, rfl, h0.sameN sS, h1.sameN sS, h2.sameN sS, l0, l1', by omega, sS.t, fun HT sT => ⟨_, rfl, iteF ?_⟩⟩
          have sRT := sS.trans sT
          have hDT := sRT.k _ _ nt_lst hD'
          refine ⟨_, rfl, D', _, _, V.ref p0, rfl, rfl, ix hDT, rfl, _, rfl, D', _, _, V.ref p1, rfl, rfl, ix hDT, rfl, _, rfl, D', [p0, p1, p2], [A0, A1, A2], rfl, hDT, .cons ⟨h0.sameN sRT, by omega⟩ (.cons ⟨h1.sameN sRT, by omega⟩ (.cons ⟨h2.sameN sRT, by omega⟩ .nil)), (by show 3 ≤ 10; decide), fun x HU sU o => ?_⟩
          rw [all_three h0.b] at o
          have sRU := sRT.same sU
          have s3U := s3R.trans sRU
          have hDU := sRU.k _ _ nt_lst hD'
          cases e : lftF A0 A1 A2 with
          | none =>
            rw [e] at o
            have o' : x = .non := o
            subst o'
            refine ⟨false, rfl, iteF ⟨_, rfl, D', _, _, V.ref p2, rfl, rfl, ix hDU, rfl, p0, p1, p2, A0, A1, A2, rfl, h0.sameN sRU, h1.sameN sRU, h2.sameN sRU, l0, l1', by omega, sRU.t, fun HV sV => ⟨_, rfl, iteF ⟨⟨_, _, _, _, _, _, _, _, _, rfl⟩, s3U.trans sV⟩⟩⟩⟩
          | some es =>
            rw [e] at o
            obtain ⟨pe, rfl, hpe⟩ := o
            have hpe' := hpe
            obtain ⟨kv, hkv, _⟩ := hpe'
            have les : es.length ≤ 18 := by
              unfold lftF at e
              cases f' : joinedF A0 A1 with
              | none => rw [f'] at e; cases e
              | some f1 =>
                rw [f'] at e
                have e1 : joinedF f1 A2 = some es := e
                have z1 := joinedF_len f'
                have z2 := joinedF_len e1
                omega
            refine ⟨!kv.isEmpty, .inr (.inr ⟨kv, hkv, rfl⟩), ite2 (fun c => ?_) (fun c => ?_)⟩
            · exact ⟨p0, p1, pe, A0, A1, es, rfl, h0.sameN sRU, h1.sameN sRU, hpe, l0, l1', les, sRU.t, fun HV sV => ⟨_, rfl, iteF ⟨⟨_, _, _, _, _, _, _, _, _, rfl⟩, s3U.trans sV⟩⟩⟩
            · exact ⟨_, rfl, D', _, _, V.ref p2, rfl, rfl, ix hDU, rfl, p0, p1, p2, A0, A1, A2, rfl, h0.sameN sRU, h1.sameN sRU, h2.sameN sRU, l0, l1', by omega, sRU.t, fun HV sV => ⟨_, rfl, iteF ⟨⟨_, _, _, _, _, _, _, _, _, rfl⟩, s3U.trans sV⟩⟩⟩
end
end Bn

namespace Bn
open PySem PySem.Spec PyProof.Rows L2 BR GX RM
theorem all_mk {q : Program} {l : PySem.W.OpenLaw} {w : World} {K : PySem.W.Frag} {h : Heap} {mg : Str → Option Value} {fa f1 f2 f3 f4 f5 f6 f7 f8 f9 f10 f11 f12 f13 f14 f15 f16 f17 f18 f19 f20 f21 f22 : Addr} (X : K.In h) (G : h.Ns mainGlobals mg) (hfa : mg "law" = some (.ref fa)) (T : TabsTop q mg h)
    {od1 an1 od2 an2 od3 an3 od4 an4 od5 an5 od6 an6 od7 an7 od8 an8 od9 an9 od10 an10 od11 an11 od12 an12 od13 an13 od14 an14 od15 an15 od16 an16 od17 an17 od18 an18 od19 an19 od20 an20 od21 an21 od22 an22 : Option Addr} {sl1 sl2 sl3 sl4 sl5 sl6 sl7 sl8 sl9 sl10 sl11 sl12 sl13 sl14 sl15 sl16 sl17 sl18 sl19 sl20 sl21 sl22 : Array (Option Value)} {oc1 kV1 dc1 pm1 cd1 ct1 oc2 kV2 dc2 pm2 cd2 ct2 oc3 kV3 dc3 pm3 cd3 ct3 oc4 kV4 dc4 pm4 cd4 ct4 oc5 kV5 dc5 pm5 cd5 ct5 oc6 kV6 dc6 pm6 cd6 ct6 oc7 kV7 dc7 pm7 cd7 ct7 oc8 kV8 dc8 pm8 cd8 ct8 oc9 kV9 dc9 pm9 cd9 ct9 oc10 kV10 dc10 pm10 cd10 ct10 oc11 kV11 dc11 pm11 cd11 ct11 oc12 kV12 dc12 pm12 cd12 ct12 oc13 kV13 dc13 pm13 cd13 ct13 oc14 kV14 dc14 pm14 cd14 ct14 oc15 kV15 dc15 pm15 cd15 ct15 oc16 kV16 dc16 pm16 cd16 ct16 oc17 kV17 dc17 pm17 cd17 ct17 oc18 kV18 dc18 pm18 cd18 ct18 oc19 kV19 dc19 pm19 cd19 ct19 oc20 kV20 dc20 pm20 cd20 ct20 oc21 kV21 dc21 pm21 cd21 ct21 oc22 kV22 dc22 pm22 cd22 ct22 : Value}
    (a1 : PySem.W.nsIn K mainGlobals "joined" = some (some (.ref f1))) (l1 : K.lookup f1 = some ⟨oc1, od1, .func (PySem.W.fnOf "joined" "joined" (defArgs s_joined) (defBody s_joined) (defScope s_joined) .none kV1 dc1 pm1 an1 cd1 ct1), sl1⟩) (c1 : PySem.W.codeIn K cd1 "joined" = true) (k1 : PySem.W.keepIn K (.ref f1) = true)
    (a2 : PySem.W.nsIn K mainGlobals "clash" = some (some (.ref f2))) (l2 : K.lookup f2 = some ⟨oc2, od2, .func (PySem.W.fnOf "clash" "clash" (defArgs s_clash) (defBody s_clash) (defScope s_clash) .none kV2 dc2 pm2 an2 cd2 ct2), sl2⟩) (c2 : PySem.W.codeIn K cd2 "clash" = true) (k2 : PySem.W.keepIn K (.ref f2) = true)
    (a3 : PySem.W.nsIn K mainGlobals "joined_all" = some (some (.ref f3))) (l3 : K.lookup f3 = some ⟨oc3, od3, .func (PySem.W.fnOf "joined_all" "joined_all" (defArgs s_joined_all) (defBody s_joined_all) (defScope s_joined_all) .none kV3 dc3 pm3 an3 cd3 ct3), sl3⟩) (c3 : PySem.W.codeIn K cd3 "joined_all" = true) (k3 : PySem.W.keepIn K (.ref f3) = true)
    (a4 : PySem.W.nsIn K mainGlobals "lets" = some (some (.ref f4))) (l4 : K.lookup f4 = some ⟨oc4, od4, .func (PySem.W.fnOf "lets" "lets" (defArgs s_lets) (defBody s_lets) (defScope s_lets) .none kV4 dc4 pm4 an4 cd4 ct4), sl4⟩) (c4 : PySem.W.codeIn K cd4 "lets" = true) (k4 : PySem.W.keepIn K (.ref f4) = true)
    (a5 : PySem.W.nsIn K mainGlobals "lies_in" = some (some (.ref f5))) (l5 : K.lookup f5 = some ⟨oc5, od5, .func (PySem.W.fnOf "lies_in" "lies_in" (defArgs s_lies_in) (defBody s_lies_in) (defScope s_lies_in) .none kV5 dc5 pm5 an5 cd5 ct5), sl5⟩) (c5 : PySem.W.codeIn K cd5 "lies_in" = true) (k5 : PySem.W.keepIn K (.ref f5) = true)
    (a6 : PySem.W.nsIn K mainGlobals "choices" = some (some (.ref f6))) (l6 : K.lookup f6 = some ⟨oc6, od6, .func (PySem.W.fnOf "choices" "choices" (defArgs s_choices) (defBody s_choices) (defScope s_choices) .none kV6 dc6 pm6 an6 cd6 ct6), sl6⟩) (c6 : PySem.W.codeIn K cd6 "choices" = true) (k6 : PySem.W.keepIn K (.ref f6) = true)
    (a7 : PySem.W.nsIn K mainGlobals "names_in_either" = some (some (.ref f7))) (l7 : K.lookup f7 = some ⟨oc7, od7, .func (PySem.W.fnOf "names_in_either" "names_in_either" (defArgs s_names_in_either) (defBody s_names_in_either) (defScope s_names_in_either) .none kV7 dc7 pm7 an7 cd7 ct7), sl7⟩) (c7 : PySem.W.codeIn K cd7 "names_in_either" = true) (k7 : PySem.W.keepIn K (.ref f7) = true)
    (a8 : PySem.W.nsIn K mainGlobals "values_left" = some (some (.ref f8))) (l8 : K.lookup f8 = some ⟨oc8, od8, .func (PySem.W.fnOf "values_left" "values_left" (defArgs s_values_left) (defBody s_values_left) (defScope s_values_left) .none kV8 dc8 pm8 an8 cd8 ct8), sl8⟩) (c8 : PySem.W.codeIn K cd8 "values_left" = true) (k8 : PySem.W.keepIn K (.ref f8) = true)
    (a9 : PySem.W.nsIn K mainGlobals "within" = some (some (.ref f9))) (l9 : K.lookup f9 = some ⟨oc9, od9, .func (PySem.W.fnOf "within" "within" (defArgs s_within) (defBody s_within) (defScope s_within) .none kV9 dc9 pm9 an9 cd9 ct9), sl9⟩) (c9 : PySem.W.codeIn K cd9 "within" = true) (k9 : PySem.W.keepIn K (.ref f9) = true)
    (a10 : PySem.W.nsIn K mainGlobals "_law_mixed" = some (some (.ref f10))) (l10 : K.lookup f10 = some ⟨oc10, od10, .func (PySem.W.fnOf "_law_mixed" "_law_mixed" (defArgs s_l_mixed) (defBody s_l_mixed) (defScope s_l_mixed) .none kV10 dc10 pm10 an10 cd10 ct10), sl10⟩) (c10 : PySem.W.codeIn K cd10 "_law_mixed" = true) (k10 : PySem.W.keepIn K (.ref f10) = true)
    (a11 : PySem.W.nsIn K mainGlobals "_law_box" = some (some (.ref f11))) (l11 : K.lookup f11 = some ⟨oc11, od11, .func (PySem.W.fnOf "_law_box" "_law_box" (defArgs s_l_box) (defBody s_l_box) (defScope s_l_box) .none kV11 dc11 pm11 an11 cd11 ct11), sl11⟩) (c11 : PySem.W.codeIn K cd11 "_law_box" = true) (k11 : PySem.W.keepIn K (.ref f11) = true)
    (a12 : PySem.W.nsIn K mainGlobals "_law_take" = some (some (.ref f12))) (l12 : K.lookup f12 = some ⟨oc12, od12, .func (PySem.W.fnOf "_law_take" "_law_take" (defArgs s_l_take) (defBody s_l_take) (defScope s_l_take) .none kV12 dc12 pm12 an12 cd12 ct12), sl12⟩) (c12 : PySem.W.codeIn K cd12 "_law_take" = true) (k12 : PySem.W.keepIn K (.ref f12) = true)
    (a13 : PySem.W.nsIn K mainGlobals "_law_some" = some (some (.ref f13))) (l13 : K.lookup f13 = some ⟨oc13, od13, .func (PySem.W.fnOf "_law_some" "_law_some" (defArgs s_l_some) (defBody s_l_some) (defScope s_l_some) .none kV13 dc13 pm13 an13 cd13 ct13), sl13⟩) (c13 : PySem.W.codeIn K cd13 "_law_some" = true) (k13 : PySem.W.keepIn K (.ref f13) = true)
    (a14 : PySem.W.nsIn K mainGlobals "_law_names" = some (some (.ref f14))) (l14 : K.lookup f14 = some ⟨oc14, od14, .func (PySem.W.fnOf "_law_names" "_law_names" (defArgs s_l_names) (defBody s_l_names) (defScope s_l_names) .none kV14 dc14 pm14 an14 cd14 ct14), sl14⟩) (c14 : PySem.W.codeIn K cd14 "_law_names" = true) (k14 : PySem.W.keepIn K (.ref f14) = true)
    (a15 : PySem.W.nsIn K mainGlobals "_law_bundle" = some (some (.ref f15))) (l15 : K.lookup f15 = some ⟨oc15, od15, .func (PySem.W.fnOf "_law_bundle" "_law_bundle" (defArgs s_l_bundle) (defBody s_l_bundle) (defScope s_l_bundle) .none kV15 dc15 pm15 an15 cd15 ct15), sl15⟩) (c15 : PySem.W.codeIn K cd15 "_law_bundle" = true) (k15 : PySem.W.keepIn K (.ref f15) = true)
    (a16 : PySem.W.nsIn K mainGlobals "_law_small" = some (some (.ref f16))) (l16 : K.lookup f16 = some ⟨oc16, od16, .func (PySem.W.fnOf "_law_small" "_law_small" (defArgs s_l_small) (defBody s_l_small) (defScope s_l_small) .none kV16 dc16 pm16 an16 cd16 ct16), sl16⟩) (c16 : PySem.W.codeIn K cd16 "_law_small" = true) (k16 : PySem.W.keepIn K (.ref f16) = true)
    (a17 : PySem.W.nsIn K mainGlobals "_law_with" = some (some (.ref f17))) (l17 : K.lookup f17 = some ⟨oc17, od17, .func (PySem.W.fnOf "_law_with" "_law_with" (defArgs s_l_with) (defBody s_l_with) (defScope s_l_with) .none kV17 dc17 pm17 an17 cd17 ct17), sl17⟩) (c17 : PySem.W.codeIn K cd17 "_law_with" = true) (k17 : PySem.W.keepIn K (.ref f17) = true)
    (a18 : PySem.W.nsIn K mainGlobals "_law_every" = some (some (.ref f18))) (l18 : K.lookup f18 = some ⟨oc18, od18, .func (PySem.W.fnOf "_law_every" "_law_every" (defArgs s_l_every) (defBody s_l_every) (defScope s_l_every) .none kV18 dc18 pm18 an18 cd18 ct18), sl18⟩) (c18 : PySem.W.codeIn K cd18 "_law_every" = true) (k18 : PySem.W.keepIn K (.ref f18) = true)
    (a19 : PySem.W.nsIn K mainGlobals "_law_as_sets" = some (some (.ref f19))) (l19 : K.lookup f19 = some ⟨oc19, od19, .func (PySem.W.fnOf "_law_as_sets" "_law_as_sets" (defArgs s_l_as_sets) (defBody s_l_as_sets) (defScope s_l_as_sets) .none kV19 dc19 pm19 an19 cd19 ct19), sl19⟩) (c19 : PySem.W.codeIn K cd19 "_law_as_sets" = true) (k19 : PySem.W.keepIn K (.ref f19) = true)
    (a20 : PySem.W.nsIn K mainGlobals "_law_two_right" = some (some (.ref f20))) (l20 : K.lookup f20 = some ⟨oc20, od20, .func (PySem.W.fnOf "_law_two_right" "_law_two_right" (defArgs s_l_two_right) (defBody s_l_two_right) (defScope s_l_two_right) .none kV20 dc20 pm20 an20 cd20 ct20), sl20⟩) (c20 : PySem.W.codeIn K cd20 "_law_two_right" = true) (k20 : PySem.W.keepIn K (.ref f20) = true)
    (a21 : PySem.W.nsIn K mainGlobals "_law_three_right" = some (some (.ref f21))) (l21 : K.lookup f21 = some ⟨oc21, od21, .func (PySem.W.fnOf "_law_three_right" "_law_three_right" (defArgs s_l_three_right) (defBody s_l_three_right) (defScope s_l_three_right) .none kV21 dc21 pm21 an21 cd21 ct21), sl21⟩) (c21 : PySem.W.codeIn K cd21 "_law_three_right" = true) (k21 : PySem.W.keepIn K (.ref f21) = true)
    (a22 : PySem.W.nsIn K mainGlobals "law" = some (some (.ref f22))) (l22 : K.lookup f22 = some ⟨oc22, od22, .func (PySem.W.fnOf "law" "law" (defArgs s_law) (defBody s_law) (defScope s_law) .none kV22 dc22 pm22 an22 cd22 ct22), sl22⟩) (c22 : PySem.W.codeIn K cd22 "law" = true) (k22 : PySem.W.keepIn K (.ref f22) = true)
    (t4 : tabFree K cd4 = true) (r4 : ((recsOf q).any fun e => e.name == ("lets" : Str)) = true)
    (t5 : tabFree K cd5 = true) (r5 : ((recsOf q).any fun e => e.name == ("lies_in" : Str)) = true)
    (t9 : tabFree K cd9 = true) (r9 : ((recsOf q).any fun e => e.name == ("within" : Str)) = true)
    (z1 : PySem.W.nsIn K mainGlobals "len" = some none) (z2 : PySem.W.nsIn K mainGlobals "abs" = some none) (z3 : PySem.W.nsIn K mainGlobals "int" = some none) (z4 : PySem.W.nsIn K mainGlobals "list" = some none) (z5 : PySem.W.nsIn K mainGlobals "dict" = some none) (z6 : PySem.W.nsIn K mainGlobals "enumerate" = some none) (z7 : PySem.W.nsIn K mainGlobals "divmod" = some none) (z8 : PySem.W.nsIn K mainGlobals "all" = some none) (z9 : PySem.W.nsIn K mainGlobals "range" = some none) (z10 : PySem.W.nsIn K mainGlobals "sorted" = some none) (z11 : PySem.W.nsIn K mainGlobals "min" = some none) :
    LamX.LawAtS l w K CX0 10 63 "_law_script" mg fa h := by
  have e := hfa.symm.trans (PySem.W.mg_of X G a22)
  cases e
  obtain ⟨C4, P4, ec4, et4, en4, eh4⟩ := tabOf X T r4 (PySem.W.mg_of X G a4) l4 t4
  subst ec4
  obtain ⟨C5, P5, ec5, et5, en5, eh5⟩ := tabOf X T r5 (PySem.W.mg_of X G a5) l5 t5
  subst ec5
  obtain ⟨C9, P9, ec9, et9, en9, eh9⟩ := tabOf X T r9 (PySem.W.mg_of X G a9) l9 t9
  subst ec9
  have F1 := fun_mk (st := s_joined) l1 c1 k1
  have b1 := F1.binds (ps := ["one", "other"]) fun _ _ _ _ _ _ us hl => match us, hl with | [_, _], _ => rfl
  have g1 := PySem.W.mg_of X G a1
  have F2 := fun_mk (st := s_clash) l2 c2 k2
  have b2 := F2.binds (ps := ["one", "other"]) fun _ _ _ _ _ _ us hl => match us, hl with | [_, _], _ => rfl
  have g2 := PySem.W.mg_of X G a2
  have F3 := fun_mk (st := s_joined_all) l3 c3 k3
  have b3 := F3.binds (ps := ["bundles"]) fun _ _ _ _ _ _ us hl => match us, hl with | [_], _ => rfl
  have g3 := PySem.W.mg_of X G a3
  have F4 := fun_mk (st := s_lets) l4 c4 k4
  have FC4 : FunC K "lets" "lets" s_lets f4 _ C4 := ⟨⟨_, _, _, _, _, _, _, _, rfl, l4, c4⟩, k4⟩
  have b4 := F4.binds (ps := ["bundle", "marks"]) fun _ _ _ _ _ _ us hl => match us, hl with | [_, _], _ => rfl
  have g4 := PySem.W.mg_of X G a4
  have F5 := fun_mk (st := s_lies_in) l5 c5 k5
  have FC5 : FunC K "lies_in" "lies_in" s_lies_in f5 _ C5 := ⟨⟨_, _, _, _, _, _, _, _, rfl, l5, c5⟩, k5⟩
  have b5 := F5.binds (ps := ["one", "other"]) fun _ _ _ _ _ _ us hl => match us, hl with | [_, _], _ => rfl
  have g5 := PySem.W.mg_of X G a5
  have F6 := fun_mk (st := s_choices) l6 c6 k6
  have b6 := F6.binds (ps := ["features", "names", "bundle"]) fun _ _ _ _ _ _ us hl => match us, hl with | [_, _, _], _ => rfl
  have g6 := PySem.W.mg_of X G a6
  have F7 := fun_mk (st := s_names_in_either) l7 c7 k7
  have b7 := F7.binds (ps := ["one", "other"]) fun _ _ _ _ _ _ us hl => match us, hl with | [_, _], _ => rfl
  have g7 := PySem.W.mg_of X G a7
  have F8 := fun_mk (st := s_values_left) l8 c8 k8
  have b8 := F8.binds (ps := ["one", "other", "name"]) fun _ _ _ _ _ _ us hl => match us, hl with | [_, _, _], _ => rfl
  have g8 := PySem.W.mg_of X G a8
  have F9 := fun_mk (st := s_within) l9 c9 k9
  have FC9 : FunC K "within" "within" s_within f9 _ C9 := ⟨⟨_, _, _, _, _, _, _, _, rfl, l9, c9⟩, k9⟩
  have b9 := F9.binds (ps := ["inner", "outer"]) fun _ _ _ _ _ _ us hl => match us, hl with | [_, _], _ => rfl
  have g9 := PySem.W.mg_of X G a9
  have F10 := fun_mk (st := s_l_mixed) l10 c10 k10
  have b10 := F10.binds (ps := ["_law_number", "_law_k"]) fun _ _ _ _ _ _ us hl => match us, hl with | [_, _], _ => rfl
  have g10 := PySem.W.mg_of X G a10
  have F11 := fun_mk (st := s_l_box) l11 c11 k11
  have b11 := F11.binds (ps := ["_law_cell_here", "_law_k"]) fun _ _ _ _ _ _ us hl => match us, hl with | [_, _], _ => rfl
  have g11 := PySem.W.mg_of X G a11
  have F12 := fun_mk (st := s_l_take) l12 c12 k12
  have b12 := F12.binds (ps := ["_law_box_here", "_law_many"]) fun _ _ _ _ _ _ us hl => match us, hl with | [_, _], _ => rfl
  have g12 := PySem.W.mg_of X G a12
  have F13 := fun_mk (st := s_l_some) l13 c13 k13
  have b13 := F13.binds (ps := ["_law_box_here", "_law_words", "_law_many"]) fun _ _ _ _ _ _ us hl => match us, hl with | [_, _, _], _ => rfl
  have g13 := PySem.W.mg_of X G a13
  have F14 := fun_mk (st := s_l_names) l14 c14 k14
  have b14 := F14.binds (ps := ["_law_box_here", "_law_many"]) fun _ _ _ _ _ _ us hl => match us, hl with | [_, _], _ => rfl
  have g14 := PySem.W.mg_of X G a14
  have F15 := fun_mk (st := s_l_bundle) l15 c15 k15
  have b15 := F15.binds (ps := ["_law_box_here", "_law_features"]) fun _ _ _ _ _ _ us hl => match us, hl with | [_, _], _ => rfl
  have g15 := PySem.W.mg_of X G a15
  have F16 := fun_mk (st := s_l_small) l16 c16 k16
  have b16 := F16.binds (ps := ["_law_box_here"]) fun _ _ _ _ _ _ us hl => match us, hl with | [_], _ => rfl
  have g16 := PySem.W.mg_of X G a16
  have F17 := fun_mk (st := s_l_with) l17 c17 k17
  have b17 := F17.binds (ps := ["_law_features", "_law_bundle_here", "_law_marks"]) fun _ _ _ _ _ _ us hl => match us, hl with | [_, _, _], _ => rfl
  have g17 := PySem.W.mg_of X G a17
  have F18 := fun_mk (st := s_l_every) l18 c18 k18
  have b18 := F18.binds (ps := ["_law_features"]) fun _ _ _ _ _ _ us hl => match us, hl with | [_], _ => rfl
  have g18 := PySem.W.mg_of X G a18
  have F19 := fun_mk (st := s_l_as_sets) l19 c19 k19
  have b19 := F19.binds (ps := ["_law_bundle_here"]) fun _ _ _ _ _ _ us hl => match us, hl with | [_], _ => rfl
  have g19 := PySem.W.mg_of X G a19
  have F20 := fun_mk (st := s_l_two_right) l20 c20 k20
  have b20 := F20.binds (ps := ["_law_features", "_law_every_here", "_law_one", "_law_other"]) fun _ _ _ _ _ _ us hl => match us, hl with | [_, _, _, _], _ => rfl
  have g20 := PySem.W.mg_of X G a20
  have F21 := fun_mk (st := s_l_three_right) l21 c21 k21
  have b21 := F21.binds (ps := ["_law_one", "_law_other", "_law_third"]) fun _ _ _ _ _ _ us hl => match us, hl with | [_, _, _], _ => rfl
  have g21 := PySem.W.mg_of X G a21
  have F22 := fun_mk (st := s_law) l22 c22 k22
  have m_len := PySem.W.mg_none_of X G z1
  have m_abs := PySem.W.mg_none_of X G z2
  have m_int := PySem.W.mg_none_of X G z3
  have m_list := PySem.W.mg_none_of X G z4
  have m_dict := PySem.W.mg_none_of X G z5
  have m_enumerate := PySem.W.mg_none_of X G z6
  have m_divmod := PySem.W.mg_none_of X G z7
  have m_all := PySem.W.mg_none_of X G z8
  have m_range := PySem.W.mg_none_of X G z9
  have m_sorted := PySem.W.mg_none_of X G z10
  have m_min := PySem.W.mg_none_of X G z11
  have hT1 : ∀ p ∈ [(C4, P4), (C5, P5), (C9, P9)], h.get? p.2 = some { cls := .none, data := .fields #[] } := fun p hp => by
    rcases List.mem_cons.mp hp with rfl | hp
    · exact et4
    rcases List.mem_cons.mp hp with rfl | hp
    · exact et5
    rw [List.mem_singleton.mp hp]
    exact et9

  have hT2 : ∀ p ∈ [(C4, P4), (C5, P5), (C9, P9)], K.lookup p.2 = none := fun p hp => by
    rcases List.mem_cons.mp hp with rfl | hp
    · exact en4
    rcases List.mem_cons.mp hp with rfl | hp
    · exact en5
    rw [List.mem_singleton.mp hp]
    exact en9

  have hT3 : ∀ p ∈ [(C4, P4), (C5, P5), (C9, P9)], PySem.W.CodeHd h p.1 p.2 := fun p hp => by
    rcases List.mem_cons.mp hp with rfl | hp
    · exact eh4
    rcases List.mem_cons.mp hp with rfl | hp
    · exact eh5
    rw [List.mem_singleton.mp hp]
    exact eh9

  refine ⟨PySem.W.fnOf "law" "law" (defArgs s_law) (defBody s_law) (defScope s_law) .none kV22 dc22 pm22 an22 cd22 ct22, [(C4, P4), (C5, P5), (C9, P9)], spLaw K [P4, P5, P9], hT1, hT2, hT3, fun s v => .of_eq rfl, fun H a ns hl _ hT hS => ⟨a, ns, rfl, hS, hl, fun P hP => ?_, fun _ => rfl⟩, fun base _ _ TB => ?_⟩
  · rcases List.mem_cons.mp hP with e | hP
    · rw [e]
      exact ⟨#[], hT (C4, P4) (by simp), trivial⟩
    rcases List.mem_cons.mp hP with e | hP
    · rw [e]
      exact ⟨#[], hT (C5, P5) (by simp), trivial⟩
    rw [List.mem_singleton.mp hP]
    exact ⟨#[], hT (C9, P9) (by simp), trivial⟩
  have TB4 := tabB_of (TB (C4, P4) (by simp))
  have hP4 : P4 ∈ [P4, P5, P9] := by simp
  have TB5 := tabB_of (TB (C5, P5) (by simp))
  have hP5 : P5 ∈ [P4, P5, P9] := by simp
  have TB9 := tabB_of (TB (C9, P9) (by simp))
  have hP9 : P9 ∈ [P4, P5, P9] := by simp
  have GT := ok_take (P := l.prog) (w := w) (mg := mg) (base := base) F12 F10 b10 g10 m_divmod
  have GS := ok_some F13 F12.kp b12 g12 GT m_len m_list
  have GN := ok_names F14 F13.kp b13 g13 GS
  have GSm := ok_small F16 F12.kp b12 g12 GT F13.kp b13 g13 GS F14.kp b14 g14 GN
  have GB := ok_bundle F15 F12.kp b12 g12 GT F13.kp b13 g13 GS m_len
  have GNE : FnOk l.prog w K mg base CX0 1 f7 _ ["one", "other"] spNamesE := ok_namesE F7
  have GLe : FnOk l.prog w K mg base CX0 1 f8 _ ["one", "other", "name"] spLeft := ok_left F8 m_list
  have GJ := ok_joined (k := 0) F1 F7.kp b7 g7 GNE F8.kp b8 g8 GLe
  have GCl := ok_clash (k := 0) F2 F7.kp b7 g7 GNE F8.kp b8 g8 GLe m_min
  have GJA := ok_joinedAll F3 F1.kp b1 g1 GJ
  have GW : FnOk l.prog w K mg base CX0 4 f9 _ ["inner", "outer"] (spWithin [P4, P5, P9]) := ok_within FC9 TB9 hP9 m_all
  have GLi := ok_lies FC5 TB5 hP5 m_all F9.kp b9 g9 GW
  have GLt : FnOk l.prog w K mg base CX0 4 f4 _ ["bundle", "marks"] (spLets [P4, P5, P9]) := ok_lets FC4 TB4 hP4 m_all
  have GC := ok_choices F6 F9.kp b9 g9 GW
  have GWi : FnOk l.prog w K mg base CX0 1 f17 _ ["_law_features", "_law_bundle_here", "_law_marks"] spWith := ok_with F17
  have GE : FnOk l.prog w K mg base CX0 1 f18 _ ["_law_features"] spEvery := ok_every F18 m_dict m_list
  have GSe : FnOk l.prog w K mg base CX0 1 f19 _ ["_law_bundle_here"] spSets := ok_sets F19 m_dict m_sorted
  have G2 := ok_two F20 F1.kp b1 g1 (weak_joined GJ) F2.kp b2 g2 GCl F19.kp b19 g19 (weak_sets GSe) F4.kp b4 g4 GLt F5.kp b5 g5 GLi F6.kp b6 g6 GC
  have G3 := ok_three F21 F1.kp b1 g1 (weak_joined GJ) F19.kp b19 g19 (weak_sets GSe) F3.kp b3 g3 (weak_all GJA) F5.kp b5 g5 GLi
  exact ok_law F22 F11.kp b11 g11 (ok_box F11 m_abs m_int) F16.kp b16 g16 GSm F18.kp b18 g18 GE F15.kp b15 g15 GB F12.kp b12 g12 GT F17.kp b17 g17 GWi F20.kp b20 g20 G2 F21.kp b21 g21 G3 F3.kp b3 g3 (weak_all GJA) m_len m_enumerate m_range
end Bn
open PySem PySem.W PyProof.Rows
set_option maxHeartbeats 0 in
theorem PySem.Challenge.cw_speechloom_k07_whole_all_that_was_told_a_holds : PySem.Challenge.rw_speechloom_k07_whole_all_that_was_told_a.Holds := by
  w_on; o_law; k_head; (case hw => w_witness2)
  k_fill
  refine GX.walk_ofTabs (l := PySem.Challenge.rw_speechloom_k07_whole_all_that_was_told_a) (n := 63) (k := 10) (x := "_law_script") (CX := fun _ => L2.CX0) rfl (by decide) rfl ⟨rfl, by decide, by decide⟩ (fun w h Y => PySem.W.kIn_of Y) ?F (fun _ _ _ _ _ h => h)
  case F =>
    intro w mg fa h KX G hmg T
    refine' Bn.all_mk KX G hmg T ?a1 ?l1 ?c1 ?k1 ?a2 ?l2 ?c2 ?k2 ?a3 ?l3 ?c3 ?k3 ?a4 ?l4 ?c4 ?k4 ?a5 ?l5 ?c5 ?k5 ?a6 ?l6 ?c6 ?k6 ?a7 ?l7 ?c7 ?k7 ?a8 ?l8 ?c8 ?k8 ?a9 ?l9 ?c9 ?k9 ?a10 ?l10 ?c10 ?k10 ?a11 ?l11 ?c11 ?k11 ?a12 ?l12 ?c12 ?k12 ?a13 ?l13 ?c13 ?k13 ?a14 ?l14 ?c14 ?k14 ?a15 ?l15 ?c15 ?k15 ?a16 ?l16 ?c16 ?k16 ?a17 ?l17 ?c17 ?k17 ?a18 ?l18 ?c18 ?k18 ?a19 ?l19 ?c19 ?k19 ?a20 ?l20 ?c20 ?k20 ?a21 ?l21 ?c21 ?k21 ?a22 ?l22 ?c22 ?k22 ?t4 ?r4 ?t5 ?r5 ?t9 ?r9 ?z1 ?z2 ?z3 ?z4 ?z5 ?z6 ?z7 ?z8 ?z9 ?z10 ?z11
    (case a1 => k_is); (case l1 => k_is); (case c1 => k_is); (case k1 => k_is); (case a2 => k_is); (case l2 => k_is); (case c2 => k_is); (case k2 => k_is); (case a3 => k_is); (case l3 => k_is); (case c3 => k_is); (case k3 => k_is); (case a4 => k_is); (case l4 => k_is); (case c4 => k_is); (case k4 => k_is); (case a5 => k_is); (case l5 => k_is); (case c5 => k_is); (case k5 => k_is); (case a6 => k_is); (case l6 => k_is); (case c6 => k_is); (case k6 => k_is); (case a7 => k_is); (case l7 => k_is); (case c7 => k_is); (case k7 => k_is); (case a8 => k_is); (case l8 => k_is); (case c8 => k_is); (case k8 => k_is); (case a9 => k_is); (case l9 => k_is); (case c9 => k_is); (case k9 => k_is); (case a10 => k_is); (case l10 => k_is); (case c10 => k_is); (case k10 => k_is); (case a11 => k_is); (case l11 => k_is); (case c11 => k_is); (case k11 => k_is); (case a12 => k_is); (case l12 => k_is); (case c12 => k_is); (case k12 => k_is); (case a13 => k_is); (case l13 => k_is); (case c13 => k_is); (case k13 => k_is); (case a14 => k_is); (case l14 => k_is); (case c14 => k_is); (case k14 => k_is); (case a15 => k_is); (case l15 => k_is); (case c15 => k_is); (case k15 => k_is); (case a16 => k_is); (case l16 => k_is); (case c16 => k_is); (case k16 => k_is); (case a17 => k_is); (case l17 => k_is); (case c17 => k_is); (case k17 => k_is); (case a18 => k_is); (case l18 => k_is); (case c18 => k_is); (case k18 => k_is); (case a19 => k_is); (case l19 => k_is); (case c19 => k_is); (case k19 => k_is); (case a20 => k_is); (case l20 => k_is); (case c20 => k_is); (case k20 => k_is); (case a21 => k_is); (case l21 => k_is); (case c21 => k_is); (case k21 => k_is); (case a22 => k_is); (case l22 => k_is); (case c22 => k_is); (case k22 => k_is); (case z1 => k_is); (case z2 => k_is); (case z3 => k_is); (case z4 => k_is); (case z5 => k_is); (case z6 => k_is); (case z7 => k_is); (case z8 => k_is); (case z9 => k_is); (case z10 => k_is); (case z11 => k_is)
    case t4 => kernel_rfl
    case t5 => kernel_rfl
    case t9 => kernel_rfl
    case r4 => decide +kernel
    case r5 => decide +kernel
    case r9 => decide +kernel
