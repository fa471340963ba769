import PyProof.Rows.All
import Wide.All
import OpenK.AllK
import Wide.FinOn
import HandS.ForMost
import HandS.IsInst
import HandS.Codes
import HandS.Conv
import HandS.Star
import HandS.DeepEq
import HandS.ListEq
import HandS.SetFor
import HandS.Flow
import KE.KDictSum
import HandS.Walk
import HandS.AnyAll
import HandS.GenList
import HandS.Words
import HandS.EndTab
import HandS.DictComp
import KE.GoesMore
import KE.KEqDict
import HandS.Deep
import HandS.ListItems
import PyProof.SumAny
import KE.SortData
import HandS.SortKw
import KE.GoesEnum
import PySem.Challenge.RW_speechloom_k24_holes_filled
import HandS.TupAny
import HandS.TupLe
set_option Elab.async false
set_option linter.all false
set_option maxRecDepth 100000
set_option maxHeartbeats 4000000
/-! rules of my own over the hand layer -/
namespace PySem.SeqAt
open AutoSeq1 (wpAny_loadPart')
open MeetsSeq MeetsSeq2 MeetsSeq3 SeqRoads2
section
variable {prog : Program} {w : World}
theorem my_neLoop (l b : Addr) (us vs : Array Value) (n m : Nat) (du dv : Option Addr) (su sv : Array (Option Value)) (hz : us.size = vs.size) (k : Nat) : ∀ i : Nat, us.size - i = k →
    MeetsIn prog w (Builtin.«list.__eq__.loop» ⟨[.ref l, .ref b, rawInt i, rawInt 3], []⟩) (fun A R s =>
      s.heap.get? l = some { cls := .type "list", dict := du, data := .seq us n, slots := su } ∧ s.heap.get? b = some { cls := .type "list", dict := dv, data := .seq vs m, slots := sv } ∧
      (∀ j (p : j < us.size) (q : j < vs.size), EqP prog w A.in1 s us[j] vs[j] true) ∧ R (.ok (.ret (.bool false))) s) := by
  induction k with
  | zero =>
    intro i hk A R s h
    obtain ⟨hp, g, d, tk, os⟩ := s
    obtain ⟨hl, hb, he, h⟩ := h
    wp_walk using wpAny_loadPart' hl, wpAny_loadPart' hb
    have e1 : us[((i : Nat) : Int).toNat]? = none := by simp; omega
    have e2 : vs[((i : Nat) : Int).toNat]? = none := by simp; omega
    rw [e1, e2]
    wp_walk using wpAny_loadPart' hl, wpAny_loadPart' hb
    show R (.ok (.ret (.bool (us.size != vs.size)))) _
    rw [hz]
    simpa using h
  | succ k ih =>
    intro i hk A R s h
    obtain ⟨hp, g, d, tk, os⟩ := s
    obtain ⟨hl, hb, he, h⟩ := h
    wp_walk using wpAny_loadPart' hl, wpAny_loadPart' hb
    have p1 : i < us.size := by omega
    have p2 : i < vs.size := by omega
    have e1 : us[((i : Nat) : Int).toNat]? = some us[i] := by simp [p1]
    have e2 : vs[((i : Nat) : Int).toNat]? = some vs[i] := by simp [p2]
    have ec : ((i : Int) + 1) = ((i + 1 : Nat) : Int) := by push_cast; rfl
    rw [e1, e2]
    refine wpAny_bind (he i p1 p2 _ _ ?_)
    wp_walk
    rw [ec]
    exact ⟨plainId_quiet plain_eq_loop _, codeAny_builtin entry_eq_loop (by
      rw [Around.under_plainId plain_eq_loop _]
      exact ih (i + 1) (by omega) A R _ ⟨hl, hb, he, h⟩)⟩
theorem my_listNe (l b : Addr) (us vs : Array Value) (n m : Nat) (du dv : Option Addr) (su sv : Array (Option Value)) (hz : us.size = vs.size) :
    MeetsIn prog w (Builtin.«list.__ne__» ⟨[.ref l, .ref b], []⟩) (fun A R s =>
      s.heap.get? l = some { cls := .type "list", dict := du, data := .seq us n, slots := su } ∧ s.heap.get? b = some { cls := .type "list", dict := dv, data := .seq vs m, slots := sv } ∧
      (∀ j (p : j < us.size) (q : j < vs.size), EqP prog w A.in1 s us[j] vs[j] true) ∧ R (.ok (.ret (.bool false))) s) := by
  intro A R s h
  obtain ⟨hp, g, d, tk, os⟩ := s
  obtain ⟨hl, hb, he, h⟩ := h
  have f3 := AutoSeq1.sub_list_list
  have hn : ¬ (us.size != vs.size) = true := by simp [hz]
  wp_walk using wpAny_loadPart' hl, wpAny_loadPart' hb
  exact ⟨plainId_quiet plain_eq_loop _, codeAny_builtin entry_eq_loop (by
    rw [Around.under_plainId plain_eq_loop _]
    exact my_neLoop l b us vs n m du dv su sv hz _ 0 rfl A R _ ⟨hl, hb, he, h⟩)⟩
theorem my_rcNe {A : Around} {s : Shared} {l b : Addr} {us vs : Array Value} (hl : s.heap.IsList l us) (hb : s.heap.IsList b vs) (hz : us.size = vs.size) (hu : A.units < cLine)
    (he : ∀ j (p : j < us.size) (q : j < vs.size), EqP prog w A.in1 s us[j] vs[j] true) (E Q : Value → Shared → Prop) (h : Q (.bool false) s) : wpAny (model prog w) A (richCompare .NotEq (.ref l) (.ref b)) Q E s := by
  obtain ⟨⟨c1, du, x1, su⟩, ho, hc, n, hd⟩ := id hl
  obtain ⟨⟨c2, dv, x2, sv⟩, ho2, hc2, m, hd2⟩ := id hb
  simp only at hc hd hc2 hd2
  subst hc hd hc2 hd2
  have ta : s.TypeIs (.ref l) "list" := ⟨_, ho, rfl⟩
  have tb : s.TypeIs (.ref b) "list" := ⟨_, ho2, rfl⟩
  exact wpAny_richCompare_same_room (op := .NotEq) ta tb F.slot_list_ne (call_meetsIn F.slot_list_ne ta F.entry_list_ne (F.args_list_ne_2 _ _) (my_listNe l b us vs n m du dv su sv hz)
    ⟨ho, ho2, he, show Value.bool false ≠ Value.notImplemented ∧ Q (.bool false) s from ⟨(fun x => nomatch x), h⟩⟩) hu
end
end PySem.SeqAt
namespace BR
open PySem PySem.Spec PyProof.Rows L2
section
variable {X : Cx}
/-- two lists that are equal to the bottom: a != b is False -/
def rNeV (K : PySem.W.Frag) : R2 := fun x y H Q => ∃ a b xs ys n, x = .ref a ∧ y = .ref b ∧ SqL K H a xs ∧ SqL K H b ys ∧ n ≤ 60 ∧ Paired (EqV K H n) xs ys ∧ Q (.bl false) H
theorem op_neV (hu : X.A.units + 64 < cLine) : OpR X (compareOp .NotEq) (rNeV X.K) := by
  intro pins s σ H x y v u Q I rx ry h
  obtain ⟨a, b, xs, ys, n, rfl, rfl, ha, hb, hn, hp, q⟩ := h
  cases (show v = Value.ref a from rx)
  cases (show u = Value.ref b from ry)
  obtain ⟨us, r1, p1, _⟩ := I.list ha
  obtain ⟨ws, r2, p2, _⟩ := I.list hb
  have hz : us.toArray.size = ws.toArray.size := by
    rw [List.size_toArray, List.size_toArray, ← r1.length, ← r2.length]
    exact Paired.length hp
  refine SeqAt.my_rcNe p1.isList p2.isList hz (by omega) (fun j h1 h2 => ?_) _ _ ⟨.bl false, H, I, rfl, q⟩
  have k := items_run (eqV_run I n X.A.in1 (by show X.A.units + 1 + n < cLine; omega)) hp r1 r2 j (by simpa using h1) (by simpa using h2)
  simpa using k
/-! *d in a display: the keys of a dict -/
theorem star_dK {pins : List (Addr × Obj)} {σ : L2.St} {H : Hp} {s : Shared} {p : Addr} {kvs : List (Key × V)} {E : Value → Shared → Prop} {Q : List Value → Shared → Prop} (hc : X.calm = true) (I : Inv X pins σ H s) (hk : H p = some (.dK kvs))
    (hQ : ∀ us s', Inv X pins σ H s' → Vals (kvs.map fun kv => kV kv.1) us → Q us s') : PySem.W.StarOf (model X.prog X.w) X.A E (.ref p) Q s := by
  obtain ⟨z, lo, vs, rk, hd⟩ := (show ObjOk X.prog X.w H s.heap p (.dK kvs) from I.hok p _ hk)
  obtain ⟨ep, hat⟩ := hd.dictAt
  have hl : kvs.length = vs.length := Paired.length rk
  have hT : s.TypeIs (.ref p) "dict" := hd.typeIs
  have zz : wpAny (model X.prog X.w) X.A (collect (.ref p)) Q E s := by
    refine PySem.W.kdu_collect (PySem.W.kdl_dict (knd := mixKind X.prog X.w) (kvs := vs) (ep := ep) lo) (I.ok.hd hc) hat (by rw [← hl]; exact z) fun h' tk acc hkeep hacc => ?_
    refine hQ acc.toList _ (I.kept (t' := tk) hkeep) ?_
    have el : acc.toList.length = acc.size := by simp
    refine vals_of_at (by rw [List.length_map, el, hacc.1, hl]) fun j x w h1 h2 => ?_
    obtain ⟨k, y, hky, hi⟩ := hacc.2 j w (by rw [← Array.getElem?_toList]; exact h2)
    have e1 : (kvs.map (·.1))[j]? = some k := by
      rw [KV.keys rk, List.getElem?_map, hky] <;> rfl
    have e2 : (kvs.map fun kv => kV kv.1)[j]? = some (kV k) := by
      have e3 : (kvs.map fun kv => kV kv.1) = (kvs.map (·.1)).map kV := by rw [List.map_map] <;> rfl
      rw [e3, List.getElem?_map, e1] <;> rfl
    rw [e2] at h1
    cases h1
    exact keyIs_rel hi
  unfold PySem.W.StarOf notIterableAtAll
  exact wpAny_bind (wpAny_specialOf hT PySem.F.slot_dict_iter.lookup (wpAny_pure ⟨rfl, zz⟩))
def tStarD (te : TE) (t : TA) : TA := fun σ H Q => te σ H fun x H1 => ∃ p kvs, x = V.ref p ∧ H1 p = some (.dK kvs) ∧ t σ H1 fun ys H2 => Q ((kvs.map fun kv => kV kv.1) ++ ys) H2
theorem pa_starD {e : Expr} {es : List Expr} {te : TE} {t : TA} {p : Pos} (hc : X.calm = true) (he : PE X e te) (hr : PA X es t) (hs : starEach (.Starred e p :: es) X.env = (true, eval e X.env) :: starEach es X.env := by rfl) : PA X (.Starred e p :: es) (tStarD te t) := by
  refine ⟨fun pos pins s σ H Q I h => ?_⟩
  refine PySem.W.items_star (thn (he.run pins s σ H _ I h) fun v s1 ⟨y, H1, I1, ry, a, kvs, ey, hx, q⟩ => ?_) hs
  subst ey
  obtain rfl : v = Value.ref a := ry
  refine star_dK hc I1 hx fun us s2 I2 rv => ?_
  exact thn (hr.run pos pins s2 σ H1 _ I2 q) fun ws s3 ⟨vs, H3, I3, r3, q3⟩ => ⟨_ ++ vs, H3, I3, rv.append r3, q3⟩
/-! rules whose reading names the written part, said with a letter for it (for the block of a comprehension) -/
theorem call_listK {K : PySem.W.Frag} (e : X.K = K) : CallR X (.type "list") (fun xs H Q => ∃ p ys, xs = [.ref p] ∧ (SqL K H p ys ∨ SqT K H p ys) ∧ ∀ l, H l = none → Q (.ref l) (upd H l (.lst ys))) := by
  subst e
  exact call_list_of
theorem op_inK {K : PySem.W.Frag} (e : X.K = K) : OpR X (compareOp .In) (rIn K false) := by
  subst e
  exact op_in_seq
theorem pt_truthK {K : PySem.W.Frag} {a : Expr} {ta : TE} (e : X.K = K) (ha : PE X a ta) (he : ∀ whole, isTrue a X.env whole = (do let v ← whole; standAt a.pos; holding [v] (truthy v))) :
    PT X a (fun σ H Q => ta σ H fun x H' => ∃ k, TruV K x H' k ∧ Q k H') := by
  subst e
  exact pt_truth ha he
theorem call_isiX {K : PySem.W.Frag} (e : X.K = K) : CallR X (.builtin "isinstance") (rIsi K) := by
  subst e
  exact call_isi
theorem pe_bmK {K : PySem.W.Frag} {o e : Expr} {es : List Expr} {to : TE} {t : TA} {name : Str} {apos cpos : Pos} {T id : String} {r : V → List V → Hp → VK → Prop} (eK : X.K = K)
    (pa : PlainAttrs T) (slot : Slot T name id) (hty : typeOf (.builtin id) = pure (.type "method_descriptor")) (hm : MtR X id r) (ho : PE X o to) (ha : PA X (e :: es) t)
    (h1 : attributeBase o name X.env (eval o X.env) = eval o X.env := by rfl)
    (h2 : ((backTo cpos (starEach (e :: es) X.env)).all (fun x => !x.1) && (backToKw cpos (keywordEach [] X.env)).all (fun x => x.1.isSome) && decide ((e :: es).length + ([] : List Keyword).length + (if ([] : List Keyword).isEmpty then 0 else 1) < 30)) = true := by rfl)
    (h3 : (apos.endLine == cpos.line) = true := by rfl) (h4 : starEach (e :: es) X.env = (false, eval e X.env) :: starEach es X.env := by rfl) (h5 : (backTo cpos (starEach es X.env)).any (·.1) = false := by rfl) :
    PE X (.Call (.Attribute o name apos) (e :: es) [] cpos) (tBM K T r to t) := by
  subst eK
  exact pe_bm pa slot hty hm ho ha h1 h2 h3 h4 h5
/-! list.count of a text in a list of texts -/
def eqsT (z : Str) : Value → Bool
  | .str y _ => y == z
  | _ => false
theorem eqsT_count {z : Str} : ∀ {ss : List Str} {us : List Value}, Vals (ss.map V.str) us → us.countP (eqsT z) = ss.count z
  | [], _, r => by cases r; rfl
  | y :: ss, _, r => by
    cases r with
    | cons h t =>
      obtain ⟨k, rfl⟩ := h
      rw [List.countP_cons, List.count_cons, eqsT_count t]
      rfl
theorem eqsT_at {A : Around} {s : Shared} {z : Str} {t : Tok} : ∀ {ss : List Str} {us : List Value}, Vals (ss.map V.str) us → ∀ y ∈ us, SeqAt.EqAt A s y (.str z t) (eqsT z y)
  | [], _, r, y, hy => by cases r; cases hy
  | x :: ss, _, r, y, hy => by
    cases r with
    | cons h q =>
      obtain ⟨k, rfl⟩ := h
      rcases List.mem_cons.mp hy with rfl | e
      · exact SeqAt.EqAt.str_str _ _ _ _
      · exact eqsT_at q y e
theorem mt_countS : MtR X "list.count" (fun x vs H Q => ∃ (p : Addr) (ss : List Str) (z : Str), x = .ref p ∧ vs = [.str z] ∧ SqL X.K H p (ss.map V.str) ∧ Q (.int (ss.count z : Nat)) H) := by
  intro pins s σ H x xs v us Q I rx rxs h
  obtain ⟨p, ss, z, rfl, rfl, hs, q⟩ := h
  cases rx
  obtain ⟨u, rfl, ru⟩ := rxs.one
  obtain ⟨t, rfl⟩ := ru
  obtain ⟨its, rv, ⟨⟨c1, dd, x1, sl⟩, n, ho, hc, hdn, hd⟩, hlen⟩ := I.list hs
  simp only at hc hd
  subst hc hd
  refine call_meets PySem.F.slot_list_count ⟨_, ho, rfl⟩ PySem.F.entry_list_count (PySem.F.args_list_count_2 _ _)
    (SeqAt.list_countAt p its.toArray n dd sl (.str z t) (eqsT z)) ⟨ho, fun y hy => eqsT_at rv y (by simpa using hy), ?_⟩
  have ec : its.toArray.toList.countP (eqsT z) = ss.count z := eqsT_count rv
  refine ⟨.int (ss.count z : Nat), H, I.tok _, ⟨s.toks, ?_⟩, q⟩
  show Value.int ((its.toArray.toList.countP (eqsT z) : Nat) : Int) s.toks = Value.int ((ss.count z : Nat) : Int) s.toks
  rw [ec]
theorem mt_countK {K : PySem.W.Frag} (e : X.K = K) : MtR X "list.count" (fun x vs H Q => ∃ (p : Addr) (ss : List Str) (z : Str), x = .ref p ∧ vs = [.str z] ∧ SqL K H p (ss.map V.str) ∧ Q (.int (ss.count z : Nat)) H) := by
  subst e
  exact mt_countS
end
end BR

namespace Bn
open PySem PySem.Spec PyProof.Rows L2 BR
/-! ### heaps -/
def Kp (b : Addr) (H H' : Hp) : Prop := ∀ a o, a ≠ b → H a = some o → H' a = some o
theorem Kp.refl (b : Addr) (H : Hp) : Kp b H H := fun _ _ _ h => h
theorem Kp.trans {b : Addr} {H H1 H2 : Hp} (x : Kp b H H1) (y : Kp b H1 H2) : Kp b H H2 := fun a o n h => y a o n (x a o n h)
theorem Kp.put {b : Addr} {H : Hp} {o : HO} : Kp b H (upd H b o) := fun a x n h => by
  rw [upd_ne n]
  exact h
theorem Kp.new {b p : Addr} {H : Hp} {o : HO} (h : H p = none) : Kp b H (upd H p o) := fun a x n e => by
  rw [upd_ne (ne_of_none e h)]
  exact e
theorem same_new {H : Hp} {p : Addr} {o : HO} (h : H p = none) : Same H (upd H p o) := fun b x e => by
  rw [upd_ne (ne_of_none e h)]
  exact e
theorem Kp.of_same {b : Addr} {H H' : Hp} (h : Same H H') : Kp b H H' := fun a o _ e => h a o e
theorem Same.kp {b : Addr} {H0 H H' : Hp} (s : Same H0 H) (n : H0 b = none) (k : Kp b H H') : Same H0 H' := fun a o e => k a o (ne_of_none e n) (s a o e)
/-- what is new is changed -/
theorem Same.own {p : Addr} {H0 H : Hp} {o : HO} (s : Same H0 H) (n : H0 p = none) : Same H0 (upd H p o) := fun a x e => by
  rw [upd_ne (ne_of_none e n)]
  exact s a x e
def Bx (H : Hp) (b : Addr) : Prop := ∃ x y z : Int, H b = some (.lst [.int x, .int y, .int z])
theorem Bx.same {H H' : Hp} {b : Addr} (h : Bx H b) (s : Same H H') : Bx H' b := by
  obtain ⟨x, y, z, e⟩ := h
  exact ⟨x, y, z, s _ _ e⟩
theorem Bx.ne {H : Hp} {b p : Addr} (h : Bx H b) (n : H p = none) : b ≠ p := by
  obtain ⟨x, y, z, e⟩ := h
  exact ne_of_none e n
structure Kb (b : Addr) (H H' : Hp) : Prop where
  k : Kp b H H'
  x : Bx H' b
theorem Kb.refl {b : Addr} {H : Hp} (h : Bx H b) : Kb b H H := ⟨Kp.refl b H, h⟩
theorem Kb.trans {b : Addr} {H H1 H2 : Hp} (p : Kb b H H1) (q : Kb b H1 H2) : Kb b H H2 := ⟨p.k.trans q.k, q.x⟩
theorem Kb.new {b p : Addr} {H : Hp} {o : HO} (hb : Bx H b) (h : H p = none) : Kb b H (upd H p o) := ⟨Kp.new h, hb.same (same_new h)⟩
theorem Kb.free {b a : Addr} {H H' : Hp} (p : Kb b H H') (h : H' a = none) : H a = none := by
  cases e : H a with
  | none => rfl
  | some o =>
    by_cases q : a = b
    · subst q
      obtain ⟨x, y, z, e2⟩ := p.x
      rw [e2] at h
      cases h
    · rw [p.k a o q e] at h
      cases h
theorem Kb.own {b p : Addr} {H H' : Hp} {o : HO} (q : Kb b H H') (h : H p = none) (n : p ≠ b) : Kb b H (upd H' p o) := ⟨fun a x na e => by
  rw [upd_ne (ne_of_none e h)]
  exact q.k a x na e, by
  obtain ⟨x, y, z, e2⟩ := q.x
  exact ⟨x, y, z, by rw [upd_ne n.symm]; exact e2⟩⟩
theorem line1000 {n : Nat} (h : n ≤ 1000) : n ≤ sizeLine := Nat.le_of_lt (small1000 h)
theorem tYes_in {σ : L2.St} {H : Hp} {f g : Hp → Prop} (h : f H) : tYes σ H fun b H3 => if b = true then f H3 else g H3 := by
  show (if true = true then f H else g H)
  exact iteT h
def lenAt (H : Hp) (l : Addr) : Nat := match H l with
  | some (.lst xs) => xs.length
  | _ => 0
theorem lenAt_of {H : Hp} {l : Addr} {xs : List V} (h : H l = some (.lst xs)) : lenAt H l = xs.length := by
  unfold lenAt
  rw [h]
theorem ne_bx {H : Hp} {b p : Addr} {o : HO} (hb : Bx H b) (h : H p = some o) (hn : ∀ x y z : Int, o ≠ .lst [.int x, .int y, .int z]) : p ≠ b := fun e => by
  obtain ⟨x, y, z, e2⟩ := hb
  rw [e, e2] at h
  exact hn x y z (Option.some.inj h).symm
/-! ### texts -/
def okS (x : Str) : Prop := ∀ c ∈ TL.tl x, c < 0x110000
theorem okS_iff (x : Str) : PyData.strOk x = true ↔ okS x := by
  unfold PyData.strOk okS TL.tl
  rw [← Array.all_toList, List.all_eq_true]
  exact ⟨fun h c hc => of_decide_eq_true (h c hc), fun h c hc => decide_eq_true (h c hc)⟩
theorem strs_shaped : ∀ (vs : List Str), (∀ x ∈ vs, okS x) → PyData.canLayAll0 (vs.map PyData.str) = true ∧ PyData.depthAll (vs.map PyData.str) = 0
  | [], _ => ⟨rfl, rfl⟩
  | v :: vs, h => by
    obtain ⟨a, b⟩ := strs_shaped vs fun x hx => h x (List.mem_cons_of_mem _ hx)
    refine ⟨?_, ?_⟩
    · show (PyData.strOk v && PyData.canLayAll0 (vs.map PyData.str)) = true
      rw [a, (okS_iff v).mpr (h v (List.mem_cons_self ..))]
      rfl
    · show max 0 (PyData.depthAll (vs.map PyData.str)) = 0
      rw [b]
      rfl
theorem strs_list_shaped {vs : List Str} (h : ∀ x ∈ vs, okS x) : SeqAt.shaped (.list (vs.map PyData.str)) = true := by
  obtain ⟨a, b⟩ := strs_shaped vs h
  show (PyData.canLayAll0 (vs.map PyData.str) && decide (PyData.depthAll (vs.map PyData.str) + 1 ≤ 64)) = true
  rw [a, b]
  rfl
theorem strs_dp {K : PySem.W.Frag} {H : Hp} : ∀ (vs : List Str), DpAll K H (vs.map V.str) (vs.map PyData.str)
  | [] => .nil
  | v :: vs => .cons (.str v) (strs_dp vs)
theorem strs_nil (vs : List Str) : PyData.eqv (.list (vs.map PyData.str)) (.list []) = vs.isEmpty := by
  cases vs with
  | nil => rfl
  | cons v r => rfl
theorem strs_all {ws : List Str} : ∀ {ys : List V}, (∀ y ∈ ys, y ∈ ws.map V.str) → ∃ vs : List Str, ys = vs.map V.str ∧ ∀ v ∈ vs, v ∈ ws
  | [], _ => ⟨[], rfl, fun v hv => by cases hv⟩
  | y :: ys, h => by
    obtain ⟨vs, e, hv⟩ := strs_all (ys := ys) fun z hz => h z (List.mem_cons_of_mem _ hz)
    obtain ⟨x, hx, ex⟩ := List.mem_map.mp (h y (List.mem_cons_self ..))
    refine ⟨x :: vs, ?_, fun v hv' => ?_⟩
    · rw [List.map_cons, ex, e]
    · rcases List.mem_cons.mp hv' with rfl | q
      · exact hx
      · exact hv v q
theorem map_str_inj : ∀ {vs ws : List Str}, vs.map V.str = ws.map V.str → vs = ws
  | [], [], _ => rfl
  | [], _ :: _, h => by cases h
  | _ :: _, [], h => by cases h
  | v :: vs, w :: ws, h => by
    rw [List.map_cons, List.map_cons] at h
    injection h with h1 h2
    rw [V.str.inj h1, map_str_inj h2]
theorem strs_ne_ints {vs : List Str} (h : 1 ≤ vs.length) : ∀ x y z : Int, HO.lst (vs.map V.str) ≠ .lst [.int x, .int y, .int z] := fun x y z e => by
  cases vs with
  | nil => exact absurd h (by decide)
  | cons v r =>
    injection e with e1
    rw [List.map_cons] at e1
    injection e1 with e2 _
    cases e2
theorem rd_lock {H : Hp} {a d : Addr} {u v : HO} {o : Obj} (ha : H a = some v) (hd : H d = some u) : Rd (upd H d (.frz o u)) a v := by
  by_cases e : a = d
  · subst e
    rw [ha] at hd
    cases hd
    exact .inr ⟨o, upd_same⟩
  · exact .inl (by rw [upd_ne e]; exact ha)
theorem unlock {H : Hp} {d : Addr} {u : HO} {o : Obj} (hd : H d = some u) : upd (upd H d (.frz o u)) d u = H := by
  funext x
  by_cases e : x = d
  · subst e
    rw [upd_same, hd]
  · rw [upd_ne e, upd_ne e]
end Bn

/-! all(elt for target in iter if ..), the element by the layer's own rules, over anything that is walked; the heap may move -/
namespace GX
open PySem PySem.Spec PyProof.Rows L2 GenW

/-- the context of a generator expression's frame that was made at s -/
abbrev gcx (X : Cx) (s : Shared) (H : Hp) (cenv : Env) (fp : List Addr) : Cx :=
  { X with A := X.A.in1.in1.deeper cenv, s_0 := s, H_0 := H, env := cenv, outer := X.stack, stack := cenv :: X.stack, ex := fp, fn := fun _ => false, pn := [], xe := fun _ _ => False }

section
variable {X : Cx} {pins : List (Addr × Obj)} {σ : L2.St} {H : Hp} {s : Shared}
theorem gen_start {scope : Scope} {own : List (Str × Nat)} {fp : List Addr} {h' : Heap} {mm : Str → Option Value} {G : Array GenState} {tk : Nat} {code : Value} (J : Inv X pins σ H s) (blk : BlkOk X.N X.env.scope scope own) (nc : ∀ y ∈ scope.names, y.2 ≠ .cell) (nd : X.N.Nodup)
    (walked : ∀ p ∈ fp, FpOk X pins H p ∧ p < s.heap.objs.size) (frame : h'.Ns s.heap.objs.size mm) (up : ∀ p u, s.heap.get? p = some u → h'.get? p = some u) (bare : AllBare G) :
    Inv (gcx X s H (genEnv scope (cloFrom X.env.cells scope.names []) s.heap.objs.size code builtinsNs X.env) fp) [] (wipe σ (own.map (·.2))) H { s with heap := h', gens := G, toks := tk } := by
  have caught : ∀ n ∈ scope.names, n.2 = .free → ∃ c, X.env.cells.lookup n.1 = some c := fun n hn hf =>
    J.ok.has _ ((blk.free n hn hf).elim .inl .inr)
  -- the closure holds cells of the def alone
  have clo : ∀ {n c}, (n, c) ∈ cloFrom X.env.cells scope.names [] → X.env.cells.lookup n = some c ∧ c < s.heap.objs.size := fun {n c} hin => by
    rcases cloFrom_mem hin with none' | ⟨isFree, rfl⟩
    · exact absurd none' List.not_mem_nil
    · obtain ⟨c₀, at₀⟩ := caught _ isFree rfl
      obtain ⟨val, stands⟩ := J.cell _ _ at₀
      rw [at₀]
      exact ⟨rfl, stands.lt⟩
  generalize env' : genEnv scope (cloFrom X.env.cells scope.names []) s.heap.objs.size code builtinsNs X.env = ge
  have gL : ge.locals = s.heap.objs.size := env' ▸ rfl
  have gC : ge.cells = cloFrom X.env.cells scope.names [] := env' ▸ rfl
  have gS : ge.scope = scope := env' ▸ rfl
  have gF : ge.frame = some ge.locals := env' ▸ rfl
  have down : ∀ {n c}, ge.cells.lookup n = some c → X.env.cells.lookup n = some c ∧ c < s.heap.objs.size := fun {n c} q =>
    clo (PySem.mem_of_lookup (gC ▸ q))
  have freeAt : ∀ {n}, scope.names.lookup n = some .free → ∃ c, ge.cells.lookup n = some c ∧ X.env.cells.lookup n = some c := fun {n} q => by
    obtain ⟨c, inGe⟩ := mem_lookup (cloFrom_has (cells := X.env.cells) (acc := []) (PySem.mem_of_lookup q))
    have inGe' : ge.cells.lookup n = some c := gC ▸ inGe
    exact ⟨c, inGe', (down inGe').1⟩
  have wOk : (gcx X s H ge fp).Ok := {
    mod := J.ok.mod
    kind := by show ge.scope.kind = _; rw [gS]; exact blk.kind
    glob := by show ge.globals = _; rw [← env']; exact J.ok.glob
    blt := by show ge.builtins = _; rw [← env']; rfl
    above := Nat.le_of_eq gL.symm
    inj := fun n n' c q q' => J.ok.inj n n' c (down q).1 (down q').1
    has := fun n kinds => by
      have kinds' : scope.names.lookup n = some .cell ∨ scope.names.lookup n = some .free := gS ▸ kinds
      rcases kinds' with isCell | isFree
      · exact absurd rfl (nc _ (PySem.mem_of_lookup isCell))
      · exact (freeAt isFree).imp fun _ q => q.1
    cab := fun _ _ z _ => absurd z Bool.false_ne_true
    hd := J.ok.hd
    frames := Around.frames_deeper J.ok.frames
    stk := .inr ⟨rfl, gF⟩
    exf := fun p hp => ⟨by show p ≠ ge.locals; rw [gL]; exact Nat.ne_of_lt (walked p hp).2, fun n c q => (walked p hp).1.2.2.2.2.1 n c (down q).1⟩
    bs := J.bs
    bsz := Nat.le_trans J.ok.bsz J.sz
    noex := fun p u q hp => (walked p hp).1.2.2.2.1.elim (J.ok.noex p u q) fun young => Nat.lt_irrefl _ (Nat.lt_of_lt_of_le (Heap.lt_size q) (Nat.le_trans J.ok.bsz young))
    exfs := fun p hp z => (List.mem_cons.mp (J.stkSub p z)).elim (walked p hp).1.2.1 (walked p hp).1.2.2.1
    funs := J.stack
    frf := J.stkFree }
  refine { ok := wOk, os := rfl, bare := bare, base := Un.kept up, loc := ⟨mm, by show Heap.Ns _ ge.locals _; rw [gL]; exact frame, fun k n v atN atS vis => ?_⟩, cell := fun n c q => ?_, free := ?_, freeC := fun n c q => J.freeC n c (down q).1, pin := fun _ none' => absurd none' List.not_mem_nil, hok := J.hok.kept up, len := ?_ }
  · obtain ⟨atS, notOwn⟩ := wipe_some atS
    have isFree : scope.names.lookup n = some .free := by
      have ownNot : ∀ kd, scope.names.lookup n = some kd → ¬ (kd = .local ∨ kd = .cell) := fun kd q two => by
        rcases blk.own _ (PySem.mem_of_lookup q) two with among | out
        · obtain ⟨⟨m₁, k₁⟩, in₁, nm⟩ := List.mem_map.mp among
          have nm' : m₁ = n := nm
          have k₁At := blk.ix _ in₁
          rw [show (m₁, k₁).1 = n from nm'] at k₁At
          exact notOwn (List.mem_map.mpr ⟨_, in₁, nodup_ix nd k₁At atN⟩)
        · exact out (List.mem_of_getElem? atN)
      have vis' : Vis scope n := gS ▸ (show Vis ge.scope n from vis)
      rcases vis' with q | q | q
      · exact absurd (.inl rfl) (ownNot _ q)
      · exact absurd (.inr rfl) (ownNot _ q)
      · exact q
    have inDef := blk.free _ (PySem.mem_of_lookup isFree) rfl
    obtain ⟨_, _, reads⟩ := J.loc
    obtain ⟨val, rel, how⟩ := reads k n v atN atS (.inr inDef)
    obtain ⟨c, c1, c2⟩ := freeAt isFree
    refine ⟨val, rel, .inr ⟨.inr (by show ge.scope.names.lookup n = _; rw [gS]; exact isFree), c, c1, ?_⟩⟩
    rcases how with ⟨isLocal, _⟩ | ⟨_, c₂, c₂At, stands⟩
    · have isLocal' : X.env.scope.names.lookup n = some .local := isLocal
      rw [isLocal'] at inDef
      rcases inDef with q | q <;> cases q
    · rw [c2] at c₂At
      cases c₂At
      exact stands.keeps up
  · obtain ⟨val, stands⟩ := J.cell n c (down q).1
    exact ⟨val, stands.keeps up⟩
  · show H ge.locals = none
    exact gL ▸ J.hok.fresh (Nat.le_refl _)
  · exact (wipe_length σ _).trans J.len
end

/-! ### the protocol -/
section
variable {Y : Cx}
def RG (Y : Cx) (pn : List (Addr × Obj)) (T : Hp → Prop) : GenEnd := fun n s₀ r s₁ => r = .ok .next ∧ ∃ σ H, Inv Y pn σ H s₁ ∧ T H
def YG (Y : Cx) (pn : List (Addr × Obj)) (F : Hp → Prop) : Protocol := fun n s₀ v s kap =>
  ∃ b σ H, v = .bool b ∧ Inv Y pn σ H s ∧ (b = true → ∀ G, AllBare G → kap (.send .none) { s with gens := G }) ∧ (b = false → F H)
theorem inv_gens {pn : List (Addr × Obj)} {σ : L2.St} {H : Hp} {s : Shared} {G : Array GenState} (I : Inv Y pn σ H s) (h : AllBare G) : Inv Y pn σ H { s with gens := G } :=
  I.call' (ch := []) rfl (Un.kept fun _ _ e => e) I.hok h fun b z => by simp at z
theorem inv_kept {pn : List (Addr × Obj)} {σ : L2.St} {H : Hp} {s : Shared} {G : Array GenState} {h' : Heap} (I : Inv Y pn σ H s) (h : AllBare G) (k : ∀ b o, s.heap.get? b = some o → h'.get? b = some o) : Inv Y pn σ H { s with gens := G, heap := h' } :=
  I.call' (ch := []) rfl (Un.kept k) (I.hok.kept k) h fun b z => by simp at z

/-- what a turn of the walk wants -/
def AllTurn (J : It) (g : TG) (tt : TT) (te : TE) (vs : List Nat) (σw : L2.St) (W : Nat → Nat → Hp → Prop) (T F : Hp → Prop) : Prop :=
  ∀ i m H, W i m H → (J.stop i H ∧ T H) ∨ (J.go i H ∧ ∃ Nx : Hp → Prop, (∀ H', Nx H' → ∃ m', m' < m ∧ W (i + 1) m' H') ∧ ∀ x H', J.yld i H x H' → g x σw H' fun σ2 H2 => wipe σ2 vs = σw ∧ tt σ2 H2 fun b H3 =>
    if b = true then te σ2 H3 fun y H4 => ∃ c : Bool, y = .bl c ∧ (c = true → Nx H4) ∧ (c = false → F H4) else Nx H3)

theorem seg_loop {A : Around} {elt tg iter : Expr} {ifs : List Expr} {scope : Scope} {pos : Pos} {it : Addr} {fp : List Addr} {tn : Nat → Heap → Prop} {J : It} {g : TG} {tt : TT} {te : TE} {vs : List Nat} {σw : L2.St} {pn : List (Addr × Obj)} {W : Nat → Nat → Hp → Prop} {T F : Hp → Prop}
    (hov : A.over (.compLoop (.GeneratorExp elt [⟨tg, iter, ifs, 0⟩] scope pos) 0 (.ref it) .none Y.env) [] = Y.A) (hxe : Y.xe = fun _ _ => False) (hcalm : Y.calm = true) (hco : Y.env.scope.isCoroutine = false)
    (Tn : Turn Y.prog Y.w Y.K tg J fp it tn) (pg : PG Y tg g) (pt : PTs Y ifs tt) (pe : PE Y elt te) (hex : ∀ b ∈ fp, b ∈ Y.ex) (hpn : Y.pn = []) (hpins : ∀ p ∈ pn, p.1 ∉ fp) (turn : AllTurn J g tt te vs σw W T F) :
    ∀ (m n i : Nat) (s₀ s : Shared) (H : Hp), m < n → Inv Y pn σw H s → tn i s.heap → (∀ b ∈ fp, H b = none) → W i m H →
      Seg (model Y.prog Y.w) A (RG Y pn T) (YG Y pn F) n s₀ (.compLoop (.GeneratorExp elt [⟨tg, iter, ifs, 0⟩] scope pos) 0 (.ref it) .none Y.env)
        ((model Y.prog Y.w).den (.compLoop (.GeneratorExp elt [⟨tg, iter, ifs, 0⟩] scope pos) 0 (.ref it) .none Y.env)) [] s := by
  have stat : ∀ {σ' : L2.St} {H' : Hp} {s' : Shared}, Inv Y pn σ' H' s' → (∀ b ∈ fp, H' b = none) → ∀ b ∈ fp, FpOk Y pn H' b := fun {σ' H' s'} I' hn b hb =>
    ⟨hn b hb, (I'.ok.exf b (hex b hb)).1, I'.ok.exfs b (hex b hb), .inl (hex b hb), fun x c e => (I'.ok.exf b (hex b hb)).2 x c e, fun p hp => by
      rw [hpn] at hp
      exact fun z => hpins p (by simpa using hp) (by rw [z]; exact hb)⟩
  intro m
  induction m using Nat.strongRecOn with
  | ind m ih =>
    intro n i s₀ s H hmn I st nfp w
    show Seg _ A _ _ _ s₀ _ ((compTurn (.GeneratorExp elt [⟨tg, iter, ifs, 0⟩] scope pos) 0 (.ref it) .none Y.env).onRaise (leaving Y.env)) [] s
    rw [compTurn_gen, Sem.onRaise_eq_wrap]
    refine seg_bind_wrap (wpAny_standAt ?_)
    rcases turn i m H w with ⟨stop, qq⟩ | ⟨go, Nx, hNx, step⟩
    · refine seg_bind_wrap ?_
      rw [hov]
      refine thnF (Tn.done Y rfl rfl rfl hcalm i pn s _ H (fun _ _ => False) I (stat I nfp) st stop) fun r s1 ⟨hr, I1⟩ => ?_
      subst hr
      exact seg_end (.ok .next) ⟨rfl, _, _, I1, qq⟩
    · refine seg_bind_wrap ?_
      rw [hov]
      refine thnF (Tn.item Y rfl rfl rfl hcalm i pn s _ H (fun _ _ => False) I (stat I nfp) st go) fun r s1 ⟨u, hr, h1⟩ => ?_
      subst hr
      refine seg_bind_wrap ?_
      rw [hov]
      refine thnF h1 fun _ s2 ⟨x, H2, I2, r2, y2, st2, n2⟩ => ?_
      have I2' := I2.pinned (stat I2 n2) (Tn.obj _ _ st2)
      have no : ∀ {e : Value} {s' : Shared} {C : Prop}, Y.xe e s' → C := fun {e s' C} h => by
        rw [hxe] at h
        exact h.elim
      refine seg_bind_wrap ?_
      rw [hov]
      refine wpAny_mono (pg.run _ s2 _ H2 x u _ I2' r2 (step x H2 y2)) (fun _ s3 h3 => ?_) fun _ _ e => no e
      obtain ⟨σ3, H3, I3, hw3, q3⟩ := h3
      refine seg_bind_wrap ?_
      rw [hov]
      refine wpAny_mono (pt.run _ s3 σ3 H3 _ I3 q3) (fun b s4 h4 => ?_) fun _ _ e => no e
      obtain ⟨H4, I4, q4⟩ := h4
      -- the turn's end
      have fin : ∀ {s' : Shared} {H' : Hp} {G : Array GenState}, Inv Y (pn ++ pinsAt fp s2.heap) σ3 H' s' → AllBare G → Nx H' → ∃ m', m' < m ∧ Inv Y pn σw H' { s' with gens := G } ∧ tn (i + 1) ({ s' with gens := G } : Shared).heap ∧ (∀ b ∈ fp, H' b = none) ∧ W (i + 1) m' H' := fun {s' H' G} I' hG nx => by
        obtain ⟨m', less, w'⟩ := hNx H' nx
        have pin' : ∀ b ∈ fp, ∀ o, s2.heap.get? b = some o → s'.heap.get? b = some o ∧ H' b = none := fun b hb o e =>
          (I'.pin (b, o) (List.mem_append_right _ (List.mem_append_right _ (mem_pinsAt hb e)))).imp id And.left
        have hl : σw.length = σ3.length := by rw [← hw3, wipe_length]
        refine ⟨m', less, inv_gens ((I'.unpinned (pins := pn)).weak hl (fun j v e => ?_)) hG, Tn.keep _ _ _ st2 fun b hb o e => (pin' b hb o e).1, fun b hb => ?_, w'⟩
        · rw [← hw3] at e
          exact (wipe_some e).1
        · obtain ⟨o, e, _⟩ := Tn.obj _ _ st2 b hb
          exact (pin' b hb o e).2
      cases b with
      | false =>
        simp only [Bool.false_eq_true, if_false] at q4 ⊢
        obtain ⟨m', hm, J1, J2, J3, J4⟩ := fin I4 I4.bare q4
        exact seg_again rfl (ih m' hm n (i + 1) s₀ s4 H4 (by omega) J1 J2 J3 J4)
      | true =>
        simp only [if_true] at q4 ⊢
        have hy : ∀ v, yieldOut Y.env v = yieldValue v := fun v => by simp only [yieldOut, hco, Bool.false_eq_true, if_false]
        simp only [hy]
        rw [Sem.bind_eq_wrap', Sem.bind_eq_wrap', Sem.wrap_wrap, Sem.wrap_wrap]
        refine seg_wrap ?_
        rw [hov]
        refine wpAny_mono (pe.run _ s4 σ3 H4 _ I4 q4) (fun v s5 h5 => ?_) fun _ _ e => no e
        obtain ⟨yv, H5, I5, r5, c, ey, hT, hF⟩ := h5
        subst ey
        obtain rfl : v = Value.bool c := r5
        obtain ⟨n', rfl⟩ : ∃ n', n = n' + 1 := ⟨n - 1, by omega⟩
        refine seg_at (seg_yield rfl rfl rfl ⟨c, σ3, H5, rfl, I5.unpinned (pins := pn), fun hc G hG => ?_, hF⟩)
        obtain ⟨m', hm, J1, J2, J3, J4⟩ := fin I5 hG (hT hc)
        exact seg_again rfl (ih m' hm n' (i + 1) _ _ H5 (by omega) J1 J2 J3 J4)

theorem seg_start {A : Around} {elt tg iter : Expr} {ifs : List Expr} {scope : Scope} {pos : Pos} {it : Addr} {fp : List Addr} {tn : Nat → Heap → Prop} {J : It} {n i : Nat} {R : GenEnd} {Yp : Protocol} {s₀ s : Shared} {cenv : Env} {P : Program} {w : World} {K : PySem.W.Frag}
    (Tn : Turn P w K tg J fp it tn) (st : tn i s.heap)
    (loop : Seg (model P w) A R Yp n s₀ (.compLoop (.GeneratorExp elt [⟨tg, iter, ifs, 0⟩] scope pos) 0 (.ref it) .none cenv) ((model P w).den (.compLoop (.GeneratorExp elt [⟨tg, iter, ifs, 0⟩] scope pos) 0 (.ref it) .none cenv)) [] s) :
    Seg (model P w) A R Yp n s₀ (.compStart (.GeneratorExp elt [⟨tg, iter, ifs, 0⟩] scope pos) 0 (.ref it) .none cenv) ((model P w).den (.compStart (.GeneratorExp elt [⟨tg, iter, ifs, 0⟩] scope pos) 0 (.ref it) .none cenv)) [] s := by
  show Seg _ A _ _ _ s₀ _ ((compStart (.GeneratorExp elt [⟨tg, iter, ifs, 0⟩] scope pos) 0 (.ref it) .none cenv).onRaise (leaving cenv)) [] s
  unfold compStart
  rw [Sem.onRaise_eq_wrap]
  show Seg _ A _ _ _ s₀ _ ((ask >>= _).wrap _ _ _ _) [] s
  refine seg_bind_wrap (wpAny_askSetting ?_)
  split
  · exact seg_again rfl loop
  · first
      | exact seg_bind_wrap (wpAny_rule (seg_bind_wrap (wpAny_standAt (seg_bind_wrap (Tn.self _ i s _ _ st (seg_again rfl loop))))))
      | (refine seg_bind_wrap (wpAny_rule ?_); show Seg _ A _ _ _ s₀ _ ((standAt iter.pos >>= _).wrap _ _ _ _) [] s; exact seg_bind_wrap (wpAny_standAt (seg_bind_wrap (Tn.self _ i s _ _ st (seg_again rfl loop)))))

/-! ### all's loop -/
theorem all_loop {A : Around} {R : Result → Shared → Prop} {a : Addr} {g : Nat} {pn : List (Addr × Obj)} {T F : Hp → Prop} (hh : A.handled = none) (hd : A.depth < recursionLimit)
    (hgen : ∀ σ H s, Inv Y pn σ H s → s.heap.IsGen a g) (hT : ∀ σ H s, Inv Y pn σ H s → T H → R (.ok (.ret (.bool true))) s) (hF : ∀ σ H s, Inv Y pn σ H s → F H → R (.ok (.ret (.bool false))) s) :
    ∀ (n : Nat) (s : Shared), s.heap.IsGen a g → s.heap.NoLimit → (∃ gs, s.gens[g]? = some gs ∧ gs.Goes (model Y.prog Y.w) A.in1.in1 (RG Y pn T) (YG Y pn F) n (.send .none) (s.setGen g .running)) →
      codeAny (model Y.prog Y.w) A (.builtin "all.loop" ⟨[.ref a], []⟩) R s := by
  intro n
  induction n with
  | zero =>
    intro s hg hl ⟨gs, hgs, hgo⟩
    refine codeAny_builtin PySem.F.entry_all_loop ?_
    rw [Around.under_plainId PySem.F.plain_all_loop _]
    show wpAny _ A.in1 (pyNext (.ref a) >>= _) _ _ s
    refine wpAny_bind (wpAny_pyNext_genexpQ (A := A.in1) (P := fun _ _ s₁ => ∃ σ H, Inv Y pn σ H s₁ ∧ T H) hh hl hd hg hgs hgo (fun v s₁ gs' hb hv => ?_) (fun s₁ hp h' hk => ?_))
    · obtain ⟨b, σ, H, rfl, I, h1, h2⟩ := hv
      cases b with
      | true => exact (h1 rfl _ I.bare).elim
      | false =>
        refine wpAny_bind (wpAny_holding (wpAny_truthy_bool ?_))
        refine wpAny_bind (wpAny_letGo ?_)
        simp only [Bool.false_eq_true, if_false]
        exact wpAny_bind (wpAny_rule (wpAny_pure (hF σ H _ (inv_gens I (allBare_setGen I.bare hb)) (h2 rfl))))
    · obtain ⟨σ, H, I, q⟩ := hp
      exact wpAny_bind (wpAny_rule (wpAny_pure (hT σ H _ (inv_kept (s := s₁) (G := (s₁.setGen g .finished).gens) I (allBare_setGen I.bare rfl) hk) q)))
  | succ n ih =>
    intro s hg hl ⟨gs, hgs, hgo⟩
    have hgl : g < s.gens.size := (Array.getElem?_eq_some_iff.mp hgs).1
    refine codeAny_builtin PySem.F.entry_all_loop ?_
    rw [Around.under_plainId PySem.F.plain_all_loop _]
    show wpAny _ A.in1 (pyNext (.ref a) >>= _) _ _ s
    refine wpAny_bind (wpAny_gsz (n := g + 1) hgl (wpAny_pyNext_genexpQ (A := A.in1) (P := fun _ _ s₁ => ∃ σ H, Inv Y pn σ H s₁ ∧ T H) hh hl hd hg hgs hgo (fun v s₁ gs' hb hv => ?_) (fun s₁ hp h' hk => ?_)))
    · intro hsz
      obtain ⟨b, σ, H, rfl, I, h1, h2⟩ := hv
      refine wpAny_bind (wpAny_holding (wpAny_truthy_bool ?_))
      refine wpAny_bind (wpAny_letGo ?_)
      cases b with
      | true =>
        simp only [if_true]
        have hsz1 : g < s₁.gens.size := by
          have q : (s₁.setGen g gs').gens.size = s₁.gens.size := setGen_size _ _ _
          have hsz' : g + 1 ≤ (s₁.setGen g gs').gens.size := hsz
          omega
        refine wpAny_pure ⟨plainId_quiet PySem.F.plain_all_loop _, ih (s₁.setGen g gs') (hgen σ H _ (inv_gens I (allBare_setGen I.bare hb))) (show s₁.heap.NoLimit from I.nolimit) ⟨gs', setGen_at hsz1, ?_⟩⟩
        exact h1 rfl _ (allBare_setGen (s := s₁.setGen g gs') (allBare_setGen I.bare hb) rfl)
      | false =>
        simp only [Bool.false_eq_true, if_false]
        exact wpAny_bind (wpAny_rule (wpAny_pure (hF σ H _ (inv_gens I (allBare_setGen I.bare hb)) (h2 rfl))))
    · intro hsz
      obtain ⟨σ, H, I, q⟩ := hp
      exact wpAny_bind (wpAny_rule (wpAny_pure (hT σ H _ (inv_kept (s := s₁) (G := (s₁.setGen g .finished).gens) I (allBare_setGen I.bare rfl) hk) q)))
end
end GX

namespace GX
open PySem PySem.Spec PyProof.Rows L2 GenW
/-- all(elt for tg in iter if ..): behind it the def's table may have grown -/
def tAll (P : Addr) (wi : TI) (g : TG) (tt : TT) (te : TE) (vs : List Nat) : TE := fun σ H Q => wi σ H fun J H1 => GxR.TabG H1 P ∧ ∀ H2, GxR.Tabbed P H1 H2 →
  ∃ W : Nat → Nat → Hp → Prop, (∃ m, W 0 m H2) ∧ AllTurn J g tt te vs (wipe σ vs) W (fun H' => Q (.bl true) H') (fun H' => Q (.bl false) H')
section
variable {X : Cx}
theorem pe_all {c P : Addr} {elt tg iter : Expr} {ifs : List Expr} {scope : Scope} {own : List (Str × Nat)} {p pos gpos : Pos} {wi : TI} {g : TG} {tt : TT} {te : TE} {k : Nat}
    (hr : Room k X.A) (hgl : Gl X "all") (hm : X.mg "all" = none) (hb : bootBuiltins "all" = some (.builtin "all")) (TB : GxR.TabB X.base X.mg c P) (hcode : X.env.code = .ref c) (hc : X.calm = true) (hN : X.N.Nodup) (hi : PI X tg iter wi) (ok : BlkOk X.N X.env.scope scope own)
    (hco : scope.isCoroutine = false) (nc : ∀ y ∈ scope.names, y.2 ≠ .cell) (h0 : scope.names.lookup (".0" : Str) = some NameKind.local)
    (hg : ∀ (s : Shared) (H : Hp) (C : Addr) (cl : List (Str × Addr)) (code : Value) (fp : List Addr), PG (gcx X s H (genEnv scope cl C code builtinsNs X.env) fp) tg g)
    (ht : ∀ (s : Shared) (H : Hp) (C : Addr) (cl : List (Str × Addr)) (code : Value) (fp : List Addr), PTs (gcx X s H (genEnv scope cl C code builtinsNs X.env) fp) ifs tt)
    (he : ∀ (s : Shared) (H : Hp) (C : Addr) (cl : List (Str × Addr)) (code : Value) (fp : List Addr), PE (gcx X s H (genEnv scope cl C code builtinsNs X.env) fp) elt te)
    (hs : ∀ v, genFold iter X.env v = pure v := by intro _; rfl)
    (hst : starEach [.GeneratorExp elt [⟨tg, iter, ifs, 0⟩] scope gpos] X.env = (false, eval (.GeneratorExp elt [⟨tg, iter, ifs, 0⟩] scope gpos) X.env) :: starEach [] X.env := by rfl) :
    PE X (.Call (.Name "all" p) [.GeneratorExp elt [⟨tg, iter, ifs, 0⟩] scope gpos] [] pos) (tAll P wi g tt te (own.map (·.2))) := by
  refine ⟨fun pins s σ H Q I h => ?_⟩
  have caught : ∀ n ∈ scope.names, n.2 = .free → ∃ c, X.env.cells.lookup n.1 = some c := fun n hn hf => I.ok.has _ ((ok.free n hn hf).elim .inl .inr)
  refine wpAny_Call_Name_kw (ld_blt I hgl hm hb ?_)
  refine PyProof.Rows.callWith_builtin1 ?_ hst (by rfl)
  rw [hst]
  show wpAny _ _ (spliced ((false, eval (.GeneratorExp elt [⟨tg, iter, ifs, 0⟩] scope gpos) X.env) :: backTo pos (starEach [] X.env))) _ _ s
  refine Calls.spliced_cons ?_
  refine wpAny_GeneratorExp_make hco (closure_ok caught) nc h0 ok.kind hr.depth ?_ hs
  refine thn (hi.run pins s σ H _ I h) fun xv s1 hx => thn hx fun itv s2 h2 => ?_
  obtain ⟨it, fp, tn, J, H2, e, I2, T, st2, f2, ⟨ps, hP, ht2⟩, q⟩ := h2
  subst e
  refine ⟨I2.nolimit, ?_⟩
  have hPs : s2.heap.get? P = some { cls := .none, data := .fields ps } := I2.hok P _ hP
  have cd : PySem.W.CodeHd s2.heap c P := TB.code.keeps fun b u e => I2.bk b u e
  have nfP : ∀ b ∈ fp, b ≠ P := fun b hb z => by
    have := (f2 b hb).1
    rw [z, hP] at this
    cases this
  -- behind the code object
  have cont : ∀ (code : Value) (h3 : Heap) (tk : Nat) (ps' : Array Value), Heap.ExtBut P s2.heap h3 → s2.heap.objs.size ≤ h3.objs.size → h3.get? P = some { cls := .none, data := .fields ps' } → (∃ more, ps' = ps ++ more) → TriplesOk ps'.toList →
      wpAny (model X.prog X.w) X.A (builtinsFor X.env.globals X.env.builtins) (fun bi s₄ => ∀ h', h'.Ns s₄.heap.objs.size (fun y => if y = ".0" then some (.ref it) else none) → Heap.SameBut s₄.heap.objs.size (s₄.heap.push { cls := .type "frame", data := .dict #[] }) h' →
          wpAny (model X.prog X.w) X.A (spliced (backTo pos (starEach [] X.env))) (fun vs s6 => wpAny (model X.prog X.w) X.A (call (.builtin "all") (.ref h'.objs.size :: vs)) (EP X pins σ Q) X.xe s6) X.xe { s₄ with
            gens := s₄.gens.push (.fresh (.compStart (.GeneratorExp elt [⟨tg, iter, ifs, 0⟩] scope gpos) 0 (.ref it) .none (genEnv scope (cloFrom X.env.cells scope.names []) s₄.heap.objs.size code bi X.env))),
            toks := s₄.toks + 1 + 1 + 1,
            heap := h'.push { cls := .type "generator", data := .fields #[.int s₄.gens.size 0, .str "<genexpr>" (s₄.toks + 1), .str (X.env.qual ++ "<genexpr>") (s₄.toks + 1 + 1)] } }) X.xe { s2 with heap := h3, toks := tk } := by
    intro code h3 tk ps' hx hsz hP3 ⟨more, em⟩ ht3
    obtain ⟨bmod, bobj, i1, i2, i3, i4, i5, i6, i7, i8⟩ := TB.bm
    have keep3 : ∀ b u, b ≠ P → s2.heap.get? b = some u → h3.get? b = some u := fun b u hb e => hx b u hb e
    refine wpAny_builtinsFor (m := X.mg) (by rw [I2.ok.glob]; exact (I2.mod.glob.keeps I2.bk).extBut hx TB.gP) i1 i2 (keep3 _ _ i4 (I2.bk _ _ i5)) i6 i7 i8 ?_
    intro h' hn' hs'
    -- the state ahead of the frame
    have I3 := GxR.inv_tab (more := more) (h' := h3) (g' := s2.gens) (d' := s2.drawn) (t' := tk) I2 hP (fun b u hb e => keep3 b u hb e) (by rw [← em]; exact hP3) I2.bare
    have hTab : GxR.Tabbed P H2 (upd H2 P (.tbl (ps ++ more))) := ⟨⟨ps ++ more, upd_same, by rw [← em]; exact ht3⟩, fun b hb => upd_ne hb⟩
    obtain ⟨W, ⟨m0, w0⟩, turn⟩ := q _ hTab
    generalize upd H2 P (.tbl (ps ++ more)) = H3 at I3 w0 hTab
    have st3 : tn 0 h3 := T.keep _ _ _ st2 fun b hb o e => keep3 b o (nfP b hb) e
    have f3 : ∀ b ∈ fp, FpOk X pins H3 b ∧ b < h3.objs.size := fun b hb => by
      obtain ⟨o, e, _⟩ := T.obj _ _ st3 b hb
      exact ⟨⟨by rw [hTab.2 b (nfP b hb)]; exact (f2 b hb).1, (f2 b hb).2⟩, Heap.lt_size e⟩
    generalize hs3 : ({ s2 with heap := h3, toks := tk } : Shared) = s3 at I3
    have es3 : h3 = s3.heap := by rw [← hs3]
    have hn'' : h'.Ns s3.heap.objs.size (fun y => if y = ".0" then some (.ref it) else none) := by rw [← es3]; exact hn'
    have hs'' : Heap.SameBut s3.heap.objs.size (s3.heap.push { cls := .type "frame", data := .dict #[] }) h' := by rw [← es3]; exact hs'
    rw [es3] at st3 f3
    show wpAny _ _ _ _ _ { s3 with
            gens := s3.gens.push (.fresh (.compStart (.GeneratorExp elt [⟨tg, iter, ifs, 0⟩] scope gpos) 0 (.ref it) .none (genEnv scope (cloFrom X.env.cells scope.names []) s3.heap.objs.size code builtinsNs X.env))),
            toks := s3.toks + 1 + 1 + 1,
            heap := h'.push { cls := .type "generator", data := .fields #[.int s3.gens.size 0, .str "<genexpr>" (s3.toks + 1), .str (X.env.qual ++ "<genexpr>") (s3.toks + 1 + 1)] } }
    have kp : ∀ b o, s3.heap.get? b = some o → h'.get? b = some o := fun b o e => hs''.extBut b o (Nat.ne_of_lt (Heap.lt_size e)) (Heap.get?_push_of_some _ e)
    have hsz' : h'.objs.size = s3.heap.objs.size + 1 := by rw [hs''.1, Heap.size_push]
    generalize hgo : ({ cls := .type "generator", data := .fields #[.int s3.gens.size 0, .str "<genexpr>" (s3.toks + 1), .str (X.env.qual ++ "<genexpr>") (s3.toks + 1 + 1)] } : Obj) = go
    have hgen0 : ∀ h : Heap, h.get? h'.objs.size = some go → h.IsGen h'.objs.size s3.gens.size := fun h e => ⟨go, _, _, e, by rw [← hgo], by rw [← hgo], by rw [← hgo]⟩
    have ngo : ∀ v, go.data ≠ .cell v := fun v z => by
      rw [← hgo] at z
      cases z
    have hpush : (h'.push go).get? h'.objs.size = some go := by
      rw [← hgo]
      exact Heap.get?_push_size _ rfl
    have kp2 : ∀ b o, s3.heap.get? b = some o → (h'.push go).get? b = some o := fun b o e => Heap.get?_push_of_some _ (kp b o e)
    have pg := hg s3 H3 s3.heap.objs.size (cloFrom X.env.cells scope.names []) code fp
    have pt := ht s3 H3 s3.heap.objs.size (cloFrom X.env.cells scope.names []) code fp
    have pe := he s3 H3 s3.heap.objs.size (cloFrom X.env.cells scope.names []) code fp
    have I4 := gen_start (code := code) (tk := s3.toks + 1 + 1 + 1) (h' := h'.push go) (G := s3.gens.push (.fresh (.compStart (.GeneratorExp elt [⟨tg, iter, ifs, 0⟩] scope gpos) 0 (.ref it) .none (genEnv scope (cloFrom X.env.cells scope.names []) s3.heap.objs.size code builtinsNs X.env)))) I3 ok nc hN f3 (hn''.push _) kp2 (AllBare.push I3.bare rfl)
    generalize hce : genEnv scope (cloFrom X.env.cells scope.names []) s3.heap.objs.size code builtinsNs X.env = ce at pg pt pe I4 ⊢
    have cL : ce.locals = s3.heap.objs.size := by subst hce; rfl
    have cS : ce.scope = scope := by subst hce; rfl
    have hgH : H3 h'.objs.size = none := I3.hok.fresh (by rw [hsz']; exact Nat.le_succ _)
    have nfs : h'.objs.size ∉ frs X.stack := fun z => by
      rcases List.mem_cons.mp (I3.stkSub _ z) with z | z
      · have := I3.lt
        rw [← z, hsz'] at this
        exact absurd (Nat.lt_of_succ_lt this) (Nat.lt_irrefl _)
      · exact I3.nofs (by rw [hsz']; exact Nat.le_succ _) z
    have I5 := I4.pins_of (pins' := [(h'.objs.size, go)]) fun p hp => by
      rw [List.mem_singleton.mp hp]
      refine ⟨hpush, hgH, ?_, nfs, ngo⟩
      show h'.objs.size ≠ ce.locals
      rw [cL, hsz']
      exact Nat.succ_ne_self _
    generalize hs5 : ({ s3 with heap := h'.push go, gens := s3.gens.push (.fresh (.compStart (.GeneratorExp elt [⟨tg, iter, ifs, 0⟩] scope gpos) 0 (.ref it) .none ce)), toks := s3.toks + 1 + 1 + 1 } : Shared) = s5 at I5
    have st5 : tn 0 s5.heap := T.keep _ _ _ st3 fun b _ o e => by rw [← hs5]; exact kp2 b o e
    have back : ∀ σ' H' s', Inv (gcx X s3 H3 ce fp) [(h'.objs.size, go)] σ' H' s' → Inv X pins σ H' s' := fun σ' H' s' I6 =>
      I3.call' (ch := fp) I6.os I6.base I6.hok I6.bare fun b hb => ⟨(f3 b hb).1.2.2.2.1, (f3 b hb).1.2.1, (f3 b hb).1.2.2.2.2.1, (f3 b hb).1.2.2.2.2.2⟩
    have hgen : ∀ σ' H' s', Inv (gcx X s3 H3 ce fp) [(h'.objs.size, go)] σ' H' s' → s'.heap.IsGen h'.objs.size s3.gens.size := fun σ' H' s' I6 =>
      hgen0 _ (I6.pin (h'.objs.size, go) (List.mem_append_right _ (List.mem_singleton.mpr rfl))).1
    have hgs : s5.gens[s3.gens.size]? = some (.fresh (.compStart (.GeneratorExp elt [⟨tg, iter, ifs, 0⟩] scope gpos) 0 (.ref it) .none ce)) := by
      rw [← hs5]
      exact Array.getElem?_push_size ..
    have seg : Seg (model X.prog X.w) X.A.in1.in1 (RG (gcx X s3 H3 ce fp) [(h'.objs.size, go)] fun H' => Q (.bl true) H') (YG (gcx X s3 H3 ce fp) [(h'.objs.size, go)] fun H' => Q (.bl false) H') (m0 + 1) (s5.setGen s3.gens.size .running)
        (.compStart (.GeneratorExp elt [⟨tg, iter, ifs, 0⟩] scope gpos) 0 (.ref it) .none ce) ((model X.prog X.w).den (.compStart (.GeneratorExp elt [⟨tg, iter, ifs, 0⟩] scope gpos) 0 (.ref it) .none ce)) [] (s5.setGen s3.gens.size .running) := by
      refine seg_start (i := 0) T st5 ?_
      exact seg_loop (Y := gcx X s3 H3 ce fp) (vs := own.map (·.2)) rfl rfl hc (by show ce.scope.isCoroutine = false; rw [cS]; exact hco) T pg pt pe (fun b hb => hb) rfl (fun p hp hb => by
          rw [List.mem_singleton.mp hp] at hb
          have := (f3 _ hb).2
          have z : h'.objs.size < s3.heap.objs.size := this
          rw [hsz'] at z
          omega) turn m0 (m0 + 1) 0 _ _ H3 (Nat.lt_succ_self _) (inv_gens I5 (allBare_setGen I5.bare rfl)) st5 (fun b hb => (f3 b hb).1.1) w0
    refine Calls.spliced_nil ?_
    refine call_function_tree F.kind_all F.plain_all F.entry_all (F.args_all1 _) ?_
    unfold Builtin.«all»
    refine wpAny_bind (m := oneArg "all" _) (wpAny_pure ?_)
    refine wpAny_bind (wpAny_pyIter_gen (hgen _ _ _ I5) ?_)
    refine wpAny_pure ⟨plainId_quiet F.plain_all_loop _, ?_⟩
    refine all_loop (Y := gcx X s3 H3 ce fp) (T := fun H' => Q (.bl true) H') (F := fun H' => Q (.bl false) H') hr.hd hr.depth hgen (fun σ' H' s' I6 hq => ?_) (fun σ' H' s' I6 hq => ?_) (m0 + 1) s5 (hgen _ _ _ I5) I5.nolimit ⟨_, hgs, rfl, seg⟩
    · exact ⟨.bl true, H', back _ _ _ I6, rfl, hq⟩
    · exact ⟨.bl false, H', back _ _ _ I6, rfl, hq⟩
  cases hf : codeAmong gpos ps.toList with
  | none =>
    refine wpAny_genexprCodeX hcode (cd.code hPs ht2) (cd.tab hPs) hf fun c' h' tk hx hge hlt hco' _ htab' _ => ?_
    have trip := hco'.choose_spec.choose_spec.choose_spec.choose_spec.choose_spec.choose_spec.choose_spec.choose_spec.choose_spec.choose_spec.2.2.2.2.2.2.2.2.2.1
    exact cont _ h' tk _ hx (Nat.le_trans hge (Nat.le_of_lt hlt)) htab'.2 ⟨#[_, _, _], rfl⟩ trip
  | some cv =>
    refine wpAny_genexprCode_hit hcode (cd.code hPs ht2) hf ?_
    exact cont cv s2.heap s2.toks ps (Heap.ExtBut.refl _ _) (Nat.le_refl _) hPs ⟨#[], by simp⟩ ht2
end
end GX

namespace GX
open PySem PySem.Spec PyProof.Rows L2 GenW
/-- all(..) over a walk -/
theorem all_it {J : It} {n : Nat} {G : Hp → Prop} {Y : Nat → Hp → V → Hp → Prop} (w : Walk J n G Y) {g : TG} {tt : TT} {te : TE} {vs : List Nat} {σw : L2.St} {H2 : Hp} {T F : Hp → Prop} (Pv : Nat → Hp → Prop) (h0 : Pv 0 H2) (hG : ∀ i H, i ≤ n → Pv i H → G H)
    (hs : ∀ i x H H', i < n → Pv i H → Y i H x H' → g x σw H' fun σ2 H2 => wipe σ2 vs = σw ∧ tt σ2 H2 fun b H3 => if b = true then te σ2 H3 fun y H4 => ∃ c : Bool, y = .bl c ∧ (c = true → Pv (i + 1) H4) ∧ (c = false → F H4) else Pv (i + 1) H3) (hd : ∀ H, Pv n H → T H) :
    ∃ W : Nat → Nat → Hp → Prop, (∃ m, W 0 m H2) ∧ AllTurn J g tt te vs σw W T F := by
  refine ⟨fun i left H => i + left = n ∧ Pv i H, ⟨n, Nat.zero_add n, h0⟩, fun i left H ⟨sum, pv⟩ => ?_⟩
  have good := hG i H (by omega) pv
  cases left with
  | zero =>
    have last : i = n := sum
    subst last
    exact .inl ⟨w.stops H good, hd H pv⟩
  | succ left =>
    have below : i < n := by omega
    exact .inr ⟨w.goes i H below good, Pv (i + 1), fun H' pv' => ⟨left, Nat.lt_succ_self _, by omega, pv'⟩, fun x H' y => hs i x H H' below pv (w.yields i H x H' below good y)⟩
/-! ### tables -/
def NT (o : HO) : Prop := ∀ q, o ≠ .tbl q
theorem nt_lst {xs : List V} : NT (.lst xs) := fun _ z => by cases z
theorem nt_tup {xs : List V} : NT (.tup xs) := fun _ z => by cases z
theorem nt_dK {xs : List (Key × V)} : NT (.dK xs) := fun _ z => by cases z
theorem nt_frz {o : Obj} {u : HO} : NT (.frz o u) := fun _ z => by cases z
def Tabs (Ps : List Addr) (H : Hp) : Prop := ∀ P ∈ Ps, GxR.TabG H P
/-- all is kept but the tables, which may have grown -/
structure SameN (Ps : List Addr) (H H' : Hp) : Prop where
  k : ∀ x y, NT y → H x = some y → H' x = some y
  q : ∀ x p, H x = some (.tbl p) → ∃ p', H' x = some (.tbl p')
  t : Tabs Ps H'
section
variable {Ps : List Addr} {H H' H1 H2 : Hp}
theorem SameN.refl (t : Tabs Ps H) : SameN Ps H H := ⟨fun _ _ _ e => e, fun _ p e => ⟨p, e⟩, t⟩
theorem SameN.trans (a : SameN Ps H H1) (b : SameN Ps H1 H2) : SameN Ps H H2 := ⟨fun x y n e => b.k x y n (a.k x y n e), fun x p e => let ⟨p', e'⟩ := a.q x p e; b.q x p' e', b.t⟩
theorem Tabs.same (t : Tabs Ps H) (s : Same H H') : Tabs Ps H' := fun P hP => let ⟨ps, e, h⟩ := t P hP; ⟨ps, s _ _ e, h⟩
theorem SameN.of (t : Tabs Ps H) (s : Same H H') : SameN Ps H H' := ⟨fun x y _ e => s x y e, fun x p e => ⟨p, s _ _ e⟩, t.same s⟩
theorem SameN.tab {P : Addr} (t : Tabs Ps H) (hP : P ∈ Ps) (s : GxR.Tabbed P H H') : SameN Ps H H' := by
  obtain ⟨ps, e0, _⟩ := t P hP
  refine ⟨fun x y n e => ?_, fun x p e => ?_, fun P' hP' => ?_⟩
  · rw [s.2 x fun z => by rw [z, e0] at e; exact n ps (Option.some.inj e).symm]
    exact e
  · by_cases z : x = P
    · obtain ⟨ps', e', _⟩ := s.1
      exact ⟨ps', by rw [z]; exact e'⟩
    · exact ⟨p, by rw [s.2 x z]; exact e⟩
  · by_cases z : P' = P
    · rw [z]
      exact s.1
    · obtain ⟨ps', e', h'⟩ := t P' hP'
      exact ⟨ps', by rw [s.2 P' z]; exact e', h'⟩
theorem SameN.free {p : Addr} (s : SameN Ps H H') (h : H' p = none) : H p = none := by
  cases e : H p with
  | none => rfl
  | some o =>
    by_cases z : ∃ q, o = .tbl q
    · obtain ⟨q, rfl⟩ := z
      obtain ⟨q', e'⟩ := s.q p q e
      rw [e'] at h
      cases h
    · rw [s.k p o (fun q y => z ⟨q, y⟩) e] at h
      cases h
theorem SameN.unlock {a : Addr} {u : HO} {o : Obj} (ha : H a = some u) (hu : NT u) (t : Tabs Ps H) (s : SameN Ps (upd H a (.frz o u)) H') : SameN Ps H (upd H' a u) := by
  have hP : ∀ P ∈ Ps, P ≠ a := fun P h z => by
    obtain ⟨ps, e, _⟩ := t P h
    rw [z, ha] at e
    exact hu ps (Option.some.inj e)
  refine ⟨fun x y n e => ?_, fun x p e => ?_, fun P h => ?_⟩
  · by_cases c : x = a
    · subst c
      rw [upd_same, ← ha]
      exact e
    · rw [upd_ne c]
      exact s.k _ _ n (by rw [upd_ne c]; exact e)
  · by_cases c : x = a
    · subst c
      rw [ha] at e
      exact absurd (Option.some.inj e) (hu p)
    · rw [upd_ne c]
      exact s.q _ _ (by rw [upd_ne c]; exact e)
  · obtain ⟨ps, e, h'⟩ := s.t P h
    exact ⟨ps, by rw [upd_ne (hP P h)]; exact e, h'⟩
theorem Tabs.lock {a : Addr} {u : HO} {o : Obj} (ha : H a = some u) (hu : NT u) (t : Tabs Ps H) : Tabs Ps (upd H a (.frz o u)) := fun P h => by
  obtain ⟨ps, e, h'⟩ := t P h
  refine ⟨ps, ?_, h'⟩
  rw [upd_ne fun z => by rw [z, ha] at e; exact hu ps (Option.some.inj e)]
  exact e
end
/-! ### a def whose code object is known -/
structure FunC (K : PySem.W.Frag) (x qual : Str) (st : Stmt) (f : Addr) (fd : FuncData) (c : Addr) : Prop where
  ex : ∃ (oc : Value) (od : Option Addr) (kV doc pm : Value) (an : Option Addr) (ct : Value) (osl : Array (Option Value)),
    fd = PySem.W.fnOf x qual (defArgs st) (defBody st) (defScope st) .none kV doc pm an (.ref c) ct ∧ K.lookup f = some ⟨oc, od, .func fd, osl⟩ ∧ PySem.W.codeIn K (.ref c) qual = true
  kp : PySem.W.keepIn K (.ref f) = true
section
variable {P : Program} {w : World} {K : PySem.W.Frag} {mg : Str → Option Value} {base : Heap}
theorem FunC.ok {x qual : Str} {st : Stmt} {f c : Addr} {fd : FuncData} {N ps : List Str} {k : Nat} {sp : Sp} (F : FunC K x qual st f fd c) (S : FnScope N ps (defScope st)) (len : ∀ vs H Q E, sp vs H Q E → vs.length = ps.length)
    (hbody : ∀ (A : Around) (outer : List Env) (s : Shared) (H : Hp) (vs : List V) (Q : VK) (E : XK), Room k (A.deeper (envOfC qual (defScope st) s.heap.objs.size f (.ref c))) → sp vs H Q E →
      ∃ t, PSs (cxOf CX0 P w K mg base N qual (defScope st) f (.ref c) A outer s H E).nox (defBody st) t ∧ t { nx := fun _ H' => Q .non H', rt := Q } (start N vs) H) : FnOk P w K mg base CX0 (k + 1) f fd ps sp := by
  obtain ⟨oc, od, kV, doc, pm, an, ct, osl, rfl, lk, hcd⟩ := F.ex
  exact fn_of lk hcd S len fun A outer s H vs Q E room said => (hbody A outer s H vs Q E room said).imp fun _ h => ⟨h.1.nox, h.2⟩
theorem FunC.fun {x qual : Str} {st : Stmt} {f c : Addr} {fd : FuncData} (F : FunC K x qual st f fd c) : Fun K x qual st f fd := by
  obtain ⟨oc, od, kV, doc, pm, an, ct, osl, e, lk, hcd⟩ := F.ex
  exact ⟨⟨oc, od, kV, doc, pm, an, _, ct, osl, e, lk, hcd⟩, F.kp⟩
end
/-! ### the end -/
/-- the table of the code object cd is not among what is written -/
def tabFree (K : PySem.W.Frag) (cd : Value) : Bool := match cd with
  | .ref c => (match K.lookup c with
      | some ⟨_, _, .fields vs, _⟩ => (match vs.toList.drop 11 with | .ref P :: _ => (K.lookup P).isNone | _ => false)
      | _ => false)
  | _ => false
/-- the def x's code object at c, its table at P, empty -/
def TabOf (K : PySem.W.Frag) (cd : Value) (h : Heap) (c P : Addr) : Prop := cd = .ref c ∧ h.get? P = some { cls := .none, data := .fields #[] } ∧ K.lookup P = none ∧ PySem.W.CodeHd h c P
def TabsTop (q : Program) (mg : Str → Option Value) (h : Heap) : Prop := ∀ d ∈ recsOf q, ∃ a o fd c P, mg d.name = some (.ref a) ∧ h.get? a = some o ∧ o.data = .func fd ∧ fd.code = .ref c ∧ h.IsCode c P #[] ∧ h.TableAt c P #[]
theorem tabOf {q : Program} {K : PySem.W.Frag} {mg : Str → Option Value} {h : Heap} {x : Str} {f : Addr} {params : Arguments} {body : List Stmt} {scope : Scope} {dV kV doc pm cd ct oc : Value} {an od : Option Addr} {osl : Array (Option Value)} {qual name : Str}
    (X : K.In h) (T : TabsTop q mg h) (hx : ((recsOf q).any fun e => e.name == x) = true) (hm : mg x = some (.ref f)) (lk : K.lookup f = some ⟨oc, od, .func (PySem.W.fnOf name qual params body scope dV kV doc pm an cd ct), osl⟩) (ht : tabFree K cd = true) :
    ∃ c P, TabOf K cd h c P := by
  obtain ⟨dL, hmem, hn1⟩ := List.any_eq_true.mp hx
  have hn2 : dL.name = x := beq_iff_eq.mp hn1
  obtain ⟨a', o', fd', c', P', h1, h2, h3, h4, h5, h6⟩ := T dL hmem
  rw [hn2, hm] at h1
  cases h1
  have g1 := X _ _ lk
  rw [g1] at h2
  cases h2
  have h3' : Data.func (PySem.W.fnOf name qual params body scope dV kV doc pm an cd ct) = .func fd' := h3
  cases h3'
  have h4' : cd = .ref c' := h4
  subst h4'
  refine ⟨c', P', rfl, h6.2, ?_, .of h5 h6⟩
  obtain ⟨⟨oc', vc, e1, _, e3, e4⟩, _⟩ := h6
  unfold tabFree at ht
  dsimp only at ht
  split at ht
  · rename_i vs sl hk
    have g2 := X _ _ hk
    rw [g2] at e1
    cases e1
    have e3' : Data.fields vs = .fields vc := e3
    cases e3'
    split at ht
    · rename_i P2 r hd
      have e5 : vc.toList[11]? = some (.ref P2) := by
        have : (vc.toList.drop 11)[0]? = some (.ref P2) := by rw [hd]; rfl
        rw [List.getElem?_drop] at this
        exact this
      rw [Array.getElem?_toList, e4] at e5
      cases e5
      exact Option.isNone_iff_eq_none.mp ht
    · cases ht
  · cases ht
theorem walk_ofTabs {l : PySem.W.OpenLaw} {n k : Nat} {q : Program} {loose : List Str} {XP : (Str → Option Value) → Heap → Prop} {YP : World → Heap → Prop} {d : DefRec} {K : Params → PySem.W.Frag} {CX : World → CXT} {x : Str}
    (most : l.most = some n) (small : n ≤ sizeLine) (plain : d.params.defaults = []) (room : Room k callerA) (hY : ∀ (w : World) (h : Heap), YP w h → (K w.params).In h)
    (F : ∀ (w : World) (mg : Str → Option Value) (fa : Addr) (h : Heap), (K w.params).In h → h.Ns mainGlobals mg → mg d.name = some (.ref fa) → TabsTop q mg h → LamX.LawAtS l w (K w.params) (CX w) k n x mg fa h)
    (calm : ∀ (w : World) (H : Hp) (s : Shared) (x : Value) (s' : Shared), CX w [] H s (fun _ _ _ => False) x s' → False) : PySem.W.WalkO q loose XP YP l.row.toRowW d [] (fun f vs => PySem.call f vs) := by
  refine Att.attach_callB most plain fun w _ s₁ mg _ fa _ _ _ _ a _ ns G Y _ _ _ hmg lstAt intsAt lenAt' bitsAt gensAt => ?_
  have KX := hY w _ Y
  obtain ⟨fd, cs, sp, hT, nT, C, hb, hsp, hF⟩ := F w mg fa _ KX G.T.g hmg G.T.tab
  exact LamX.law_callTs KX G.T.g G.T.b G.T.builtins G.T.nolimit gensAt hT nT C G.T.bmain lstAt intsAt (Nat.le_trans lenAt' small) room hF hb (fun H tabs sq => hsp H a ns lenAt' bitsAt tabs sq) fun H x s' => calm w H s₁ x s'
theorem tabB_of {base : Heap} {mg : Str → Option Value} {c P : Addr} (t : LamX.TabB base mg c P) : GxR.TabB base mg c P := ⟨t.code, t.bm, t.gP⟩
end GX

/-! rules of my own: zip of a list and a tuple, y = {k: v for ..}, != of lists of data and dicts -/
namespace RM
open PySem PySem.Spec PyProof.Rows L2
/-- a list at a and a tuple at b, walked together -/
def ItzM (K : PySem.W.Frag) (a b : Addr) (xs ys : List V) : It where
  go := fun i H => SqL K H a xs ∧ SqT K H b ys ∧ i < xs.length ∧ i < ys.length
  yld := fun i H v H' => ∃ T x y, v = .ref T ∧ H T = none ∧ H' = upd H T (.tup [x, y]) ∧ xs[i]? = some x ∧ ys[i]? = some y
  stop := fun i H => SqL K H a xs ∧ SqT K H b ys ∧ i ≤ xs.length ∧ i ≤ ys.length ∧ (i = xs.length ∨ i = ys.length)
theorem off_ne (n : Nat) {i j : Nat} (h : i ≠ j) : n + i ≠ n + j := by omega
theorem old_ne {n a : Nat} (h : a < n) (i : Nat) : n + i ≠ a := by omega
theorem sep_mix {a b : Addr} (n : Nat) (ha : Nat.lt a n) (hb : Nat.lt b n) : ZipSep2 (n + 4) (n + 2) (n + 3) n (n + 1) [n, a] [n + 1, b] where
  TIz := off_ne n (by decide)
  TOz := off_ne n (by decide)
  TITO := off_ne n (by decide)
  TIi1 := off_ne n (j := 0) (by decide)
  mem1 := List.mem_cons_self ..
  zf1 := fun z => (List.mem_cons.mp z).elim (off_ne n (j := 0) (by decide)) fun z => old_ne ha 4 (List.mem_singleton.mp z)
  Tf1 := fun z => (List.mem_cons.mp z).elim (off_ne n (j := 0) (by decide)) fun z => old_ne ha 3 (List.mem_singleton.mp z)
  TIi2 := off_ne n (by decide)
  mem2 := List.mem_cons_self ..
  zf2 := fun z => (List.mem_cons.mp z).elim (off_ne n (by decide)) fun z => old_ne hb 4 (List.mem_singleton.mp z)
  Tf2 := fun z => (List.mem_cons.mp z).elim (off_ne n (by decide)) fun z => old_ne hb 3 (List.mem_singleton.mp z)
  sep1_2 := fun z => (List.mem_cons.mp z).elim (off_ne n (i := 0) (by decide)) fun z => old_ne hb 0 (List.mem_singleton.mp z)
  sep2_1 := fun z => (List.mem_cons.mp z).elim (off_ne n (j := 0) (by decide)) fun z => old_ne ha 1 (List.mem_singleton.mp z)
theorem turn_zipM {P : Program} {w : World} {K : PySem.W.Frag} {elts : List Expr} {kk : Nat} {tpos : Pos} {a b z TI TO i1 i2 : Addr} {xs ys : List V} (S : ZipSep2 z TI TO i1 i2 [i1, a] [i2, b]) (na : a ≠ i1) (nb : b ≠ i2) :
    Turn P w K (.Tuple elts kk tpos) (ItzM K a b xs ys) [z, TI, TO, i1, i2] z (fun i h => IsZip h z TI TO .none ∧ IsTupOf2 h TI (.ref i1) (.ref i2) ∧ (∃ x y, IsTupOf2 h TO x y) ∧ h.IsListIter i1 a i ∧ h.IsTupleIter i2 b i) where
  mem := List.mem_cons_self ..
  obj := fun i h st c hc => by
    obtain ⟨sz, sI, ⟨x, y, sO⟩, ⟨o1, e1, _, d1⟩, o2, e2, _, d2⟩ := st
    have five : c = z ∨ c = TI ∨ c = TO ∨ c = i1 ∨ c = i2 := by simpa using hc
    rcases five with rfl | rfl | rfl | rfl | rfl
    · exact ⟨_, sz, fun _ no => nomatch no⟩
    · exact ⟨_, sI, fun _ no => nomatch no⟩
    · exact ⟨_, sO, fun _ no => nomatch no⟩
    · exact ⟨o1, e1, fun _ no => by rw [d1] at no; cases no⟩
    · exact ⟨o2, e2, fun _ no => by rw [d2] at no; cases no⟩
  keep := fun i h h' ⟨sz, sI, ⟨x, y, sO⟩, s1, s2⟩ up =>
    ⟨up z (by simp) _ sz, up TI (by simp) _ sI, ⟨x, y, up TO (by simp) _ sO⟩, s1.at fun o q => up i1 (by simp) o q, s2.at fun o q => up i2 (by simp) o q⟩
  item := by
    intro X eP ew eK calm i pins s σ H E J foot st go
    subst eP ew eK
    obtain ⟨sz, sI, ⟨x0, y0, sO⟩, s1, s2⟩ := st
    obtain ⟨qx, qy, lx, ly⟩ := go
    obtain ⟨us, rx, px, _⟩ := J.list qx
    obtain ⟨vs, ry, py, _⟩ := J.tuple qy
    have hh : X.A.in1.handled = none := J.ok.hd calm
    have lu : i < us.toArray.size := by rw [List.size_toArray, ← rx.length]; exact lx
    have lv : i < vs.toArray.size := by rw [List.size_toArray, ← ry.length]; exact ly
    have zlt : z < s.heap.objs.size := Heap.lt_size sz
    refine wpAny_pyNext_zipD2_item S (Draws.list hh i1 a na us.toArray) (Draws.tuple hh i2 b nb vs.toArray) sz sI sO ⟨s1, px.isList⟩ ⟨s2, py⟩ lu lv fun u v h' tk hu hv zz oo t1 t2 pr _ same => ?_
    refine ⟨_, rfl, wpAny_letOwnedTupleGo_zip (s := { s with heap := h', toks := tk }) zz fun h2 z2 sb => ?_⟩
    have gx : xs[i]? = some xs[i] := List.getElem?_eq_getElem lx
    have gy : ys[i]? = some ys[i] := List.getElem?_eq_getElem ly
    obtain ⟨u', hu', ru⟩ := rx.get gx
    obtain ⟨v', hv', rv⟩ := ry.get gy
    have hu2 : us[i]? = some u := by simpa using hu
    have hv2 : vs[i]? = some v := by simpa using hv
    rw [hu2] at hu'
    rw [hv2] at hv'
    cases hu'
    cases hv'
    have pr2 : h2.get? s.heap.objs.size = some { cls := .type "tuple", data := .seq #[u, v] } := (sb.2 _ (Nat.ne_of_gt zlt)).trans pr
    have fits : ObjOk X.prog X.w (upd H s.heap.objs.size (.tup [xs[i], ys[i]])) h2 s.heap.objs.size (.tup [xs[i], ys[i]]) :=
      ⟨(by show 2 ≤ sizeLine; decide), [u, v], .cons ru (.cons rv .nil), _, pr2, rfl, _, rfl⟩
    have J2 : Inv X pins σ (upd H s.heap.objs.size (.tup [xs[i], ys[i]])) { s with heap := h2, toks := tk } :=
      J.turnedNew (t' := tk) (ch := [z, TI, TO, i1, i2]) (fun c o out q => (sb.2 c fun e => out (by simp [e])).trans (same c o (fun e => out (by simp [e])) (fun e => out (by simp [e])) (fun e => out (by simp [e])) (fun e => out (by simp [e])) q)) foot (Nat.le_refl _) fits
    refine ⟨.ref s.heap.objs.size, _, J2, rfl, ⟨_, xs[i], ys[i], rfl, J.hok.fresh (Nat.le_refl _), rfl, gx, gy⟩, ⟨z2, ?_, ⟨u, v, ?_⟩, ?_, ?_⟩, fun c hc => ?_⟩
    · exact (sb.2 _ S.TIz).trans (same _ _ S.TIz S.TITO S.TIi1 S.TIi2 sI)
    · exact (sb.2 _ S.TOz).trans oo
    · exact t1.1.at fun o q => (sb.2 _ S.zi1.symm).trans q
    · exact t2.1.at fun o q => (sb.2 _ S.zi2.symm).trans q
    · have five : c = z ∨ c = TI ∨ c = TO ∨ c = i1 ∨ c = i2 := by simpa using hc
      have clt : c < s.heap.objs.size := by
        rcases five with rfl | rfl | rfl | rfl | rfl
        · exact zlt
        · exact Heap.lt_size sI
        · exact Heap.lt_size sO
        · exact Heap.lt_size s1.choose_spec.1
        · exact Heap.lt_size s2.choose_spec.1
      rw [upd_ne (Nat.ne_of_lt clt)]
      exact (foot c hc).1
  done := by
    intro X eP ew eK calm i pins s σ H E J foot st stop
    subst eP ew eK
    obtain ⟨sz, sI, ⟨x0, y0, sO⟩, s1, s2⟩ := st
    obtain ⟨qx, qy, lx, ly, fin⟩ := stop
    obtain ⟨us, rx, px, _⟩ := J.list qx
    obtain ⟨vs, ry, py, _⟩ := J.tuple qy
    have hh : X.A.in1.handled = none := J.ok.hd calm
    have nu : us.toArray.size = xs.length := by rw [List.size_toArray, ← rx.length]
    have nv : vs.toArray.size = ys.length := by rw [List.size_toArray, ← ry.length]
    refine wpAny_pyNext_zipD2_end S (Draws.list hh i1 a na us.toArray) (Draws.tuple hh i2 b nb vs.toArray) sz sI sO ⟨s1, px.isList⟩ ⟨s2, py⟩ (by rw [nu]; exact lx) (by rw [nv]; exact ly) (by rw [nu, nv]; exact fin) fun h' tk same => ?_
    exact ⟨rfl, J.turnedL (t' := tk) (ch := [z, TI, TO, i1, i2]) (fun c o out q => same c o (fun e => out (by simp [e])) (fun e => out (by simp [e])) (fun e => out (by simp [e])) (fun e => out (by simp [e])) q) foot⟩
  self := fun _ _ _ _ _ st q => wpAny_pyIter_zip st.1 q
def iZipM (K : PySem.W.Frag) (ta : TA) : TI := fun σ H R => ta σ H fun vs H1 => ∃ a b xs ys, vs = [.ref a, .ref b] ∧ SqL K H1 a xs ∧ SqT K H1 b ys ∧ R (ItzM K a b xs ys) H1
theorem pi_zipM {X : Cx} {e e2 : Expr} {ta : TA} {p pos tpos : Pos} {elts : List Expr} {kk : Nat} (glo : Gl X "zip") (own : X.mg "zip" = none) (args : PA X [e, e2] ta)
    (st1 : starEach [e, e2] X.env = (false, eval e X.env) :: starEach [e2] X.env := by rfl) (st2 : (backTo pos (starEach [e2] X.env)).any (·.1) = false := by rfl) :
    PI X (.Tuple elts kk tpos) (.Call (.Name "zip" p) [e, e2] [] pos) (iZipM X.K ta) := by
  refine ⟨fun pins s σ H R J h => Call_ (ld_blt J glo own PyProof.Rows.boot_zip (PyProof.Rows.callWith_type1 (thn (args.run pos pins s σ H _ J h) fun us s1 ⟨vs, H1, J1, r1, a, b, xs, ys, ev, qx, qy, q⟩ => ?_) st1 st2))⟩
  subst ev
  cases r1 with
  | cons ra rest =>
    cases rest with
    | cons rb none' =>
      cases none'
      cases ra
      cases rb
      obtain ⟨its, _, px, _⟩ := J1.list qx
      obtain ⟨its2, _, py, _⟩ := J1.tuple qy
      have la : a < s1.heap.objs.size := px.lt
      have lb : b < s1.heap.objs.size := Heap.lt_size py.choose_spec.1
      refine zip_begins2 (begins_list a its.toArray) (begins_tuple b its2.toArray) px.isList py fun h' zz tI tO o1 o2 _ up => wpAny_pyIter_zip zz ?_
      have J2 : Inv X pins σ H1 { s1 with heap := h' } := J1.kept (t' := s1.toks) up
      refine ⟨s1.heap.objs.size + 4, [s1.heap.objs.size + 4, s1.heap.objs.size + 2, s1.heap.objs.size + 3, s1.heap.objs.size, s1.heap.objs.size + 1], _, _, H1, rfl, J2, turn_zipM (sep_mix _ la lb) (Nat.ne_of_lt la) (Nat.ne_of_lt (Nat.lt_succ_of_lt lb)), ⟨zz, tI, ⟨_, _, tO⟩, ⟨_, o1, rfl, rfl⟩, _, o2, rfl, rfl⟩, fun c hc => ?_, q⟩
      have old : s1.heap.objs.size ≤ c := by
        have five : c = s1.heap.objs.size + 4 ∨ c = s1.heap.objs.size + 2 ∨ c = s1.heap.objs.size + 3 ∨ c = s1.heap.objs.size ∨ c = s1.heap.objs.size + 1 := by simpa using hc
        rcases five with rfl | rfl | rfl | rfl | rfl
        · exact Nat.le_add_right _ 4
        · exact Nat.le_add_right _ 2
        · exact Nat.le_add_right _ 3
        · exact Nat.le_refl _
        · exact Nat.le_add_right _ 1
      exact J1.fpOk old (J1.hok.fresh old)
/-- both of one length -/
theorem walk_zipM {K : PySem.W.Frag} {a b : Addr} {xs ys : List V} (hl : xs.length = ys.length) : Walk (ItzM K a b xs ys) xs.length (fun H => SqL K H a xs ∧ SqT K H b ys) (YPair (fun i => xs[i]?) (fun i => ys[i]?)) :=
  ⟨fun i H hi q => ⟨q.1, q.2, hi, by omega⟩, fun H q => ⟨q.1, q.2, Nat.le_refl _, by omega, .inl rfl⟩, fun _ _ _ _ _ _ y => y⟩
section
variable {X : Cx}
/-- y = {k: v for ..}, y a local -/
theorem ps_setDc {i : Nat} {y : Str} {py : Pos} {kx vx tg iter : Expr} {ifs : List Expr} {scope : Scope} {own : List (Str × Nat)} {pos spos : Pos} {wi : TI} {g : TG} {tt : TT} {tk tv : TE} (calm : X.calm = true) (nd : X.N.Nodup) (slot : X.N[i]? = some y) (here : X.env.scope.names.lookup y = some .local)
    (sw : swapsWith (.DictComp kx vx [⟨tg, iter, ifs, 0⟩] scope pos) (some (.Name y py)) spos.line X.env = pure true) (hi : PI X tg iter wi) (blk : BlkOk X.N X.env.scope scope own)
    (hg : ∀ (s : Shared) (H : Hp) (C : Addr) (cl : List (PySem.Str × Addr)) (fp : List Addr), PG (X.blk s H scope (compEnvC scope cl C X.env) fp) tg g) (ht : ∀ (s : Shared) (H : Hp) (C : Addr) (cl : List (PySem.Str × Addr)) (fp : List Addr), PTs (X.blk s H scope (compEnvC scope cl C X.env) fp) ifs tt)
    (hk : ∀ (s : Shared) (H : Hp) (C : Addr) (cl : List (PySem.Str × Addr)) (fp : List Addr), PE (X.blk s H scope (compEnvC scope cl C X.env) fp) kx tk)
    (hv : ∀ (s : Shared) (H : Hp) (C : Addr) (cl : List (PySem.Str × Addr)) (fp : List Addr), PE (X.blk s H scope (compEnvC scope cl C X.env) fp) vx tv) (fold : ∀ x, foldedSetIterable iter X.env x = pure x := by intro _; rfl) :
    PS X (.Assign [.Name y py] (.DictComp kx vx [⟨tg, iter, ifs, 0⟩] scope pos) spos) (tAsg (tDc wi g tt tk tv (own.map (·.2))) (gName i)) := by
  refine ⟨fun pins s σ H D J h => ?_⟩
  rw [exec_Assign_Name_used _ _ _ _ sw]
  refine wpAny_bind (wpAny_standAt (wpAny_bind ?_))
  have want : tDc wi g tt tk tv (own.map (·.2)) σ H (fun x H1 => gName i x σ H1 D.nx) := h
  show wpAny _ X.A (do let _ ← comprehension (.DictComp kx vx [⟨tg, iter, ifs, 0⟩] scope pos) scope X.env (firstIterPos [⟨tg, iter, ifs, 0⟩] pos) newDict false (eval iter X.env) (some (assign (.Name y py) X.env))) _ _ s
  refine wpAny_bind (thn (dc_core (Qf := fun _ s' => SP X pins D .next s') calm nd J hi blk hg ht hk hv fold want fun L C s' m H' J' q ns fp => ?_) fun _ s' hq => wpAny_pure (wpAny_pure hq))
  obtain ⟨f0, f1, _, f3, f4, f5⟩ := fp
  show wpAny _ _ (assign (.Name y py) X.env (.ref L)) _ _ _
  refine wpAny_assign_Name (store_ok2 (v := V.ref L) J' nd slot (.inl here) rfl (fun s2 J2 ⟨a, sb, ha⟩ => ?_) (.inr here))
  have apart : C ≠ a := ha.elim (fun z => by rw [z]; exact f1) fun z e => f4 y a z e.symm
  exact ⟨m, ns.sameBut sb apart, fun h3 sb3 => ⟨_, H', J2.turned (t' := s2.toks) (fun b o hb e => (sb3.2 b hb).trans e) f0 f1 f3 f4 f5, q⟩⟩
theorem sw_dict {kx vx : Expr} {gs : List Comprehension} {scope : Scope} {pos py : Pos} {y : Str} {l : Nat} {env : Env} (fn : env.scope.kind = .function) (here : env.scope.names.lookup y = some .local) (line : (py.line == pos.line) = true)
    (off : (scope.names.any fun (n, k) => n == y && (k == .local || k == .cell)) = false) : swapsWith (.DictComp kx vx gs scope pos) (some (.Name y py)) l env = pure true := by
  have k1 : env.kindOf y = some .local := here
  have k2 : env.blockKind = .function := by unfold Env.blockKind; rw [fn]; rfl
  unfold swapsWith
  simp only [k2, k1, off, Expr.pos, line]
  rfl
/-- such a comprehension over a walk -/
theorem dc_it {J : It} {n : Nat} {G : Hp → Prop} {Y : Nat → Hp → V → Hp → Prop} (wk : Walk J n G Y) {g : TG} {tt : TT} {tk tv : TE} {vs : List Nat} {σ : L2.St} {H1 : Hp} {D : Addr} {Qd : Hp → Prop} (Pv : Nat → Hp → Prop) (h0 : Pv 0 (upd H1 D (.dK []))) (hG : ∀ i H, i ≤ n → Pv i H → G H)
    (hs : ∀ i x H H', i < n → Pv i H → Y i H x H' → g x (wipe σ vs) H' fun σ2 H2 => wipe σ2 vs = wipe σ vs ∧ tt σ2 H2 fun b H3 =>
      if b = true then tk σ2 H3 fun y H4 => tv σ2 H4 fun z H5 => ∃ kvs k, y = kV k ∧ H5 D = some (.dK kvs) ∧ kvs.length < sizeLine ∧ Pv (i + 1) (upd H5 D (.dK (putK kvs k z))) else Pv (i + 1) H3) (hd : ∀ H, Pv n H → Qd H) :
    ∃ W : Nat → Nat → Hp → Prop, (∃ m, W 0 m (upd H1 D (.dK []))) ∧ ∀ i m H, W i m H →
      (J.stop i H ∧ Qd H) ∨ (J.go i H ∧ ∃ Nx : Hp → Prop, (∀ H', Nx H' → ∃ m', m' < m ∧ W (i + 1) m' H') ∧ ∀ x H', J.yld i H x H' → g x (wipe σ vs) H' fun σ2 H2 => wipe σ2 vs = wipe σ vs ∧ tt σ2 H2 fun b H3 =>
        if b = true then tk σ2 H3 fun y H4 => tv σ2 H4 fun z H5 => ∃ kvs k, y = kV k ∧ H5 D = some (.dK kvs) ∧ kvs.length < sizeLine ∧ Nx (upd H5 D (.dK (putK kvs k z))) else Nx H3) := by
  refine ⟨fun i left H => i + left = n ∧ Pv i H, ⟨n, Nat.zero_add n, h0⟩, fun i left H ⟨sum, pv⟩ => ?_⟩
  have good := hG i H (by omega) pv
  cases left with
  | zero =>
    have last : i = n := sum
    subst last
    exact .inl ⟨wk.stops H good, hd H pv⟩
  | succ left =>
    have below : i < n := by omega
    exact .inr ⟨wk.goes i H below good, Pv (i + 1), fun H' pv' => ⟨left, Nat.lt_succ_self _, by omega, pv'⟩, fun x H' y => hs i x H H' below pv (wk.yields i H x H' below good y)⟩
/-! lists of data and of dicts -/
/-- one and the same data, or equal by EqV -/
def EqW (K : PySem.W.Frag) (H : Hp) (n : Nat) (x y : V) : Prop := (∃ d, Dp K H x d ∧ Dp K H y d ∧ d.canLay0 = true ∧ d.depth ≤ 60) ∨ EqV K H n x y
theorem eqW_run {pins : List (Addr × Obj)} {σ : L2.St} {H : Hp} {s : Shared} (J : Inv X pins σ H s) (n : Nat) (A : Around) (hn : n ≤ 60) (hu : A.units + 60 < cLine) (x y : V) (v u : Value) (h : EqW X.K H n x y) (rx : RelV x v) (ry : RelV y u) : SeqAt.EqP X.prog X.w A s v u true := by
  rcases h with ⟨d, dx, dy, can, dep⟩ | h
  · obtain ⟨as, ra⟩ := Dp.reads J d x v dx rx
    obtain ⟨bs, rb⟩ := Dp.reads J d y u dy ry
    have e := SeqAt.eqAt_reads d d A s v u as bs ra rb can can (by rw [Nat.min_self]; omega)
    rw [SeqAt.eqv_refl d can] at e
    exact e.eqP
  · exact eqV_run J n A (by omega) x y v u h rx ry
def rNeW (K : PySem.W.Frag) : R2 := fun x y H Q => ∃ a b xs ys n, x = .ref a ∧ y = .ref b ∧ SqL K H a xs ∧ SqL K H b ys ∧ n ≤ 60 ∧ Paired (EqW K H n) xs ys ∧ Q (.bl false) H
theorem op_neW (hu : X.A.units + 64 < cLine) : OpR X (compareOp .NotEq) (rNeW X.K) := by
  intro pins s σ H x y v u Q J rx ry h
  obtain ⟨a, b, xs, ys, n, rfl, rfl, ha, hb, hn, hp, q⟩ := h
  cases (show v = Value.ref a from rx)
  cases (show u = Value.ref b from ry)
  obtain ⟨us, r1, p1, _⟩ := J.list ha
  obtain ⟨ws, r2, p2, _⟩ := J.list hb
  have size : us.toArray.size = ws.toArray.size := by
    rw [List.size_toArray, List.size_toArray, ← r1.length, ← r2.length]
    exact Paired.length hp
  refine SeqAt.my_rcNe p1.isList p2.isList size (by omega) (fun j h1 h2 => ?_) _ _ ⟨.bl false, H, J, rfl, q⟩
  have k := items_run (eqW_run J n X.A.in1 (by omega) (by show X.A.units + 1 + 60 < cLine; omega)) hp r1 r2 j (by simpa using h1) (by simpa using h2)
  simpa using k
end
end RM

namespace RM
open PySem PySem.Spec PyProof.Rows L2
/-- the second clause's loop -/
def In2 (J1 : It) (g1 : TG) (tt1 : TT) (te : TE) (vs1 : List Nat) (D : Addr) (σ2 : L2.St) (H4 : Hp) (Nx : Hp → Prop) : Prop :=
  ∃ W1 : Nat → Nat → Hp → Prop, (∃ m, W1 0 m H4) ∧ ∀ j k H, W1 j k H →
      (J1.stop j H ∧ Nx H) ∨ (J1.go j H ∧ ∃ Nx1 : Hp → Prop, (∀ H', Nx1 H' → ∃ k', k' < k ∧ W1 (j + 1) k' H') ∧ ∀ x H', J1.yld j H x H' → g1 x (wipe σ2 vs1) H' fun σ3 H5 => wipe σ3 vs1 = wipe σ2 vs1 ∧ tt1 σ3 H5 fun b H6 =>
        if b = true then te σ3 H6 fun y H7 => ∃ acc, H7 D = some (.lst acc) ∧ acc.length < sizeLine ∧ Nx1 (upd H7 D (.lst (acc ++ [y]))) else Nx1 H6)
theorem in2_it {J : It} {n : Nat} {G : Hp → Prop} {Y : Nat → Hp → V → Hp → Prop} (wk : Walk J n G Y) {g : TG} {tt : TT} {te : TE} {vs : List Nat} {σ : L2.St} {H1 : Hp} {D : Addr} {Nx : Hp → Prop} (Pv : Nat → Hp → Prop) (h0 : Pv 0 H1) (hG : ∀ i H, i ≤ n → Pv i H → G H)
    (hs : ∀ i x H H', i < n → Pv i H → Y i H x H' → g x (wipe σ vs) H' fun σ2 H2 => wipe σ2 vs = wipe σ vs ∧ tt σ2 H2 fun b H3 =>
      if b = true then te σ2 H3 fun y H4 => ∃ acc, H4 D = some (.lst acc) ∧ acc.length < sizeLine ∧ Pv (i + 1) (upd H4 D (.lst (acc ++ [y]))) else Pv (i + 1) H3) (hd : ∀ H, Pv n H → Nx H) : In2 J g tt te vs D σ H1 Nx := by
  refine ⟨fun i left H => i + left = n ∧ Pv i H, ⟨n, Nat.zero_add n, h0⟩, fun i left H ⟨sum, pv⟩ => ?_⟩
  have good := hG i H (by omega) pv
  cases left with
  | zero =>
    have last : i = n := sum
    subst last
    exact .inl ⟨wk.stops H good, hd H pv⟩
  | succ left =>
    have below : i < n := by omega
    exact .inr ⟨wk.goes i H below good, Pv (i + 1), fun H' pv' => ⟨left, Nat.lt_succ_self _, by omega, pv'⟩, fun x H' y => hs i x H H' below pv (wk.yields i H x H' below good y)⟩
theorem lc2_it {J : It} {n : Nat} {G : Hp → Prop} {Y : Nat → Hp → V → Hp → Prop} (wk : Walk J n G Y) {g g1 : TG} {tt tt1 : TT} {wi1 : TI} {te : TE} {vs vs1 : List Nat} {σ : L2.St} {H1 : Hp} {D : Addr} {Qd : Hp → Prop} (Pv : Nat → Hp → Prop) (h0 : Pv 0 (upd H1 D (.lst []))) (hG : ∀ i H, i ≤ n → Pv i H → G H)
    (hs : ∀ i x H H', i < n → Pv i H → Y i H x H' → g x (wipe σ vs) H' fun σ2 H2 => wipe σ2 vs = wipe σ vs ∧ tt σ2 H2 fun b H3 => if b = true then wi1 σ2 H3 fun J1 H4 => In2 J1 g1 tt1 te vs1 D σ2 H4 (Pv (i + 1)) else Pv (i + 1) H3) (hd : ∀ H, Pv n H → Qd H) :
    ∃ W : Nat → Nat → Hp → Prop, (∃ m, W 0 m (upd H1 D (.lst []))) ∧ ∀ i m H, W i m H →
      (J.stop i H ∧ Qd H) ∨ (J.go i H ∧ ∃ Nx : Hp → Prop, (∀ H', Nx H' → ∃ m', m' < m ∧ W (i + 1) m' H') ∧ ∀ x H', J.yld i H x H' → g x (wipe σ vs) H' fun σ2 H2 => wipe σ2 vs = wipe σ vs ∧ tt σ2 H2 fun b H3 => if b = true then wi1 σ2 H3 fun J1 H4 => In2 J1 g1 tt1 te vs1 D σ2 H4 Nx else Nx H3) := by
  refine ⟨fun i left H => i + left = n ∧ Pv i H, ⟨n, Nat.zero_add n, h0⟩, fun i left H ⟨sum, pv⟩ => ?_⟩
  have good := hG i H (by omega) pv
  cases left with
  | zero =>
    have last : i = n := sum
    subst last
    exact .inl ⟨wk.stops H good, hd H pv⟩
  | succ left =>
    have below : i < n := by omega
    exact .inr ⟨wk.goes i H below good, Pv (i + 1), fun H' pv' => ⟨left, Nat.lt_succ_self _, by omega, pv'⟩, fun x H' y => hs i x H H' below pv (wk.yields i H x H' below good y)⟩
end RM

namespace RM
open PySem PySem.Spec PyProof.Rows L2
section
variable {X : Cx}
/-- keys of the one, each with the same data in the other -/
def SameD (K : PySem.W.Frag) (H : Hp) (ks ls : List (Key × V)) : Prop := ∀ p ∈ ks, ∃ u d, valV ls p.1 = some u ∧ Dp K H p.2 d ∧ Dp K H u d ∧ d.canLay0 = true ∧ d.depth ≤ 60
theorem hits_data {pins : List (Addr × Obj)} {σ : L2.St} {H : Hp} {s : Shared} (J : Inv X pins σ H s) {A : Around} (hu : A.units + 60 < cLine) {ls : List (Key × V)} {vb : List (Key × Value)} (rb : KV ls vb) {ks : List (Key × V)} {va : List (Key × Value)} (ra : KV ks va) : SameD X.K H ks ls → PySem.W.KeqHits A s vb va true := by
  unfold KV at ra
  induction ra with
  | nil => exact fun _ => .nil
  | @cons p q ps qs h t ih =>
    intro hp
    obtain ⟨k1, k2⟩ := h
    obtain ⟨u, d, e, d1, d2, can, dep⟩ := hp p List.mem_cons_self
    have found : RelO (some u) (valueAt vb p.1) := by rw [← e]; exact rb.val p.1
    obtain ⟨y, hy, ry⟩ := found.some_of
    obtain ⟨key, v⟩ := q
    have k1' : p.1 = key := k1
    rw [k1'] at hy
    obtain ⟨as, r1⟩ := Dp.reads J d p.2 v d1 k2
    obtain ⟨bs, r2⟩ := Dp.reads J d u y d2 ry
    have eq := SeqAt.eqAt_reads d d A s v y as bs r1 r2 can can (by rw [Nat.min_self]; omega)
    rw [SeqAt.eqv_refl d can] at eq
    show PySem.W.KeqHits A s vb ((key, v) :: qs) (true && true)
    exact .hit hy eq (ih fun p' hm => hp p' (List.mem_cons_of_mem _ hm))
def rNeDD (K : PySem.W.Frag) : R2 := fun x y H Q => ((x = .non ∧ y = .non) ∨ ∃ a b ks ls, x = .ref a ∧ y = .ref b ∧ H a = some (.dK ks) ∧ H b = some (.dK ls) ∧ ks.length = ls.length ∧ SameD K H ks ls) ∧ Q (.bl false) H
theorem op_neDD (hu : X.A.units + 64 < cLine) : OpR X (compareOp .NotEq) (rNeDD X.K) := by
  intro pins s σ H x y v u Q J rx ry h
  obtain ⟨⟨rfl, rfl⟩ | ⟨a, b, ks, ls, rfl, rfl, ea, eb, hlen, hp⟩, q⟩ := h
  · exact op_ne pins s σ H .non .non v u Q J rx ry ⟨rfl, q⟩
  · obtain rfl : v = Value.ref a := rx
    obtain rfl : u = Value.ref b := ry
    obtain ⟨_, ya, va, ra, da⟩ := (show ObjOk X.prog X.w H s.heap a (.dK ks) from J.hok a _ ea)
    obtain ⟨_, yb, vb, rb, db⟩ := (show ObjOk X.prog X.w H s.heap b (.dK ls) from J.hok b _ eb)
    have size : va.length = vb.length := by rw [← ra.length, ← rb.length]; exact hlen
    refine PySem.W.keq_ne (knd := mixKind X.prog X.w) (r := true) ya yb da db (by omega) (fun _ => hits_data J (by show X.A.units + 1 + 60 < cLine; omega) rb ra hp) ?_
    refine ⟨.bl false, H, J, ?_, q⟩
    show Value.bool _ = Value.bool false
    rw [size]
    simp
theorem cr_sortedK {K : PySem.W.Frag} (e : X.K = K) : CallR X (.builtin "sorted") (rSortedS K) := by
  subst e
  exact cr_sortedS
theorem op_inDK {K : PySem.W.Frag} (e : X.K = K) (hu : X.A.units + 65 < cLine) : OpR X (compareOp .In) (rInD K) := by
  subst e
  exact op_inD hu
theorem op_catK {K : PySem.W.Frag} (e : X.K = K) {r : PySem.W.Frag → R2} {f : Value → Value → Sem Value} (h : OpR X f (r X.K)) : OpR X f (r K) := by
  subst e
  exact h
end
end RM

/-! a generator expression handed to whatever takes its items one by one: the taker's own state (a) is pinned (Pn), D tells what it does with an item -/
namespace GY
open PySem PySem.Spec PyProof.Rows L2 GenW GX
section
variable {Y : Cx} {α : Type}
def RGa (Y : Cx) (Pn : α → List (Addr × Obj) → Prop) (T : α → Hp → Prop) : GenEnd := fun n s₀ r s₁ => r = .ok .next ∧ ∃ a pn σ H, Pn a pn ∧ (∀ p ∈ pn, s₀.heap.get? p.1 = some p.2) ∧ Inv Y pn σ H s₁ ∧ T a H
def YGa (Y : Cx) (fp : List Addr) (Pn : α → List (Addr × Obj) → Prop) (D : α → V → Hp → (α → Prop) → Prop) : Protocol := fun n s₀ v s kap =>
  ∃ a pn y σ H, Pn a pn ∧ (∀ p ∈ pn, s₀.heap.get? p.1 = some p.2) ∧ RelV y v ∧ Inv Y pn σ H s ∧ D a y H fun a' => ∀ pn' s', Pn a' pn' → Inv Y pn' σ H s' → (∀ b ∈ fp, ∀ o, s.heap.get? b = some o → s'.heap.get? b = some o) → kap (.send .none) s'
/-- what a turn of the walk wants -/
def TurnG (J : It) (g : TG) (tt : TT) (te : TE) (vs : List Nat) (σw : L2.St) (W : Nat → Nat → α → Hp → Prop) (T : α → Hp → Prop) (D : α → V → Hp → (α → Prop) → Prop) : Prop :=
  ∀ i m a H, W i m a H → (J.stop i H ∧ T a H) ∨ (J.go i H ∧ ∃ Nx : α → Hp → Prop, (∀ a' H', Nx a' H' → ∃ m', m' < m ∧ W (i + 1) m' a' H') ∧ ∀ x H', J.yld i H x H' → g x σw H' fun σ2 H2 => wipe σ2 vs = σw ∧ tt σ2 H2 fun b H3 =>
    if b = true then te σ2 H3 fun y H4 => D a y H4 (fun a' => Nx a' H4) else Nx a H3)
theorem seg_loopA {A : Around} {elt tg iter : Expr} {ifs : List Expr} {scope : Scope} {pos : Pos} {it : Addr} {fp : List Addr} {tn : Nat → Heap → Prop} {J : It} {g : TG} {tt : TT} {te : TE} {vs : List Nat} {σw : L2.St} {Pn : α → List (Addr × Obj) → Prop} {W : Nat → Nat → α → Hp → Prop} {T : α → Hp → Prop} {D : α → V → Hp → (α → Prop) → Prop}
    (hov : A.over (.compLoop (.GeneratorExp elt [⟨tg, iter, ifs, 0⟩] scope pos) 0 (.ref it) .none Y.env) [] = Y.A) (hxe : Y.xe = fun _ _ => False) (hcalm : Y.calm = true) (hco : Y.env.scope.isCoroutine = false)
    (Tn : Turn Y.prog Y.w Y.K tg J fp it tn) (pg : PG Y tg g) (pt : PTs Y ifs tt) (pe : PE Y elt te) (hex : ∀ b ∈ fp, b ∈ Y.ex) (hpn : Y.pn = []) (hpins : ∀ a pn, Pn a pn → ∀ p ∈ pn, p.1 ∉ fp)
    (mono : ∀ a y H (k k' : α → Prop), (∀ a', k a' → k' a') → D a y H k → D a y H k') (turn : TurnG J g tt te vs σw W T D) :
    ∀ (m n i : Nat) (a : α) (pn : List (Addr × Obj)) (s₀ s : Shared) (H : Hp), m < n → Pn a pn → (∀ p ∈ pn, s₀.heap.get? p.1 = some p.2) → Inv Y pn σw H s → tn i s.heap → (∀ b ∈ fp, H b = none) → W i m a H →
      Seg (model Y.prog Y.w) A (RGa Y Pn T) (YGa Y fp Pn D) n s₀ (.compLoop (.GeneratorExp elt [⟨tg, iter, ifs, 0⟩] scope pos) 0 (.ref it) .none Y.env)
        ((model Y.prog Y.w).den (.compLoop (.GeneratorExp elt [⟨tg, iter, ifs, 0⟩] scope pos) 0 (.ref it) .none Y.env)) [] s := by
  have stat : ∀ {pn : List (Addr × Obj)} {σ' : L2.St} {H' : Hp} {s' : Shared}, (∀ p ∈ pn, p.1 ∉ fp) → Inv Y pn σ' H' s' → (∀ b ∈ fp, H' b = none) → ∀ b ∈ fp, FpOk Y pn H' b := fun {pn σ' H' s'} hpins I' hn b hb =>
    ⟨hn b hb, (I'.ok.exf b (hex b hb)).1, I'.ok.exfs b (hex b hb), .inl (hex b hb), fun x c e => (I'.ok.exf b (hex b hb)).2 x c e, fun p hp => by
      rw [hpn] at hp
      exact fun z => hpins p (by simpa using hp) (by rw [z]; exact hb)⟩
  intro m
  induction m using Nat.strongRecOn with
  | ind m ih =>
    intro n i a pn s₀ s H hmn hPn hs0 I st nfp w
    have hpo := hpins a pn hPn
    show Seg _ A _ _ _ s₀ _ ((compTurn (.GeneratorExp elt [⟨tg, iter, ifs, 0⟩] scope pos) 0 (.ref it) .none Y.env).onRaise (leaving Y.env)) [] s
    rw [compTurn_gen, Sem.onRaise_eq_wrap]
    refine seg_bind_wrap (wpAny_standAt ?_)
    rcases turn i m a H w with ⟨stop, qq⟩ | ⟨go, Nx, hNx, step⟩
    · refine seg_bind_wrap ?_
      rw [hov]
      refine thnF (Tn.done Y rfl rfl rfl hcalm i pn s _ H (fun _ _ => False) I (stat hpo I nfp) st stop) fun r s1 ⟨hr, I1⟩ => ?_
      subst hr
      exact seg_end (.ok .next) ⟨rfl, _, _, _, _, hPn, hs0, I1, qq⟩
    · refine seg_bind_wrap ?_
      rw [hov]
      refine thnF (Tn.item Y rfl rfl rfl hcalm i pn s _ H (fun _ _ => False) I (stat hpo I nfp) st go) fun r s1 ⟨u, hr, h1⟩ => ?_
      subst hr
      refine seg_bind_wrap ?_
      rw [hov]
      refine thnF h1 fun _ s2 ⟨x, H2, I2, r2, y2, st2, n2⟩ => ?_
      have I2' := I2.pinned (stat hpo I2 n2) (Tn.obj _ _ st2)
      have no : ∀ {e : Value} {s' : Shared} {C : Prop}, Y.xe e s' → C := fun {e s' C} h => by
        rw [hxe] at h
        exact h.elim
      refine seg_bind_wrap ?_
      rw [hov]
      refine wpAny_mono (pg.run _ s2 _ H2 x u _ I2' r2 (step x H2 y2)) (fun _ s3 h3 => ?_) fun _ _ e => no e
      obtain ⟨σ3, H3, I3, hw3, q3⟩ := h3
      refine seg_bind_wrap ?_
      rw [hov]
      refine wpAny_mono (pt.run _ s3 σ3 H3 _ I3 q3) (fun b s4 h4 => ?_) fun _ _ e => no e
      obtain ⟨H4, I4, q4⟩ := h4
      -- what stands of the walk at the turn's end
      have kept : ∀ {s' : Shared} {H' : Hp}, Inv Y (pn ++ pinsAt fp s2.heap) σ3 H' s' → (∀ b ∈ fp, ∀ o, s2.heap.get? b = some o → s'.heap.get? b = some o) ∧ (∀ b ∈ fp, H' b = none) := fun {s' H'} I' => by
        have pin' : ∀ b ∈ fp, ∀ o, s2.heap.get? b = some o → s'.heap.get? b = some o ∧ H' b = none := fun b hb o e =>
          (I'.pin (b, o) (List.mem_append_right _ (List.mem_append_right _ (mem_pinsAt hb e)))).imp id And.left
        refine ⟨fun b hb o e => (pin' b hb o e).1, fun b hb => ?_⟩
        obtain ⟨o, e, _⟩ := Tn.obj _ _ st2 b hb
        exact (pin' b hb o e).2
      have weak : ∀ {s' : Shared} {H' : Hp} {pn' : List (Addr × Obj)}, Inv Y pn' σ3 H' s' → Inv Y pn' σw H' s' := fun {s' H' pn'} I' => by
        have hl : σw.length = σ3.length := by rw [← hw3, wipe_length]
        refine I'.weak hl (fun j v e => ?_)
        rw [← hw3] at e
        exact (wipe_some e).1
      cases b with
      | false =>
        simp only [Bool.false_eq_true, if_false] at q4 ⊢
        obtain ⟨m', hm, w'⟩ := hNx a H4 q4
        obtain ⟨k1, k2⟩ := kept I4
        exact seg_again rfl (ih m' hm n (i + 1) a pn s₀ s4 H4 (by omega) hPn hs0 (weak (I4.unpinned (pins := pn))) (Tn.keep _ _ _ st2 k1) k2 w')
      | true =>
        simp only [if_true] at q4 ⊢
        have hy : ∀ v, yieldOut Y.env v = yieldValue v := fun v => by simp only [yieldOut, hco, Bool.false_eq_true, if_false]
        simp only [hy]
        rw [Sem.bind_eq_wrap', Sem.bind_eq_wrap', Sem.wrap_wrap, Sem.wrap_wrap]
        refine seg_wrap ?_
        rw [hov]
        refine wpAny_mono (pe.run _ s4 σ3 H4 _ I4 q4) (fun v s5 h5 => ?_) fun _ _ e => no e
        obtain ⟨yv, H5, I5, r5, q5⟩ := h5
        obtain ⟨n', rfl⟩ : ∃ n', n = n' + 1 := ⟨n - 1, by omega⟩
        obtain ⟨k1, k2⟩ := kept I5
        refine seg_at (seg_yield rfl rfl rfl ⟨a, pn, yv, σ3, H5, hPn, hs0, r5, I5.unpinned (pins := pn), mono _ _ _ _ _ (fun a' nx pn' s' hPn' I' kb => ?_) q5⟩)
        obtain ⟨m', hm, w'⟩ := hNx a' H5 nx
        exact seg_again rfl (ih m' hm n' (i + 1) a' pn' _ _ H5 (by omega) hPn' (fun p hp => (I'.pin p (List.mem_append_right _ hp)).1) (weak I') (Tn.keep _ _ _ st2 fun b hb o e => kb b hb o (k1 b hb o e)) k2 w')
end
end GY

namespace GY
open PySem PySem.Spec PyProof.Rows L2 GenW GX
/-- a generator expression's generator, made and not yet woken -/
structure GenAt (X : Cx) (pins : List (Addr × Obj)) (σ : L2.St) (J : It) (g : TG) (tt : TT) (te : TE) (vs : List Nat) (fp : List Addr) (H3 : Hp) (ga gi : Nat) (Y : Cx) (go : Obj) (s5 : Shared) : Prop where
  prog : Y.prog = X.prog
  w : Y.w = X.w
  inv : Inv Y [(ga, go)] (wipe σ vs) H3 s5
  ypn : Y.pn = []
  isgen : ∀ h : Heap, h.get? ga = some go → h.IsGen ga gi
  gafp : ga ∉ fp
  fplt : ∀ b ∈ fp, b < s5.heap.objs.size
  back : ∀ pn σ' H' s', Inv Y pn σ' H' s' → Inv X pins σ H' s'
  goes : ∀ {α : Type} (Pn : α → List (Addr × Obj) → Prop) (T : α → Hp → Prop) (D : α → V → Hp → (α → Prop) → Prop) (W : Nat → Nat → α → Hp → Prop), (∀ a pn, Pn a pn → ∀ p ∈ pn, p.1 ∉ fp) → (∀ a y H (k k' : α → Prop), (∀ a', k a' → k' a') → D a y H k → D a y H k') → TurnG J g tt te vs (wipe σ vs) W T D →
    ∀ (m0 : Nat) (a0 : α) (pn0 : List (Addr × Obj)) (s6 : Shared), Pn a0 pn0 → Inv Y pn0 (wipe σ vs) H3 s6 → (∀ b ∈ fp, ∀ o, s5.heap.get? b = some o → s6.heap.get? b = some o) → s6.gens = s5.gens → W 0 m0 a0 H3 →
      ∃ gs, s6.gens[gi]? = some gs ∧ gs.Goes (model X.prog X.w) X.A.in1.in1 (RGa Y Pn T) (YGa Y fp Pn D) (m0 + 1) (.send .none) (s6.setGen gi .running)
section
variable {X : Cx}
theorem gen_made {c P : Addr} {elt tg iter : Expr} {ifs : List Expr} {scope : Scope} {own : List (Str × Nat)} {gpos : Pos} {wi : TI} {g : TG} {tt : TT} {te : TE} {k : Nat}
    (hr : Room k X.A) (TB : GxR.TabB X.base X.mg c P) (hcode : X.env.code = .ref c) (hc : X.calm = true) (hN : X.N.Nodup) (hi : PI X tg iter wi) (ok : BlkOk X.N X.env.scope scope own)
    (hco : scope.isCoroutine = false) (nc : ∀ y ∈ scope.names, y.2 ≠ .cell) (h0 : scope.names.lookup (".0" : Str) = some NameKind.local)
    (hg : ∀ (s : Shared) (H : Hp) (C : Addr) (cl : List (Str × Addr)) (code : Value) (fp : List Addr), PG (gcx X s H (genEnv scope cl C code builtinsNs X.env) fp) tg g)
    (ht : ∀ (s : Shared) (H : Hp) (C : Addr) (cl : List (Str × Addr)) (code : Value) (fp : List Addr), PTs (gcx X s H (genEnv scope cl C code builtinsNs X.env) fp) ifs tt)
    (he : ∀ (s : Shared) (H : Hp) (C : Addr) (cl : List (Str × Addr)) (code : Value) (fp : List Addr), PE (gcx X s H (genEnv scope cl C code builtinsNs X.env) fp) elt te)
    (hs : ∀ v, genFold iter X.env v = pure v)
    {pins : List (Addr × Obj)} {s : Shared} {σ : L2.St} {H : Hp} {Kt : It → Hp → Prop} (I : Inv X pins σ H s) (h : wi σ H fun J H1 => GxR.TabG H1 P ∧ ∀ H2, GxR.Tabbed P H1 H2 → Kt J H2)
    {Q : Value → Shared → Prop} (hq : ∀ (J : It) (fp : List Addr) (H3 : Hp) (ga gi : Nat) (Y : Cx) (go : Obj) (s5 : Shared), Kt J H3 → GenAt X pins σ J g tt te (own.map (·.2)) fp H3 ga gi Y go s5 → Q (.ref ga) s5) :
    wpAny (model X.prog X.w) X.A (eval (.GeneratorExp elt [⟨tg, iter, ifs, 0⟩] scope gpos) X.env) Q X.xe s := by
  have caught : ∀ n ∈ scope.names, n.2 = .free → ∃ c, X.env.cells.lookup n.1 = some c := fun n hn hf => I.ok.has _ ((ok.free n hn hf).elim .inl .inr)
  refine wpAny_GeneratorExp_make hco (closure_ok caught) nc h0 ok.kind hr.depth ?_ hs
  refine thn (hi.run pins s σ H _ I h) fun xv s1 hx => thn hx fun itv s2 h2 => ?_
  obtain ⟨it, fp, tn, J, H2, e, I2, T, st2, f2, ⟨ps, hP, ht2⟩, q⟩ := h2
  subst e
  refine ⟨I2.nolimit, ?_⟩
  have hPs : s2.heap.get? P = some { cls := .none, data := .fields ps } := I2.hok P _ hP
  have cd : PySem.W.CodeHd s2.heap c P := TB.code.keeps fun b u e => I2.bk b u e
  have nfP : ∀ b ∈ fp, b ≠ P := fun b hb z => by
    have := (f2 b hb).1
    rw [z, hP] at this
    cases this
  -- behind the code object
  have cont : ∀ (code : Value) (h3 : Heap) (tk : Nat) (ps' : Array Value), Heap.ExtBut P s2.heap h3 → s2.heap.objs.size ≤ h3.objs.size → h3.get? P = some { cls := .none, data := .fields ps' } → (∃ more, ps' = ps ++ more) → TriplesOk ps'.toList →
      wpAny (model X.prog X.w) X.A (builtinsFor X.env.globals X.env.builtins) (fun bi s₄ => ∀ h', h'.Ns s₄.heap.objs.size (fun y => if y = ".0" then some (.ref it) else none) → Heap.SameBut s₄.heap.objs.size (s₄.heap.push { cls := .type "frame", data := .dict #[] }) h' →
          Q (.ref h'.objs.size) { s₄ with
            gens := s₄.gens.push (.fresh (.compStart (.GeneratorExp elt [⟨tg, iter, ifs, 0⟩] scope gpos) 0 (.ref it) .none (genEnv scope (cloFrom X.env.cells scope.names []) s₄.heap.objs.size code bi X.env))),
            toks := s₄.toks + 1 + 1 + 1,
            heap := h'.push { cls := .type "generator", data := .fields #[.int s₄.gens.size 0, .str "<genexpr>" (s₄.toks + 1), .str (X.env.qual ++ "<genexpr>") (s₄.toks + 1 + 1)] } }) X.xe { s2 with heap := h3, toks := tk } := by
    intro code h3 tk ps' hx hsz hP3 ⟨more, em⟩ ht3
    obtain ⟨bmod, bobj, i1, i2, i3, i4, i5, i6, i7, i8⟩ := TB.bm
    have keep3 : ∀ b u, b ≠ P → s2.heap.get? b = some u → h3.get? b = some u := fun b u hb e => hx b u hb e
    refine wpAny_builtinsFor (m := X.mg) (by rw [I2.ok.glob]; exact (I2.mod.glob.keeps I2.bk).extBut hx TB.gP) i1 i2 (keep3 _ _ i4 (I2.bk _ _ i5)) i6 i7 i8 ?_
    intro h' hn' hs'
    -- the state ahead of the frame
    have I3 := GxR.inv_tab (more := more) (h' := h3) (g' := s2.gens) (d' := s2.drawn) (t' := tk) I2 hP (fun b u hb e => keep3 b u hb e) (by rw [← em]; exact hP3) I2.bare
    have hTab : GxR.Tabbed P H2 (upd H2 P (.tbl (ps ++ more))) := ⟨⟨ps ++ more, upd_same, by rw [← em]; exact ht3⟩, fun b hb => upd_ne hb⟩
    have hK := q _ hTab
    generalize upd H2 P (.tbl (ps ++ more)) = H3 at I3 hK hTab
    have st3 : tn 0 h3 := T.keep _ _ _ st2 fun b hb o e => keep3 b o (nfP b hb) e
    have f3 : ∀ b ∈ fp, FpOk X pins H3 b ∧ b < h3.objs.size := fun b hb => by
      obtain ⟨o, e, _⟩ := T.obj _ _ st3 b hb
      exact ⟨⟨by rw [hTab.2 b (nfP b hb)]; exact (f2 b hb).1, (f2 b hb).2⟩, Heap.lt_size e⟩
    generalize hs3 : ({ s2 with heap := h3, toks := tk } : Shared) = s3 at I3
    have es3 : h3 = s3.heap := by rw [← hs3]
    have hn'' : h'.Ns s3.heap.objs.size (fun y => if y = ".0" then some (.ref it) else none) := by rw [← es3]; exact hn'
    have hs'' : Heap.SameBut s3.heap.objs.size (s3.heap.push { cls := .type "frame", data := .dict #[] }) h' := by rw [← es3]; exact hs'
    rw [es3] at st3 f3
    show Q _ { s3 with
            gens := s3.gens.push (.fresh (.compStart (.GeneratorExp elt [⟨tg, iter, ifs, 0⟩] scope gpos) 0 (.ref it) .none (genEnv scope (cloFrom X.env.cells scope.names []) s3.heap.objs.size code builtinsNs X.env))),
            toks := s3.toks + 1 + 1 + 1,
            heap := h'.push { cls := .type "generator", data := .fields #[.int s3.gens.size 0, .str "<genexpr>" (s3.toks + 1), .str (X.env.qual ++ "<genexpr>") (s3.toks + 1 + 1)] } }
    have kp : ∀ b o, s3.heap.get? b = some o → h'.get? b = some o := fun b o e => hs''.extBut b o (Nat.ne_of_lt (Heap.lt_size e)) (Heap.get?_push_of_some _ e)
    have hsz' : h'.objs.size = s3.heap.objs.size + 1 := by rw [hs''.1, Heap.size_push]
    generalize hgo : ({ cls := .type "generator", data := .fields #[.int s3.gens.size 0, .str "<genexpr>" (s3.toks + 1), .str (X.env.qual ++ "<genexpr>") (s3.toks + 1 + 1)] } : Obj) = go
    have hgen0 : ∀ h : Heap, h.get? h'.objs.size = some go → h.IsGen h'.objs.size s3.gens.size := fun h e => ⟨go, _, _, e, by rw [← hgo], by rw [← hgo], by rw [← hgo]⟩
    have ngo : ∀ v, go.data ≠ .cell v := fun v z => by
      rw [← hgo] at z
      cases z
    have hpush : (h'.push go).get? h'.objs.size = some go := by
      rw [← hgo]
      exact Heap.get?_push_size _ rfl
    have kp2 : ∀ b o, s3.heap.get? b = some o → (h'.push go).get? b = some o := fun b o e => Heap.get?_push_of_some _ (kp b o e)
    have pg := hg s3 H3 s3.heap.objs.size (cloFrom X.env.cells scope.names []) code fp
    have pt := ht s3 H3 s3.heap.objs.size (cloFrom X.env.cells scope.names []) code fp
    have pe := he s3 H3 s3.heap.objs.size (cloFrom X.env.cells scope.names []) code fp
    have I4 := gen_start (code := code) (tk := s3.toks + 1 + 1 + 1) (h' := h'.push go) (G := s3.gens.push (.fresh (.compStart (.GeneratorExp elt [⟨tg, iter, ifs, 0⟩] scope gpos) 0 (.ref it) .none (genEnv scope (cloFrom X.env.cells scope.names []) s3.heap.objs.size code builtinsNs X.env)))) I3 ok nc hN f3 (hn''.push _) kp2 (AllBare.push I3.bare rfl)
    generalize hce : genEnv scope (cloFrom X.env.cells scope.names []) s3.heap.objs.size code builtinsNs X.env = ce at pg pt pe I4 ⊢
    have cL : ce.locals = s3.heap.objs.size := by subst hce; rfl
    have cS : ce.scope = scope := by subst hce; rfl
    have hgH : H3 h'.objs.size = none := I3.hok.fresh (by rw [hsz']; exact Nat.le_succ _)
    have nfs : h'.objs.size ∉ frs X.stack := fun z => by
      rcases List.mem_cons.mp (I3.stkSub _ z) with z | z
      · have := I3.lt
        rw [← z, hsz'] at this
        exact absurd (Nat.lt_of_succ_lt this) (Nat.lt_irrefl _)
      · exact I3.nofs (by rw [hsz']; exact Nat.le_succ _) z
    have I5 := I4.pins_of (pins' := [(h'.objs.size, go)]) fun p hp => by
      rw [List.mem_singleton.mp hp]
      refine ⟨hpush, hgH, ?_, nfs, ngo⟩
      show h'.objs.size ≠ ce.locals
      rw [cL, hsz']
      exact Nat.succ_ne_self _
    generalize hs5 : ({ s3 with heap := h'.push go, gens := s3.gens.push (.fresh (.compStart (.GeneratorExp elt [⟨tg, iter, ifs, 0⟩] scope gpos) 0 (.ref it) .none ce)), toks := s3.toks + 1 + 1 + 1 } : Shared) = s5 at I5
    have st5 : tn 0 s5.heap := T.keep _ _ _ st3 fun b _ o e => by rw [← hs5]; exact kp2 b o e
    have hgs : s5.gens[s3.gens.size]? = some (.fresh (.compStart (.GeneratorExp elt [⟨tg, iter, ifs, 0⟩] scope gpos) 0 (.ref it) .none ce)) := by
      rw [← hs5]
      exact Array.getElem?_push_size ..
    have hz5 : s5.heap.objs.size = h'.objs.size + 1 := by
      rw [← hs5]
      exact Heap.size_push ..
    refine hq J fp H3 h'.objs.size s3.gens.size (gcx X s3 H3 ce fp) go s5 hK ⟨rfl, rfl, I5, rfl, hgen0, fun hb => ?_, fun b hb => ?_, fun pn σ' H' s' I6 => ?_, fun {α} Pn T' D W hpins mono turn m0 a0 pn0 s6 hPn I6 k6 hg6 w0 => ?_⟩
    · have z : h'.objs.size < s3.heap.objs.size := (f3 _ hb).2
      rw [hsz'] at z
      omega
    · have z : b < s3.heap.objs.size := (f3 b hb).2
      rw [hz5, hsz']
      exact Nat.lt_succ_of_lt (Nat.lt_succ_of_lt z)
    · exact I3.call' (ch := fp) I6.os I6.base I6.hok I6.bare fun b hb => ⟨(f3 b hb).1.2.2.2.1, (f3 b hb).1.2.1, (f3 b hb).1.2.2.2.2.1, (f3 b hb).1.2.2.2.2.2⟩
    · have hgs6 : s6.gens[s3.gens.size]? = some (.fresh (.compStart (.GeneratorExp elt [⟨tg, iter, ifs, 0⟩] scope gpos) 0 (.ref it) .none ce)) := by
        rw [hg6]
        exact hgs
      refine ⟨_, hgs6, rfl, ?_⟩
      have st6 : tn 0 s6.heap := T.keep _ _ _ st5 k6
      refine seg_start (i := 0) T st6 ?_
      exact seg_loopA (Y := gcx X s3 H3 ce fp) (vs := own.map (·.2)) rfl rfl hc (by show ce.scope.isCoroutine = false; rw [cS]; exact hco) T pg pt pe (fun b hb => hb) rfl hpins mono turn m0 (m0 + 1) 0 a0 pn0 _ _ H3 (Nat.lt_succ_self _) hPn (fun p hp => (I6.pin p (List.mem_append_right _ hp)).1) (inv_gens I6 (allBare_setGen I6.bare rfl)) st6 (fun b hb => (f3 b hb).1.1) w0
  cases hf : codeAmong gpos ps.toList with
  | none =>
    refine wpAny_genexprCodeX hcode (cd.code hPs ht2) (cd.tab hPs) hf fun c' h' tk hx hge hlt hco' _ htab' _ => ?_
    have trip := hco'.choose_spec.choose_spec.choose_spec.choose_spec.choose_spec.choose_spec.choose_spec.choose_spec.choose_spec.choose_spec.2.2.2.2.2.2.2.2.2.1
    exact cont _ h' tk _ hx (Nat.le_trans hge (Nat.le_of_lt hlt)) htab'.2 ⟨#[_, _, _], rfl⟩ trip
  | some cv =>
    refine wpAny_genexprCode_hit hcode (cd.code hPs ht2) hf ?_
    exact cont cv s2.heap s2.toks ps (Heap.ExtBut.refl _ _) (Nat.le_refl _) hPs ⟨#[], by simp⟩ ht2
end
end GY

namespace GY
open PySem PySem.Spec PyProof.Rows L2 GenW GX
section
variable {Y : Cx}
/-! ### any -/
abbrev dAny (F : Hp → Prop) : Unit → V → Hp → (Unit → Prop) → Prop := fun _ y H k => ∃ c : Bool, y = .bl c ∧ (c = false → k ()) ∧ (c = true → F H)
theorem dAny_mono (F : Hp → Prop) : ∀ a y H (k k' : Unit → Prop), (∀ a', k a' → k' a') → dAny F a y H k → dAny F a y H k' := fun _ _ _ _ _ h ⟨c, e, h1, h2⟩ => ⟨c, e, fun z => h _ (h1 z), h2⟩
theorem any_loop {A : Around} {R : Result → Shared → Prop} {ga gi : Nat} {go : Obj} {fp : List Addr} {T F : Hp → Prop} (hh : A.handled = none) (hd : A.depth < recursionLimit) (isgen : ∀ h : Heap, h.get? ga = some go → h.IsGen ga gi) (hT : ∀ σ H s, Inv Y [(ga, go)] σ H s → T H → R (.ok (.ret (.bool false))) s) (hF : ∀ σ H s, Inv Y [(ga, go)] σ H s → F H → R (.ok (.ret (.bool true))) s) :
    ∀ (n : Nat) (s : Shared), s.heap.get? ga = some go → s.heap.NoLimit → (∃ gs, s.gens[gi]? = some gs ∧ gs.Goes (model Y.prog Y.w) A.in1.in1 (RGa Y (fun (_ : Unit) pn => pn = [(ga, go)]) fun _ => T) (YGa Y fp (fun (_ : Unit) pn => pn = [(ga, go)]) (dAny F)) n (.send .none) (s.setGen gi .running)) →
      codeAny (model Y.prog Y.w) A (.builtin "any.loop" ⟨[.ref ga], []⟩) R s := by
  intro n
  induction n with
  | zero =>
    intro s hg hl ⟨gs, hgs, hgo⟩
    refine codeAny_builtin PySem.F.entry_any_loop ?_
    rw [Around.under_plainId PySem.F.plain_any_loop _]
    show wpAny _ A.in1 (pyNext (.ref ga) >>= _) _ _ s
    refine wpAny_bind (wpAny_pyNext_genexpQ (A := A.in1) (P := fun _ s₀ s₁ => ∃ (a : Unit) (pn : List (Addr × Obj)) (σ : L2.St) (H : Hp), pn = [(ga, go)] ∧ (∀ p ∈ pn, s₀.heap.get? p.1 = some p.2) ∧ Inv Y pn σ H s₁ ∧ T H) hh hl hd (isgen _ hg) hgs hgo (fun v s₁ gs' hb hv => ?_) (fun s₁ hp h' hk => ?_))
    · obtain ⟨a, pn, y, σ, H, rfl, _, ry, I, c, rfl, h1, h2⟩ := hv
      obtain rfl : v = Value.bool c := ry
      cases c with
      | false => exact (h1 rfl _ _ rfl I (fun _ _ _ e => e)).elim
      | true =>
        refine wpAny_bind (wpAny_holding (wpAny_truthy_bool ?_))
        refine wpAny_bind (wpAny_letGo ?_)
        simp only [if_true]
        exact wpAny_bind (wpAny_rule (wpAny_pure (hF σ H _ (inv_gens I (allBare_setGen I.bare hb)) (h2 rfl))))
    · obtain ⟨_, pn, σ, H, rfl, _, I, q⟩ := hp
      exact wpAny_bind (wpAny_rule (wpAny_pure (hT σ H _ (inv_kept (s := s₁) (G := (s₁.setGen gi .finished).gens) I (allBare_setGen I.bare rfl) hk) q)))
  | succ n ih =>
    intro s hg hl ⟨gs, hgs, hgo⟩
    have hgl : gi < s.gens.size := (Array.getElem?_eq_some_iff.mp hgs).1
    refine codeAny_builtin PySem.F.entry_any_loop ?_
    rw [Around.under_plainId PySem.F.plain_any_loop _]
    show wpAny _ A.in1 (pyNext (.ref ga) >>= _) _ _ s
    refine wpAny_bind (wpAny_gsz (n := gi + 1) hgl (wpAny_pyNext_genexpQ (A := A.in1) (P := fun _ s₀ s₁ => ∃ (a : Unit) (pn : List (Addr × Obj)) (σ : L2.St) (H : Hp), pn = [(ga, go)] ∧ (∀ p ∈ pn, s₀.heap.get? p.1 = some p.2) ∧ Inv Y pn σ H s₁ ∧ T H) hh hl hd (isgen _ hg) hgs hgo (fun v s₁ gs' hb hv => ?_) (fun s₁ hp h' hk => ?_)))
    · intro hsz
      obtain ⟨a, pn, y, σ, H, rfl, _, ry, I, c, rfl, h1, h2⟩ := hv
      obtain rfl : v = Value.bool c := ry
      refine wpAny_bind (wpAny_holding (wpAny_truthy_bool ?_))
      refine wpAny_bind (wpAny_letGo ?_)
      cases c with
      | false =>
        simp only [Bool.false_eq_true, if_false]
        have hsz1 : gi < s₁.gens.size := by
          have q : (s₁.setGen gi gs').gens.size = s₁.gens.size := setGen_size _ _ _
          have hsz' : gi + 1 ≤ (s₁.setGen gi gs').gens.size := hsz
          omega
        refine wpAny_pure ⟨plainId_quiet PySem.F.plain_any_loop _, ih (s₁.setGen gi gs') (I.pin (ga, go) (List.mem_append_right _ (List.mem_singleton.mpr rfl))).1 (show s₁.heap.NoLimit from I.nolimit) ⟨gs', setGen_at hsz1, ?_⟩⟩
        exact h1 rfl _ _ rfl (inv_gens (inv_gens I (allBare_setGen (g := gi) I.bare hb)) (allBare_setGen (s := s₁.setGen gi gs') (allBare_setGen I.bare hb) rfl)) (fun _ _ _ e => e)
      | true =>
        simp only [if_true]
        exact wpAny_bind (wpAny_rule (wpAny_pure (hF σ H _ (inv_gens I (allBare_setGen I.bare hb)) (h2 rfl))))
    · intro hsz
      obtain ⟨_, pn, σ, H, rfl, _, I, q⟩ := hp
      exact wpAny_bind (wpAny_rule (wpAny_pure (hT σ H _ (inv_kept (s := s₁) (G := (s₁.setGen gi .finished).gens) I (allBare_setGen I.bare rfl) hk) q)))
/-! ### sum -/
abbrev dSum : Int → V → Hp → (Int → Prop) → Prop := fun t y _ k => ∃ i : Int, y = .int i ∧ k (t + i)
theorem dSum_mono : ∀ a y H (k k' : Int → Prop), (∀ a', k a' → k' a') → dSum a y H k → dSum a y H k' := fun _ _ _ _ _ h ⟨i, e, h1⟩ => ⟨i, e, h _ h1⟩
abbrev sumO (t : Int) (tok : Tok) (c : Nat) : Obj := { cls := .type "list", dict := none, data := .seq #[.int t tok] c, slots := #[] }
abbrev pnSum (ga : Addr) (go : Obj) (L : Addr) : Int → List (Addr × Obj) → Prop := fun t pn => ∃ tok c, pn = [(ga, go), (L, sumO t tok c)]
/-- the taker's own list, new when the generator was made -/
structure OwnL (Y : Cx) (ga L : Addr) (fp : List Addr) : Prop where
  young : Y.s_0.heap.objs.size ≤ L
  cells : ∀ x c, Y.env.cells.lookup x = some c → c ≠ L
  ypn : Y.pn = []
  ne : L ≠ ga
  nfp : L ∉ fp
theorem own_put {ga L : Addr} {fp : List Addr} {go : Obj} {o o' : Obj} {σ : L2.St} {H : Hp} {s : Shared} {h' : Heap} {tk : Nat} (O : OwnL Y ga L fp) (I : Inv Y [(ga, go), (L, o)] σ H s) (hL : h'.get? L = some o') (hk : ∀ b u, b ≠ L → s.heap.get? b = some u → h'.get? b = some u) (nc : ∀ v, o'.data ≠ .cell v) : Inv Y [(ga, go), (L, o')] σ H { s with heap := h', toks := tk } := by
  have pL := I.pin (L, o) (by simp)
  have pG := I.pin (ga, go) (by simp)
  have J := (I.pins_of (pins' := [(ga, go)]) fun p hp => by rw [List.mem_singleton.mp hp]; exact pG).turned (it := L) (h' := h') (t' := tk) (fun b u hb e => hk b u hb e) pL.2.1 pL.2.2.1 (.inr O.young) O.cells (fun p hp => by
    rw [O.ypn] at hp
    have : p = (ga, go) := by simpa using hp
    rw [this]
    exact O.ne.symm)
  refine J.pins_of fun p hp => ?_
  have two : p = (ga, go) ∨ p = (L, o') := by simpa using hp
  rcases two with rfl | rfl
  · exact ⟨hk _ _ O.ne.symm pG.1, pG.2⟩
  · exact ⟨hL, pL.2.1, pL.2.2.1, pL.2.2.2.1, nc⟩
theorem sum_loop {A : Around} {R : Result → Shared → Prop} {ga gi L : Nat} {go : Obj} {fp : List Addr} {T : Int → Hp → Prop} (hh : A.handled = none) (hd : A.depth < recursionLimit) (isgen : ∀ h : Heap, h.get? ga = some go → h.IsGen ga gi) (O : OwnL Y ga L fp) (hT : ∀ t tok pn σ H s, Inv Y pn σ H s → T t H → R (.ok (.ret (.int t tok))) s) :
    ∀ (n : Nat) (s : Shared) (t : Int) (tok : Tok) (c : Nat) (st : Int), (st = 0 ∨ st = 2) → s.heap.get? L = some (sumO t tok c) → s.heap.get? ga = some go → s.heap.NoLimit → (∃ gs, s.gens[gi]? = some gs ∧ gs.Goes (model Y.prog Y.w) A.in1.in1 (RGa Y (pnSum ga go L) T) (YGa Y fp (pnSum ga go L) dSum) n (.send .none) (s.setGen gi .running)) →
      codeAny (model Y.prog Y.w) A (.builtin "sum.loop" ⟨[.ref ga, .ref L, rawInt st, rawInt 0], []⟩) R s := by
  intro n
  induction n with
  | zero =>
    intro s t tok c st hst hL hg hl ⟨gs, hgs, hgo⟩
    refine codeAny_builtin PySem.F.entry_sum_loop ?_
    rw [Around.under_plainId PySem.F.plain_sum_loop _]
    show wpAny _ A.in1 (seqItems? (.ref L) >>= _) _ _ s
    refine wpAny_bind (wpAny_seqItems hL rfl ?_)
    show wpAny _ A.in1 (tryCatch (pyNext (.ref ga)) _ >>= _) _ _ s
    refine wpAny_bind (wpAny_tryCatch (wpAny_pyNext_genexpQ (A := A.in1) (P := fun _ s₀ s₁ => ∃ a pn σ H, pnSum ga go L a pn ∧ (∀ p ∈ pn, s₀.heap.get? p.1 = some p.2) ∧ Inv Y pn σ H s₁ ∧ T a H) hh hl hd (isgen _ hg) hgs hgo (fun v s₁ gs' hb hv => ?_) (fun s₁ hp h' hk => ?_)))
    · obtain ⟨a, pn, y, σ, H, ⟨tok', c', rfl⟩, h0, ry, I, i, rfl, h1⟩ := hv
      have IL := own_put (tk := s₁.toks) (o' := sumO (a + i) tok' c') (h' := s₁.heap.update L fun _ => sumO (a + i) tok' c') O I (Heap.get?_update_self _ (I.pin (L, sumO a tok' c') (by simp)).1 rfl) (fun b u hb e => (Heap.get?_update_other _ _ (fun h : L = b => hb h.symm)).trans e) (fun v z => by cases z)
      exact (h1 _ _ ⟨tok', c', rfl⟩ IL fun b hb o e => (Heap.get?_update_other _ _ (fun h : L = b => O.nfp (h ▸ hb))).trans e).elim
    · obtain ⟨a, pn, σ, H, ⟨tok', c', rfl⟩, h0, I, q⟩ := hp
      have e0 := h0 (L, sumO a tok' c') (by simp)
      have e1 : s.heap.get? L = some (sumO a tok' c') := e0
      rw [hL] at e1
      have ea : t = a := by
        injection e1 with e1
        injection e1 with _ _ e1
        injection e1 with e1 _
        injection e1 with e1
        injection e1 with e1 _
        injection e1 with e1 _
      subst ea
      exact wpAny_pure (hT t tok _ σ H _ (inv_kept (s := s₁) (G := (s₁.setGen gi .finished).gens) I (allBare_setGen I.bare rfl) hk) q)
  | succ n ih =>
    intro s t tok c st hst hL hg hl ⟨gs, hgs, hgo⟩
    have hgl : gi < s.gens.size := (Array.getElem?_eq_some_iff.mp hgs).1
    refine codeAny_builtin PySem.F.entry_sum_loop ?_
    rw [Around.under_plainId PySem.F.plain_sum_loop _]
    show wpAny _ A.in1 (seqItems? (.ref L) >>= _) _ _ s
    refine wpAny_bind (wpAny_seqItems hL rfl ?_)
    show wpAny _ A.in1 (tryCatch (pyNext (.ref ga)) _ >>= _) _ _ s
    refine wpAny_bind (wpAny_tryCatch (wpAny_gsz (n := gi + 1) hgl (wpAny_pyNext_genexpQ (A := A.in1) (P := fun _ s₀ s₁ => ∃ a pn σ H, pnSum ga go L a pn ∧ (∀ p ∈ pn, s₀.heap.get? p.1 = some p.2) ∧ Inv Y pn σ H s₁ ∧ T a H) hh hl hd (isgen _ hg) hgs hgo (fun v s₁ gs' hb hv => ?_) (fun s₁ hp h' hk => ?_))))
    · intro hsz
      obtain ⟨a, pn, y, σ, H, ⟨tok', c', rfl⟩, h0, ry, I, i, rfl, h1⟩ := hv
      obtain ⟨tv, rfl⟩ := ry
      have e0 := h0 (L, sumO a tok' c') (by simp)
      have e1 : s.heap.get? L = some (sumO a tok' c') := e0
      rw [hL] at e1
      have ea : t = a ∧ tok = tok' ∧ c = c' := by
        injection e1 with e1
        injection e1 with _ _ e1
        injection e1 with e1 e2
        injection e1 with e1
        injection e1 with e1 _
        injection e1 with e1 e3
        exact ⟨e1, e3, e2⟩
      obtain ⟨rfl, rfl, rfl⟩ := ea
      have hsz1 : gi < s₁.gens.size := by
        have q : (s₁.setGen gi gs').gens.size = s₁.gens.size := setGen_size _ _ _
        have hsz' : gi + 1 ≤ (s₁.setGen gi gs').gens.size := hsz
        omega
      have I' := inv_gens I (allBare_setGen (g := gi) I.bare hb)
      have hS' : (s₁.setGen gi gs').heap.get? L = some (sumO t tok c) := (I'.pin (L, sumO t tok c) (by simp)).1
      have hG' : (s₁.setGen gi gs').heap.get? ga = some go := (I'.pin (ga, go) (by simp)).1
      -- what follows a turn
      have fin : ∀ (h' : Heap) (tk : Nat) (tok2 : Tok) (c2 : Nat) (st2 : Int), (st2 = 0 ∨ st2 = 2) → h'.get? L = some (sumO (t + i) tok2 c2) → (∀ b u, b ≠ L → (s₁.setGen gi gs').heap.get? b = some u → h'.get? b = some u) →
          codeAny (model Y.prog Y.w) A (.builtin "sum.loop" ⟨[.ref ga, .ref L, rawInt st2, rawInt 0], []⟩) R { s₁.setGen gi gs' with heap := h', toks := tk } := fun h' tk tok2 c2 st2 hst2 hL2 hk2 => by
        have IL := own_put (tk := tk) (o' := sumO (t + i) tok2 c2) O I' hL2 hk2 (fun v z => by cases z)
        refine ih _ (t + i) tok2 c2 st2 hst2 hL2 (hk2 _ _ O.ne.symm hG') (IL.nolimit) ⟨gs', setGen_at hsz1, ?_⟩
        exact h1 _ _ ⟨tok2, c2, rfl⟩ (inv_gens IL (allBare_setGen IL.bare rfl)) fun b hb' o e => hk2 b o (fun z => O.nfp (z ▸ hb')) e
      rcases hst with rfl | rfl
      · show wpAny _ A.in1 (if (_ : Bool) = true then (mkInt (t + i) >>= _) else _) _ _ _
        split
        · refine wpAny_bind (wpAny_mkInt ?_)
          show wpAny _ A.in1 (updateSeq L (fun _ => #[.int (t + i) _]) >>= _) _ _ _
          refine wpAny_bind ?_
          refine wpAny_updateSeq hS' rfl (wpAny_pure ⟨plainId_quiet F.plain_sum_loop _, ?_⟩)
          exact fin _ _ _ _ 0 (.inl rfl) (Heap.get?_update_self _ hS' rfl) fun b u hb e => (Heap.get?_update_other _ _ (fun h : L = b => hb h.symm)).trans e
        · refine wpAny_bind (wpAny_rule ?_)
          refine wpAny_bind (wpAny_attempt (wpAny_holding (wpAny_add_int ?_)))
          show wpAny _ A.in1 (updateSeq L (fun _ => #[.int (t + i) _]) >>= _) _ _ _
          refine wpAny_bind (wpAny_updateSeq hS' rfl ?_)
          have hS₂ := Heap.get?_update_self (Obj.mapSeq fun _ => #[Value.int (t + i) (s₁.setGen gi gs').toks]) hS' rfl
          refine wpAny_bind (wpAny_letGo ?_)
          refine wpAny_bind (wpAny_updateSeq hS₂ rfl (wpAny_pure ⟨plainId_quiet F.plain_sum_loop _, ?_⟩))
          exact fin _ _ _ _ 2 (.inr rfl) (Heap.get?_update_self _ hS₂ rfl) fun b u hb e => (Heap.get?_update_other _ _ (fun h : L = b => hb h.symm)).trans ((Heap.get?_update_other _ _ (fun h : L = b => hb h.symm)).trans e)
      · show wpAny _ A.in1 ((holding [Value.int i tv] (binaryOp .Add (.int t tok) (.int i tv))).attempt >>= _) _ _ _
        refine wpAny_bind (wpAny_attempt (wpAny_holding (wpAny_add_int ?_)))
        show wpAny _ A.in1 (updateSeq L (fun _ => #[.int (t + i) _]) >>= _) _ _ _
        refine wpAny_bind (wpAny_updateSeq hS' rfl ?_)
        have hS₂ := Heap.get?_update_self (Obj.mapSeq fun _ => #[Value.int (t + i) (s₁.setGen gi gs').toks]) hS' rfl
        refine wpAny_bind (wpAny_letGo ?_)
        refine wpAny_bind (wpAny_updateSeq hS₂ rfl (wpAny_pure ⟨plainId_quiet F.plain_sum_loop _, ?_⟩))
        exact fin _ _ _ _ 2 (.inr rfl) (Heap.get?_update_self _ hS₂ rfl) fun b u hb e => (Heap.get?_update_other _ _ (fun h : L = b => hb h.symm)).trans ((Heap.get?_update_other _ _ (fun h : L = b => hb h.symm)).trans e)
    · intro hsz
      obtain ⟨a, pn, σ, H, ⟨tok', c', rfl⟩, h0, I, q⟩ := hp
      have e0 := h0 (L, sumO a tok' c') (by simp)
      have e1 : s.heap.get? L = some (sumO a tok' c') := e0
      rw [hL] at e1
      have ea : t = a := by
        injection e1 with e1
        injection e1 with _ _ e1
        injection e1 with e1 _
        injection e1 with e1
        injection e1 with e1 _
        injection e1 with e1 _
      subst ea
      exact wpAny_pure (hT t tok _ σ H _ (inv_kept (s := s₁) (G := (s₁.setGen gi .finished).gens) I (allBare_setGen I.bare rfl) hk) q)
end
end GY

namespace GY
open PySem PySem.Spec PyProof.Rows L2 GenW GX
/-- f(elt for tg in iter if ..): the taker begins with a0, T is what holds of it at the end, D what it does with an item -/
def tGx {α : Type} (P : Addr) (wi : TI) (g : TG) (tt : TT) (te : TE) (vs : List Nat) (a0 : α) (T : VK → α → Hp → Prop) (D : VK → α → V → Hp → (α → Prop) → Prop) : TE := fun σ H Q => wi σ H fun J H1 => GxR.TabG H1 P ∧ ∀ H2, GxR.Tabbed P H1 H2 →
  ∃ W : Nat → Nat → α → Hp → Prop, (∃ m, W 0 m a0 H2) ∧ TurnG J g tt te vs (wipe σ vs) W (T Q) (D Q)
section
variable {X : Cx}
theorem pe_sum {c P : Addr} {elt tg iter : Expr} {ifs : List Expr} {scope : Scope} {own : List (Str × Nat)} {p pos gpos : Pos} {wi : TI} {g : TG} {tt : TT} {te : TE} {k : Nat}
    (hr : Room k X.A) (hgl : Gl X "sum") (hm : X.mg "sum" = none) (TB : GxR.TabB X.base X.mg c P) (hcode : X.env.code = .ref c) (hc : X.calm = true) (hN : X.N.Nodup) (hi : PI X tg iter wi) (ok : BlkOk X.N X.env.scope scope own)
    (hco : scope.isCoroutine = false) (nc : ∀ y ∈ scope.names, y.2 ≠ .cell) (h0 : scope.names.lookup (".0" : Str) = some NameKind.local)
    (hg : ∀ (s : Shared) (H : Hp) (C : Addr) (cl : List (Str × Addr)) (code : Value) (fp : List Addr), PG (gcx X s H (genEnv scope cl C code builtinsNs X.env) fp) tg g)
    (ht : ∀ (s : Shared) (H : Hp) (C : Addr) (cl : List (Str × Addr)) (code : Value) (fp : List Addr), PTs (gcx X s H (genEnv scope cl C code builtinsNs X.env) fp) ifs tt)
    (he : ∀ (s : Shared) (H : Hp) (C : Addr) (cl : List (Str × Addr)) (code : Value) (fp : List Addr), PE (gcx X s H (genEnv scope cl C code builtinsNs X.env) fp) elt te)
    (hs : ∀ v, genFold iter X.env v = pure v := by intro _; rfl)
    (hst : starEach [.GeneratorExp elt [⟨tg, iter, ifs, 0⟩] scope gpos] X.env = (false, eval (.GeneratorExp elt [⟨tg, iter, ifs, 0⟩] scope gpos) X.env) :: starEach [] X.env := by rfl) :
    PE X (.Call (.Name "sum" p) [.GeneratorExp elt [⟨tg, iter, ifs, 0⟩] scope gpos] [] pos) (tGx P wi g tt te (own.map (·.2)) (0 : Int) (fun Q t H => Q (.int t) H) (fun _ => dSum)) := by
  refine ⟨fun pins s σ H Q I h => ?_⟩
  refine wpAny_Call_Name_kw (ld_blt I hgl hm boot_sum ?_)
  refine PyProof.Rows.callWith_builtin1 ?_ hst (by rfl)
  rw [hst]
  show wpAny _ _ (spliced ((false, eval (.GeneratorExp elt [⟨tg, iter, ifs, 0⟩] scope gpos) X.env) :: backTo pos (starEach [] X.env))) _ _ s
  refine Calls.spliced_cons (gen_made hr TB hcode hc hN hi ok hco nc h0 hg ht he hs I h fun J fp H3 ga gi Y go s5 ⟨W, ⟨m0, w0⟩, turn⟩ G => ?_)
  refine Calls.spliced_nil ?_
  have hg5 := (G.inv.pin (ga, go) (List.mem_append_right _ (List.mem_singleton.mpr rfl))).1
  refine call_function_tree F.kind_sum F.plain_sum F.entry_sum (F.args_sum1 _) ?_
  unfold Builtin.«sum»
  simp only [List.length_cons, List.length_nil]
  rw [if_neg (by decide)]
  refine wpAny_bind (wpAny_of_eq (show Builtin.Builtins.bindParams "sum" ["start"] 0 { } = pure [none] from rfl) ?_)
  refine wpAny_bind (wpAny_pyIter_gen (G.isgen _ hg5) ?_)
  refine wpAny_bind (wpAny_mkInt ?_)
  refine wpAny_bind (wpAny_pure ?_)
  simp only [List.forIn_cons, List.forIn_nil]
  refine wpAny_bind (wpAny_bind (wpAny_bind (wpAny_isInstance (T := "int") (b := false) (typeIs_int _ _ _) PySem.sub_int_str ?_)))
  simp only [Bool.false_eq_true, if_false]
  refine wpAny_pure (wpAny_bind (wpAny_bind (wpAny_isInstance (T := "int") (b := false) (typeIs_int _ _ _) PySem.sub_int_bytes ?_)))
  simp only [Bool.false_eq_true, if_false]
  refine wpAny_pure (wpAny_bind (wpAny_bind (wpAny_isInstance (T := "int") (b := false) (typeIs_int _ _ _) PySem.sub_int_bytearray ?_)))
  simp only [Bool.false_eq_true, if_false]
  refine wpAny_pure (wpAny_pure ?_)
  refine wpAny_bind (wpAny_newObj_type ?_)
  have fL := G.inv.fpOk (b := s5.heap.objs.size) (Nat.le_refl _) (G.inv.hok.fresh (Nat.le_refl _))
  have O : OwnL Y ga s5.heap.objs.size fp := ⟨fL.2.2.2.1.elim (fun z => Nat.le_trans G.inv.sz (Nat.le_refl _)) id, fL.2.2.2.2.1, G.ypn, Nat.ne_of_gt (Heap.lt_size hg5), fun hb => Nat.lt_irrefl _ (G.fplt _ hb)⟩
  have kp : ∀ b u, s5.heap.get? b = some u → (s5.heap.push (sumO 0 s5.toks 0)).get? b = some u := fun b u e => Heap.get?_push_of_some _ e
  have I6 : Inv Y [(ga, go), (s5.heap.objs.size, sumO 0 s5.toks 0)] (wipe σ (own.map (·.2))) H3 { s5 with heap := s5.heap.push (sumO 0 s5.toks 0), toks := s5.toks + 1 } := by
    refine (G.inv.kept (t' := s5.toks + 1) kp).pins_of fun q hq => ?_
    have two : q = (ga, go) ∨ q = (s5.heap.objs.size, sumO 0 s5.toks 0) := by simpa using hq
    have pG := G.inv.pin (ga, go) (List.mem_append_right _ (List.mem_singleton.mpr rfl))
    rcases two with rfl | rfl
    · exact ⟨kp _ _ pG.1, pG.2⟩
    · exact ⟨Heap.get?_push_size _ rfl, fL.1, fL.2.1, fL.2.2.1, fun v z => by cases z⟩
  have go6 := G.goes (pnSum ga go s5.heap.objs.size) (fun t H => Q (.int t) H) dSum W (fun a pn ⟨tok, c, e⟩ q hq => by
    rw [e] at hq
    have two : q = (ga, go) ∨ q = (s5.heap.objs.size, sumO a tok c) := by simpa using hq
    rcases two with rfl | rfl
    · exact G.gafp
    · exact O.nfp) dSum_mono turn m0 0 _ _ ⟨_, _, rfl⟩ I6 (fun b _ o e => kp b o e) rfl w0
  rw [← G.prog, ← G.w] at go6 ⊢
  refine wpAny_pure ⟨plainId_quiet F.plain_sum_loop _, sum_loop (Y := Y) hr.hd hr.depth G.isgen O (fun t tok pn σ' H' s' I7 q => ⟨.int t, H', G.back _ _ _ _ I7, ⟨tok, rfl⟩, q⟩) (m0 + 1) _ 0 s5.toks 0 0 (.inl rfl) (Heap.get?_push_size _ rfl) (kp _ _ hg5) I6.nolimit go6⟩
theorem pe_any {c P : Addr} {elt tg iter : Expr} {ifs : List Expr} {scope : Scope} {own : List (Str × Nat)} {p pos gpos : Pos} {wi : TI} {g : TG} {tt : TT} {te : TE} {k : Nat}
    (hr : Room k X.A) (hgl : Gl X "any") (hm : X.mg "any" = none) (TB : GxR.TabB X.base X.mg c P) (hcode : X.env.code = .ref c) (hc : X.calm = true) (hN : X.N.Nodup) (hi : PI X tg iter wi) (ok : BlkOk X.N X.env.scope scope own)
    (hco : scope.isCoroutine = false) (nc : ∀ y ∈ scope.names, y.2 ≠ .cell) (h0 : scope.names.lookup (".0" : Str) = some NameKind.local)
    (hg : ∀ (s : Shared) (H : Hp) (C : Addr) (cl : List (Str × Addr)) (code : Value) (fp : List Addr), PG (gcx X s H (genEnv scope cl C code builtinsNs X.env) fp) tg g)
    (ht : ∀ (s : Shared) (H : Hp) (C : Addr) (cl : List (Str × Addr)) (code : Value) (fp : List Addr), PTs (gcx X s H (genEnv scope cl C code builtinsNs X.env) fp) ifs tt)
    (he : ∀ (s : Shared) (H : Hp) (C : Addr) (cl : List (Str × Addr)) (code : Value) (fp : List Addr), PE (gcx X s H (genEnv scope cl C code builtinsNs X.env) fp) elt te)
    (hs : ∀ v, genFold iter X.env v = pure v := by intro _; rfl)
    (hst : starEach [.GeneratorExp elt [⟨tg, iter, ifs, 0⟩] scope gpos] X.env = (false, eval (.GeneratorExp elt [⟨tg, iter, ifs, 0⟩] scope gpos) X.env) :: starEach [] X.env := by rfl) :
    PE X (.Call (.Name "any" p) [.GeneratorExp elt [⟨tg, iter, ifs, 0⟩] scope gpos] [] pos) (tGx P wi g tt te (own.map (·.2)) () (fun Q _ H => Q (.bl false) H) (fun Q => dAny fun H => Q (.bl true) H)) := by
  refine ⟨fun pins s σ H Q I h => ?_⟩
  refine wpAny_Call_Name_kw (ld_blt I hgl hm (by decide +kernel : bootBuiltins "any" = some (.builtin "any")) ?_)
  refine PyProof.Rows.callWith_builtin1 ?_ hst (by rfl)
  rw [hst]
  show wpAny _ _ (spliced ((false, eval (.GeneratorExp elt [⟨tg, iter, ifs, 0⟩] scope gpos) X.env) :: backTo pos (starEach [] X.env))) _ _ s
  refine Calls.spliced_cons (gen_made hr TB hcode hc hN hi ok hco nc h0 hg ht he hs I h fun J fp H3 ga gi Y go s5 ⟨W, ⟨m0, w0⟩, turn⟩ G => ?_)
  refine Calls.spliced_nil ?_
  have hg5 := (G.inv.pin (ga, go) (List.mem_append_right _ (List.mem_singleton.mpr rfl))).1
  refine call_function_tree F.kind_any F.plain_any F.entry_any (F.args_any1 _) ?_
  unfold Builtin.«any»
  refine wpAny_bind (m := oneArg "any" _) (wpAny_pure ?_)
  refine wpAny_bind (wpAny_pyIter_gen (G.isgen _ hg5) ?_)
  have go6 := G.goes (fun (_ : Unit) pn => pn = [(ga, go)]) (fun _ H => Q (.bl false) H) (dAny fun H => Q (.bl true) H) W (fun a pn e q hq => by
    rw [e] at hq
    rw [List.mem_singleton.mp hq]
    exact G.gafp) (dAny_mono _) turn m0 () _ _ rfl G.inv (fun b _ o e => e) rfl w0
  rw [← G.prog, ← G.w] at go6 ⊢
  refine wpAny_pure ⟨plainId_quiet F.plain_any_loop _, any_loop (Y := Y) hr.hd hr.depth G.isgen (fun σ' H' s' I7 q => ⟨.bl false, H', G.back _ _ _ _ I7, rfl, q⟩) (fun σ' H' s' I7 q => ⟨.bl true, H', G.back _ _ _ _ I7, rfl, q⟩) (m0 + 1) _ hg5 G.inv.nolimit go6⟩
/-- such a taker over a walk -/
theorem gx_it {α : Type} {J : It} {n : Nat} {G : Hp → Prop} {Y : Nat → Hp → V → Hp → Prop} (w : Walk J n G Y) {g : TG} {tt : TT} {te : TE} {vs : List Nat} {σw : L2.St} {H2 : Hp} {a0 : α} {T : α → Hp → Prop} {D : α → V → Hp → (α → Prop) → Prop} (Pv : Nat → α → Hp → Prop) (h0 : Pv 0 a0 H2) (hG : ∀ i a H, i ≤ n → Pv i a H → G H)
    (hs : ∀ i x a H H', i < n → Pv i a H → Y i H x H' → g x σw H' fun σ2 H2 => wipe σ2 vs = σw ∧ tt σ2 H2 fun b H3 => if b = true then te σ2 H3 fun y H4 => D a y H4 (fun a' => Pv (i + 1) a' H4) else Pv (i + 1) a H3) (hd : ∀ a H, Pv n a H → T a H) :
    ∃ W : Nat → Nat → α → Hp → Prop, (∃ m, W 0 m a0 H2) ∧ TurnG J g tt te vs σw W T D := by
  refine ⟨fun i left a H => i + left = n ∧ Pv i a H, ⟨n, Nat.zero_add n, h0⟩, fun i left a H ⟨sum, pv⟩ => ?_⟩
  have good := hG i a H (by omega) pv
  cases left with
  | zero =>
    have last : i = n := sum
    subst last
    exact .inl ⟨w.stops H good, hd a H pv⟩
  | succ left =>
    have below : i < n := by omega
    exact .inr ⟨w.goes i H below good, Pv (i + 1), fun a' H' pv' => ⟨left, Nat.lt_succ_self _, by omega, pv'⟩, fun x H' y => hs i x a H H' below pv (w.yields i H x H' below good y)⟩
end
end GY

/-! rules of my own: letters for the written part, sorted of data -/
namespace BR
open PySem PySem.Spec PyProof.Rows L2
theorem room_gen {k : Nat} {A : Around} (hr : Room (k + 3) A) (env : Env) : Room k (A.in1.in1.deeper env) := ((hr.in1).in1).deeper env
section
variable {X : Cx}
theorem ix_tupK {K : PySem.W.Frag} (e : X.K = K) : IxR X (rIxT K) := by
  subst e
  exact ix_tup
theorem ix_lstK {K : PySem.W.Frag} (e : X.K = K) : IxR X (rIxL K) := by
  subst e
  exact ix_list
theorem pi_listK {tg l : Expr} {tl : TE} {K : PySem.W.Frag} (e : X.K = K) (hl : PE X l tl) : PI X tg l (iList K tl) := by
  subst e
  exact pi_list hl
theorem pa_starK {e : Expr} {es : List Expr} {te : TE} {t : TA} {p : Pos} {K : PySem.W.Frag} (eK : X.K = K) (he : PE X e te) (hr : PA X es t) (hs : starEach (.Starred e p :: es) X.env = (true, eval e X.env) :: starEach es X.env := by rfl) : PA X (.Starred e p :: es) (StX.tStar K te t) := by
  subst eK
  exact StX.pa_star he hr hs
theorem op_notInK {K : PySem.W.Frag} (e : X.K = K) : OpR X (compareOp .NotIn) (rIn K true) := by
  subst e
  exact op_notIn_seq
theorem pg_tupK {K : PySem.W.Frag} {es : List Expr} {k : Nat} {t : TGs} {n : Nat} {pos : Pos} (eK : X.K = K) (h : PG X (.Tuple es k pos) (gTup X.K n t)) : PG X (.Tuple es k pos) (gTup K n t) := by
  subst eK
  exact h
theorem sl_listK {K : PySem.W.Frag} {r : PySem.W.Frag → V → Option Int → Option Int → Hp → VK → Prop} (eK : X.K = K) (h : SlR X (r X.K)) : SlR X (r K) := by
  subst eK
  exact h
theorem mt_K {K : PySem.W.Frag} {id : String} {r : PySem.W.Frag → V → List V → Hp → VK → Prop} (eK : X.K = K) (h : MtR X id (r X.K)) : MtR X id (r K) := by
  subst eK
  exact h
theorem cr_K {K : PySem.W.Frag} {f : Value} {r : PySem.W.Frag → List V → Hp → VK → Prop} (eK : X.K = K) (h : CallR X f (r X.K)) : CallR X f (r K) := by
  subst eK
  exact h
/-! ### sorted(list of data) -/
abbrev VD := V × PyData
def sortD (bs : List VD) : List VD := bs.mergeSort (PySem.W.dataLe false (·.2))
def rSortedD (K : PySem.W.Frag) : List V → Hp → VK → Prop := fun vs H Q => ∃ (a : Addr) (bs : List VD), vs = [V.ref a] ∧ SqL K H a (bs.map (·.1)) ∧ (∀ b ∈ bs, Dp K H b.1 b.2 ∧ b.2.depth ≤ 60) ∧ PySem.W.AllAlike (bs.map (·.2)) ∧ PySem.W.Sortable (bs.map (·.2)) ∧
  ∀ p, H p = none → Q (.ref p) (upd H p (.lst ((sortD bs).map (·.1))))
theorem each_of_vals : ∀ {bs : List VD} {us : List Value}, Vals (bs.map (·.1)) us → PySem.W.EachIs (fun v (b : VD) => RelV b.1 v) us bs
  | [], _, r => by
    cases r
    exact .nil
  | b :: bs, _, r => by
    cases r with
    | cons h t => exact .cons h (each_of_vals t)
theorem vals_of_each : ∀ {bs : List VD} {us : List Value}, PySem.W.EachIs (fun v (b : VD) => RelV b.1 v) us bs → Vals (bs.map (·.1)) us
  | _, _, .nil => .nil
  | _, _, .cons h t => .cons h (vals_of_each t)
theorem cr_sortedD (hu : X.A.units + 64 < cLine) : CallR X (.builtin "sorted") (rSortedD X.K) := by
  intro pins s σ H vs us Q I r h
  obtain ⟨a, bs, rfl, hs, hd, hal, hso, q⟩ := h
  obtain ⟨its, rv, hl, hz⟩ := I.list hs
  obtain ⟨u, rfl, ru⟩ := vals1 r
  obtain rfl : u = Value.ref a := ru
  have e := each_of_vals rv
  have er : PySem.W.EachIs (fun v (b : VD) => ∃ as, Reads s.heap v b.2 as) its bs := (PySem.W.each_mem e).mono fun v b ⟨r, hb⟩ => Dp.reads I b.2 b.1 v (hd b hb).1 r
  refine PySem.W.sorted_data (R := fun v (b : VD) => RelV b.1 v) (enc := (·.2)) hl.isList e er hal hso (by rw [List.length_map] at hz; exact hz) (fun b hb => by have := (hd b hb).2; omega) fun out hlen eo => ?_
  obtain ⟨n, hn⟩ := sortedAll_at s.heap its out.toArray
  refine ⟨.ref (s.heap.objs.size + 1), upd H (s.heap.objs.size + 1) (.lst ((sortD bs).map (·.1))), I.laid (t' := s.toks) (fun _ _ => sortedAll_old) (Nat.le_succ _) ⟨?_, out, n, vals_of_each eo, ?_⟩, rfl, q _ (I.hok.fresh (Nat.le_succ _))⟩
  · rw [List.length_map]
    show (List.mergeSort bs _).length ≤ _
    rw [List.length_mergeSort]
    rw [List.length_map] at hz
    exact hz
  · exact hn
end
end BR
namespace Bn
open PySem PySem.Spec PyProof.Rows L2 BR GX
theorem _root_.GX.SameN.new {Ps : List Addr} {H H' : Hp} {p : Addr} {o : HO} (s : SameN Ps H H') (n : H' p = none) : SameN Ps H (upd H' p o) := s.trans (SameN.of s.t (same_new n))
theorem _root_.GX.SameN.own {Ps : List Addr} {H H' : Hp} {p : Addr} {o u : HO} (s : SameN Ps H H') (n : H p = none) (e : H' p = some u) (hu : NT u) : SameN Ps H (upd H' p o) := by
  refine ⟨fun x y nt h => ?_, fun x q h => ?_, fun P hP => ?_⟩
  · rw [upd_ne (ne_of_none h n)]
    exact s.k _ _ nt h
  · rw [upd_ne (ne_of_none h n)]
    exact s.q _ _ h
  · obtain ⟨ps, h1, h2⟩ := s.t P hP
    refine ⟨ps, ?_, h2⟩
    rw [upd_ne (ne_of h1 e fun z => hu ps (by rw [← z]))]
    exact h1
theorem _root_.GX.SameN.kb {Ps : List Addr} {b : Addr} {H0 H H' : Hp} (s : SameN Ps H0 H) (nb : H0 b = none) (hb : Bx H b) (k : Kb b H H') : SameN Ps H0 H' := by
  refine ⟨fun x y n e => k.k _ _ (ne_of_none e nb) (s.k x y n e), fun x p e => ?_, fun P hP => ?_⟩
  · obtain ⟨p', e'⟩ := s.q x p e
    exact ⟨p', k.k _ _ (ne_of_none e nb) e'⟩
  · obtain ⟨ps, e, h⟩ := s.t P hP
    exact ⟨ps, k.k _ _ (ne_bx hb e (fun _ _ _ z => by cases z)) e, h⟩
theorem _root_.GX.SameN.same {Ps : List Addr} {H0 H H' : Hp} (s : SameN Ps H0 H) (k : Same H H') : SameN Ps H0 H' := s.trans (SameN.of s.t k)
theorem rd_sameN {Ps : List Addr} {H H' : Hp} {a : Addr} {v : HO} (h : Rd H a v) (hv : NT v) (s : SameN Ps H H') : Rd H' a v := by
  rcases h with e | ⟨o, e⟩
  · exact .inl (s.k _ _ hv e)
  · exact .inr ⟨o, s.k _ _ nt_frz e⟩
theorem Same.unlock {H HX : Hp} {a : Addr} {u : HO} {o : Obj} (ha : H a = some u) (s : Same (upd H a (.frz o u)) HX) : Same H (upd HX a u) := fun x y e => by
  by_cases c : x = a
  · subst c
    rw [upd_same, ← ha]
    exact e
  · rw [upd_ne c]
    exact s _ _ (by rw [upd_ne c]; exact e)
end Bn

/-! enumerate(tuple) walked -/
namespace PySem
open PySem.Calls
theorem my_enumNew {v : Value} {o : Obj} {H : Heap → Prop} (B : Begins v o H) :
    Meets (Builtin.«enumerate.__new__» ⟨[.type "enumerate", v], []⟩) (fun _ R s => H s.heap ∧
      R (.ok (.ret (.ref (s.heap.push o).objs.size))) { s with heap := (s.heap.push o).push { cls := .type "enumerate", data := .fields #[.none, .bool false, .ref s.heap.objs.size, rawInt 0, .none, .none] } }) :=
  .of_wp fun prog w A R s h => by
    obtain ⟨hp, g, d, tk, os⟩ := s
    obtain ⟨at0, h⟩ := h
    have subE := sub_enumerate
    have goI : ∀ {A' : Around} {E : Value → Shared → Prop} {Q : Value → Shared → Prop}, Q (.ref hp.objs.size) ⟨hp.push o, g, d, tk, os⟩ → wpAny (model prog w) A' (pyIter v) Q E ⟨hp, g, d, tk, os⟩ :=
      fun q => B.iter prog w _ _ ⟨hp, g, d, tk, os⟩ _ at0 q
    wp_walk using goI
    refine wpAny_stack_any fun st => wpAny_pure ?_
    split
    · rename_i c _ _ _ _ _
      cases (c == Value.type "enumerate")
      · wp_walk using goI
        exact ⟨_, rfl, h⟩
      · wp_walk using goI
        exact ⟨_, rfl, h⟩
    · wp_walk using goI
      exact ⟨_, rfl, h⟩
theorem my_enumCall {prog : Program} {w : World} {A : Around} {E : Value → Shared → Prop} {s : Shared} {v : Value} {o : Obj} {H : Heap → Prop} {Q : Value → Shared → Prop} (B : Begins v o H) (at0 : H s.heap)
    (h : ∀ h', IsEnum h' (s.heap.objs.size + 1) s.heap.objs.size 0 .none → h'.get? s.heap.objs.size = some o →
      (∀ b o, s.heap.get? b = some o → h'.get? b = some o) → Q (.ref (s.heap.objs.size + 1)) { s with heap := h' }) :
    wpAny (model prog w) A (call (.type "enumerate") [v]) Q E s := by
  refine callType_new F.called_enumerate (by decide) (F.typeCall_enumerate_1 _) (F.newCall_enumerate_1 _) (fun obj => F.args_object_init_2 obj _) F.entry_enumerate_new
    (my_enumNew B) ⟨at0, ?_⟩
  have zs : (s.heap.push o).objs.size = s.heap.objs.size + 1 := Heap.size_push ..
  show _ ∧ _
  rw [zs]
  have isE : IsEnum ((s.heap.push o).push { cls := .type "enumerate", data := .fields #[.none, .bool false, .ref s.heap.objs.size, rawInt 0, .none, .none] }) (s.heap.objs.size + 1) s.heap.objs.size 0 .none := by
    have := Heap.get?_push_size (s.heap.push o) (o := { cls := .type "enumerate", data := .fields #[.none, .bool false, .ref s.heap.objs.size, rawInt 0, .none, .none] }) rfl
    rw [zs] at this
    exact this
  exact ⟨⟨_, isE, rfl⟩, h _ isE (Heap.get?_push_of_some _ (Heap.get?_push_size _ B.free)) fun b o x => Heap.get?_push_of_some _ (Heap.get?_push_of_some _ x)⟩
end PySem
namespace RM
open PySem PySem.Spec PyProof.Rows L2
/-- a tuple at a, its items in fits pairs with their numbers -/
def IteT (K : PySem.W.Frag) (a : Addr) (xs : List V) : It where
  go := fun i H => SqT K H a xs ∧ i < xs.length
  yld := fun i H v H' => ∃ T x, v = .ref T ∧ H T = none ∧ H' = upd H T (.tup [.int (i : Nat), x]) ∧ xs[i]? = some x
  stop := fun i H => SqT K H a xs ∧ i = xs.length
theorem turn_enumT {P : Program} {w : World} {K : PySem.W.Frag} {elts : List Expr} {kk : Nat} {tpos : Pos} {a e it : Addr} {xs : List V} (na : a ≠ it) (nae : e ≠ a) :
    Turn P w K (.Tuple elts kk tpos) (IteT K a xs) [e, it] e (fun i h => (∃ was, IsEnum h e it ((i : Nat) : Int) was) ∧ h.IsTupleIter it a i ∧ e ≠ it) where
  mem := by simp
  obj := fun i h st b inB => by
    obtain ⟨⟨was, isE⟩, ⟨o, outE, calm, hd⟩, _⟩ := st
    have two : b = e ∨ b = it := by simpa using inB
    rcases two with z | z
    · rw [z]; exact ⟨_, isE, fun v q => nomatch q⟩
    · rw [z]; exact ⟨o, outE, fun v q => by rw [hd] at q; cases q⟩
  keep := fun i h h' st k => let ⟨⟨was, isE⟩, hi, apart⟩ := st; ⟨⟨was, k e (by simp) _ isE⟩, hi.at fun o q => k it (by simp) o q, apart⟩
  item := by
    intro X eP eW eK calm i pins s σ H E J foot st stands
    subst eP eW eK
    obtain ⟨⟨was, isE⟩, isI, apart⟩ := st
    obtain ⟨qt, hlt⟩ := stands
    obtain ⟨its, rels, p, szl⟩ := J.tuple qt
    have getX : xs[i]? = some xs[i] := List.getElem?_eq_getElem hlt
    obtain ⟨u, getU, relU⟩ := rels.get getX
    have ltE : e < s.heap.objs.size := Heap.lt_size isE
    have ltI : it < s.heap.objs.size := by obtain ⟨_, q, _⟩ := isI; exact Heap.lt_size q
    have hnd : X.A.in1.handled = none := J.ok.hd calm
    have ltU : i < its.toArray.size := by rw [List.size_toArray, ← rels.length]; exact hlt
    refine wpAny_pyNext_enum_itemD (Draws.tuple hnd it a na its.toArray) isE ⟨isI, p⟩ ltU apart (fun z => by
      have two : e = it ∨ e = a := by simpa using z
      rcases two with z | z
      · exact apart z
      · exact nae z) fun v h' tk hv outE hst' pair1 szN same1 => ?_
    have hv2 : its[i]? = some v := by simpa using hv
    rw [getU] at hv2
    cases hv2
    refine ⟨_, rfl, wpAny_letOwnedTupleGo_enum (s := { s with heap := h', toks := tk + 1 }) outE fun hq2 he' sbut => ?_⟩
    have pairAt : hq2.get? s.heap.objs.size = some { cls := .type "tuple", data := .seq #[.int i tk, u] } := (sbut.2 _ (Nat.ne_of_gt ltE)).trans pair1
    have fits : ObjOk X.prog X.w (upd H s.heap.objs.size (.tup [.int (i : Nat), xs[i]])) hq2 s.heap.objs.size (.tup [.int (i : Nat), xs[i]]) :=
      ⟨by show 2 ≤ sizeLine; decide, [.int i tk, u], .cons ⟨_, rfl⟩ (.cons relU .nil), ⟨_, pairAt, rfl, _, rfl⟩⟩
    have J1 : Inv X pins σ (upd H s.heap.objs.size (.tup [.int (i : Nat), xs[i]])) { s with heap := hq2, toks := tk + 1 } :=
      J.turnedNew (ch := [e, it]) (fun b ob inB q => (sbut.2 b (fun z => inB (by simp [z]))).trans (same1 b ob (fun z => inB (by simp [z])) (fun z => inB (by simp [z])) q)) foot (Nat.le_refl _) fits
    refine ⟨.ref s.heap.objs.size, _, J1, rfl, ⟨_, xs[i], rfl, J.hok.fresh (Nat.le_refl _), rfl, getX⟩, ⟨⟨u, ?_⟩, hst'.1.at fun o q => (sbut.2 it (Ne.symm apart)).trans q, apart⟩, fun b inB => ?_⟩
    · have e1 : ((i + 1 : Nat) : Int) = (i : Int) + 1 := by omega
      rw [e1]; exact he'
    · have ltB : b < s.heap.objs.size := by
        have two : b = e ∨ b = it := by simpa using inB
        rcases two with z | z
        · rw [z]; exact ltE
        · rw [z]; exact ltI
      rw [upd_ne (Nat.ne_of_lt ltB)]
      exact (foot b inB).1
  done := by
    intro X eP eW eK calm i pins s σ H E J foot st stands
    subst eP eW eK
    obtain ⟨⟨was, isE⟩, isI, apart⟩ := st
    obtain ⟨qt, getX⟩ := stands
    obtain ⟨its, rels, p, szl⟩ := J.tuple qt
    obtain ⟨g0, g1, g2, g3, g4, g5⟩ := foot it (by simp)
    have hnd : X.A.in1.handled = none := J.ok.hd calm
    have many : its.toArray.size = xs.length := by rw [List.size_toArray, ← rels.length]
    subst getX
    refine wpAny_pyNext_enum_endD (Draws.tuple hnd it a na its.toArray) isE ⟨by rw [many]; exact isI, p⟩ fun h' eb => ⟨rfl, J.turned (t' := s.toks) (fun b o inB q => eb b o inB q) g0 g1 g3 g4 g5⟩
  self := fun A i s Q E st h => let ⟨⟨_, isE⟩, _⟩ := st; wpAny_pyIter_enum isE h
def iEnumT (K : PySem.W.Frag) (ta : TA) : TI := fun σ H R => ta σ H fun vs H1 => ∃ a xs, vs = [.ref a] ∧ SqT K H1 a xs ∧ R (IteT K a xs) H1
theorem pi_enumT {X : Cx} {e : Expr} {ta : TA} {p pos tpos : Pos} {elts : List Expr} {kk : Nat} (stands : Gl X "enumerate") (own1 : X.mg "enumerate" = none) (pArgs : PA X [e] ta) (stars : starEach [e] X.env = [(false, eval e X.env)] := by rfl) :
    PI X (.Tuple elts kk tpos) (.Call (.Name "enumerate" p) [e] [] pos) (iEnumT X.K ta) := by
  refine ⟨fun pins s σ H R J h => ?_⟩
  refine Call_ (ld_blt J stands own1 boot_enumerate (PyProof.Rows.callWith_type1 (thn (pArgs.run pos pins s σ H _ J h) fun us s1 ⟨vs, H1, J1, rel1, want1⟩ => ?_) stars rfl))
  obtain ⟨a, xs, eV, qt, q⟩ := want1
  subst eV
  cases rel1 with
  | cons r rr =>
    cases rr
    cases r
    obtain ⟨its, rels, isT, szl⟩ := J1.tuple qt
    have la : a < s1.heap.objs.size := Heap.lt_size isT.choose_spec.1
    refine my_enumCall (begins_tuple a its.toArray) isT fun h' isE isI same1 => wpAny_pyIter_enum isE ?_
    have J2 : Inv X pins σ H1 { s1 with heap := h' } := J1.kept (t' := s1.toks) same1
    refine ⟨s1.heap.objs.size + 1, [s1.heap.objs.size + 1, s1.heap.objs.size], _, _, H1, rfl, J2, turn_enumT (Nat.ne_of_lt la) (Nat.ne_of_gt (Nat.lt_succ_of_lt la)), ⟨⟨.none, isE⟩, ⟨_, isI, rfl, rfl⟩, Nat.succ_ne_self _⟩, fun b inB => ?_, q⟩
    have two : b = s1.heap.objs.size + 1 ∨ b = s1.heap.objs.size := by simpa using inB
    have hle : s1.heap.objs.size ≤ b := by
      rcases two with z | z
      · rw [z]; exact Nat.le_add_right _ _
      · rw [z]; exact Nat.le_refl _
    exact J1.fpOk hle (J1.hok.fresh hle)
theorem walk_enumT {K : PySem.W.Frag} {a : Addr} {xs : List V} : Walk (IteT K a xs) xs.length (fun H => SqT K H a xs) (YPair (fun i => some (.int (i : Nat))) (fun i => xs[i]?)) :=
  ⟨fun i H hi q => ⟨q, hi⟩, fun H q => ⟨q, rfl⟩, fun i H v H' _ q ⟨T, x, h1, h2, h3, h4⟩ => ⟨T, .int (i : Nat), x, h1, h2, h3, rfl, h4⟩⟩
end RM

/-! == of nested lists, tuples and dicts that are equal -/
namespace PySem.SeqAt
open AutoSeq1 (wpAny_loadPart')
open MeetsSeq MeetsSeq2 MeetsSeq3 SeqRoads2
section
variable {prog : Program} {w : World}
theorem my_tupEq (l b : Addr) (ul vs : Array Value) (n m : Nat) (du dv : Option Addr) (su sv : Array (Option Value)) (hz : ul.size = vs.size) :
    MeetsIn prog w (Builtin.«tuple.__eq__» ⟨[.ref l, .ref b], []⟩) (fun A R s =>
      s.heap.get? l = some { cls := .type "tuple", dict := du, data := .seq ul n, slots := su } ∧ s.heap.get? b = some { cls := .type "tuple", dict := dv, data := .seq vs m, slots := sv } ∧
      (∀ j (p : j < ul.size) (q : j < vs.size), EqP prog w A.in1 s ul[j] vs[j] true) ∧ R (.ok (.ret (.bool true))) s) := by
  intro A R s h
  obtain ⟨pr, g, d, tk, os⟩ := s
  obtain ⟨isL, isB, eqs, h⟩ := h
  have sub2 := AutoSeq1.sub_tuple_tuple
  have zl : (ul.toList.zip vs.toList).length = ul.size := by simp [hz]
  wp_walk using wpAny_loadPart' isL, wpAny_loadPart' isB, wpAny_forIn_list _ (fun rest b s' => b.1 = none ∧ s' = ⟨pr, g, d, tk, os⟩ ∧ ∃ i, rest = (ul.toList.zip vs.toList).drop i) _
  case turn =>
    rintro ⟨y, x⟩ rest b s' ⟨hb', rfl, i, left⟩
    have ltZ : i < (ul.toList.zip vs.toList).length := by
      rcases Nat.lt_or_ge i (ul.toList.zip vs.toList).length with h' | h'
      · exact h'
      · rw [List.drop_of_length_le h'] at left
        cases left
    have h1 : i < ul.size := by rw [← zl]; exact ltZ
    have h2 : i < vs.size := by rw [← hz]; exact h1
    rw [List.drop_eq_getElem_cons ltZ] at left
    injection left with two more
    have eY : y = ul[i] := by have := congrArg Prod.fst two; simpa using this
    have eX : x = vs[i] := by have := congrArg Prod.snd two; simpa using this
    subst eY eX
    refine wpAny_bind (eqs i h1 h2 _ _ ?_)
    wp_walk
    exact ⟨rfl, rfl, i + 1, more⟩
  case fin =>
    rintro ⟨b1, b2⟩ s' ⟨hb', rfl, i, left⟩
    simp only at hb'
    subst hb'
    wp_walk
    simpa [Builtin.Tuple.tupleCompareSizes, hz] using h
  case h => exact ⟨rfl, rfl, 0, rfl⟩
theorem my_rcTup {A : Around} {s : Shared} {l b : Addr} {ul vs : Array Value} (isL : s.heap.IsTuple l ul) (isB : s.heap.IsTuple b vs) (hz : ul.size = vs.size) (hu : A.units < cLine)
    (eqs : ∀ j (p : j < ul.size) (q : j < vs.size), EqP prog w A.in1 s ul[j] vs[j] true) (E Q : Value → Shared → Prop) (h : Q (.bool true) s) : wpAny (model prog w) A (richCompare .Eq (.ref l) (.ref b)) Q E s := by
  obtain ⟨⟨c1, du, x1, su⟩, atL, cL, n, dL⟩ := id isL
  obtain ⟨⟨c2, dv, x2, sv⟩, atB, cB, m, dB⟩ := id isB
  simp only at cL dL cB dB
  subst cL dL cB dB
  have tyL : s.TypeIs (.ref l) "tuple" := ⟨_, atL, rfl⟩
  have tyB : s.TypeIs (.ref b) "tuple" := ⟨_, atB, rfl⟩
  exact wpAny_richCompare_same_room (op := .Eq) tyL tyB F.slot_tuple_eq (call_meetsIn F.slot_tuple_eq tyL F.entry_tuple_eq (F.args_tuple_eq_2 _ _) (my_tupEq l b ul vs n m du dv su sv hz)
    ⟨atL, atB, eqs, show Value.bool true ≠ Value.notImplemented ∧ Q (.bool true) s from ⟨(fun x => nomatch x), h⟩⟩) hu
end
end PySem.SeqAt
namespace RM
open PySem PySem.Spec PyProof.Rows L2
/-- two lists, two tuples of equal items; two dicts of the same keys, their values equal -/
def EqS (K : PySem.W.Frag) (H : Hp) (E : V → V → Prop) (x y : V) : Prop := EqR K H E x y ∨ ∃ a b xs ys, x = .ref a ∧ y = .ref b ∧ SqT K H a xs ∧ SqT K H b ys ∧ Paired E xs ys
def EqN (K : PySem.W.Frag) (H : Hp) : Nat → V → V → Prop
  | 0 => fun _ _ => False
  | n + 1 => fun x y => (x = y ∧ flatB x = true) ∨ (∃ a, x = .ref a ∧ y = .ref a) ∨ EqS K H (EqN K H n) x y
section
variable {X : Cx} {pins : List (Addr × Obj)} {σ : L2.St} {H : Hp} {s : Shared}
theorem eqS_run (I : Inv X pins σ H s) {A : Around} {F : V → V → Prop} (hu : A.units < cLine) (below : ∀ x y v u, F x y → RelV x v → RelV y u → SeqAt.EqP X.prog X.w A.in1 s v u true) {x y : V} {v u : Value} (h : EqS X.K H F x y) (rx : RelV x v) (ry : RelV y u)
    (E Q : Value → Shared → Prop) (q : Q (.bool true) s) : wpAny (model X.prog X.w) A (richCompare .Eq v u) Q E s := by
  rcases h with h | ⟨a, b, xs, ys, rfl, rfl, ha, isB, pr⟩
  · exact eqR_run I hu below h rx ry E Q q
  · cases (show v = Value.ref a from rx)
    cases (show u = Value.ref b from ry)
    obtain ⟨ul, relX, tupX, _⟩ := I.tuple ha
    obtain ⟨wl, relY, tupY, _⟩ := I.tuple isB
    have sizes : ul.toArray.size = wl.toArray.size := by
      rw [List.size_toArray, List.size_toArray, ← relX.length, ← relY.length]
      exact Paired.length pr
    refine SeqAt.my_rcTup tupX tupY sizes hu (fun j h1 h2 => ?_) E Q q
    have k := items_run below pr relX relY j (by simpa using h1) (by simpa using h2)
    simpa using k
theorem eqN_run (I : Inv X pins σ H s) : ∀ (n : Nat) (A : Around), A.units + n < cLine → ∀ (x y : V) (v u : Value), EqN X.K H n x y → RelV x v → RelV y u → SeqAt.EqP X.prog X.w A s v u true
  | 0, _, _, _, _, _, _, h, _, _ => (show False from h).elim
  | n + 1, A, hu, x, y, v, u, h, rx, ry => by
    rcases h with ⟨rfl, f⟩ | ⟨a, rfl, rfl⟩ | h
    · exact (eqAt_same rx ry f).eqP
    · cases (show v = Value.ref a from rx)
      cases (show u = Value.ref a from ry)
      exact (SeqAt.EqAt.same _).eqP
    · have stp := eqS_run I (A := A) (by omega) (eqN_run I n A.in1 (by show A.units + 1 + n < cLine; omega)) h rx ry
      obtain ⟨a, b, rfl, rfl⟩ : ∃ a b, x = .ref a ∧ y = .ref b := by
        rcases h with (⟨a, b, _, _, e1, e2, _⟩ | ⟨a, b, _, _, e1, e2, _⟩) | ⟨a, b, _, _, e1, e2, _⟩
        · exact ⟨a, b, e1, e2⟩
        · exact ⟨a, b, e1, e2⟩
        · exact ⟨a, b, e1, e2⟩
      cases (show v = Value.ref a from rx)
      cases (show u = Value.ref b from ry)
      by_cases e : a = b
      · subst e
        exact (SeqAt.EqAt.same _).eqP
      · exact SeqAt.eqP_refs e stp
end
section
variable {X : Cx}
/-- a == b, two lists, tuples or dicts that are equal -/
def rEqN (K : PySem.W.Frag) : R2 := fun x y H Q => ∃ n, n ≤ 60 ∧ EqS K H (EqN K H n) x y ∧ Q (.bl true) H
theorem op_eqN (hu : X.A.units + 64 < cLine) : OpR X (compareOp .Eq) (rEqN X.K) := by
  intro pins s σ H x y v u Q I rx ry h
  obtain ⟨n, hn, h, q⟩ := h
  exact eqS_run I (A := X.A) (by omega) (eqN_run I n X.A.in1 (by show X.A.units + 1 + n < cLine; omega)) h rx ry _ _ ⟨.bl true, H, I, rfl, q⟩
end
end RM

/-! sorted of whatever can be gathered, its items being data -/
namespace BR
open PySem PySem.Spec PyProof.Rows L2
theorem my_sorted {prog : Program} {w : World} {A : Around} {E : Value → Shared → Prop} {s : Shared} {v : Value} {Q : Value → Shared → Prop}
    (got : wpAny (model prog w) A.in1 (collect v) (fun us s1 => ∃ bs : List VD, PySem.W.EachIs (fun v (b : VD) => RelV b.1 v) us bs ∧ PySem.W.EachIs (fun v (b : VD) => ∃ as, Reads s1.heap v b.2 as) us bs ∧ PySem.W.AllAlike (bs.map (·.2)) ∧ PySem.W.Sortable (bs.map (·.2)) ∧ bs.length ≤ sizeLine ∧
      (∀ b ∈ bs, A.units + 2 + b.2.depth < cLine) ∧ ∀ out h' n, PySem.W.EachIs (fun v (b : VD) => RelV b.1 v) out (sortD bs) → (∀ b o, s1.heap.get? b = some o → h'.get? b = some o) → h'.get? s1.heap.objs.size = some (seqObj "list" out.toArray n) → Q (.ref s1.heap.objs.size) { s1 with heap := h' }) E s) :
    wpAny (model prog w) A (call (.builtin "sorted") [v]) Q E s := by
  refine call_function_entry_kw kind_sorted plain_sorted entry_sorted (args_sorted1 _) ?_
  unfold Builtin.«sorted»
  refine wpAny_bind (m := checkCount "sorted" 1 1 _) (wpAny_pure ?_)
  refine wpAny_bind (wpAny_mono got (fun us s1 h1 => ?_) fun _ _ e => e)
  obtain ⟨bs, e1, e2, hal, hso, hL, hu, q⟩ := h1
  have hlen : us.length ≤ sizeLine := by rw [e1.length]; exact hL
  refine wpAny_bind (wpAny_newList ?_ hlen)
  have at1 : (s1.heap.push (seqObj "list" us.toArray 0)).get? s1.heap.objs.size = some (seqObj "list" us.toArray 0) := Heap.get?_push_size _ rfl
  have old1 : ∀ b o, s1.heap.get? b = some o → (s1.heap.push (seqObj "list" us.toArray 0)).get? b = some o := fun b o e => Heap.get?_push_of_some _ e
  refine wpAny_bind (wpAny_holding (wpAny_call_entry_kw slot_list_sort ⟨_, at1, rfl⟩ entry_list_sort ?_ (args_list_sort _)))
  have er' : PySem.W.EachIs (fun v (b : VD) => ∃ as, Reads (PySem.W.sortingHeap (s1.heap.push (seqObj "list" us.toArray 0)) s1.heap.objs.size us) v b.2 as) us bs := e2.mono fun _ _ ⟨as, r⟩ => ⟨as, PyProof.Rows.Reads.keeps (fun b o h => PySem.W.sortingHeap_old (Nat.ne_of_lt (Heap.lt_size h)) (old1 b o h)) r⟩
  refine PySem.W.list_sort_vals (κ := PySem.W.dataKind (PySem.W.sortingHeap (s1.heap.push (seqObj "list" us.toArray 0)) s1.heap.objs.size us) (bs.map (·.2))) (A := A.in1.in1) at1 (PySem.W.SortsAt.data (s := { s1 with heap := PySem.W.sortingHeap (s1.heap.push (seqObj "list" us.toArray 0)) s1.heap.objs.size us }) (PySem.W.each_map (R := fun v d => ∃ as, Reads (PySem.W.sortingHeap (s1.heap.push (seqObj "list" us.toArray 0)) s1.heap.objs.size us) v d as) (fun b : VD => b.2) er') hal hso ?_) hlen ?_
  · intro d hd
    obtain ⟨b, hb, rfl⟩ := List.mem_map.mp hd
    exact hu b hb
  · obtain ⟨n, hn⟩ := sortedHeap_at (out := (PySem.W.sortVals (PySem.W.dataKind (PySem.W.sortingHeap (s1.heap.push (seqObj "list" us.toArray 0)) s1.heap.objs.size us) (bs.map (·.2))) false us us).toArray) at1
    refine ⟨_, rfl, wpAny_pure ⟨_, rfl, ?_⟩⟩
    refine q (PySem.W.sortVals (PySem.W.dataKind (PySem.W.sortingHeap (s1.heap.push (seqObj "list" us.toArray 0)) s1.heap.objs.size us) (bs.map (·.2))) false us us) _ n (PySem.W.sortVals_data (enc := fun b : VD => b.2) false e1 er' hal) (fun b o h => ?_) hn
    exact (sortedHeap_old (Nat.ne_of_lt (Heap.lt_size h)) (Heap.lt_size (old1 b o h))).trans (old1 b o h)
section
variable {X : Cx}
/-- sorted(x), x a list or a tuple of data -/
def rSortedDT (K : PySem.W.Frag) : List V → Hp → VK → Prop := fun vs H Q => ∃ (a : Addr) (bs : List VD), vs = [V.ref a] ∧ (SqL K H a (bs.map (·.1)) ∨ SqT K H a (bs.map (·.1))) ∧ (∀ b ∈ bs, Dp K H b.1 b.2 ∧ b.2.depth ≤ 60) ∧ PySem.W.AllAlike (bs.map (·.2)) ∧ PySem.W.Sortable (bs.map (·.2)) ∧
  ∀ p, H p = none → Q (.ref p) (upd H p (.lst ((sortD bs).map (·.1))))
theorem cr_sortedDT (hu : X.A.units + 64 < cLine) : CallR X (.builtin "sorted") (rSortedDT X.K) := by
  intro pins s σ H vs us Q I r h
  obtain ⟨a, bs, rfl, hs, hd, hal, hso, q⟩ := h
  obtain ⟨u, rfl, ru⟩ := vals1 r
  obtain rfl : u = Value.ref a := ru
  have key : ∀ (T : String) (its : List Value) (o : Obj) (n : Nat), (T = "list" ∨ T = "tuple") → Vals (bs.map (·.1)) its → s.heap.get? a = some o → o.cls = .type T → o.data = .seq its.toArray n → (bs.map (·.1)).length ≤ sizeLine → wpAny (model X.prog X.w) X.A (call (.builtin "sorted") [Value.ref a]) (EP X pins σ Q) X.xe s := by
    intro T its o n hT rv ho hc hdd hz
    have hl := rv.length
    refine my_sorted (wpAny_collect_seq a hT ho hc hdd (fun h' hk => ?_) (by rw [List.size_toArray]; omega))
    have e : its.toArray.toList = its := by simp
    rw [e]
    have J : Inv X pins σ H { s with heap := h' } := I.kept (t' := s.toks) hk
    have e1 := each_of_vals rv
    refine ⟨bs, e1, (PySem.W.each_mem e1).mono fun v b ⟨r, hb⟩ => Dp.reads J b.2 b.1 v (hd b hb).1 r, hal, hso, by rw [List.length_map] at hz; exact hz, fun b hb => by have := (hd b hb).2; omega, fun out h2 n2 eo k2 hn => ?_⟩
    refine ⟨.ref h'.objs.size, upd H h'.objs.size (.lst ((sortD bs).map (·.1))), J.laid (t' := s.toks) k2 (Nat.le_refl _) ⟨?_, out, n2, vals_of_each eo, hn⟩, rfl, q _ (J.hok.fresh (Nat.le_refl _))⟩
    rw [List.length_map]
    show (List.mergeSort bs _).length ≤ _
    rw [List.length_mergeSort]
    rw [List.length_map] at hz
    exact hz
  rcases hs with hs | hs
  · obtain ⟨its, rv, pl, hz⟩ := I.list hs
    obtain ⟨o, ho, hc, n, hdd⟩ := pl.isList
    exact key "list" its o n (.inl rfl) rv ho hc hdd hz
  · obtain ⟨its, rv, pl, hz⟩ := I.tuple hs
    obtain ⟨o, ho, hc, n, hdd⟩ := pl
    exact key "tuple" its o n (.inr rfl) rv ho hc hdd hz
end
end BR

/-! sorted(d.items()), d a dict from texts to texts; data of tuples alone -/
namespace BR
open PySem PySem.Spec PyProof.Rows L2 LiI
section
variable {X : Cx} {e : Expr} {te : TE} {p apos cpos pos : Pos}
theorem tups_laid {pins : List (Addr × Obj)} {σ : L2.St} {H : Hp} {s : Shared} {h' : Heap} {tk : Nat} {kvs : List (Key × V)} {vs : List (Key × Value)} {as : List Addr} (J : Inv X pins σ H s) (kv : KV kvs vs) (up : ∀ b o, s.heap.get? b = some o → h'.get? b = some o) (many : as.length = vs.length) (G : PySem.W.KdxG (mixKind X.prog X.w) vs s.heap.objs.size h' as) :
    ∃ H' : Hp, (∀ b o, H b = some o → H' b = some o) ∧ (∀ t ∈ as, H t = none) ∧ Paired (fun (t : Addr) (q : Key × V) => H' t = some (.tup [kV q.1, q.2])) as kvs ∧ Inv X pins σ H' { s with heap := h', toks := tk } := by
  have lk : kvs.length = vs.length := Paired.length kv
  have nod : as.Nodup := List.Pairwise.imp (fun {a b} (h : a < b) => Nat.ne_of_lt h) G.rise
  have young : ∀ t ∈ as, H t = none := fun t ht => J.hok.fresh (Nat.le_of_lt (G.above t ht))
  have here := putT_at as kvs H (by omega) nod
  have away : ∀ b, b ∉ as → putT H as kvs b = H b := fun b h1 => putT_off as kvs _ h1
  have stay : ∀ b u, H b = some u → putT H as kvs b = some u := fun b u e => by
    rw [away b fun z => by rw [young b z] at e; cases e]
    exact e
  refine ⟨putT H as kvs, stay, young, here, ?_⟩
  refine J.call' (ch := []) rfl ⟨fun b o q _ _ _ => up b o q, fun b o q _ _ _ => ⟨o.slots, up b o q⟩, fun b o q n _ => ?_, fun b o q _ => ⟨o, up b o q⟩, fun b xs q => stay b _ q, fun b o u q => stay b _ q, fun b ps q => ⟨#[], by rw [stay b _ q]; simp⟩⟩ (fun b u q => ?_) J.bare fun b z => by simp at z
  · rw [away b fun z => absurd (Heap.lt_size q) (Nat.not_lt.mpr (Nat.le_of_lt (G.above b z)))]
    exact n
  · by_cases inAs : b ∈ as
    · obtain ⟨j, pk, e1, e2, e3⟩ := paired_ix here inAs
      rw [e3] at q
      cases q
      obtain ⟨key, k, x, f1, f2, f3⟩ := G.pairs j b e1
      obtain ⟨qv, g1, g2, g3⟩ := LiI.paired_get kv e2
      rw [f1] at g1
      cases g1
      have rk : RelV (kV pk.1) key := by
        rw [g2]
        exact relV_key (show keyIs k key = true from f2)
      exact ⟨by show 2 ≤ sizeLine; decide, [key, x], .cons rk (.cons g3 .nil), ⟨_, f3, rfl, _, rfl⟩⟩
    · rw [away b inAs] at q
      exact (J.hok b u q).stay (fun d v _ y => up d v y) (fun d y => stay d _ y) fun d xs y => stay d _ y
abbrev SS := List (Str × Str)
abbrev kvSS (ms : SS) : List (Key × V) := ms.map fun m => (.inr m.1, .str m.2)
abbrev Tss (H : Hp) (ts : List Addr) (ms : SS) : Prop := Paired (fun t m => H t = some (.tup [.str (m : Str × Str).1, .str m.2])) ts ms
def tSortedItems (te : TE) : TE := fun σ H Q => te σ H fun x H1 => ∃ (d : Addr) (ms : SS), x = .ref d ∧ H1 d = some (.dK (kvSS ms)) ∧
  ∀ (H' : Hp) (p : Addr) (ts : List Addr) (ms' : SS), (∀ b o, H1 b = some o → H' b = some o) → H1 p = none → H' p = some (.lst (ts.map V.ref)) → Tss H' ts ms' → ms'.Perm ms → Q (.ref p) H'
theorem alike_ss (a b : Str × Str) : PySem.W.alike (.tuple [.str a.1, .str a.2]) (.tuple [.str b.1, .str b.2]) = true := rfl
theorem pe_sortedItems (hr : X.A.units + 64 < cLine) (hc : X.calm = true) (he : PE X e te) (hg : Gl X "sorted") (hm : X.mg "sorted" = none) (hbase : attributeBase e "items" X.env (eval e X.env) = eval e X.env := by rfl) (hline : (apos.endLine == cpos.line) = true := by rfl)
    (hs : starEach [.Call (.Attribute e "items" apos) [] [] cpos] X.env = (false, eval (.Call (.Attribute e "items" apos) [] [] cpos) X.env) :: starEach [] X.env := by rfl) :
    PE X (.Call (.Name "sorted" p) [.Call (.Attribute e "items" apos) [] [] cpos] [] pos) (tSortedItems te) := by
  refine ⟨fun pins s σ H Q J hq => ?_⟩
  refine wpAny_Call_Name_kw (ld_blt J hg hm (by decide +kernel : bootBuiltins "sorted" = some (.builtin "sorted")) ?_)
  refine PyProof.Rows.callWith_builtin1 ?_ hs (by rfl)
  rw [hs]
  show wpAny _ _ (spliced ((false, eval (.Call (.Attribute e "items" apos) [] [] cpos) X.env) :: backTo pos (starEach [] X.env))) _ _ s
  refine Calls.spliced_cons ?_
  refine wpAny_Call_method (T := "dict") (id := "dict.items") hbase rfl hline F.plainAttrs_dict F.slot_dict_items F.type_dict_items (thn (he.run pins s σ H _ J hq) fun u s1 ⟨x, H1, J1, rx, d, ms, ex, hd, q⟩ => ?_)
  subst ex
  obtain rfl : u = Value.ref d := rx
  obtain ⟨size, off0, vs, kv, isD⟩ := J1.hok d _ hd
  obtain ⟨ep, hat⟩ := isD.dictAt
  have lk : (kvSS ms).length = vs.length := Paired.length kv
  have J2 : Inv X pins σ H1 { s1 with heap := s1.heap.push { cls := .type "dict_items", data := .fields #[.ref d] } } := J1.kept (t' := s1.toks) fun b ob q => Heap.get?_push_of_some _ q
  refine ⟨isD.typeIs, isD.mapOf.noDict, ?_⟩
  show wpAny _ _ (callWith cpos (.builtin "dict.items") [.ref d] [] []) _ X.xe s1
  refine method_meetsIn F.slot_dict_items F.entry_dict_items rfl (PySem.evalArgs_none ⟨rfl, isD.typeIs, F.args_dict_items_1 _, _, meets_dict_items (mixKind X.prog X.w) d off0, ⟨vs, isD⟩, ?_⟩)
  refine Calls.spliced_nil ?_
  refine my_sorted (PySem.W.kdx_collect (A := X.A.in1) (knd := mixKind X.prog X.w) (kvs := vs) (ep := ep) (J1.ok.hd hc) ⟨_, Heap.get?_push_size _ rfl, rfl, rfl⟩ (hat.push _) (by omega) fun h' tk as up many G => ?_)
  obtain ⟨H2, k1, k2, k3, J3⟩ := tups_laid (tk := tk) J2 kv up many G
  have k4 : Tss H2 as ms := by
    have : Paired (fun (t : Addr) (m : Str × Str) => H2 t = some (.tup [.str m.1, .str m.2])) as ms := by
      have aux : ∀ {as : List Addr} {ms : SS}, Paired (fun (t : Addr) (q : Key × V) => H2 t = some (.tup [kV q.1, q.2])) as (kvSS ms) → Tss H2 as ms := by
        intro as ms
        induction ms generalizing as with
        | nil => intro h; cases h; exact .nil
        | cons m ms ih =>
          intro h
          cases h with
          | cons x t => exact .cons x (ih t)
      exact aux k3
    exact this
  have lms : as.length = ms.length := Paired.length k4
  have e0 : ((as.zip ms).map fun q => ((V.ref q.1, PyData.tuple [.str q.2.1, .str q.2.2]) : VD)).map (·.1) = as.map V.ref := by
    have z : ∀ {as : List Addr} {ms : SS}, as.length = ms.length → ((as.zip ms).map fun q => ((V.ref q.1, PyData.tuple [.str q.2.1, .str q.2.2]) : VD)).map (·.1) = as.map V.ref := by
      intro as
      induction as with
      | nil => intro ms _; rfl
      | cons a as ih =>
        intro ms h
        cases ms with
        | nil => cases h
        | cons m ms =>
          rw [List.zip_cons_cons, List.map_cons, List.map_cons, List.map_cons, ih (Nat.succ.inj h)]
    exact z lms
  have e1 : PySem.W.EachIs (fun v (b : VD) => RelV b.1 v) (as.map Value.ref) ((as.zip ms).map fun q => ((V.ref q.1, PyData.tuple [.str q.2.1, .str q.2.2]) : VD)) := each_of_vals (by rw [e0]; exact LiI.vals_refs as)
  have mem : ∀ q ∈ as.zip ms, H2 q.1 = some (.tup [.str q.2.1, .str q.2.2]) := by
    have z : ∀ {as : List Addr} {ms : SS}, Tss H2 as ms → ∀ q ∈ as.zip ms, H2 q.1 = some (.tup [.str q.2.1, .str q.2.2]) := by
      intro as ms h
      induction h with
      | nil => intro q hq; cases hq
      | cons x _ ih =>
        intro q hq
        rw [List.zip_cons_cons] at hq
        rcases List.mem_cons.mp hq with z | z
        · rw [z]; exact x
        · exact ih q z
    exact z k4
  have dp : ∀ b ∈ ((as.zip ms).map fun q => ((V.ref q.1, PyData.tuple [.str q.2.1, .str q.2.2]) : VD)), Dp X.K H2 b.1 b.2 ∧ b.2.depth ≤ 1 := fun b hb => by
    obtain ⟨q, hq, rfl⟩ := List.mem_map.mp hb
    exact ⟨.tup (.inl (.inl (mem q hq))) (.cons (.str _) (.cons (.str _) .nil)), Nat.le_refl 1⟩
  refine ⟨_, e1, (PySem.W.each_mem e1).mono fun v b ⟨r, hb⟩ => Dp.reads J3 b.2 b.1 v (dp b hb).1 r, ?_, ?_, ?_, fun b hb => by have := (dp b hb).2; omega, fun out h2 n eo up2 hn => ?_⟩
  · rw [List.map_map]
    exact PySem.W.AllAlike.of (enc := fun q : Addr × Str × Str => PyData.tuple [.str q.2.1, .str q.2.2]) fun b b' => alike_ss _ _
  · rw [List.map_map]
    exact PySem.W.Sortable.tuples (enc := fun q : Addr × Str × Str => PyData.tuple [.str q.2.1, .str q.2.2]) fun b => ⟨_, _, rfl⟩
  · rw [List.length_map, List.length_zip]
    rw [List.length_map] at size lk
    omega
  · let S := (as.zip ms).mergeSort fun q r => PySem.W.dataLe false (fun q : Addr × Str × Str => PyData.tuple [.str q.2.1, .str q.2.2]) q r
    have eS : sortD ((as.zip ms).map fun q => ((V.ref q.1, PyData.tuple [.str q.2.1, .str q.2.2]) : VD)) = S.map fun q => ((V.ref q.1, PyData.tuple [.str q.2.1, .str q.2.2]) : VD) := by
      show List.mergeSort _ _ = _
      exact (List.map_mergeSort (f := fun q : Addr × Str × Str => ((V.ref q.1, PyData.tuple [.str q.2.1, .str q.2.2]) : VD)) (r := fun q r => PySem.W.dataLe false (fun q : Addr × Str × Str => PyData.tuple [.str q.2.1, .str q.2.2]) q r) (s := PySem.W.dataLe false (·.2)) fun a _ b _ => rfl).symm
    have pS : S.Perm (as.zip ms) := List.mergeSort_perm _ _
    have eF : (sortD ((as.zip ms).map fun q => ((V.ref q.1, PyData.tuple [.str q.2.1, .str q.2.2]) : VD))).map (·.1) = (S.map (·.1)).map V.ref := by
      rw [eS, List.map_map, List.map_map]
      rfl
    have vl := vals_of_each eo
    rw [eF] at vl
    refine ⟨.ref h'.objs.size, upd H2 h'.objs.size (.lst ((S.map (·.1)).map V.ref)), J3.laid (t' := tk) up2 (Nat.le_refl _) ⟨?_, out, n, vl, hn⟩, rfl, ?_⟩
    · rw [List.length_map, List.length_map, pS.length_eq, List.length_zip]
      rw [List.length_map] at size lk
      omega
    · have fresh : H2 h'.objs.size = none := J3.hok.fresh (Nat.le_refl _)
      refine q _ _ (S.map (·.1)) (S.map (·.2)) (fun b o hb => ?_) ?_ upd_same ?_ ?_
      · rw [upd_ne (ne_of_none (k1 _ _ hb) fresh)]
        exact k1 _ _ hb
      · cases z : H1 h'.objs.size with
        | none => rfl
        | some o =>
          rw [k1 _ _ z] at fresh
          cases fresh
      · have all : ∀ r ∈ S, (upd H2 h'.objs.size (.lst ((S.map (·.1)).map V.ref))) r.1 = some (.tup [.str r.2.1, .str r.2.2]) := fun r hr => by
          have := mem r (pS.mem_iff.mp hr)
          rw [upd_ne (ne_of_none this fresh)]
          exact this
        have unz : ∀ S : List (Addr × Str × Str), (∀ r ∈ S, (upd H2 h'.objs.size (.lst ((S.map (·.1)).map V.ref))) r.1 = (upd H2 h'.objs.size (.lst ((S.map (·.1)).map V.ref))) r.1) → True := fun _ _ => trivial
        generalize upd H2 h'.objs.size (.lst ((S.map (·.1)).map V.ref)) = HU at all
        clear_value S
        clear eS pS eF vl unz
        induction S with
        | nil => exact .nil
        | cons r S ih => exact .cons (all r (List.mem_cons_self ..)) (ih fun q hq => all q (List.mem_cons_of_mem _ hq))
      · have z : (as.zip ms).map (·.2) = ms := by
          have zz : ∀ {as : List Addr} {ms : SS}, as.length = ms.length → (as.zip ms).map (·.2) = ms := by
            intro as
            induction as with
            | nil => intro ms h; cases ms with
              | nil => rfl
              | cons _ _ => cases h
            | cons a as ih =>
              intro ms h
              cases ms with
              | nil => cases h
              | cons m ms => rw [List.zip_cons_cons, List.map_cons, ih (Nat.succ.inj h)]
          exact zz lms
        rw [← z]
        exact pS.map _
end
end BR

/-! tuple(list), the new object known; a method of such a tuple -/
namespace BR
open PySem PySem.Spec PyProof.Rows L2
section
variable {X : Cx}
theorem call_tupleF : CallR X (.type "tuple") (fun xs H Q => ∃ (p : Addr) (ys : List V), xs = [.ref p] ∧ SqL X.K H p ys ∧ ∀ (l : Addr) (ob : Obj), H l = none → ob.cls = .type "tuple" → ob.dict = none → Q (.ref l) (upd H l (.frz ob (.tup ys)))) := by
  intro pins s σ H xs us Q J r h
  obtain ⟨p, ys, rfl, seq, q⟩ := h
  obtain ⟨u, rfl, rx⟩ := vals1 r
  cases rx
  obtain ⟨its, rels, isL, size⟩ := J.list seq
  have many := rels.length
  refine call_tuple_list isL.isList (fun h' up => ?_) (by simp only [List.size_toArray] <;> omega)
  have J1 : Inv X pins σ H { s with heap := h' } := J.kept (t' := s.toks) up
  have J2 : Inv X pins σ (upd H h'.objs.size (.frz { cls := .type "tuple", data := .seq its.toArray } (.tup ys))) { s with heap := h'.push { cls := .type "tuple", data := .seq its.toArray } } :=
    J1.laid (t' := s.toks) (fun b o e => Heap.get?_push_of_some _ e) (Nat.le_refl _) (show ObjOk X.prog X.w _ _ _ (.frz _ (.tup ys)) from ⟨Heap.get?_push_size _ rfl, size, its, rels, IsTup.new _ _⟩)
  exact ⟨.ref h'.objs.size, _, J2, rfl, q _ _ (J1.hok.fresh (Nat.le_refl _)) rfl rfl⟩
def tBMF (T : String) (r : V → List V → Hp → VK → Prop) (to : TE) (t : TA) : TE := fun σ H Q => to σ H fun x H1 => (∃ (p : Addr) (ob : Obj) (u : HO), x = .ref p ∧ H1 p = some (.frz ob u) ∧ ob.cls = .type T ∧ ob.dict = none) ∧ t σ H1 fun xs H2 => r x xs H2 Q
theorem pe_bmF {o e : Expr} {es : List Expr} {to : TE} {t : TA} {name : Str} {apos cpos : Pos} {T id : String} {r : V → List V → Hp → VK → Prop} (pa : PlainAttrs T) (slot : Slot T name id) (ty : typeOf (.builtin id) = pure (.type "method_descriptor")) (m : MtR X id r) (ho : PE X o to) (ha : PA X (e :: es) t)
    (h1 : attributeBase o name X.env (eval o X.env) = eval o X.env := by rfl)
    (h2 : ((backTo cpos (starEach (e :: es) X.env)).all (fun x => !x.1) && (backToKw cpos (keywordEach [] X.env)).all (fun x => x.1.isSome) && decide ((e :: es).length + ([] : List Keyword).length + (if ([] : List Keyword).isEmpty then 0 else 1) < 30)) = true := by rfl)
    (h3 : (apos.endLine == cpos.line) = true := by rfl) (h4 : starEach (e :: es) X.env = (false, eval e X.env) :: starEach es X.env := by rfl) (h5 : (backTo cpos (starEach es X.env)).any (·.1) = false := by rfl) :
    PE X (.Call (.Attribute o name apos) (e :: es) [] cpos) (tBMF T r to t) := by
  refine ⟨fun pins s σ H Q J h => ?_⟩
  refine wpAny_Call_method_late h1 h2 h3 rfl (thn (ho.run pins s σ H _ J h) fun v s1 ⟨x, H1, J1, r1, ⟨p, ob, u, ex, at1, isT, noD⟩, q1⟩ => ?_)
  subst ex
  obtain rfl : v = Value.ref p := r1
  obtain ⟨get, _⟩ := (show ObjOk X.prog X.w H1 s1.heap p (.frz ob u) from J1.hok p _ at1)
  refine ⟨T, id, pa, slot, ty, ⟨ob, get, isT⟩, fun b eb => ?_, ?_⟩
  · cases eb
    exact ⟨ob, get, noD⟩
  have run := ha.run cpos pins s1 σ H1 _ J1 q1
  rw [h4] at run ⊢
  refine Calls.callWith_builtin (by show (false || (backTo cpos (starEach es X.env)).any (·.1)) = false; rw [h5] <;> rfl) (Calls.evalArgs_plain ?_)
  exact thn run fun us s2 ⟨vs, H2, J2, r2, q2⟩ => m pins s2 σ H2 (.ref p) vs (.ref p) us Q J2 rfl r2 q2
end
end BR

namespace Bn
open PySem PySem.Spec PyProof.Rows L2 BR GX RM GY
def ssD (m : Str × Str) : PyData := .tuple [.str m.1, .str m.2]
abbrev Pr := Str × PyData
def prD (p : Pr) : PyData := .tuple [.str p.1, p.2]
def mnD (a : Str) (ms : SS) (ps : List Pr) : PyData := .tuple [.str a, .tuple (ms.map ssD), .tuple (ps.map prD)]
def okM (ms : SS) : Prop := ∀ m ∈ ms, okS m.1 ∧ okS m.2
mutual
/-- a meaning of so many nodes -/
inductive MnD : Nat → PyData → Prop
  | mk {a : Str} {ms : SS} {ps : List Pr} {n : Nat} : okS a → okM ms → MnA n ps → MnD (n + 1) (mnD a ms ps)
inductive MnA : Nat → List Pr → Prop
  | nil : MnA 0 []
  | cons {r : Str} {d : PyData} {n m : Nat} {ps : List Pr} : okS r → MnD n d → MnA m ps → MnA (n + m) ((r, d) :: ps)
end
theorem MnD.inv {n : Nat} {d : PyData} (h : MnD n d) : ∃ a ms ps k, n = k + 1 ∧ d = mnD a ms ps ∧ okS a ∧ okM ms ∧ MnA k ps := by
  cases h with
  | mk h1 h2 h3 => exact ⟨_, _, _, _, rfl, rfl, h1, h2, h3⟩
theorem MnA.perm {ps qs : List Pr} (p : ps.Perm qs) : ∀ {n : Nat}, MnA n ps → MnA n qs := by
  induction p with
  | nil => exact fun h => h
  | cons x _ ih =>
    intro n h
    cases h with
    | cons h1 h2 h3 => exact .cons h1 h2 (ih h3)
  | swap x y l =>
    intro n h
    cases h with
    | cons h1 h2 h3 =>
      cases h3 with
      | cons g1 g2 g3 =>
        rename_i a b c e f
        have : a + (e + f) = e + (a + f) := by omega
        rw [this]
        exact .cons g1 g2 (.cons h1 h2 g3)
  | trans _ _ i1 i2 => exact fun h => i2 (i1 h)
theorem MnA.app {ps qs : List Pr} : ∀ {n m : Nat}, MnA n ps → MnA m qs → MnA (n + m) (ps ++ qs) := by
  induction ps with
  | nil =>
    intro n m h k
    cases h
    rw [Nat.zero_add]
    exact k
  | cons p ps ih =>
    intro n m h k
    cases h with
    | cons h1 h2 h3 =>
      rw [Nat.add_assoc]
      exact .cons h1 h2 (ih h3 k)
theorem MnA.len {ps : List Pr} : ∀ {n : Nat}, MnA n ps → ps.length ≤ n := by
  induction ps with
  | nil => exact fun _ => Nat.zero_le _
  | cons p ps ih =>
    intro n h
    cases h with
    | cons h1 h2 h3 =>
      obtain ⟨_, _, _, k, e, _⟩ := h2.inv
      have := ih h3
      show ps.length + 1 ≤ _
      omega
theorem MnA.at {ps : List Pr} : ∀ {n i : Nat} {p : Pr}, MnA n ps → ps[i]? = some p → okS p.1 ∧ ∃ k, k ≤ n ∧ 1 ≤ k ∧ MnD k p.2 := by
  induction ps with
  | nil => intro n i p h e; simp at e
  | cons q ps ih =>
    intro n i p h e
    cases h with
    | cons h1 h2 h3 =>
      cases i with
      | zero =>
        have e' := Option.some.inj e
        subst e'
        obtain ⟨_, _, _, k, e2, _⟩ := h2.inv
        exact ⟨h1, _, Nat.le_add_right _ _, by omega, h2⟩
      | succ i =>
        obtain ⟨a, k, b, c, d⟩ := ih h3 e
        exact ⟨a, k, by omega, c, d⟩
theorem ss_facts : ∀ (ms : SS), okM ms → PyData.canLayAll0 (ms.map ssD) = true ∧ PyData.depthAll (ms.map ssD) ≤ 1
  | [], _ => ⟨rfl, Nat.zero_le _⟩
  | m :: ms, h => by
    obtain ⟨a, b⟩ := ss_facts ms fun x hx => h x (List.mem_cons_of_mem _ hx)
    obtain ⟨c, d⟩ := h m (List.mem_cons_self ..)
    refine ⟨?_, ?_⟩
    · show (((PyData.strOk m.1) && ((PyData.strOk m.2) && true)) && PyData.canLayAll0 (ms.map ssD)) = true
      rw [a, (okS_iff _).mpr c, (okS_iff _).mpr d]
      rfl
    · show max (max 0 (max 0 0) + 1) (PyData.depthAll (ms.map ssD)) ≤ 1
      omega
theorem mn_facts : ∀ (n : Nat), (∀ d, MnD n d → d.canLay0 = true ∧ d.depth ≤ 3 * n) ∧ (∀ ps, MnA n ps → PyData.canLayAll0 (ps.map prD) = true ∧ PyData.depthAll (ps.map prD) ≤ 3 * n + 1) := by
  intro n
  induction n using Nat.strongRecOn with
  | ind n ih =>
    have hD : ∀ d, MnD n d → d.canLay0 = true ∧ d.depth ≤ 3 * n := fun d h => by
      obtain ⟨a, ms, ps, k, rfl, rfl, h1, h2, h3⟩ := h.inv
      obtain ⟨c1, c2⟩ := ss_facts ms h2
      obtain ⟨e1, e2⟩ := (ih k (by omega)).2 ps h3
      refine ⟨?_, ?_⟩
      · show (PyData.strOk a && (PyData.canLayAll0 (ms.map ssD) && (PyData.canLayAll0 (ps.map prD) && true))) = true
        rw [c1, e1, (okS_iff _).mpr h1]
        rfl
      · show max 0 (max (PyData.depthAll (ms.map ssD) + 1) (max (PyData.depthAll (ps.map prD) + 1) 0)) + 1 ≤ 3 * (k + 1)
        omega
    have hK : ∀ k, k ≤ n → ∀ d, MnD k d → d.canLay0 = true ∧ d.depth ≤ 3 * k := fun k hk => by
      by_cases e : k = n
      · subst e
        exact hD
      · exact (ih k (by omega)).1
    have hL : ∀ ps m, m ≤ n → MnA m ps → PyData.canLayAll0 (ps.map prD) = true ∧ PyData.depthAll (ps.map prD) ≤ 3 * m + 1 := fun ps => by
      induction ps with
      | nil => exact fun m _ _ => ⟨rfl, Nat.zero_le _⟩
      | cons p ps ihp =>
        intro m hm h
        cases h with
        | cons h1 h2 h3 =>
          rename_i r d a b
          obtain ⟨c1, c2⟩ := hK a (by omega) d h2
          obtain ⟨e1, e2⟩ := ihp b (by omega) h3
          refine ⟨?_, ?_⟩
          · show ((PyData.strOk r && (d.canLay0 && true)) && PyData.canLayAll0 (ps.map prD)) = true
            rw [e1, c1, (okS_iff _).mpr h1]
            rfl
          · show max (max 0 (max d.depth 0) + 1) (PyData.depthAll (ps.map prD)) ≤ 3 * (a + b) + 1
            omega
    exact ⟨hD, fun ps h => hL ps n (Nat.le_refl _) h⟩
/-! alike -/
theorem ss_alike : ∀ ms ns : SS, PySem.W.alikeAll (ms.map ssD) (ns.map ssD) = true
  | [], ns => by cases ns <;> rfl
  | m :: ms, [] => rfl
  | m :: ms, n :: ns => by
    show (PySem.W.alike (ssD m) (ssD n) && PySem.W.alikeAll (ms.map ssD) (ns.map ssD)) = true
    rw [ss_alike ms ns]
    rfl
theorem mn_alike : ∀ (n : Nat), (∀ d m e, MnD n d → MnD m e → PySem.W.alike d e = true) ∧ (∀ ps m qs, MnA n ps → MnA m qs → PySem.W.alikeAll (ps.map prD) (qs.map prD) = true) := by
  intro n
  induction n using Nat.strongRecOn with
  | ind n ih =>
    have hD : ∀ d m e, MnD n d → MnD m e → PySem.W.alike d e = true := fun d m e h k => by
      obtain ⟨a, ms, ps, k1, rfl, rfl, h1, h2, h3⟩ := h.inv
      obtain ⟨b, ns, qs, k2, rfl, rfl, g1, g2, g3⟩ := k.inv
      show (PySem.W.alike (.str a) (.str b) && (PySem.W.alikeAll (ms.map ssD) (ns.map ssD) && (PySem.W.alikeAll (ps.map prD) (qs.map prD) && true))) = true
      rw [ss_alike, (ih k1 (by omega)).2 ps k2 qs h3 g3]
      rfl
    have hK : ∀ k, k ≤ n → ∀ d m e, MnD k d → MnD m e → PySem.W.alike d e = true := fun k hk => by
      by_cases e : k = n
      · subst e
        exact hD
      · exact (ih k (by omega)).1
    have hL : ∀ ps k m qs, k ≤ n → MnA k ps → MnA m qs → PySem.W.alikeAll (ps.map prD) (qs.map prD) = true := fun ps => by
      induction ps with
      | nil => intro k m qs _ _ _; cases qs <;> rfl
      | cons p ps ihp =>
        intro k m qs hk h g
        cases qs with
        | nil => rfl
        | cons q qs =>
          cases h with
          | cons h1 h2 h3 =>
            cases g with
            | cons g1 g2 g3 =>
              rename_i r d a b r' d' a' b'
              show ((PySem.W.alike (.str r) (.str r') && (PySem.W.alike d d' && true)) && PySem.W.alikeAll (ps.map prD) (qs.map prD)) = true
              rw [ihp _ _ qs (by omega) h3 g3, hK _ (by omega) _ _ _ h2 g2]
              rfl
    exact ⟨hD, fun ps m qs h g => hL ps n m qs (Nat.le_refl _) h g⟩
/-! equal data are one -/
theorem ss_eqv : ∀ ms ns : SS, PyData.eqvAll (ms.map ssD) (ns.map ssD) = true → ms = ns
  | [], [], _ => rfl
  | [], _ :: _, h => by cases h
  | _ :: _, [], h => by cases h
  | m :: ms, n :: ns, h => by
    have h' : (((m.1 == n.1) && ((m.2 == n.2) && true)) && PyData.eqvAll (ms.map ssD) (ns.map ssD)) = true := h
    rw [Bool.and_eq_true, Bool.and_eq_true, Bool.and_eq_true] at h'
    obtain ⟨⟨h1, h2, _⟩, h3⟩ := h'
    rw [ss_eqv ms ns h3, show m = n from Prod.ext (eq_of_beq h1) (eq_of_beq h2)]
theorem mn_eqv : ∀ (n : Nat), (∀ d m e, MnD n d → MnD m e → PyData.eqv d e = true → d = e) ∧ (∀ ps m qs, MnA n ps → MnA m qs → PyData.eqvAll (ps.map prD) (qs.map prD) = true → ps = qs) := by
  intro n
  induction n using Nat.strongRecOn with
  | ind n ih =>
    have hD : ∀ d m e, MnD n d → MnD m e → PyData.eqv d e = true → d = e := fun d m e h k q => by
      obtain ⟨a, ms, ps, k1, rfl, rfl, h1, h2, h3⟩ := h.inv
      obtain ⟨b, ns, qs, k2, rfl, rfl, g1, g2, g3⟩ := k.inv
      have q' : ((a == b) && (PyData.eqvAll (ms.map ssD) (ns.map ssD) && (PyData.eqvAll (ps.map prD) (qs.map prD) && true))) = true := q
      rw [Bool.and_eq_true, Bool.and_eq_true, Bool.and_eq_true] at q'
      obtain ⟨q1, q2, q3, _⟩ := q'
      rw [eq_of_beq q1, ss_eqv _ _ q2, (ih k1 (by omega)).2 ps k2 qs h3 g3 q3]
    have hK : ∀ k, k ≤ n → ∀ d m e, MnD k d → MnD m e → PyData.eqv d e = true → d = e := fun k hk => by
      by_cases e : k = n
      · subst e
        exact hD
      · exact (ih k (by omega)).1
    have hL : ∀ ps k m qs, k ≤ n → MnA k ps → MnA m qs → PyData.eqvAll (ps.map prD) (qs.map prD) = true → ps = qs := fun ps => by
      induction ps with
      | nil =>
        intro k m qs _ _ _ h
        cases qs with
        | nil => rfl
        | cons _ _ => cases h
      | cons p ps ihp =>
        intro k m qs hk h g q
        cases qs with
        | nil => cases q
        | cons q1 qs =>
          cases h with
          | cons h1 h2 h3 =>
            cases g with
            | cons g1 g2 g3 =>
              rename_i r d a b r' d' a' b'
              have q' : (((r == r') && (PyData.eqv d d' && true)) && PyData.eqvAll (ps.map prD) (qs.map prD)) = true := q
              rw [Bool.and_eq_true, Bool.and_eq_true, Bool.and_eq_true] at q'
              obtain ⟨⟨x1, x2, _⟩, x3⟩ := q'
              rw [ihp _ _ qs (by omega) h3 g3 x3, hK _ (by omega) _ _ _ h2 g2 x2, eq_of_beq x1]
    exact ⟨hD, fun ps m qs h g => hL ps n m qs (Nat.le_refl _) h g⟩
/-! sorted pairs -/
def leP : Pr → Pr → Bool := PySem.W.dataLe false prD
def sortP (ps : List Pr) : List Pr := ps.mergeSort leP
theorem sortP_perm (ps : List Pr) : (sortP ps).Perm ps := List.mergeSort_perm _ _
theorem leP_total : PySem.W.TotalLe leP := PySem.W.sortLe_total (PyProof.Rows.listOrd PyProof.Rows.itemOrd) false fun p : Pr => PySem.W.keyToks (prD p)
def okP (p : Pr) : Prop := okS p.1 ∧ ∃ n, MnD n p.2
theorem MnA.ok {n : Nat} {ps : List Pr} (h : MnA n ps) : ∀ p ∈ ps, okP p := fun p hp => by
  obtain ⟨i, hi⟩ := List.getElem?_of_mem hp
  obtain ⟨a, k, _, _, c⟩ := h.at hi
  exact ⟨a, k, c⟩
theorem leP_anti {p q : Pr} (hp : okP p) (hq : okP q) (h : leP p q = true) (k : leP q p = true) : p = q := by
  obtain ⟨h1, n, h2⟩ := hp
  obtain ⟨k1, m, k2⟩ := hq
  have e : PySem.W.keyToks (prD p) = PySem.W.keyToks (prD q) := by
    have h' : (!PyProof.Rows.lexLt PyProof.Rows.itemOrd (PySem.W.keyToks (prD q)) (PySem.W.keyToks (prD p))) = true := h
    have k' : (!PyProof.Rows.lexLt PyProof.Rows.itemOrd (PySem.W.keyToks (prD p)) (PySem.W.keyToks (prD q))) = true := k
    rw [Bool.not_eq_true'] at h' k'
    exact PyProof.Rows.lex_total _ _ k' h'
  have al : PySem.W.alike (prD p) (prD q) = true := by
    show (PySem.W.alike (.str p.1) (.str q.1) && (PySem.W.alike p.2 q.2 && true)) = true
    rw [(mn_alike n).1 _ m _ h2 k2]
    rfl
  have eq : PyData.eqv (prD p) (prD q) = true := by
    cases z : PyData.eqv (prD p) (prD q) with
    | true => rfl
    | false =>
      have t := (PySem.W.toks_eqv _ _ al).2 z [] [Sum.inl 0]
      rw [e, PySem.W.lex_pre, PyProof.Rows.lex_irrefl] at t
      cases t
  have eq' : ((p.1 == q.1) && (PyData.eqv p.2 q.2 && true)) = true := eq
  rw [Bool.and_eq_true, Bool.and_eq_true] at eq'
  exact Prod.ext (eq_of_beq eq'.1) ((mn_eqv n).1 _ m _ h2 k2 eq'.2.1)
theorem sortP_eq {ps qs : List Pr} (h : ∀ p ∈ ps, okP p) (p : ps.Perm qs) : sortP ps = sortP qs := by
  refine List.Perm.eq_of_pairwise (le := fun a b => leP a b = true) (fun a b ha hb x y => leP_anti (h a ((sortP_perm ps).mem_iff.mp ha)) (h b (p.mem_iff.mpr ((sortP_perm qs).mem_iff.mp hb))) x y) ?_ ?_ ((sortP_perm ps).trans (p.trans (sortP_perm qs).symm))
  · exact PySem.W.sort_pairwise leP_total ps
  · exact PySem.W.sort_pairwise leP_total qs
theorem sortP_idem {ps : List Pr} (h : ∀ p ∈ ps, okP p) : sortP (sortP ps) = sortP ps := sortP_eq (fun p hp => h p ((sortP_perm ps).mem_iff.mp hp)) (sortP_perm ps)
end Bn

namespace Bn
open PySem PySem.Spec PyProof.Rows L2 BR GX RM GY
theorem paired_mono {α β : Type} {R S : α → β → Prop} {l : List α} {m : List β} (h : Paired R l m) (f : ∀ a b, R a b → S a b) : Paired S l m := by
  induction h with
  | nil => exact .nil
  | cons x _ ih => exact .cons (f _ _ x) ih
theorem paired_snoc {α β : Type} {R : α → β → Prop} {l : List α} {m : List β} {a : α} {b : β} (h : Paired R l m) (x : R a b) : Paired R (l ++ [a]) (m ++ [b]) := by
  induction h with
  | nil => exact .cons x .nil
  | cons y _ ih => exact .cons y ih
theorem paired_app {α β : Type} {R : α → β → Prop} {l l' : List α} {m m' : List β} (h : Paired R l m) (h' : Paired R l' m') : Paired R (l ++ l') (m ++ m') := by
  induction h with
  | nil => exact h'
  | cons x _ ih => exact .cons x ih
theorem paired_at {α β : Type} {R : α → β → Prop} {l : List α} {m : List β} (h : Paired R l m) : ∀ {i : Nat} {x : α}, l[i]? = some x → ∃ y, m[i]? = some y ∧ R x y := by
  induction h with
  | nil => intro i x e; simp at e
  | cons r _ ih =>
    intro i x e
    cases i with
    | zero =>
      cases Option.some.inj e
      exact ⟨_, rfl, r⟩
    | succ j => exact ih e
theorem take_get {α : Type} {l : List α} {i : Nat} {x : α} (h : l[i]? = some x) : l.take (i + 1) = l.take i ++ [x] := by
  rw [List.take_succ, h]
  rfl
theorem drop_get {α : Type} {l : List α} {i : Nat} {x : α} (h : l[i]? = some x) : l.drop i = x :: l.drop (i + 1) := by
  obtain ⟨hi, rfl⟩ := List.getElem?_eq_some_iff.mp h
  exact List.drop_eq_getElem_cons hi
/-! ### data of tuples alone -/
mutual
def noL : PyData → Bool
  | .list _ => false
  | .tuple ds => noLAll ds
  | .dict _ => false
  | _ => true
def noLAll : List PyData → Bool
  | [] => true
  | d :: ds => noL d && noLAll ds
end
section
variable {K : PySem.W.Frag} {H H' : Hp}
mutual
theorem dp_keep (hT : ∀ a xs, SqT K H a xs → SqT K H' a xs) : ∀ (d : PyData) (v : V), noL d = true → Dp K H v d → Dp K H' v d
  | .none, _, _, h => by cases h; exact .non
  | .bool _, _, _, h => by cases h; exact .bl _
  | .int _, _, _, h => by cases h; exact .int _
  | .str _, _, _, h => by cases h; exact .str _
  | .list _, _, n, _ => by cases n
  | .dict _, _, n, _ => by cases n
  | .tuple ds, _, n, h => by
    cases h with
    | tup h1 h2 => exact .tup (hT _ _ h1) (dp_keepAll hT ds _ n h2)
theorem dp_keepAll (hT : ∀ a xs, SqT K H a xs → SqT K H' a xs) : ∀ (ds : List PyData) (vs : List V), noLAll ds = true → DpAll K H vs ds → DpAll K H' vs ds
  | [], _, _, h => by cases h; exact .nil
  | d :: ds, _, n, h => by
    have n' : (noL d && noLAll ds) = true := n
    rw [Bool.and_eq_true] at n'
    cases h with
    | cons h1 h2 => exact .cons (dp_keep hT d _ n'.1 h1) (dp_keepAll hT ds _ n'.2 h2)
end
theorem sqT_same (s : Same H H') : ∀ a xs, SqT K H a xs → SqT K H' a xs := fun a xs h => by
  rcases h with (h | ⟨o, h⟩) | h
  · exact .inl (.inl (s _ _ h))
  · exact .inl (.inr ⟨o, s _ _ h⟩)
  · exact .inr h
theorem sqT_sameN {Ps : List Addr} (s : SameN Ps H H') : ∀ a xs, SqT K H a xs → SqT K H' a xs := fun a xs h => by
  rcases h with (h | ⟨o, h⟩) | h
  · exact .inl (.inl (s.k _ _ nt_tup h))
  · exact .inl (.inr ⟨o, s.k _ _ nt_frz h⟩)
  · exact .inr h
theorem sqT_kp {b : Addr} (hb : Bx H b) (k : Kp b H H') : ∀ a xs, SqT K H a xs → SqT K H' a xs := fun a xs h => by
  rcases h with (h | ⟨o, h⟩) | h
  · exact .inl (.inl (k _ _ (ne_bx hb h (fun _ _ _ z => by cases z)) h))
  · exact .inl (.inr ⟨o, k _ _ (ne_bx hb h (fun _ _ _ z => by cases z)) h⟩)
  · exact .inr h
/-- a list written, tuples stay -/
theorem sqT_upd {D : Addr} {xs : List V} {o : HO} (hD : H D = some (.lst xs)) : ∀ a ys, SqT K H a ys → SqT K (upd H D o) a ys := fun a ys h => by
  rcases h with (h | ⟨o', h⟩) | h
  · exact .inl (.inl (by rw [upd_ne (ne_of h hD (by intro z; cases z))]; exact h))
  · exact .inl (.inr ⟨o', by rw [upd_ne (ne_of h hD (by intro z; cases z))]; exact h⟩)
  · exact .inr h
end
theorem noL_ss : ∀ ms : SS, noLAll (ms.map ssD) = true
  | [] => rfl
  | m :: ms => noL_ss ms
theorem noL_mn : ∀ n, (∀ d, MnD n d → noL d = true) ∧ (∀ ps, MnA n ps → noLAll (ps.map prD) = true) := by
  intro n
  induction n using Nat.strongRecOn with
  | ind n ih =>
    have hD : ∀ d, MnD n d → noL d = true := fun d h => by
      obtain ⟨a, ms, ps, k1, rfl, rfl, h1, h2, h3⟩ := h.inv
      show (true && (noLAll (ms.map ssD) && (noLAll (ps.map prD) && true))) = true
      rw [noL_ss, (ih k1 (by omega)).2 ps h3]
      rfl
    have hK : ∀ k, k ≤ n → ∀ d, MnD k d → noL d = true := fun k hk => by
      by_cases e : k = n
      · subst e
        exact hD
      · exact (ih k (by omega)).1
    have hL : ∀ ps k, k ≤ n → MnA k ps → noLAll (ps.map prD) = true := fun ps => by
      induction ps with
      | nil => exact fun _ _ _ => rfl
      | cons p ps ihp =>
        intro k hk h
        cases h with
        | cons h1 h2 h3 =>
          rename_i r d a b
          show ((true && (noL d && true)) && noLAll (ps.map prD)) = true
          rw [ihp b (by omega) h3, hK a (by omega) d h2]
          rfl
    exact ⟨hD, fun ps h => hL ps n (Nat.le_refl _) h⟩
/-! ### meanings as values -/
section
variable {K : PySem.W.Frag} {H H' : Hp}
structure Mv (K : PySem.W.Frag) (H : Hp) (v : V) (n : Nat) (d : PyData) : Prop where
  p : Dp K H v d
  m : MnD n d
theorem Mv.keep {v : V} {n : Nat} {d : PyData} (h : Mv K H v n d) (hT : ∀ a xs, SqT K H a xs → SqT K H' a xs) : Mv K H' v n d := ⟨dp_keep hT d v ((noL_mn n).1 d h.m) h.p, h.m⟩
theorem Mv.same {v : V} {n : Nat} {d : PyData} (h : Mv K H v n d) (s : Same H H') : Mv K H' v n d := h.keep (sqT_same s)
theorem Mv.sameN {Ps : List Addr} {v : V} {n : Nat} {d : PyData} (h : Mv K H v n d) (s : SameN Ps H H') : Mv K H' v n d := h.keep (sqT_sameN s)
/-- pairs as values -/
structure Pv (K : PySem.W.Frag) (H : Hp) (vs : List V) (n : Nat) (ps : List Pr) : Prop where
  p : DpAll K H vs (ps.map prD)
  m : MnA n ps
theorem Pv.keep {vs : List V} {n : Nat} {ps : List Pr} (h : Pv K H vs n ps) (hT : ∀ a xs, SqT K H a xs → SqT K H' a xs) : Pv K H' vs n ps := ⟨dp_keepAll hT _ vs ((noL_mn n).2 ps h.m) h.p, h.m⟩
theorem Pv.same {vs : List V} {n : Nat} {ps : List Pr} (h : Pv K H vs n ps) (s : Same H H') : Pv K H' vs n ps := h.keep (sqT_same s)
theorem dpAll_len {vs : List V} {ds : List PyData} (h : DpAll K H vs ds) : vs.length = ds.length := by
  induction ds generalizing vs with
  | nil => cases h; rfl
  | cons d ds ih =>
    cases h with
    | cons _ h2 => show _ + 1 = _ + 1; rw [ih h2]
theorem dpAll_at {vs : List V} {ds : List PyData} (h : DpAll K H vs ds) : ∀ {i : Nat} {v : V}, vs[i]? = some v → ∃ d, ds[i]? = some d ∧ Dp K H v d := by
  induction ds generalizing vs with
  | nil => intro i v e; cases h; simp at e
  | cons d ds ih =>
    intro i v e
    cases h with
    | cons h1 h2 =>
      cases i with
      | zero =>
        cases Option.some.inj e
        exact ⟨_, rfl, h1⟩
      | succ j => exact ih h2 e
theorem dpAll_app {vs ws : List V} {ds es : List PyData} (h : DpAll K H vs ds) (k : DpAll K H ws es) : DpAll K H (vs ++ ws) (ds ++ es) := by
  induction ds generalizing vs with
  | nil => cases h; exact k
  | cons d ds ih =>
    cases h with
    | cons h1 h2 => exact .cons h1 (ih h2)
theorem Pv.len {vs : List V} {n : Nat} {ps : List Pr} (h : Pv K H vs n ps) : vs.length = ps.length := by
  have := dpAll_len h.p
  rw [List.length_map] at this
  exact this
/-- one pair -/
theorem dp_pair {v : V} {p : Pr} (h : Dp K H v (prD p)) : ∃ q iv, v = .ref q ∧ SqT K H q [.str p.1, iv] ∧ Dp K H iv p.2 := by
  have h' : Dp K H v (.tuple [.str p.1, p.2]) := h
  cases h' with
  | tup h1 h2 =>
    cases h2 with
    | cons a b =>
      cases a
      cases b with
      | cons c d =>
        cases d
        exact ⟨_, _, rfl, h1, c⟩
theorem Pv.at {vs : List V} {n : Nat} {ps : List Pr} (h : Pv K H vs n ps) {i : Nat} {v : V} (e : vs[i]? = some v) : ∃ p q iv k, ps[i]? = some p ∧ v = .ref q ∧ SqT K H q [.str p.1, iv] ∧ okS p.1 ∧ k ≤ n ∧ 1 ≤ k ∧ Mv K H iv k p.2 := by
  obtain ⟨d, hd, hv⟩ := dpAll_at h.p e
  rw [List.getElem?_map] at hd
  obtain ⟨p, ep, rfl⟩ := Option.map_eq_some_iff.mp hd
  obtain ⟨q, iv, rfl, h1, h2⟩ := dp_pair hv
  obtain ⟨o, k, k1, k2, k3⟩ := h.m.at ep
  exact ⟨p, q, iv, k, ep, rfl, h1, o, k1, k2, ⟨h2, k3⟩⟩
theorem Mv.inv {v : V} {n : Nat} {d : PyData} (h : Mv K H v n d) : ∃ t a mt pt ms ps mvs pvs k, v = .ref t ∧ n = k + 1 ∧ d = mnD a ms ps ∧ okS a ∧ okM ms ∧ SqT K H t [.str a, .ref mt, .ref pt] ∧ SqT K H mt mvs ∧ DpAll K H mvs (ms.map ssD) ∧ SqT K H pt pvs ∧ Pv K H pvs k ps := by
  obtain ⟨hp, hm⟩ := h
  obtain ⟨a, ms, ps, k, rfl, rfl, h1, h2, h3⟩ := hm.inv
  have h' : Dp K H v (.tuple [.str a, .tuple (ms.map ssD), .tuple (ps.map prD)]) := hp
  cases h' with
  | tup t1 t2 =>
    cases t2 with
    | cons a1 b1 =>
      cases a1
      cases b1 with
      | cons a2 b2 =>
        cases a2 with
        | tup m1 m2 =>
          cases b2 with
          | cons a3 b3 =>
            cases a3 with
            | tup p1 p2 =>
              cases b3
              exact ⟨_, a, _, _, ms, ps, _, _, k, rfl, rfl, rfl, h1, h2, t1, m1, m2, p1, p2, h3⟩
theorem Mv.mk' {t mt pt : Addr} {a : Str} {ms : SS} {ps : List Pr} {mvs pvs : List V} {k : Nat} (h1 : okS a) (h2 : okM ms) (t1 : SqT K H t [.str a, .ref mt, .ref pt]) (m1 : SqT K H mt mvs) (m2 : DpAll K H mvs (ms.map ssD)) (p1 : SqT K H pt pvs) (p2 : Pv K H pvs k ps) : Mv K H (.ref t) (k + 1) (mnD a ms ps) :=
  ⟨.tup t1 (.cons (.str a) (.cons (.tup m1 m2) (.cons (.tup p1 p2.p) .nil))), .mk h1 h2 p2.m⟩
end
/-! ### holes -/
def holeB : PyData → Bool
  | .tuple [.str a, .tuple ms, _] => decide (a = "") && ms.isEmpty
  | _ => false
theorem holeB_mn (a : Str) (ms : SS) (ps : List Pr) : holeB (mnD a ms ps) = (decide (a = "") && ms.isEmpty) := by
  show (decide (a = "") && (ms.map ssD).isEmpty) = _
  cases ms <;> rfl
inductive HoleIn : PyData → Prop
  | here {d : PyData} : holeB d = true → HoleIn d
  | there {a : Str} {ms : SS} {ps : List Pr} {p : Pr} : p ∈ ps → HoleIn p.2 → HoleIn (mnD a ms ps)
theorem prD_inj : ∀ {ps qs : List Pr}, ps.map prD = qs.map prD → ps = qs
  | [], [], _ => rfl
  | [], _ :: _, h => by cases h
  | _ :: _, [], h => by cases h
  | p :: ps, q :: qs, h => by
    rw [List.map_cons, List.map_cons] at h
    injection h with h1 h2
    rw [prD_inj h2]
    unfold prD at h1
    injection h1 with h3
    injection h3 with h4 h5
    injection h4 with h6
    injection h5 with h7 _
    rw [show p = q from Prod.ext h6 h7]
theorem mnD_ps {a b : Str} {ms ns : SS} {ps qs : List Pr} (hd : mnD a ms ps = mnD b ns qs) : ps = qs := by
  unfold mnD at hd
  injection hd with h1
  injection h1 with _ h2
  injection h2 with _ h3
  injection h3 with h4 _
  injection h4 with h5
  exact prD_inj h5
theorem mn_uniq : ∀ n, (∀ d m, MnD n d → MnD m d → n = m) ∧ (∀ ps m, MnA n ps → MnA m ps → n = m) := by
  intro n
  induction n using Nat.strongRecOn with
  | ind n ih =>
    have hD : ∀ d m, MnD n d → MnD m d → n = m := fun d m h k => by
      obtain ⟨a, ms, ps, k1, rfl, rfl, h1, h2, h3⟩ := h.inv
      obtain ⟨b, ns, qs, k2, rfl, e, g1, g2, g3⟩ := k.inv
      have := mnD_ps e
      subst this
      rw [(ih k1 (by omega)).2 ps k2 h3 g3]
    have hK : ∀ k, k ≤ n → ∀ d m, MnD k d → MnD m d → k = m := fun k hk => by
      by_cases e : k = n
      · subst e
        exact hD
      · exact (ih k (by omega)).1
    have hL : ∀ ps k m, k ≤ n → MnA k ps → MnA m ps → k = m := fun ps => by
      induction ps with
      | nil => intro k m _ h g; cases h; cases g; rfl
      | cons p ps ihp =>
        intro k m hk h g
        cases h with
        | cons h1 h2 h3 =>
          cases g with
          | cons g1 g2 g3 => rw [hK _ (by omega) _ _ h2 g2, ihp _ _ (by omega) h3 g3]
    exact ⟨hD, fun ps m h g => hL ps n m (Nat.le_refl _) h g⟩
theorem hole_mn {a : Str} {ms : SS} {ps : List Pr} : HoleIn (mnD a ms ps) ↔ (holeB (mnD a ms ps) = true ∨ ∃ p ∈ ps, HoleIn p.2) := by
  constructor
  · intro h
    generalize hd : mnD a ms ps = d at h
    cases h with
    | here h => exact .inl h
    | @there b ns qs p hp h =>
      refine .inr ⟨p, ?_, h⟩
      unfold mnD at hd
      injection hd with h1
      injection h1 with _ h2
      injection h2 with _ h3
      injection h3 with h4 _
      injection h4 with h5
      rw [prD_inj h5]
      exact hp
  · rintro (h | ⟨p, hp, h⟩)
    · exact .here h
    · exact .there hp h
open Classical in
noncomputable def holed (d : PyData) : Bool := decide (HoleIn d)
open Classical in
theorem holed_iff (d : PyData) : holed d = true ↔ HoleIn d := by
  unfold holed
  exact decide_eq_true_iff
theorem holed_of {d : PyData} (h : HoleIn d) : holed d = true := (holed_iff d).mpr h
theorem holed_no {d : PyData} (h : ¬ HoleIn d) : holed d = false := by
  cases e : holed d with
  | false => rfl
  | true => exact absurd ((holed_iff d).mp e) h
/-- meanings in a row, so many nodes together -/
inductive MnL : Nat → List PyData → Prop
  | nil : MnL 0 []
  | cons {d : PyData} {n m : Nat} {ds : List PyData} : MnD n d → MnL m ds → MnL (n + m) (d :: ds)
theorem MnL.app {ds es : List PyData} : ∀ {n m : Nat}, MnL n ds → MnL m es → MnL (n + m) (ds ++ es) := by
  induction ds with
  | nil =>
    intro n m h k
    cases h
    rw [Nat.zero_add]
    exact k
  | cons d ds ih =>
    intro n m h k
    cases h with
    | cons h1 h2 =>
      rw [Nat.add_assoc]
      exact .cons h1 (ih h2 k)
theorem MnA.row {ps : List Pr} : ∀ {n : Nat}, MnA n ps → MnL n (ps.map (·.2)) := by
  induction ps with
  | nil => intro n h; cases h; exact .nil
  | cons p ps ih =>
    intro n h
    cases h with
    | cons _ h2 h3 => exact .cons h2 (ih h3)
theorem MnL.pos {n : Nat} {d : PyData} {ds : List PyData} (h : MnL n (d :: ds)) : ∃ k m, n = k + m ∧ 1 ≤ k ∧ MnD k d ∧ MnL m ds := by
  cases h with
  | cons h1 h2 =>
    obtain ⟨_, _, _, k, e, _⟩ := h1.inv
    exact ⟨_, _, rfl, by omega, h1, h2⟩
theorem MnL.len {ds : List PyData} : ∀ {n : Nat}, MnL n ds → ds.length ≤ n := by
  induction ds with
  | nil => exact fun _ => Nat.zero_le _
  | cons d ds ih =>
    intro n h
    obtain ⟨k, m, rfl, k1, _, h2⟩ := h.pos
    have := ih h2
    show ds.length + 1 ≤ k + m
    omega
theorem shaped_mn {n : Nat} {d : PyData} (h : MnD n d) (hn : n ≤ 20) : SeqAt.shaped d = true := by
  obtain ⟨a, b⟩ := (mn_facts n).1 d h
  show (d.canLay0 && decide (d.depth ≤ 64)) = true
  rw [a, decide_eq_true (by omega)]
  rfl
end Bn

namespace Bn
open PySem PySem.Spec PyProof.Rows L2 BR GX RM GY
def bit (b : Bool) : Nat := if b = true then 1 else 0
mutual
/-- so many holes -/
inductive Hc : Nat → PyData → Prop
  | mk {a : Str} {ms : SS} {ps : List Pr} {n : Nat} : HcA n ps → Hc (bit (holeB (mnD a ms ps)) + n) (mnD a ms ps)
inductive HcA : Nat → List Pr → Prop
  | nil : HcA 0 []
  | cons {p : Pr} {n m : Nat} {ps : List Pr} : Hc n p.2 → HcA m ps → HcA (n + m) (p :: ps)
end
theorem Hc.inv {n : Nat} {d : PyData} (h : Hc n d) : ∃ a ms ps k, n = bit (holeB d) + k ∧ d = mnD a ms ps ∧ HcA k ps := by
  cases h with
  | mk h => exact ⟨_, _, _, _, rfl, rfl, h⟩
theorem Hc.inv' {n : Nat} {a : Str} {ms : SS} {ps : List Pr} (h : Hc n (mnD a ms ps)) : ∃ k, n = bit (holeB (mnD a ms ps)) + k ∧ HcA k ps := by
  obtain ⟨a', ms', ps', k, e, ed, hk⟩ := h.inv
  have := mnD_ps ed
  subst this
  exact ⟨k, e, hk⟩
theorem HcA.perm {ps qs : List Pr} (p : ps.Perm qs) : ∀ {n : Nat}, HcA n ps → HcA n qs := by
  induction p with
  | nil => exact fun h => h
  | cons x _ ih =>
    intro n h
    cases h with
    | cons h1 h2 => exact .cons h1 (ih h2)
  | swap x y l =>
    intro n h
    cases h with
    | @cons _ a _ _ h1 h2 =>
      cases h2 with
      | @cons _ c e _ g1 g2 =>
        have : a + (c + e) = c + (a + e) := by omega
        rw [this]
        exact .cons g1 (.cons h1 g2)
  | trans _ _ i1 i2 => exact fun h => i2 (i1 h)
theorem HcA.app {ps qs : List Pr} : ∀ {n m : Nat}, HcA n ps → HcA m qs → HcA (n + m) (ps ++ qs) := by
  induction ps with
  | nil =>
    intro n m h k
    cases h
    rw [Nat.zero_add]
    exact k
  | cons p ps ih =>
    intro n m h k
    cases h with
    | cons h1 h2 =>
      rw [Nat.add_assoc]
      exact .cons h1 (ih h2 k)
/-- one of them -/
theorem HcA.at {ps : List Pr} : ∀ {n i : Nat} {p : Pr}, HcA n ps → ps[i]? = some p → ∃ k m, n = k + m ∧ Hc k p.2 ∧ (∀ {q : Pr} {c : Nat}, Hc c q.2 → HcA (c + m) (ps.set i q)) := by
  induction ps with
  | nil => intro n i p h e; simp at e
  | cons q ps ih =>
    intro n i p h e
    cases h with
    | cons h1 h2 =>
      rename_i a b
      cases i with
      | zero =>
        have e' := Option.some.inj e
        subst e'
        exact ⟨a, b, rfl, h1, fun hc => .cons hc h2⟩
      | succ i =>
        obtain ⟨k, m, e1, h3, h4⟩ := ih h2 e
        refine ⟨k, a + m, by omega, h3, fun {q' c} hc => ?_⟩
        have z : HcA (a + (c + m)) (q :: ps.set i q') := .cons h1 (h4 hc)
        have ez : c + (a + m) = a + (c + m) := by omega
        rw [ez]
        exact z
theorem MnA.swapAt {ps : List Pr} : ∀ {n i : Nat} {p : Pr}, MnA n ps → ps[i]? = some p → ∃ k m, n = k + m ∧ MnD k p.2 ∧ okS p.1 ∧ (∀ {d : PyData} {c : Nat}, MnD c d → MnA (c + m) (ps.set i (p.1, d))) := by
  induction ps with
  | nil => intro n i p h e; simp at e
  | cons q ps ih =>
    intro n i p h e
    cases h with
    | cons h1 h2 h3 =>
      rename_i r d0 a b
      cases i with
      | zero =>
        have e' := Option.some.inj e
        subst e'
        exact ⟨a, b, rfl, h2, h1, fun hc => .cons h1 hc h3⟩
      | succ i =>
        obtain ⟨k, m, e1, h4, h5, h6⟩ := ih h3 e
        refine ⟨k, a + m, by omega, h4, h5, fun {d c} hc => ?_⟩
        have z : MnA (a + (c + m)) ((r, d0) :: ps.set i (p.1, d)) := .cons h1 h2 (h6 hc)
        have ez : c + (a + m) = a + (c + m) := by omega
        rw [ez]
        exact z
/-! ### paths -/
inductive Path : PyData → List Nat → PyData → Prop
  | nil {d : PyData} : Path d [] d
  | cons {a : Str} {ms : SS} {ps : List Pr} {i : Nat} {p : Pr} {path : List Nat} {h : PyData} : ps[i]? = some p → Path p.2 path h → Path (mnD a ms ps) (i :: path) h
theorem Path.inv {a : Str} {ms : SS} {ps : List Pr} {i : Nat} {path : List Nat} {h : PyData} (x : Path (mnD a ms ps) (i :: path) h) : ∃ p, ps[i]? = some p ∧ Path p.2 path h := by
  generalize hd : mnD a ms ps = d at x
  generalize hp : i :: path = q at x
  cases x with
  | nil => cases hp
  | @cons b ns qs j p path' h' e x' =>
    cases hp
    have := mnD_ps hd
    subst this
    exact ⟨p, e, x'⟩
theorem hole_path {n : Nat} : ∀ {d : PyData}, MnD n d → HoleIn d → ∃ path h, Path d path h ∧ holeB h = true := by
  induction n using Nat.strongRecOn with
  | ind n ih =>
    intro d hd hh
    obtain ⟨a, ms, ps, k, rfl, rfl, _, _, hA⟩ := hd.inv
    rcases hole_mn.mp hh with y | ⟨p, hp, y⟩
    · exact ⟨[], _, .nil, y⟩
    · obtain ⟨i, hi⟩ := List.getElem?_of_mem hp
      obtain ⟨_, k', k1, k2, hD⟩ := hA.at hi
      obtain ⟨path, h, x, e⟩ := ih k' (by omega) hD y
      exact ⟨i :: path, h, .cons hi x, e⟩
theorem path_hole {d : PyData} {path : List Nat} {h : PyData} (x : Path d path h) (e : holeB h = true) : HoleIn d := by
  induction x with
  | nil => exact .here e
  | cons g _ ih => exact .there (List.mem_of_getElem? g) (ih e)
theorem Hc.zero {n : Nat} : ∀ {d : PyData}, MnD n d → Hc 0 d → ¬ HoleIn d := by
  induction n using Nat.strongRecOn with
  | ind n ih =>
    intro d hd hc hh
    obtain ⟨a, ms, ps, k, rfl, rfl, _, _, hA⟩ := hd.inv
    obtain ⟨k', e, hk⟩ := hc.inv'
    have e1 : bit (holeB (mnD a ms ps)) = 0 := by omega
    have e2 : k' = 0 := by omega
    subst e2
    rcases hole_mn.mp hh with y | ⟨p, hp, y⟩
    · rw [y] at e1
      cases e1
    · obtain ⟨i, hi⟩ := List.getElem?_of_mem hp
      obtain ⟨_, k2, k3, _, hD⟩ := hA.at hi
      obtain ⟨c, m, e3, hc2, _⟩ := hk.at hi
      have : c = 0 := by omega
      subst this
      exact ih k2 (by omega) hD hc2 y
theorem hcA_one {ps : List Pr} : ∀ {n : Nat}, HcA n ps → n = 1 → ∃ (i : Nat) (p : Pr), ps[i]? = some p ∧ Hc 1 p.2 ∧ ∀ (j : Nat) (q : Pr), ps[j]? = some q → j ≠ i → Hc 0 q.2 := by
  induction ps with
  | nil => intro n h e; cases h; cases e
  | cons q ps ihp =>
    intro n h e
    cases h with
    | @cons _ x y _ g1 g2 =>
      by_cases z : x = 0
      · subst z
        obtain ⟨i, p, hi, hp, rest⟩ := ihp g2 (by omega)
        refine ⟨i + 1, p, hi, hp, fun j q' hj nj => ?_⟩
        cases j with
        | zero =>
          cases Option.some.inj hj
          exact g1
        | succ j => exact rest j q' hj (by omega)
      · have ex : x = 1 := by omega
        have ey : y = 0 := by omega
        subst ex ey
        refine ⟨0, q, rfl, g1, fun j q' hj nj => ?_⟩
        cases j with
        | zero => exact absurd rfl nj
        | succ j =>
          obtain ⟨c, m, e3, hc2, _⟩ := g2.at (show ps[j]? = some q' from hj)
          have : c = 0 := by omega
          subst this
          exact hc2
theorem hc_uniq : ∀ n, (∀ d a b, MnD n d → Hc a d → Hc b d → a = b) ∧ (∀ ps a b, MnA n ps → HcA a ps → HcA b ps → a = b) := by
  intro n
  induction n using Nat.strongRecOn with
  | ind n ih =>
    have hD : ∀ d a b, MnD n d → Hc a d → Hc b d → a = b := fun d x y h h1 h2 => by
      obtain ⟨a, ms, ps, k1, rfl, rfl, _, _, h3⟩ := h.inv
      obtain ⟨k2, e2, g2⟩ := h1.inv'
      obtain ⟨k3, e3, g3⟩ := h2.inv'
      have := (ih k1 (by omega)).2 ps k2 k3 h3 g2 g3
      omega
    have hK : ∀ k, k ≤ n → ∀ d a b, MnD k d → Hc a d → Hc b d → a = b := fun k hk => by
      by_cases e : k = n
      · subst e
        exact hD
      · exact (ih k (by omega)).1
    have hL : ∀ ps k a b, k ≤ n → MnA k ps → HcA a ps → HcA b ps → a = b := fun ps => by
      induction ps with
      | nil => intro k a b _ _ h g; cases h; cases g; rfl
      | cons p ps ihp =>
        intro k a b hk h g g'
        cases h with
        | cons h1 h2 h3 =>
          cases g with
          | cons x1 x2 =>
            cases g' with
            | cons y1 y2 => rw [hK _ (by omega) _ _ _ h2 x1 y1, ihp _ _ _ (by omega) h3 x2 y2]
    exact ⟨hD, fun ps a b h g g' => hL ps n a b (Nat.le_refl _) h g g'⟩
/-- with one hole there is one way to it -/
theorem Hc.one {n : Nat} : ∀ {d : PyData}, MnD n d → Hc 1 d → ∃ path h, Path d path h ∧ holeB h = true ∧ Hc 1 h ∧ ∀ path' h', Path d path' h' → holeB h' = true → path' = path ∧ h' = h := by
  induction n using Nat.strongRecOn with
  | ind n ih =>
    intro d hd hc
    obtain ⟨a, ms, ps, k, rfl, rfl, _, _, hA⟩ := hd.inv
    obtain ⟨k', e, hk⟩ := hc.inv'
    have inner0 : ∀ {i : Nat} {p : Pr} {path h}, ps[i]? = some p → Hc 0 p.2 → Path p.2 path h → holeB h = true → False := fun {i p path h} hi h0 x y => by
      obtain ⟨_, k2, _, _, hD⟩ := hA.at hi
      exact Hc.zero hD h0 (path_hole x y)
    cases hb : holeB (mnD a ms ps) with
    | true =>
      rw [hb] at e
      have e2 : k' = 0 := by
        have : bit true = 1 := rfl
        omega
      subst e2
      refine ⟨[], _, .nil, hb, hc, fun path' h' x y => ?_⟩
      cases path' with
      | nil =>
        generalize hd : mnD a ms ps = d at x
        cases x
        exact ⟨rfl, rfl⟩
      | cons i path =>
        obtain ⟨p, hi, x'⟩ := x.inv
        obtain ⟨c, m, e3, hc2, _⟩ := hk.at hi
        have : c = 0 := by omega
        subst this
        exact (inner0 hi hc2 x' y).elim
    | false =>
      rw [hb] at e
      have e2 : k' = 1 := by
        have : bit false = 0 := rfl
        omega
      subst e2
      obtain ⟨i, p, hi, hp, rest⟩ := hcA_one hk rfl
      obtain ⟨_, k2, k3, _, hD⟩ := hA.at hi
      obtain ⟨path, h, x, y, hh, un⟩ := ih k2 (by omega) hD hp
      refine ⟨i :: path, h, .cons hi x, y, hh, fun path' h' x' y' => ?_⟩
      cases path' with
      | nil =>
        generalize hd : mnD a ms ps = d at x'
        cases x'
        rw [← hd, hb] at y'
        cases y'
      | cons j path2 =>
        obtain ⟨q, hj, x2⟩ := x'.inv
        by_cases z : j = i
        · subst z
          rw [hi] at hj
          cases hj
          obtain ⟨u1, u2⟩ := un _ _ x2 y'
          exact ⟨by rw [u1], u2⟩
        · exact (inner0 hj (rest j q hj z) x2 y').elim
/-! ### filling -/
inductive Fill (w : PyData) : PyData → List Nat → PyData → Prop
  | nil {d : PyData} : Fill w d [] w
  | cons {a : Str} {ms : SS} {ps : List Pr} {i : Nat} {p : Pr} {path : List Nat} {e : PyData} : ps[i]? = some p → Fill w p.2 path e → Fill w (mnD a ms ps) (i :: path) (mnD a ms (sortP (ps.set i (p.1, e))))
theorem mnD_inj {a b : Str} {ms ns : SS} {ps qs : List Pr} (h : mnD a ms ps = mnD b ns qs) : a = b ∧ ms.map ssD = ns.map ssD ∧ ps = qs := by
  refine ⟨?_, ?_, mnD_ps h⟩
  · unfold mnD at h
    injection h with x1
    injection x1 with x2 _
    injection x2
  · unfold mnD at h
    injection h with x1
    injection x1 with _ x3
    injection x3 with x4 _
    injection x4
theorem ssD_inj : ∀ {ms ns : SS}, ms.map ssD = ns.map ssD → ms = ns
  | [], [], _ => rfl
  | [], _ :: _, h => by cases h
  | _ :: _, [], h => by cases h
  | m :: ms, n :: ns, h => by
    rw [List.map_cons, List.map_cons] at h
    injection h with h1 h2
    rw [ssD_inj h2]
    unfold ssD at h1
    injection h1 with h3
    injection h3 with h4 h5
    injection h4 with h6
    injection h5 with h7 _
    injection h7 with h8
    rw [show m = n from Prod.ext h6 h8]
theorem Fill.uniq {w : PyData} {d : PyData} {path : List Nat} {e : PyData} (x : Fill w d path e) : ∀ {e' : PyData}, Fill w d path e' → e = e' := by
  induction x with
  | nil =>
    intro e' y
    cases y
    rfl
  | @cons a ms ps i p path e g x' ih =>
    intro e' y
    generalize hd : mnD a ms ps = d at y
    cases y with
    | @cons b ns qs _ q _ e2 g2 y' =>
      obtain ⟨rfl, h2, rfl⟩ := mnD_inj hd
      have := ssD_inj h2
      subst this
      rw [g] at g2
      cases g2
      rw [ih y']
theorem holeB_ps {a : Str} {ms : SS} {ps qs : List Pr} : holeB (mnD a ms ps) = holeB (mnD a ms qs) := by rw [holeB_mn, holeB_mn]
/-- nodes, holes of what comes of filling -/
theorem Fill.facts {w : PyData} {d : PyData} {path : List Nat} {e : PyData} (x : Fill w d path e) : ∀ {h : PyData} {n kh kw c ch cw : Nat}, Path d path h → MnD n d → MnD kh h → MnD kw w → Hc c d → Hc ch h → Hc cw w →
    (∃ m, MnD m e ∧ m + kh = n + kw) ∧ (∃ c', Hc c' e ∧ c' + ch = c + cw) ∧ path.length + kh ≤ n := by
  induction x with
  | nil =>
    intro h n kh kw c ch cw p hd hh hw hc hch hcw
    generalize hq : ([] : List Nat) = q at p
    cases p with
    | nil =>
      have := (mn_uniq n).1 _ _ hd hh
      subst this
      have := (hc_uniq n).1 _ _ _ hd hc hch
      exact ⟨⟨kw, hw, by omega⟩, ⟨cw, hcw, by omega⟩, by rw [List.length_nil]; omega⟩
    | cons => cases hq
  | @cons a ms ps i p path e g x' ih =>
    intro h n kh kw c ch cw pth hd hh hw hc hch hcw
    obtain ⟨q, hq, pth'⟩ := pth.inv
    rw [g] at hq
    cases hq
    obtain ⟨_, _, _, k, en, ed, oa, om, hA⟩ := hd.inv
    obtain ⟨rfl, e2, rfl⟩ := mnD_inj ed
    have := ssD_inj e2
    subst this
    obtain ⟨k1, m1, e3, hD1, okr, sw⟩ := hA.swapAt g
    obtain ⟨k', e4, hk⟩ := hc.inv'
    obtain ⟨c1, c2, e5, hc1, swc⟩ := hk.at g
    obtain ⟨⟨m, hm, em⟩, ⟨c', hc', ec⟩, le⟩ := ih pth' hD1 hh hw hc1 hch hcw
    refine ⟨⟨m + m1 + 1, .mk oa om ((sw hm).perm (sortP_perm _).symm), by omega⟩, ⟨bit (holeB (mnD a ms (sortP (ps.set i (p.1, e))))) + (c' + c2), .mk ((swc (q := (p.1, e)) hc').perm (sortP_perm _).symm), ?_⟩, by rw [List.length_cons]; omega⟩
    rw [holeB_ps (qs := ps)]
    omega
end Bn

namespace Bn
open PySem PySem.Spec PyProof.Rows L2
def topS (i : Nat) : Stmt := PySem.Challenge.pw_speechloom_k24_holes_filled.main.body.getD i (.Pass ⟨0, 0, 0, 0⟩)
abbrev s_nodes_of : Stmt := topS 1
theorem sc_nodes_of : FnScope ["meaning"] ["meaning"] (defScope s_nodes_of) := ⟨rfl, rfl, rfl, by decide +kernel, rfl, by decide +kernel, by decide +kernel⟩
abbrev s_has_hole : Stmt := topS 2
theorem sc_has_hole : FnScope ["meaning", "inner", "around", "number"] ["meaning"] (defScope s_has_hole) := ⟨rfl, rfl, rfl, by decide +kernel, rfl, by decide +kernel, by decide +kernel⟩
abbrev s_filled : Stmt := topS 3
theorem sc_filled : FnScope ["meaning", "filler", "rows", "at", "around", "number", "hole", "whole", "outer", "above", "place", "inner"] ["meaning", "filler"] (defScope s_filled) := ⟨rfl, rfl, rfl, by decide +kernel, rfl, by decide +kernel, by decide +kernel⟩
abbrev s_is_hole : Stmt := topS 4
theorem sc_is_hole : FnScope ["meaning"] ["meaning"] (defScope s_is_hole) := ⟨rfl, rfl, rfl, by decide +kernel, rfl, by decide +kernel, by decide +kernel⟩
abbrev s_rising : Stmt := topS 5
theorem sc_rising : FnScope ["pairs"] ["pairs"] (defScope s_rising) := ⟨rfl, rfl, rfl, by decide +kernel, rfl, by decide +kernel, by decide +kernel⟩
abbrev s_with_changed_pair : Stmt := topS 6
theorem sc_with_changed_pair : FnScope ["meaning", "number", "inner", "atom", "marks", "pairs", "role"] ["meaning", "number", "inner"] (defScope s_with_changed_pair) := ⟨rfl, rfl, rfl, by decide +kernel, rfl, by decide +kernel, by decide +kernel⟩
abbrev s_all_within : Stmt := topS 7
theorem sc_all_within : FnScope ["meaning", "rows", "at", "pairs", "number", "pair"] ["meaning"] (defScope s_all_within) := ⟨rfl, rfl, rfl, by decide +kernel, rfl, by decide +kernel, by decide +kernel⟩
abbrev s_l_cell_at : Stmt := topS 9
theorem sc_l_cell_at : FnScope ["_law_script", "_law_k"] ["_law_script", "_law_k"] (defScope s_l_cell_at) := ⟨rfl, rfl, rfl, by decide +kernel, rfl, by decide +kernel, by decide +kernel⟩
abbrev s_l_mixed : Stmt := topS 10
theorem sc_l_mixed : FnScope ["_law_number", "_law_k", "_law_once", "_law_twice"] ["_law_number", "_law_k"] (defScope s_l_mixed) := ⟨rfl, rfl, rfl, by decide +kernel, rfl, by decide +kernel, by decide +kernel⟩
abbrev s_l_box : Stmt := topS 11
theorem sc_l_box : FnScope ["_law_script", "_law_k", "_law_cell"] ["_law_script", "_law_k"] (defScope s_l_box) := ⟨rfl, rfl, rfl, by decide +kernel, rfl, by decide +kernel, by decide +kernel⟩
abbrev s_l_take : Stmt := topS 12
theorem sc_l_take : FnScope ["_law_box_here", "_law_many", "_law_found"] ["_law_box_here", "_law_many"] (defScope s_l_take) := ⟨rfl, rfl, rfl, by decide +kernel, rfl, by decide +kernel, by decide +kernel⟩
abbrev s_l_meaning : Stmt := topS 13
theorem sc_l_meaning : FnScope ["_law_box_here", "_law_many", "_law_hole", "_law_atom", "_law_marks", "_law_left", "_law_pairs", "_law_some", "_law_inner", "_law_role"] ["_law_box_here", "_law_many", "_law_hole"] (defScope s_l_meaning) := ⟨rfl, rfl, rfl, by decide +kernel, rfl, by decide +kernel, by decide +kernel⟩
abbrev s_l_nodes : Stmt := topS 14
theorem sc_l_nodes : FnScope ["_law_meaning_here", "_law_waiting", "_law_many", "_law_role", "_law_one"] ["_law_meaning_here"] (defScope s_l_nodes) := ⟨rfl, rfl, rfl, by decide +kernel, rfl, by decide +kernel, by decide +kernel⟩
abbrev s_l_holed : Stmt := topS 15
theorem sc_l_holed : FnScope ["_law_meaning_here", "_law_waiting", "_law_one", "_law_role", "_law_inner"] ["_law_meaning_here"] (defScope s_l_holed) := ⟨rfl, rfl, rfl, by decide +kernel, rfl, by decide +kernel, by decide +kernel⟩
abbrev s_l_way : Stmt := topS 16
theorem sc_l_way : FnScope ["_law_meaning_here", "_law_k", "_law_pair"] ["_law_meaning_here"] (defScope s_l_way) := ⟨rfl, rfl, rfl, by decide +kernel, rfl, by decide +kernel, by decide +kernel⟩
abbrev s_l_due : Stmt := topS 17
theorem sc_l_due : FnScope ["_law_meaning_here", "_law_way_here", "_law_filler", "_law_pairs", "_law_role", "_law_inner"] ["_law_meaning_here", "_law_way_here", "_law_filler"] (defScope s_l_due) := ⟨rfl, rfl, rfl, by decide +kernel, rfl, by decide +kernel, by decide +kernel⟩
abbrev s_l_right : Stmt := topS 18
theorem sc_l_right : FnScope ["_law_box_here", "_law_one", "_law_filler", "_law_way_here", "_law_hole", "_law_k", "_law_due_here", "_law_turn"] ["_law_box_here"] (defScope s_l_right) := ⟨rfl, rfl, rfl, by decide +kernel, rfl, by decide +kernel, by decide +kernel⟩
abbrev s_law : Stmt := topS 19
theorem sc_law : FnScope ["_law_script", "_law_k"] ["_law_script"] (defScope s_law) := ⟨rfl, rfl, rfl, by decide +kernel, rfl, by decide +kernel, by decide +kernel⟩

end Bn

namespace Bn
open PySem PySem.Spec PyProof.Rows L2 BR
section
variable {P : Program} {w : World} {K : PySem.W.Frag} {mg : Str → Option Value} {base : Heap}
/-! ### cell_at -/
def spCell (K : PySem.W.Frag) : Sp := fun vs H Q _ => ∃ (a : Addr) (ns : List Int) (k : Nat), vs = [.ref a, .int (k : Nat)] ∧ SqL K H a (ns.map V.int) ∧ ∀ m : Int, Q (.int m) H
theorem ok_cell {f : Addr} {fd : FuncData} {k : Nat} (F : Fun K "_law_cell_at" "_law_cell_at" s_l_cell_at f fd) (ml : mg "len" = none) : FnOk P w K mg base CX0 (k + 1) f fd ["_law_script", "_law_k"] (spCell K) := by
  refine F.ok sc_l_cell_at (fun vs H Q E h => ?_) (fun cdv A outer s H vs Q E hr h => ?_)
  · obtain ⟨a, ns, k, rfl, _⟩ := h
    rfl
  · obtain ⟨a, ns, k, rfl, hS, q⟩ := h
    refine ⟨_, pss_cons (ps_if (pt_cmpR op_lt (pv 1) (pe_callB call_len_seq (by rfl) ml PySem.boot_len (pa_cons (pv 0) pa_nil)) (nomark _)) (pss_one (ps_ret (pe_ix ix_list (pv 0) (pv 1) (fun _ _ => rfl)))) pss_nil) (pss_one (ps_ret pe_int)), ?_⟩
    refine ⟨_, rfl, _, rfl, a, _, rfl, .inl hS, _, _, rfl, rfl, _, rfl, ite2 (fun e => ?_) (fun e => ?_)⟩
    · have e' := of_decide_eq_true e
      rw [List.length_map] at e'
      have hk : k < ns.length := by omega
      refine ⟨_, rfl, _, rfl, a, _, _, V.int ns[k], rfl, rfl, hS, atI_nat ?_, q _⟩
      rw [List.getElem?_map, List.getElem?_eq_getElem hk]
      rfl
    · exact q _
/-! ### mixed -/
def spMixed : Sp := fun vs H Q _ => ∃ (n k : Int), vs = [.int n, .int k] ∧ ∀ m : Int, Q (.int m) H
theorem ok_mixed {f : Addr} {fd : FuncData} {k : Nat} (F : Fun K "_law_mixed" "_law_mixed" s_l_mixed f fd) : FnOk P w K mg base CX0 (k + 1) f fd ["_law_number", "_law_k"] spMixed := by
  refine F.ok sc_l_mixed (fun vs H Q E h => ?_) (fun cdv A outer s H vs Q E hr h => ?_)
  · obtain ⟨n, k, rfl, _⟩ := h
    rfl
  · obtain ⟨n, k, rfl, q⟩ := h
    refine ⟨_, pss_cons (ps_set (i := 2) sc_l_mixed.nd rfl (.inl rfl) (pe_op op_mod (pe_op op_mul (pe_op op_add (pe_op op_add (pe_op op_mod (pv 0) pe_int) (pe_op op_mul pe_int (pv 1))) pe_int) pe_int) pe_int))
      (pss_cons (ps_set (i := 3) sc_l_mixed.nd rfl (.inl rfl) (pe_op op_mod (pe_op op_mul (pv 2) (pe_op op_add (pe_op op_add (pe_op op_mod (pv 2) pe_int) (pv 1)) pe_int)) pe_int))
      (pss_one (ps_ret (pe_op op_mod (pe_op op_add (pe_op op_mul (pv 3) pe_int) (pv 2)) pe_int)))), ?_⟩
    refine ⟨_, rfl, _, _, rfl, rfl, (by show (0 : Int) < 1000000007; decide), _, rfl, _, _, rfl, rfl, .inl ⟨by decide, by decide⟩, _, _, rfl, rfl, _, _, rfl, rfl, _, _, rfl, rfl, .inr ⟨by decide, by decide⟩, _, _, rfl, rfl, (by show (0 : Int) < 2147483647; decide), ?_⟩
    generalize (n % 1000000007 + 7 * k + 1) * 48271 = y
    have y0 := Int.emod_nonneg y (show (2147483647 : Int) ≠ 0 by decide)
    have y1 := Int.emod_lt_of_pos y (show (0 : Int) < 2147483647 by decide)
    refine ⟨_, rfl, _, rfl, _, _, rfl, rfl, (by show (0 : Int) < 1009; decide), _, rfl, _, _, rfl, rfl, _, _, rfl, rfl, _, _, rfl, rfl, .inl ⟨by omega, by omega⟩, _, _, rfl, rfl, (by show (0 : Int) < 998244353; decide), ?_⟩
    exact ⟨_, rfl, _, _, rfl, rfl, .inr ⟨by decide, by decide⟩, _, rfl, _, _, rfl, rfl, _, _, rfl, rfl, (by show (0 : Int) < 2147483629; decide), q _⟩
theorem bit_lo (b : Bool) : -(2 ^ 64) < (if b = true then (1 : Int) else 0) := by cases b <;> decide
theorem bit_hi (b : Bool) : (if b = true then (1 : Int) else 0) < 2 ^ 64 := by cases b <;> decide
/-! ### box -/
def spBox (K : PySem.W.Frag) : Sp := fun vs H Q _ => ∃ (a : Addr) (ns : List Int) (k : Nat), vs = [.ref a, .int (k : Nat)] ∧ SqL K H a (ns.map V.int) ∧ ∀ p H', H p = none → Same H H' → Bx H' p → Q (.ref p) H'
theorem ok_box {f fC fM : Addr} {fd fdC fdM : FuncData} (F : Fun K "_law_box" "_law_box" s_l_box f fd)
    (kC : PySem.W.keepIn K (.ref fC) = true) (bC : Binds K fdC ["_law_script", "_law_k"] []) (gC : mg "_law_cell_at" = some (.ref fC)) (GC : FnOk P w K mg base CX0 1 fC fdC ["_law_script", "_law_k"] (spCell K))
    (kM : PySem.W.keepIn K (.ref fM) = true) (bM : Binds K fdM ["_law_number", "_law_k"] []) (gM : mg "_law_mixed" = some (.ref fM)) (GM : FnOk P w K mg base CX0 1 fM fdM ["_law_number", "_law_k"] spMixed)
    (ma : mg "abs" = none) (mi : mg "int" = none) : FnOk P w K mg base CX0 2 f fd ["_law_script", "_law_k"] (spBox K) := by
  refine F.ok sc_l_box (fun vs H Q E h => ?_) (fun cdv A outer s H vs Q E hr h => ?_)
  · obtain ⟨a, ns, k, rfl, _⟩ := h
    rfl
  · obtain ⟨a, ns, k, rfl, hS, q⟩ := h
    refine ⟨_, pss_cons (ps_set (i := 2) sc_l_box.nd rfl (.inl rfl) (pe_call GC hr (by rfl) gC kC bC .nil pass0 (pa_cons (pv 0) (pa_cons (pv 1) pa_nil))))
      (pss_one (ps_ret (pe_lst (pa_cons (pe_op op_mul (pe_callB call_abs (by rfl) ma (by decide +kernel) (pa_cons (pv 2) pa_nil)) (pe_callTy call_int1 (by rfl) mi (by decide +kernel) (pa_cons (pe_cmpR op_ge (pe_callB call_abs (by rfl) ma (by decide +kernel) (pa_cons (pv 2) pa_nil)) (pe_op op_pow pe_int pe_int) (nomark _)) pa_nil)))
        (pa_cons (pe_call GM hr (by rfl) gM kM bM .nil pass0 (pa_cons (pv 2) (pa_cons (pe_op op_add pe_int (pv 1)) pa_nil))) (pa_cons pe_int pa_nil)))))), ?_⟩
    refine ⟨_, rfl, _, rfl, a, ns, k, rfl, hS, fun c => ?_⟩
    refine ⟨_, rfl, _, rfl, _, rfl, _, rfl, _, _, rfl, rfl, ⟨by decide, by decide, by decide⟩, _, _, rfl, rfl, .inr ⟨_, rfl, _, _, rfl, rfl, .inr ⟨bit_lo _, bit_hi _⟩, _, rfl, _, rfl, _, _, rfl, rfl, _, _, rfl, fun m => ⟨(show 3 ≤ sizeLine by decide), fun p np => ?_⟩⟩⟩
    exact q p _ np (same_new np) ⟨_, _, _, upd_same⟩
/-! ### take -/
def spTake : Sp := fun vs H Q _ => ∃ (b : Addr) (m : Int), vs = [.ref b, .int m] ∧ Bx H b ∧ 0 < m ∧ m < 1073741824 ∧ ∀ (n : Nat) H', (n : Int) < m → Kb b H H' → Q (.int (n : Nat)) H'
theorem ok_take {f fM : Addr} {fd fdM : FuncData} (F : Fun K "_law_take" "_law_take" s_l_take f fd)
    (kM : PySem.W.keepIn K (.ref fM) = true) (bM : Binds K fdM ["_law_number", "_law_k"] []) (gM : mg "_law_mixed" = some (.ref fM)) (GM : FnOk P w K mg base CX0 1 fM fdM ["_law_number", "_law_k"] spMixed) : FnOk P w K mg base CX0 2 f fd ["_law_box_here", "_law_many"] spTake := by
  refine F.ok sc_l_take (fun vs H Q E h => ?_) (fun cdv A outer s H vs Q E hr h => ?_)
  · obtain ⟨b, m, rfl, _⟩ := h
    rfl
  · obtain ⟨b, m, rfl, ⟨x, y, z, hb⟩, m0, m1, q⟩ := h
    have fin : ∀ (t : Int) (H' : Hp), Kb b H H' → Q (.int (t % m)) H' := fun t H' k => by
      have t0 := Int.emod_nonneg t (show m ≠ 0 by omega)
      have t1 := Int.emod_lt_of_pos t m0
      have e : t % m = (((t % m).toNat : Nat) : Int) := (Int.toNat_of_nonneg t0).symm
      rw [e]
      exact q _ _ (by omega) k
    refine ⟨_, pss_cons (ps_if (pt_cmpR op_gt (pe_ix ix_list (pv 0) pe_int (fun _ _ => rfl)) pe_int (nomark _))
        (pss_cons (ps_set (i := 2) sc_l_take.nd rfl (.inl rfl) (pe_op op_mod (pe_ix ix_list (pv 0) pe_int (fun _ _ => rfl)) (pv 1)))
        (pss_cons (ps_asg (pe_op op_fdiv (pe_ix ix_list (pv 0) pe_int (fun _ _ => rfl)) (pv 1)) (pg_sub (pv 0) pe_int set_list))
        (pss_one (ps_ret (pv 2))))) pss_nil)
      (pss_cons (ps_asg (pe_op op_add (pe_ix ix_list (pv 0) pe_int (fun _ _ => rfl)) pe_int) (pg_sub (pv 0) pe_int set_list))
      (pss_one (ps_ret (pe_op op_mod (pe_call GM hr (by rfl) gM kM bM .nil pass0 (pa_cons (pe_ix ix_list (pv 0) pe_int (fun _ _ => rfl)) (pa_cons (pe_ix ix_list (pv 0) pe_int (fun _ _ => rfl)) pa_nil))) (pv 1))))), ?_⟩
    have hL : SqL K H b [.int x, .int y, .int z] := .inl (.inl hb)
    refine ⟨_, rfl, b, _, _, .int x, rfl, rfl, hL, rfl, _, _, rfl, rfl, _, rfl, ite2 (fun e => ?_) (fun e => ?_)⟩
    · refine ⟨_, rfl, b, _, _, .int x, rfl, rfl, hL, rfl, _, rfl, _, _, rfl, rfl, m0, ?_⟩
      refine ⟨_, rfl, b, _, _, .int x, rfl, rfl, hL, rfl, _, rfl, _, _, rfl, rfl, ⟨m0, m1⟩, _, rfl, b, _, _, 0, rfl, rfl, hb, rfl, ?_⟩
      exact ⟨_, rfl, fin x _ ⟨Kp.put, ⟨_, _, _, upd_same⟩⟩⟩
    · refine ⟨_, rfl, b, _, _, .int z, rfl, rfl, hL, rfl, _, _, rfl, rfl, _, rfl, b, _, _, 2, rfl, rfl, hb, rfl, ?_⟩
      have hL2 : SqL K (upd H b (.lst [.int x, .int y, .int (z + 1)])) b [.int x, .int y, .int (z + 1)] := .inl (.inl upd_same)
      refine ⟨_, rfl, b, _, _, .int y, rfl, rfl, hL2, rfl, _, rfl, b, _, _, .int (z + 1), rfl, rfl, hL2, rfl, _, _, rfl, fun n1 => ?_⟩
      exact ⟨_, rfl, _, _, rfl, rfl, m0, fin n1 _ ⟨Kp.put, ⟨_, _, _, upd_same⟩⟩⟩
end
end Bn

namespace Bn
open PySem PySem.Spec PyProof.Rows L2 BR GX RM GY
section
variable {P : Program} {w : World} {K : PySem.W.Frag} {mg : Str → Option Value} {base : Heap}
/-! ### is_hole -/
def spHole (K : PySem.W.Frag) : Sp := fun vs H Q _ => ∃ (v : V) (n : Nat) (d : PyData), vs = [v] ∧ Mv K H v n d ∧ n ≤ 100 ∧ ∀ H', Same H H' → Q (.bl (holeB d)) H'
theorem ss_nil_eqv (ms : SS) : PyData.eqv (.tuple (ms.map ssD)) (.tuple []) = ms.isEmpty := by
  cases ms with
  | nil => rfl
  | cons m ms => rfl
theorem ss_shaped {ms : SS} (h : okM ms) : SeqAt.shaped (.tuple (ms.map ssD)) = true := by
  obtain ⟨a, b⟩ := ss_facts ms h
  show (PyData.canLayAll0 (ms.map ssD) && decide (PyData.depthAll (ms.map ssD) + 1 ≤ 64)) = true
  rw [a, decide_eq_true (by omega)]
  rfl
theorem ok_isHole {f : Addr} {fd : FuncData} {k : Nat} (F : Fun K "is_hole" "is_hole" s_is_hole f fd) : FnOk P w K mg base CX0 (k + 1) f fd ["meaning"] (spHole K) := by
  refine F.ok sc_is_hole (fun vs H Q E h => ?_) (fun cdv A outer s H vs Q E hr h => ?_)
  · obtain ⟨v, n, d, rfl, _⟩ := h
    rfl
  · obtain ⟨v, n, d, rfl, hM, hn, q⟩ := h
    obtain ⟨t, a, mt, pt, ms, ps, mvs, pvs, k, rfl, rfl, rfl, o1, o2, t1, m1, m2, p1, p2⟩ := hM.inv
    refine ⟨_, pss_one (ps_ret (pe_and (pe_cmpR op_eq (pe_ix ix_tup (pv 0) pe_int (fun _ _ => rfl)) pe_str (nomark _)) (pe_one (pe_cmpR (op_eqD hr.units) (pe_ix ix_tup (pv 0) pe_int (fun _ _ => rfl)) (pe_tup pa_nil) (nomark _))))), ?_⟩
    refine ⟨_, rfl, t, _, _, V.str a, rfl, rfl, t1, rfl, rfl, _, rfl, ?_⟩
    rw [holeB_mn] at q
    have e1 : decide (V.str a = V.str "") = decide (a = "") := by
      by_cases h : a = ""
      · subst h
        rfl
      · rw [decide_eq_false h, decide_eq_false fun z => h (V.str.inj z)]
    by_cases h : a = ""
    · rw [decide_eq_true h] at q e1
      rw [e1]
      refine iteT ⟨_, rfl, t, _, _, V.ref mt, rfl, rfl, t1, rfl, Nat.zero_le _, fun p np => ?_⟩
      have sp := same_new (o := .tup []) np
      refine ⟨_, _, .tup (sqT_same sp _ _ m1) (dp_keepAll (sqT_same sp) _ _ (noL_ss ms) m2), .tup (.inl (.inl upd_same)) .nil, ss_shaped o2, rfl, ?_⟩
      rw [ss_nil_eqv]
      exact q _ sp
    · rw [decide_eq_false h] at q e1
      rw [e1]
      exact iteF (q _ (Same.refl _))
/-! ### all_within -/
abbrev Rws (K : PySem.W.Frag) (H : Hp) (ts : List Addr) (ds : List PyData) : Prop := Paired (fun t d => ∃ (v : V) (n : Nat) (a b : Int), H t = some (.tup [v, .int a, .int b]) ∧ Mv K H v n d ∧ n ≤ 100) ts ds
theorem Rws.same {H H' : Hp} {ts : List Addr} {ds : List PyData} (h : Rws K H ts ds) (s : Same H H') : Rws K H' ts ds := paired_mono h fun t d ⟨v, n, a, b, e, m, hn⟩ => ⟨v, n, a, b, s _ _ e, m.same s, hn⟩
theorem Rws.updL {H : Hp} {D : Addr} {xs : List V} {o : HO} {ts : List Addr} {ds : List PyData} (h : Rws K H ts ds) (hD : H D = some (.lst xs)) : Rws K (upd H D o) ts ds := paired_mono h fun t d ⟨v, n, a, b, e, m, hn⟩ => ⟨v, n, a, b, by rw [upd_ne (ne_of e hD (by intro z; cases z))]; exact e, m.keep (sqT_upd hD), hn⟩
abbrev Row := PyData × Int × Int
abbrev RwsX (K : PySem.W.Frag) (H : Hp) (ts : List Addr) (rs : List Row) : Prop := Paired (fun t r => ∃ (v : V) (n : Nat), H t = some (.tup [v, .int r.2.1, .int r.2.2]) ∧ Mv K H v n r.1 ∧ n ≤ 100) ts rs
theorem RwsX.same {H H' : Hp} {ts : List Addr} {rs : List Row} (h : RwsX K H ts rs) (s : Same H H') : RwsX K H' ts rs := paired_mono h fun t d ⟨v, n, e, m, hn⟩ => ⟨v, n, s _ _ e, m.same s, hn⟩
theorem RwsX.updL {H : Hp} {D : Addr} {xs : List V} {o : HO} {ts : List Addr} {rs : List Row} (h : RwsX K H ts rs) (hD : H D = some (.lst xs)) : RwsX K (upd H D o) ts rs := paired_mono h fun t d ⟨v, n, e, m, hn⟩ => ⟨v, n, by rw [upd_ne (ne_of e hD (by intro z; cases z))]; exact e, m.keep (sqT_upd hD), hn⟩
theorem RwsX.old {H : Hp} {ts : List Addr} {rs : List Row} (h : RwsX K H ts rs) : Rws K H ts (rs.map (·.1)) := by
  induction h with
  | nil => exact .nil
  | cons x _ ih =>
    obtain ⟨v, n, e, m, hn⟩ := x
    exact .cons ⟨v, n, _, _, e, m, hn⟩ ih
/-- each row but the first tells where it stands -/
def Lk (d : PyData) (rs : List Row) : Prop := rs[0]? = some (d, -1, 0) ∧ ∀ (j : Nat) (r : Row), rs[j]? = some r → 0 < j → ∃ (i k : Nat) (a : Str) (ms : SS) (ps : List Pr) (p : Pr) (r' : Row), i < j ∧ r.2 = ((i : Int), (k : Int)) ∧ rs[i]? = some r' ∧ r'.1 = mnD a ms ps ∧ ps[k]? = some p ∧ p.2 = r.1
def prs (k : Nat) (ps : List Pr) : List Row := ps.zipIdx.map fun q => (q.1.2, (k : Int), (q.2 : Int))
theorem prs_at {k i : Nat} {ps : List Pr} {p : Pr} (h : ps[i]? = some p) : (prs k ps)[i]? = some (p.2, (k : Int), (i : Int)) := by
  unfold prs
  rw [List.getElem?_map, List.getElem?_zipIdx, h]
  show some (p.2, (k : Int), ((0 + i : Nat) : Int)) = _
  rw [Nat.zero_add]
theorem prs_len (k : Nat) (ps : List Pr) : (prs k ps).length = ps.length := by
  unfold prs
  rw [List.length_map, List.length_zipIdx]
theorem prs_fst (k : Nat) (ps : List Pr) : (prs k ps).map (·.1) = ps.map (·.2) := by
  refine List.ext_getElem? fun i => ?_
  rw [List.getElem?_map, List.getElem?_map]
  cases h : ps[i]? with
  | none =>
    have h1 := List.getElem?_eq_none_iff.mp h
    rw [List.getElem?_eq_none_iff.mpr (by rw [prs_len]; exact h1)]
    rfl
  | some p =>
    rw [prs_at h]
    rfl
theorem prs_of {k i : Nat} {ps : List Pr} {r : Row} (h : (prs k ps)[i]? = some r) : ∃ p, ps[i]? = some p ∧ r = (p.2, (k : Int), (i : Int)) := by
  have hl := (List.getElem?_eq_some_iff.mp h).1
  rw [prs_len] at hl
  have e : ps[i]? = some ps[i] := List.getElem?_eq_getElem hl
  rw [prs_at e] at h
  exact ⟨_, e, (Option.some.inj h).symm⟩
theorem Lk.app {d : PyData} {rs : List Row} {k : Nat} {a : Str} {ms : SS} {ps : List Pr} {r : Row} (h : Lk d rs) (hk : rs[k]? = some r) (e : r.1 = mnD a ms ps) : Lk d (rs ++ prs k ps) := by
  have hl := (List.getElem?_eq_some_iff.mp hk).1
  have ap : ∀ {i : Nat} {x : Row}, rs[i]? = some x → (rs ++ prs k ps)[i]? = some x := fun {i x} hx => by
    rw [List.getElem?_append_left (List.getElem?_eq_some_iff.mp hx).1]
    exact hx
  refine ⟨ap h.1, fun j x hx hj => ?_⟩
  by_cases z : j < rs.length
  · rw [List.getElem?_append_left z] at hx
    obtain ⟨i, k', a', ms', ps', p', r', e1, e2, e3, e4, e5, e6⟩ := h.2 j x hx hj
    exact ⟨i, k', a', ms', ps', p', r', e1, e2, ap e3, e4, e5, e6⟩
  · rw [List.getElem?_append_right (by omega)] at hx
    obtain ⟨p, hp, rfl⟩ := prs_of hx
    exact ⟨k, _, a, ms, ps, p, r, by omega, rfl, ap hk, e, hp, rfl⟩
def atOf (σ : L2.St) : Nat := match σ[2]? with
  | some (some (V.int i)) => i.toNat
  | _ => 0
def spAll (K : PySem.W.Frag) : Sp := fun vs H Q _ => ∃ (v : V) (n : Nat) (d : PyData), vs = [v] ∧ Mv K H v n d ∧ n ≤ 100 ∧ ∀ (r : Addr) (H' : Hp) (ts : List Addr) (rs : List Row), H r = none → Same H H' → H' r = some (.lst (ts.map V.ref)) → RwsX K H' ts rs → Lk d rs → rs.length = n → ((∃ x ∈ rs.map (·.1), holeB x = true) ↔ HoleIn d) → Q (.ref r) H'
abbrev NA : List Str := ["meaning", "rows", "at", "pairs", "number", "pair"]
theorem ok_all {f : Addr} {fd : FuncData} {k : Nat} (F : Fun K "all_within" "all_within" s_all_within f fd) (ml : mg "len" = none) (me : mg "enumerate" = none) : FnOk P w K mg base CX0 (k + 1) f fd ["meaning"] (spAll K) := by
  refine F.ok sc_all_within (fun vs H Q E h => ?_) (fun cdv A outer s H vs Q E hr h => ?_)
  · obtain ⟨v, n, d, rfl, _⟩ := h
    rfl
  · obtain ⟨v, n, d, rfl, hM, hn, q⟩ := h
    refine ⟨_, pss_cons (ps_set (i := 1) sc_all_within.nd rfl (.inl rfl) (pe_lst (pa_cons (pe_tup (pa_cons (pv 0) (pa_cons (pe_un un_neg pe_int) (pa_cons pe_int pa_nil)))) pa_nil)))
      (pss_cons (ps_set (i := 2) sc_all_within.nd rfl (.inr rfl) pe_int)
      (pss_cons (ps_while PassesOwn.never (pt_cmpR op_lt (pv 2) (pe_callB call_len_seq (by rfl) ml PySem.boot_len (pa_cons (pv 1) pa_nil)) (nomark _))
        (pss_cons (ps_set (i := 3) sc_all_within.nd rfl (.inl rfl) (pe_ix ix_tup (pe_ix ix_tup (pe_ix ix_list (pv 1) (pv 2) (fun _ _ => rfl)) pe_int (fun _ _ => rfl)) pe_int (fun _ _ => rfl)))
        (pss_cons (ps_expr (pe_bm PySem.F.plainAttrs_list PySem.F.slot_list_extend PySem.F.type_list_extend mt_extend (pv 1) (pa_cons
          (pe_lc (own := [("number", 4), ("pair", 5)]) (tt := tYes) rfl sc_all_within.nd (pi_enumT (by rfl) me (pa_cons (pv 3) pa_nil))
            (blkOk_by (own := [("number", 4), ("pair", 5)]) (N := NA) (sc := defScope s_all_within) (by decide +kernel))
            (fun _ _ _ _ _ => pg_tupK (K := K) (n := 2) rfl (pg_tup (n := 2) rfl (pgs_cons (pg_name (i := 4) sc_all_within.nd rfl (Or.inl rfl)) (pgs_cons (pg_name (i := 5) sc_all_within.nd rfl (Or.inl rfl)) pgs_nil)))) (fun _ _ _ _ _ => pts_nil)
            (fun _ _ _ _ _ => pe_tup (pa_cons (pe_ix (ix_tupK (K := K) rfl) (pv 5) pe_int (fun _ _ => rfl)) (pa_cons (pv 2) (pa_cons (pv 4) pa_nil))))) pa_nil)))
        (pss_one (ps_aug (i := 2) sc_all_within.nd rfl (.inr rfl) pe_int ip_add)))))
      (pss_one (ps_ret (pv 1))))), ?_⟩
    refine ⟨_, rfl, _, rfl, (show 3 ≤ sizeLine by decide), fun t nt => ?_⟩
    have sA := same_new (o := .tup [v, .int (-1), .int 0]) nt
    have ht : (upd H t (.tup [v, .int (-1), .int 0])) t = some (.tup [v, .int (-1), .int 0]) := upd_same
    generalize upd H t (.tup [v, .int (-1), .int 0]) = HA at sA ht ⊢
    refine ⟨(show 1 ≤ sizeLine by decide), fun r nr => ?_⟩
    have sB := same_new (o := .lst [.ref t]) nr
    have hr0 : (upd HA r (.lst [.ref t])) r = some (.lst [.ref t]) := upd_same
    have nrH : H r = none := sA.free nr
    generalize upd HA r (.lst [.ref t]) = HB at sB hr0 ⊢
    have sHB : Same H HB := sA.trans sB
    refine while_by (fun σ HY => ∃ (y3 y4 y5 : Option V) (k : Nat) (ts : List Addr) (ds : List PyData) (m : Nat) (rs : List Row), σ = [some v, some (.ref r), some (.int (k : Nat)), y3, y4, y5] ∧ Same H HY ∧ HY r = some (.lst (ts.map V.ref)) ∧ RwsX K HY ts rs ∧ rs.map (·.1) = ds ∧ Lk d rs ∧ k ≤ ds.length ∧ MnL m (ds.drop k) ∧ k + m = n ∧ (((∃ x ∈ ds.take k, holeB x = true) ∨ ∃ x ∈ ds.drop k, HoleIn x) ↔ HoleIn d)) (fun σ _ => n - atOf σ) ?_ (fun σ HY hP => ?_) (fun σ HY Q1 Q2 hq h => ?_)
    · refine ⟨_, _, _, 0, [t], [d], n, [(d, -1, 0)], rfl, sHB, hr0, .cons ⟨v, n, sB _ _ ht, hM.same sHB, hn⟩ .nil, rfl, ⟨rfl, fun j r hj h0 => by cases j with | zero => omega | succ j => simp at hj⟩, Nat.zero_le _, ?_, Nat.zero_add _, ?_⟩
      · have : MnL (n + 0) [d] := .cons hM.m .nil
        exact this
      · show ((∃ x ∈ ([] : List PyData), holeB x = true) ∨ ∃ x ∈ [d], HoleIn x) ↔ HoleIn d
        constructor
        · rintro (⟨x, hx, _⟩ | ⟨x, hx, h⟩)
          · cases hx
          · rw [List.mem_singleton.mp hx] at h
            exact h
        · exact fun h => .inr ⟨d, List.mem_singleton.mpr rfl, h⟩
    · obtain ⟨y3, y4, y5, k, ts, ds, m, rs, rfl, sY, hr', hrs, edr, hlk, hk, hL, hkm, hho⟩ := hP
      have hts : Rws K HY ts ds := edr ▸ hrs.old
      have htl : ts.length = ds.length := Paired.length hts
      refine ⟨_, rfl, _, rfl, r, _, rfl, .inl (.inl (.inl hr')), _, _, rfl, rfl, _, rfl, ite2 (fun e => ?_) (fun e => ?_)⟩
      · have e' := of_decide_eq_true e
        rw [List.length_map] at e'
        have hkl : k < ts.length := by omega
        have et : ts[k]? = some ts[k] := List.getElem?_eq_getElem hkl
        obtain ⟨dk, hdk, v1, n1, a1, b1, ht1, hM1, hn1⟩ := paired_at hts et
        obtain ⟨t2, a, mt, pt, ms, ps, mvs, pvs, k2, rfl, rfl, rfl, o1, o2, t21, m1, m2, p1, p2⟩ := hM1.inv
        rw [drop_get hdk] at hL hho
        obtain ⟨kk, mm, em, kk1, hD1, hL2⟩ := hL.pos
        have ekk : kk = k2 + 1 := (mn_uniq kk).1 _ _ hD1 hM1.m
        subst ekk
        have hpl := p2.len
        have hpn := p2.m.len
        refine ⟨_, rfl, _, rfl, r, _, _, V.ref ts[k], rfl, rfl, .inl (.inl hr'), atI_nat (by rw [List.getElem?_map, et]; rfl), ts[k], _, _, V.ref t2, rfl, rfl, .inl (.inl ht1), rfl, t2, _, _, V.ref pt, rfl, rfl, t21, rfl, ?_⟩
        refine ⟨_, rfl, .inl ⟨rfl, _, .inl (.inl hr')⟩, _, rfl, pt, _, rfl, p1, fun D nD => ?_⟩
        have nDH : H D = none := sY.free nD
        have nrD : r ≠ D := fun z => by rw [z, nD] at hr'; cases hr'
        refine lc_it (walk_enumT (K := K) (a := pt) (xs := pvs)) (fun i HX => Same HY HX ∧ ∃ us : List Addr, HX D = some (.lst (us.map V.ref)) ∧ RwsX K HX us ((prs k ps).take i)) ⟨same_new nD, [], upd_same, .nil⟩ (fun i HX _ h => sqT_same h.1 _ _ p1) (fun i x HX HX' hi hP' hY => ?_) (fun HX hP' => ?_)
        · obtain ⟨T, u1, u2, rfl, nT, rfl, e1, e2⟩ := hY
          obtain ⟨sX, us, hD, hus⟩ := hP'
          have e1' := Option.some.inj e1
          subst e1'
          obtain ⟨p, pq, iv, kp, hpi, rfl, hpq, okp, kp1, kp2, hMi⟩ := (p2.same sX).at (show pvs[i]? = some u2 from e2)
          have sT := same_new (o := .tup [.int (i : Nat), .ref pq]) nT
          have hT : (upd HX T (.tup [.int (i : Nat), .ref pq])) T = some (.tup [.int (i : Nat), .ref pq]) := upd_same
          generalize upd HX T (.tup [.int (i : Nat), .ref pq]) = HT at sT hT ⊢
          refine ⟨T, _, rfl, .inl (.inl hT), rfl, _, _, rfl, _, _, rfl, rfl, ?_⟩
          refine ⟨rfl, tYes_in ?_⟩
          refine ⟨_, rfl, pq, _, _, iv, rfl, rfl, sqT_same sT _ _ hpq, rfl, _, rfl, _, rfl, (show 3 ≤ sizeLine by decide), fun t3 nt3 => ?_⟩
          have s3 := same_new (o := .tup [iv, .int (k : Nat), .int (i : Nat)]) nt3
          have h3 : (upd HT t3 (.tup [iv, .int (k : Nat), .int (i : Nat)])) t3 = some (.tup [iv, .int (k : Nat), .int (i : Nat)]) := upd_same
          generalize upd HT t3 (.tup [iv, .int (k : Nat), .int (i : Nat)]) = H3 at s3 h3 ⊢
          have sT3 := sT.trans s3
          have hD3 := sT3 _ _ hD
          have hil : i < ps.length := (List.getElem?_eq_some_iff.mp hpi).1
          refine ⟨_, hD3, ?_, Same.own (sX.trans sT3) nD, us ++ [t3], ?_, ?_⟩
          · rw [List.length_map, Paired.length hus, List.length_take]
            exact small1000 (by omega)
          · rw [upd_same, List.map_append]
            rfl
          · rw [take_get (prs_at (k := k) hpi)]
            exact RwsX.updL (paired_snoc (RwsX.same hus sT3) ⟨iv, kp, h3, hMi.same sT3, by omega⟩) hD3
        · obtain ⟨sX, us, hD, hus⟩ := hP'
          rw [hpl, ← prs_len k ps, List.take_length] at hus
          have hrX := sX _ _ hr'
          have htsX := RwsX.same hrs sX
          have hul : us.length = ps.length := by
            have := Paired.length hus
            rw [prs_len] at this
            exact this
          have hdl : ds.length ≤ 300 := by
            have h1 := hL2.len
            rw [List.length_drop] at h1
            omega
          refine ⟨r, D, _, _, rfl, rfl, hrX, hD, ?_, ?_⟩
          · rw [List.length_map, List.length_map]
            exact line1000 (by omega)
          have eL : (upd HX r (.lst (ts.map V.ref ++ us.map V.ref))) r = some (.lst ((ts ++ us).map V.ref)) := by rw [upd_same, List.map_append]
          have hR2 : RwsX K (upd HX r (.lst (ts.map V.ref ++ us.map V.ref))) (ts ++ us) (rs ++ prs k ps) := RwsX.updL (paired_app htsX hus) hrX
          have s2 : Same H (upd HX r (.lst (ts.map V.ref ++ us.map V.ref))) := Same.own (sY.trans sX) nrH
          generalize upd HX r (.lst (ts.map V.ref ++ us.map V.ref)) = HZ at eL hR2 s2 ⊢
          have hkd : k < ds.length := by omega
          have ed : (ds ++ ps.map (·.2)).drop (k + 1) = ds.drop (k + 1) ++ ps.map (·.2) := List.drop_append_of_le_length (by omega)
          have et2 : (ds ++ ps.map (·.2)).take (k + 1) = ds.take (k + 1) := List.take_append_of_le_length (by omega)
          refine ⟨_, rfl, _, _, rfl, rfl, ⟨some (V.ref pt), y4, y5, k + 1, ts ++ us, ds ++ ps.map (·.2), mm + k2, rs ++ prs k ps, ?_, s2, eL, hR2, ?_, ?_, ?_, ?_, by omega, ?_⟩, ?_⟩
          · exact congrArg (fun z => [some v, some (V.ref r), some (V.int z), some (V.ref pt), y4, y5]) (show ((k : Nat) : Int) + 1 = ((k + 1 : Nat) : Int) by omega)
          · rw [List.map_append, edr, prs_fst]
          · have hdk' := hdk
            rw [← edr, List.getElem?_map] at hdk'
            obtain ⟨rk, hrk, erk⟩ := Option.map_eq_some_iff.mp hdk'
            exact hlk.app hrk erk
          · rw [List.length_append]
            omega
          · rw [ed]
            exact hL2.app p2.m.row
          · rw [ed, et2, take_get hdk]
            rw [← hho]
            constructor
            · rintro (⟨x, hx, hb⟩ | ⟨x, hx, hb⟩)
              · rcases List.mem_append.mp hx with z | z
                · exact .inl ⟨x, z, hb⟩
                · rw [List.mem_singleton.mp z] at hb
                  exact .inr ⟨_, List.mem_cons_self .., .here hb⟩
              · rcases List.mem_append.mp hx with z | z
                · exact .inr ⟨x, List.mem_cons_of_mem _ z, hb⟩
                · obtain ⟨p, hp, rfl⟩ := List.mem_map.mp z
                  exact .inr ⟨_, List.mem_cons_self .., .there hp hb⟩
            · rintro (⟨x, hx, hb⟩ | ⟨x, hx, hb⟩)
              · exact .inl ⟨x, List.mem_append_left _ hx, hb⟩
              · rcases List.mem_cons.mp hx with z | z
                · subst z
                  rcases hole_mn.mp hb with y | ⟨p, hp, y⟩
                  · exact .inl ⟨_, List.mem_append_right _ (List.mem_singleton.mpr rfl), y⟩
                  · exact .inr ⟨p.2, List.mem_append_right _ (List.mem_map.mpr ⟨p, hp, rfl⟩), y⟩
                · exact .inr ⟨x, List.mem_append_left _ z, hb⟩
          · show n - (((k : Nat) : Int) + 1).toNat < n - ((k : Nat) : Int).toNat
            omega
      · have e' : ¬ _ := fun z => e (decide_eq_true z)
        rw [List.length_map] at e'
        have hkd : k = ds.length := by omega
        rw [hkd, List.drop_length, List.take_length] at hho
        rw [hkd, List.drop_length] at hL
        cases hL
        refine ⟨_, rfl, q r HY ts rs nrH sY hr' hrs hlk (by have := congrArg List.length edr; rw [List.length_map] at this; omega) ?_⟩
        rw [← hho, edr]
        constructor
        · exact fun h => .inl h
        · rintro (h | ⟨x, hx, _⟩)
          · exact h
          · cases hx
    · obtain ⟨v1, hv1, v2, hv2, a, zs, e, hs, i, j, e1, e2, k, hk, h5⟩ := h
      exact ⟨v1, hv1, v2, hv2, a, zs, e, hs, i, j, e1, e2, k, hk, hq _ _ h5⟩
/-! ### nodes_of -/
def spNodes (K : PySem.W.Frag) : Sp := fun vs H Q _ => ∃ (v : V) (n : Nat) (d : PyData), vs = [v] ∧ Mv K H v n d ∧ n ≤ 100 ∧ ∀ H', Same H H' → Q (.int (n : Nat)) H'
theorem ok_nodes {f fA : Addr} {fd fdA : FuncData} (F : Fun K "nodes_of" "nodes_of" s_nodes_of f fd) (kA : PySem.W.keepIn K (.ref fA) = true) (bA : Binds K fdA ["meaning"] []) (gA : mg "all_within" = some (.ref fA)) (GA : FnOk P w K mg base CX0 1 fA fdA ["meaning"] (spAll K)) (ml : mg "len" = none) : FnOk P w K mg base CX0 2 f fd ["meaning"] (spNodes K) := by
  refine F.ok sc_nodes_of (fun vs H Q E h => ?_) (fun cdv A outer s H vs Q E hr h => ?_)
  · obtain ⟨v, n, d, rfl, _⟩ := h
    rfl
  · obtain ⟨v, n, d, rfl, hM, hn, q⟩ := h
    refine ⟨_, pss_one (ps_ret (pe_callB call_len_seq (by rfl) ml PySem.boot_len (pa_cons (pe_call GA hr (by rfl) gA kA bA .nil pass0 (pa_cons (pv 0) pa_nil)) pa_nil))), ?_⟩
    refine ⟨_, rfl, v, n, d, rfl, hM, hn, fun r H' ts rs nr sH hr' hts _ hl hh => ⟨r, _, rfl, .inl (.inl (.inl hr')), ?_⟩⟩
    rw [List.length_map, Paired.length hts, hl]
    exact q _ sH
/-! ### has_hole -/
def spHas (K : PySem.W.Frag) (Ps : List Addr) : Sp := fun vs H Q _ => ∃ (v : V) (n : Nat) (d : PyData), vs = [v] ∧ Mv K H v n d ∧ n ≤ 100 ∧ Tabs Ps H ∧ ∀ H', SameN Ps H H' → Q (.bl (holed d)) H'
theorem ok_has {f c0 pT fA fH : Addr} {fd fdA fdH : FuncData} {Ps : List Addr} (F : FunC K "has_hole" "has_hole" s_has_hole f fd c0) (TB : GxR.TabB base mg c0 pT) (hP : pT ∈ Ps) (man : mg "any" = none)
    (kA : PySem.W.keepIn K (.ref fA) = true) (bA : Binds K fdA ["meaning"] []) (gA : mg "all_within" = some (.ref fA)) (GA : FnOk P w K mg base CX0 1 fA fdA ["meaning"] (spAll K))
    (kH : PySem.W.keepIn K (.ref fH) = true) (bH : Binds K fdH ["meaning"] []) (gH : mg "is_hole" = some (.ref fH)) (GH : FnOk P w K mg base CX0 1 fH fdH ["meaning"] (spHole K)) : FnOk P w K mg base CX0 5 f fd ["meaning"] (spHas K Ps) := by
  refine F.ok sc_has_hole (fun vs H Q E h => ?_) (fun A outer s H vs Q E hr h => ?_)
  · obtain ⟨v, n, d, rfl, _⟩ := h
    rfl
  · obtain ⟨v, n, d, rfl, hM, hn, hT, q⟩ := h
    refine ⟨_, pss_one (ps_ret (pe_any (own := [("inner", 1), ("around", 2), ("number", 3)]) hr (by rfl) man TB rfl rfl sc_has_hole.nd (pi_list (pe_call GA (hr.mono (by decide)) (by rfl) gA kA bA .nil pass0 (pa_cons (pv 0) pa_nil)))
      (blkOk_by (own := [("inner", 1), ("around", 2), ("number", 3)]) (N := ["meaning", "inner", "around", "number"]) (sc := defScope s_has_hole) (by decide +kernel)) rfl (by decide +kernel) rfl
      (fun _ _ _ _ _ _ => pg_tupK (K := K) (n := 3) rfl (pg_tup (n := 3) rfl (pgs_cons (pg_name (i := 1) sc_has_hole.nd rfl (Or.inl rfl)) (pgs_cons (pg_name (i := 2) sc_has_hole.nd rfl (Or.inl rfl)) (pgs_cons (pg_name (i := 3) sc_has_hole.nd rfl (Or.inl rfl)) pgs_nil))))) (fun _ _ _ _ _ _ => pts_nil)
      (fun _ _ _ _ _ _ => pe_call GH (room_gen hr _) (by rfl) gH kH bH .nil pass0 (pa_cons (pv 1) pa_nil)))), ?_⟩
    refine ⟨_, rfl, v, n, d, rfl, hM, hn, fun r H1 ts rs nr s1 hr1 hrs _ hl hh => ?_⟩
    have hts := hrs.old
    generalize rs.map (·.1) = ds at hts hh
    have hT1 : Tabs Ps H1 := hT.same s1
    refine ⟨r, rfl, ⟨_, .inl (.inl hr1)⟩, hT1 _ hP, fun H2 hTb => ?_⟩
    have s2 : SameN Ps H1 H2 := SameN.tab hT1 hP hTb
    have s01 : SameN Ps H H1 := SameN.of hT s1
    have htl : ts.length = ds.length := Paired.length hts
    refine gx_it (walk_list (K := K) (a := r) (xs := ts.map V.ref)) (fun j _ HZ => SameN Ps H1 HZ ∧ ∀ x ∈ ds.take j, holeB x = false) ⟨s2, fun x hx => by cases hx⟩ (fun j _ HZ _ h => .inl (.inl (h.1.k _ _ nt_lst hr1))) (fun j x _ HZ HZ' hj hP' hY => ?_) (fun _ HZ hP' => ?_)
    · obtain ⟨rfl, hx⟩ := hY
      obtain ⟨sZ, hno⟩ := hP'
      rw [List.getElem?_map] at hx
      obtain ⟨t1, et1, ex⟩ := Option.map_eq_some_iff.mp hx
      subst ex
      obtain ⟨dj, hdj, v1, n1, a1, b1, ht1, hM1, hn1⟩ := paired_at hts et1
      refine ⟨t1, _, rfl, .inl (.inl (sZ.k _ _ nt_tup ht1)), rfl, _, _, rfl, _, _, rfl, _, _, rfl, rfl, ?_⟩
      refine ⟨rfl, tYes_in ?_⟩
      refine ⟨_, rfl, v1, n1, dj, rfl, hM1.sameN sZ, hn1, fun H3 s3 => ⟨_, rfl, fun e => ⟨sZ.same s3, fun x hx => ?_⟩, fun e => ?_⟩⟩
      · rw [take_get hdj] at hx
        rcases List.mem_append.mp hx with z | z
        · exact hno x z
        · rw [List.mem_singleton.mp z]
          exact e
      · have : holed d = true := holed_of (hh.mp ⟨dj, List.mem_of_getElem? hdj, e⟩)
        rw [← this]
        exact q _ (s01.trans (sZ.same s3))
    · obtain ⟨sZ, hno⟩ := hP'
      rw [List.length_map, htl, List.take_length] at hno
      have : holed d = false := holed_no fun h => by
        obtain ⟨x, hx, e⟩ := hh.mpr h
        rw [hno x hx] at e
        cases e
      rw [← this]
      exact q _ (s01.trans sZ)
end
end Bn

namespace Bn
open PySem PySem.Spec PyProof.Rows L2 BR GX RM GY
theorem shaped_d {n : Nat} {d : PyData} (h : MnD n d) (hn : d.depth ≤ 60) : SeqAt.shaped d = true := by
  obtain ⟨a, b⟩ := (mn_facts n).1 d h
  show (d.canLay0 && decide (d.depth ≤ 64)) = true
  rw [a, decide_eq_true (by omega)]
  rfl
theorem depth_mem {ps : List Pr} : ∀ {p : Pr}, p ∈ ps → p.2.depth + 1 ≤ PyData.depthAll (ps.map prD) := by
  induction ps with
  | nil => intro p hp; cases hp
  | cons q ps ih =>
    intro p hp
    show p.2.depth + 1 ≤ max (max 0 (max q.2.depth 0) + 1) (PyData.depthAll (ps.map prD))
    rcases List.mem_cons.mp hp with z | z
    · rw [z]
      omega
    · have := ih z
      omega
theorem depth_pair {a : Str} {ms : SS} {ps : List Pr} {p : Pr} (hp : p ∈ ps) : p.2.depth + 3 ≤ (mnD a ms ps).depth := by
  have := depth_mem hp
  show p.2.depth + 3 ≤ max 0 (max (PyData.depthAll (ms.map ssD) + 1) (max (PyData.depthAll (ps.map prD) + 1) 0)) + 1
  omega
theorem depth_le {ps : List Pr} {k : Nat} : (∀ p ∈ ps, p.2.depth ≤ k) → PyData.depthAll (ps.map prD) ≤ k + 1 := by
  induction ps with
  | nil => exact fun _ => Nat.zero_le _
  | cons q ps ih =>
    intro h
    have := ih fun p hp => h p (List.mem_cons_of_mem _ hp)
    have h1 := h q (List.mem_cons_self ..)
    show max (max 0 (max q.2.depth 0) + 1) (PyData.depthAll (ps.map prD)) ≤ k + 1
    omega
theorem depth_mn {a : Str} {ms : SS} {ps : List Pr} {k : Nat} (h2 : okM ms) (h : ∀ p ∈ ps, p.2.depth ≤ k) : (mnD a ms ps).depth ≤ k + 3 := by
  have h1 := depth_le h
  have := (ss_facts ms h2).2
  show max 0 (max (PyData.depthAll (ms.map ssD) + 1) (max (PyData.depthAll (ps.map prD) + 1) 0)) + 1 ≤ k + 3
  omega
section
variable {K : PySem.W.Frag} {H : Hp}
theorem zip_fst : ∀ {vs : List V} {ds : List PyData}, vs.length = ds.length → (vs.zip ds).map (·.1) = vs ∧ (vs.zip ds).map (·.2) = ds
  | [], [], _ => ⟨rfl, rfl⟩
  | [], _ :: _, h => by cases h
  | _ :: _, [], h => by cases h
  | v :: vs, d :: ds, h => by
    obtain ⟨a, b⟩ := zip_fst (Nat.succ.inj h)
    exact ⟨by rw [List.zip_cons_cons, List.map_cons, a], by rw [List.zip_cons_cons, List.map_cons, b]⟩
theorem zip_dp : ∀ {vs : List V} {ds : List PyData}, DpAll K H vs ds → ∀ b ∈ vs.zip ds, Dp K H b.1 b.2
  | _, [], h, b, hb => by cases h; cases hb
  | _, d :: ds, h, b, hb => by
    cases h with
    | cons h1 h2 =>
      rw [List.zip_cons_cons] at hb
      rcases List.mem_cons.mp hb with z | z
      · rw [z]
        exact h1
      · exact zip_dp h2 b z
theorem unzip_dp : ∀ (S : List VD), (∀ b ∈ S, Dp K H b.1 b.2) → DpAll K H (S.map (·.1)) (S.map (·.2))
  | [], _ => .nil
  | b :: S, h => .cons (h b (List.mem_cons_self ..)) (unzip_dp S fun c hc => h c (List.mem_cons_of_mem _ hc))
/-- what sorted makes of pairs -/
theorem Pv.sorted {vs : List V} {n : Nat} {ps : List Pr} (h : Pv K H vs n ps) : Pv K H ((sortD (vs.zip (ps.map prD))).map (·.1)) n (sortP ps) := by
  obtain ⟨z1, z2⟩ := zip_fst (dpAll_len h.p)
  have e : (sortD (vs.zip (ps.map prD))).map (·.2) = (sortP ps).map prD := by
    have e1 : (sortD (vs.zip (ps.map prD))).map (·.2) = (ps.map prD).mergeSort (PySem.W.dataLe false id) := by
      have := List.map_mergeSort (f := fun b : VD => b.2) (r := PySem.W.dataLe false (·.2)) (s := PySem.W.dataLe false id) (l := vs.zip (ps.map prD)) fun a _ b _ => rfl
      rw [z2] at this
      exact this
    have e2 : (sortP ps).map prD = (ps.map prD).mergeSort (PySem.W.dataLe false id) := List.map_mergeSort (f := prD) (r := leP) (s := PySem.W.dataLe false id) fun a _ b _ => rfl
    rw [e1, e2]
  refine ⟨?_, h.m.perm (sortP_perm ps).symm⟩
  rw [← e]
  exact unzip_dp _ fun b hb => zip_dp h.p b ((List.mergeSort_perm _ _).mem_iff.mp hb)
theorem pr_alike {n : Nat} {ps : List Pr} (h : MnA n ps) : PySem.W.AllAlike (ps.map prD) := fun d hd e he => by
  obtain ⟨p, hp, rfl⟩ := List.mem_map.mp hd
  obtain ⟨q, hq, rfl⟩ := List.mem_map.mp he
  obtain ⟨_, k, a⟩ := h.ok p hp
  obtain ⟨_, l, b⟩ := h.ok q hq
  show (PySem.W.alike (.str p.1) (.str q.1) && (PySem.W.alike p.2 q.2 && true)) = true
  rw [(mn_alike k).1 _ l _ a b]
  rfl
theorem pr_sortable (ps : List Pr) : PySem.W.Sortable (ps.map prD) := PySem.W.Sortable.tuples fun p => ⟨_, _, rfl⟩
end
/-! ### a tuple's slice -/
def rSlB (K : PySem.W.Frag) : V → Option Int → Option Int → Hp → VK → Prop := fun x lo hi H Q => ∃ a xs, x = .ref a ∧ SqT K H a xs ∧ ∀ p H', Same H H' → SqT K H' p (cutV xs lo hi) → Q (.ref p) H'
theorem sl_tupB {X : Cx} : SlR X (rSlB X.K) := by
  intro pins s σ H x v vl vu lo hi sl Q I rx hs pl pu h
  obtain ⟨a, xs, rfl, hx, q⟩ := h
  refine sl_tupA pins s σ H _ v vl vu lo hi sl Q I rx hs pl pu ⟨a, xs, rfl, hx, fun hw => q a H (Same.refl _) ?_, fun hw p np => q p _ (same_new np) (.inl (.inl upd_same))⟩
  have e : cutV xs lo hi = xs := by
    unfold cutV
    rw [hw.1, hw.2, List.drop_zero, Nat.sub_zero, List.take_length]
  rw [e]
  exact hx
theorem cut_to (xs : List V) (k : Nat) : cutV xs none (some (k : Nat)) = xs.take k := by
  unfold cutV
  rw [HT.sIx_none, HT.sIx_nat, List.drop_zero, Nat.sub_zero]
  by_cases h : k ≤ xs.length
  · rw [Nat.min_eq_left h]
  · rw [Nat.min_eq_right (by omega), List.take_length, List.take_of_length_le (by omega)]
theorem cut_from (xs : List V) (k : Nat) : cutV xs (some (k : Nat)) none = xs.drop k := by
  unfold cutV
  rw [HT.sIx_none, HT.sIx_nat]
  by_cases h : k ≤ xs.length
  · rw [Nat.min_eq_left h, List.take_of_length_le (by rw [List.length_drop]; omega)]
  · rw [Nat.min_eq_right (by omega), List.drop_length, List.drop_eq_nil_of_le (by omega), List.take_nil]
section
variable {K : PySem.W.Frag} {H : Hp}
theorem dpAll_set {vs : List V} {ds : List PyData} (h : DpAll K H vs ds) : ∀ {i : Nat} {v : V} {d : PyData}, Dp K H v d → DpAll K H (vs.set i v) (ds.set i d) := by
  induction ds generalizing vs with
  | nil => intro i v d _; cases h; exact .nil
  | cons x ds ih =>
    intro i v d hv
    cases h with
    | cons h1 h2 =>
      cases i with
      | zero => exact .cons hv h2
      | succ i => exact .cons h1 (ih h2 hv)
theorem set_split {α : Type} {l : List α} {i : Nat} (h : i < l.length) (x : α) : l.set i x = l.take i ++ (x :: l.drop (i + 1)) := by
  rw [List.set_eq_take_append_cons_drop, if_pos h]
/-- one pair changed -/
theorem Pv.set {vs : List V} {n : Nat} {ps : List Pr} (h : Pv K H vs n ps) {i : Nat} {p : Pr} (hi : ps[i]? = some p) {t : Addr} {iv : V} {m : Nat} {e : PyData} (ht : SqT K H t [.str p.1, iv]) (hv : Mv K H iv m e) : ∃ n', Pv K H (vs.set i (.ref t)) n' (ps.set i (p.1, e)) := by
  obtain ⟨k, m', e1, h1, h2, sw⟩ := h.m.swapAt hi
  refine ⟨_, ?_, sw hv.m⟩
  rw [List.map_set]
  exact dpAll_set h.p (.tup ht (.cons (.str p.1) (.cons hv.p .nil)))
end
section
variable {P : Program} {w : World} {K : PySem.W.Frag} {mg : Str → Option Value} {base : Heap}
/-! ### rising -/
def spRising (K : PySem.W.Frag) : Sp := fun vs H Q _ => ∃ (a : Addr) (pvs : List V) (n : Nat) (ps : List Pr), vs = [.ref a] ∧ SqT K H a pvs ∧ Pv K H pvs n ps ∧ (∀ p ∈ ps, p.2.depth ≤ 50) ∧ ∀ (t : Addr) (H' : Hp) (pvs' : List V) (ob : Obj), H t = none → Same H H' → H' t = some (.frz ob (.tup pvs')) → ob.cls = .type "tuple" → ob.dict = none → Pv K H' pvs' n (sortP ps) → Q (.ref t) H'
theorem ok_rising {f : Addr} {fd : FuncData} {k : Nat} (F : Fun K "rising" "rising" s_rising f fd) (mt : mg "tuple" = none) (mso : mg "sorted" = none) : FnOk P w K mg base CX0 (k + 1) f fd ["pairs"] (spRising K) := by
  refine F.ok sc_rising (fun vs H Q E h => ?_) (fun cdv A outer s H vs Q E hr h => ?_)
  · obtain ⟨a, pvs, n, ps, rfl, _⟩ := h
    rfl
  · obtain ⟨a, pvs, n, ps, rfl, hS, hV, hd, q⟩ := h
    refine ⟨_, pss_one (ps_ret (pe_callTy call_tupleF (by rfl) mt (by decide +kernel) (pa_cons (pe_callB (cr_sortedDT hr.units) (by rfl) mso (by decide +kernel) (pa_cons (pv 0) pa_nil)) pa_nil))), ?_⟩
    obtain ⟨z1, z2⟩ := zip_fst (dpAll_len hV.p)
    refine ⟨_, rfl, a, pvs.zip (ps.map prD), rfl, ?_, fun b hb => ⟨zip_dp hV.p b hb, ?_⟩, ?_, ?_, fun l nl => ?_⟩
    · rw [z1]
      exact .inr hS
    · obtain ⟨p, hp, e⟩ := List.mem_map.mp (List.of_mem_zip hb).2
      rw [← e]
      have := hd p hp
      show max 0 (max p.2.depth 0) + 1 ≤ 60
      omega
    · rw [z2]
      exact pr_alike hV.m
    · rw [z2]
      exact pr_sortable ps
    · have s1 := same_new (o := .lst ((sortD (pvs.zip (ps.map prD))).map (·.1))) nl
      refine ⟨l, _, rfl, .inl (.inl upd_same), fun t ob nt c1 c2 => ?_⟩
      have s2 := s1.trans (same_new (o := .frz ob (.tup ((sortD (pvs.zip (ps.map prD))).map (·.1)))) nt)
      exact q t _ _ ob (s1.free nt) s2 upd_same c1 c2 (hV.sorted.same s2)
/-! ### with_changed_pair -/
def spChg (K : PySem.W.Frag) : Sp := fun vs H Q _ => ∃ (v iv : V) (i n m : Nat) (a : Str) (ms : SS) (ps : List Pr) (p : Pr) (e : PyData), vs = [v, .int (i : Nat), iv] ∧ Mv K H v n (mnD a ms ps) ∧ ps[i]? = some p ∧ Mv K H iv m e ∧ n ≤ 100 ∧ (∀ p ∈ ps, p.2.depth ≤ 50) ∧ e.depth ≤ 50 ∧ ∀ (t : Addr) (H' : Hp) (n' : Nat), Same H H' → Mv K H' (.ref t) n' (mnD a ms (sortP (ps.set i (p.1, e)))) → Q (.ref t) H'
theorem ok_chg {f fR : Addr} {fd fdR : FuncData} (F : Fun K "with_changed_pair" "with_changed_pair" s_with_changed_pair f fd) (kR : PySem.W.keepIn K (.ref fR) = true) (bR : Binds K fdR ["pairs"] []) (gR : mg "rising" = some (.ref fR)) (GR : FnOk P w K mg base CX0 1 fR fdR ["pairs"] (spRising K)) : FnOk P w K mg base CX0 2 f fd ["meaning", "number", "inner"] (spChg K) := by
  refine F.ok sc_with_changed_pair (fun vs H Q E h => ?_) (fun cdv A outer s H vs Q E hr h => ?_)
  · obtain ⟨v, iv, i, n, m, a, ms, ps, p, e, rfl, _⟩ := h
    rfl
  · obtain ⟨v, iv, i, n, m, a, ms, ps, p, e, rfl, hM, hi, hI, hn, hd, he, q⟩ := h
    obtain ⟨t, a', mt, pt, ms', ps', mvs, pvs, k, rfl, rfl, ed, o1, o2, t1, m1, m2, p1, p2⟩ := hM.inv
    obtain ⟨rfl, ems, rfl⟩ := mnD_inj ed
    have := ssD_inj ems
    subst this
    refine ⟨_, pss_cons (ps_asg (pv 0) (pg_tup rfl (pgs_cons (pg_name (i := 3) sc_with_changed_pair.nd rfl (.inl rfl)) (pgs_cons (pg_name (i := 4) sc_with_changed_pair.nd rfl (.inl rfl)) (pgs_cons (pg_name (i := 5) sc_with_changed_pair.nd rfl (.inl rfl)) pgs_nil)))))
      (pss_cons (ps_set (i := 6) sc_with_changed_pair.nd rfl (.inl rfl) (pe_ix ix_tup (pe_ix ix_tup (pv 5) (pv 1) (fun _ _ => rfl)) pe_int (fun _ _ => rfl)))
      (pss_one (ps_ret (pe_tup (pa_cons (pv 3) (pa_cons (pv 4) (pa_cons (pe_call GR hr (by rfl) gR kR bR .nil pass0 (pa_cons (pe_tup (StX.pa_star (pe_slice sl_tupB (pv 5) po_none (po_some (pv 1))) (pa_cons (pe_tup (pa_cons (pv 6) (pa_cons (pv 2) pa_nil))) (StX.pa_star (pe_slice sl_tupB (pv 5) (po_some (pe_op op_add (pv 1) pe_int)) po_none) pa_nil)))) pa_nil)) pa_nil))))))), ?_⟩
    have hpl := p2.len
    have hpn := p2.m.len
    have hil : i < ps.length := (List.getElem?_eq_some_iff.mp hi).1
    obtain ⟨v1, hv1⟩ : ∃ v1, pvs[i]? = some v1 := ⟨_, List.getElem?_eq_getElem (by omega)⟩
    obtain ⟨p', pq, iv0, kp, hpi, rfl, hpq, okp, kp1, kp2, hMi⟩ := p2.at hv1
    rw [hi] at hpi
    cases hpi
    refine ⟨_, rfl, t, _, rfl, t1, rfl, _, _, rfl, _, _, rfl, _, _, rfl, rfl, ?_⟩
    refine ⟨_, rfl, _, rfl, pt, _, _, V.ref pq, rfl, rfl, p1, atI_nat hv1, pq, _, _, V.str p.1, rfl, rfl, hpq, rfl, ?_⟩
    refine ⟨_, rfl, _, rfl, _, rfl, _, rfl, _, rfl, pt, _, rfl, p1, fun q1 H1 s1 h1 => ⟨q1, _, rfl, .inl h1, ?_⟩⟩
    rw [cut_to] at h1 ⊢
    refine ⟨_, rfl, _, rfl, (show 2 ≤ sizeLine by decide), fun t2 n2 => ?_⟩
    have s2 := s1.trans (same_new (o := .tup [.str p.1, iv]) n2)
    have s12 := same_new (o := .tup [.str p.1, iv]) n2
    have h2 : (upd H1 t2 (.tup [.str p.1, iv])) t2 = some (.tup [.str p.1, iv]) := upd_same
    generalize upd H1 t2 (.tup [.str p.1, iv]) = H2 at s2 s12 h2 ⊢
    have ei : (fun i j : Int => V.int (i + j)) (i : Nat) 1 = V.int ((i + 1 : Nat) : Int) := congrArg V.int (show ((i : Nat) : Int) + 1 = ((i + 1 : Nat) : Int) by omega)
    refine ⟨_, rfl, _, rfl, _, _, rfl, rfl, _, ei, pt, _, rfl, sqT_same s2 _ _ p1, fun q3 H3 s3 h3 => ⟨q3, _, rfl, .inl h3, ?_⟩⟩
    rw [cut_from] at h3 ⊢
    have es : pvs.take i ++ (V.ref t2 :: (pvs.drop (i + 1) ++ [])) = pvs.set i (.ref t2) := by
      rw [List.append_nil]
      exact (set_split (by omega) _).symm
    refine ⟨by
      show (pvs.take i ++ (V.ref t2 :: (pvs.drop (i + 1) ++ []))).length ≤ sizeLine
      rw [es, List.length_set]
      exact line1000 (by omega), fun t4 n4 => ?_⟩
    rw [es]
    have s4 := (s2.trans s3).trans (same_new (o := .tup (pvs.set i (.ref t2))) n4)
    have s24 := s3.trans (same_new (o := .tup (pvs.set i (.ref t2))) n4)
    have h4 : (upd H3 t4 (.tup (pvs.set i (.ref t2)))) t4 = some (.tup (pvs.set i (.ref t2))) := upd_same
    generalize upd H3 t4 (.tup (pvs.set i (.ref t2))) = H4 at s4 s24 h4 ⊢
    obtain ⟨n', hset⟩ := (p2.same s4).set hi (.inl (.inl (s24 _ _ h2))) (hI.same s4)
    refine ⟨t4, _, _, _, rfl, .inl (.inl h4), hset, fun r hr' => ?_, fun t5 H5 pvs' ob n5 s5 h5 c1 c2 pv5 => ?_⟩
    · rcases List.mem_or_eq_of_mem_set hr' with z | z
      · exact hd r z
      · rw [z]
        exact he
    · refine ⟨(show 3 ≤ sizeLine by decide), fun t6 n6 => ?_⟩
      have s6 := (s4.trans s5).trans (same_new (o := .tup [.str a, .ref mt, .ref t5]) n6)
      have s56 := same_new (o := .tup [.str a, .ref mt, .ref t5]) n6
      exact q t6 _ _ s6 (Mv.mk' o1 o2 (.inl (.inl upd_same)) (sqT_same s6 _ _ m1) (dp_keepAll (sqT_same s6) _ _ (noL_ss _) m2) (.inl (.inr ⟨ob, s56 _ _ h5⟩)) (pv5.same s56))
end
end Bn

namespace Bn
open PySem PySem.Spec PyProof.Rows L2 BR GX RM GY
/-- meanings that wait -/
structure Wt (K : PySem.W.Frag) (H : Hp) (ws : List V) (n : Nat) (ds : List PyData) : Prop where
  p : DpAll K H ws ds
  m : MnL n ds
  d : ∀ x ∈ ds, x.depth ≤ 50
theorem noL_row : ∀ {n : Nat} {ds : List PyData}, MnL n ds → noLAll ds = true := fun {n ds} h => by
  induction h with
  | nil => rfl
  | @cons d n m ds h1 _ ih =>
    show (noL d && noLAll ds) = true
    rw [ih, (noL_mn n).1 d h1]
    rfl
theorem noL_take : ∀ (l : List PyData) (i : Nat), noLAll l = true → noLAll (l.take i) = true := fun l => by
  induction l with
  | nil => intro i _; cases i <;> rfl
  | cons x l ih =>
    intro i h
    cases i with
    | zero => rfl
    | succ i =>
      have h' : (noL x && noLAll l) = true := h
      rw [Bool.and_eq_true] at h'
      show (noL x && noLAll (l.take i)) = true
      rw [h'.1, ih i h'.2]
      rfl
section
variable {K : PySem.W.Frag} {H H' : Hp}
theorem Wt.keep {ws : List V} {n : Nat} {ds : List PyData} (h : Wt K H ws n ds) (hT : ∀ a xs, SqT K H a xs → SqT K H' a xs) : Wt K H' ws n ds := ⟨dp_keepAll hT _ ws (noL_row h.m) h.p, h.m, h.d⟩
theorem Wt.same {ws : List V} {n : Nat} {ds : List PyData} (h : Wt K H ws n ds) (s : Same H H') : Wt K H' ws n ds := h.keep (sqT_same s)
theorem row_shaped : ∀ {n : Nat} {ds : List PyData}, MnL n ds → (∀ x ∈ ds, x.depth ≤ 50) → PyData.canLayAll0 ds = true ∧ PyData.depthAll ds ≤ 50 := fun {n ds} h => by
  induction h with
  | nil => exact fun _ => ⟨rfl, Nat.zero_le _⟩
  | @cons d n m ds h1 _ ih =>
    intro hd
    obtain ⟨a, b⟩ := ih fun x hx => hd x (List.mem_cons_of_mem _ hx)
    have c := ((mn_facts n).1 d h1).1
    have e := hd d (List.mem_cons_self ..)
    refine ⟨?_, ?_⟩
    · show (d.canLay0 && PyData.canLayAll0 ds) = true
      rw [a, c]
      rfl
    · show max d.depth (PyData.depthAll ds) ≤ 50
      omega
theorem Wt.shaped {ws : List V} {n : Nat} {ds : List PyData} (h : Wt K H ws n ds) : SeqAt.shaped (.list ds) = true := by
  obtain ⟨a, b⟩ := row_shaped h.m h.d
  show (PyData.canLayAll0 ds && decide (PyData.depthAll ds + 1 ≤ 64)) = true
  rw [a, decide_eq_true (by omega)]
  rfl
theorem list_nil_eqv (ds : List PyData) : PyData.eqv (.list ds) (.list []) = ds.isEmpty := by
  cases ds with
  | nil => rfl
  | cons m ms => rfl
theorem MnL.snoc {ds : List PyData} {d : PyData} : ∀ {n : Nat}, MnL n (ds ++ [d]) → ∃ k m, n = k + m ∧ 1 ≤ k ∧ MnD k d ∧ MnL m ds := by
  induction ds with
  | nil =>
    intro n h
    obtain ⟨k, m, e, h1, h2, h3⟩ := MnL.pos (show MnL n [d] from h)
    exact ⟨k, m, e, h1, h2, h3⟩
  | cons x ds ih =>
    intro n h
    obtain ⟨k, m, e, h1, h2, h3⟩ := MnL.pos (show MnL n (x :: (ds ++ [d])) from h)
    obtain ⟨k', m', e', g1, g2, g3⟩ := ih h3
    exact ⟨k', k + m', by omega, g1, g2, .cons h2 g3⟩
theorem dpAll_snoc {vs : List V} {v : V} {ds : List PyData} (h : DpAll K H (vs ++ [v]) ds) : ∃ es e, ds = es ++ [e] ∧ DpAll K H vs es ∧ Dp K H v e := by
  induction vs generalizing ds with
  | nil =>
    cases h with
    | cons h1 h2 =>
      cases h2
      exact ⟨[], _, rfl, .nil, h1⟩
  | cons x vs ih =>
    cases h with
    | cons h1 h2 =>
      obtain ⟨es, e, rfl, g1, g2⟩ := ih h2
      exact ⟨_ :: es, e, rfl, .cons h1 g1, g2⟩
/-- the last one taken off -/
theorem Wt.pop {ws : List V} {n : Nat} {ds : List PyData} (h : Wt K H ws n ds) (ne : ds ≠ []) : ∃ v vs d es k m, ws = vs ++ [v] ∧ ds = es ++ [d] ∧ n = k + m ∧ 1 ≤ k ∧ Mv K H v k d ∧ d.depth ≤ 50 ∧ Wt K H vs m es := by
  have hl := dpAll_len h.p
  have nw : ws ≠ [] := fun z => by
    rw [z] at hl
    exact ne (List.length_eq_zero_iff.mp hl.symm)
  obtain ⟨vs, v, rfl⟩ : ∃ vs v, ws = vs ++ [v] := ⟨ws.dropLast, ws.getLast nw, (List.dropLast_concat_getLast nw).symm⟩
  obtain ⟨es, d, rfl, g1, g2⟩ := dpAll_snoc h.p
  obtain ⟨k, m, e, k1, k2, k3⟩ := h.m.snoc
  exact ⟨v, vs, d, es, k, m, rfl, rfl, e, k1, ⟨g2, k2⟩, h.d d (by simp), ⟨g1, k3, fun x hx => h.d x (List.mem_append_left _ hx)⟩⟩
end
section
variable {P : Program} {w : World} {K : PySem.W.Frag} {mg : Str → Option Value} {base : Heap}
/-! ### nodes -/
def spLn (K : PySem.W.Frag) : Sp := fun vs H Q _ => ∃ (v : V) (n : Nat) (d : PyData), vs = [v] ∧ Mv K H v n d ∧ n ≤ 100 ∧ d.depth ≤ 50 ∧ ∀ H', Same H H' → Q (.int (n : Nat)) H'
abbrev NLn : List Str := ["_law_meaning_here", "_law_waiting", "_law_many", "_law_role", "_law_one"]
theorem ok_ln {f : Addr} {fd : FuncData} {k : Nat} (F : Fun K "_law_nodes" "_law_nodes" s_l_nodes f fd) : FnOk P w K mg base CX0 (k + 1) f fd ["_law_meaning_here"] (spLn K) := by
  refine F.ok sc_l_nodes (fun vs H Q E h => ?_) (fun cdv A outer s H vs Q E hr h => ?_)
  · obtain ⟨v, n, d, rfl, _⟩ := h
    rfl
  · obtain ⟨v, n, d, rfl, hM, hn, hd, q⟩ := h
    refine ⟨_, pss_cons (ps_set (i := 1) sc_l_nodes.nd rfl (.inl rfl) (pe_lst (pa_cons (pv 0) pa_nil)))
      (pss_cons (ps_set (i := 2) sc_l_nodes.nd rfl (.inl rfl) pe_int)
      (pss_cons (ps_while PassesOwn.never (pt_cmpR (op_neD hr.units) (pv 1) (pe_lst pa_nil) (nomark _))
        (pss_cons (ps_set (i := 2) sc_l_nodes.nd rfl (.inl rfl) (pe_op op_add (pv 2) pe_int))
        (pss_one (ps_expr (pe_bm PySem.F.plainAttrs_list PySem.F.slot_list_extend PySem.F.type_list_extend mt_extend (pv 1) (pa_cons
          (pe_lc (own := [("_law_role", 3), ("_law_one", 4)]) (tt := tYes) rfl sc_l_nodes.nd (pi_tup (pe_ix ix_tup (pe_bm0 PySem.F.plainAttrs_list PySem.F.slot_list_pop PySem.F.type_list_pop mt_pop (pv 1)) pe_int (fun _ _ => rfl)))
            (blkOk_by (own := [("_law_role", 3), ("_law_one", 4)]) (N := NLn) (sc := defScope s_l_nodes) (by decide +kernel))
            (fun _ _ _ _ _ => pg_tupK (K := K) (n := 2) rfl (pg_tup (n := 2) rfl (pgs_cons (pg_name (i := 3) sc_l_nodes.nd rfl (Or.inl rfl)) (pgs_cons (pg_name (i := 4) sc_l_nodes.nd rfl (Or.inl rfl)) pgs_nil)))) (fun _ _ _ _ _ => pts_nil)
            (fun _ _ _ _ _ => pv 4)) pa_nil))))))
      (pss_one (ps_ret (pv 2))))), ?_⟩
    refine ⟨_, rfl, (show 1 ≤ sizeLine by decide), fun r nr => ?_⟩
    have sA := same_new (o := .lst [v]) nr
    have hr0 : (upd H r (.lst [v])) r = some (.lst [v]) := upd_same
    generalize upd H r (.lst [v]) = HA at sA hr0 ⊢
    refine ⟨fun m σ HY => ∃ (y3 y4 : Option V) (c : Nat) (ws : List V) (ds : List PyData), σ = [some v, some (.ref r), some (.int (c : Nat)), y3, y4] ∧ Same H HY ∧ HY r = some (.lst ws) ∧ Wt K HY ws m ds ∧ c + m = n, ⟨n, ?_⟩, fun m σ HY hW => ?_⟩
    · have : MnL (n + 0) [d] := .cons hM.m .nil
      exact ⟨_, _, 0, [v], [d], rfl, sA, hr0, ⟨.cons (hM.same sA).p .nil, this, fun x hx => by rw [List.mem_singleton.mp hx]; exact hd⟩, Nat.zero_add _⟩
    · obtain ⟨y3, y4, c, ws, ds, rfl, sY, hrY, hWt, hcm⟩ := hW
      refine ⟨_, rfl, Nat.zero_le _, fun p np => ?_⟩
      have sp := same_new (o := .lst []) np
      have hp : (upd HY p (.lst [])) p = some (.lst []) := upd_same
      generalize upd HY p (.lst []) = HP at sp hp ⊢
      have hrP := sp _ _ hrY
      have hWP := hWt.same sp
      refine ⟨_, _, .lst (.inl (.inl hrP)) hWP.p, .lst (.inl (.inl hp)) .nil, hWP.shaped, rfl, _, rfl, ?_⟩
      rw [list_nil_eqv]
      by_cases e : ds = []
      · subst e
        have hm := hWt.m
        cases hm
        refine iteF ⟨_, rfl, ?_⟩
        have : c = n := by omega
        rw [this]
        exact q _ (sY.trans sp)
      · have e1 : ds.isEmpty = false := by
          cases ds with
          | nil => exact absurd rfl e
          | cons _ _ => rfl
        rw [e1]
        refine iteT ⟨_, fun σ' H' h => h, ?_⟩
        obtain ⟨v1, vs, d1, es, k1, m1, rfl, rfl, rfl, k1p, hM1, hd1, hW1⟩ := hWP.pop e
        obtain ⟨t, a, mt, pt, ms, ps, mvs, pvs, k, rfl, rfl, rfl, o1, o2, t1, mm1, mm2, p1, p2⟩ := hM1.inv
        refine ⟨_, rfl, _, _, rfl, rfl, ?_⟩
        refine ⟨_, rfl, .inl ⟨rfl, _, .inl (.inl hrP)⟩, _, rfl, .inl ⟨rfl, _, .inl (.inl hrP)⟩, r, _, V.ref t, rfl, rfl, hrP, ?_, ?_⟩
        · rw [List.length_append]
          show (vs ++ [V.ref t])[vs.length + 1 - 1]? = _
          rw [Nat.add_sub_cancel, List.getElem?_append_right (Nat.le_refl _), Nat.sub_self]
          rfl
        rw [List.dropLast_concat]
        have hrQ : (upd HP r (.lst vs)) r = some (.lst vs) := upd_same
        have sQ : Same H (upd HP r (.lst vs)) := Same.own (sY.trans sp) nr
        have keepQ : ∀ a xs, SqT K HP a xs → SqT K (upd HP r (.lst vs)) a xs := sqT_upd hrP
        generalize upd HP r (.lst vs) = HQ at hrQ sQ keepQ ⊢
        have hWQ := hW1.keep keepQ
        have p2Q := p2.keep keepQ
        have p1Q := keepQ _ _ p1
        have hpl := p2.len
        have hpn := p2.m.len
        refine ⟨t, _, _, V.ref pt, rfl, rfl, keepQ _ _ t1, rfl, pt, rfl, ⟨_, p1Q⟩, fun D nD => ?_⟩
        have nrD : r ≠ D := fun z => by rw [z, nD] at hrQ; cases hrQ
        refine lc_it (walk_tup (K := K) (a := pt) (xs := pvs)) (fun i HX => Same HQ HX ∧ ∃ us : List V, HX D = some (.lst us) ∧ DpAll K HX us ((ps.take i).map (·.2))) ⟨same_new nD, [], upd_same, .nil⟩ (fun i HX _ h => sqT_same h.1 _ _ p1Q) (fun i x HX HX' hi hP' hY => ?_) (fun HX hP' => ?_)
        · obtain ⟨rfl, e2⟩ := hY
          obtain ⟨sX, us, hD, hus⟩ := hP'
          obtain ⟨p', pq, iv, kp, hpi, rfl, hpq, okp, kp1, kp2, hMi⟩ := (p2Q.same sX).at e2
          refine ⟨pq, _, rfl, hpq, rfl, _, _, rfl, _, _, rfl, rfl, ?_⟩
          refine ⟨rfl, tYes_in ⟨_, rfl, _, hD, ?_, Same.own sX nD, us ++ [iv], upd_same, ?_⟩⟩
          · have := dpAll_len hus
            rw [List.length_map, List.length_take] at this
            exact small1000 (by omega)
          · rw [take_get hpi, List.map_append]
            have kk : ∀ a xs, SqT K HX' a xs → SqT K (upd HX' D (.lst (us ++ [iv]))) a xs := sqT_upd hD
            refine dpAll_app (dp_keepAll kk _ _ ?_ hus) (.cons (hMi.keep kk).p .nil)
            rw [List.map_take]
            exact noL_take _ _ (noL_row p2.m.row)
        · obtain ⟨sX, us, hD, hus⟩ := hP'
          rw [hpl, List.take_length] at hus
          have hrX := sX _ _ hrQ
          have hul : us.length = ps.length := by
            have := dpAll_len hus
            rw [List.length_map] at this
            exact this
          have hWX := hWQ.same sX
          have hvl := dpAll_len hWX.p
          have hel := hWX.m.len
          refine ⟨r, D, _, _, rfl, rfl, hrX, hD, line1000 (by omega), ⟨m1 + k, by omega, y3, y4, c + 1, vs ++ us, es ++ ps.map (·.2), ?_, Same.own (sQ.trans sX) nr, upd_same, ?_, by omega⟩⟩
          · exact congrArg (fun z => [some v, some (V.ref r), some (V.int z), y3, y4]) (show ((c : Nat) : Int) + 1 = ((c + 1 : Nat) : Int) by omega)
          · have kk : ∀ a xs, SqT K HX a xs → SqT K (upd HX r (.lst (vs ++ us))) a xs := sqT_upd hrX
            refine ⟨dp_keepAll kk _ _ ?_ (dpAll_app hWX.p hus), hWX.m.app p2.m.row, fun x hx => ?_⟩
            · exact noL_row (hWX.m.app p2.m.row)
            · rcases List.mem_append.mp hx with z | z
              · exact hWX.d x z
              · obtain ⟨p', hp', rfl⟩ := List.mem_map.mp z
                have := depth_pair (a := a) (ms := ms) hp'
                omega
/-! ### holed -/
def spLh (K : PySem.W.Frag) : Sp := fun vs H Q _ => ∃ (v : V) (n : Nat) (d : PyData), vs = [v] ∧ Mv K H v n d ∧ n ≤ 100 ∧ d.depth ≤ 50 ∧ ∀ H', Same H H' → Q (.bl (holed d)) H'
abbrev NLh : List Str := ["_law_meaning_here", "_law_waiting", "_law_one", "_law_role", "_law_inner"]
theorem ok_lh {f : Addr} {fd : FuncData} {k : Nat} (F : Fun K "_law_holed" "_law_holed" s_l_holed f fd) : FnOk P w K mg base CX0 (k + 1) f fd ["_law_meaning_here"] (spLh K) := by
  refine F.ok sc_l_holed (fun vs H Q E h => ?_) (fun cdv A outer s H vs Q E hr h => ?_)
  · obtain ⟨v, n, d, rfl, _⟩ := h
    rfl
  · obtain ⟨v, n, d, rfl, hM, hn, hd, q⟩ := h
    refine ⟨_, pss_cons (ps_set (i := 1) sc_l_holed.nd rfl (.inl rfl) (pe_lst (pa_cons (pv 0) pa_nil)))
      (pss_cons (ps_while PassesOwn.never (pt_cmpR (op_neD hr.units) (pv 1) (pe_lst pa_nil) (nomark _))
        (pss_cons (ps_set (i := 2) sc_l_holed.nd rfl (.inl rfl) (pe_bm0 PySem.F.plainAttrs_list PySem.F.slot_list_pop PySem.F.type_list_pop mt_pop (pv 1)))
        (pss_cons (ps_if (PW.pt (pw_and (pt_cmpR op_eq (pe_ix ix_tup (pv 2) pe_int (fun _ _ => rfl)) pe_str (nomark _)) (pw_and1 (pt_cmpR (op_eqD hr.units) (pe_ix ix_tup (pv 2) pe_int (fun _ _ => rfl)) (pe_tup pa_nil) (nomark _))))) (pss_one (ps_ret pe_bl)) pss_nil)
        (pss_one (ps_expr (pe_bm PySem.F.plainAttrs_list PySem.F.slot_list_extend PySem.F.type_list_extend mt_extend (pv 1) (pa_cons
          (pe_lc (own := [("_law_role", 3), ("_law_inner", 4)]) (tt := tYes) rfl sc_l_holed.nd (pi_tup (pe_ix ix_tup (pv 2) pe_int (fun _ _ => rfl)))
            (blkOk_by (own := [("_law_role", 3), ("_law_inner", 4)]) (N := NLh) (sc := defScope s_l_holed) (by decide +kernel))
            (fun _ _ _ _ _ => pg_tupK (K := K) (n := 2) rfl (pg_tup (n := 2) rfl (pgs_cons (pg_name (i := 3) sc_l_holed.nd rfl (Or.inl rfl)) (pgs_cons (pg_name (i := 4) sc_l_holed.nd rfl (Or.inl rfl)) pgs_nil)))) (fun _ _ _ _ _ => pts_nil)
            (fun _ _ _ _ _ => pv 4)) pa_nil)))))))
      (pss_one (ps_ret pe_bl))), ?_⟩
    refine ⟨_, rfl, (show 1 ≤ sizeLine by decide), fun r nr => ?_⟩
    have sA := same_new (o := .lst [v]) nr
    have hr0 : (upd H r (.lst [v])) r = some (.lst [v]) := upd_same
    generalize upd H r (.lst [v]) = HA at sA hr0 ⊢
    refine ⟨fun m σ HY => ∃ (y2 y3 y4 : Option V) (ws : List V) (ds : List PyData), σ = [some v, some (.ref r), y2, y3, y4] ∧ Same H HY ∧ HY r = some (.lst ws) ∧ Wt K HY ws m ds ∧ m ≤ n ∧ (HoleIn d ↔ ∃ x ∈ ds, HoleIn x), ⟨n, ?_⟩, fun m σ HY hW => ?_⟩
    · have : MnL (n + 0) [d] := .cons hM.m .nil
      refine ⟨_, _, _, [v], [d], rfl, sA, hr0, ⟨.cons (hM.same sA).p .nil, this, fun x hx => by rw [List.mem_singleton.mp hx]; exact hd⟩, Nat.le_refl _, ?_⟩
      exact ⟨fun h => ⟨d, List.mem_singleton.mpr rfl, h⟩, fun ⟨x, hx, h⟩ => by rw [List.mem_singleton.mp hx] at h; exact h⟩
    · obtain ⟨y2, y3, y4, ws, ds, rfl, sY, hrY, hWt, hmn, hho⟩ := hW
      refine ⟨_, rfl, Nat.zero_le _, fun p np => ?_⟩
      have sp := same_new (o := .lst []) np
      have hp : (upd HY p (.lst [])) p = some (.lst []) := upd_same
      generalize upd HY p (.lst []) = HP at sp hp ⊢
      have hrP := sp _ _ hrY
      have hWP := hWt.same sp
      refine ⟨_, _, .lst (.inl (.inl hrP)) hWP.p, .lst (.inl (.inl hp)) .nil, hWP.shaped, rfl, _, rfl, ?_⟩
      rw [list_nil_eqv]
      by_cases e : ds = []
      · subst e
        have no : holed d = false := holed_no fun h => by
          obtain ⟨x, hx, _⟩ := hho.mp h
          cases hx
        refine iteF ?_
        rw [← no]
        exact q _ (sY.trans sp)
      · have e1 : ds.isEmpty = false := by
          cases ds with
          | nil => exact absurd rfl e
          | cons _ _ => rfl
        rw [e1]
        refine iteT ⟨_, fun σ' H' h => h, ?_⟩
        obtain ⟨v1, vs, d1, es, k1, m1, rfl, rfl, rfl, k1p, hM1, hd1, hW1⟩ := hWP.pop e
        obtain ⟨t, a, mt, pt, ms, ps, mvs, pvs, k, rfl, rfl, rfl, o1, o2, t1, mm1, mm2, p1, p2⟩ := hM1.inv
        refine ⟨_, rfl, .inl ⟨rfl, _, .inl (.inl hrP)⟩, r, _, V.ref t, rfl, rfl, hrP, ?_, ?_⟩
        · rw [List.length_append]
          show (vs ++ [V.ref t])[vs.length + 1 - 1]? = _
          rw [Nat.add_sub_cancel, List.getElem?_append_right (Nat.le_refl _), Nat.sub_self]
          rfl
        rw [List.dropLast_concat]
        have hrQ : (upd HP r (.lst vs)) r = some (.lst vs) := upd_same
        have sQ : Same H (upd HP r (.lst vs)) := Same.own (sY.trans sp) nr
        have keepQ : ∀ a xs, SqT K HP a xs → SqT K (upd HP r (.lst vs)) a xs := sqT_upd hrP
        generalize upd HP r (.lst vs) = HQ at hrQ sQ keepQ ⊢
        have hWQ := hW1.keep keepQ
        have p2Q := p2.keep keepQ
        have p1Q := keepQ _ _ p1
        have t1Q := keepQ _ _ t1
        have mm1Q := keepQ _ _ mm1
        have mm2Q := dp_keepAll keepQ _ _ (noL_ss ms) mm2
        have hpl := p2.len
        have hpn := p2.m.len
        -- what follows where it is no hole
        have rest : ∀ {HR : Hp}, Same HQ HR → holeB (mnD a ms ps) = false → tDrop (tBM K "list" rExtend (tVar 1) (tCons (tLc (iTup K (tOp (rIxT K) (tVar 2) (tC (.int 2)))) (gTup K 2 (gCons (gName 3) (gCons (gName 4) gNil))) tYes (tVar 4) [3, 4]) tNil)) { nx := fun σ' H' => ∃ m', m' < k + 1 + m1 ∧ ∃ (y2 y3 y4 : Option V) (ws : List V) (ds : List PyData), σ' = [some v, some (.ref r), y2, y3, y4] ∧ Same H H' ∧ H' r = some (.lst ws) ∧ Wt K H' ws m' ds ∧ m' ≤ n ∧ (HoleIn d ↔ ∃ x ∈ ds, HoleIn x), rt := Q } [some v, some (.ref r), some (.ref t), y3, y4] HR := fun {HR} sR hno => by
          have hrR := sR _ _ hrQ
          have p2R := p2Q.same sR
          have p1R := sqT_same sR _ _ p1Q
          have hWR := hWQ.same sR
          refine ⟨_, rfl, .inl ⟨rfl, _, .inl (.inl hrR)⟩, _, rfl, t, _, _, V.ref pt, rfl, rfl, sqT_same sR _ _ t1Q, rfl, pt, rfl, ⟨_, p1R⟩, fun D nD => ?_⟩
          have nrD : r ≠ D := fun z => by rw [z, nD] at hrR; cases hrR
          refine lc_it (walk_tup (K := K) (a := pt) (xs := pvs)) (fun i HX => Same HR HX ∧ ∃ us : List V, HX D = some (.lst us) ∧ DpAll K HX us ((ps.take i).map (·.2))) ⟨same_new nD, [], upd_same, .nil⟩ (fun i HX _ h => sqT_same h.1 _ _ p1R) (fun i x HX HX' hi hP' hY => ?_) (fun HX hP' => ?_)
          · obtain ⟨rfl, e2⟩ := hY
            obtain ⟨sX, us, hD, hus⟩ := hP'
            obtain ⟨p', pq, iv, kp, hpi, rfl, hpq, okp, kp1, kp2, hMi⟩ := (p2R.same sX).at e2
            refine ⟨pq, _, rfl, hpq, rfl, _, _, rfl, _, _, rfl, rfl, ?_⟩
            refine ⟨rfl, tYes_in ⟨_, rfl, _, hD, ?_, Same.own sX nD, us ++ [iv], upd_same, ?_⟩⟩
            · have := dpAll_len hus
              rw [List.length_map, List.length_take] at this
              exact small1000 (by omega)
            · rw [take_get hpi, List.map_append]
              have kk : ∀ a xs, SqT K HX' a xs → SqT K (upd HX' D (.lst (us ++ [iv]))) a xs := sqT_upd hD
              refine dpAll_app (dp_keepAll kk _ _ ?_ hus) (.cons (hMi.keep kk).p .nil)
              rw [List.map_take]
              exact noL_take _ _ (noL_row p2.m.row)
          · obtain ⟨sX, us, hD, hus⟩ := hP'
            rw [hpl, List.take_length] at hus
            have hrX := sX _ _ hrR
            have hul : us.length = ps.length := by
              have := dpAll_len hus
              rw [List.length_map] at this
              exact this
            have hWX := hWR.same sX
            have hvl := dpAll_len hWX.p
            have hel := hWX.m.len
            refine ⟨r, D, _, _, rfl, rfl, hrX, hD, line1000 (by omega), ⟨m1 + k, by omega, some (V.ref t), y3, y4, vs ++ us, es ++ ps.map (·.2), rfl, Same.own ((sQ.trans sR).trans sX) nr, upd_same, ?_, by omega, ?_⟩⟩
            · have kk : ∀ a xs, SqT K HX a xs → SqT K (upd HX r (.lst (vs ++ us))) a xs := sqT_upd hrX
              refine ⟨dp_keepAll kk _ _ ?_ (dpAll_app hWX.p hus), hWX.m.app p2.m.row, fun x hx => ?_⟩
              · exact noL_row (hWX.m.app p2.m.row)
              · rcases List.mem_append.mp hx with z | z
                · exact hWX.d x z
                · obtain ⟨p', hp', rfl⟩ := List.mem_map.mp z
                  have := depth_pair (a := a) (ms := ms) hp'
                  omega
            · rw [hho]
              constructor
              · rintro ⟨x, hx, hb⟩
                rcases List.mem_append.mp hx with z | z
                · exact ⟨x, List.mem_append_left _ z, hb⟩
                · rw [List.mem_singleton.mp z] at hb
                  rcases hole_mn.mp hb with y | ⟨p', hp', y⟩
                  · rw [hno] at y
                    cases y
                  · exact ⟨p'.2, List.mem_append_right _ (List.mem_map.mpr ⟨p', hp', rfl⟩), y⟩
              · rintro ⟨x, hx, hb⟩
                rcases List.mem_append.mp hx with z | z
                · exact ⟨x, List.mem_append_left _ z, hb⟩
                · obtain ⟨p', hp', rfl⟩ := List.mem_map.mp z
                  exact ⟨_, List.mem_append_right _ (List.mem_singleton.mpr rfl), .there hp' hb⟩
        refine ⟨_, rfl, t, _, _, V.str a, rfl, rfl, t1Q, rfl, rfl, _, rfl, ?_⟩
        have ev : decide (V.str a = V.str "") = decide (a = "") := by
          by_cases h : a = ""
          · subst h
            rfl
          · rw [decide_eq_false h, decide_eq_false fun z => h (V.str.inj z)]
        rw [ev]
        by_cases h : a = ""
        · rw [decide_eq_true h]
          refine iteT ⟨_, rfl, t, _, _, V.ref mt, rfl, rfl, t1Q, rfl, Nat.zero_le _, fun p0 np0 => ?_⟩
          have sp0 := same_new (o := .tup []) np0
          have hp0 : (upd HQ p0 (.tup [])) p0 = some (.tup []) := upd_same
          generalize upd HQ p0 (.tup []) = HR at sp0 hp0 ⊢
          refine ⟨_, _, .tup (sqT_same sp0 _ _ mm1Q) (dp_keepAll (sqT_same sp0) _ _ (noL_ss ms) mm2Q), .tup (.inl (.inl hp0)) .nil, ss_shaped o2, rfl, _, rfl, ?_⟩
          rw [ss_nil_eqv]
          cases ei : ms.isEmpty with
          | true =>
            refine iteT ?_
            have hb : holeB (mnD a ms ps) = true := by
              rw [holeB_mn, decide_eq_true h, ei]
              rfl
            have yes : holed d = true := holed_of (hho.mpr ⟨_, List.mem_append_right _ (List.mem_singleton.mpr rfl), .here hb⟩)
            show Q (.bl true) HR
            rw [← yes]
            exact q _ (sQ.trans sp0)
          | false =>
            refine iteF (rest sp0 ?_)
            rw [holeB_mn, ei, Bool.and_false]
        · rw [decide_eq_false h]
          refine iteF (iteF (rest (Same.refl _) ?_))
          rw [holeB_mn, decide_eq_false h]
          rfl
end
end Bn

namespace Bn
open PySem PySem.Spec PyProof.Rows L2 BR GX RM GY
theorem Path.app {d : PyData} {p1 : List Nat} {x : PyData} (h : Path d p1 x) : ∀ {p2 : List Nat} {y : PyData}, Path x p2 y → Path d (p1 ++ p2) y := by
  induction h with
  | nil => exact fun k => k
  | cons e _ ih => exact fun k => .cons e (ih k)
theorem Path.depth {d : PyData} {p1 : List Nat} {x : PyData} (h : Path d p1 x) : x.depth ≤ d.depth := by
  induction h with
  | nil => exact Nat.le_refl _
  | @cons a ms ps i p path h e _ ih =>
    have := depth_pair (a := a) (ms := ms) (List.mem_of_getElem? e)
    omega
theorem Path.depth3 {d : PyData} {p1 : List Nat} {x : PyData} (h : Path d p1 x) : 3 * p1.length + x.depth ≤ d.depth := by
  induction h with
  | nil => rw [List.length_nil]; omega
  | @cons a ms ps i p path h e _ ih =>
    have := depth_pair (a := a) (ms := ms) (List.mem_of_getElem? e)
    rw [List.length_cons]
    omega
theorem Path.mn {d : PyData} {p1 : List Nat} {x : PyData} (h : Path d p1 x) : ∀ {n : Nat}, MnD n d → ∃ k, MnD k x ∧ k + p1.length ≤ n := by
  induction h with
  | nil => exact fun {n} hd => ⟨n, hd, by rw [List.length_nil]; omega⟩
  | @cons a ms ps i p path h e _ ih =>
    intro n hd
    obtain ⟨_, _, _, k, rfl, ed, _, _, hA⟩ := hd.inv
    have := mnD_ps ed
    subst this
    obtain ⟨_, k', k1, _, hD⟩ := hA.at e
    obtain ⟨k2, h2, le⟩ := ih hD
    exact ⟨k2, h2, by rw [List.length_cons]; omega⟩
theorem Fill.depth {w d : PyData} {path : List Nat} {e : PyData} (x : Fill w d path e) : ∀ {n : Nat}, MnD n d → e.depth ≤ max d.depth (3 * path.length + w.depth) := by
  induction x with
  | nil => intro n _; rw [List.length_nil]; omega
  | @cons a ms ps i p path e g x' ih =>
    intro n hd
    obtain ⟨_, _, _, k, rfl, ed, _, om, hA⟩ := hd.inv
    obtain ⟨rfl, ems, rfl⟩ := mnD_inj ed
    have := ssD_inj ems
    subst this
    obtain ⟨_, k', k1, _, hD⟩ := hA.at g
    have h1 := ih hD
    have h2 := depth_pair (a := a) (ms := ms) (List.mem_of_getElem? g)
    rw [List.length_cons]
    have h3 : (mnD a ms (sortP (ps.set i (p.1, e)))).depth ≤ max ((mnD a ms ps).depth - 3) (3 * path.length + w.depth) + 3 := depth_mn om fun q hq => by
      have hq' := (sortP_perm _).mem_iff.mp hq
      rcases List.mem_or_eq_of_mem_set hq' with z | z
      · have := depth_pair (a := a) (ms := ms) z
        omega
      · rw [z]
        show e.depth ≤ _
        omega
    omega
/-- what stands in the hole's place -/
def Whole (h f w : PyData) : Prop := ∃ (ha fa : Str) (hms fms : SS) (hps fps : List Pr), h = mnD ha hms hps ∧ f = mnD fa fms fps ∧ w = mnD fa fms (sortP (hps ++ fps))
theorem Whole.uniq {h f w w' : PyData} (x : Whole h f w) (y : Whole h f w') : w = w' := by
  obtain ⟨_, _, _, _, _, _, rfl, rfl, rfl⟩ := x
  obtain ⟨_, _, _, _, _, _, e1, e2, rfl⟩ := y
  have := mnD_ps e1
  subst this
  obtain ⟨rfl, e3, rfl⟩ := mnD_inj e2
  have := ssD_inj e3
  subst this
  rfl
theorem Whole.depth {h f w : PyData} {n : Nat} (x : Whole h f w) (hf : MnD n f) : w.depth ≤ max 3 (max h.depth f.depth) := by
  obtain ⟨ha, fa, hms, fms, hps, fps, rfl, rfl, rfl⟩ := x
  obtain ⟨_, _, _, k, rfl, ed, _, om, hA⟩ := hf.inv
  obtain ⟨rfl, ems, rfl⟩ := mnD_inj ed
  have := ssD_inj ems
  subst this
  have h3 : (mnD fa fms (sortP (hps ++ fps))).depth ≤ max ((mnD ha hms hps).depth - 3) ((mnD fa fms fps).depth - 3) + 3 := depth_mn om fun q hq => by
    have hq' := (sortP_perm _).mem_iff.mp hq
    rcases List.mem_append.mp hq' with z | z
    · have := depth_pair (a := ha) (ms := hms) z
      omega
    · have := depth_pair (a := fa) (ms := fms) z
      omega
  omega
/-- there is room for what comes of filling -/
def Roomy (d f : PyData) : Prop := ∀ path h, Path d path h → holeB h = true → 3 * path.length + 3 ≤ 51 ∧ 3 * path.length + h.depth ≤ 51 ∧ 3 * path.length + f.depth ≤ 51
theorem Lk.path {d : PyData} {rs : List Row} (L : Lk d rs) (j : Nat) : ∀ {r : Row}, rs[j]? = some r → ∃ path, Path d path r.1 ∧ (0 < j → 1 ≤ path.length) := by
  induction j using Nat.strongRecOn with
  | ind j ih =>
    intro r hr
    by_cases h0 : j = 0
    · subst h0
      rw [L.1] at hr
      cases hr
      exact ⟨[], .nil, fun z => by omega⟩
    · obtain ⟨i, k, a, ms, ps, p, r', ij, _, hi, e1, hp, e2⟩ := L.2 j r hr (by omega)
      obtain ⟨path, x, _⟩ := ih i ij hi
      rw [e1] at x
      refine ⟨path ++ [k], x.app (.cons hp (e2 ▸ .nil)), fun _ => by rw [List.length_append]; show 1 ≤ path.length + 1; omega⟩
end Bn

namespace Bn
open PySem PySem.Spec PyProof.Rows L2 BR GX RM GY
theorem first_hole : ∀ {rs : List Row}, (∃ x ∈ rs.map (·.1), holeB x = true) → ∃ (j : Nat) (r : Row), rs[j]? = some r ∧ holeB r.1 = true ∧ ∀ (m : Nat) (r' : Row), m < j → rs[m]? = some r' → holeB r'.1 = false
  | [], h => by
    obtain ⟨x, hx, _⟩ := h
    cases hx
  | r :: rs, h => by
    cases e : holeB r.1 with
    | true => exact ⟨0, r, rfl, e, fun m r' hm _ => by omega⟩
    | false =>
      obtain ⟨x, hx, hb⟩ := h
      rw [List.map_cons] at hx
      rcases List.mem_cons.mp hx with z | z
      · rw [z, e] at hb
        cases hb
      · obtain ⟨j, r', h1, h2, h3⟩ := first_hole ⟨x, z, hb⟩
        refine ⟨j + 1, r', h1, h2, fun m q hm hq => ?_⟩
        cases m with
        | zero =>
          cases Option.some.inj hq
          exact e
        | succ m => exact h3 m q (by omega) hq
section
variable {P : Program} {w : World} {K : PySem.W.Frag} {mg : Str → Option Value} {base : Heap}
abbrev NF : List Str := ["meaning", "filler", "rows", "at", "around", "number", "hole", "whole", "outer", "above", "place", "inner"]
def spFill (K : PySem.W.Frag) : Sp := fun vs H Q _ => ∃ (v fv : V) (n m : Nat) (d f : PyData), vs = [v, fv] ∧ Mv K H v n d ∧ Mv K H fv m f ∧ n ≤ 100 ∧ m ≤ 100 ∧ d.depth ≤ 50 ∧ HoleIn d ∧ Roomy d f ∧ ∀ (t : V) (H' : Hp) (path : List Nat) (h wh e : PyData) (n' : Nat), Same H H' → Path d path h → holeB h = true → Whole h f wh → Fill wh d path e → Mv K H' t n' e → Q t H'
theorem ok_filled {f fA fH fR fC : Addr} {fd fdA fdH fdR fdC : FuncData} (F : Fun K "filled" "filled" s_filled f fd)
    (kA : PySem.W.keepIn K (.ref fA) = true) (bA : Binds K fdA ["meaning"] []) (gA : mg "all_within" = some (.ref fA)) (GA : FnOk P w K mg base CX0 1 fA fdA ["meaning"] (spAll K))
    (kH : PySem.W.keepIn K (.ref fH) = true) (bH : Binds K fdH ["meaning"] []) (gH : mg "is_hole" = some (.ref fH)) (GH : FnOk P w K mg base CX0 1 fH fdH ["meaning"] (spHole K))
    (kR : PySem.W.keepIn K (.ref fR) = true) (bR : Binds K fdR ["pairs"] []) (gR : mg "rising" = some (.ref fR)) (GR : FnOk P w K mg base CX0 1 fR fdR ["pairs"] (spRising K))
    (kC : PySem.W.keepIn K (.ref fC) = true) (bC : Binds K fdC ["meaning", "number", "inner"] []) (gC : mg "with_changed_pair" = some (.ref fC)) (GC : FnOk P w K mg base CX0 2 fC fdC ["meaning", "number", "inner"] (spChg K)) : FnOk P w K mg base CX0 3 f fd ["meaning", "filler"] (spFill K) := by
  refine F.ok sc_filled (fun vs H Q E h => ?_) (fun cdv A outer s H vs Q E hr h => ?_)
  · obtain ⟨v, fv, n, m, d, fl, rfl, _⟩ := h
    rfl
  · obtain ⟨v, fv, n, m, d, fl, rfl, hM, hF, hn, hm, hd, hh, room, q⟩ := h
    refine ⟨_, pss_cons (ps_set (i := 2) sc_filled.nd rfl (.inl rfl) (pe_call GA (hr.mono (by decide)) (by rfl) gA kA bA .nil pass0 (pa_cons (pv 0) pa_nil)))
      (pss_cons (ps_set (i := 3) sc_filled.nd rfl (.inl rfl) (pe_bm PySem.F.plainAttrs_list PySem.F.slot_list_index PySem.F.type_list_index mt_index
        (pe_lc (own := [("inner", 11), ("around", 4), ("number", 5)]) (tt := tYes) rfl sc_filled.nd (pi_list (pv 2))
            (blkOk_by (own := [("inner", 11), ("around", 4), ("number", 5)]) (N := NF) (sc := defScope s_filled) (by decide +kernel))
            (fun _ _ _ _ _ => pg_tupK (K := K) (n := 3) rfl (pg_tup (n := 3) rfl (pgs_cons (pg_name (i := 11) sc_filled.nd rfl (Or.inl rfl)) (pgs_cons (pg_name (i := 4) sc_filled.nd rfl (Or.inl rfl)) (pgs_cons (pg_name (i := 5) sc_filled.nd rfl (Or.inl rfl)) pgs_nil))))) (fun _ _ _ _ _ => pts_nil)
            (fun _ _ _ _ _ => pe_call GH (hr.mono (by decide)) (by rfl) gH kH bH .nil pass0 (pa_cons (pv 11) pa_nil))) (pa_cons pe_bl pa_nil)))
      (pss_cons (ps_asg (pe_ix ix_list (pv 2) (pv 3) (fun _ _ => rfl)) (pg_tup rfl (pgs_cons (pg_name (i := 6) sc_filled.nd rfl (.inl rfl)) (pgs_cons (pg_name (i := 4) sc_filled.nd rfl (.inl rfl)) (pgs_cons (pg_name (i := 5) sc_filled.nd rfl (.inl rfl)) pgs_nil)))))
      (pss_cons (ps_set (i := 7) sc_filled.nd rfl (.inl rfl) (pe_tup (pa_cons (pe_ix ix_tup (pv 1) pe_int (fun _ _ => rfl)) (pa_cons (pe_ix ix_tup (pv 1) pe_int (fun _ _ => rfl)) (pa_cons (pe_call GR (hr.mono (by decide)) (by rfl) gR kR bR .nil pass0 (pa_cons (pe_tup (StX.pa_star (pe_ix ix_tup (pv 6) pe_int (fun _ _ => rfl)) (StX.pa_star (pe_ix ix_tup (pv 1) pe_int (fun _ _ => rfl)) pa_nil))) pa_nil)) pa_nil)))))
      (pss_cons (ps_while PassesOwn.never (pt_cmpR op_ge (pv 4) pe_int (nomark _))
        (pss_cons (ps_asg (pe_ix ix_list (pv 2) (pv 4) (fun _ _ => rfl)) (pg_tup rfl (pgs_cons (pg_name (i := 8) sc_filled.nd rfl (.inl rfl)) (pgs_cons (pg_name (i := 9) sc_filled.nd rfl (.inl rfl)) (pgs_cons (pg_name (i := 10) sc_filled.nd rfl (.inl rfl)) pgs_nil)))))
        (pss_cons (ps_set (i := 7) sc_filled.nd rfl (.inl rfl) (pe_call GC hr (by rfl) gC kC bC .nil pass0 (pa_cons (pv 8) (pa_cons (pv 5) (pa_cons (pv 7) pa_nil)))))
        (pss_one (ps_par (i := 4) (j := 5) rfl sc_filled.nd rfl rfl (by decide) rfl rfl (pa_cons (pv 9) (pa_cons (pv 10) pa_nil)) rfl)))))
      (pss_one (ps_ret (pv 7))))))), ?_⟩
    refine ⟨_, rfl, v, n, d, rfl, hM, hn, fun r H1 ts rs nr s1 hr1 hrs hlk hl hho => ?_⟩
    have htl : ts.length = rs.length := Paired.length hrs
    obtain ⟨j0, r0, hj0, hb0, hno0⟩ := first_hole (hho.mpr hh)
    refine ⟨_, rfl, r, rfl, ⟨_, .inl (.inl hr1)⟩, fun D nD => ?_⟩
    refine lc_it (walk_list (K := K) (a := r) (xs := ts.map V.ref)) (fun i HX => Same H1 HX ∧ HX D = some (.lst ((rs.take i).map fun r => V.bl (holeB r.1)))) ⟨same_new nD, upd_same⟩ (fun i HX _ h => .inl (.inl (h.1 _ _ hr1))) (fun i x HX HX' hi hP' hY => ?_) (fun HX hP' => ?_)
    · obtain ⟨rfl, hx⟩ := hY
      obtain ⟨sX, hD⟩ := hP'
      rw [List.getElem?_map] at hx
      obtain ⟨t1, et1, ex⟩ := Option.map_eq_some_iff.mp hx
      subst ex
      obtain ⟨ri, hri, v1, n1, ht1, hM1, hn1⟩ := paired_at hrs et1
      refine ⟨t1, _, rfl, .inl (.inl (sX _ _ ht1)), rfl, _, _, rfl, _, _, rfl, _, _, rfl, rfl, ?_⟩
      refine ⟨rfl, tYes_in ⟨_, rfl, v1, n1, ri.1, rfl, hM1.same sX, hn1, fun H3 s3 => ?_⟩⟩
      refine ⟨_, s3 _ _ hD, ?_, Same.own (sX.trans s3) nD, ?_⟩
      · rw [List.length_map, List.length_take]
        exact small1000 (by omega)
      · rw [upd_same, take_get hri, List.map_append]
        rfl
    · obtain ⟨sX, hD⟩ := hP'
      rw [List.length_map, htl, List.take_length] at hD
      obtain ⟨d0, a0, b0⟩ := r0
      obtain ⟨t0, et0⟩ : ∃ t0, ts[j0]? = some t0 := ⟨_, List.getElem?_eq_getElem (by rw [htl]; exact (List.getElem?_eq_some_iff.mp hj0).1)⟩
      obtain ⟨r0', hr0', v0, n0, ht0, hM0, hn0⟩ := paired_at hrs et0
      rw [hj0] at hr0'
      cases hr0'
      have hrX := sX _ _ hr1
      have ht0X := sX _ _ ht0
      refine ⟨.inl ⟨rfl, _, .inl (.inl hD)⟩, D, _, V.bl true, j0, V.bl true, rfl, rfl, .inl (.inl hD), rfl, ?_, ?_, rfl, fun m z hm hz => ?_, ?_⟩
      · rw [List.all_eq_true]
        intro x hx
        obtain ⟨y, _, rfl⟩ := List.mem_map.mp hx
        rfl
      · rw [List.getElem?_map, hj0]
        show some (V.bl (holeB d0)) = _
        rw [show holeB d0 = true from hb0]
      · rw [List.getElem?_map] at hz
        obtain ⟨y, hy, rfl⟩ := Option.map_eq_some_iff.mp hz
        rw [hno0 m y hm hy]
        rfl
      refine ⟨_, rfl, _, rfl, r, _, _, V.ref t0, rfl, rfl, .inl (.inl hrX), atI_nat (by rw [List.getElem?_map, et0]; rfl), t0, _, rfl, .inl (.inl ht0X), rfl, _, _, rfl, _, _, rfl, _, _, rfl, rfl, ?_⟩
      have hM0X : Mv K HX v0 n0 d0 := hM0.same sX
      obtain ⟨t, a, mt, pt, ms, ps, mvs, pvs, k, rfl, rfl, rfl, o1, o2, tt1, m1, m2, p1, p2⟩ := hM0X.inv
      have s01 : Same H HX := s1.trans sX
      have hFX := hF.same s01
      obtain ⟨ft, fa, fmt, fpt, fms, fps, fmvs, fpvs, fk, rfl, rfl, rfl, fo1, fo2, ft1, fm1, fm2, fp1, fp2⟩ := hFX.inv
      refine ⟨_, rfl, ft, _, _, V.str fa, rfl, rfl, ft1, rfl, _, rfl, ft, _, _, V.ref fmt, rfl, rfl, ft1, rfl, ?_⟩
      refine ⟨_, rfl, t, _, _, V.ref pt, rfl, rfl, tt1, rfl, pt, _, rfl, .inl p1, _, rfl, ft, _, _, V.ref fpt, rfl, rfl, ft1, rfl, fpt, _, rfl, .inl fp1, ?_⟩
      have hpl := p2.len
      have hpn := p2.m.len
      have hfpl := fp2.len
      have hfpn := fp2.m.len
      have es : pvs ++ (fpvs ++ []) = pvs ++ fpvs := by rw [List.append_nil]
      refine ⟨by
        show (pvs ++ (fpvs ++ [])).length ≤ sizeLine
        rw [es, List.length_append]
        exact line1000 (by omega), fun t3 n3 => ?_⟩
      rw [es]
      have s3 := same_new (o := .tup (pvs ++ fpvs)) n3
      have h3 : (upd HX t3 (.tup (pvs ++ fpvs))) t3 = some (.tup (pvs ++ fpvs)) := upd_same
      generalize upd HX t3 (.tup (pvs ++ fpvs)) = H3 at s3 h3 ⊢
      have pv3 : Pv K H3 (pvs ++ fpvs) (k + fk) (ps ++ fps) := by
        refine ⟨?_, p2.m.app fp2.m⟩
        rw [List.map_append]
        exact dpAll_app (p2.same s3).p (fp2.same s3).p
      obtain ⟨path0, x0, _⟩ := hlk.path j0 hj0
      have x0' : Path d path0 (mnD a ms ps) := x0
      obtain ⟨rm1, rm2, rm3⟩ := room _ _ x0' hb0
      refine ⟨t3, _, _, _, rfl, .inl (.inl h3), pv3, fun p hp => ?_, fun t4 H4 pvs' ob n4 s4 h4 c1 c2 pv4 => ?_⟩
      · rcases List.mem_append.mp hp with z | z
        · have := depth_pair (a := a) (ms := ms) z
          omega
        · have := depth_pair (a := fa) (ms := fms) z
          omega
      refine ⟨(show 3 ≤ sizeLine by decide), fun t5 n5 => ?_⟩
      have s5 := (s3.trans s4).trans (same_new (o := .tup [.str fa, .ref fmt, .ref t4]) n5)
      have s45 := same_new (o := .tup [.str fa, .ref fmt, .ref t4]) n5
      have hW0 : Mv K (upd H4 t5 (.tup [.str fa, .ref fmt, .ref t4])) (.ref t5) (k + fk + 1) (mnD fa fms (sortP (ps ++ fps))) := Mv.mk' fo1 fo2 (.inl (.inl upd_same)) (sqT_same s5 _ _ fm1) (dp_keepAll (sqT_same s5) _ _ (noL_ss _) fm2) (.inl (.inr ⟨ob, s45 _ _ h4⟩)) (pv4.same s45)
      have sH5 : Same H (upd H4 t5 (.tup [.str fa, .ref fmt, .ref t4])) := s01.trans s5
      have s15 : Same H1 (upd H4 t5 (.tup [.str fa, .ref fmt, .ref t4])) := sX.trans s5
      generalize upd H4 t5 (.tup [.str fa, .ref fmt, .ref t4]) = H5 at hW0 sH5 s15 ⊢
      have whole : Whole (mnD a ms ps) (mnD fa fms fps) (mnD fa fms (sortP (ps ++ fps))) := ⟨a, fa, ms, fms, ps, fps, rfl, rfl, rfl⟩
      have wd := whole.depth hF.m
      generalize mnD fa fms (sortP (ps ++ fps)) = wh at hW0 whole wd
      refine ⟨fun j σ HY => ∃ (y8 y9 y10 y11 : Option V) (rj : Row) (path : List Nat) (e : PyData) (wv : V) (nw : Nat), σ = [some v, some (.ref ft), some (.ref r), some (.int (j0 : Nat)), some (.int rj.2.1), some (.int rj.2.2), some (.ref t), some wv, y8, y9, y10, y11] ∧ rs[j]? = some rj ∧ Same H1 HY ∧ Path rj.1 path (mnD a ms ps) ∧ Fill wh rj.1 path e ∧ Mv K HY wv nw e, ⟨j0, _, _, _, _, (mnD a ms ps, a0, b0), [], wh, .ref t5, _, rfl, hj0, s15, .nil, .nil, hW0⟩, fun j σ HY hW => ?_⟩
      obtain ⟨y8, y9, y10, y11, rj, path, e, wv, nw, rfl, hj, sY, hpa, hfi, hMw⟩ := hW
      by_cases z : j = 0
      · subst z
        rw [hlk.1] at hj
        cases hj
        refine ⟨_, rfl, _, _, rfl, rfl, _, rfl, iteF ⟨_, rfl, ?_⟩⟩
        exact q wv HY path _ wh e nw (s1.trans sY) hpa hb0 whole hfi hMw
      · obtain ⟨i, kk, oa, oms, ops, op, ri, ij, erj, hi, eri, hop, eop⟩ := hlk.2 j rj hj (by omega)
        obtain ⟨dj, aj, bj⟩ := rj
        cases erj
        obtain ⟨pj, xj, lj⟩ := hlk.path j hj
        have lj' := lj (by omega)
        obtain ⟨pi, xi, _⟩ := hlk.path i hi
        have rmj := room _ _ (xj.app hpa) hb0
        rw [List.length_append] at rmj
        obtain ⟨ti, eti⟩ : ∃ ti, ts[i]? = some ti := ⟨_, List.getElem?_eq_getElem (by rw [htl]; exact (List.getElem?_eq_some_iff.mp hi).1)⟩
        obtain ⟨ri', hri', vi, ni, hti, hMi, hni⟩ := paired_at hrs eti
        rw [hi] at hri'
        cases hri'
        obtain ⟨di, ai, bi⟩ := ri
        have eri' : di = mnD oa oms ops := eri
        subst eri'
        have eop' : op.2 = dj := eop
        subst eop'
        have hdi : (mnD oa oms ops).depth ≤ d.depth := xi.depth
        have hMiY := hMi.same sY
        refine ⟨_, rfl, _, _, rfl, rfl, _, rfl, ite2 (fun _ => ?_) (fun e0 => absurd (decide_eq_true (show (0 : Int) ≤ (i : Int) by omega)) e0)⟩
        refine ⟨_, fun σ' H' h => h, ?_⟩
        refine ⟨_, rfl, _, rfl, r, _, _, V.ref ti, rfl, rfl, .inl (.inl (sY _ _ hr1)), atI_nat (by rw [List.getElem?_map, eti]; rfl), ti, _, rfl, .inl (.inl (sY _ _ hti)), rfl, _, _, rfl, _, _, rfl, _, _, rfl, rfl, ?_⟩
        have hde : e.depth ≤ 50 := by
          obtain ⟨_, _, _, kx, _, ed2, _, _, hA⟩ := hMi.m.inv
          have := mnD_ps ed2
          subst this
          obtain ⟨_, k', k1, _, hD'⟩ := hA.at hop
          have h1 := hfi.depth hD'
          have h2 := xj.depth
          have h2' : op.2.depth ≤ d.depth := h2
          omega
        refine ⟨_, rfl, _, rfl, _, rfl, vi, wv, kk, ni, nw, oa, oms, ops, op, e, rfl, hMiY, hop, hMw, hni, fun p hp => ?_, hde, fun t7 H7 n7 s7 hM7 => ?_⟩
        · have := depth_pair (a := oa) (ms := oms) hp
          omega
        exact ⟨_, rfl, _, rfl, _, _, rfl, i, ij, _, _, _, _, (mnD oa oms ops, ai, bi), kk :: path, _, .ref t7, n7, rfl, hi, sY.trans s7, .cons hop hpa, .cons hop hfi, hM7⟩
end
end Bn

namespace Bn
open PySem PySem.Spec PyProof.Rows L2 BR GX RM GY
section
variable {K : PySem.W.Frag} {H H' : Hp} {b : Addr}
theorem Mv.kp {v : V} {n : Nat} {d : PyData} (h : Mv K H v n d) (hb : Bx H b) (k : Kp b H H') : Mv K H' v n d := h.keep (sqT_kp hb k)
theorem Pv.kp {vs : List V} {n : Nat} {ps : List Pr} (h : Pv K H vs n ps) (hb : Bx H b) (k : Kp b H H') : Pv K H' vs n ps := h.keep (sqT_kp hb k)
theorem cut_mem {xs : List V} {lo hi : Option Int} {x : V} (h : x ∈ cutV xs lo hi) : x ∈ xs := List.mem_of_mem_drop (List.mem_of_mem_take h)
end
theorem strs_at {zs : List Str} {n : Nat} (h : n < zs.length) : atI (zs.map V.str) (n : Int) = some (.str zs[n]) := atI_nat (by rw [List.getElem?_map, List.getElem?_eq_getElem h]; rfl)
theorem ok_lits {zs : List Str} (h : zs.all PyData.strOk = true) : ∀ x ∈ zs, okS x := fun x hx => (okS_iff x).mp (List.all_eq_true.mp h x hx)
theorem putSS (acc : SS) (m : Str × Str) (ha : okM acc) (hm : okS m.1 ∧ okS m.2) : ∃ acc', putK (kvSS acc) (.inr m.1) (.str m.2) = kvSS acc' ∧ okM acc' ∧ acc'.length ≤ acc.length + 1 := by
  unfold putK
  by_cases h : ((kvSS acc).any fun kv => decide (kv.1 = Sum.inr m.1)) = true
  · rw [if_pos h]
    refine ⟨acc.map fun p => if p.1 = m.1 then (p.1, m.2) else p, ?_, fun p hp => ?_, by rw [List.length_map]; omega⟩
    · show List.map _ (List.map _ acc) = List.map _ (List.map _ acc)
      rw [List.map_map, List.map_map]
      refine List.map_congr_left fun p _ => ?_
      show (if (Sum.inr p.1 : Key) = Sum.inr m.1 then ((Sum.inr p.1 : Key), V.str m.2) else (Sum.inr p.1, V.str p.2)) = _
      by_cases e : p.1 = m.1
      · rw [if_pos (by rw [e])]
        show _ = ((Sum.inr (if p.1 = m.1 then (p.1, m.2) else p).1 : Key), V.str (if p.1 = m.1 then (p.1, m.2) else p).2)
        rw [if_pos e]
      · rw [if_neg (fun z => e (Sum.inr.inj z))]
        show _ = ((Sum.inr (if p.1 = m.1 then (p.1, m.2) else p).1 : Key), V.str (if p.1 = m.1 then (p.1, m.2) else p).2)
        rw [if_neg e]
    · obtain ⟨p', hp', rfl⟩ := List.mem_map.mp hp
      by_cases e : p'.1 = m.1
      · rw [if_pos e]
        exact ⟨(ha p' hp').1, hm.2⟩
      · rw [if_neg e]
        exact ha p' hp'
  · rw [if_neg h]
    refine ⟨acc ++ [m], by simp, fun p hp => ?_, by simp⟩
    rcases List.mem_append.mp hp with z | z
    · exact ha p z
    · rw [List.mem_singleton.mp z]
      exact hm
theorem mergeSS : ∀ (ms acc : SS), okM acc → okM ms → ∃ acc', mergeK (kvSS acc) (kvSS ms) = kvSS acc' ∧ okM acc' ∧ acc'.length ≤ acc.length + ms.length
  | [], acc, ha, _ => ⟨acc, rfl, ha, Nat.le_refl _⟩
  | m :: ms, acc, ha, hm => by
    obtain ⟨a1, e1, h1, l1⟩ := putSS acc m ha (hm m (List.mem_cons_self ..))
    obtain ⟨a2, e2, h2, l2⟩ := mergeSS ms a1 h1 fun x hx => hm x (List.mem_cons_of_mem _ hx)
    refine ⟨a2, ?_, h2, by rw [List.length_cons]; omega⟩
    rw [← e2, ← e1]
    rfl
section
variable {K : PySem.W.Frag} {H : Hp}
theorem tss_pick {ts : List Addr} {ms : SS} (h : Tss H ts ms) (ok : okM ms) : ∀ {ys : List V}, (∀ y ∈ ys, y ∈ ts.map V.ref) → ∃ (qs : List Addr) (ns : SS), ys = qs.map V.ref ∧ Tss H qs ns ∧ okM ns
  | [], _ => ⟨[], [], rfl, .nil, fun m hm => by cases hm⟩
  | y :: ys, hy => by
    obtain ⟨qs, ns, e, h1, h2⟩ := tss_pick h ok (ys := ys) fun z hz => hy z (List.mem_cons_of_mem _ hz)
    obtain ⟨t, ht, et⟩ := List.mem_map.mp (hy y (List.mem_cons_self ..))
    obtain ⟨i, hi⟩ := List.getElem?_of_mem ht
    obtain ⟨m, hm, hr⟩ := paired_at h hi
    refine ⟨t :: qs, m :: ns, by rw [List.map_cons, et, e], .cons hr h1, fun x hx => ?_⟩
    rcases List.mem_cons.mp hx with z | z
    · rw [z]
      exact ok m (List.mem_of_getElem? hm)
    · exact h2 x z
theorem tss_dp {ts : List Addr} {ms : SS} (h : Tss H ts ms) : DpAll K H (ts.map V.ref) (ms.map ssD) := by
  induction h with
  | nil => exact .nil
  | cons x _ ih => exact .cons (.tup (.inl (.inl x)) (.cons (.str _) (.cons (.str _) .nil))) ih
end
/-- its pairs rise -/
def Srt (d : PyData) : Prop := ∀ a ms ps, d = mnD a ms ps → sortP ps = ps
theorem srt_sort {a : Str} {ms : SS} {ps : List Pr} {n : Nat} (h : MnA n ps) : Srt (mnD a ms (sortP ps)) := fun a' ms' ps' e => by
  have := mnD_ps e
  subst this
  exact sortP_idem h.ok
abbrev atoms6 : List Str := ["cat", "see", "x", "a", "dog", "zz"]
abbrev roles5 : List Str := ["who", "what", "to", "a", "of"]
abbrev marks4 : SS := [("num", "one"), ("num", "two"), ("gen", "he"), ("a", "b")]
theorem ok_marks4 : okM marks4 := fun m hm => by
  have : (marks4.all fun m => PyData.strOk m.1 && PyData.strOk m.2) = true := by decide +kernel
  have z := List.all_eq_true.mp this m hm
  rw [Bool.and_eq_true] at z
  exact ⟨(okS_iff _).mp z.1, (okS_iff _).mp z.2⟩
/-- marks as a value -/
structure Mk (K : PySem.W.Frag) (H : Hp) (mt : Addr) (ms : SS) : Prop where
  ex : ∃ mvs, SqT K H mt mvs ∧ DpAll K H mvs (ms.map ssD)
  ok : okM ms
theorem Mk.keep {K : PySem.W.Frag} {H H' : Hp} {mt : Addr} {ms : SS} (h : Mk K H mt ms) (hT : ∀ a xs, SqT K H a xs → SqT K H' a xs) : Mk K H' mt ms := by
  obtain ⟨⟨mvs, h1, h2⟩, h3⟩ := h
  exact ⟨⟨mvs, hT _ _ h1, dp_keepAll hT _ _ (noL_ss ms) h2⟩, h3⟩
theorem Mk.kp {K : PySem.W.Frag} {H H' : Hp} {b mt : Addr} {ms : SS} (h : Mk K H mt ms) (hb : Bx H b) (k : Kp b H H') : Mk K H' mt ms := h.keep (sqT_kp hb k)
section
variable {P : Program} {w : World} {K : PySem.W.Frag} {mg : Str → Option Value} {base : Heap}
abbrev NM : List Str := ["_law_box_here", "_law_many", "_law_hole", "_law_atom", "_law_marks", "_law_left", "_law_pairs", "_law_some", "_law_inner", "_law_role"]
def spMn (K : PySem.W.Frag) (N : Nat) : Sp := fun vs H Q _ => ∃ (b : Addr) (m : Nat) (ho : Bool), vs = [.ref b, .int (m : Nat), .bl ho] ∧ Bx H b ∧ 1 ≤ m ∧ m ≤ N ∧ ∀ (v : V) (H' : Hp) (n : Nat) (d : PyData), Kb b H H' → Mv K H' v n d → n ≤ m → Hc (bit ho) d → Srt d → Q v H'
theorem ok_mn {f fT fN fH : Addr} {fd fdT fdN fdH : FuncData} (F : Fun K "_law_meaning" "_law_meaning" s_l_meaning f fd)
    (kT : PySem.W.keepIn K (.ref fT) = true) (bT : Binds K fdT ["_law_box_here", "_law_many"] []) (gT : mg "_law_take" = some (.ref fT)) (GT : FnOk P w K mg base CX0 2 fT fdT ["_law_box_here", "_law_many"] spTake)
    (kN : PySem.W.keepIn K (.ref fN) = true) (bN : Binds K fdN ["_law_meaning_here"] []) (gN : mg "_law_nodes" = some (.ref fN)) (GN : FnOk P w K mg base CX0 1 fN fdN ["_law_meaning_here"] (spLn K))
    (kH : PySem.W.keepIn K (.ref fH) = true) (bH : Binds K fdH ["_law_meaning_here"] []) (gH : mg "_law_holed" = some (.ref fH)) (GH : FnOk P w K mg base CX0 1 fH fdH ["_law_meaning_here"] (spLh K))
    (bM : Binds K fd ["_law_box_here", "_law_many", "_law_hole"] []) (gM : mg "_law_meaning" = some (.ref f))
    (md : mg "dict" = none) (mso : mg "sorted" = none) (mtu : mg "tuple" = none) : ∀ N, N ≤ 12 → FnOk P w K mg base CX0 (N + 3) f fd ["_law_box_here", "_law_many", "_law_hole"] (spMn K N) := by
  intro N
  induction N with
  | zero =>
    intro _
    refine F.ok sc_l_meaning (fun vs H Q E h => ?_) (fun cdv A outer s H vs Q E hr h => ?_)
    · obtain ⟨b, m, ho, rfl, _⟩ := h
      rfl
    · obtain ⟨b, m, ho, rfl, _, h1, h2, _⟩ := h
      omega
  | succ N ih =>
    intro hN
    have GM := ih (by omega)
    refine F.ok sc_l_meaning (fun vs H Q E h => ?_) (fun cdv A outer s H vs Q E hr h => ?_)
    · obtain ⟨b, m, ho, rfl, _⟩ := h
      rfl
    · obtain ⟨b, m, ho, rfl, hb, h1, h2, q⟩ := h
      generalize eB : bit ho = B0 at q
      have bt : bit true = 1 := rfl
      have bf : bit false = 0 := rfl
      refine ⟨_, pss_cons (ps_set (i := 3) sc_l_meaning.nd rfl (.inl rfl) (pe_ix ix_list (pe_lst (pa_cons pe_str (pa_cons pe_str (pa_cons pe_str (pa_cons pe_str (pa_cons pe_str (pa_cons pe_str pa_nil))))))) (pe_call GT (hr.mono (by omega)) (by rfl) gT kT bT .nil pass0 (pa_cons (pv 0) (pa_cons pe_int pa_nil))) (fun _ _ => rfl)))
        (pss_cons (ps_set (i := 4) sc_l_meaning.nd rfl (.inl rfl) (pe_slice sl_list (pe_slice sl_list (pe_lst (pa_cons (pe_tup (pa_cons pe_str (pa_cons pe_str pa_nil))) (pa_cons (pe_tup (pa_cons pe_str (pa_cons pe_str pa_nil))) (pa_cons (pe_tup (pa_cons pe_str (pa_cons pe_str pa_nil))) (pa_cons (pe_tup (pa_cons pe_str (pa_cons pe_str pa_nil))) pa_nil))))) (po_some (pe_call GT (hr.mono (by omega)) (by rfl) gT kT bT .nil pass0 (pa_cons (pv 0) (pa_cons pe_int pa_nil)))) po_none) po_none (po_some (pe_call GT (hr.mono (by omega)) (by rfl) gT kT bT .nil pass0 (pa_cons (pv 0) (pa_cons pe_int pa_nil))))))
        (pss_cons (ps_set (i := 4) sc_l_meaning.nd rfl (.inl rfl) (pe_callTy call_tuple_of (by rfl) mtu (by decide +kernel) (pa_cons (pe_sortedItems hr.units rfl (pe_callTy (call_dictP rfl) (by rfl) md (by decide +kernel) (pa_cons (pv 4) pa_nil)) (by rfl) mso) pa_nil)))
        (C8.pss_cut (ps_if (PW.pt (pw_and (pt_cmpR (op_neD hr.units) (pv 4) (pe_tup pa_nil) (nomark _)) (pw_and1 (pt_cmpR op_eq (pe_call GT (hr.mono (by omega)) (by rfl) gT kT bT .nil pass0 (pa_cons (pv 0) (pa_cons pe_int pa_nil))) pe_int (nomark _))))) (pss_one (ps_set (i := 3) sc_l_meaning.nd rfl (.inl rfl) pe_str)) pss_nil)
        (pss_cons (ps_set (i := 5) sc_l_meaning.nd rfl (.inl rfl) (pe_op op_sub (pv 1) pe_int))
        (pss_cons (ps_set (i := 6) sc_l_meaning.nd rfl (.inl rfl) (pe_lst pa_nil))
        (C8.pss_cut (ps_if (PW.pt (pw_and (pt_val (pv 2)) (pw_and1 (PW.pt (pw_or (pt_cmpR op_lt (pv 5) pe_int (nomark _)) (pw_or1 (pt_cmpR op_eq (pe_call GT (hr.mono (by omega)) (by rfl) gT kT bT .nil pass0 (pa_cons (pv 0) (pa_cons pe_int pa_nil))) pe_int (nomark _)))))))) (pss_one (ps_asg (pe_tup (pa_cons pe_str (pa_cons (pe_tup pa_nil) (pa_cons pe_bl pa_nil)))) (pg_tup rfl (pgs_cons (pg_name (i := 3) sc_l_meaning.nd rfl (.inl rfl)) (pgs_cons (pg_name (i := 4) sc_l_meaning.nd rfl (.inl rfl)) (pgs_cons (pg_name (i := 2) sc_l_meaning.nd rfl (.inl rfl)) pgs_nil)))))) pss_nil)
        (pss_cons (ps_while PassesOwn.never (PW.pt (pw_and (pt_cmpR op_gt (pv 5) pe_int (nomark _)) (pw_and1 (PW.pt (pw_or (pt_val (pv 2)) (pw_or1 (pt_cmpR op_gt (pe_call GT (hr.mono (by omega)) (by rfl) gT kT bT .nil pass0 (pa_cons (pv 0) (pa_cons pe_int pa_nil))) pe_int (nomark _))))))))
          (pss_cons (ps_set (i := 7) sc_l_meaning.nd rfl (.inl rfl) (pe_op op_add pe_int (pe_call GT (hr.mono (by omega)) (by rfl) gT kT bT .nil pass0 (pa_cons (pv 0) (pa_cons (pv 5) pa_nil)))))
          (pss_cons (ps_set (i := 8) sc_l_meaning.nd rfl (.inl rfl) (pe_call GM (hr.mono (by omega)) (by rfl) gM F.kp bM .nil pass0 (pa_cons (pv 0) (pa_cons (pv 7) (pa_cons (pv 2) pa_nil)))))
          (pss_cons (ps_set (i := 2) sc_l_meaning.nd rfl (.inl rfl) pe_bl)
          (pss_cons (ps_set (i := 9) sc_l_meaning.nd rfl (.inl rfl) (pe_ix ix_list (pe_lst (pa_cons pe_str (pa_cons pe_str (pa_cons pe_str (pa_cons pe_str (pa_cons pe_str pa_nil)))))) (pe_call GT (hr.mono (by omega)) (by rfl) gT kT bT .nil pass0 (pa_cons (pv 0) (pa_cons pe_int pa_nil))) (fun _ _ => rfl)))
          (pss_cons (ps_expr (pe_bm PySem.F.plainAttrs_list PySem.F.slot_list_append PySem.F.type_list_append mt_append (pv 6) (pa_cons (pe_tup (pa_cons (pv 9) (pa_cons (pv 8) pa_nil))) pa_nil)))
          (pss_cons (ps_set (i := 5) sc_l_meaning.nd rfl (.inl rfl) (pe_op op_sub (pv 5) (pe_call GN (hr.mono (by omega)) (by rfl) gN kN bN .nil pass0 (pa_cons (pv 8) pa_nil))))
          (pss_one (ps_if (PW.pt (pw_and (pt_cmpR op_ge (pv 5) (pe_call GN (hr.mono (by omega)) (by rfl) gN kN bN .nil pass0 (pa_cons (pv 8) pa_nil)) (nomark _)) (pw_and (pt_cmpR op_eq (pe_call GT (hr.mono (by omega)) (by rfl) gT kT bT .nil pass0 (pa_cons (pv 0) (pa_cons pe_int pa_nil))) pe_int (nomark _)) (pw_and1 (pt_not (pt_val (pe_call GH (hr.mono (by omega)) (by rfl) gH kH bH .nil pass0 (pa_cons (pv 8) pa_nil))))))))
            (pss_cons (ps_expr (pe_bm PySem.F.plainAttrs_list PySem.F.slot_list_append PySem.F.type_list_append mt_append (pv 6) (pa_cons (pe_tup (pa_cons (pv 9) (pa_cons (pv 8) pa_nil))) pa_nil)))
            (pss_one (ps_set (i := 5) sc_l_meaning.nd rfl (.inl rfl) (pe_op op_sub (pv 5) (pe_call GN (hr.mono (by omega)) (by rfl) gN kN bN .nil pass0 (pa_cons (pv 8) pa_nil)))))) pss_nil)))))))))
        (pss_one (ps_ret (pe_tup (pa_cons (pv 3) (pa_cons (pv 4) (pa_cons (pe_callTy call_tuple_of (by rfl) mtu (by decide +kernel) (pa_cons (pe_callB (cr_sortedD hr.units) (by rfl) mso (by decide +kernel) (pa_cons (pv 6) pa_nil)) pa_nil)) pa_nil))))))))))))), ?_⟩
      -- atom
      refine ⟨(show 6 ≤ sizeLine by decide), fun l nl => ?_⟩
      have k1 : Kb b H (upd H l (.lst (atoms6.map V.str))) := Kb.new hb nl
      have h1' : (upd H l (.lst (atoms6.map V.str))) l = some (.lst (atoms6.map V.str)) := upd_same
      have nlb : l ≠ b := (hb.ne nl).symm
      refine ⟨_, rfl, b, 6, rfl, k1.x, by decide, by decide, fun n0 H2 hn0 k2 => ?_⟩
      have hlt : n0 < atoms6.length := by show n0 < 6; omega
      have oka := ok_lits (zs := atoms6) (by decide +kernel) _ (List.getElem_mem hlt)
      have nea : (!decide (atoms6[n0] = "")) = true := List.all_eq_true.mp (show (atoms6.all fun x => !decide (x = "")) = true by decide +kernel) _ (List.getElem_mem hlt)
      refine ⟨l, _, _, _, rfl, rfl, .inl (.inl (k2.k _ _ nlb h1')), strs_at hlt, ?_⟩
      have k12 : Kb b H H2 := k1.trans k2
      generalize atoms6[n0] = atom at oka nea ⊢
      rw [Bool.not_eq_true'] at nea
      -- marks
      refine ⟨(show 2 ≤ sizeLine by decide), fun t1 nt1 => ?_⟩
      have s1 := same_new (o := .tup [.str "num", .str "one"]) nt1
      have ht1 : (upd H2 t1 (.tup [.str "num", .str "one"])) t1 = some (.tup [.str "num", .str "one"]) := upd_same
      generalize upd H2 t1 (.tup [.str "num", .str "one"]) = HA at s1 ht1 ⊢
      refine ⟨(show 2 ≤ sizeLine by decide), fun t2 nt2 => ?_⟩
      have s2 := same_new (o := .tup [.str "num", .str "two"]) nt2
      have ht2 : (upd HA t2 (.tup [.str "num", .str "two"])) t2 = some (.tup [.str "num", .str "two"]) := upd_same
      generalize upd HA t2 (.tup [.str "num", .str "two"]) = HB at s2 ht2 ⊢
      refine ⟨(show 2 ≤ sizeLine by decide), fun t3 nt3 => ?_⟩
      have s3 := same_new (o := .tup [.str "gen", .str "he"]) nt3
      have ht3 : (upd HB t3 (.tup [.str "gen", .str "he"])) t3 = some (.tup [.str "gen", .str "he"]) := upd_same
      generalize upd HB t3 (.tup [.str "gen", .str "he"]) = HC at s3 ht3 ⊢
      refine ⟨(show 2 ≤ sizeLine by decide), fun t4 nt4 => ?_⟩
      have s4 := same_new (o := .tup [.str "a", .str "b"]) nt4
      have ht4 : (upd HC t4 (.tup [.str "a", .str "b"])) t4 = some (.tup [.str "a", .str "b"]) := upd_same
      generalize upd HC t4 (.tup [.str "a", .str "b"]) = HD at s4 ht4 ⊢
      refine ⟨(show 4 ≤ sizeLine by decide), fun l2 nl2 => ?_⟩
      have s5 := same_new (o := .lst ([t1, t2, t3, t4].map V.ref)) nl2
      have hl2 : (upd HD l2 (.lst ([t1, t2, t3, t4].map V.ref))) l2 = some (.lst ([t1, t2, t3, t4].map V.ref)) := upd_same
      have sall : Same H2 (upd HD l2 (.lst ([t1, t2, t3, t4].map V.ref))) := (((s1.trans s2).trans s3).trans s4).trans s5
      have k3 : Kb b H (upd HD l2 (.lst ([t1, t2, t3, t4].map V.ref))) := k12.trans ⟨Kp.of_same sall, k12.x.same sall⟩
      have hts : Tss (upd HD l2 (.lst ([t1, t2, t3, t4].map V.ref))) [t1, t2, t3, t4] marks4 := .cons (s5 _ _ (s4 _ _ (s3 _ _ (s2 _ _ ht1)))) (.cons (s5 _ _ (s4 _ _ (s3 _ _ ht2))) (.cons (s5 _ _ (s4 _ _ ht3)) (.cons (s5 _ _ ht4) .nil)))
      have nl2b : l2 ≠ b := by
        intro z
        have hx : Bx HD b := k12.x.same (((s1.trans s2).trans s3).trans s4)
        obtain ⟨x, y, zz, e⟩ := hx
        rw [z, e] at nl2
        cases nl2
      refine ⟨_, rfl, b, 4, rfl, k3.x, by decide, by decide, fun n1 H3 hn1 k4 => ?_⟩
      refine ⟨_, rfl, l2, _, rfl, .inl (.inl (k4.k _ _ nl2b hl2)), fun l3 nl3 => ?_⟩
      have hts3 : Tss H3 [t1, t2, t3, t4] marks4 := paired_mono hts fun _ _ e => k4.k _ _ (ne_bx k3.x e (fun _ _ _ z => by cases z)) e
      have k34 : Kb b H H3 := k3.trans k4
      have nl3b : l3 ≠ b := (k34.x.ne nl3).symm
      have k5 := Kb.new (o := .lst (cutV ([t1, t2, t3, t4].map V.ref) (some (n1 : Nat)) none)) k34.x nl3
      have hl3 : (upd H3 l3 (.lst (cutV ([t1, t2, t3, t4].map V.ref) (some (n1 : Nat)) none))) l3 = some (.lst (cutV ([t1, t2, t3, t4].map V.ref) (some (n1 : Nat)) none)) := upd_same
      refine ⟨_, rfl, b, 3, rfl, k5.x, by decide, by decide, fun n2 H4 hn2 k6 => ?_⟩
      refine ⟨_, rfl, l3, _, rfl, .inl (.inl (k6.k _ _ nl3b hl3)), fun l4 nl4 => ?_⟩
      have k46 : Kb b H3 H4 := k5.trans k6
      have hts4 : Tss H4 [t1, t2, t3, t4] marks4 := paired_mono hts3 fun _ _ e => k46.k _ _ (ne_bx k34.x e (fun _ _ _ z => by cases z)) e
      obtain ⟨qs, ns, eq, hqs, hns⟩ := tss_pick hts4 ok_marks4 (ys := cutV (cutV ([t1, t2, t3, t4].map V.ref) (some (n1 : Nat)) none) none (some (n2 : Nat))) fun y hy => cut_mem (cut_mem hy)
      rw [eq]
      have kH4 : Kb b H H4 := k34.trans k46
      have s7 := same_new (o := .lst (qs.map V.ref)) nl4
      have hl4 : (upd H4 l4 (.lst (qs.map V.ref))) l4 = some (.lst (qs.map V.ref)) := upd_same
      generalize upd H4 l4 (.lst (qs.map V.ref)) = H5 at s7 hl4 ⊢
      have hqs5 : Tss H5 qs ns := paired_mono hqs fun _ _ e => s7 _ _ e
      refine ⟨_, rfl, l4, qs, kvSS ns, rfl, .inl (.inl hl4), ?_, fun kd nkd => ?_⟩
      · have aux : ∀ {qs : List Addr} {ns : SS}, Tss H5 qs ns → Paired (fun p (kv : Key × V) => SqT K H5 p [kV kv.1, kv.2]) qs (kvSS ns) := fun {qs ns} h => by
          induction h with
          | nil => exact .nil
          | cons x _ ih => exact .cons (.inl (.inl x)) ih
        exact aux hqs5
      obtain ⟨ns', en, hns', _⟩ := mergeSS ns [] (fun m hm => by cases hm) hns
      have en' : mergeK [] (kvSS ns) = kvSS ns' := en
      rw [en']
      have s8 := same_new (o := .dK (kvSS ns')) nkd
      have hkd : (upd H5 kd (.dK (kvSS ns'))) kd = some (.dK (kvSS ns')) := upd_same
      generalize upd H5 kd (.dK (kvSS ns')) = H6 at s8 hkd ⊢
      refine ⟨kd, ns', rfl, hkd, fun H7 sl ts7 ms s9 nsl hsl ht7 perm => ⟨sl, _, rfl, .inl ⟨.inl (.inl hsl), fun mt nmt => ?_⟩⟩⟩
      have okms : okM ms := fun m hm => hns' m (perm.mem_iff.mp hm)
      have s10 := same_new (o := .tup (ts7.map V.ref)) nmt
      have hMk : Mk K (upd H7 mt (.tup (ts7.map V.ref))) mt ms := ⟨⟨_, .inl (.inl upd_same), tss_dp (paired_mono ht7 fun _ _ e => s10 _ _ e)⟩, okms⟩
      have sx : Same H4 (upd H7 mt (.tup (ts7.map V.ref))) := ((s7.trans s8).trans s9).trans s10
      have k8 : Kb b H (upd H7 mt (.tup (ts7.map V.ref))) := kH4.trans ⟨Kp.of_same sx, kH4.x.same sx⟩
      generalize upd H7 mt (.tup (ts7.map V.ref)) = H8 at hMk k8 ⊢
      refine ⟨fun σ HM => ∃ (a : Str) (y5 y6 y7 y8 y9 : Option V), σ = [some (.ref b), some (.int (m : Nat)), some (.bl ho), some (.str a), some (.ref mt), y5, y6, y7, y8, y9] ∧ okS a ∧ Kb b H HM ∧ Mk K HM mt ms ∧ (decide (a = "") && ms.isEmpty) = false, ?_, fun σ HM hM => ?_⟩
      · obtain ⟨mvs, m1, m2⟩ := hMk.ex
        refine ⟨_, rfl, Nat.zero_le _, fun p0 np0 => ?_⟩
        have sp := same_new (o := .tup []) np0
        have hp0 : (upd H8 p0 (.tup [])) p0 = some (.tup []) := upd_same
        have kp : Kb b H (upd H8 p0 (.tup [])) := k8.trans (Kb.new k8.x np0)
        generalize upd H8 p0 (.tup []) = H9 at sp hp0 kp ⊢
        have hMk9 := hMk.keep (sqT_same sp)
        refine ⟨_, _, .tup (sqT_same sp _ _ m1) (dp_keepAll (sqT_same sp) _ _ (noL_ss ms) m2), .tup (.inl (.inl hp0)) .nil, ss_shaped okms, rfl, _, rfl, ?_⟩
        rw [ss_nil_eqv]
        cases ei : ms.isEmpty with
        | true => exact iteF (iteF ⟨_, _, _, _, _, _, rfl, oka, kp, hMk9, by rw [nea]; rfl⟩)
        | false =>
          refine iteT ⟨_, rfl, b, 5, rfl, kp.x, by decide, by decide, fun n3 HE hn3 k9 => ⟨rfl, _, rfl, ite2 (fun e => ?_) (fun e => ?_)⟩⟩
          · exact ⟨_, _, _, _, _, _, rfl, (okS_iff _).mp (by decide +kernel), kp.trans k9, hMk9.kp kp.x k9.k, Bool.and_false _⟩
          · exact ⟨_, _, _, _, _, _, rfl, oka, kp.trans k9, hMk9.kp kp.x k9.k, by rw [nea]; rfl⟩
      · obtain ⟨a, y5, y6, y7, y8, y9, rfl, oka', kM, hMkM, nh⟩ := hM
        refine ⟨_, rfl, _, _, rfl, rfl, ?_⟩
        refine ⟨Nat.zero_le _, fun pl npl => ?_⟩
        have eleft : ∀ x : Int, x = ((m : Nat) : Int) - 1 → V.int x = V.int (((m - 1 : Nat)) : Int) := fun x e => congrArg V.int (by rw [e]; omega)
        have nplH : H pl = none := kM.free npl
        have nplb : pl ≠ b := (kM.x.ne npl).symm
        have kP : Kb b H (upd HM pl (.lst [])) := kM.trans (Kb.new kM.x npl)
        have hpl : (upd HM pl (.lst [])) pl = some (.lst []) := upd_same
        have hMkP : Mk K (upd HM pl (.lst [])) mt ms := hMkM.keep (sqT_same (same_new npl))
        generalize upd HM pl (.lst []) = HP at kP hpl hMkP ⊢
        refine ⟨fun σ HM => ∃ (a : Str) (mt : Addr) (ms : SS) (ho : Bool) (y7 y8 y9 : Option V), σ = [some (.ref b), some (.int (m : Nat)), some (.bl ho), some (.str a), some (.ref mt), some (.int (((m - 1 : Nat)) : Int)), some (.ref pl), y7, y8, y9] ∧ okS a ∧ Kb b H HM ∧ Mk K HM mt ms ∧ HM pl = some (.lst []) ∧ bit (decide (a = "") && ms.isEmpty) + bit ho = B0 ∧ (ho = true → 1 ≤ m - 1), ?_, fun σ HM hM => ?_⟩
        · have keep0 : ∀ {HX : Hp}, (ho = true → 1 ≤ m - 1) → Kb b HP HX → ∃ (a' : Str) (mt' : Addr) (ms' : SS) (ho' : Bool) (y7' y8' y9' : Option V), [some (V.ref b), some (.int (m : Nat)), some (.bl ho), some (.str a), some (.ref mt), some (.int (((m : Nat) : Int) - 1)), some (.ref pl), y7, y8, y9] = [some (.ref b), some (.int (m : Nat)), some (.bl ho'), some (.str a'), some (.ref mt'), some (.int (((m - 1 : Nat)) : Int)), some (.ref pl), y7', y8', y9'] ∧ okS a' ∧ Kb b H HX ∧ Mk K HX mt' ms' ∧ HX pl = some (.lst []) ∧ bit (decide (a' = "") && ms'.isEmpty) + bit ho' = B0 ∧ (ho' = true → 1 ≤ m - 1) := fun {HX} hm1 kX =>
            ⟨a, mt, ms, ho, y7, y8, y9, by rw [eleft _ rfl], oka', kP.trans kX, hMkP.kp kP.x kX.k, kX.k _ _ nplb hpl, by rw [nh]; omega, hm1⟩
          have give : ∀ {HX : Hp}, ho = true → Kb b HP HX → (2 ≤ sizeLine → True) → ∀ (p0 : Addr), HX p0 = none → ∀ (t0 : Addr), (upd HX p0 (.tup [])) t0 = none → ∃ (a' : Str) (mt' : Addr) (ms' : SS) (ho' : Bool) (y7' y8' y9' : Option V), [some (V.ref b), some (.int (m : Nat)), some (.bl false), some (.str ""), some (.ref p0), some (.int (((m : Nat) : Int) - 1)), some (.ref pl), y7, y8, y9] = [some (.ref b), some (.int (m : Nat)), some (.bl ho'), some (.str a'), some (.ref mt'), some (.int (((m - 1 : Nat)) : Int)), some (.ref pl), y7', y8', y9'] ∧ okS a' ∧ Kb b H (upd (upd HX p0 (.tup [])) t0 (.tup [.str "", .ref p0, .bl false])) ∧ Mk K (upd (upd HX p0 (.tup [])) t0 (.tup [.str "", .ref p0, .bl false])) mt' ms' ∧ (upd (upd HX p0 (.tup [])) t0 (.tup [.str "", .ref p0, .bl false])) pl = some (.lst []) ∧ bit (decide (a' = "") && ms'.isEmpty) + bit ho' = B0 ∧ (ho' = true → 1 ≤ m - 1) := fun {HX} eh kX _ p0 np0 t0 nt0 => by
            have sa := same_new (o := .tup []) np0
            have sb := same_new (o := .tup [.str "", .ref p0, .bl false]) nt0
            have hp0 : (upd HX p0 (.tup [])) p0 = some (.tup []) := upd_same
            have kk : Kb b HX (upd (upd HX p0 (.tup [])) t0 (.tup [.str "", .ref p0, .bl false])) := ⟨Kp.of_same (sa.trans sb), kX.x.same (sa.trans sb)⟩
            exact ⟨"", p0, [], false, y7, y8, y9, by rw [eleft _ rfl], (okS_iff _).mp (by decide +kernel), (kP.trans kX).trans kk, ⟨⟨[], .inl (.inl (sb _ _ hp0)), .nil⟩, fun m hm => by cases hm⟩, (sa.trans sb) _ _ (kX.k _ _ nplb hpl), by rw [← eB, eh]; rfl, fun z => by cases z⟩
          refine ⟨_, rfl, _, rfl, ?_⟩
          cases ho with
          | false => exact iteF (iteF (keep0 (fun z => by cases z) (Kb.refl kP.x)))
          | true =>
            refine iteT ⟨_, rfl, _, _, rfl, rfl, _, rfl, ite2 (fun e => ?_) (fun e => ?_)⟩
            · refine iteT ⟨Nat.zero_le _, fun p0 np0 => ⟨(show 3 ≤ sizeLine by decide), fun t0 nt0 => ⟨t0, _, rfl, .inl (.inl upd_same), rfl, _, _, rfl, _, _, rfl, _, _, rfl, rfl, ?_⟩⟩⟩
              exact give rfl (Kb.refl kP.x) (fun _ => trivial) p0 np0 t0 nt0
            · have hm1 : 1 ≤ m - 1 := by
                have e' : ¬ (((m : Nat) : Int) - 1 < 1) := fun z => e (decide_eq_true z)
                omega
              refine ⟨_, rfl, b, 3, rfl, kP.x, by decide, by decide, fun n3 HE hn3 k9 => ⟨rfl, _, rfl, ite2 (fun e => ?_) (fun e => ?_)⟩⟩
              · refine ⟨Nat.zero_le _, fun p0 np0 => ⟨(show 3 ≤ sizeLine by decide), fun t0 nt0 => ⟨t0, _, rfl, .inl (.inl upd_same), rfl, _, _, rfl, _, _, rfl, _, _, rfl, rfl, ?_⟩⟩⟩
                exact give rfl k9 (fun _ => trivial) p0 np0 t0 nt0
              · exact keep0 (fun _ => hm1) k9
        · obtain ⟨a, mt, ms, ho, y7, y8, y9, rfl, oka', kM, hMkM, hplM, hB, hho⟩ := hM
          refine ⟨fun k σ HY => ∃ (ho : Bool) (y7 y8 y9 : Option V) (pvs : List V) (np : Nat) (ps : List Pr), σ = [some (.ref b), some (.int (m : Nat)), some (.bl ho), some (.str a), some (.ref mt), some (.int (k : Nat)), some (.ref pl), y7, y8, y9] ∧ Kb b H HY ∧ Mk K HY mt ms ∧ HY pl = some (.lst pvs) ∧ Pv K HY pvs np ps ∧ np + k + 1 ≤ m ∧ ∃ c, HcA c ps ∧ bit (decide (a = "") && ms.isEmpty) + c + bit ho = B0 ∧ (ho = true → 1 ≤ k), ⟨m - 1, ho, y7, y8, y9, [], 0, [], rfl, kM, hMkM, hplM, ⟨.nil, .nil⟩, by omega, 0, .nil, by omega, hho⟩, fun k σ HY hW => ?_⟩
          obtain ⟨ho, y7, y8, y9, pvs, np, ps, rfl, kY, hMkY, hplY, hPv, hnk, c, hc, hB, hho⟩ := hW
          have hpvl := hPv.len
          have hpsl := hPv.m.len
          -- the end
          have fin : ∀ {HX : Hp}, ho = false → Kb b HY HX → tRet (tTup (tCons (tVar 3) (tCons (tVar 4) (tCons (tCB (fun xs H Q => ∃ p ys, xs = [V.ref p] ∧ ((SqL K H p ys ∧ ∀ l, H l = none → Q (.ref l) (upd H l (.tup ys))) ∨ (SqT K H p ys ∧ Q (.ref p) H))) (tCons (tCB (rSortedD K) (tCons (tVar 6) tNil)) tNil)) tNil)))) { nx := fun _ H' => Q .non H', rt := Q } [some (.ref b), some (.int (m : Nat)), some (.bl ho), some (.str a), some (.ref mt), some (.int (k : Nat)), some (.ref pl), y7, y8, y9] HX := fun {HX} eh kX => by
            have hcF : Hc B0 (mnD a ms (sortP ps)) := by
              have z := Hc.mk (a := a) (ms := ms) (hc.perm (sortP_perm ps).symm)
              rw [holeB_mn] at z
              rw [eh] at hB
              have e9 : bit (decide (a = "") && ms.isEmpty) + c = B0 := by omega
              rw [e9] at z
              exact z
            have hMkX := hMkY.kp kY.x kX.k
            have hPvX := hPv.kp kY.x kX.k
            have hplX := kX.k _ _ nplb hplY
            obtain ⟨z1, z2⟩ := zip_fst (dpAll_len hPvX.p)
            refine ⟨_, rfl, _, rfl, _, rfl, pl, pvs.zip (ps.map prD), rfl, ?_, fun c' hc' => ⟨zip_dp hPvX.p c' hc', ?_⟩, ?_, ?_, fun sl nsl => ?_⟩
            · rw [z1]
              exact .inl (.inl hplX)
            · obtain ⟨p, hp, e⟩ := List.mem_map.mp (List.of_mem_zip hc').2
              rw [← e]
              obtain ⟨i, hi⟩ := List.getElem?_of_mem hp
              obtain ⟨_, kp, kp1, _, hMp⟩ := hPvX.m.at hi
              have := ((mn_facts kp).1 _ hMp).2
              show max 0 (max p.2.depth 0) + 1 ≤ 60
              omega
            · rw [z2]
              exact pr_alike hPvX.m
            · rw [z2]
              exact pr_sortable ps
            · have sa := same_new (o := .lst ((sortD (pvs.zip (ps.map prD))).map (·.1))) nsl
              have hsl : (upd HX sl (.lst ((sortD (pvs.zip (ps.map prD))).map (·.1)))) sl = some (.lst ((sortD (pvs.zip (ps.map prD))).map (·.1))) := upd_same
              have hsort := hPvX.sorted
              generalize (sortD (pvs.zip (ps.map prD))).map (·.1) = svs at sa hsl hsort ⊢
              generalize upd HX sl (.lst svs) = HS at sa hsl ⊢
              refine ⟨sl, _, rfl, .inl ⟨.inl (.inl hsl), fun tt ntt => ?_⟩⟩
              have sb := same_new (o := .tup svs) ntt
              have htt : (upd HS tt (.tup svs)) tt = some (.tup svs) := upd_same
              generalize upd HS tt (.tup svs) = HT at sb htt ⊢
              refine ⟨(show 3 ≤ sizeLine by decide), fun tf ntf => ?_⟩
              have sc := same_new (o := .tup [.str a, .ref mt, .ref tt]) ntf
              have sabc := (sa.trans sb).trans sc
              obtain ⟨mvs, m1, m2⟩ := (hMkX.keep (sqT_same sabc)).ex
              have kF : Kb b H (upd HT tf (.tup [.str a, .ref mt, .ref tt])) := (kY.trans kX).trans ⟨Kp.of_same sabc, kX.x.same sabc⟩
              exact q (.ref tf) _ (np + 1) _ kF (Mv.mk' oka' hMkX.ok (.inl (.inl upd_same)) m1 m2 (.inl (.inl (sc _ _ htt))) (hsort.same sabc)) (by omega) hcF (srt_sort hPvX.m)
          refine ⟨_, rfl, _, _, rfl, rfl, _, rfl, ite2 (fun e => ?_) (fun e => ?_)⟩
          · have ek := of_decide_eq_true e
            refine ⟨_, rfl, _, rfl, ?_⟩
            cases ho with
            | true =>
              refine iteT (iteT ?_)
              have kX : Kb b HY HY := Kb.refl kY.x
              refine ⟨_, fun σ' H' h => h, ?_⟩
              have hplX := kX.k _ _ nplb hplY
              have hPvX := hPv.kp kY.x kX.k
              have hMkX := hMkY.kp kY.x kX.k
              refine ⟨_, rfl, _, rfl, b, (k : Nat), rfl, kX.x, by omega, by omega, fun n4 HF hn4 kF => ⟨_, _, rfl, rfl, ?_⟩⟩
              have esome : (fun i j : Int => V.int (i + j)) 1 (n4 : Nat) = V.int ((n4 + 1 : Nat) : Int) := congrArg V.int (show (1 : Int) + (n4 : Nat) = ((n4 + 1 : Nat) : Int) by omega)
              rw [esome]
              refine ⟨_, rfl, _, rfl, _, rfl, b, n4 + 1, _, rfl, kF.x, by omega, by omega, fun iv HG ni di kG hMi hni hHi _ => ?_⟩
              have kXG := kF.trans kG
              have hdi : di.depth ≤ 50 := by
                have := ((mn_facts ni).1 di hMi.m).2
                omega
              refine ⟨(show 5 ≤ sizeLine by decide), fun rl nrl => ?_⟩
              have kR := Kb.new (o := .lst (roles5.map V.str)) kG.x nrl
              have hrl : (upd HG rl (.lst (roles5.map V.str))) rl = some (.lst (roles5.map V.str)) := upd_same
              have nrlb : rl ≠ b := (kG.x.ne nrl).symm
              refine ⟨_, rfl, b, 5, rfl, kR.x, by decide, by decide, fun n5 HI hn5 kI => ?_⟩
              have hlt5 : n5 < roles5.length := by show n5 < 5; omega
              have okr := ok_lits (zs := roles5) (by decide +kernel) _ (List.getElem_mem hlt5)
              refine ⟨rl, _, _, _, rfl, rfl, .inl (.inl (kI.k _ _ nrlb hrl)), strs_at hlt5, ?_⟩
              generalize roles5[n5] = role at okr ⊢
              have kGI : Kb b HG HI := kR.trans kI
              have kXI : Kb b HY HI := kXG.trans kGI
              have hplI := kXI.k _ _ nplb hplX
              have hMiI := hMi.kp kG.x kGI.k
              have hPvI := hPvX.kp kX.x kXI.k
              have hMkI := hMkX.kp kX.x kXI.k
              -- the pair
              refine ⟨_, rfl, .inl ⟨rfl, _, .inl (.inl hplI)⟩, _, rfl, _, rfl, (show 2 ≤ sizeLine by decide), fun tp ntp => ?_⟩
              have sp := same_new (o := .tup [.str role, iv]) ntp
              have htp : (upd HI tp (.tup [.str role, iv])) tp = some (.tup [.str role, iv]) := upd_same
              have kIJ : Kb b HI (upd HI tp (.tup [.str role, iv])) := Kb.new kXI.x ntp
              generalize upd HI tp (.tup [.str role, iv]) = HJ at sp htp kIJ ⊢
              have hplJ := sp _ _ hplI
              refine ⟨pl, _, _, rfl, rfl, hplJ, small1000 (by omega), ?_⟩
              have hpair : MnA (ni + 0) [(role, di)] := .cons okr hMi.m .nil
              have kkJ : ∀ a xs, SqT K HJ a xs → SqT K (upd HJ pl (.lst (pvs ++ [.ref tp]))) a xs := sqT_upd hplJ
              have hPvK : Pv K (upd HJ pl (.lst (pvs ++ [.ref tp]))) (pvs ++ [.ref tp]) (np + ni) (ps ++ [(role, di)]) := by
                refine ⟨?_, hPvI.m.app hpair⟩
                rw [List.map_append]
                have h1 := (hPvI.same sp).keep kkJ
                have h2 := (hMiI.same sp).keep kkJ
                exact dpAll_app h1.p (.cons (.tup (kkJ _ _ (.inl (.inl htp))) (.cons (.str role) (.cons h2.p .nil))) .nil)
              have hMiK := (hMiI.same sp).keep kkJ
              have hMkK := (hMkI.keep (sqT_same sp)).keep kkJ
              have htpK : SqT K (upd HJ pl (.lst (pvs ++ [.ref tp]))) tp [.str role, iv] := kkJ _ _ (.inl (.inl htp))
              have kK : Kb b H (upd HJ pl (.lst (pvs ++ [.ref tp]))) := ((((kY.trans kX).trans kXI).trans kIJ)).own nplH nplb
              have hplK : (upd HJ pl (.lst (pvs ++ [.ref tp]))) pl = some (.lst (pvs ++ [.ref tp])) := upd_same
              generalize upd HJ pl (.lst (pvs ++ [.ref tp])) = HK at hPvK hMiK hMkK htpK kK hplK ⊢
              have ni1 : 1 ≤ ni := by
                obtain ⟨_, _, _, z, e, _⟩ := hMi.m.inv
                omega
              -- left
              refine ⟨_, rfl, _, rfl, iv, ni, di, rfl, hMiK, by omega, hdi, fun HL sL => ⟨_, _, rfl, rfl, ?_⟩⟩
              have el : (fun i j : Int => V.int (i - j)) (k : Nat) (ni : Nat) = V.int ((k - ni : Nat) : Int) := congrArg V.int (show ((k : Nat) : Int) - (ni : Nat) = ((k - ni : Nat) : Int) by omega)
              rw [el]
              have kL : Kb b H HL := kK.trans ⟨Kp.of_same sL, kK.x.same sL⟩
              have hPvL := hPvK.same sL
              have hMiL := hMiK.same sL
              have hMkL := hMkK.keep (sqT_same sL)
              have hplL := sL _ _ hplK
              have htpL := sqT_same sL _ _ htpK
              refine ⟨_, rfl, _, rfl, iv, ni, di, rfl, hMiL, by omega, hdi, fun HN sN => ⟨_, _, rfl, rfl, _, rfl, ite2 (fun e1 => ?_) (fun e1 => ?_)⟩⟩
              · have e1' := of_decide_eq_true e1
                have kN : Kb b H HN := kL.trans ⟨Kp.of_same sN, kL.x.same sN⟩
                refine ⟨_, rfl, b, 6, rfl, kN.x, by decide, by decide, fun n6 HO' hn6 kO => ⟨rfl, _, rfl, ite2 (fun e2 => ?_) (fun e2 => ?_)⟩⟩
                · have hMiO := (hMiL.same sN).kp kN.x kO.k
                  refine ⟨_, rfl, iv, ni, di, rfl, hMiO, by omega, hdi, fun HR sR => ⟨_, rfl, ?_⟩⟩
                  have kO' : Kb b H HR := (kN.trans kO).trans ⟨Kp.of_same sR, kO.x.same sR⟩
                  have hPvR := ((hPvL.same sN).kp kN.x kO.k).same sR
                  have hMkR := ((hMkL.keep (sqT_same sN)).kp kN.x kO.k).keep (sqT_same sR)
                  have hplR := sR _ _ (kO.k _ _ nplb (sN _ _ hplL))
                  have hMiR := hMiO.same sR
                  cases hdj : holed di with
                  | true => exact iteF ⟨k - ni, by omega, false, _, _, _, _, np + ni, _, rfl, kO', hMkR, hplR, hPvR, by omega, c + (bit true + 0), hc.app (.cons hHi .nil), by omega, fun z => by cases z⟩
                  | false =>
                    exact absurd (holed_of (by
                      obtain ⟨pth, hh, x1, x2, _⟩ := Hc.one hMi.m (show Hc 1 di from hHi)
                      exact path_hole x1 x2)) (by rw [hdj]; decide)
                · exact ⟨k - ni, by omega, false, _, _, _, _, np + ni, _, rfl, kN.trans kO, (hMkL.keep (sqT_same sN)).kp kN.x kO.k, kO.k _ _ nplb (sN _ _ hplL), (hPvL.same sN).kp kN.x kO.k, by omega, c + (bit true + 0), hc.app (.cons hHi .nil), by omega, fun z => by cases z⟩
              · exact ⟨k - ni, by omega, false, _, _, _, _, np + ni, _, rfl, kL.trans ⟨Kp.of_same sN, kL.x.same sN⟩, hMkL.keep (sqT_same sN), sN _ _ hplL, hPvL.same sN, by omega, c + (bit true + 0), hc.app (.cons hHi .nil), by omega, fun z => by cases z⟩
            | false =>
              refine iteF ⟨_, rfl, b, 5, rfl, kY.x, by decide, by decide, fun n3 HX hn3 kX => ⟨_, _, rfl, rfl, _, rfl, ite2 (fun e3 => ?_) (fun e3 => fin rfl kX)⟩⟩
              refine ⟨_, fun σ' H' h => h, ?_⟩
              have hplX := kX.k _ _ nplb hplY
              have hPvX := hPv.kp kY.x kX.k
              have hMkX := hMkY.kp kY.x kX.k
              refine ⟨_, rfl, _, rfl, b, (k : Nat), rfl, kX.x, by omega, by omega, fun n4 HF hn4 kF => ⟨_, _, rfl, rfl, ?_⟩⟩
              have esome : (fun i j : Int => V.int (i + j)) 1 (n4 : Nat) = V.int ((n4 + 1 : Nat) : Int) := congrArg V.int (show (1 : Int) + (n4 : Nat) = ((n4 + 1 : Nat) : Int) by omega)
              rw [esome]
              refine ⟨_, rfl, _, rfl, _, rfl, b, n4 + 1, _, rfl, kF.x, by omega, by omega, fun iv HG ni di kG hMi hni hHi _ => ?_⟩
              have kXG := kF.trans kG
              have hdi : di.depth ≤ 50 := by
                have := ((mn_facts ni).1 di hMi.m).2
                omega
              refine ⟨(show 5 ≤ sizeLine by decide), fun rl nrl => ?_⟩
              have kR := Kb.new (o := .lst (roles5.map V.str)) kG.x nrl
              have hrl : (upd HG rl (.lst (roles5.map V.str))) rl = some (.lst (roles5.map V.str)) := upd_same
              have nrlb : rl ≠ b := (kG.x.ne nrl).symm
              refine ⟨_, rfl, b, 5, rfl, kR.x, by decide, by decide, fun n5 HI hn5 kI => ?_⟩
              have hlt5 : n5 < roles5.length := by show n5 < 5; omega
              have okr := ok_lits (zs := roles5) (by decide +kernel) _ (List.getElem_mem hlt5)
              refine ⟨rl, _, _, _, rfl, rfl, .inl (.inl (kI.k _ _ nrlb hrl)), strs_at hlt5, ?_⟩
              generalize roles5[n5] = role at okr ⊢
              have kGI : Kb b HG HI := kR.trans kI
              have kXI : Kb b HX HI := kXG.trans kGI
              have hplI := kXI.k _ _ nplb hplX
              have hMiI := hMi.kp kG.x kGI.k
              have hPvI := hPvX.kp kX.x kXI.k
              have hMkI := hMkX.kp kX.x kXI.k
              -- the pair
              refine ⟨_, rfl, .inl ⟨rfl, _, .inl (.inl hplI)⟩, _, rfl, _, rfl, (show 2 ≤ sizeLine by decide), fun tp ntp => ?_⟩
              have sp := same_new (o := .tup [.str role, iv]) ntp
              have htp : (upd HI tp (.tup [.str role, iv])) tp = some (.tup [.str role, iv]) := upd_same
              have kIJ : Kb b HI (upd HI tp (.tup [.str role, iv])) := Kb.new kXI.x ntp
              generalize upd HI tp (.tup [.str role, iv]) = HJ at sp htp kIJ ⊢
              have hplJ := sp _ _ hplI
              refine ⟨pl, _, _, rfl, rfl, hplJ, small1000 (by omega), ?_⟩
              have hpair : MnA (ni + 0) [(role, di)] := .cons okr hMi.m .nil
              have kkJ : ∀ a xs, SqT K HJ a xs → SqT K (upd HJ pl (.lst (pvs ++ [.ref tp]))) a xs := sqT_upd hplJ
              have hPvK : Pv K (upd HJ pl (.lst (pvs ++ [.ref tp]))) (pvs ++ [.ref tp]) (np + ni) (ps ++ [(role, di)]) := by
                refine ⟨?_, hPvI.m.app hpair⟩
                rw [List.map_append]
                have h1 := (hPvI.same sp).keep kkJ
                have h2 := (hMiI.same sp).keep kkJ
                exact dpAll_app h1.p (.cons (.tup (kkJ _ _ (.inl (.inl htp))) (.cons (.str role) (.cons h2.p .nil))) .nil)
              have hMiK := (hMiI.same sp).keep kkJ
              have hMkK := (hMkI.keep (sqT_same sp)).keep kkJ
              have htpK : SqT K (upd HJ pl (.lst (pvs ++ [.ref tp]))) tp [.str role, iv] := kkJ _ _ (.inl (.inl htp))
              have kK : Kb b H (upd HJ pl (.lst (pvs ++ [.ref tp]))) := ((((kY.trans kX).trans kXI).trans kIJ)).own nplH nplb
              have hplK : (upd HJ pl (.lst (pvs ++ [.ref tp]))) pl = some (.lst (pvs ++ [.ref tp])) := upd_same
              generalize upd HJ pl (.lst (pvs ++ [.ref tp])) = HK at hPvK hMiK hMkK htpK kK hplK ⊢
              have ni1 : 1 ≤ ni := by
                obtain ⟨_, _, _, z, e, _⟩ := hMi.m.inv
                omega
              -- left
              refine ⟨_, rfl, _, rfl, iv, ni, di, rfl, hMiK, by omega, hdi, fun HL sL => ⟨_, _, rfl, rfl, ?_⟩⟩
              have el : (fun i j : Int => V.int (i - j)) (k : Nat) (ni : Nat) = V.int ((k - ni : Nat) : Int) := congrArg V.int (show ((k : Nat) : Int) - (ni : Nat) = ((k - ni : Nat) : Int) by omega)
              rw [el]
              have kL : Kb b H HL := kK.trans ⟨Kp.of_same sL, kK.x.same sL⟩
              have hPvL := hPvK.same sL
              have hMiL := hMiK.same sL
              have hMkL := hMkK.keep (sqT_same sL)
              have hplL := sL _ _ hplK
              have htpL := sqT_same sL _ _ htpK
              refine ⟨_, rfl, _, rfl, iv, ni, di, rfl, hMiL, by omega, hdi, fun HN sN => ⟨_, _, rfl, rfl, _, rfl, ite2 (fun e1 => ?_) (fun e1 => ?_)⟩⟩
              · have e1' := of_decide_eq_true e1
                have kN : Kb b H HN := kL.trans ⟨Kp.of_same sN, kL.x.same sN⟩
                refine ⟨_, rfl, b, 6, rfl, kN.x, by decide, by decide, fun n6 HO' hn6 kO => ⟨rfl, _, rfl, ite2 (fun e2 => ?_) (fun e2 => ?_)⟩⟩
                · have hMiO := (hMiL.same sN).kp kN.x kO.k
                  refine ⟨_, rfl, iv, ni, di, rfl, hMiO, by omega, hdi, fun HR sR => ⟨_, rfl, ?_⟩⟩
                  have kO' : Kb b H HR := (kN.trans kO).trans ⟨Kp.of_same sR, kO.x.same sR⟩
                  have hPvR := ((hPvL.same sN).kp kN.x kO.k).same sR
                  have hMkR := ((hMkL.keep (sqT_same sN)).kp kN.x kO.k).keep (sqT_same sR)
                  have hplR := sR _ _ (kO.k _ _ nplb (sN _ _ hplL))
                  have hMiR := hMiO.same sR
                  cases hdj : holed di with
                  | true => exact iteF ⟨k - ni, by omega, false, _, _, _, _, np + ni, _, rfl, kO', hMkR, hplR, hPvR, by omega, c + (bit false + 0), hc.app (.cons hHi .nil), by omega, fun z => by cases z⟩
                  | false =>
                    refine iteT ⟨_, rfl, .inl ⟨rfl, _, .inl (.inl hplR)⟩, _, rfl, _, rfl, (show 2 ≤ sizeLine by decide), fun tq ntq => ?_⟩
                    have sq := same_new (o := .tup [.str role, iv]) ntq
                    have htq : (upd HR tq (.tup [.str role, iv])) tq = some (.tup [.str role, iv]) := upd_same
                    have kRS : Kb b HR (upd HR tq (.tup [.str role, iv])) := Kb.new kO'.x ntq
                    generalize upd HR tq (.tup [.str role, iv]) = HS at sq htq kRS ⊢
                    have hplS := sq _ _ hplR
                    have hpvl2 := hPvR.len
                    have hpsl2 := hPvR.m.len
                    refine ⟨pl, _, _, rfl, rfl, hplS, small1000 (by omega), ?_⟩
                    have kkS : ∀ a xs, SqT K HS a xs → SqT K (upd HS pl (.lst ((pvs ++ [.ref tp]) ++ [.ref tq]))) a xs := sqT_upd hplS
                    have hPvT : Pv K (upd HS pl (.lst ((pvs ++ [.ref tp]) ++ [.ref tq]))) ((pvs ++ [.ref tp]) ++ [.ref tq]) (np + ni + ni) ((ps ++ [(role, di)]) ++ [(role, di)]) := by
                      refine ⟨?_, hPvR.m.app hpair⟩
                      rw [List.map_append]
                      have h1 := (hPvR.same sq).keep kkS
                      have h2 := (hMiR.same sq).keep kkS
                      exact dpAll_app h1.p (.cons (.tup (kkS _ _ (.inl (.inl htq))) (.cons (.str role) (.cons h2.p .nil))) .nil)
                    have hMiT := (hMiR.same sq).keep kkS
                    have hMkT := (hMkR.keep (sqT_same sq)).keep kkS
                    have kT' : Kb b H (upd HS pl (.lst ((pvs ++ [.ref tp]) ++ [.ref tq]))) := (kO'.trans kRS).own nplH nplb
                    have hplT : (upd HS pl (.lst ((pvs ++ [.ref tp]) ++ [.ref tq]))) pl = some (.lst ((pvs ++ [.ref tp]) ++ [.ref tq])) := upd_same
                    generalize upd HS pl (.lst ((pvs ++ [.ref tp]) ++ [.ref tq])) = HT at hPvT hMiT hMkT kT' hplT ⊢
                    refine ⟨_, rfl, _, rfl, iv, ni, di, rfl, hMiT, by omega, hdi, fun HU sU => ⟨_, _, rfl, rfl, ?_⟩⟩
                    have el2 : (fun i j : Int => V.int (i - j)) ((k - ni : Nat) : Int) (ni : Nat) = V.int ((k - ni - ni : Nat) : Int) := congrArg V.int (show ((k - ni : Nat) : Int) - (ni : Nat) = ((k - ni - ni : Nat) : Int) by omega)
                    rw [el2]
                    exact ⟨k - ni - ni, by omega, false, _, _, _, _, np + ni + ni, _, rfl, kT'.trans ⟨Kp.of_same sU, kT'.x.same sU⟩, hMkT.keep (sqT_same sU), sU _ _ hplT, hPvT.same sU, by omega, c + (bit false + 0) + (bit false + 0), (hc.app (.cons hHi .nil)).app (.cons hHi .nil), by omega, fun z => by cases z⟩
                · exact ⟨k - ni, by omega, false, _, _, _, _, np + ni, _, rfl, kN.trans kO, (hMkL.keep (sqT_same sN)).kp kN.x kO.k, kO.k _ _ nplb (sN _ _ hplL), (hPvL.same sN).kp kN.x kO.k, by omega, c + (bit false + 0), hc.app (.cons hHi .nil), by omega, fun z => by cases z⟩
              · exact ⟨k - ni, by omega, false, _, _, _, _, np + ni, _, rfl, kL.trans ⟨Kp.of_same sN, kL.x.same sN⟩, hMkL.keep (sqT_same sN), sN _ _ hplL, hPvL.same sN, by omega, c + (bit false + 0), hc.app (.cons hHi .nil), by omega, fun z => by cases z⟩
          · have ek : ¬ _ := fun z => e (decide_eq_true z)
            exact fin (by
              cases ho with
              | false => rfl
              | true =>
                have := hho rfl
                exact absurd (show ((k : Nat) : Int) > 0 by omega) ek) (Kb.refl kY.x)
end
end Bn

namespace Bn
open PySem PySem.Spec PyProof.Rows L2 BR GX RM GY
abbrev intV (path : List Nat) : List V := path.map fun i => V.int (i : Nat)
section
variable {P : Program} {w : World} {K : PySem.W.Frag} {mg : Str → Option Value} {base : Heap}
/-! ### way -/
def spWay (K : PySem.W.Frag) (N : Nat) : Sp := fun vs H Q _ => ∃ (v : V) (n : Nat) (d : PyData), vs = [v] ∧ Mv K H v n d ∧ n ≤ N ∧ d.depth ≤ 50 ∧ Hc 1 d ∧ ∀ (r : Addr) (H' : Hp) (path : List Nat) (h : PyData), H r = none → Same H H' → H' r = some (.lst (intV path)) → Path d path h → holeB h = true → Q (.ref r) H'
theorem ok_way {f fH : Addr} {fd fdH : FuncData} (F : Fun K "_law_way" "_law_way" s_l_way f fd)
    (kH : PySem.W.keepIn K (.ref fH) = true) (bH : Binds K fdH ["_law_meaning_here"] []) (gH : mg "_law_holed" = some (.ref fH)) (GH : FnOk P w K mg base CX0 1 fH fdH ["_law_meaning_here"] (spLh K))
    (bM : Binds K fd ["_law_meaning_here"] []) (gM : mg "_law_way" = some (.ref f)) (me : mg "enumerate" = none) : ∀ N, N ≤ 12 → FnOk P w K mg base CX0 (N + 3) f fd ["_law_meaning_here"] (spWay K N) := by
  intro N
  induction N with
  | zero =>
    intro _
    refine F.ok sc_l_way (fun vs H Q E h => ?_) (fun cdv A outer s H vs Q E hr h => ?_)
    · obtain ⟨v, n, d, rfl, _⟩ := h
      rfl
    · obtain ⟨v, n, d, rfl, hM, hn, _⟩ := h
      obtain ⟨_, _, _, k, e, _⟩ := hM.m.inv
      omega
  | succ N ih =>
    intro hN
    have GM := ih (by omega)
    refine F.ok sc_l_way (fun vs H Q E h => ?_) (fun cdv A outer s H vs Q E hr h => ?_)
    · obtain ⟨v, n, d, rfl, _⟩ := h
      rfl
    · obtain ⟨v, n, d, rfl, hM, hn, hd, hc, q⟩ := h
      refine ⟨_, C8.pss_cut (ps_if (PW.pt (pw_and (pt_cmpR op_eq (pe_ix ix_tup (pv 0) pe_int (fun _ _ => rfl)) pe_str (nomark _)) (pw_and1 (pt_cmpR (op_eqD hr.units) (pe_ix ix_tup (pv 0) pe_int (fun _ _ => rfl)) (pe_tup pa_nil) (nomark _))))) (pss_one (ps_ret (pe_lst pa_nil))) pss_nil)
        (pss_cons (ps_for PassesOwn.never rfl (pi_enumT (by rfl) me (pa_cons (pe_ix ix_tup (pv 0) pe_int (fun _ _ => rfl)) pa_nil)) (pg_tup rfl (pgs_cons (pg_name (i := 1) sc_l_way.nd rfl (.inl rfl)) (pgs_cons (pg_name (i := 2) sc_l_way.nd rfl (.inl rfl)) pgs_nil)))
          (pss_one (ps_if (pt_val (pe_call GH (hr.mono (by omega)) (by rfl) gH kH bH .nil pass0 (pa_cons (pe_ix ix_tup (pv 2) pe_int (fun _ _ => rfl)) pa_nil))) (pss_one (ps_ret (pe_op op_cat (pe_lst (pa_cons (pv 1) pa_nil)) (pe_call GM hr (by rfl) gM F.kp bM .nil pass0 (pa_cons (pe_ix ix_tup (pv 2) pe_int (fun _ _ => rfl)) pa_nil))))) pss_nil)))
        (pss_one (ps_ret (pe_lst pa_nil)))), ?_⟩
      obtain ⟨t, a, mt, pt, ms, ps, mvs, pvs, k, rfl, rfl, rfl, o1, o2, t1, m1, m2, p1, p2⟩ := hM.inv
      have hpl := p2.len
      have hpn := p2.m.len
      refine ⟨fun σ HM => (∃ y1 y2 : Option V, σ = [some (.ref t), y1, y2]) ∧ Same H HM ∧ holeB (mnD a ms ps) = false, ?_, fun σ HM hM' => ?_⟩
      · refine ⟨_, rfl, t, _, _, V.str a, rfl, rfl, t1, rfl, rfl, _, rfl, ?_⟩
        have ev : decide (V.str a = V.str "") = decide (a = "") := by
          by_cases h : a = ""
          · subst h
            rfl
          · rw [decide_eq_false h, decide_eq_false fun z => h (V.str.inj z)]
        rw [ev]
        by_cases h : a = ""
        · rw [decide_eq_true h]
          refine iteT ⟨_, rfl, t, _, _, V.ref mt, rfl, rfl, t1, rfl, Nat.zero_le _, fun p0 np0 => ?_⟩
          have sp0 := same_new (o := .tup []) np0
          have hp0 : (upd H p0 (.tup [])) p0 = some (.tup []) := upd_same
          generalize upd H p0 (.tup []) = HR at sp0 hp0 ⊢
          refine ⟨_, _, .tup (sqT_same sp0 _ _ m1) (dp_keepAll (sqT_same sp0) _ _ (noL_ss ms) m2), .tup (.inl (.inl hp0)) .nil, ss_shaped o2, rfl, _, rfl, ?_⟩
          rw [ss_nil_eqv]
          cases ei : ms.isEmpty with
          | true =>
            have hb : holeB (mnD a ms ps) = true := by
              rw [holeB_mn, decide_eq_true h, ei]
              rfl
            exact iteT ⟨Nat.zero_le _, fun r nr => q r _ [] _ (sp0.free nr) (sp0.trans (same_new nr)) upd_same .nil hb⟩
          | false =>
            refine iteF ⟨⟨_, _, rfl⟩, sp0, ?_⟩
            rw [holeB_mn, ei, Bool.and_false]
        · rw [decide_eq_false h]
          refine iteF (iteF ⟨⟨_, _, rfl⟩, Same.refl _, ?_⟩)
          rw [holeB_mn, decide_eq_false h]
          rfl
      · obtain ⟨⟨y1, y2, rfl⟩, sM, nh⟩ := hM'
        obtain ⟨k', ek, hk⟩ := hc.inv'
        rw [nh] at ek
        have ek' : k' = 1 := by
          have : bit false = 0 := rfl
          omega
        subst ek'
        have p1M := sqT_same sM _ _ p1
        refine ⟨_, rfl, t, _, _, V.ref pt, rfl, rfl, sqT_same sM _ _ t1, rfl, pt, _, rfl, p1M, ?_⟩
        refine for_it (walk_enumT (K := K) (a := pt) (xs := pvs)) (fun i σ HY => (∃ y1 y2 : Option V, σ = [some (.ref t), y1, y2]) ∧ Same H HY ∧ ∀ j p, j < i → ps[j]? = some p → ¬ HoleIn p.2) ⟨⟨_, _, rfl⟩, sM, fun j p hj => by omega⟩ (fun i σ HY _ h => sqT_same h.2.1 _ _ p1) (fun i x σ HY HY' hi hP' hY => ?_) (fun σ HY hP' => ?_)
        · obtain ⟨T, u1, u2, rfl, nT, rfl, e1, e2⟩ := hY
          obtain ⟨⟨y1, y2, rfl⟩, sY, hno⟩ := hP'
          have e1' := Option.some.inj e1
          subst e1'
          obtain ⟨p, pq, iv, kp, hpi, rfl, hpq, okp, kp1, kp2, hMi⟩ := (p2.same sY).at (show pvs[i]? = some u2 from e2)
          have sT := same_new (o := .tup [.int (i : Nat), .ref pq]) nT
          have hT : (upd HY T (.tup [.int (i : Nat), .ref pq])) T = some (.tup [.int (i : Nat), .ref pq]) := upd_same
          generalize upd HY T (.tup [.int (i : Nat), .ref pq]) = HT at sT hT ⊢
          have hpd := depth_pair (a := a) (ms := ms) (List.mem_of_getElem? hpi)
          refine ⟨T, _, rfl, .inl (.inl hT), rfl, _, _, rfl, _, _, rfl, rfl, ?_⟩
          refine ⟨_, rfl, pq, _, _, iv, rfl, rfl, sqT_same sT _ _ hpq, rfl, iv, kp, p.2, rfl, hMi.same sT, by omega, by omega, fun H3 s3 => ⟨_, rfl, ?_⟩⟩
          cases hh : holed p.2 with
          | false =>
            refine iteF ⟨⟨_, _, rfl⟩, (sY.trans sT).trans s3, fun j p' hj hp' => ?_⟩
            by_cases z : j = i
            · subst z
              rw [hpi] at hp'
              cases hp'
              intro y
              rw [holed_of y] at hh
              cases hh
            · exact hno j p' (by omega) hp'
          | true =>
            have yes := (holed_iff _).mp hh
            obtain ⟨c, m', ec, hcp, _⟩ := hk.at hpi
            have c1 : c = 1 := by
              by_cases z : c = 0
              · subst z
                exact absurd yes (Hc.zero hMi.m hcp)
              · omega
            subst c1
            have sT3 := sT.trans s3
            refine iteT ⟨_, rfl, (show 1 ≤ sizeLine by decide), fun l nl => ?_⟩
            have sl := same_new (o := .lst [.int (i : Nat)]) nl
            have hl : (upd H3 l (.lst [.int (i : Nat)])) l = some (.lst [.int (i : Nat)]) := upd_same
            generalize upd H3 l (.lst [.int (i : Nat)]) = H4 at sl hl ⊢
            have sYl := sT3.trans sl
            refine ⟨_, rfl, pq, _, _, iv, rfl, rfl, sqT_same sYl _ _ hpq, rfl, iv, kp, p.2, rfl, hMi.same sYl, by omega, by omega, hcp, fun r H5 path h _ s5 hr5 hpa hb => ?_⟩
            refine ⟨l, r, _, _, rfl, rfl, s5 _ _ hl, hr5, ?_, fun l6 nl6 => ?_⟩
            · obtain ⟨kx, _, hx⟩ := hpa.mn hMi.m
              rw [List.length_map]
              exact line1000 (by show 1 + path.length ≤ 1000; omega)
            · exact q l6 _ (i :: path) h (((sY.trans sYl).trans s5).free nl6) (((sY.trans sYl).trans s5).trans (same_new nl6)) upd_same (.cons hpi hpa) hb
        · obtain ⟨_, sY, hno⟩ := hP'
          exfalso
          obtain ⟨i, p, hi, hp, _⟩ := hcA_one hk rfl
          obtain ⟨_, k2, k3, _, hD⟩ := p2.m.at hi
          obtain ⟨pth, hx, x1, x2, _⟩ := Hc.one hD hp
          exact hno i p (by rw [hpl]; exact (List.getElem?_eq_some_iff.mp hi).1) hi (path_hole x1 x2)
end
end Bn

namespace Bn
open PySem PySem.Spec PyProof.Rows L2 BR GX RM GY
section
variable {P : Program} {w : World} {K : PySem.W.Frag} {mg : Str → Option Value} {base : Heap}
theorem intV_dp {H : Hp} : ∀ path : List Nat, DpAll K H (intV path) (path.map fun i => PyData.int (i : Nat))
  | [] => .nil
  | i :: path => .cons (.int _) (intV_dp path)
theorem intV_shaped : ∀ path : List Nat, PyData.canLayAll0 (path.map fun i => PyData.int (i : Nat)) = true ∧ PyData.depthAll (path.map fun i => PyData.int (i : Nat)) = 0
  | [] => ⟨rfl, rfl⟩
  | i :: path => by
    obtain ⟨a, b⟩ := intV_shaped path
    exact ⟨a, by show max 0 (PyData.depthAll (path.map fun i => PyData.int (i : Nat))) = 0; rw [b]; rfl⟩
theorem intV_sh (path : List Nat) : SeqAt.shaped (.list (path.map fun i => PyData.int (i : Nat))) = true := by
  obtain ⟨a, b⟩ := intV_shaped path
  show (PyData.canLayAll0 (path.map fun i => PyData.int (i : Nat)) && decide (PyData.depthAll (path.map fun i => PyData.int (i : Nat)) + 1 ≤ 64)) = true
  rw [a, b]
  rfl
theorem ixN_at {n j : Nat} (hj : j < n) : ixN n (j : Int) = some j := by
  unfold ixN
  rw [if_pos (by omega), if_pos (by omega), Int.toNat_natCast]
theorem Path.nil_inv {d h : PyData} (x : Path d [] h) : h = d := by
  generalize e : ([] : List Nat) = p at x
  cases x with
  | nil => rfl
  | cons => cases e
theorem sorted_pairs {H : Hp} {pl : Addr} {pvs : List V} {n : Nat} {ps : List Pr} {Q : VK} (hl : SqL K H pl pvs) (hP : Pv K H pvs n ps) (hd : ∀ p ∈ ps, p.2.depth ≤ 50) (q : ∀ sl HS svs, Same H HS → HS sl = some (.lst svs) → Pv K HS svs n (sortP ps) → Q (.ref sl) HS) : rSortedD K [V.ref pl] H Q := by
  obtain ⟨z1, z2⟩ := zip_fst (dpAll_len hP.p)
  refine ⟨pl, pvs.zip (ps.map prD), rfl, ?_, fun c hc => ⟨zip_dp hP.p c hc, ?_⟩, ?_, ?_, fun l nl => ?_⟩
  · rw [z1]
    exact hl
  · obtain ⟨p, hp, e⟩ := List.mem_map.mp (List.of_mem_zip hc).2
    rw [← e]
    have := hd p hp
    show max 0 (max p.2.depth 0) + 1 ≤ 60
    omega
  · rw [z2]
    exact pr_alike hP.m
  · rw [z2]
    exact pr_sortable ps
  · have s1 := same_new (o := .lst ((sortD (pvs.zip (ps.map prD))).map (·.1))) nl
    exact q l _ _ s1 upd_same (hP.sorted.same s1)
/-! ### due -/
def spDue (K : PySem.W.Frag) (N : Nat) : Sp := fun vs H Q _ => ∃ (v fv : V) (wl : Addr) (n m : Nat) (d f h : PyData) (path : List Nat), vs = [v, .ref wl, fv] ∧ Mv K H v n d ∧ Mv K H fv m f ∧ H wl = some (.lst (intV path)) ∧ n ≤ 100 ∧ m ≤ 100 ∧ d.depth ≤ 50 ∧ path.length < N ∧ Path d path h ∧ (3 * path.length + 3 ≤ 51 ∧ 3 * path.length + h.depth ≤ 51 ∧ 3 * path.length + f.depth ≤ 51) ∧ ∀ (t : V) (H' : Hp) (wh e : PyData) (n' : Nat), Same H H' → Whole h f wh → Fill wh d path e → Mv K H' t n' e → Q t H'
theorem ok_due {f : Addr} {fd : FuncData} (F : Fun K "_law_due" "_law_due" s_l_due f fd)
    (bM : Binds K fd ["_law_meaning_here", "_law_way_here", "_law_filler"] []) (gM : mg "_law_due" = some (.ref f)) (mso : mg "sorted" = none) (mtu : mg "tuple" = none) (mli : mg "list" = none) : ∀ N, N ≤ 12 → FnOk P w K mg base CX0 (N + 3) f fd ["_law_meaning_here", "_law_way_here", "_law_filler"] (spDue K N) := by
  intro N
  induction N with
  | zero =>
    intro _
    refine F.ok sc_l_due (fun vs H Q E h => ?_) (fun cdv A outer s H vs Q E hr h => ?_)
    · obtain ⟨v, fv, wl, n, m, d, fl, h, path, rfl, _⟩ := h
      rfl
    · obtain ⟨v, fv, wl, n, m, d, fl, h, path, rfl, _, _, _, _, _, _, z, _⟩ := h
      omega
  | succ N ih =>
    intro hN
    have GM := ih (by omega)
    refine F.ok sc_l_due (fun vs H Q E h => ?_) (fun cdv A outer s H vs Q E hr h => ?_)
    · obtain ⟨v, fv, wl, n, m, d, fl, h, path, rfl, _⟩ := h
      rfl
    · obtain ⟨v, fv, wl, n, m, d, fl, h, path, rfl, hM, hF, hw, hn, hm, hd, hN', hpa, ⟨rm1, rm2, rm3⟩, q⟩ := h
      refine ⟨_, C8.pss_cut (ps_if (pt_cmpR (op_eqD hr.units) (pv 1) (pe_lst pa_nil) (nomark _)) (pss_one (ps_ret (pe_tup (pa_cons (pe_ix ix_tup (pv 2) pe_int (fun _ _ => rfl)) (pa_cons (pe_ix ix_tup (pv 2) pe_int (fun _ _ => rfl)) (pa_cons (pe_callTy call_tuple_of (by rfl) mtu (by decide +kernel) (pa_cons (pe_callB (cr_sortedD hr.units) (by rfl) mso (by decide +kernel) (pa_cons (pe_op op_cat (pe_callTy call_list_of (by rfl) mli (by decide +kernel) (pa_cons (pe_ix ix_tup (pv 0) pe_int (fun _ _ => rfl)) pa_nil)) (pe_callTy call_list_of (by rfl) mli (by decide +kernel) (pa_cons (pe_ix ix_tup (pv 2) pe_int (fun _ _ => rfl)) pa_nil))) pa_nil)) pa_nil)) pa_nil)))))) pss_nil)
        (pss_cons (ps_set (i := 3) sc_l_due.nd rfl (.inl rfl) (pe_callTy call_list_of (by rfl) mli (by decide +kernel) (pa_cons (pe_ix ix_tup (pv 0) pe_int (fun _ _ => rfl)) pa_nil)))
        (pss_cons (ps_asg (pe_ix ix_list (pv 3) (pe_ix ix_list (pv 1) pe_int (fun _ _ => rfl)) (fun _ _ => rfl)) (pg_tup rfl (pgs_cons (pg_name (i := 4) sc_l_due.nd rfl (.inl rfl)) (pgs_cons (pg_name (i := 5) sc_l_due.nd rfl (.inl rfl)) pgs_nil))))
        (pss_cons (ps_asg (pe_tup (pa_cons (pv 4) (pa_cons (pe_call GM hr (by rfl) gM F.kp bM .nil pass0 (pa_cons (pv 5) (pa_cons (pe_slice sl_list (pv 1) (po_some pe_int) po_none) (pa_cons (pv 2) pa_nil)))) pa_nil))) (pg_sub (pv 3) (pe_ix ix_list (pv 1) pe_int (fun _ _ => rfl)) set_list))
        (pss_one (ps_ret (pe_tup (pa_cons (pe_ix ix_tup (pv 0) pe_int (fun _ _ => rfl)) (pa_cons (pe_ix ix_tup (pv 0) pe_int (fun _ _ => rfl)) (pa_cons (pe_callTy call_tuple_of (by rfl) mtu (by decide +kernel) (pa_cons (pe_callB (cr_sortedD hr.units) (by rfl) mso (by decide +kernel) (pa_cons (pv 3) pa_nil)) pa_nil)) pa_nil))))))))), ?_⟩
      obtain ⟨t, a, mt, pt, ms, ps, mvs, pvs, k, rfl, rfl, rfl, o1, o2, t1, m1, m2, p1, p2⟩ := hM.inv
      have hpl := p2.len
      have hpn := p2.m.len
      refine ⟨fun σ HM => (∃ y3 y4 y5 : Option V, σ = [some (.ref t), some (.ref wl), some fv, y3, y4, y5]) ∧ Same H HM ∧ path ≠ [], ?_, fun σ HM hM' => ?_⟩
      · refine ⟨_, rfl, Nat.zero_le _, fun p np => ?_⟩
        have sp := same_new (o := .lst []) np
        have hp : (upd H p (.lst [])) p = some (.lst []) := upd_same
        generalize upd H p (.lst []) = HP at sp hp ⊢
        refine ⟨_, _, .lst (.inl (.inl (sp _ _ hw))) (intV_dp path), .lst (.inl (.inl hp)) .nil, intV_sh path, rfl, _, rfl, ?_⟩
        rw [list_nil_eqv]
        cases path with
        | cons i path => exact iteF ⟨⟨_, _, _, rfl⟩, sp, fun z => by cases z⟩
        | nil =>
          have eh := hpa.nil_inv
          subst eh
          have hFP := hF.same sp
          obtain ⟨ft, fa, fmt, fpt, fms, fps, fmvs, fpvs, fk, rfl, rfl, rfl, fo1, fo2, ft1, fm1, fm2, fp1, fp2⟩ := hFP.inv
          have hfpl := fp2.len
          have hfpn := fp2.m.len
          refine iteT ⟨_, rfl, ft, _, _, V.str fa, rfl, rfl, ft1, rfl, _, rfl, ft, _, _, V.ref fmt, rfl, rfl, ft1, rfl, ?_⟩
          refine ⟨_, rfl, t, _, _, V.ref pt, rfl, rfl, sqT_same sp _ _ t1, rfl, pt, _, rfl, .inr (sqT_same sp _ _ p1), fun l1 nl1 => ?_⟩
          have sb := same_new (o := .lst pvs) nl1
          have hl1 : (upd HP l1 (.lst pvs)) l1 = some (.lst pvs) := upd_same
          generalize upd HP l1 (.lst pvs) = HB at sb hl1 ⊢
          refine ⟨_, rfl, ft, _, _, V.ref fpt, rfl, rfl, sqT_same sb _ _ ft1, rfl, fpt, _, rfl, .inr (sqT_same sb _ _ fp1), fun l2 nl2 => ?_⟩
          have sc := same_new (o := .lst fpvs) nl2
          have hl2 : (upd HB l2 (.lst fpvs)) l2 = some (.lst fpvs) := upd_same
          generalize upd HB l2 (.lst fpvs) = HC at sc hl2 ⊢
          refine ⟨l1, l2, _, _, rfl, rfl, sc _ _ hl1, hl2, line1000 (by omega), fun l3 nl3 => ?_⟩
          have sd := same_new (o := .lst (pvs ++ fpvs)) nl3
          have hl3 : (upd HC l3 (.lst (pvs ++ fpvs))) l3 = some (.lst (pvs ++ fpvs)) := upd_same
          generalize upd HC l3 (.lst (pvs ++ fpvs)) = HD at sd hl3 ⊢
          have sPD : Same HP HD := (sb.trans sc).trans sd
          have pvD : Pv K HD (pvs ++ fpvs) (k + fk) (ps ++ fps) := by
            refine ⟨?_, p2.m.app fp2.m⟩
            rw [List.map_append]
            exact dpAll_app (p2.same (sp.trans sPD)).p (fp2.same sPD).p
          delta tNil
          refine sorted_pairs (.inl (.inl hl3)) pvD (fun p hp => ?_) fun sl HS svs sS hsl hsv => ?_
          · rcases List.mem_append.mp hp with z | z
            · have := depth_pair (a := a) (ms := ms) z
              omega
            · have := depth_pair (a := fa) (ms := fms) z
              omega
          refine ⟨sl, _, rfl, .inl ⟨.inl (.inl hsl), fun tt ntt => ?_⟩⟩
          have se := same_new (o := .tup svs) ntt
          have htt : (upd HS tt (.tup svs)) tt = some (.tup svs) := upd_same
          generalize upd HS tt (.tup svs) = HE at se htt ⊢
          refine ⟨(show 3 ≤ sizeLine by decide), fun tf ntf => ?_⟩
          have sf := same_new (o := .tup [.str fa, .ref fmt, .ref tt]) ntf
          have sPF := ((sPD.trans sS).trans se).trans sf
          exact q (.ref tf) _ _ _ _ (sp.trans sPF) ⟨a, fa, ms, fms, ps, fps, rfl, rfl, rfl⟩ .nil (Mv.mk' fo1 fo2 (.inl (.inl upd_same)) (sqT_same sPF _ _ fm1) (dp_keepAll (sqT_same sPF) _ _ (noL_ss _) fm2) (.inl (.inl (sf _ _ htt))) (hsv.same (se.trans sf)))
      · obtain ⟨⟨y3, y4, y5, rfl⟩, sM, npath⟩ := hM'
        cases path with
        | nil => exact absurd rfl npath
        | cons i path =>
          obtain ⟨p, hi, hpa'⟩ := hpa.inv
          rw [List.length_cons] at rm1 rm2 rm3 hN'
          refine ⟨_, rfl, t, _, _, V.ref pt, rfl, rfl, sqT_same sM _ _ t1, rfl, pt, _, rfl, .inr (sqT_same sM _ _ p1), fun l1 nl1 => ?_⟩
          have sb := same_new (o := .lst pvs) nl1
          have hl1 : (upd HM l1 (.lst pvs)) l1 = some (.lst pvs) := upd_same
          have nl1H : H l1 = none := sM.free nl1
          generalize upd HM l1 (.lst pvs) = HB at sb hl1 ⊢
          have sHB := sM.trans sb
          have hil : i < ps.length := (List.getElem?_eq_some_iff.mp hi).1
          obtain ⟨v1, hv1⟩ : ∃ v1, pvs[i]? = some v1 := ⟨_, List.getElem?_eq_getElem (by omega)⟩
          have p2B := p2.same sHB
          obtain ⟨p', pq, iv0, kp, hpi, rfl, hpq, okp, kp1, kp2, hMi⟩ := p2B.at hv1
          rw [hi] at hpi
          cases hpi
          have hwB := sHB _ _ hw
          have at0 : atI (intV (i :: path)) ((0 : Nat) : Int) = some (V.int (i : Nat)) := atI_nat rfl
          have hpd := depth_pair (a := a) (ms := ms) (List.mem_of_getElem? hi)
          refine ⟨_, rfl, _, rfl, wl, _, _, V.int (i : Nat), rfl, rfl, .inl (.inl hwB), at0, l1, _, _, V.ref pq, rfl, rfl, .inl (.inl hl1), atI_nat hv1, pq, _, rfl, hpq, rfl, _, _, rfl, _, _, rfl, rfl, ?_⟩
          refine ⟨_, rfl, _, rfl, _, rfl, _, rfl, wl, _, rfl, .inl (.inl hwB), fun l2 nl2 => ?_⟩
          have ecut : cutV (intV (i :: path)) (some (1 : Int)) none = intV path := cut_from _ 1
          rw [ecut]
          have sc := same_new (o := .lst (intV path)) nl2
          have hl2 : (upd HB l2 (.lst (intV path))) l2 = some (.lst (intV path)) := upd_same
          generalize upd HB l2 (.lst (intV path)) = HC at sc hl2 ⊢
          have sHC := sHB.trans sc
          refine ⟨_, rfl, iv0, fv, l2, kp, m, p.2, fl, h, path, rfl, hMi.same sc, hF.same sHC, hl2, by omega, hm, by omega, by omega, hpa', ⟨by omega, by omega, by omega⟩, fun iv H3 wh e n3 s3 hwh hfi hMe => ?_⟩
          have hde : e.depth ≤ 50 := by
            have h1 := hfi.depth hMi.m
            have h2 := hwh.depth hF.m
            omega
          refine ⟨(show 2 ≤ sizeLine by decide), fun t2 n2 => ?_⟩
          have s2 := same_new (o := .tup [.str p.1, iv]) n2
          have h2 : (upd H3 t2 (.tup [.str p.1, iv])) t2 = some (.tup [.str p.1, iv]) := upd_same
          generalize upd H3 t2 (.tup [.str p.1, iv]) = H4 at s2 h2 ⊢
          have sB4 : Same HB H4 := (sc.trans s3).trans s2
          have hl14 := sB4 _ _ hl1
          refine ⟨_, rfl, _, rfl, wl, _, _, V.int (i : Nat), rfl, rfl, .inl (.inl (sB4 _ _ hwB)), at0, l1, _, _, i, rfl, rfl, hl14, ixN_at (by omega), ?_⟩
          have hPvS : ∃ n', Pv K H4 (pvs.set i (.ref t2)) n' (ps.set i (p.1, e)) := (p2B.same sB4).set hi (.inl (.inl h2)) (hMe.same s2)
          obtain ⟨n', hPv4⟩ := hPvS
          have kk : ∀ a xs, SqT K H4 a xs → SqT K (upd H4 l1 (.lst (pvs.set i (.ref t2)))) a xs := sqT_upd hl14
          have hPv5 := hPv4.keep kk
          have s5 : Same H (upd H4 l1 (.lst (pvs.set i (.ref t2)))) := Same.own (sHB.trans sB4) nl1H
          have hl5 : (upd H4 l1 (.lst (pvs.set i (.ref t2)))) l1 = some (.lst (pvs.set i (.ref t2))) := upd_same
          generalize upd H4 l1 (.lst (pvs.set i (.ref t2))) = H5 at hPv5 s5 hl5 ⊢
          have t15 := sqT_same s5 _ _ t1
          refine ⟨_, rfl, t, _, _, V.str a, rfl, rfl, t15, rfl, _, rfl, t, _, _, V.ref mt, rfl, rfl, t15, rfl, ?_⟩
          refine ⟨_, rfl, ?_⟩
          delta tNil
          refine sorted_pairs (.inl (.inl hl5)) hPv5 (fun p' hp' => ?_) fun sl HS svs sS hsl hsv => ?_
          · rcases List.mem_or_eq_of_mem_set hp' with z | z
            · have := depth_pair (a := a) (ms := ms) z
              omega
            · rw [z]
              exact hde
          refine ⟨sl, _, rfl, .inl ⟨.inl (.inl hsl), fun tt ntt => ?_⟩⟩
          have se := same_new (o := .tup svs) ntt
          have htt : (upd HS tt (.tup svs)) tt = some (.tup svs) := upd_same
          generalize upd HS tt (.tup svs) = HE at se htt ⊢
          refine ⟨(show 3 ≤ sizeLine by decide), fun tf ntf => ?_⟩
          have sf := same_new (o := .tup [.str a, .ref mt, .ref tt]) ntf
          have sPF := ((s5.trans sS).trans se).trans sf
          exact q (.ref tf) _ wh _ _ sPF hwh (.cons hi hfi) (Mv.mk' o1 o2 (.inl (.inl upd_same)) (sqT_same sPF _ _ m1) (dp_keepAll (sqT_same sPF) _ _ (noL_ss _) m2) (.inl (.inl (sf _ _ htt))) (hsv.same (se.trans sf)))
end
end Bn

namespace Bn
open PySem PySem.Spec PyProof.Rows L2 BR GX RM GY
theorem Whole.mn {h f w : PyData} {kh kf : Nat} (x : Whole h f w) (hh : MnD (kh + 1) h) (hf : MnD (kf + 1) f) : MnD (kh + kf + 1) w := by
  obtain ⟨ha, fa, hms, fms, hps, fps, rfl, rfl, rfl⟩ := x
  obtain ⟨_, _, _, k1, e1, ed1, _, _, hA1⟩ := hh.inv
  have := mnD_ps ed1
  subst this
  obtain ⟨_, _, _, k2, e2, ed, oa, om, hA⟩ := hf.inv
  obtain ⟨rfl, ems, rfl⟩ := mnD_inj ed
  have := ssD_inj ems
  subst this
  have e3 : k1 = kh := by omega
  have e4 : k2 = kf := by omega
  subst e3 e4
  exact .mk oa om ((hA1.app hA).perm (sortP_perm _).symm)
theorem Whole.hc {h f w : PyData} (x : Whole h f w) (hb : holeB h = true) (hh : Hc 1 h) (hf : Hc 0 f) : Hc 0 w := by
  obtain ⟨ha, fa, hms, fms, hps, fps, rfl, rfl, rfl⟩ := x
  obtain ⟨k1, e1, h1⟩ := hh.inv'
  obtain ⟨k2, e2, h2⟩ := hf.inv'
  rw [hb] at e1
  have bt : bit true = 1 := rfl
  have z1 : k1 = 0 := by omega
  have z2 : k2 = 0 := by omega
  subst z1 z2
  have z := Hc.mk (a := fa) (ms := fms) ((h1.app h2).perm (sortP_perm (hps ++ fps)).symm)
  rw [holeB_ps (qs := fps)] at z
  have e3 : bit (holeB (mnD fa fms fps)) + (0 + 0) = 0 := by omega
  rw [e3] at z
  exact z
theorem Whole.srt {h f w : PyData} {kh kf : Nat} (x : Whole h f w) (hh : MnD kh h) (hf : MnD kf f) : Srt w := by
  obtain ⟨ha, fa, hms, fms, hps, fps, rfl, rfl, rfl⟩ := x
  obtain ⟨_, _, _, k1, e1, ed1, _, _, hA1⟩ := hh.inv
  have := mnD_ps ed1
  subst this
  obtain ⟨_, _, _, k2, e2, ed, _, _, hA⟩ := hf.inv
  have := mnD_ps ed
  subst this
  exact srt_sort (hA1.app hA)
/-- in a bare hole stands the filler -/
theorem Whole.bare {f w : PyData} (x : Whole (mnD "" [] []) f w) (s : Srt f) : w = f := by
  obtain ⟨ha, fa, hms, fms, hps, fps, e1, rfl, rfl⟩ := x
  have := mnD_ps e1
  subst this
  rw [List.nil_append, s fa fms fps rfl]
theorem path_bare {path : List Nat} {h : PyData} (x : Path (mnD "" [] []) path h) : path = [] ∧ h = mnD "" [] [] := by
  cases path with
  | nil => exact ⟨rfl, x.nil_inv⟩
  | cons i path =>
    obtain ⟨p, hp, _⟩ := x.inv
    simp at hp
theorem hole_bare : holeB (mnD "" [] []) = true := by
  rw [holeB_mn]
  rfl
/-! ### t + u -/
def rCatB (K : PySem.W.Frag) : R2 := fun x y H Q => ∃ a b xs ys, x = .ref a ∧ y = .ref b ∧ SqT K H a xs ∧ SqT K H b ys ∧ xs.length + ys.length ≤ sizeLine ∧ ∀ p H', Same H H' → SqT K H' p (xs ++ ys) → Q (.ref p) H'
theorem op_catB {X : Cx} : OpR X (binaryOp .Add) (rCatB X.K) := by
  intro pins s σ H x y v u Q I rx ry h
  obtain ⟨a, b, xs, ys, rfl, rfl, ha, hb, hz, q⟩ := h
  refine op_catA pins s σ H _ _ v u Q I rx ry ⟨a, b, xs, ys, rfl, rfl, ha, hb, hz, fun e => q b H (Same.refl _) ?_, fun _ e => q a H (Same.refl _) ?_, fun _ _ p np => q p _ (same_new np) (.inl (.inl upd_same))⟩
  · subst e
    exact hb
  · subst e
    rw [List.append_nil]
    exact ha
section
variable {K : PySem.W.Frag}
theorem sorted_pairsT {H : Hp} {pl : Addr} {pvs : List V} {n : Nat} {ps : List Pr} {Q : VK} (hl : SqT K H pl pvs) (hP : Pv K H pvs n ps) (hd : ∀ p ∈ ps, p.2.depth ≤ 50) (q : ∀ sl HS svs, Same H HS → HS sl = some (.lst svs) → Pv K HS svs n (sortP ps) → Q (.ref sl) HS) : rSortedDT K [V.ref pl] H Q := by
  obtain ⟨z1, z2⟩ := zip_fst (dpAll_len hP.p)
  refine ⟨pl, pvs.zip (ps.map prD), rfl, ?_, fun c hc => ⟨zip_dp hP.p c hc, ?_⟩, ?_, ?_, fun l nl => ?_⟩
  · rw [z1]
    exact .inr hl
  · obtain ⟨p, hp, e⟩ := List.mem_map.mp (List.of_mem_zip hc).2
    rw [← e]
    have := hd p hp
    show max 0 (max p.2.depth 0) + 1 ≤ 60
    omega
  · rw [z2]
    exact pr_alike hP.m
  · rw [z2]
    exact pr_sortable ps
  · have s1 := same_new (o := .lst ((sortD (pvs.zip (ps.map prD))).map (·.1))) nl
    exact q l _ _ s1 upd_same (hP.sorted.same s1)
end
end Bn

namespace Bn
open PySem PySem.Spec PyProof.Rows L2 BR GX RM GY
def cutB (b : Addr) (H : Hp) : Hp := fun x => if x = b then none else H x
theorem cutB_at (b : Addr) (H : Hp) : cutB b H b = none := by
  unfold cutB
  rw [if_pos rfl]
theorem cutB_ne {b x : Addr} {H : Hp} (h : x ≠ b) : cutB b H x = H x := by
  unfold cutB
  rw [if_neg h]
theorem cutB_same {b : Addr} {H : Hp} {Ps : List Addr} (hT : Tabs Ps H) : SameN Ps (cutB b H) H := by
  have key : ∀ x y, cutB b H x = some y → H x = some y := fun x y e => by
    by_cases z : x = b
    · rw [z, cutB_at] at e
      cases e
    · rw [cutB_ne z] at e
      exact e
  exact ⟨fun x y _ e => key x y e, fun x p e => ⟨p, key x _ e⟩, hT⟩
theorem seqN {K : PySem.W.Frag} {Ps : List Addr} {H H' : Hp} {a : Addr} {xs : List V} (h : SqL K H a xs) (s : SameN Ps H H') : SqL K H' a xs := by
  rcases h with (h | ⟨o, h⟩) | h
  · exact .inl (.inl (s.k _ _ nt_lst h))
  · exact .inl (.inr ⟨o, s.k _ _ nt_frz h⟩)
  · exact .inr h
theorem cutB_of {b : Addr} {H0 H : Hp} {Ps : List Addr} (s : SameN Ps H0 H) (n : H0 b = none) (hb : Bx H b) : SameN Ps H0 (cutB b H) := by
  refine ⟨fun x y nt e => ?_, fun x p e => ?_, fun P hP => ?_⟩
  · rw [cutB_ne (ne_of_none e n)]
    exact s.k _ _ nt e
  · obtain ⟨p', e'⟩ := s.q x p e
    exact ⟨p', by rw [cutB_ne (ne_of_none e n)]; exact e'⟩
  · obtain ⟨ps, e, h⟩ := s.t P hP
    exact ⟨ps, by rw [cutB_ne (ne_bx hb e (fun _ _ _ z => by cases z))]; exact e, h⟩
theorem iteF' {b : Bool} {p q : Prop} (h : b = false) (x : q) : if b = true then p else q := by
  subst h
  exact iteF x
theorem mv_leaf {K : PySem.W.Frag} {H : Hp} {t u v : Addr} {a : Str} (oa : okS a) (ht : H t = some (.tup [.str a, .ref u, .ref v])) (hu : H u = some (.tup [])) (hv : H v = some (.tup [])) : Mv K H (.ref t) 1 (mnD a [] []) :=
  Mv.mk' (k := 0) oa (fun m hm => by cases hm) (.inl (.inl ht)) (.inl (.inl hu)) .nil (.inl (.inl hv)) ⟨.nil, .nil⟩
section
variable {P : Program} {w : World} {K : PySem.W.Frag} {mg : Str → Option Value} {base : Heap}
def spRight (Ps : List Addr) : Sp := fun vs H Q _ => ∃ b : Addr, vs = [.ref b] ∧ Bx H b ∧ Tabs Ps H ∧ ∀ H', SameN Ps (cutB b H) H' → Q (.bl true) H'
theorem ok_right {f fT fM fN fW fD fF fno fha : Addr} {fd fdT fdM fdN fdW fdD fdF fdno fdha : FuncData} {Ps : List Addr} (F : Fun K "_law_right" "_law_right" s_l_right f fd)
    (kT : PySem.W.keepIn K (.ref fT) = true) (bT : Binds K fdT ["_law_box_here", "_law_many"] []) (gT : mg "_law_take" = some (.ref fT)) (GT : FnOk P w K mg base CX0 2 fT fdT ["_law_box_here", "_law_many"] spTake)
    (kM : PySem.W.keepIn K (.ref fM) = true) (bM : Binds K fdM ["_law_box_here", "_law_many", "_law_hole"] []) (gM : mg "_law_meaning" = some (.ref fM)) (GM : FnOk P w K mg base CX0 15 fM fdM ["_law_box_here", "_law_many", "_law_hole"] (spMn K 12))
    (kN : PySem.W.keepIn K (.ref fN) = true) (bN : Binds K fdN ["_law_meaning_here"] []) (gN : mg "_law_nodes" = some (.ref fN)) (GN : FnOk P w K mg base CX0 1 fN fdN ["_law_meaning_here"] (spLn K))
    (kW : PySem.W.keepIn K (.ref fW) = true) (bW : Binds K fdW ["_law_meaning_here"] []) (gW : mg "_law_way" = some (.ref fW)) (GW : FnOk P w K mg base CX0 15 fW fdW ["_law_meaning_here"] (spWay K 12))
    (kD : PySem.W.keepIn K (.ref fD) = true) (bD : Binds K fdD ["_law_meaning_here", "_law_way_here", "_law_filler"] []) (gD : mg "_law_due" = some (.ref fD)) (GD : FnOk P w K mg base CX0 15 fD fdD ["_law_meaning_here", "_law_way_here", "_law_filler"] (spDue K 12))
    (kF : PySem.W.keepIn K (.ref fF) = true) (bF : Binds K fdF ["meaning", "filler"] []) (gF : mg "filled" = some (.ref fF)) (GF : FnOk P w K mg base CX0 3 fF fdF ["meaning", "filler"] (spFill K))
    (kno : PySem.W.keepIn K (.ref fno) = true) (bno : Binds K fdno ["meaning"] []) (gno : mg "nodes_of" = some (.ref fno)) (Gno : FnOk P w K mg base CX0 2 fno fdno ["meaning"] (spNodes K))
    (kha : PySem.W.keepIn K (.ref fha) = true) (bha : Binds K fdha ["meaning"] []) (gha : mg "has_hole" = some (.ref fha)) (Gha : FnOk P w K mg base CX0 5 fha fdha ["meaning"] (spHas K Ps))
    (mr : mg "range" = none) (mtu : mg "tuple" = none) (mso : mg "sorted" = none) : FnOk P w K mg base CX0 16 f fd ["_law_box_here"] (spRight Ps) := by
  refine F.ok sc_l_right (fun vs H Q E h => ?_) (fun cdv A outer s H vs Q E hr h => ?_)
  · obtain ⟨b, rfl, _⟩ := h
    rfl
  · obtain ⟨b, rfl, hb, hT, q⟩ := h
    refine ⟨_, (pss_cons (ps_set (i := 1) sc_l_right.nd rfl (.inl rfl) (pe_call GM (hr.mono (by decide)) (by rfl) gM kM bM .nil pass0 (pa_cons (pv 0) (pa_cons (pe_op op_add pe_int (pe_call GT (hr.mono (by decide)) (by rfl) gT kT bT .nil pass0 (pa_cons (pv 0) (pa_cons pe_int pa_nil)))) (pa_cons pe_bl pa_nil)))))
      (pss_cons (ps_set (i := 2) sc_l_right.nd rfl (.inl rfl) (pe_call GM (hr.mono (by decide)) (by rfl) gM kM bM .nil pass0 (pa_cons (pv 0) (pa_cons (pe_op op_add pe_int (pe_call GT (hr.mono (by decide)) (by rfl) gT kT bT .nil pass0 (pa_cons (pv 0) (pa_cons pe_int pa_nil)))) (pa_cons pe_bl pa_nil)))))
      (pss_cons (ps_set (i := 3) sc_l_right.nd rfl (.inl rfl) (pe_call GW (hr.mono (by decide)) (by rfl) gW kW bW .nil pass0 (pa_cons (pv 1) pa_nil)))
      (pss_cons (ps_set (i := 4) sc_l_right.nd rfl (.inl rfl) (pv 1))
      (pss_cons (ps_for PassesOwn.never rfl (pi_list (pv 3)) (pg_name (i := 5) sc_l_right.nd rfl (.inl rfl)) (pss_one (ps_set (i := 4) sc_l_right.nd rfl (.inl rfl) (pe_ix ix_tup (pe_ix ix_tup (pe_ix ix_tup (pv 4) pe_int (fun _ _ => rfl)) (pv 5) (fun _ _ => rfl)) pe_int (fun _ _ => rfl)))))
      (C8.pss_cut (ps_if (PW.pt (pw_and (pt_cmpR op_eq (pe_call GT (hr.mono (by decide)) (by rfl) gT kT bT .nil pass0 (pa_cons (pv 0) (pa_cons pe_int pa_nil))) pe_int (nomark _)) (pw_and1 (pt_cmpR op_lt (pe_op op_add (pe_call GN (hr.mono (by decide)) (by rfl) gN kN bN .nil pass0 (pa_cons (pv 2) pa_nil)) (pe_call GN (hr.mono (by decide)) (by rfl) gN kN bN .nil pass0 (pa_cons (pv 4) pa_nil))) pe_int (nomark _))))) (pss_one (ps_set (i := 2) sc_l_right.nd rfl (.inl rfl) (pe_tup (pa_cons (pe_ix ix_tup (pv 2) pe_int (fun _ _ => rfl)) (pa_cons (pe_ix ix_tup (pv 2) pe_int (fun _ _ => rfl)) (pa_cons (pe_callTy call_tuple_of (by rfl) mtu (by decide +kernel) (pa_cons (pe_callB (cr_sortedDT hr.units) (by rfl) mso (by decide +kernel) (pa_cons (pe_op op_catB (pe_ix ix_tup (pv 2) pe_int (fun _ _ => rfl)) (pe_ix ix_tup (pv 4) pe_int (fun _ _ => rfl))) pa_nil)) pa_nil)) pa_nil)))))) pss_nil)
      (pss_cons (ps_set (i := 6) sc_l_right.nd rfl (.inl rfl) (pe_call GD (hr.mono (by decide)) (by rfl) gD kD bD .nil pass0 (pa_cons (pv 1) (pa_cons (pv 3) (pa_cons (pv 2) pa_nil)))))
      (pss_cons (ps_for PassesOwn.never rfl (pi_range1 (by rfl) mr (pa_cons pe_int pa_nil)) (pg_name (i := 7) sc_l_right.nd rfl (.inl rfl)) (pss_one (ps_if (pt_cmpR (op_neD hr.units) (pe_call GF (hr.mono (by decide)) (by rfl) gF kF bF .nil pass0 (pa_cons (pv 1) (pa_cons (pv 2) pa_nil))) (pv 6) (nomark _)) (pss_one (ps_ret pe_bl)) pss_nil)))
      (pss_cons (ps_if (PW.pt (pw_or (pt_cmpR op_isnot_bl (pe_call Gha (hr.mono (by decide)) (by rfl) gha kha bha .nil pass0 (pa_cons (pv 6) pa_nil)) pe_bl (nomark _)) (pw_or1 (pt_cmpR op_ne (pe_call Gno (hr.mono (by decide)) (by rfl) gno kno bno .nil pass0 (pa_cons (pv 6) pa_nil)) (pe_op op_sub (pe_op op_add (pe_call GN (hr.mono (by decide)) (by rfl) gN kN bN .nil pass0 (pa_cons (pv 1) pa_nil)) (pe_call GN (hr.mono (by decide)) (by rfl) gN kN bN .nil pass0 (pa_cons (pv 2) pa_nil))) pe_int) (nomark _))))) (pss_one (ps_ret pe_bl)) pss_nil)
      (pss_one (ps_ret (pe_cmpR (op_eqD hr.units) (pe_call GF (hr.mono (by decide)) (by rfl) gF kF bF .nil pass0 (pa_cons (pe_tup (pa_cons pe_str (pa_cons (pe_tup pa_nil) (pa_cons (pe_tup pa_nil) pa_nil)))) (pa_cons (pv 2) pa_nil))) (pv 2) (nomark _))))))))))))), ?_⟩
    -- one
    refine ⟨_, rfl, _, rfl, b, 12, rfl, hb, by decide, by decide, fun n0 H1 hn0 k1 => ⟨_, _, rfl, rfl, ?_⟩⟩
    refine ⟨b, n0 + 1, true, congrArg (fun z => [V.ref b, V.int z, V.bl true]) (show (1 : Int) + (n0 : Nat) = ((n0 + 1 : Nat) : Int) by omega), k1.x, by omega, by omega, fun v1 H3 n d k3 hM hn hc _ => ?_⟩
    -- filler
    refine ⟨_, rfl, _, rfl, b, 6, rfl, k3.x, by decide, by decide, fun n1 H4 hn1 k4 => ⟨_, _, rfl, rfl, ?_⟩⟩
    refine ⟨b, n1 + 1, false, congrArg (fun z => [V.ref b, V.int z, V.bl false]) (show (1 : Int) + (n1 : Nat) = ((n1 + 1 : Nat) : Int) by omega), k4.x, by omega, by omega, fun v2 H6 m fl k6 hI hm hcf hsf => ?_⟩
    have kH3 : Kb b H H3 := k1.trans k3
    have k36 : Kb b H3 H6 := k4.trans k6
    have kH6 : Kb b H H6 := kH3.trans k36
    have hM6 := hM.kp k3.x k36.k
    have hdd : d.depth ≤ 36 := by
      have := ((mn_facts n).1 d hM.m).2
      omega
    have hdf : fl.depth ≤ 18 := by
      have := ((mn_facts m).1 fl hI.m).2
      omega
    have hc1 : Hc 1 d := hc
    have hcf0 : Hc 0 fl := hcf
    -- way
    refine ⟨_, rfl, v1, n, d, rfl, hM6, by omega, by omega, hc1, fun r H7 path h nr6 s7 hr7 hpa hb7 => ?_⟩
    have nrb : r ≠ b := (kH6.x.ne nr6).symm
    have k7 : Kb b H H7 := kH6.trans ⟨Kp.of_same s7, kH6.x.same s7⟩
    have hM7 := hM6.same s7
    have hI7 := hI.same s7
    obtain ⟨kh, hMh, lkh⟩ := hpa.mn hM.m
    obtain ⟨khp, ekh⟩ : ∃ khp, kh = khp + 1 := by
      obtain ⟨_, _, _, z, e, _⟩ := hMh.inv
      exact ⟨z, e⟩
    subst ekh
    have hpd3 := hpa.depth3
    obtain ⟨path0, h0, x0, _, hh1, un⟩ := Hc.one hM.m hc1
    obtain ⟨rfl, rfl⟩ := un _ _ hpa hb7
    clear k1 k3 k4 k6 kH3 k36 kH6 hM hI hM6 s7 x0
    -- the hole
    refine ⟨_, rfl, _, rfl, r, rfl, ⟨_, .inl (.inl hr7)⟩, for_list (K := K) (a := r) (xs := intV path) (fun i σ HY => (∃ (y5 y6 y7 : Option V) (hv : V) (x : PyData) (kx : Nat), σ = [some (.ref b), some v1, some v2, some (.ref r), some hv, y5, y6, y7] ∧ Mv K HY hv kx x ∧ Path x (path.drop i) h) ∧ Same H7 HY) ⟨⟨_, _, _, v1, d, n, rfl, hM7, hpa⟩, Same.refl _⟩ (fun j σ HZ _ h => .inl (.inl (h.2 _ _ hr7))) (fun i x σ HY hx hP' => ?_) (fun σ HY hP' => ?_)⟩
    · obtain ⟨⟨y5, y6, y7, hv, xd, kx, rfl, hMx, hpx⟩, sY⟩ := hP'
      rw [List.getElem?_map] at hx
      obtain ⟨k, hk, rfl⟩ := Option.map_eq_some_iff.mp hx
      rw [drop_get hk] at hpx
      obtain ⟨t, a, mt, pt, ms, ps, mvs, pvs, kk, rfl, rfl, rfl, o1, o2, t1, m1, m2, p1, p2⟩ := hMx.inv
      obtain ⟨p, hp, hpp⟩ := hpx.inv
      have hpl := p2.len
      have hkl : k < ps.length := (List.getElem?_eq_some_iff.mp hp).1
      obtain ⟨v9, hv9⟩ : ∃ v9, pvs[k]? = some v9 := ⟨_, List.getElem?_eq_getElem (by omega)⟩
      obtain ⟨p', pq, iv, kp, hpi, rfl, hpq, okp, kp1, kp2, hMi⟩ := p2.at hv9
      rw [hp] at hpi
      cases hpi
      refine ⟨_, rfl, t, _, _, V.ref pt, rfl, rfl, t1, rfl, _, rfl, pt, _, _, V.ref pq, rfl, rfl, p1, atI_nat hv9, pq, _, _, iv, rfl, rfl, hpq, rfl, ?_⟩
      exact ⟨⟨_, _, _, iv, p.2, kp, rfl, hMi, hpp⟩, sY⟩
    · obtain ⟨⟨y5, y6, y7, hv, xd, kx, rfl, hMx, hpx⟩, sY⟩ := hP'
      rw [List.length_map, List.drop_length] at hpx
      have := hpx.nil_inv
      subst this
      have ekx : kx = khp + 1 := (mn_uniq kx).1 _ _ hMx.m hMh
      subst ekx
      have kY : Kb b H HY := k7.trans ⟨Kp.of_same sY, k7.x.same sY⟩
      have hrY := sY _ _ hr7
      have hMY := hM7.same sY
      have hIY := hI7.same sY
      refine ⟨fun σ HM => ∃ (y5 y6 y7 : Option V) (fv : V) (m' : Nat) (f' : PyData), σ = [some (.ref b), some v1, some fv, some (.ref r), some hv, y5, y6, y7] ∧ Kb b H HM ∧ HM r = some (.lst (intV path)) ∧ Mv K HM v1 n d ∧ Mv K HM fv (m' + 1) f' ∧ m' ≤ 20 ∧ Hc 0 f' ∧ Srt f' ∧ f'.depth ≤ 36 ∧ 3 * path.length + f'.depth ≤ 51, ?_, fun σ HM hM' => ?_⟩
      · refine ⟨_, rfl, b, 3, rfl, kY.x, by decide, by decide, fun n3 HE hn3 k9 => ⟨rfl, _, rfl, ?_⟩⟩
        have kE := kY.trans k9
        have hrE := k9.k _ _ nrb hrY
        have hME := hMY.kp kY.x k9.k
        have hIE := hIY.kp kY.x k9.k
        have hXE := hMx.kp kY.x k9.k
        obtain ⟨mf, emf⟩ : ∃ mf, m = mf + 1 := by
          obtain ⟨_, _, _, z, e, _⟩ := hIE.m.inv
          exact ⟨z, e⟩
        subst emf
        refine ite2 (fun e1 => ?_) (fun e1 => iteF ⟨_, _, _, v2, mf, fl, rfl, kE, hrE, hME, hIE, by omega, hcf0, hsf, by omega, by omega⟩)
        refine ⟨_, rfl, v2, _, fl, rfl, hIE, by omega, by omega, fun HF sF => ?_⟩
        refine ⟨_, rfl, hv, _, _, rfl, hXE.same sF, by omega, by omega, fun HG sG => ⟨_, _, rfl, rfl, _, _, rfl, rfl, _, rfl, ?_⟩⟩
        have sEG := sF.trans sG
        have kG : Kb b H HG := kE.trans ⟨Kp.of_same sEG, kE.x.same sEG⟩
        have hrG := sEG _ _ hrE
        have hMG := hME.same sEG
        have hIG := hIE.same sEG
        have hXG := hXE.same sEG
        refine ite2 (fun e2 => ?_) (fun e2 => ⟨_, _, _, v2, mf, fl, rfl, kG, hrG, hMG, hIG, by omega, hcf0, hsf, by omega, by omega⟩)
        obtain ⟨ft, fa, fmt, fpt, fms, fps, fmvs, fpvs, fk, rfl, efk, rfl, fo1, fo2, ft1, fm1, fm2, fp1, fp2⟩ := hIG.inv
        obtain ⟨ht, ha, hmt, hpt, hms, hps, hmvs, hpvs, hk, rfl, ehk, rfl, ho1, ho2, ht1, hm1, hm2, hp1, hp2⟩ := hXG.inv
        have hfpl := fp2.len
        have hfpn := fp2.m.len
        have hhpl := hp2.len
        have hhpn := hp2.m.len
        refine ⟨_, rfl, ft, _, _, V.str fa, rfl, rfl, ft1, rfl, _, rfl, ft, _, _, V.ref fmt, rfl, rfl, ft1, rfl, ?_⟩
        refine ⟨_, rfl, ft, _, _, V.ref fpt, rfl, rfl, ft1, rfl, _, rfl, ht, _, _, V.ref hpt, rfl, rfl, ht1, rfl, fpt, hpt, _, _, rfl, rfl, fp1, hp1, line1000 (by omega), fun cp HC sC hcp => ?_⟩
        delta tNil
        have pvC : Pv K HC (fpvs ++ hpvs) (fk + hk) (fps ++ hps) := by
          refine ⟨?_, fp2.m.app hp2.m⟩
          rw [List.map_append]
          exact dpAll_app (fp2.same sC).p (hp2.same sC).p
        refine sorted_pairsT hcp pvC (fun p hp => ?_) fun sl HS svs sS hsl hsv => ?_
        · rcases List.mem_append.mp hp with z | z
          · have := depth_pair (a := fa) (ms := fms) z
            omega
          · have := depth_pair (a := ha) (ms := hms) z
            omega
        refine ⟨sl, _, rfl, .inl ⟨.inl (.inl hsl), fun tt ntt => ?_⟩⟩
        have se := same_new (o := .tup svs) ntt
        have htt : (upd HS tt (.tup svs)) tt = some (.tup svs) := upd_same
        generalize upd HS tt (.tup svs) = HE' at se htt ⊢
        refine ⟨(show 3 ≤ sizeLine by decide), fun tf ntf => ?_⟩
        have sf := same_new (o := .tup [.str fa, .ref fmt, .ref tt]) ntf
        have sGF := ((sC.trans sS).trans se).trans sf
        have perm1 : (fps ++ hps).Perm (hps ++ fps) := List.perm_append_comm
        have eW : sortP (fps ++ hps) = sortP (hps ++ fps) := sortP_eq pvC.m.ok perm1
        have hnew : Mv K (upd HE' tf (.tup [.str fa, .ref fmt, .ref tt])) (.ref tf) (fk + hk + 1) (mnD fa fms (sortP (fps ++ hps))) := Mv.mk' fo1 fo2 (.inl (.inl upd_same)) (sqT_same sGF _ _ fm1) (dp_keepAll (sqT_same sGF) _ _ (noL_ss _) fm2) (.inl (.inl (sf _ _ htt))) (hsv.same (se.trans sf))
        have whole : Whole (mnD ha hms hps) (mnD fa fms fps) (mnD fa fms (sortP (fps ++ hps))) := ⟨ha, fa, hms, fms, hps, fps, rfl, rfl, by rw [eW]⟩
        have wd := whole.depth hIG.m
        exact ⟨_, _, _, .ref tf, fk + hk, _, rfl, kG.trans ⟨Kp.of_same sGF, kG.x.same sGF⟩, sGF _ _ hrG, hMG.same sGF, hnew, by omega, whole.hc hb7 hh1 hcf0, whole.srt hMh hIG.m, by omega, by omega⟩
      · obtain ⟨y5, y6, y7, fv, m', f', rfl, kM', hrM, hMM, hFM, hm', hcf', hsf', hdf', hrm⟩ := hM'
        have sN0 : SameN Ps (cutB b H) HM := (cutB_same hT).kb (cutB_at b H) hb kM'
        refine ⟨_, rfl, _, rfl, _, rfl, v1, fv, r, n, m' + 1, d, f', h, path, rfl, hMM, hFM, hrM, by omega, by omega, by omega, by omega, hpa, ⟨by omega, by omega, by omega⟩, fun dv HD wh e ne sD hwh hfi hMe => ?_⟩
        have wmn := hwh.mn hMh hFM.m
        have whc := hwh.hc hb7 hh1 hcf'
        have wd := hwh.depth hFM.m
        have ed := hfi.depth hMM.m
        obtain ⟨⟨me, hme, eme⟩, ⟨c', hc', ec⟩, _⟩ := hfi.facts hpa hMM.m hMh wmn hc1 hh1 whc
        have ene : ne = me := (mn_uniq ne).1 _ _ hMe.m hme
        subst ene
        have ec0 : c' = 0 := by omega
        subst ec0
        have nohole : holed e = false := holed_no (Hc.zero hMe.m hc')
        have hMD := hMM.same sD
        have hFD := hFM.same sD
        have roomy : Roomy d f' := fun p' h' x' b' => by
          obtain ⟨rfl, rfl⟩ := un _ _ x' b'
          exact And.intro (by omega) ⟨by omega, by omega⟩
        refine ⟨2, rfl, by decide, by decide, for_range (n := 2) (fun i σ HY => (∃ y5 y7 : Option V, σ = [some (.ref b), some v1, some fv, some (.ref r), some hv, y5, some dv, y7]) ∧ Same HD HY) ⟨⟨_, _, rfl⟩, Same.refl _⟩ (fun i σ HY hi hP' => ?_) (fun σ HY hP' => ?_)⟩
        · obtain ⟨⟨y5, y7, rfl⟩, sY'⟩ := hP'
          refine ⟨_, rfl, _, rfl, v1, fv, n, m' + 1, d, f', rfl, hMD.same sY', hFD.same sY', by omega, by omega, by omega, path_hole hpa hb7, roomy, fun t H' path' h' wh' e' n' s' hpa' hb' hwh' hfi' hMe' => ?_⟩
          obtain ⟨rfl, rfl⟩ := un _ _ hpa' hb'
          have := hwh.uniq hwh'
          subst this
          have := hfi.uniq hfi'
          subst this
          refine ⟨_, rfl, _, _, hMe'.p, (hMe.same (sY'.trans s')).p, shaped_d hMe.m (by omega), shaped_d hMe.m (by omega), _, rfl, ?_⟩
          rw [SeqAt.eqv_refl _ ((mn_facts _).1 _ hMe.m).1]
          exact iteF ⟨⟨_, _, rfl⟩, sY'.trans s'⟩
        · obtain ⟨⟨y5, y7, rfl⟩, sY'⟩ := hP'
          have sNY : SameN Ps (cutB b H) HY := sN0.same (sD.trans sY')
          have hMeY := hMe.same sY'
          refine ⟨_, rfl, dv, ne, e, rfl, hMeY, by omega, sNY.t, fun HP sP => ?_⟩
          rw [nohole]
          refine ⟨_, _, rfl, rfl, _, rfl, iteF ?_⟩
          refine ⟨_, rfl, dv, ne, e, rfl, hMeY.sameN sP, by omega, fun HA sA => ?_⟩
          have sYA : SameN Ps HY HA := sP.same sA
          refine ⟨_, rfl, v1, n, d, rfl, (hMD.same sY').sameN sYA, by omega, by omega, fun HB sB => ?_⟩
          have sYB := sYA.same sB
          refine ⟨_, rfl, fv, m' + 1, f', rfl, (hFD.same sY').sameN sYB, by omega, by omega, fun HC sC => ⟨_, _, rfl, rfl, _, _, rfl, rfl, rfl, _, rfl, iteF' ?_ ?_⟩⟩
          · have ex : ((ne : Nat) : Int) = ((n : Nat) : Int) + ((m' + 1 : Nat) : Int) - 1 := by omega
            show (!decide (V.int ((ne : Nat) : Int) = V.int (((n : Nat) : Int) + ((m' + 1 : Nat) : Int) - 1))) = false
            rw [ex]
            simp
          have sYC := sYB.same sC
          have hFC := (hFD.same sY').sameN sYC
          refine ⟨Nat.zero_le _, fun u1 nu1 => ⟨Nat.zero_le _, fun w1 nw1 => ⟨(show 3 ≤ sizeLine by decide), fun t1 nt1 => ?_⟩⟩⟩
          have su := same_new (o := .tup []) nu1
          have hu : (upd HC u1 (.tup [])) u1 = some (.tup []) := upd_same
          generalize upd HC u1 (.tup []) = HU at su hu nw1 nt1 ⊢
          have sw := same_new (o := .tup []) nw1
          have hw : (upd HU w1 (.tup [])) w1 = some (.tup []) := upd_same
          generalize upd HU w1 (.tup []) = HW at sw hw nt1 ⊢
          have st := same_new (o := .tup [.str "", .ref u1, .ref w1]) nt1
          have ht : (upd HW t1 (.tup [.str "", .ref u1, .ref w1])) t1 = some (.tup [.str "", .ref u1, .ref w1]) := upd_same
          generalize upd HW t1 (.tup [.str "", .ref u1, .ref w1]) = HX at st ht ⊢
          have hB : Mv K HX (.ref t1) 1 (mnD "" [] []) := mv_leaf ((okS_iff _).mp (by decide +kernel)) ht (st _ _ (sw _ _ hu)) (st _ _ hw)
          have sCX := (su.trans sw).trans st
          have db : (mnD "" [] []).depth = 2 := rfl
          refine ⟨_, rfl, .ref t1, fv, 1, m' + 1, mnD "" [] [], f', rfl, hB, hFC.same sCX, by decide, by omega, by rw [db]; decide, .here hole_bare, fun p' h' x' b' => ?_, fun t H' path' h' wh' e' n' s' hpa' hb' hwh' hfi' hMe' => ?_⟩
          · obtain ⟨rfl, rfl⟩ := path_bare x'
            rw [db, List.length_nil]
            exact And.intro (by omega) ⟨by omega, by omega⟩
          · obtain ⟨rfl, rfl⟩ := path_bare hpa'
            have e1 := hwh'.bare hsf'
            subst e1
            have e2 := hfi'.uniq .nil
            subst e2
            refine ⟨_, rfl, _, _, hMe'.p, ((hFC.same sCX).same s').p, shaped_d hFM.m (by omega), shaped_d hFM.m (by omega), ?_⟩
            rw [SeqAt.eqv_refl _ ((mn_facts _).1 _ hFM.m).1]
            exact q _ ((sNY.trans sYC).same (sCX.trans s'))
end
end Bn

namespace Bn
open PySem PySem.Spec PyProof.Rows L2 BR GX RM GY
section
variable {P : Program} {w : World} {K : PySem.W.Frag} {mg : Str → Option Value} {base : Heap}
def spLaw (K : PySem.W.Frag) (Ps : List Addr) : Sp := fun vs H Q _ => ∃ (a : Addr) (ns : List Int), vs = [.ref a] ∧ SqL K H a (ns.map V.int) ∧ ns.length ≤ 63 ∧ Tabs Ps H ∧ ∀ H', Q (.bl true) H'
theorem ok_law {f fB fR : Addr} {fd fdB fdR : FuncData} {Ps : List Addr} (F : Fun K "law" "law" s_law f fd)
    (kB : PySem.W.keepIn K (.ref fB) = true) (bB : Binds K fdB ["_law_script", "_law_k"] []) (gB : mg "_law_box" = some (.ref fB)) (GB : FnOk P w K mg base CX0 2 fB fdB ["_law_script", "_law_k"] (spBox K))
    (kR : PySem.W.keepIn K (.ref fR) = true) (bR : Binds K fdR ["_law_box_here"] []) (gR : mg "_law_right" = some (.ref fR)) (GR : FnOk P w K mg base CX0 16 fR fdR ["_law_box_here"] (spRight Ps))
    (mr : mg "range" = none) (mmn : mg "min" = none) (ml : mg "len" = none) : FnOk P w K mg base CX0 17 f fd ["_law_script"] (spLaw K Ps) := by
  refine F.ok sc_law (fun vs H Q E h => ?_) (fun cdv A outer s H vs Q E hr h => ?_)
  · obtain ⟨a, ns, rfl, _⟩ := h
    rfl
  · obtain ⟨a, ns, rfl, hS, hl, hT, q⟩ := h
    refine ⟨_, pss_cons (ps_for PassesOwn.never rfl (pi_range1 (by rfl) mr (pa_cons (pe_op op_add pe_int (pe_callB (call_min2 rfl) (by rfl) mmn (by decide +kernel) (pa_cons pe_int (pa_cons (pe_callB call_len_seq (by rfl) ml PySem.boot_len (pa_cons (pv 0) pa_nil)) pa_nil)))) pa_nil)) (pg_name (i := 1) sc_law.nd rfl (.inl rfl))
        (pss_one (ps_if (pt_not (pt_val (pe_call GR hr (by rfl) gR kR bR .nil pass0 (pa_cons (pe_call GB (hr.mono (by decide)) (by rfl) gB kB bB .nil pass0 (pa_cons (pv 0) (pa_cons (pv 1) pa_nil))) pa_nil)))) (pss_one (ps_ret pe_bl)) pss_nil)))
      (pss_one (ps_ret pe_bl)), ?_⟩
    refine ⟨_, rfl, a, _, rfl, .inl hS, _, _, rfl, _, _, rfl, rfl, ?_⟩
    rw [List.length_map]
    have hR : ∃ R : Nat, R ≤ 13 ∧ (1 : Int) + (if ((ns.length : Nat) : Int) < 12 then ((ns.length : Nat) : Int) else 12) = ((R : Nat) : Int) := by
      by_cases h1 : ((ns.length : Nat) : Int) < 12
      · exact ⟨ns.length + 1, by omega, by rw [if_pos h1]; omega⟩
      · exact ⟨13, by decide, by rw [if_neg h1]; rfl⟩
    obtain ⟨R, R24, eR⟩ := hR
    have eR' : (fun i j : Int => V.int (i + j)) 1 (if ((ns.length : Nat) : Int) < 12 then ((ns.length : Nat) : Int) else 12) = V.int ((R : Nat) : Int) := congrArg V.int eR
    rw [eR']
    refine ⟨_, rfl, by omega, by omega, ?_⟩
    rw [Int.toNat_natCast]
    refine for_it (walk_range (lo := 0) (n := R)) (fun i σ HY => (∃ y1 : Option V, σ = [some (.ref a), y1]) ∧ SameN Ps H HY) ⟨⟨_, rfl⟩, SameN.refl hT⟩ (fun _ _ _ _ _ => trivial) (fun i x σ HY HY' hi hP' hY => ?_) (fun σ HY hP' => q _)
    obtain ⟨rfl, rfl⟩ := hY
    obtain ⟨⟨y1, rfl⟩, sY⟩ := hP'
    refine ⟨_, rfl, _, rfl, a, ns, i, congrArg (fun z => [V.ref a, V.int z]) (Int.zero_add _), seqN hS sY, fun b HB nb sb hb => ?_⟩
    have sHB := sY.same sb
    refine ⟨b, rfl, hb, sHB.t, fun HC sC => ⟨_, rfl, iteF ⟨⟨_, rfl⟩, ?_⟩⟩⟩
    exact (cutB_of sHB (sY.free nb) hb).trans sC
end
end Bn

namespace Bn
open PySem PySem.Spec PyProof.Rows L2 BR GX RM GY
theorem all_mk {q : Program} {l : PySem.W.OpenLaw} {w : World} {K : PySem.W.Frag} {h : Heap} {mg : Str → Option Value} {fa f1 f2 f3 f4 f5 f6 f7 f8 f9 f10 f11 f12 f13 f14 f15 f16 f17 f18 : Addr} (X : K.In h) (G : h.Ns mainGlobals mg) (hfa : mg "law" = some (.ref fa)) (T : TabsTop q mg h)
    {od1 an1 od2 an2 od3 an3 od4 an4 od5 an5 od6 an6 od7 an7 od8 an8 od9 an9 od10 an10 od11 an11 od12 an12 od13 an13 od14 an14 od15 an15 od16 an16 od17 an17 od18 an18 : Option Addr} {sl1 sl2 sl3 sl4 sl5 sl6 sl7 sl8 sl9 sl10 sl11 sl12 sl13 sl14 sl15 sl16 sl17 sl18 : Array (Option Value)} {oc1 kV1 dc1 pm1 cd1 ct1 oc2 kV2 dc2 pm2 cd2 ct2 oc3 kV3 dc3 pm3 cd3 ct3 oc4 kV4 dc4 pm4 cd4 ct4 oc5 kV5 dc5 pm5 cd5 ct5 oc6 kV6 dc6 pm6 cd6 ct6 oc7 kV7 dc7 pm7 cd7 ct7 oc8 kV8 dc8 pm8 cd8 ct8 oc9 kV9 dc9 pm9 cd9 ct9 oc10 kV10 dc10 pm10 cd10 ct10 oc11 kV11 dc11 pm11 cd11 ct11 oc12 kV12 dc12 pm12 cd12 ct12 oc13 kV13 dc13 pm13 cd13 ct13 oc14 kV14 dc14 pm14 cd14 ct14 oc15 kV15 dc15 pm15 cd15 ct15 oc16 kV16 dc16 pm16 cd16 ct16 oc17 kV17 dc17 pm17 cd17 ct17 oc18 kV18 dc18 pm18 cd18 ct18 : Value}
    (a1 : PySem.W.nsIn K mainGlobals "nodes_of" = some (some (.ref f1))) (l1 : K.lookup f1 = some ⟨oc1, od1, .func (PySem.W.fnOf "nodes_of" "nodes_of" (defArgs s_nodes_of) (defBody s_nodes_of) (defScope s_nodes_of) .none kV1 dc1 pm1 an1 cd1 ct1), sl1⟩) (c1 : PySem.W.codeIn K cd1 "nodes_of" = true) (k1 : PySem.W.keepIn K (.ref f1) = true)
    (a2 : PySem.W.nsIn K mainGlobals "has_hole" = some (some (.ref f2))) (l2 : K.lookup f2 = some ⟨oc2, od2, .func (PySem.W.fnOf "has_hole" "has_hole" (defArgs s_has_hole) (defBody s_has_hole) (defScope s_has_hole) .none kV2 dc2 pm2 an2 cd2 ct2), sl2⟩) (c2 : PySem.W.codeIn K cd2 "has_hole" = true) (k2 : PySem.W.keepIn K (.ref f2) = true)
    (a3 : PySem.W.nsIn K mainGlobals "filled" = some (some (.ref f3))) (l3 : K.lookup f3 = some ⟨oc3, od3, .func (PySem.W.fnOf "filled" "filled" (defArgs s_filled) (defBody s_filled) (defScope s_filled) .none kV3 dc3 pm3 an3 cd3 ct3), sl3⟩) (c3 : PySem.W.codeIn K cd3 "filled" = true) (k3 : PySem.W.keepIn K (.ref f3) = true)
    (a4 : PySem.W.nsIn K mainGlobals "is_hole" = some (some (.ref f4))) (l4 : K.lookup f4 = some ⟨oc4, od4, .func (PySem.W.fnOf "is_hole" "is_hole" (defArgs s_is_hole) (defBody s_is_hole) (defScope s_is_hole) .none kV4 dc4 pm4 an4 cd4 ct4), sl4⟩) (c4 : PySem.W.codeIn K cd4 "is_hole" = true) (k4 : PySem.W.keepIn K (.ref f4) = true)
    (a5 : PySem.W.nsIn K mainGlobals "rising" = some (some (.ref f5))) (l5 : K.lookup f5 = some ⟨oc5, od5, .func (PySem.W.fnOf "rising" "rising" (defArgs s_rising) (defBody s_rising) (defScope s_rising) .none kV5 dc5 pm5 an5 cd5 ct5), sl5⟩) (c5 : PySem.W.codeIn K cd5 "rising" = true) (k5 : PySem.W.keepIn K (.ref f5) = true)
    (a6 : PySem.W.nsIn K mainGlobals "with_changed_pair" = some (some (.ref f6))) (l6 : K.lookup f6 = some ⟨oc6, od6, .func (PySem.W.fnOf "with_changed_pair" "with_changed_pair" (defArgs s_with_changed_pair) (defBody s_with_changed_pair) (defScope s_with_changed_pair) .none kV6 dc6 pm6 an6 cd6 ct6), sl6⟩) (c6 : PySem.W.codeIn K cd6 "with_changed_pair" = true) (k6 : PySem.W.keepIn K (.ref f6) = true)
    (a7 : PySem.W.nsIn K mainGlobals "all_within" = some (some (.ref f7))) (l7 : K.lookup f7 = some ⟨oc7, od7, .func (PySem.W.fnOf "all_within" "all_within" (defArgs s_all_within) (defBody s_all_within) (defScope s_all_within) .none kV7 dc7 pm7 an7 cd7 ct7), sl7⟩) (c7 : PySem.W.codeIn K cd7 "all_within" = true) (k7 : PySem.W.keepIn K (.ref f7) = true)
    (a8 : PySem.W.nsIn K mainGlobals "_law_cell_at" = some (some (.ref f8))) (l8 : K.lookup f8 = some ⟨oc8, od8, .func (PySem.W.fnOf "_law_cell_at" "_law_cell_at" (defArgs s_l_cell_at) (defBody s_l_cell_at) (defScope s_l_cell_at) .none kV8 dc8 pm8 an8 cd8 ct8), sl8⟩) (c8 : PySem.W.codeIn K cd8 "_law_cell_at" = true) (k8 : PySem.W.keepIn K (.ref f8) = true)
    (a9 : PySem.W.nsIn K mainGlobals "_law_mixed" = some (some (.ref f9))) (l9 : K.lookup f9 = some ⟨oc9, od9, .func (PySem.W.fnOf "_law_mixed" "_law_mixed" (defArgs s_l_mixed) (defBody s_l_mixed) (defScope s_l_mixed) .none kV9 dc9 pm9 an9 cd9 ct9), sl9⟩) (c9 : PySem.W.codeIn K cd9 "_law_mixed" = true) (k9 : PySem.W.keepIn K (.ref f9) = true)
    (a10 : PySem.W.nsIn K mainGlobals "_law_box" = some (some (.ref f10))) (l10 : K.lookup f10 = some ⟨oc10, od10, .func (PySem.W.fnOf "_law_box" "_law_box" (defArgs s_l_box) (defBody s_l_box) (defScope s_l_box) .none kV10 dc10 pm10 an10 cd10 ct10), sl10⟩) (c10 : PySem.W.codeIn K cd10 "_law_box" = true) (k10 : PySem.W.keepIn K (.ref f10) = true)
    (a11 : PySem.W.nsIn K mainGlobals "_law_take" = some (some (.ref f11))) (l11 : K.lookup f11 = some ⟨oc11, od11, .func (PySem.W.fnOf "_law_take" "_law_take" (defArgs s_l_take) (defBody s_l_take) (defScope s_l_take) .none kV11 dc11 pm11 an11 cd11 ct11), sl11⟩) (c11 : PySem.W.codeIn K cd11 "_law_take" = true) (k11 : PySem.W.keepIn K (.ref f11) = true)
    (a12 : PySem.W.nsIn K mainGlobals "_law_meaning" = some (some (.ref f12))) (l12 : K.lookup f12 = some ⟨oc12, od12, .func (PySem.W.fnOf "_law_meaning" "_law_meaning" (defArgs s_l_meaning) (defBody s_l_meaning) (defScope s_l_meaning) .none kV12 dc12 pm12 an12 cd12 ct12), sl12⟩) (c12 : PySem.W.codeIn K cd12 "_law_meaning" = true) (k12 : PySem.W.keepIn K (.ref f12) = true)
    (a13 : PySem.W.nsIn K mainGlobals "_law_nodes" = some (some (.ref f13))) (l13 : K.lookup f13 = some ⟨oc13, od13, .func (PySem.W.fnOf "_law_nodes" "_law_nodes" (defArgs s_l_nodes) (defBody s_l_nodes) (defScope s_l_nodes) .none kV13 dc13 pm13 an13 cd13 ct13), sl13⟩) (c13 : PySem.W.codeIn K cd13 "_law_nodes" = true) (k13 : PySem.W.keepIn K (.ref f13) = true)
    (a14 : PySem.W.nsIn K mainGlobals "_law_holed" = some (some (.ref f14))) (l14 : K.lookup f14 = some ⟨oc14, od14, .func (PySem.W.fnOf "_law_holed" "_law_holed" (defArgs s_l_holed) (defBody s_l_holed) (defScope s_l_holed) .none kV14 dc14 pm14 an14 cd14 ct14), sl14⟩) (c14 : PySem.W.codeIn K cd14 "_law_holed" = true) (k14 : PySem.W.keepIn K (.ref f14) = true)
    (a15 : PySem.W.nsIn K mainGlobals "_law_way" = some (some (.ref f15))) (l15 : K.lookup f15 = some ⟨oc15, od15, .func (PySem.W.fnOf "_law_way" "_law_way" (defArgs s_l_way) (defBody s_l_way) (defScope s_l_way) .none kV15 dc15 pm15 an15 cd15 ct15), sl15⟩) (c15 : PySem.W.codeIn K cd15 "_law_way" = true) (k15 : PySem.W.keepIn K (.ref f15) = true)
    (a16 : PySem.W.nsIn K mainGlobals "_law_due" = some (some (.ref f16))) (l16 : K.lookup f16 = some ⟨oc16, od16, .func (PySem.W.fnOf "_law_due" "_law_due" (defArgs s_l_due) (defBody s_l_due) (defScope s_l_due) .none kV16 dc16 pm16 an16 cd16 ct16), sl16⟩) (c16 : PySem.W.codeIn K cd16 "_law_due" = true) (k16 : PySem.W.keepIn K (.ref f16) = true)
    (a17 : PySem.W.nsIn K mainGlobals "_law_right" = some (some (.ref f17))) (l17 : K.lookup f17 = some ⟨oc17, od17, .func (PySem.W.fnOf "_law_right" "_law_right" (defArgs s_l_right) (defBody s_l_right) (defScope s_l_right) .none kV17 dc17 pm17 an17 cd17 ct17), sl17⟩) (c17 : PySem.W.codeIn K cd17 "_law_right" = true) (k17 : PySem.W.keepIn K (.ref f17) = true)
    (a18 : PySem.W.nsIn K mainGlobals "law" = some (some (.ref f18))) (l18 : K.lookup f18 = some ⟨oc18, od18, .func (PySem.W.fnOf "law" "law" (defArgs s_law) (defBody s_law) (defScope s_law) .none kV18 dc18 pm18 an18 cd18 ct18), sl18⟩) (c18 : PySem.W.codeIn K cd18 "law" = true) (k18 : PySem.W.keepIn K (.ref f18) = true)
    (t2 : tabFree K cd2 = true) (r2 : ((recsOf q).any fun e => e.name == ("has_hole" : Str)) = true)
    (z1 : PySem.W.nsIn K mainGlobals "len" = some none) (z2 : PySem.W.nsIn K mainGlobals "abs" = some none) (z3 : PySem.W.nsIn K mainGlobals "int" = some none) (z4 : PySem.W.nsIn K mainGlobals "list" = some none) (z5 : PySem.W.nsIn K mainGlobals "range" = some none) (z6 : PySem.W.nsIn K mainGlobals "any" = some none) (z7 : PySem.W.nsIn K mainGlobals "enumerate" = some none) (z8 : PySem.W.nsIn K mainGlobals "tuple" = some none) (z9 : PySem.W.nsIn K mainGlobals "sorted" = some none) (z10 : PySem.W.nsIn K mainGlobals "dict" = some none) (z11 : PySem.W.nsIn K mainGlobals "min" = some none) :
    LamX.LawAtS l w K CX0 17 63 "_law_script" mg fa h := by
  have e := hfa.symm.trans (PySem.W.mg_of X G a18)
  cases e
  obtain ⟨C2, P2, ec2, et2, en2, eh2⟩ := tabOf X T r2 (PySem.W.mg_of X G a2) l2 t2
  subst ec2
  have F1 := fun_mk (st := s_nodes_of) l1 c1 k1
  have b1 := F1.binds (ps := ["meaning"]) fun _ _ _ _ _ _ us hl => match us, hl with | [_], _ => rfl
  have g1 := PySem.W.mg_of X G a1
  have F2 := fun_mk (st := s_has_hole) l2 c2 k2
  have FC2 : FunC K "has_hole" "has_hole" s_has_hole f2 _ C2 := ⟨⟨_, _, _, _, _, _, _, _, rfl, l2, c2⟩, k2⟩
  have b2 := F2.binds (ps := ["meaning"]) fun _ _ _ _ _ _ us hl => match us, hl with | [_], _ => rfl
  have g2 := PySem.W.mg_of X G a2
  have F3 := fun_mk (st := s_filled) l3 c3 k3
  have b3 := F3.binds (ps := ["meaning", "filler"]) fun _ _ _ _ _ _ us hl => match us, hl with | [_, _], _ => rfl
  have g3 := PySem.W.mg_of X G a3
  have F4 := fun_mk (st := s_is_hole) l4 c4 k4
  have b4 := F4.binds (ps := ["meaning"]) fun _ _ _ _ _ _ us hl => match us, hl with | [_], _ => rfl
  have g4 := PySem.W.mg_of X G a4
  have F5 := fun_mk (st := s_rising) l5 c5 k5
  have b5 := F5.binds (ps := ["pairs"]) fun _ _ _ _ _ _ us hl => match us, hl with | [_], _ => rfl
  have g5 := PySem.W.mg_of X G a5
  have F6 := fun_mk (st := s_with_changed_pair) l6 c6 k6
  have b6 := F6.binds (ps := ["meaning", "number", "inner"]) fun _ _ _ _ _ _ us hl => match us, hl with | [_, _, _], _ => rfl
  have g6 := PySem.W.mg_of X G a6
  have F7 := fun_mk (st := s_all_within) l7 c7 k7
  have b7 := F7.binds (ps := ["meaning"]) fun _ _ _ _ _ _ us hl => match us, hl with | [_], _ => rfl
  have g7 := PySem.W.mg_of X G a7
  have F8 := fun_mk (st := s_l_cell_at) l8 c8 k8
  have b8 := F8.binds (ps := ["_law_script", "_law_k"]) fun _ _ _ _ _ _ us hl => match us, hl with | [_, _], _ => rfl
  have g8 := PySem.W.mg_of X G a8
  have F9 := fun_mk (st := s_l_mixed) l9 c9 k9
  have b9 := F9.binds (ps := ["_law_number", "_law_k"]) fun _ _ _ _ _ _ us hl => match us, hl with | [_, _], _ => rfl
  have g9 := PySem.W.mg_of X G a9
  have F10 := fun_mk (st := s_l_box) l10 c10 k10
  have b10 := F10.binds (ps := ["_law_script", "_law_k"]) fun _ _ _ _ _ _ us hl => match us, hl with | [_, _], _ => rfl
  have g10 := PySem.W.mg_of X G a10
  have F11 := fun_mk (st := s_l_take) l11 c11 k11
  have b11 := F11.binds (ps := ["_law_box_here", "_law_many"]) fun _ _ _ _ _ _ us hl => match us, hl with | [_, _], _ => rfl
  have g11 := PySem.W.mg_of X G a11
  have F12 := fun_mk (st := s_l_meaning) l12 c12 k12
  have b12 := F12.binds (ps := ["_law_box_here", "_law_many", "_law_hole"]) fun _ _ _ _ _ _ us hl => match us, hl with | [_, _, _], _ => rfl
  have g12 := PySem.W.mg_of X G a12
  have F13 := fun_mk (st := s_l_nodes) l13 c13 k13
  have b13 := F13.binds (ps := ["_law_meaning_here"]) fun _ _ _ _ _ _ us hl => match us, hl with | [_], _ => rfl
  have g13 := PySem.W.mg_of X G a13
  have F14 := fun_mk (st := s_l_holed) l14 c14 k14
  have b14 := F14.binds (ps := ["_law_meaning_here"]) fun _ _ _ _ _ _ us hl => match us, hl with | [_], _ => rfl
  have g14 := PySem.W.mg_of X G a14
  have F15 := fun_mk (st := s_l_way) l15 c15 k15
  have b15 := F15.binds (ps := ["_law_meaning_here"]) fun _ _ _ _ _ _ us hl => match us, hl with | [_], _ => rfl
  have g15 := PySem.W.mg_of X G a15
  have F16 := fun_mk (st := s_l_due) l16 c16 k16
  have b16 := F16.binds (ps := ["_law_meaning_here", "_law_way_here", "_law_filler"]) fun _ _ _ _ _ _ us hl => match us, hl with | [_, _, _], _ => rfl
  have g16 := PySem.W.mg_of X G a16
  have F17 := fun_mk (st := s_l_right) l17 c17 k17
  have b17 := F17.binds (ps := ["_law_box_here"]) fun _ _ _ _ _ _ us hl => match us, hl with | [_], _ => rfl
  have g17 := PySem.W.mg_of X G a17
  have F18 := fun_mk (st := s_law) l18 c18 k18
  have m_len := PySem.W.mg_none_of X G z1
  have m_abs := PySem.W.mg_none_of X G z2
  have m_int := PySem.W.mg_none_of X G z3
  have m_list := PySem.W.mg_none_of X G z4
  have m_range := PySem.W.mg_none_of X G z5
  have m_any := PySem.W.mg_none_of X G z6
  have m_enumerate := PySem.W.mg_none_of X G z7
  have m_tuple := PySem.W.mg_none_of X G z8
  have m_sorted := PySem.W.mg_none_of X G z9
  have m_dict := PySem.W.mg_none_of X G z10
  have m_min := PySem.W.mg_none_of X G z11
  have hT1 : ∀ p ∈ [(C2, P2)], h.get? p.2 = some { cls := .none, data := .fields #[] } := fun p hp => by
    rw [List.mem_singleton.mp hp]
    exact et2

  have hT2 : ∀ p ∈ [(C2, P2)], K.lookup p.2 = none := fun p hp => by
    rw [List.mem_singleton.mp hp]
    exact en2

  have hT3 : ∀ p ∈ [(C2, P2)], PySem.W.CodeHd h p.1 p.2 := fun p hp => by
    rw [List.mem_singleton.mp hp]
    exact eh2

  refine ⟨PySem.W.fnOf "law" "law" (defArgs s_law) (defBody s_law) (defScope s_law) .none kV18 dc18 pm18 an18 cd18 ct18, [(C2, P2)], spLaw K [P2], hT1, hT2, hT3, fun s v => .of_eq rfl, fun H a ns hl _ hT hS => ⟨a, ns, rfl, hS, hl, fun P hP => ?_, fun _ => rfl⟩, fun base _ _ TB => ?_⟩
  · rw [List.mem_singleton.mp hP]
    exact ⟨#[], hT (C2, P2) (by simp), trivial⟩
  have TB2 := tabB_of (TB (C2, P2) (by simp))
  have hP2 : P2 ∈ [P2] := by simp
  have GC : FnOk l.prog w K mg base CX0 1 f8 _ ["_law_script", "_law_k"] (spCell K) := ok_cell F8 m_len
  have GM : FnOk l.prog w K mg base CX0 1 f9 _ ["_law_number", "_law_k"] spMixed := ok_mixed F9
  have GB := ok_box F10 F8.kp b8 g8 GC F9.kp b9 g9 GM m_abs m_int
  have GT := ok_take F11 F9.kp b9 g9 GM
  have GHo : FnOk l.prog w K mg base CX0 1 f4 _ ["meaning"] (spHole K) := ok_isHole F4
  have GA : FnOk l.prog w K mg base CX0 1 f7 _ ["meaning"] (spAll K) := ok_all F7 m_len m_enumerate
  have GNo := ok_nodes F1 F7.kp b7 g7 GA m_len
  have GHa : FnOk l.prog w K mg base CX0 5 f2 _ ["meaning"] (spHas K [P2]) := ok_has FC2 TB2 hP2 m_any F7.kp b7 g7 GA F4.kp b4 g4 GHo
  have GRs : FnOk l.prog w K mg base CX0 1 f5 _ ["pairs"] (spRising K) := ok_rising F5 m_tuple m_sorted
  have GCh := ok_chg F6 F5.kp b5 g5 GRs
  have GFi := ok_filled F3 F7.kp b7 g7 GA F4.kp b4 g4 GHo F5.kp b5 g5 GRs F6.kp b6 g6 GCh
  have GLn : FnOk l.prog w K mg base CX0 1 f13 _ ["_law_meaning_here"] (spLn K) := ok_ln F13
  have GLh : FnOk l.prog w K mg base CX0 1 f14 _ ["_law_meaning_here"] (spLh K) := ok_lh F14
  have GMn := ok_mn F12 F11.kp b11 g11 GT F13.kp b13 g13 GLn F14.kp b14 g14 GLh b12 g12 m_dict m_sorted m_tuple 12 (Nat.le_refl _)
  have GWa := ok_way F15 F14.kp b14 g14 GLh b15 g15 m_enumerate 12 (Nat.le_refl _)
  have GDu := ok_due (P := l.prog) (w := w) (base := base) F16 b16 g16 m_sorted m_tuple m_list 12 (Nat.le_refl _)
  have GRi := ok_right F17 F11.kp b11 g11 GT F12.kp b12 g12 GMn F13.kp b13 g13 GLn F15.kp b15 g15 GWa F16.kp b16 g16 GDu F3.kp b3 g3 GFi F1.kp b1 g1 GNo F2.kp b2 g2 GHa m_range m_tuple m_sorted
  exact ok_law F18 F10.kp b10 g10 GB F17.kp b17 g17 GRi m_range m_min m_len
end Bn
open PySem PySem.W PyProof.Rows
set_option maxHeartbeats 0 in
theorem PySem.Challenge.cw_speechloom_k24_holes_filled_holds : PySem.Challenge.rw_speechloom_k24_holes_filled.Holds := by
  w_on; o_law; k_head; (case hw => w_witness2)
  k_fill
  refine GX.walk_ofTabs (l := PySem.Challenge.rw_speechloom_k24_holes_filled) (n := 63) (k := 17) (x := "_law_script") (CX := fun _ => L2.CX0) rfl (by decide) rfl ⟨rfl, by decide, by decide⟩ (fun w h Y => PySem.W.kIn_of Y) ?F (fun _ _ _ _ _ h => h)
  case F =>
    intro w mg fa h KX G hmg T
    refine' Bn.all_mk KX G hmg T ?a1 ?l1 ?c1 ?k1 ?a2 ?l2 ?c2 ?k2 ?a3 ?l3 ?c3 ?k3 ?a4 ?l4 ?c4 ?k4 ?a5 ?l5 ?c5 ?k5 ?a6 ?l6 ?c6 ?k6 ?a7 ?l7 ?c7 ?k7 ?a8 ?l8 ?c8 ?k8 ?a9 ?l9 ?c9 ?k9 ?a10 ?l10 ?c10 ?k10 ?a11 ?l11 ?c11 ?k11 ?a12 ?l12 ?c12 ?k12 ?a13 ?l13 ?c13 ?k13 ?a14 ?l14 ?c14 ?k14 ?a15 ?l15 ?c15 ?k15 ?a16 ?l16 ?c16 ?k16 ?a17 ?l17 ?c17 ?k17 ?a18 ?l18 ?c18 ?k18 ?t2 ?r2 ?z1 ?z2 ?z3 ?z4 ?z5 ?z6 ?z7 ?z8 ?z9 ?z10 ?z11
    (case a1 => k_is); (case l1 => k_is); (case c1 => k_is); (case k1 => k_is); (case a2 => k_is); (case l2 => k_is); (case c2 => k_is); (case k2 => k_is); (case a3 => k_is); (case l3 => k_is); (case c3 => k_is); (case k3 => k_is); (case a4 => k_is); (case l4 => k_is); (case c4 => k_is); (case k4 => k_is); (case a5 => k_is); (case l5 => k_is); (case c5 => k_is); (case k5 => k_is); (case a6 => k_is); (case l6 => k_is); (case c6 => k_is); (case k6 => k_is); (case a7 => k_is); (case l7 => k_is); (case c7 => k_is); (case k7 => k_is); (case a8 => k_is); (case l8 => k_is); (case c8 => k_is); (case k8 => k_is); (case a9 => k_is); (case l9 => k_is); (case c9 => k_is); (case k9 => k_is); (case a10 => k_is); (case l10 => k_is); (case c10 => k_is); (case k10 => k_is); (case a11 => k_is); (case l11 => k_is); (case c11 => k_is); (case k11 => k_is); (case a12 => k_is); (case l12 => k_is); (case c12 => k_is); (case k12 => k_is); (case a13 => k_is); (case l13 => k_is); (case c13 => k_is); (case k13 => k_is); (case a14 => k_is); (case l14 => k_is); (case c14 => k_is); (case k14 => k_is); (case a15 => k_is); (case l15 => k_is); (case c15 => k_is); (case k15 => k_is); (case a16 => k_is); (case l16 => k_is); (case c16 => k_is); (case k16 => k_is); (case a17 => k_is); (case l17 => k_is); (case c17 => k_is); (case k17 => k_is); (case a18 => k_is); (case l18 => k_is); (case c18 => k_is); (case k18 => k_is); (case z1 => k_is); (case z2 => k_is); (case z3 => k_is); (case z4 => k_is); (case z5 => k_is); (case z6 => k_is); (case z7 => k_is); (case z8 => k_is); (case z9 => k_is); (case z10 => k_is); (case z11 => k_is)
    case t2 => kernel_rfl
    case r2 => decide +kernel
