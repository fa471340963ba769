import PyProof.Rows.All
import Wide.All
import OpenK.AllK
import Wide.FinOn
import HandS.ForMost
import HandS.IsInst
import HandS.Codes
import HandS.Conv
import HandS.Star
import HandS.DeepEq
import HandS.ListEq
import HandS.SetFor
import HandS.Flow
import KE.KDictSum
import HandS.Walk
import HandS.AnyAll
import HandS.GenList
import HandS.Words
import HandS.EndTab
import HandS.DictComp
import KE.GoesMore
import KE.KEqDict
import HandS.Deep
import HandS.ListItems
import PyProof.SumAny
import KE.SortData
import HandS.SortKw
import KE.GoesEnum
import PySem.Challenge.RW_speechloom_k15_orders
set_option Elab.async false
set_option linter.all false
set_option maxRecDepth 100000
set_option maxHeartbeats 4000000
/-! rules of my own over the hand layer -/
namespace PySem.SeqAt
open AutoSeq1 (wpAny_loadPart')
open MeetsSeq MeetsSeq2 MeetsSeq3 SeqRoads2
section
variable {prog : Program} {w : World}
theorem my_neLoop (l b : Addr) (us vs : Array Value) (n m : Nat) (du dv : Option Addr) (su sv : Array (Option Value)) (hz : us.size = vs.size) (k : Nat) : ∀ i : Nat, us.size - i = k →
    MeetsIn prog w (Builtin.«list.__eq__.loop» ⟨[.ref l, .ref b, rawInt i, rawInt 3], []⟩) (fun A R s =>
      s.heap.get? l = some { cls := .type "list", dict := du, data := .seq us n, slots := su } ∧ s.heap.get? b = some { cls := .type "list", dict := dv, data := .seq vs m, slots := sv } ∧
      (∀ j (p : j < us.size) (q : j < vs.size), EqP prog w A.in1 s us[j] vs[j] true) ∧ R (.ok (.ret (.bool false))) s) := by
  induction k with
  | zero =>
    intro i hk A R s h
    obtain ⟨hp, g, d, tk, os⟩ := s
    obtain ⟨hl, hb, he, h⟩ := h
    wp_walk using wpAny_loadPart' hl, wpAny_loadPart' hb
    have e1 : us[((i : Nat) : Int).toNat]? = none := by simp; omega
    have e2 : vs[((i : Nat) : Int).toNat]? = none := by simp; omega
    rw [e1, e2]
    wp_walk using wpAny_loadPart' hl, wpAny_loadPart' hb
    show R (.ok (.ret (.bool (us.size != vs.size)))) _
    rw [hz]
    simpa using h
  | succ k ih =>
    intro i hk A R s h
    obtain ⟨hp, g, d, tk, os⟩ := s
    obtain ⟨hl, hb, he, h⟩ := h
    wp_walk using wpAny_loadPart' hl, wpAny_loadPart' hb
    have p1 : i < us.size := by omega
    have p2 : i < vs.size := by omega
    have e1 : us[((i : Nat) : Int).toNat]? = some us[i] := by simp [p1]
    have e2 : vs[((i : Nat) : Int).toNat]? = some vs[i] := by simp [p2]
    have ec : ((i : Int) + 1) = ((i + 1 : Nat) : Int) := by push_cast; rfl
    rw [e1, e2]
    refine wpAny_bind (he i p1 p2 _ _ ?_)
    wp_walk
    rw [ec]
    exact ⟨plainId_quiet plain_eq_loop _, codeAny_builtin entry_eq_loop (by
      rw [Around.under_plainId plain_eq_loop _]
      exact ih (i + 1) (by omega) A R _ ⟨hl, hb, he, h⟩)⟩
theorem my_listNe (l b : Addr) (us vs : Array Value) (n m : Nat) (du dv : Option Addr) (su sv : Array (Option Value)) (hz : us.size = vs.size) :
    MeetsIn prog w (Builtin.«list.__ne__» ⟨[.ref l, .ref b], []⟩) (fun A R s =>
      s.heap.get? l = some { cls := .type "list", dict := du, data := .seq us n, slots := su } ∧ s.heap.get? b = some { cls := .type "list", dict := dv, data := .seq vs m, slots := sv } ∧
      (∀ j (p : j < us.size) (q : j < vs.size), EqP prog w A.in1 s us[j] vs[j] true) ∧ R (.ok (.ret (.bool false))) s) := by
  intro A R s h
  obtain ⟨hp, g, d, tk, os⟩ := s
  obtain ⟨hl, hb, he, h⟩ := h
  have f3 := AutoSeq1.sub_list_list
  have hn : ¬ (us.size != vs.size) = true := by simp [hz]
  wp_walk using wpAny_loadPart' hl, wpAny_loadPart' hb
  exact ⟨plainId_quiet plain_eq_loop _, codeAny_builtin entry_eq_loop (by
    rw [Around.under_plainId plain_eq_loop _]
    exact my_neLoop l b us vs n m du dv su sv hz _ 0 rfl A R _ ⟨hl, hb, he, h⟩)⟩
theorem my_rcNe {A : Around} {s : Shared} {l b : Addr} {us vs : Array Value} (hl : s.heap.IsList l us) (hb : s.heap.IsList b vs) (hz : us.size = vs.size) (hu : A.units < cLine)
    (he : ∀ j (p : j < us.size) (q : j < vs.size), EqP prog w A.in1 s us[j] vs[j] true) (E Q : Value → Shared → Prop) (h : Q (.bool false) s) : wpAny (model prog w) A (richCompare .NotEq (.ref l) (.ref b)) Q E s := by
  obtain ⟨⟨c1, du, x1, su⟩, ho, hc, n, hd⟩ := id hl
  obtain ⟨⟨c2, dv, x2, sv⟩, ho2, hc2, m, hd2⟩ := id hb
  simp only at hc hd hc2 hd2
  subst hc hd hc2 hd2
  have ta : s.TypeIs (.ref l) "list" := ⟨_, ho, rfl⟩
  have tb : s.TypeIs (.ref b) "list" := ⟨_, ho2, rfl⟩
  exact wpAny_richCompare_same_room (op := .NotEq) ta tb F.slot_list_ne (call_meetsIn F.slot_list_ne ta F.entry_list_ne (F.args_list_ne_2 _ _) (my_listNe l b us vs n m du dv su sv hz)
    ⟨ho, ho2, he, show Value.bool false ≠ Value.notImplemented ∧ Q (.bool false) s from ⟨(fun x => nomatch x), h⟩⟩) hu
end
end PySem.SeqAt
namespace BR
open PySem PySem.Spec PyProof.Rows L2
section
variable {X : Cx}
/-- two lists that are equal to the bottom: a != b is False -/
def rNeV (K : PySem.W.Frag) : R2 := fun x y H Q => ∃ a b xs ys n, x = .ref a ∧ y = .ref b ∧ SqL K H a xs ∧ SqL K H b ys ∧ n ≤ 60 ∧ Paired (EqV K H n) xs ys ∧ Q (.bl false) H
theorem op_neV (hu : X.A.units + 64 < cLine) : OpR X (compareOp .NotEq) (rNeV X.K) := by
  intro pins s σ H x y v u Q I rx ry h
  obtain ⟨a, b, xs, ys, n, rfl, rfl, ha, hb, hn, hp, q⟩ := h
  cases (show v = Value.ref a from rx)
  cases (show u = Value.ref b from ry)
  obtain ⟨us, r1, p1, _⟩ := I.list ha
  obtain ⟨ws, r2, p2, _⟩ := I.list hb
  have hz : us.toArray.size = ws.toArray.size := by
    rw [List.size_toArray, List.size_toArray, ← r1.length, ← r2.length]
    exact Paired.length hp
  refine SeqAt.my_rcNe p1.isList p2.isList hz (by omega) (fun j h1 h2 => ?_) _ _ ⟨.bl false, H, I, rfl, q⟩
  have k := items_run (eqV_run I n X.A.in1 (by show X.A.units + 1 + n < cLine; omega)) hp r1 r2 j (by simpa using h1) (by simpa using h2)
  simpa using k
/-! *d in a display: the keys of a dict -/
theorem star_dK {pins : List (Addr × Obj)} {σ : L2.St} {H : Hp} {s : Shared} {p : Addr} {kvs : List (Key × V)} {E : Value → Shared → Prop} {Q : List Value → Shared → Prop} (hc : X.calm = true) (I : Inv X pins σ H s) (hk : H p = some (.dK kvs))
    (hQ : ∀ us s', Inv X pins σ H s' → Vals (kvs.map fun kv => kV kv.1) us → Q us s') : PySem.W.StarOf (model X.prog X.w) X.A E (.ref p) Q s := by
  obtain ⟨z, lo, vs, rk, hd⟩ := (show ObjOk X.prog X.w H s.heap p (.dK kvs) from I.hok p _ hk)
  obtain ⟨ep, hat⟩ := hd.dictAt
  have hl : kvs.length = vs.length := Paired.length rk
  have hT : s.TypeIs (.ref p) "dict" := hd.typeIs
  have zz : wpAny (model X.prog X.w) X.A (collect (.ref p)) Q E s := by
    refine PySem.W.kdu_collect (PySem.W.kdl_dict (knd := mixKind X.prog X.w) (kvs := vs) (ep := ep) lo) (I.ok.hd hc) hat (by rw [← hl]; exact z) fun h' tk acc hkeep hacc => ?_
    refine hQ acc.toList _ (I.kept (t' := tk) hkeep) ?_
    have el : acc.toList.length = acc.size := by simp
    refine vals_of_at (by rw [List.length_map, el, hacc.1, hl]) fun j x w h1 h2 => ?_
    obtain ⟨k, y, hky, hi⟩ := hacc.2 j w (by rw [← Array.getElem?_toList]; exact h2)
    have e1 : (kvs.map (·.1))[j]? = some k := by
      rw [KV.keys rk, List.getElem?_map, hky] <;> rfl
    have e2 : (kvs.map fun kv => kV kv.1)[j]? = some (kV k) := by
      have e3 : (kvs.map fun kv => kV kv.1) = (kvs.map (·.1)).map kV := by rw [List.map_map] <;> rfl
      rw [e3, List.getElem?_map, e1] <;> rfl
    rw [e2] at h1
    cases h1
    exact keyIs_rel hi
  unfold PySem.W.StarOf notIterableAtAll
  exact wpAny_bind (wpAny_specialOf hT PySem.F.slot_dict_iter.lookup (wpAny_pure ⟨rfl, zz⟩))
def tStarD (te : TE) (t : TA) : TA := fun σ H Q => te σ H fun x H1 => ∃ p kvs, x = V.ref p ∧ H1 p = some (.dK kvs) ∧ t σ H1 fun ys H2 => Q ((kvs.map fun kv => kV kv.1) ++ ys) H2
theorem pa_starD {e : Expr} {es : List Expr} {te : TE} {t : TA} {p : Pos} (hc : X.calm = true) (he : PE X e te) (hr : PA X es t) (hs : starEach (.Starred e p :: es) X.env = (true, eval e X.env) :: starEach es X.env := by rfl) : PA X (.Starred e p :: es) (tStarD te t) := by
  refine ⟨fun pos pins s σ H Q I h => ?_⟩
  refine PySem.W.items_star (thn (he.run pins s σ H _ I h) fun v s1 ⟨y, H1, I1, ry, a, kvs, ey, hx, q⟩ => ?_) hs
  subst ey
  obtain rfl : v = Value.ref a := ry
  refine star_dK hc I1 hx fun us s2 I2 rv => ?_
  exact thn (hr.run pos pins s2 σ H1 _ I2 q) fun ws s3 ⟨vs, H3, I3, r3, q3⟩ => ⟨_ ++ vs, H3, I3, rv.append r3, q3⟩
/-! rules whose reading names the written part, said with a letter for it (for the block of a comprehension) -/
theorem call_listK {K : PySem.W.Frag} (e : X.K = K) : CallR X (.type "list") (fun xs H Q => ∃ p ys, xs = [.ref p] ∧ (SqL K H p ys ∨ SqT K H p ys) ∧ ∀ l, H l = none → Q (.ref l) (upd H l (.lst ys))) := by
  subst e
  exact call_list_of
theorem op_inK {K : PySem.W.Frag} (e : X.K = K) : OpR X (compareOp .In) (rIn K false) := by
  subst e
  exact op_in_seq
theorem pt_truthK {K : PySem.W.Frag} {a : Expr} {ta : TE} (e : X.K = K) (ha : PE X a ta) (he : ∀ whole, isTrue a X.env whole = (do let v ← whole; standAt a.pos; holding [v] (truthy v))) :
    PT X a (fun σ H Q => ta σ H fun x H' => ∃ k, TruV K x H' k ∧ Q k H') := by
  subst e
  exact pt_truth ha he
theorem call_isiX {K : PySem.W.Frag} (e : X.K = K) : CallR X (.builtin "isinstance") (rIsi K) := by
  subst e
  exact call_isi
theorem pe_bmK {K : PySem.W.Frag} {o e : Expr} {es : List Expr} {to : TE} {t : TA} {name : Str} {apos cpos : Pos} {T id : String} {r : V → List V → Hp → VK → Prop} (eK : X.K = K)
    (pa : PlainAttrs T) (slot : Slot T name id) (hty : typeOf (.builtin id) = pure (.type "method_descriptor")) (hm : MtR X id r) (ho : PE X o to) (ha : PA X (e :: es) t)
    (h1 : attributeBase o name X.env (eval o X.env) = eval o X.env := by rfl)
    (h2 : ((backTo cpos (starEach (e :: es) X.env)).all (fun x => !x.1) && (backToKw cpos (keywordEach [] X.env)).all (fun x => x.1.isSome) && decide ((e :: es).length + ([] : List Keyword).length + (if ([] : List Keyword).isEmpty then 0 else 1) < 30)) = true := by rfl)
    (h3 : (apos.endLine == cpos.line) = true := by rfl) (h4 : starEach (e :: es) X.env = (false, eval e X.env) :: starEach es X.env := by rfl) (h5 : (backTo cpos (starEach es X.env)).any (·.1) = false := by rfl) :
    PE X (.Call (.Attribute o name apos) (e :: es) [] cpos) (tBM K T r to t) := by
  subst eK
  exact pe_bm pa slot hty hm ho ha h1 h2 h3 h4 h5
/-! list.count of a text in a list of texts -/
def eqsT (z : Str) : Value → Bool
  | .str y _ => y == z
  | _ => false
theorem eqsT_count {z : Str} : ∀ {ss : List Str} {us : List Value}, Vals (ss.map V.str) us → us.countP (eqsT z) = ss.count z
  | [], _, r => by cases r; rfl
  | y :: ss, _, r => by
    cases r with
    | cons h t =>
      obtain ⟨k, rfl⟩ := h
      rw [List.countP_cons, List.count_cons, eqsT_count t]
      rfl
theorem eqsT_at {A : Around} {s : Shared} {z : Str} {t : Tok} : ∀ {ss : List Str} {us : List Value}, Vals (ss.map V.str) us → ∀ y ∈ us, SeqAt.EqAt A s y (.str z t) (eqsT z y)
  | [], _, r, y, hy => by cases r; cases hy
  | x :: ss, _, r, y, hy => by
    cases r with
    | cons h q =>
      obtain ⟨k, rfl⟩ := h
      rcases List.mem_cons.mp hy with rfl | e
      · exact SeqAt.EqAt.str_str _ _ _ _
      · exact eqsT_at q y e
theorem mt_countS : MtR X "list.count" (fun x vs H Q => ∃ (p : Addr) (ss : List Str) (z : Str), x = .ref p ∧ vs = [.str z] ∧ SqL X.K H p (ss.map V.str) ∧ Q (.int (ss.count z : Nat)) H) := by
  intro pins s σ H x xs v us Q I rx rxs h
  obtain ⟨p, ss, z, rfl, rfl, hs, q⟩ := h
  cases rx
  obtain ⟨u, rfl, ru⟩ := rxs.one
  obtain ⟨t, rfl⟩ := ru
  obtain ⟨its, rv, ⟨⟨c1, dd, x1, sl⟩, n, ho, hc, hdn, hd⟩, hlen⟩ := I.list hs
  simp only at hc hd
  subst hc hd
  refine call_meets PySem.F.slot_list_count ⟨_, ho, rfl⟩ PySem.F.entry_list_count (PySem.F.args_list_count_2 _ _)
    (SeqAt.list_countAt p its.toArray n dd sl (.str z t) (eqsT z)) ⟨ho, fun y hy => eqsT_at rv y (by simpa using hy), ?_⟩
  have ec : its.toArray.toList.countP (eqsT z) = ss.count z := eqsT_count rv
  refine ⟨.int (ss.count z : Nat), H, I.tok _, ⟨s.toks, ?_⟩, q⟩
  show Value.int ((its.toArray.toList.countP (eqsT z) : Nat) : Int) s.toks = Value.int ((ss.count z : Nat) : Int) s.toks
  rw [ec]
theorem mt_countK {K : PySem.W.Frag} (e : X.K = K) : MtR X "list.count" (fun x vs H Q => ∃ (p : Addr) (ss : List Str) (z : Str), x = .ref p ∧ vs = [.str z] ∧ SqL K H p (ss.map V.str) ∧ Q (.int (ss.count z : Nat)) H) := by
  subst e
  exact mt_countS
end
end BR

namespace Bn
open PySem PySem.Spec PyProof.Rows L2 BR
/-! ### heaps -/
def Kp (b : Addr) (H H' : Hp) : Prop := ∀ a o, a ≠ b → H a = some o → H' a = some o
theorem Kp.refl (b : Addr) (H : Hp) : Kp b H H := fun _ _ _ h => h
theorem Kp.trans {b : Addr} {H H1 H2 : Hp} (x : Kp b H H1) (y : Kp b H1 H2) : Kp b H H2 := fun a o n h => y a o n (x a o n h)
theorem Kp.put {b : Addr} {H : Hp} {o : HO} : Kp b H (upd H b o) := fun a x n h => by
  rw [upd_ne n]
  exact h
theorem Kp.new {b p : Addr} {H : Hp} {o : HO} (h : H p = none) : Kp b H (upd H p o) := fun a x n e => by
  rw [upd_ne (ne_of_none e h)]
  exact e
theorem same_new {H : Hp} {p : Addr} {o : HO} (h : H p = none) : Same H (upd H p o) := fun b x e => by
  rw [upd_ne (ne_of_none e h)]
  exact e
theorem Kp.of_same {b : Addr} {H H' : Hp} (h : Same H H') : Kp b H H' := fun a o _ e => h a o e
theorem Same.kp {b : Addr} {H0 H H' : Hp} (s : Same H0 H) (n : H0 b = none) (k : Kp b H H') : Same H0 H' := fun a o e => k a o (ne_of_none e n) (s a o e)
/-- what is new is changed -/
theorem Same.own {p : Addr} {H0 H : Hp} {o : HO} (s : Same H0 H) (n : H0 p = none) : Same H0 (upd H p o) := fun a x e => by
  rw [upd_ne (ne_of_none e n)]
  exact s a x e
def Bx (H : Hp) (b : Addr) : Prop := ∃ x y z : Int, H b = some (.lst [.int x, .int y, .int z])
theorem Bx.same {H H' : Hp} {b : Addr} (h : Bx H b) (s : Same H H') : Bx H' b := by
  obtain ⟨x, y, z, e⟩ := h
  exact ⟨x, y, z, s _ _ e⟩
theorem Bx.ne {H : Hp} {b p : Addr} (h : Bx H b) (n : H p = none) : b ≠ p := by
  obtain ⟨x, y, z, e⟩ := h
  exact ne_of_none e n
structure Kb (b : Addr) (H H' : Hp) : Prop where
  k : Kp b H H'
  x : Bx H' b
theorem Kb.refl {b : Addr} {H : Hp} (h : Bx H b) : Kb b H H := ⟨Kp.refl b H, h⟩
theorem Kb.trans {b : Addr} {H H1 H2 : Hp} (p : Kb b H H1) (q : Kb b H1 H2) : Kb b H H2 := ⟨p.k.trans q.k, q.x⟩
theorem Kb.new {b p : Addr} {H : Hp} {o : HO} (hb : Bx H b) (h : H p = none) : Kb b H (upd H p o) := ⟨Kp.new h, hb.same (same_new h)⟩
theorem Kb.free {b a : Addr} {H H' : Hp} (p : Kb b H H') (h : H' a = none) : H a = none := by
  cases e : H a with
  | none => rfl
  | some o =>
    by_cases q : a = b
    · subst q
      obtain ⟨x, y, z, e2⟩ := p.x
      rw [e2] at h
      cases h
    · rw [p.k a o q e] at h
      cases h
theorem Kb.own {b p : Addr} {H H' : Hp} {o : HO} (q : Kb b H H') (h : H p = none) (n : p ≠ b) : Kb b H (upd H' p o) := ⟨fun a x na e => by
  rw [upd_ne (ne_of_none e h)]
  exact q.k a x na e, by
  obtain ⟨x, y, z, e2⟩ := q.x
  exact ⟨x, y, z, by rw [upd_ne n.symm]; exact e2⟩⟩
theorem line1000 {n : Nat} (h : n ≤ 1000) : n ≤ sizeLine := Nat.le_of_lt (small1000 h)
theorem tYes_in {σ : L2.St} {H : Hp} {f g : Hp → Prop} (h : f H) : tYes σ H fun b H3 => if b = true then f H3 else g H3 := by
  show (if true = true then f H else g H)
  exact iteT h
def lenAt (H : Hp) (l : Addr) : Nat := match H l with
  | some (.lst xs) => xs.length
  | _ => 0
theorem lenAt_of {H : Hp} {l : Addr} {xs : List V} (h : H l = some (.lst xs)) : lenAt H l = xs.length := by
  unfold lenAt
  rw [h]
theorem ne_bx {H : Hp} {b p : Addr} {o : HO} (hb : Bx H b) (h : H p = some o) (hn : ∀ x y z : Int, o ≠ .lst [.int x, .int y, .int z]) : p ≠ b := fun e => by
  obtain ⟨x, y, z, e2⟩ := hb
  rw [e, e2] at h
  exact hn x y z (Option.some.inj h).symm
/-! ### texts -/
def okS (x : Str) : Prop := ∀ c ∈ TL.tl x, c < 0x110000
theorem okS_iff (x : Str) : PyData.strOk x = true ↔ okS x := by
  unfold PyData.strOk okS TL.tl
  rw [← Array.all_toList, List.all_eq_true]
  exact ⟨fun h c hc => of_decide_eq_true (h c hc), fun h c hc => decide_eq_true (h c hc)⟩
theorem strs_shaped : ∀ (vs : List Str), (∀ x ∈ vs, okS x) → PyData.canLayAll0 (vs.map PyData.str) = true ∧ PyData.depthAll (vs.map PyData.str) = 0
  | [], _ => ⟨rfl, rfl⟩
  | v :: vs, h => by
    obtain ⟨a, b⟩ := strs_shaped vs fun x hx => h x (List.mem_cons_of_mem _ hx)
    refine ⟨?_, ?_⟩
    · show (PyData.strOk v && PyData.canLayAll0 (vs.map PyData.str)) = true
      rw [a, (okS_iff v).mpr (h v (List.mem_cons_self ..))]
      rfl
    · show max 0 (PyData.depthAll (vs.map PyData.str)) = 0
      rw [b]
      rfl
theorem strs_list_shaped {vs : List Str} (h : ∀ x ∈ vs, okS x) : SeqAt.shaped (.list (vs.map PyData.str)) = true := by
  obtain ⟨a, b⟩ := strs_shaped vs h
  show (PyData.canLayAll0 (vs.map PyData.str) && decide (PyData.depthAll (vs.map PyData.str) + 1 ≤ 64)) = true
  rw [a, b]
  rfl
theorem strs_dp {K : PySem.W.Frag} {H : Hp} : ∀ (vs : List Str), DpAll K H (vs.map V.str) (vs.map PyData.str)
  | [] => .nil
  | v :: vs => .cons (.str v) (strs_dp vs)
theorem strs_nil (vs : List Str) : PyData.eqv (.list (vs.map PyData.str)) (.list []) = vs.isEmpty := by
  cases vs with
  | nil => rfl
  | cons v r => rfl
theorem strs_all {ws : List Str} : ∀ {ys : List V}, (∀ y ∈ ys, y ∈ ws.map V.str) → ∃ vs : List Str, ys = vs.map V.str ∧ ∀ v ∈ vs, v ∈ ws
  | [], _ => ⟨[], rfl, fun v hv => by cases hv⟩
  | y :: ys, h => by
    obtain ⟨vs, e, hv⟩ := strs_all (ys := ys) fun z hz => h z (List.mem_cons_of_mem _ hz)
    obtain ⟨x, hx, ex⟩ := List.mem_map.mp (h y (List.mem_cons_self ..))
    refine ⟨x :: vs, ?_, fun v hv' => ?_⟩
    · rw [List.map_cons, ex, e]
    · rcases List.mem_cons.mp hv' with rfl | q
      · exact hx
      · exact hv v q
theorem map_str_inj : ∀ {vs ws : List Str}, vs.map V.str = ws.map V.str → vs = ws
  | [], [], _ => rfl
  | [], _ :: _, h => by cases h
  | _ :: _, [], h => by cases h
  | v :: vs, w :: ws, h => by
    rw [List.map_cons, List.map_cons] at h
    injection h with h1 h2
    rw [V.str.inj h1, map_str_inj h2]
theorem strs_ne_ints {vs : List Str} (h : 1 ≤ vs.length) : ∀ x y z : Int, HO.lst (vs.map V.str) ≠ .lst [.int x, .int y, .int z] := fun x y z e => by
  cases vs with
  | nil => exact absurd h (by decide)
  | cons v r =>
    injection e with e1
    rw [List.map_cons] at e1
    injection e1 with e2 _
    cases e2
theorem rd_lock {H : Hp} {a d : Addr} {u v : HO} {o : Obj} (ha : H a = some v) (hd : H d = some u) : Rd (upd H d (.frz o u)) a v := by
  by_cases e : a = d
  · subst e
    rw [ha] at hd
    cases hd
    exact .inr ⟨o, upd_same⟩
  · exact .inl (by rw [upd_ne e]; exact ha)
theorem unlock {H : Hp} {d : Addr} {u : HO} {o : Obj} (hd : H d = some u) : upd (upd H d (.frz o u)) d u = H := by
  funext x
  by_cases e : x = d
  · subst e
    rw [upd_same, hd]
  · rw [upd_ne e, upd_ne e]
end Bn

/-! all(elt for target in iter if ..), the element by the layer's own rules, over anything that is walked; the heap may move -/
namespace GX
open PySem PySem.Spec PyProof.Rows L2 GenW

/-- the context of a generator expression's frame that was made at s -/
abbrev gcx (X : Cx) (s : Shared) (H : Hp) (cenv : Env) (fp : List Addr) : Cx :=
  { X with A := X.A.in1.in1.deeper cenv, s_0 := s, H_0 := H, env := cenv, outer := X.stack, stack := cenv :: X.stack, ex := fp, fn := fun _ => false, pn := [], xe := fun _ _ => False }

section
variable {X : Cx} {pins : List (Addr × Obj)} {σ : L2.St} {H : Hp} {s : Shared}
theorem gen_start {scope : Scope} {own : List (Str × Nat)} {fp : List Addr} {h' : Heap} {mm : Str → Option Value} {G : Array GenState} {tk : Nat} {code : Value} (J : Inv X pins σ H s) (blk : BlkOk X.N X.env.scope scope own) (nc : ∀ y ∈ scope.names, y.2 ≠ .cell) (nd : X.N.Nodup)
    (walked : ∀ p ∈ fp, FpOk X pins H p ∧ p < s.heap.objs.size) (frame : h'.Ns s.heap.objs.size mm) (up : ∀ p u, s.heap.get? p = some u → h'.get? p = some u) (bare : AllBare G) :
    Inv (gcx X s H (genEnv scope (cloFrom X.env.cells scope.names []) s.heap.objs.size code builtinsNs X.env) fp) [] (wipe σ (own.map (·.2))) H { s with heap := h', gens := G, toks := tk } := by
  have caught : ∀ n ∈ scope.names, n.2 = .free → ∃ c, X.env.cells.lookup n.1 = some c := fun n hn hf =>
    J.ok.has _ ((blk.free n hn hf).elim .inl .inr)
  -- the closure holds cells of the def alone
  have clo : ∀ {n c}, (n, c) ∈ cloFrom X.env.cells scope.names [] → X.env.cells.lookup n = some c ∧ c < s.heap.objs.size := fun {n c} hin => by
    rcases cloFrom_mem hin with none' | ⟨isFree, rfl⟩
    · exact absurd none' List.not_mem_nil
    · obtain ⟨c₀, at₀⟩ := caught _ isFree rfl
      obtain ⟨val, stands⟩ := J.cell _ _ at₀
      rw [at₀]
      exact ⟨rfl, stands.lt⟩
  generalize env' : genEnv scope (cloFrom X.env.cells scope.names []) s.heap.objs.size code builtinsNs X.env = ge
  have gL : ge.locals = s.heap.objs.size := env' ▸ rfl
  have gC : ge.cells = cloFrom X.env.cells scope.names [] := env' ▸ rfl
  have gS : ge.scope = scope := env' ▸ rfl
  have gF : ge.frame = some ge.locals := env' ▸ rfl
  have down : ∀ {n c}, ge.cells.lookup n = some c → X.env.cells.lookup n = some c ∧ c < s.heap.objs.size := fun {n c} q =>
    clo (PySem.mem_of_lookup (gC ▸ q))
  have freeAt : ∀ {n}, scope.names.lookup n = some .free → ∃ c, ge.cells.lookup n = some c ∧ X.env.cells.lookup n = some c := fun {n} q => by
    obtain ⟨c, inGe⟩ := mem_lookup (cloFrom_has (cells := X.env.cells) (acc := []) (PySem.mem_of_lookup q))
    have inGe' : ge.cells.lookup n = some c := gC ▸ inGe
    exact ⟨c, inGe', (down inGe').1⟩
  have wOk : (gcx X s H ge fp).Ok := {
    mod := J.ok.mod
    kind := by show ge.scope.kind = _; rw [gS]; exact blk.kind
    glob := by show ge.globals = _; rw [← env']; exact J.ok.glob
    blt := by show ge.builtins = _; rw [← env']; rfl
    above := Nat.le_of_eq gL.symm
    inj := fun n n' c q q' => J.ok.inj n n' c (down q).1 (down q').1
    has := fun n kinds => by
      have kinds' : scope.names.lookup n = some .cell ∨ scope.names.lookup n = some .free := gS ▸ kinds
      rcases kinds' with isCell | isFree
      · exact absurd rfl (nc _ (PySem.mem_of_lookup isCell))
      · exact (freeAt isFree).imp fun _ q => q.1
    cab := fun _ _ z _ => absurd z Bool.false_ne_true
    hd := J.ok.hd
    frames := Around.frames_deeper J.ok.frames
    stk := .inr ⟨rfl, gF⟩
    exf := fun p hp => ⟨by show p ≠ ge.locals; rw [gL]; exact Nat.ne_of_lt (walked p hp).2, fun n c q => (walked p hp).1.2.2.2.2.1 n c (down q).1⟩
    bs := J.bs
    bsz := Nat.le_trans J.ok.bsz J.sz
    noex := fun p u q hp => (walked p hp).1.2.2.2.1.elim (J.ok.noex p u q) fun young => Nat.lt_irrefl _ (Nat.lt_of_lt_of_le (Heap.lt_size q) (Nat.le_trans J.ok.bsz young))
    exfs := fun p hp z => (List.mem_cons.mp (J.stkSub p z)).elim (walked p hp).1.2.1 (walked p hp).1.2.2.1
    funs := J.stack
    frf := J.stkFree }
  refine { ok := wOk, os := rfl, bare := bare, base := Un.kept up, loc := ⟨mm, by show Heap.Ns _ ge.locals _; rw [gL]; exact frame, fun k n v atN atS vis => ?_⟩, cell := fun n c q => ?_, free := ?_, freeC := fun n c q => J.freeC n c (down q).1, pin := fun _ none' => absurd none' List.not_mem_nil, hok := J.hok.kept up, len := ?_ }
  · obtain ⟨atS, notOwn⟩ := wipe_some atS
    have isFree : scope.names.lookup n = some .free := by
      have ownNot : ∀ kd, scope.names.lookup n = some kd → ¬ (kd = .local ∨ kd = .cell) := fun kd q two => by
        rcases blk.own _ (PySem.mem_of_lookup q) two with among | out
        · obtain ⟨⟨m₁, k₁⟩, in₁, nm⟩ := List.mem_map.mp among
          have nm' : m₁ = n := nm
          have k₁At := blk.ix _ in₁
          rw [show (m₁, k₁).1 = n from nm'] at k₁At
          exact notOwn (List.mem_map.mpr ⟨_, in₁, nodup_ix nd k₁At atN⟩)
        · exact out (List.mem_of_getElem? atN)
      have vis' : Vis scope n := gS ▸ (show Vis ge.scope n from vis)
      rcases vis' with q | q | q
      · exact absurd (.inl rfl) (ownNot _ q)
      · exact absurd (.inr rfl) (ownNot _ q)
      · exact q
    have inDef := blk.free _ (PySem.mem_of_lookup isFree) rfl
    obtain ⟨_, _, reads⟩ := J.loc
    obtain ⟨val, rel, how⟩ := reads k n v atN atS (.inr inDef)
    obtain ⟨c, c1, c2⟩ := freeAt isFree
    refine ⟨val, rel, .inr ⟨.inr (by show ge.scope.names.lookup n = _; rw [gS]; exact isFree), c, c1, ?_⟩⟩
    rcases how with ⟨isLocal, _⟩ | ⟨_, c₂, c₂At, stands⟩
    · have isLocal' : X.env.scope.names.lookup n = some .local := isLocal
      rw [isLocal'] at inDef
      rcases inDef with q | q <;> cases q
    · rw [c2] at c₂At
      cases c₂At
      exact stands.keeps up
  · obtain ⟨val, stands⟩ := J.cell n c (down q).1
    exact ⟨val, stands.keeps up⟩
  · show H ge.locals = none
    exact gL ▸ J.hok.fresh (Nat.le_refl _)
  · exact (wipe_length σ _).trans J.len
end

/-! ### the protocol -/
section
variable {Y : Cx}
def RG (Y : Cx) (pn : List (Addr × Obj)) (T : Hp → Prop) : GenEnd := fun n s₀ r s₁ => r = .ok .next ∧ ∃ σ H, Inv Y pn σ H s₁ ∧ T H
def YG (Y : Cx) (pn : List (Addr × Obj)) (F : Hp → Prop) : Protocol := fun n s₀ v s kap =>
  ∃ b σ H, v = .bool b ∧ Inv Y pn σ H s ∧ (b = true → ∀ G, AllBare G → kap (.send .none) { s with gens := G }) ∧ (b = false → F H)
theorem inv_gens {pn : List (Addr × Obj)} {σ : L2.St} {H : Hp} {s : Shared} {G : Array GenState} (I : Inv Y pn σ H s) (h : AllBare G) : Inv Y pn σ H { s with gens := G } :=
  I.call' (ch := []) rfl (Un.kept fun _ _ e => e) I.hok h fun b z => by simp at z
theorem inv_kept {pn : List (Addr × Obj)} {σ : L2.St} {H : Hp} {s : Shared} {G : Array GenState} {h' : Heap} (I : Inv Y pn σ H s) (h : AllBare G) (k : ∀ b o, s.heap.get? b = some o → h'.get? b = some o) : Inv Y pn σ H { s with gens := G, heap := h' } :=
  I.call' (ch := []) rfl (Un.kept k) (I.hok.kept k) h fun b z => by simp at z

/-- what a turn of the walk wants -/
def AllTurn (J : It) (g : TG) (tt : TT) (te : TE) (vs : List Nat) (σw : L2.St) (W : Nat → Nat → Hp → Prop) (T F : Hp → Prop) : Prop :=
  ∀ i m H, W i m H → (J.stop i H ∧ T H) ∨ (J.go i H ∧ ∃ Nx : Hp → Prop, (∀ H', Nx H' → ∃ m', m' < m ∧ W (i + 1) m' H') ∧ ∀ x H', J.yld i H x H' → g x σw H' fun σ2 H2 => wipe σ2 vs = σw ∧ tt σ2 H2 fun b H3 =>
    if b = true then te σ2 H3 fun y H4 => ∃ c : Bool, y = .bl c ∧ (c = true → Nx H4) ∧ (c = false → F H4) else Nx H3)

theorem seg_loop {A : Around} {elt tg iter : Expr} {ifs : List Expr} {scope : Scope} {pos : Pos} {it : Addr} {fp : List Addr} {tn : Nat → Heap → Prop} {J : It} {g : TG} {tt : TT} {te : TE} {vs : List Nat} {σw : L2.St} {pn : List (Addr × Obj)} {W : Nat → Nat → Hp → Prop} {T F : Hp → Prop}
    (hov : A.over (.compLoop (.GeneratorExp elt [⟨tg, iter, ifs, 0⟩] scope pos) 0 (.ref it) .none Y.env) [] = Y.A) (hxe : Y.xe = fun _ _ => False) (hcalm : Y.calm = true) (hco : Y.env.scope.isCoroutine = false)
    (Tn : Turn Y.prog Y.w Y.K tg J fp it tn) (pg : PG Y tg g) (pt : PTs Y ifs tt) (pe : PE Y elt te) (hex : ∀ b ∈ fp, b ∈ Y.ex) (hpn : Y.pn = []) (hpins : ∀ p ∈ pn, p.1 ∉ fp) (turn : AllTurn J g tt te vs σw W T F) :
    ∀ (m n i : Nat) (s₀ s : Shared) (H : Hp), m < n → Inv Y pn σw H s → tn i s.heap → (∀ b ∈ fp, H b = none) → W i m H →
      Seg (model Y.prog Y.w) A (RG Y pn T) (YG Y pn F) n s₀ (.compLoop (.GeneratorExp elt [⟨tg, iter, ifs, 0⟩] scope pos) 0 (.ref it) .none Y.env)
        ((model Y.prog Y.w).den (.compLoop (.GeneratorExp elt [⟨tg, iter, ifs, 0⟩] scope pos) 0 (.ref it) .none Y.env)) [] s := by
  have stat : ∀ {σ' : L2.St} {H' : Hp} {s' : Shared}, Inv Y pn σ' H' s' → (∀ b ∈ fp, H' b = none) → ∀ b ∈ fp, FpOk Y pn H' b := fun {σ' H' s'} I' hn b hb =>
    ⟨hn b hb, (I'.ok.exf b (hex b hb)).1, I'.ok.exfs b (hex b hb), .inl (hex b hb), fun x c e => (I'.ok.exf b (hex b hb)).2 x c e, fun p hp => by
      rw [hpn] at hp
      exact fun z => hpins p (by simpa using hp) (by rw [z]; exact hb)⟩
  intro m
  induction m using Nat.strongRecOn with
  | ind m ih =>
    intro n i s₀ s H hmn I st nfp w
    show Seg _ A _ _ _ s₀ _ ((compTurn (.GeneratorExp elt [⟨tg, iter, ifs, 0⟩] scope pos) 0 (.ref it) .none Y.env).onRaise (leaving Y.env)) [] s
    rw [compTurn_gen, Sem.onRaise_eq_wrap]
    refine seg_bind_wrap (wpAny_standAt ?_)
    rcases turn i m H w with ⟨stop, qq⟩ | ⟨go, Nx, hNx, step⟩
    · refine seg_bind_wrap ?_
      rw [hov]
      refine thnF (Tn.done Y rfl rfl rfl hcalm i pn s _ H (fun _ _ => False) I (stat I nfp) st stop) fun r s1 ⟨hr, I1⟩ => ?_
      subst hr
      exact seg_end (.ok .next) ⟨rfl, _, _, I1, qq⟩
    · refine seg_bind_wrap ?_
      rw [hov]
      refine thnF (Tn.item Y rfl rfl rfl hcalm i pn s _ H (fun _ _ => False) I (stat I nfp) st go) fun r s1 ⟨u, hr, h1⟩ => ?_
      subst hr
      refine seg_bind_wrap ?_
      rw [hov]
      refine thnF h1 fun _ s2 ⟨x, H2, I2, r2, y2, st2, n2⟩ => ?_
      have I2' := I2.pinned (stat I2 n2) (Tn.obj _ _ st2)
      have no : ∀ {e : Value} {s' : Shared} {C : Prop}, Y.xe e s' → C := fun {e s' C} h => by
        rw [hxe] at h
        exact h.elim
      refine seg_bind_wrap ?_
      rw [hov]
      refine wpAny_mono (pg.run _ s2 _ H2 x u _ I2' r2 (step x H2 y2)) (fun _ s3 h3 => ?_) fun _ _ e => no e
      obtain ⟨σ3, H3, I3, hw3, q3⟩ := h3
      refine seg_bind_wrap ?_
      rw [hov]
      refine wpAny_mono (pt.run _ s3 σ3 H3 _ I3 q3) (fun b s4 h4 => ?_) fun _ _ e => no e
      obtain ⟨H4, I4, q4⟩ := h4
      -- the turn's end
      have fin : ∀ {s' : Shared} {H' : Hp} {G : Array GenState}, Inv Y (pn ++ pinsAt fp s2.heap) σ3 H' s' → AllBare G → Nx H' → ∃ m', m' < m ∧ Inv Y pn σw H' { s' with gens := G } ∧ tn (i + 1) ({ s' with gens := G } : Shared).heap ∧ (∀ b ∈ fp, H' b = none) ∧ W (i + 1) m' H' := fun {s' H' G} I' hG nx => by
        obtain ⟨m', less, w'⟩ := hNx H' nx
        have pin' : ∀ b ∈ fp, ∀ o, s2.heap.get? b = some o → s'.heap.get? b = some o ∧ H' b = none := fun b hb o e =>
          (I'.pin (b, o) (List.mem_append_right _ (List.mem_append_right _ (mem_pinsAt hb e)))).imp id And.left
        have hl : σw.length = σ3.length := by rw [← hw3, wipe_length]
        refine ⟨m', less, inv_gens ((I'.unpinned (pins := pn)).weak hl (fun j v e => ?_)) hG, Tn.keep _ _ _ st2 fun b hb o e => (pin' b hb o e).1, fun b hb => ?_, w'⟩
        · rw [← hw3] at e
          exact (wipe_some e).1
        · obtain ⟨o, e, _⟩ := Tn.obj _ _ st2 b hb
          exact (pin' b hb o e).2
      cases b with
      | false =>
        simp only [Bool.false_eq_true, if_false] at q4 ⊢
        obtain ⟨m', hm, J1, J2, J3, J4⟩ := fin I4 I4.bare q4
        exact seg_again rfl (ih m' hm n (i + 1) s₀ s4 H4 (by omega) J1 J2 J3 J4)
      | true =>
        simp only [if_true] at q4 ⊢
        have hy : ∀ v, yieldOut Y.env v = yieldValue v := fun v => by simp only [yieldOut, hco, Bool.false_eq_true, if_false]
        simp only [hy]
        rw [Sem.bind_eq_wrap', Sem.bind_eq_wrap', Sem.wrap_wrap, Sem.wrap_wrap]
        refine seg_wrap ?_
        rw [hov]
        refine wpAny_mono (pe.run _ s4 σ3 H4 _ I4 q4) (fun v s5 h5 => ?_) fun _ _ e => no e
        obtain ⟨yv, H5, I5, r5, c, ey, hT, hF⟩ := h5
        subst ey
        obtain rfl : v = Value.bool c := r5
        obtain ⟨n', rfl⟩ : ∃ n', n = n' + 1 := ⟨n - 1, by omega⟩
        refine seg_at (seg_yield rfl rfl rfl ⟨c, σ3, H5, rfl, I5.unpinned (pins := pn), fun hc G hG => ?_, hF⟩)
        obtain ⟨m', hm, J1, J2, J3, J4⟩ := fin I5 hG (hT hc)
        exact seg_again rfl (ih m' hm n' (i + 1) _ _ H5 (by omega) J1 J2 J3 J4)

theorem seg_start {A : Around} {elt tg iter : Expr} {ifs : List Expr} {scope : Scope} {pos : Pos} {it : Addr} {fp : List Addr} {tn : Nat → Heap → Prop} {J : It} {n i : Nat} {R : GenEnd} {Yp : Protocol} {s₀ s : Shared} {cenv : Env} {P : Program} {w : World} {K : PySem.W.Frag}
    (Tn : Turn P w K tg J fp it tn) (st : tn i s.heap)
    (loop : Seg (model P w) A R Yp n s₀ (.compLoop (.GeneratorExp elt [⟨tg, iter, ifs, 0⟩] scope pos) 0 (.ref it) .none cenv) ((model P w).den (.compLoop (.GeneratorExp elt [⟨tg, iter, ifs, 0⟩] scope pos) 0 (.ref it) .none cenv)) [] s) :
    Seg (model P w) A R Yp n s₀ (.compStart (.GeneratorExp elt [⟨tg, iter, ifs, 0⟩] scope pos) 0 (.ref it) .none cenv) ((model P w).den (.compStart (.GeneratorExp elt [⟨tg, iter, ifs, 0⟩] scope pos) 0 (.ref it) .none cenv)) [] s := by
  show Seg _ A _ _ _ s₀ _ ((compStart (.GeneratorExp elt [⟨tg, iter, ifs, 0⟩] scope pos) 0 (.ref it) .none cenv).onRaise (leaving cenv)) [] s
  unfold compStart
  rw [Sem.onRaise_eq_wrap]
  show Seg _ A _ _ _ s₀ _ ((ask >>= _).wrap _ _ _ _) [] s
  refine seg_bind_wrap (wpAny_askSetting ?_)
  split
  · exact seg_again rfl loop
  · first
      | exact seg_bind_wrap (wpAny_rule (seg_bind_wrap (wpAny_standAt (seg_bind_wrap (Tn.self _ i s _ _ st (seg_again rfl loop))))))
      | (refine seg_bind_wrap (wpAny_rule ?_); show Seg _ A _ _ _ s₀ _ ((standAt iter.pos >>= _).wrap _ _ _ _) [] s; exact seg_bind_wrap (wpAny_standAt (seg_bind_wrap (Tn.self _ i s _ _ st (seg_again rfl loop)))))

/-! ### all's loop -/
theorem all_loop {A : Around} {R : Result → Shared → Prop} {a : Addr} {g : Nat} {pn : List (Addr × Obj)} {T F : Hp → Prop} (hh : A.handled = none) (hd : A.depth < recursionLimit)
    (hgen : ∀ σ H s, Inv Y pn σ H s → s.heap.IsGen a g) (hT : ∀ σ H s, Inv Y pn σ H s → T H → R (.ok (.ret (.bool true))) s) (hF : ∀ σ H s, Inv Y pn σ H s → F H → R (.ok (.ret (.bool false))) s) :
    ∀ (n : Nat) (s : Shared), s.heap.IsGen a g → s.heap.NoLimit → (∃ gs, s.gens[g]? = some gs ∧ gs.Goes (model Y.prog Y.w) A.in1.in1 (RG Y pn T) (YG Y pn F) n (.send .none) (s.setGen g .running)) →
      codeAny (model Y.prog Y.w) A (.builtin "all.loop" ⟨[.ref a], []⟩) R s := by
  intro n
  induction n with
  | zero =>
    intro s hg hl ⟨gs, hgs, hgo⟩
    refine codeAny_builtin PySem.F.entry_all_loop ?_
    rw [Around.under_plainId PySem.F.plain_all_loop _]
    show wpAny _ A.in1 (pyNext (.ref a) >>= _) _ _ s
    refine wpAny_bind (wpAny_pyNext_genexpQ (A := A.in1) (P := fun _ _ s₁ => ∃ σ H, Inv Y pn σ H s₁ ∧ T H) hh hl hd hg hgs hgo (fun v s₁ gs' hb hv => ?_) (fun s₁ hp h' hk => ?_))
    · obtain ⟨b, σ, H, rfl, I, h1, h2⟩ := hv
      cases b with
      | true => exact (h1 rfl _ I.bare).elim
      | false =>
        refine wpAny_bind (wpAny_holding (wpAny_truthy_bool ?_))
        refine wpAny_bind (wpAny_letGo ?_)
        simp only [Bool.false_eq_true, if_false]
        exact wpAny_bind (wpAny_rule (wpAny_pure (hF σ H _ (inv_gens I (allBare_setGen I.bare hb)) (h2 rfl))))
    · obtain ⟨σ, H, I, q⟩ := hp
      exact wpAny_bind (wpAny_rule (wpAny_pure (hT σ H _ (inv_kept (s := s₁) (G := (s₁.setGen g .finished).gens) I (allBare_setGen I.bare rfl) hk) q)))
  | succ n ih =>
    intro s hg hl ⟨gs, hgs, hgo⟩
    have hgl : g < s.gens.size := (Array.getElem?_eq_some_iff.mp hgs).1
    refine codeAny_builtin PySem.F.entry_all_loop ?_
    rw [Around.under_plainId PySem.F.plain_all_loop _]
    show wpAny _ A.in1 (pyNext (.ref a) >>= _) _ _ s
    refine wpAny_bind (wpAny_gsz (n := g + 1) hgl (wpAny_pyNext_genexpQ (A := A.in1) (P := fun _ _ s₁ => ∃ σ H, Inv Y pn σ H s₁ ∧ T H) hh hl hd hg hgs hgo (fun v s₁ gs' hb hv => ?_) (fun s₁ hp h' hk => ?_)))
    · intro hsz
      obtain ⟨b, σ, H, rfl, I, h1, h2⟩ := hv
      refine wpAny_bind (wpAny_holding (wpAny_truthy_bool ?_))
      refine wpAny_bind (wpAny_letGo ?_)
      cases b with
      | true =>
        simp only [if_true]
        have hsz1 : g < s₁.gens.size := by
          have q : (s₁.setGen g gs').gens.size = s₁.gens.size := setGen_size _ _ _
          have hsz' : g + 1 ≤ (s₁.setGen g gs').gens.size := hsz
          omega
        refine wpAny_pure ⟨plainId_quiet PySem.F.plain_all_loop _, ih (s₁.setGen g gs') (hgen σ H _ (inv_gens I (allBare_setGen I.bare hb))) (show s₁.heap.NoLimit from I.nolimit) ⟨gs', setGen_at hsz1, ?_⟩⟩
        exact h1 rfl _ (allBare_setGen (s := s₁.setGen g gs') (allBare_setGen I.bare hb) rfl)
      | false =>
        simp only [Bool.false_eq_true, if_false]
        exact wpAny_bind (wpAny_rule (wpAny_pure (hF σ H _ (inv_gens I (allBare_setGen I.bare hb)) (h2 rfl))))
    · intro hsz
      obtain ⟨σ, H, I, q⟩ := hp
      exact wpAny_bind (wpAny_rule (wpAny_pure (hT σ H _ (inv_kept (s := s₁) (G := (s₁.setGen g .finished).gens) I (allBare_setGen I.bare rfl) hk) q)))
end
end GX

namespace GX
open PySem PySem.Spec PyProof.Rows L2 GenW
/-- all(elt for tg in iter if ..): behind it the def's table may have grown -/
def tAll (P : Addr) (wi : TI) (g : TG) (tt : TT) (te : TE) (vs : List Nat) : TE := fun σ H Q => wi σ H fun J H1 => GxR.TabG H1 P ∧ ∀ H2, GxR.Tabbed P H1 H2 →
  ∃ W : Nat → Nat → Hp → Prop, (∃ m, W 0 m H2) ∧ AllTurn J g tt te vs (wipe σ vs) W (fun H' => Q (.bl true) H') (fun H' => Q (.bl false) H')
section
variable {X : Cx}
theorem pe_all {c P : Addr} {elt tg iter : Expr} {ifs : List Expr} {scope : Scope} {own : List (Str × Nat)} {p pos gpos : Pos} {wi : TI} {g : TG} {tt : TT} {te : TE} {k : Nat}
    (hr : Room k X.A) (hgl : Gl X "all") (hm : X.mg "all" = none) (hb : bootBuiltins "all" = some (.builtin "all")) (TB : GxR.TabB X.base X.mg c P) (hcode : X.env.code = .ref c) (hc : X.calm = true) (hN : X.N.Nodup) (hi : PI X tg iter wi) (ok : BlkOk X.N X.env.scope scope own)
    (hco : scope.isCoroutine = false) (nc : ∀ y ∈ scope.names, y.2 ≠ .cell) (h0 : scope.names.lookup (".0" : Str) = some NameKind.local)
    (hg : ∀ (s : Shared) (H : Hp) (C : Addr) (cl : List (Str × Addr)) (code : Value) (fp : List Addr), PG (gcx X s H (genEnv scope cl C code builtinsNs X.env) fp) tg g)
    (ht : ∀ (s : Shared) (H : Hp) (C : Addr) (cl : List (Str × Addr)) (code : Value) (fp : List Addr), PTs (gcx X s H (genEnv scope cl C code builtinsNs X.env) fp) ifs tt)
    (he : ∀ (s : Shared) (H : Hp) (C : Addr) (cl : List (Str × Addr)) (code : Value) (fp : List Addr), PE (gcx X s H (genEnv scope cl C code builtinsNs X.env) fp) elt te)
    (hs : ∀ v, genFold iter X.env v = pure v := by intro _; rfl)
    (hst : starEach [.GeneratorExp elt [⟨tg, iter, ifs, 0⟩] scope gpos] X.env = (false, eval (.GeneratorExp elt [⟨tg, iter, ifs, 0⟩] scope gpos) X.env) :: starEach [] X.env := by rfl) :
    PE X (.Call (.Name "all" p) [.GeneratorExp elt [⟨tg, iter, ifs, 0⟩] scope gpos] [] pos) (tAll P wi g tt te (own.map (·.2))) := by
  refine ⟨fun pins s σ H Q I h => ?_⟩
  have caught : ∀ n ∈ scope.names, n.2 = .free → ∃ c, X.env.cells.lookup n.1 = some c := fun n hn hf => I.ok.has _ ((ok.free n hn hf).elim .inl .inr)
  refine wpAny_Call_Name_kw (ld_blt I hgl hm hb ?_)
  refine PyProof.Rows.callWith_builtin1 ?_ hst (by rfl)
  rw [hst]
  show wpAny _ _ (spliced ((false, eval (.GeneratorExp elt [⟨tg, iter, ifs, 0⟩] scope gpos) X.env) :: backTo pos (starEach [] X.env))) _ _ s
  refine Calls.spliced_cons ?_
  refine wpAny_GeneratorExp_make hco (closure_ok caught) nc h0 ok.kind hr.depth ?_ hs
  refine thn (hi.run pins s σ H _ I h) fun xv s1 hx => thn hx fun itv s2 h2 => ?_
  obtain ⟨it, fp, tn, J, H2, e, I2, T, st2, f2, ⟨ps, hP, ht2⟩, q⟩ := h2
  subst e
  refine ⟨I2.nolimit, ?_⟩
  have hPs : s2.heap.get? P = some { cls := .none, data := .fields ps } := I2.hok P _ hP
  have cd : PySem.W.CodeHd s2.heap c P := TB.code.keeps fun b u e => I2.bk b u e
  have nfP : ∀ b ∈ fp, b ≠ P := fun b hb z => by
    have := (f2 b hb).1
    rw [z, hP] at this
    cases this
  -- behind the code object
  have cont : ∀ (code : Value) (h3 : Heap) (tk : Nat) (ps' : Array Value), Heap.ExtBut P s2.heap h3 → s2.heap.objs.size ≤ h3.objs.size → h3.get? P = some { cls := .none, data := .fields ps' } → (∃ more, ps' = ps ++ more) → TriplesOk ps'.toList →
      wpAny (model X.prog X.w) X.A (builtinsFor X.env.globals X.env.builtins) (fun bi s₄ => ∀ h', h'.Ns s₄.heap.objs.size (fun y => if y = ".0" then some (.ref it) else none) → Heap.SameBut s₄.heap.objs.size (s₄.heap.push { cls := .type "frame", data := .dict #[] }) h' →
          wpAny (model X.prog X.w) X.A (spliced (backTo pos (starEach [] X.env))) (fun vs s6 => wpAny (model X.prog X.w) X.A (call (.builtin "all") (.ref h'.objs.size :: vs)) (EP X pins σ Q) X.xe s6) X.xe { s₄ with
            gens := s₄.gens.push (.fresh (.compStart (.GeneratorExp elt [⟨tg, iter, ifs, 0⟩] scope gpos) 0 (.ref it) .none (genEnv scope (cloFrom X.env.cells scope.names []) s₄.heap.objs.size code bi X.env))),
            toks := s₄.toks + 1 + 1 + 1,
            heap := h'.push { cls := .type "generator", data := .fields #[.int s₄.gens.size 0, .str "<genexpr>" (s₄.toks + 1), .str (X.env.qual ++ "<genexpr>") (s₄.toks + 1 + 1)] } }) X.xe { s2 with heap := h3, toks := tk } := by
    intro code h3 tk ps' hx hsz hP3 ⟨more, em⟩ ht3
    obtain ⟨bmod, bobj, i1, i2, i3, i4, i5, i6, i7, i8⟩ := TB.bm
    have keep3 : ∀ b u, b ≠ P → s2.heap.get? b = some u → h3.get? b = some u := fun b u hb e => hx b u hb e
    refine wpAny_builtinsFor (m := X.mg) (by rw [I2.ok.glob]; exact (I2.mod.glob.keeps I2.bk).extBut hx TB.gP) i1 i2 (keep3 _ _ i4 (I2.bk _ _ i5)) i6 i7 i8 ?_
    intro h' hn' hs'
    -- the state ahead of the frame
    have I3 := GxR.inv_tab (more := more) (h' := h3) (g' := s2.gens) (d' := s2.drawn) (t' := tk) I2 hP (fun b u hb e => keep3 b u hb e) (by rw [← em]; exact hP3) I2.bare
    have hTab : GxR.Tabbed P H2 (upd H2 P (.tbl (ps ++ more))) := ⟨⟨ps ++ more, upd_same, by rw [← em]; exact ht3⟩, fun b hb => upd_ne hb⟩
    obtain ⟨W, ⟨m0, w0⟩, turn⟩ := q _ hTab
    generalize upd H2 P (.tbl (ps ++ more)) = H3 at I3 w0 hTab
    have st3 : tn 0 h3 := T.keep _ _ _ st2 fun b hb o e => keep3 b o (nfP b hb) e
    have f3 : ∀ b ∈ fp, FpOk X pins H3 b ∧ b < h3.objs.size := fun b hb => by
      obtain ⟨o, e, _⟩ := T.obj _ _ st3 b hb
      exact ⟨⟨by rw [hTab.2 b (nfP b hb)]; exact (f2 b hb).1, (f2 b hb).2⟩, Heap.lt_size e⟩
    generalize hs3 : ({ s2 with heap := h3, toks := tk } : Shared) = s3 at I3
    have es3 : h3 = s3.heap := by rw [← hs3]
    have hn'' : h'.Ns s3.heap.objs.size (fun y => if y = ".0" then some (.ref it) else none) := by rw [← es3]; exact hn'
    have hs'' : Heap.SameBut s3.heap.objs.size (s3.heap.push { cls := .type "frame", data := .dict #[] }) h' := by rw [← es3]; exact hs'
    rw [es3] at st3 f3
    show wpAny _ _ _ _ _ { s3 with
            gens := s3.gens.push (.fresh (.compStart (.GeneratorExp elt [⟨tg, iter, ifs, 0⟩] scope gpos) 0 (.ref it) .none (genEnv scope (cloFrom X.env.cells scope.names []) s3.heap.objs.size code builtinsNs X.env))),
            toks := s3.toks + 1 + 1 + 1,
            heap := h'.push { cls := .type "generator", data := .fields #[.int s3.gens.size 0, .str "<genexpr>" (s3.toks + 1), .str (X.env.qual ++ "<genexpr>") (s3.toks + 1 + 1)] } }
    have kp : ∀ b o, s3.heap.get? b = some o → h'.get? b = some o := fun b o e => hs''.extBut b o (Nat.ne_of_lt (Heap.lt_size e)) (Heap.get?_push_of_some _ e)
    have hsz' : h'.objs.size = s3.heap.objs.size + 1 := by rw [hs''.1, Heap.size_push]
    generalize hgo : ({ cls := .type "generator", data := .fields #[.int s3.gens.size 0, .str "<genexpr>" (s3.toks + 1), .str (X.env.qual ++ "<genexpr>") (s3.toks + 1 + 1)] } : Obj) = go
    have hgen0 : ∀ h : Heap, h.get? h'.objs.size = some go → h.IsGen h'.objs.size s3.gens.size := fun h e => ⟨go, _, _, e, by rw [← hgo], by rw [← hgo], by rw [← hgo]⟩
    have ngo : ∀ v, go.data ≠ .cell v := fun v z => by
      rw [← hgo] at z
      cases z
    have hpush : (h'.push go).get? h'.objs.size = some go := by
      rw [← hgo]
      exact Heap.get?_push_size _ rfl
    have kp2 : ∀ b o, s3.heap.get? b = some o → (h'.push go).get? b = some o := fun b o e => Heap.get?_push_of_some _ (kp b o e)
    have pg := hg s3 H3 s3.heap.objs.size (cloFrom X.env.cells scope.names []) code fp
    have pt := ht s3 H3 s3.heap.objs.size (cloFrom X.env.cells scope.names []) code fp
    have pe := he s3 H3 s3.heap.objs.size (cloFrom X.env.cells scope.names []) code fp
    have I4 := gen_start (code := code) (tk := s3.toks + 1 + 1 + 1) (h' := h'.push go) (G := s3.gens.push (.fresh (.compStart (.GeneratorExp elt [⟨tg, iter, ifs, 0⟩] scope gpos) 0 (.ref it) .none (genEnv scope (cloFrom X.env.cells scope.names []) s3.heap.objs.size code builtinsNs X.env)))) I3 ok nc hN f3 (hn''.push _) kp2 (AllBare.push I3.bare rfl)
    generalize hce : genEnv scope (cloFrom X.env.cells scope.names []) s3.heap.objs.size code builtinsNs X.env = ce at pg pt pe I4 ⊢
    have cL : ce.locals = s3.heap.objs.size := by subst hce; rfl
    have cS : ce.scope = scope := by subst hce; rfl
    have hgH : H3 h'.objs.size = none := I3.hok.fresh (by rw [hsz']; exact Nat.le_succ _)
    have nfs : h'.objs.size ∉ frs X.stack := fun z => by
      rcases List.mem_cons.mp (I3.stkSub _ z) with z | z
      · have := I3.lt
        rw [← z, hsz'] at this
        exact absurd (Nat.lt_of_succ_lt this) (Nat.lt_irrefl _)
      · exact I3.nofs (by rw [hsz']; exact Nat.le_succ _) z
    have I5 := I4.pins_of (pins' := [(h'.objs.size, go)]) fun p hp => by
      rw [List.mem_singleton.mp hp]
      refine ⟨hpush, hgH, ?_, nfs, ngo⟩
      show h'.objs.size ≠ ce.locals
      rw [cL, hsz']
      exact Nat.succ_ne_self _
    generalize hs5 : ({ s3 with heap := h'.push go, gens := s3.gens.push (.fresh (.compStart (.GeneratorExp elt [⟨tg, iter, ifs, 0⟩] scope gpos) 0 (.ref it) .none ce)), toks := s3.toks + 1 + 1 + 1 } : Shared) = s5 at I5
    have st5 : tn 0 s5.heap := T.keep _ _ _ st3 fun b _ o e => by rw [← hs5]; exact kp2 b o e
    have back : ∀ σ' H' s', Inv (gcx X s3 H3 ce fp) [(h'.objs.size, go)] σ' H' s' → Inv X pins σ H' s' := fun σ' H' s' I6 =>
      I3.call' (ch := fp) I6.os I6.base I6.hok I6.bare fun b hb => ⟨(f3 b hb).1.2.2.2.1, (f3 b hb).1.2.1, (f3 b hb).1.2.2.2.2.1, (f3 b hb).1.2.2.2.2.2⟩
    have hgen : ∀ σ' H' s', Inv (gcx X s3 H3 ce fp) [(h'.objs.size, go)] σ' H' s' → s'.heap.IsGen h'.objs.size s3.gens.size := fun σ' H' s' I6 =>
      hgen0 _ (I6.pin (h'.objs.size, go) (List.mem_append_right _ (List.mem_singleton.mpr rfl))).1
    have hgs : s5.gens[s3.gens.size]? = some (.fresh (.compStart (.GeneratorExp elt [⟨tg, iter, ifs, 0⟩] scope gpos) 0 (.ref it) .none ce)) := by
      rw [← hs5]
      exact Array.getElem?_push_size ..
    have seg : Seg (model X.prog X.w) X.A.in1.in1 (RG (gcx X s3 H3 ce fp) [(h'.objs.size, go)] fun H' => Q (.bl true) H') (YG (gcx X s3 H3 ce fp) [(h'.objs.size, go)] fun H' => Q (.bl false) H') (m0 + 1) (s5.setGen s3.gens.size .running)
        (.compStart (.GeneratorExp elt [⟨tg, iter, ifs, 0⟩] scope gpos) 0 (.ref it) .none ce) ((model X.prog X.w).den (.compStart (.GeneratorExp elt [⟨tg, iter, ifs, 0⟩] scope gpos) 0 (.ref it) .none ce)) [] (s5.setGen s3.gens.size .running) := by
      refine seg_start (i := 0) T st5 ?_
      exact seg_loop (Y := gcx X s3 H3 ce fp) (vs := own.map (·.2)) rfl rfl hc (by show ce.scope.isCoroutine = false; rw [cS]; exact hco) T pg pt pe (fun b hb => hb) rfl (fun p hp hb => by
          rw [List.mem_singleton.mp hp] at hb
          have := (f3 _ hb).2
          have z : h'.objs.size < s3.heap.objs.size := this
          rw [hsz'] at z
          omega) turn m0 (m0 + 1) 0 _ _ H3 (Nat.lt_succ_self _) (inv_gens I5 (allBare_setGen I5.bare rfl)) st5 (fun b hb => (f3 b hb).1.1) w0
    refine Calls.spliced_nil ?_
    refine call_function_tree F.kind_all F.plain_all F.entry_all (F.args_all1 _) ?_
    unfold Builtin.«all»
    refine wpAny_bind (m := oneArg "all" _) (wpAny_pure ?_)
    refine wpAny_bind (wpAny_pyIter_gen (hgen _ _ _ I5) ?_)
    refine wpAny_pure ⟨plainId_quiet F.plain_all_loop _, ?_⟩
    refine all_loop (Y := gcx X s3 H3 ce fp) (T := fun H' => Q (.bl true) H') (F := fun H' => Q (.bl false) H') hr.hd hr.depth hgen (fun σ' H' s' I6 hq => ?_) (fun σ' H' s' I6 hq => ?_) (m0 + 1) s5 (hgen _ _ _ I5) I5.nolimit ⟨_, hgs, rfl, seg⟩
    · exact ⟨.bl true, H', back _ _ _ I6, rfl, hq⟩
    · exact ⟨.bl false, H', back _ _ _ I6, rfl, hq⟩
  cases hf : codeAmong gpos ps.toList with
  | none =>
    refine wpAny_genexprCodeX hcode (cd.code hPs ht2) (cd.tab hPs) hf fun c' h' tk hx hge hlt hco' _ htab' _ => ?_
    have trip := hco'.choose_spec.choose_spec.choose_spec.choose_spec.choose_spec.choose_spec.choose_spec.choose_spec.choose_spec.choose_spec.2.2.2.2.2.2.2.2.2.1
    exact cont _ h' tk _ hx (Nat.le_trans hge (Nat.le_of_lt hlt)) htab'.2 ⟨#[_, _, _], rfl⟩ trip
  | some cv =>
    refine wpAny_genexprCode_hit hcode (cd.code hPs ht2) hf ?_
    exact cont cv s2.heap s2.toks ps (Heap.ExtBut.refl _ _) (Nat.le_refl _) hPs ⟨#[], by simp⟩ ht2
end
end GX

namespace GX
open PySem PySem.Spec PyProof.Rows L2 GenW
/-- all(..) over a walk -/
theorem all_it {J : It} {n : Nat} {G : Hp → Prop} {Y : Nat → Hp → V → Hp → Prop} (w : Walk J n G Y) {g : TG} {tt : TT} {te : TE} {vs : List Nat} {σw : L2.St} {H2 : Hp} {T F : Hp → Prop} (Pv : Nat → Hp → Prop) (h0 : Pv 0 H2) (hG : ∀ i H, i ≤ n → Pv i H → G H)
    (hs : ∀ i x H H', i < n → Pv i H → Y i H x H' → g x σw H' fun σ2 H2 => wipe σ2 vs = σw ∧ tt σ2 H2 fun b H3 => if b = true then te σ2 H3 fun y H4 => ∃ c : Bool, y = .bl c ∧ (c = true → Pv (i + 1) H4) ∧ (c = false → F H4) else Pv (i + 1) H3) (hd : ∀ H, Pv n H → T H) :
    ∃ W : Nat → Nat → Hp → Prop, (∃ m, W 0 m H2) ∧ AllTurn J g tt te vs σw W T F := by
  refine ⟨fun i left H => i + left = n ∧ Pv i H, ⟨n, Nat.zero_add n, h0⟩, fun i left H ⟨sum, pv⟩ => ?_⟩
  have good := hG i H (by omega) pv
  cases left with
  | zero =>
    have last : i = n := sum
    subst last
    exact .inl ⟨w.stops H good, hd H pv⟩
  | succ left =>
    have below : i < n := by omega
    exact .inr ⟨w.goes i H below good, Pv (i + 1), fun H' pv' => ⟨left, Nat.lt_succ_self _, by omega, pv'⟩, fun x H' y => hs i x H H' below pv (w.yields i H x H' below good y)⟩
/-! ### tables -/
def NT (o : HO) : Prop := ∀ q, o ≠ .tbl q
theorem nt_lst {xs : List V} : NT (.lst xs) := fun _ z => by cases z
theorem nt_tup {xs : List V} : NT (.tup xs) := fun _ z => by cases z
theorem nt_dK {xs : List (Key × V)} : NT (.dK xs) := fun _ z => by cases z
theorem nt_frz {o : Obj} {u : HO} : NT (.frz o u) := fun _ z => by cases z
def Tabs (Ps : List Addr) (H : Hp) : Prop := ∀ P ∈ Ps, GxR.TabG H P
/-- all is kept but the tables, which may have grown -/
structure SameN (Ps : List Addr) (H H' : Hp) : Prop where
  k : ∀ x y, NT y → H x = some y → H' x = some y
  q : ∀ x p, H x = some (.tbl p) → ∃ p', H' x = some (.tbl p')
  t : Tabs Ps H'
section
variable {Ps : List Addr} {H H' H1 H2 : Hp}
theorem SameN.refl (t : Tabs Ps H) : SameN Ps H H := ⟨fun _ _ _ e => e, fun _ p e => ⟨p, e⟩, t⟩
theorem SameN.trans (a : SameN Ps H H1) (b : SameN Ps H1 H2) : SameN Ps H H2 := ⟨fun x y n e => b.k x y n (a.k x y n e), fun x p e => let ⟨p', e'⟩ := a.q x p e; b.q x p' e', b.t⟩
theorem Tabs.same (t : Tabs Ps H) (s : Same H H') : Tabs Ps H' := fun P hP => let ⟨ps, e, h⟩ := t P hP; ⟨ps, s _ _ e, h⟩
theorem SameN.of (t : Tabs Ps H) (s : Same H H') : SameN Ps H H' := ⟨fun x y _ e => s x y e, fun x p e => ⟨p, s _ _ e⟩, t.same s⟩
theorem SameN.tab {P : Addr} (t : Tabs Ps H) (hP : P ∈ Ps) (s : GxR.Tabbed P H H') : SameN Ps H H' := by
  obtain ⟨ps, e0, _⟩ := t P hP
  refine ⟨fun x y n e => ?_, fun x p e => ?_, fun P' hP' => ?_⟩
  · rw [s.2 x fun z => by rw [z, e0] at e; exact n ps (Option.some.inj e).symm]
    exact e
  · by_cases z : x = P
    · obtain ⟨ps', e', _⟩ := s.1
      exact ⟨ps', by rw [z]; exact e'⟩
    · exact ⟨p, by rw [s.2 x z]; exact e⟩
  · by_cases z : P' = P
    · rw [z]
      exact s.1
    · obtain ⟨ps', e', h'⟩ := t P' hP'
      exact ⟨ps', by rw [s.2 P' z]; exact e', h'⟩
theorem SameN.free {p : Addr} (s : SameN Ps H H') (h : H' p = none) : H p = none := by
  cases e : H p with
  | none => rfl
  | some o =>
    by_cases z : ∃ q, o = .tbl q
    · obtain ⟨q, rfl⟩ := z
      obtain ⟨q', e'⟩ := s.q p q e
      rw [e'] at h
      cases h
    · rw [s.k p o (fun q y => z ⟨q, y⟩) e] at h
      cases h
theorem SameN.unlock {a : Addr} {u : HO} {o : Obj} (ha : H a = some u) (hu : NT u) (t : Tabs Ps H) (s : SameN Ps (upd H a (.frz o u)) H') : SameN Ps H (upd H' a u) := by
  have hP : ∀ P ∈ Ps, P ≠ a := fun P h z => by
    obtain ⟨ps, e, _⟩ := t P h
    rw [z, ha] at e
    exact hu ps (Option.some.inj e)
  refine ⟨fun x y n e => ?_, fun x p e => ?_, fun P h => ?_⟩
  · by_cases c : x = a
    · subst c
      rw [upd_same, ← ha]
      exact e
    · rw [upd_ne c]
      exact s.k _ _ n (by rw [upd_ne c]; exact e)
  · by_cases c : x = a
    · subst c
      rw [ha] at e
      exact absurd (Option.some.inj e) (hu p)
    · rw [upd_ne c]
      exact s.q _ _ (by rw [upd_ne c]; exact e)
  · obtain ⟨ps, e, h'⟩ := s.t P h
    exact ⟨ps, by rw [upd_ne (hP P h)]; exact e, h'⟩
theorem Tabs.lock {a : Addr} {u : HO} {o : Obj} (ha : H a = some u) (hu : NT u) (t : Tabs Ps H) : Tabs Ps (upd H a (.frz o u)) := fun P h => by
  obtain ⟨ps, e, h'⟩ := t P h
  refine ⟨ps, ?_, h'⟩
  rw [upd_ne fun z => by rw [z, ha] at e; exact hu ps (Option.some.inj e)]
  exact e
end
/-! ### a def whose code object is known -/
structure FunC (K : PySem.W.Frag) (x qual : Str) (st : Stmt) (f : Addr) (fd : FuncData) (c : Addr) : Prop where
  ex : ∃ (oc : Value) (od : Option Addr) (kV doc pm : Value) (an : Option Addr) (ct : Value) (osl : Array (Option Value)),
    fd = PySem.W.fnOf x qual (defArgs st) (defBody st) (defScope st) .none kV doc pm an (.ref c) ct ∧ K.lookup f = some ⟨oc, od, .func fd, osl⟩ ∧ PySem.W.codeIn K (.ref c) qual = true
  kp : PySem.W.keepIn K (.ref f) = true
section
variable {P : Program} {w : World} {K : PySem.W.Frag} {mg : Str → Option Value} {base : Heap}
theorem FunC.ok {x qual : Str} {st : Stmt} {f c : Addr} {fd : FuncData} {N ps : List Str} {k : Nat} {sp : Sp} (F : FunC K x qual st f fd c) (S : FnScope N ps (defScope st)) (len : ∀ vs H Q E, sp vs H Q E → vs.length = ps.length)
    (hbody : ∀ (A : Around) (outer : List Env) (s : Shared) (H : Hp) (vs : List V) (Q : VK) (E : XK), Room k (A.deeper (envOfC qual (defScope st) s.heap.objs.size f (.ref c))) → sp vs H Q E →
      ∃ t, PSs (cxOf CX0 P w K mg base N qual (defScope st) f (.ref c) A outer s H E).nox (defBody st) t ∧ t { nx := fun _ H' => Q .non H', rt := Q } (start N vs) H) : FnOk P w K mg base CX0 (k + 1) f fd ps sp := by
  obtain ⟨oc, od, kV, doc, pm, an, ct, osl, rfl, lk, hcd⟩ := F.ex
  exact fn_of lk hcd S len fun A outer s H vs Q E room said => (hbody A outer s H vs Q E room said).imp fun _ h => ⟨h.1.nox, h.2⟩
theorem FunC.fun {x qual : Str} {st : Stmt} {f c : Addr} {fd : FuncData} (F : FunC K x qual st f fd c) : Fun K x qual st f fd := by
  obtain ⟨oc, od, kV, doc, pm, an, ct, osl, e, lk, hcd⟩ := F.ex
  exact ⟨⟨oc, od, kV, doc, pm, an, _, ct, osl, e, lk, hcd⟩, F.kp⟩
end
/-! ### the end -/
/-- the table of the code object cd is not among what is written -/
def tabFree (K : PySem.W.Frag) (cd : Value) : Bool := match cd with
  | .ref c => (match K.lookup c with
      | some ⟨_, _, .fields vs, _⟩ => (match vs.toList.drop 11 with | .ref P :: _ => (K.lookup P).isNone | _ => false)
      | _ => false)
  | _ => false
/-- the def x's code object at c, its table at P, empty -/
def TabOf (K : PySem.W.Frag) (cd : Value) (h : Heap) (c P : Addr) : Prop := cd = .ref c ∧ h.get? P = some { cls := .none, data := .fields #[] } ∧ K.lookup P = none ∧ PySem.W.CodeHd h c P
def TabsTop (q : Program) (mg : Str → Option Value) (h : Heap) : Prop := ∀ d ∈ recsOf q, ∃ a o fd c P, mg d.name = some (.ref a) ∧ h.get? a = some o ∧ o.data = .func fd ∧ fd.code = .ref c ∧ h.IsCode c P #[] ∧ h.TableAt c P #[]
theorem tabOf {q : Program} {K : PySem.W.Frag} {mg : Str → Option Value} {h : Heap} {x : Str} {f : Addr} {params : Arguments} {body : List Stmt} {scope : Scope} {dV kV doc pm cd ct oc : Value} {an od : Option Addr} {osl : Array (Option Value)} {qual name : Str}
    (X : K.In h) (T : TabsTop q mg h) (hx : ((recsOf q).any fun e => e.name == x) = true) (hm : mg x = some (.ref f)) (lk : K.lookup f = some ⟨oc, od, .func (PySem.W.fnOf name qual params body scope dV kV doc pm an cd ct), osl⟩) (ht : tabFree K cd = true) :
    ∃ c P, TabOf K cd h c P := by
  obtain ⟨dL, hmem, hn1⟩ := List.any_eq_true.mp hx
  have hn2 : dL.name = x := beq_iff_eq.mp hn1
  obtain ⟨a', o', fd', c', P', h1, h2, h3, h4, h5, h6⟩ := T dL hmem
  rw [hn2, hm] at h1
  cases h1
  have g1 := X _ _ lk
  rw [g1] at h2
  cases h2
  have h3' : Data.func (PySem.W.fnOf name qual params body scope dV kV doc pm an cd ct) = .func fd' := h3
  cases h3'
  have h4' : cd = .ref c' := h4
  subst h4'
  refine ⟨c', P', rfl, h6.2, ?_, .of h5 h6⟩
  obtain ⟨⟨oc', vc, e1, _, e3, e4⟩, _⟩ := h6
  unfold tabFree at ht
  dsimp only at ht
  split at ht
  · rename_i vs sl hk
    have g2 := X _ _ hk
    rw [g2] at e1
    cases e1
    have e3' : Data.fields vs = .fields vc := e3
    cases e3'
    split at ht
    · rename_i P2 r hd
      have e5 : vc.toList[11]? = some (.ref P2) := by
        have : (vc.toList.drop 11)[0]? = some (.ref P2) := by rw [hd]; rfl
        rw [List.getElem?_drop] at this
        exact this
      rw [Array.getElem?_toList, e4] at e5
      cases e5
      exact Option.isNone_iff_eq_none.mp ht
    · cases ht
  · cases ht
theorem walk_ofTabs {l : PySem.W.OpenLaw} {n k : Nat} {q : Program} {loose : List Str} {XP : (Str → Option Value) → Heap → Prop} {YP : World → Heap → Prop} {d : DefRec} {K : Params → PySem.W.Frag} {CX : World → CXT} {x : Str}
    (most : l.most = some n) (small : n ≤ sizeLine) (plain : d.params.defaults = []) (room : Room k callerA) (hY : ∀ (w : World) (h : Heap), YP w h → (K w.params).In h)
    (F : ∀ (w : World) (mg : Str → Option Value) (fa : Addr) (h : Heap), (K w.params).In h → h.Ns mainGlobals mg → mg d.name = some (.ref fa) → TabsTop q mg h → LamX.LawAtS l w (K w.params) (CX w) k n x mg fa h)
    (calm : ∀ (w : World) (H : Hp) (s : Shared) (x : Value) (s' : Shared), CX w [] H s (fun _ _ _ => False) x s' → False) : PySem.W.WalkO q loose XP YP l.row.toRowW d [] (fun f vs => PySem.call f vs) := by
  refine Att.attach_callB most plain fun w _ s₁ mg _ fa _ _ _ _ a _ ns G Y _ _ _ hmg lstAt intsAt lenAt' bitsAt gensAt => ?_
  have KX := hY w _ Y
  obtain ⟨fd, cs, sp, hT, nT, C, hb, hsp, hF⟩ := F w mg fa _ KX G.T.g hmg G.T.tab
  exact LamX.law_callTs KX G.T.g G.T.b G.T.builtins G.T.nolimit gensAt hT nT C G.T.bmain lstAt intsAt (Nat.le_trans lenAt' small) room hF hb (fun H tabs sq => hsp H a ns lenAt' bitsAt tabs sq) fun H x s' => calm w H s₁ x s'
theorem tabB_of {base : Heap} {mg : Str → Option Value} {c P : Addr} (t : LamX.TabB base mg c P) : GxR.TabB base mg c P := ⟨t.code, t.bm, t.gP⟩
end GX

/-! rules of my own: zip of a list and a tuple, y = {k: v for ..}, != of lists of data and dicts -/
namespace RM
open PySem PySem.Spec PyProof.Rows L2
/-- a list at a and a tuple at b, walked together -/
def ItzM (K : PySem.W.Frag) (a b : Addr) (xs ys : List V) : It where
  go := fun i H => SqL K H a xs ∧ SqT K H b ys ∧ i < xs.length ∧ i < ys.length
  yld := fun i H v H' => ∃ T x y, v = .ref T ∧ H T = none ∧ H' = upd H T (.tup [x, y]) ∧ xs[i]? = some x ∧ ys[i]? = some y
  stop := fun i H => SqL K H a xs ∧ SqT K H b ys ∧ i ≤ xs.length ∧ i ≤ ys.length ∧ (i = xs.length ∨ i = ys.length)
theorem off_ne (n : Nat) {i j : Nat} (h : i ≠ j) : n + i ≠ n + j := by omega
theorem old_ne {n a : Nat} (h : a < n) (i : Nat) : n + i ≠ a := by omega
theorem sep_mix {a b : Addr} (n : Nat) (ha : Nat.lt a n) (hb : Nat.lt b n) : ZipSep2 (n + 4) (n + 2) (n + 3) n (n + 1) [n, a] [n + 1, b] where
  TIz := off_ne n (by decide)
  TOz := off_ne n (by decide)
  TITO := off_ne n (by decide)
  TIi1 := off_ne n (j := 0) (by decide)
  mem1 := List.mem_cons_self ..
  zf1 := fun z => (List.mem_cons.mp z).elim (off_ne n (j := 0) (by decide)) fun z => old_ne ha 4 (List.mem_singleton.mp z)
  Tf1 := fun z => (List.mem_cons.mp z).elim (off_ne n (j := 0) (by decide)) fun z => old_ne ha 3 (List.mem_singleton.mp z)
  TIi2 := off_ne n (by decide)
  mem2 := List.mem_cons_self ..
  zf2 := fun z => (List.mem_cons.mp z).elim (off_ne n (by decide)) fun z => old_ne hb 4 (List.mem_singleton.mp z)
  Tf2 := fun z => (List.mem_cons.mp z).elim (off_ne n (by decide)) fun z => old_ne hb 3 (List.mem_singleton.mp z)
  sep1_2 := fun z => (List.mem_cons.mp z).elim (off_ne n (i := 0) (by decide)) fun z => old_ne hb 0 (List.mem_singleton.mp z)
  sep2_1 := fun z => (List.mem_cons.mp z).elim (off_ne n (j := 0) (by decide)) fun z => old_ne ha 1 (List.mem_singleton.mp z)
theorem turn_zipM {P : Program} {w : World} {K : PySem.W.Frag} {elts : List Expr} {kk : Nat} {tpos : Pos} {a b z TI TO i1 i2 : Addr} {xs ys : List V} (S : ZipSep2 z TI TO i1 i2 [i1, a] [i2, b]) (na : a ≠ i1) (nb : b ≠ i2) :
    Turn P w K (.Tuple elts kk tpos) (ItzM K a b xs ys) [z, TI, TO, i1, i2] z (fun i h => IsZip h z TI TO .none ∧ IsTupOf2 h TI (.ref i1) (.ref i2) ∧ (∃ x y, IsTupOf2 h TO x y) ∧ h.IsListIter i1 a i ∧ h.IsTupleIter i2 b i) where
  mem := List.mem_cons_self ..
  obj := fun i h st c hc => by
    obtain ⟨sz, sI, ⟨x, y, sO⟩, ⟨o1, e1, _, d1⟩, o2, e2, _, d2⟩ := st
    have five : c = z ∨ c = TI ∨ c = TO ∨ c = i1 ∨ c = i2 := by simpa using hc
    rcases five with rfl | rfl | rfl | rfl | rfl
    · exact ⟨_, sz, fun _ no => nomatch no⟩
    · exact ⟨_, sI, fun _ no => nomatch no⟩
    · exact ⟨_, sO, fun _ no => nomatch no⟩
    · exact ⟨o1, e1, fun _ no => by rw [d1] at no; cases no⟩
    · exact ⟨o2, e2, fun _ no => by rw [d2] at no; cases no⟩
  keep := fun i h h' ⟨sz, sI, ⟨x, y, sO⟩, s1, s2⟩ up =>
    ⟨up z (by simp) _ sz, up TI (by simp) _ sI, ⟨x, y, up TO (by simp) _ sO⟩, s1.at fun o q => up i1 (by simp) o q, s2.at fun o q => up i2 (by simp) o q⟩
  item := by
    intro X eP ew eK calm i pins s σ H E J foot st go
    subst eP ew eK
    obtain ⟨sz, sI, ⟨x0, y0, sO⟩, s1, s2⟩ := st
    obtain ⟨qx, qy, lx, ly⟩ := go
    obtain ⟨us, rx, px, _⟩ := J.list qx
    obtain ⟨vs, ry, py, _⟩ := J.tuple qy
    have hh : X.A.in1.handled = none := J.ok.hd calm
    have lu : i < us.toArray.size := by rw [List.size_toArray, ← rx.length]; exact lx
    have lv : i < vs.toArray.size := by rw [List.size_toArray, ← ry.length]; exact ly
    have zlt : z < s.heap.objs.size := Heap.lt_size sz
    refine wpAny_pyNext_zipD2_item S (Draws.list hh i1 a na us.toArray) (Draws.tuple hh i2 b nb vs.toArray) sz sI sO ⟨s1, px.isList⟩ ⟨s2, py⟩ lu lv fun u v h' tk hu hv zz oo t1 t2 pr _ same => ?_
    refine ⟨_, rfl, wpAny_letOwnedTupleGo_zip (s := { s with heap := h', toks := tk }) zz fun h2 z2 sb => ?_⟩
    have gx : xs[i]? = some xs[i] := List.getElem?_eq_getElem lx
    have gy : ys[i]? = some ys[i] := List.getElem?_eq_getElem ly
    obtain ⟨u', hu', ru⟩ := rx.get gx
    obtain ⟨v', hv', rv⟩ := ry.get gy
    have hu2 : us[i]? = some u := by simpa using hu
    have hv2 : vs[i]? = some v := by simpa using hv
    rw [hu2] at hu'
    rw [hv2] at hv'
    cases hu'
    cases hv'
    have pr2 : h2.get? s.heap.objs.size = some { cls := .type "tuple", data := .seq #[u, v] } := (sb.2 _ (Nat.ne_of_gt zlt)).trans pr
    have fits : ObjOk X.prog X.w (upd H s.heap.objs.size (.tup [xs[i], ys[i]])) h2 s.heap.objs.size (.tup [xs[i], ys[i]]) :=
      ⟨(by show 2 ≤ sizeLine; decide), [u, v], .cons ru (.cons rv .nil), _, pr2, rfl, _, rfl⟩
    have J2 : Inv X pins σ (upd H s.heap.objs.size (.tup [xs[i], ys[i]])) { s with heap := h2, toks := tk } :=
      J.turnedNew (t' := tk) (ch := [z, TI, TO, i1, i2]) (fun c o out q => (sb.2 c fun e => out (by simp [e])).trans (same c o (fun e => out (by simp [e])) (fun e => out (by simp [e])) (fun e => out (by simp [e])) (fun e => out (by simp [e])) q)) foot (Nat.le_refl _) fits
    refine ⟨.ref s.heap.objs.size, _, J2, rfl, ⟨_, xs[i], ys[i], rfl, J.hok.fresh (Nat.le_refl _), rfl, gx, gy⟩, ⟨z2, ?_, ⟨u, v, ?_⟩, ?_, ?_⟩, fun c hc => ?_⟩
    · exact (sb.2 _ S.TIz).trans (same _ _ S.TIz S.TITO S.TIi1 S.TIi2 sI)
    · exact (sb.2 _ S.TOz).trans oo
    · exact t1.1.at fun o q => (sb.2 _ S.zi1.symm).trans q
    · exact t2.1.at fun o q => (sb.2 _ S.zi2.symm).trans q
    · have five : c = z ∨ c = TI ∨ c = TO ∨ c = i1 ∨ c = i2 := by simpa using hc
      have clt : c < s.heap.objs.size := by
        rcases five with rfl | rfl | rfl | rfl | rfl
        · exact zlt
        · exact Heap.lt_size sI
        · exact Heap.lt_size sO
        · exact Heap.lt_size s1.choose_spec.1
        · exact Heap.lt_size s2.choose_spec.1
      rw [upd_ne (Nat.ne_of_lt clt)]
      exact (foot c hc).1
  done := by
    intro X eP ew eK calm i pins s σ H E J foot st stop
    subst eP ew eK
    obtain ⟨sz, sI, ⟨x0, y0, sO⟩, s1, s2⟩ := st
    obtain ⟨qx, qy, lx, ly, fin⟩ := stop
    obtain ⟨us, rx, px, _⟩ := J.list qx
    obtain ⟨vs, ry, py, _⟩ := J.tuple qy
    have hh : X.A.in1.handled = none := J.ok.hd calm
    have nu : us.toArray.size = xs.length := by rw [List.size_toArray, ← rx.length]
    have nv : vs.toArray.size = ys.length := by rw [List.size_toArray, ← ry.length]
    refine wpAny_pyNext_zipD2_end S (Draws.list hh i1 a na us.toArray) (Draws.tuple hh i2 b nb vs.toArray) sz sI sO ⟨s1, px.isList⟩ ⟨s2, py⟩ (by rw [nu]; exact lx) (by rw [nv]; exact ly) (by rw [nu, nv]; exact fin) fun h' tk same => ?_
    exact ⟨rfl, J.turnedL (t' := tk) (ch := [z, TI, TO, i1, i2]) (fun c o out q => same c o (fun e => out (by simp [e])) (fun e => out (by simp [e])) (fun e => out (by simp [e])) (fun e => out (by simp [e])) q) foot⟩
  self := fun _ _ _ _ _ st q => wpAny_pyIter_zip st.1 q
def iZipM (K : PySem.W.Frag) (ta : TA) : TI := fun σ H R => ta σ H fun vs H1 => ∃ a b xs ys, vs = [.ref a, .ref b] ∧ SqL K H1 a xs ∧ SqT K H1 b ys ∧ R (ItzM K a b xs ys) H1
theorem pi_zipM {X : Cx} {e e2 : Expr} {ta : TA} {p pos tpos : Pos} {elts : List Expr} {kk : Nat} (glo : Gl X "zip") (own : X.mg "zip" = none) (args : PA X [e, e2] ta)
    (st1 : starEach [e, e2] X.env = (false, eval e X.env) :: starEach [e2] X.env := by rfl) (st2 : (backTo pos (starEach [e2] X.env)).any (·.1) = false := by rfl) :
    PI X (.Tuple elts kk tpos) (.Call (.Name "zip" p) [e, e2] [] pos) (iZipM X.K ta) := by
  refine ⟨fun pins s σ H R J h => Call_ (ld_blt J glo own PyProof.Rows.boot_zip (PyProof.Rows.callWith_type1 (thn (args.run pos pins s σ H _ J h) fun us s1 ⟨vs, H1, J1, r1, a, b, xs, ys, ev, qx, qy, q⟩ => ?_) st1 st2))⟩
  subst ev
  cases r1 with
  | cons ra rest =>
    cases rest with
    | cons rb none' =>
      cases none'
      cases ra
      cases rb
      obtain ⟨its, _, px, _⟩ := J1.list qx
      obtain ⟨its2, _, py, _⟩ := J1.tuple qy
      have la : a < s1.heap.objs.size := px.lt
      have lb : b < s1.heap.objs.size := Heap.lt_size py.choose_spec.1
      refine zip_begins2 (begins_list a its.toArray) (begins_tuple b its2.toArray) px.isList py fun h' zz tI tO o1 o2 _ up => wpAny_pyIter_zip zz ?_
      have J2 : Inv X pins σ H1 { s1 with heap := h' } := J1.kept (t' := s1.toks) up
      refine ⟨s1.heap.objs.size + 4, [s1.heap.objs.size + 4, s1.heap.objs.size + 2, s1.heap.objs.size + 3, s1.heap.objs.size, s1.heap.objs.size + 1], _, _, H1, rfl, J2, turn_zipM (sep_mix _ la lb) (Nat.ne_of_lt la) (Nat.ne_of_lt (Nat.lt_succ_of_lt lb)), ⟨zz, tI, ⟨_, _, tO⟩, ⟨_, o1, rfl, rfl⟩, _, o2, rfl, rfl⟩, fun c hc => ?_, q⟩
      have old : s1.heap.objs.size ≤ c := by
        have five : c = s1.heap.objs.size + 4 ∨ c = s1.heap.objs.size + 2 ∨ c = s1.heap.objs.size + 3 ∨ c = s1.heap.objs.size ∨ c = s1.heap.objs.size + 1 := by simpa using hc
        rcases five with rfl | rfl | rfl | rfl | rfl
        · exact Nat.le_add_right _ 4
        · exact Nat.le_add_right _ 2
        · exact Nat.le_add_right _ 3
        · exact Nat.le_refl _
        · exact Nat.le_add_right _ 1
      exact J1.fpOk old (J1.hok.fresh old)
/-- both of one length -/
theorem walk_zipM {K : PySem.W.Frag} {a b : Addr} {xs ys : List V} (hl : xs.length = ys.length) : Walk (ItzM K a b xs ys) xs.length (fun H => SqL K H a xs ∧ SqT K H b ys) (YPair (fun i => xs[i]?) (fun i => ys[i]?)) :=
  ⟨fun i H hi q => ⟨q.1, q.2, hi, by omega⟩, fun H q => ⟨q.1, q.2, Nat.le_refl _, by omega, .inl rfl⟩, fun _ _ _ _ _ _ y => y⟩
section
variable {X : Cx}
/-- y = {k: v for ..}, y a local -/
theorem ps_setDc {i : Nat} {y : Str} {py : Pos} {kx vx tg iter : Expr} {ifs : List Expr} {scope : Scope} {own : List (Str × Nat)} {pos spos : Pos} {wi : TI} {g : TG} {tt : TT} {tk tv : TE} (calm : X.calm = true) (nd : X.N.Nodup) (slot : X.N[i]? = some y) (here : X.env.scope.names.lookup y = some .local)
    (sw : swapsWith (.DictComp kx vx [⟨tg, iter, ifs, 0⟩] scope pos) (some (.Name y py)) spos.line X.env = pure true) (hi : PI X tg iter wi) (blk : BlkOk X.N X.env.scope scope own)
    (hg : ∀ (s : Shared) (H : Hp) (C : Addr) (cl : List (PySem.Str × Addr)) (fp : List Addr), PG (X.blk s H scope (compEnvC scope cl C X.env) fp) tg g) (ht : ∀ (s : Shared) (H : Hp) (C : Addr) (cl : List (PySem.Str × Addr)) (fp : List Addr), PTs (X.blk s H scope (compEnvC scope cl C X.env) fp) ifs tt)
    (hk : ∀ (s : Shared) (H : Hp) (C : Addr) (cl : List (PySem.Str × Addr)) (fp : List Addr), PE (X.blk s H scope (compEnvC scope cl C X.env) fp) kx tk)
    (hv : ∀ (s : Shared) (H : Hp) (C : Addr) (cl : List (PySem.Str × Addr)) (fp : List Addr), PE (X.blk s H scope (compEnvC scope cl C X.env) fp) vx tv) (fold : ∀ x, foldedSetIterable iter X.env x = pure x := by intro _; rfl) :
    PS X (.Assign [.Name y py] (.DictComp kx vx [⟨tg, iter, ifs, 0⟩] scope pos) spos) (tAsg (tDc wi g tt tk tv (own.map (·.2))) (gName i)) := by
  refine ⟨fun pins s σ H D J h => ?_⟩
  rw [exec_Assign_Name_used _ _ _ _ sw]
  refine wpAny_bind (wpAny_standAt (wpAny_bind ?_))
  have want : tDc wi g tt tk tv (own.map (·.2)) σ H (fun x H1 => gName i x σ H1 D.nx) := h
  show wpAny _ X.A (do let _ ← comprehension (.DictComp kx vx [⟨tg, iter, ifs, 0⟩] scope pos) scope X.env (firstIterPos [⟨tg, iter, ifs, 0⟩] pos) newDict false (eval iter X.env) (some (assign (.Name y py) X.env))) _ _ s
  refine wpAny_bind (thn (dc_core (Qf := fun _ s' => SP X pins D .next s') calm nd J hi blk hg ht hk hv fold want fun L C s' m H' J' q ns fp => ?_) fun _ s' hq => wpAny_pure (wpAny_pure hq))
  obtain ⟨f0, f1, _, f3, f4, f5⟩ := fp
  show wpAny _ _ (assign (.Name y py) X.env (.ref L)) _ _ _
  refine wpAny_assign_Name (store_ok2 (v := V.ref L) J' nd slot (.inl here) rfl (fun s2 J2 ⟨a, sb, ha⟩ => ?_) (.inr here))
  have apart : C ≠ a := ha.elim (fun z => by rw [z]; exact f1) fun z e => f4 y a z e.symm
  exact ⟨m, ns.sameBut sb apart, fun h3 sb3 => ⟨_, H', J2.turned (t' := s2.toks) (fun b o hb e => (sb3.2 b hb).trans e) f0 f1 f3 f4 f5, q⟩⟩
theorem sw_dict {kx vx : Expr} {gs : List Comprehension} {scope : Scope} {pos py : Pos} {y : Str} {l : Nat} {env : Env} (fn : env.scope.kind = .function) (here : env.scope.names.lookup y = some .local) (line : (py.line == pos.line) = true)
    (off : (scope.names.any fun (n, k) => n == y && (k == .local || k == .cell)) = false) : swapsWith (.DictComp kx vx gs scope pos) (some (.Name y py)) l env = pure true := by
  have k1 : env.kindOf y = some .local := here
  have k2 : env.blockKind = .function := by unfold Env.blockKind; rw [fn]; rfl
  unfold swapsWith
  simp only [k2, k1, off, Expr.pos, line]
  rfl
/-- such a comprehension over a walk -/
theorem dc_it {J : It} {n : Nat} {G : Hp → Prop} {Y : Nat → Hp → V → Hp → Prop} (wk : Walk J n G Y) {g : TG} {tt : TT} {tk tv : TE} {vs : List Nat} {σ : L2.St} {H1 : Hp} {D : Addr} {Qd : Hp → Prop} (Pv : Nat → Hp → Prop) (h0 : Pv 0 (upd H1 D (.dK []))) (hG : ∀ i H, i ≤ n → Pv i H → G H)
    (hs : ∀ i x H H', i < n → Pv i H → Y i H x H' → g x (wipe σ vs) H' fun σ2 H2 => wipe σ2 vs = wipe σ vs ∧ tt σ2 H2 fun b H3 =>
      if b = true then tk σ2 H3 fun y H4 => tv σ2 H4 fun z H5 => ∃ kvs k, y = kV k ∧ H5 D = some (.dK kvs) ∧ kvs.length < sizeLine ∧ Pv (i + 1) (upd H5 D (.dK (putK kvs k z))) else Pv (i + 1) H3) (hd : ∀ H, Pv n H → Qd H) :
    ∃ W : Nat → Nat → Hp → Prop, (∃ m, W 0 m (upd H1 D (.dK []))) ∧ ∀ i m H, W i m H →
      (J.stop i H ∧ Qd H) ∨ (J.go i H ∧ ∃ Nx : Hp → Prop, (∀ H', Nx H' → ∃ m', m' < m ∧ W (i + 1) m' H') ∧ ∀ x H', J.yld i H x H' → g x (wipe σ vs) H' fun σ2 H2 => wipe σ2 vs = wipe σ vs ∧ tt σ2 H2 fun b H3 =>
        if b = true then tk σ2 H3 fun y H4 => tv σ2 H4 fun z H5 => ∃ kvs k, y = kV k ∧ H5 D = some (.dK kvs) ∧ kvs.length < sizeLine ∧ Nx (upd H5 D (.dK (putK kvs k z))) else Nx H3) := by
  refine ⟨fun i left H => i + left = n ∧ Pv i H, ⟨n, Nat.zero_add n, h0⟩, fun i left H ⟨sum, pv⟩ => ?_⟩
  have good := hG i H (by omega) pv
  cases left with
  | zero =>
    have last : i = n := sum
    subst last
    exact .inl ⟨wk.stops H good, hd H pv⟩
  | succ left =>
    have below : i < n := by omega
    exact .inr ⟨wk.goes i H below good, Pv (i + 1), fun H' pv' => ⟨left, Nat.lt_succ_self _, by omega, pv'⟩, fun x H' y => hs i x H H' below pv (wk.yields i H x H' below good y)⟩
/-! lists of data and of dicts -/
/-- one and the same data, or equal by EqV -/
def EqW (K : PySem.W.Frag) (H : Hp) (n : Nat) (x y : V) : Prop := (∃ d, Dp K H x d ∧ Dp K H y d ∧ d.canLay0 = true ∧ d.depth ≤ 60) ∨ EqV K H n x y
theorem eqW_run {pins : List (Addr × Obj)} {σ : L2.St} {H : Hp} {s : Shared} (J : Inv X pins σ H s) (n : Nat) (A : Around) (hn : n ≤ 60) (hu : A.units + 60 < cLine) (x y : V) (v u : Value) (h : EqW X.K H n x y) (rx : RelV x v) (ry : RelV y u) : SeqAt.EqP X.prog X.w A s v u true := by
  rcases h with ⟨d, dx, dy, can, dep⟩ | h
  · obtain ⟨as, ra⟩ := Dp.reads J d x v dx rx
    obtain ⟨bs, rb⟩ := Dp.reads J d y u dy ry
    have e := SeqAt.eqAt_reads d d A s v u as bs ra rb can can (by rw [Nat.min_self]; omega)
    rw [SeqAt.eqv_refl d can] at e
    exact e.eqP
  · exact eqV_run J n A (by omega) x y v u h rx ry
def rNeW (K : PySem.W.Frag) : R2 := fun x y H Q => ∃ a b xs ys n, x = .ref a ∧ y = .ref b ∧ SqL K H a xs ∧ SqL K H b ys ∧ n ≤ 60 ∧ Paired (EqW K H n) xs ys ∧ Q (.bl false) H
theorem op_neW (hu : X.A.units + 64 < cLine) : OpR X (compareOp .NotEq) (rNeW X.K) := by
  intro pins s σ H x y v u Q J rx ry h
  obtain ⟨a, b, xs, ys, n, rfl, rfl, ha, hb, hn, hp, q⟩ := h
  cases (show v = Value.ref a from rx)
  cases (show u = Value.ref b from ry)
  obtain ⟨us, r1, p1, _⟩ := J.list ha
  obtain ⟨ws, r2, p2, _⟩ := J.list hb
  have size : us.toArray.size = ws.toArray.size := by
    rw [List.size_toArray, List.size_toArray, ← r1.length, ← r2.length]
    exact Paired.length hp
  refine SeqAt.my_rcNe p1.isList p2.isList size (by omega) (fun j h1 h2 => ?_) _ _ ⟨.bl false, H, J, rfl, q⟩
  have k := items_run (eqW_run J n X.A.in1 (by omega) (by show X.A.units + 1 + 60 < cLine; omega)) hp r1 r2 j (by simpa using h1) (by simpa using h2)
  simpa using k
end
end RM

namespace RM
open PySem PySem.Spec PyProof.Rows L2
/-- the second clause's loop -/
def In2 (J1 : It) (g1 : TG) (tt1 : TT) (te : TE) (vs1 : List Nat) (D : Addr) (σ2 : L2.St) (H4 : Hp) (Nx : Hp → Prop) : Prop :=
  ∃ W1 : Nat → Nat → Hp → Prop, (∃ m, W1 0 m H4) ∧ ∀ j k H, W1 j k H →
      (J1.stop j H ∧ Nx H) ∨ (J1.go j H ∧ ∃ Nx1 : Hp → Prop, (∀ H', Nx1 H' → ∃ k', k' < k ∧ W1 (j + 1) k' H') ∧ ∀ x H', J1.yld j H x H' → g1 x (wipe σ2 vs1) H' fun σ3 H5 => wipe σ3 vs1 = wipe σ2 vs1 ∧ tt1 σ3 H5 fun b H6 =>
        if b = true then te σ3 H6 fun y H7 => ∃ acc, H7 D = some (.lst acc) ∧ acc.length < sizeLine ∧ Nx1 (upd H7 D (.lst (acc ++ [y]))) else Nx1 H6)
theorem in2_it {J : It} {n : Nat} {G : Hp → Prop} {Y : Nat → Hp → V → Hp → Prop} (wk : Walk J n G Y) {g : TG} {tt : TT} {te : TE} {vs : List Nat} {σ : L2.St} {H1 : Hp} {D : Addr} {Nx : Hp → Prop} (Pv : Nat → Hp → Prop) (h0 : Pv 0 H1) (hG : ∀ i H, i ≤ n → Pv i H → G H)
    (hs : ∀ i x H H', i < n → Pv i H → Y i H x H' → g x (wipe σ vs) H' fun σ2 H2 => wipe σ2 vs = wipe σ vs ∧ tt σ2 H2 fun b H3 =>
      if b = true then te σ2 H3 fun y H4 => ∃ acc, H4 D = some (.lst acc) ∧ acc.length < sizeLine ∧ Pv (i + 1) (upd H4 D (.lst (acc ++ [y]))) else Pv (i + 1) H3) (hd : ∀ H, Pv n H → Nx H) : In2 J g tt te vs D σ H1 Nx := by
  refine ⟨fun i left H => i + left = n ∧ Pv i H, ⟨n, Nat.zero_add n, h0⟩, fun i left H ⟨sum, pv⟩ => ?_⟩
  have good := hG i H (by omega) pv
  cases left with
  | zero =>
    have last : i = n := sum
    subst last
    exact .inl ⟨wk.stops H good, hd H pv⟩
  | succ left =>
    have below : i < n := by omega
    exact .inr ⟨wk.goes i H below good, Pv (i + 1), fun H' pv' => ⟨left, Nat.lt_succ_self _, by omega, pv'⟩, fun x H' y => hs i x H H' below pv (wk.yields i H x H' below good y)⟩
theorem lc2_it {J : It} {n : Nat} {G : Hp → Prop} {Y : Nat → Hp → V → Hp → Prop} (wk : Walk J n G Y) {g g1 : TG} {tt tt1 : TT} {wi1 : TI} {te : TE} {vs vs1 : List Nat} {σ : L2.St} {H1 : Hp} {D : Addr} {Qd : Hp → Prop} (Pv : Nat → Hp → Prop) (h0 : Pv 0 (upd H1 D (.lst []))) (hG : ∀ i H, i ≤ n → Pv i H → G H)
    (hs : ∀ i x H H', i < n → Pv i H → Y i H x H' → g x (wipe σ vs) H' fun σ2 H2 => wipe σ2 vs = wipe σ vs ∧ tt σ2 H2 fun b H3 => if b = true then wi1 σ2 H3 fun J1 H4 => In2 J1 g1 tt1 te vs1 D σ2 H4 (Pv (i + 1)) else Pv (i + 1) H3) (hd : ∀ H, Pv n H → Qd H) :
    ∃ W : Nat → Nat → Hp → Prop, (∃ m, W 0 m (upd H1 D (.lst []))) ∧ ∀ i m H, W i m H →
      (J.stop i H ∧ Qd H) ∨ (J.go i H ∧ ∃ Nx : Hp → Prop, (∀ H', Nx H' → ∃ m', m' < m ∧ W (i + 1) m' H') ∧ ∀ x H', J.yld i H x H' → g x (wipe σ vs) H' fun σ2 H2 => wipe σ2 vs = wipe σ vs ∧ tt σ2 H2 fun b H3 => if b = true then wi1 σ2 H3 fun J1 H4 => In2 J1 g1 tt1 te vs1 D σ2 H4 Nx else Nx H3) := by
  refine ⟨fun i left H => i + left = n ∧ Pv i H, ⟨n, Nat.zero_add n, h0⟩, fun i left H ⟨sum, pv⟩ => ?_⟩
  have good := hG i H (by omega) pv
  cases left with
  | zero =>
    have last : i = n := sum
    subst last
    exact .inl ⟨wk.stops H good, hd H pv⟩
  | succ left =>
    have below : i < n := by omega
    exact .inr ⟨wk.goes i H below good, Pv (i + 1), fun H' pv' => ⟨left, Nat.lt_succ_self _, by omega, pv'⟩, fun x H' y => hs i x H H' below pv (wk.yields i H x H' below good y)⟩
end RM

namespace RM
open PySem PySem.Spec PyProof.Rows L2
section
variable {X : Cx}
/-- keys of the one, each with the same data in the other -/
def SameD (K : PySem.W.Frag) (H : Hp) (ks ls : List (Key × V)) : Prop := ∀ p ∈ ks, ∃ u d, valV ls p.1 = some u ∧ Dp K H p.2 d ∧ Dp K H u d ∧ d.canLay0 = true ∧ d.depth ≤ 60
theorem hits_data {pins : List (Addr × Obj)} {σ : L2.St} {H : Hp} {s : Shared} (J : Inv X pins σ H s) {A : Around} (hu : A.units + 60 < cLine) {ls : List (Key × V)} {vb : List (Key × Value)} (rb : KV ls vb) {ks : List (Key × V)} {va : List (Key × Value)} (ra : KV ks va) : SameD X.K H ks ls → PySem.W.KeqHits A s vb va true := by
  unfold KV at ra
  induction ra with
  | nil => exact fun _ => .nil
  | @cons p q ps qs h t ih =>
    intro hp
    obtain ⟨k1, k2⟩ := h
    obtain ⟨u, d, e, d1, d2, can, dep⟩ := hp p List.mem_cons_self
    have found : RelO (some u) (valueAt vb p.1) := by rw [← e]; exact rb.val p.1
    obtain ⟨y, hy, ry⟩ := found.some_of
    obtain ⟨key, v⟩ := q
    have k1' : p.1 = key := k1
    rw [k1'] at hy
    obtain ⟨as, r1⟩ := Dp.reads J d p.2 v d1 k2
    obtain ⟨bs, r2⟩ := Dp.reads J d u y d2 ry
    have eq := SeqAt.eqAt_reads d d A s v y as bs r1 r2 can can (by rw [Nat.min_self]; omega)
    rw [SeqAt.eqv_refl d can] at eq
    show PySem.W.KeqHits A s vb ((key, v) :: qs) (true && true)
    exact .hit hy eq (ih fun p' hm => hp p' (List.mem_cons_of_mem _ hm))
def rNeDD (K : PySem.W.Frag) : R2 := fun x y H Q => ((x = .non ∧ y = .non) ∨ ∃ a b ks ls, x = .ref a ∧ y = .ref b ∧ H a = some (.dK ks) ∧ H b = some (.dK ls) ∧ ks.length = ls.length ∧ SameD K H ks ls) ∧ Q (.bl false) H
theorem op_neDD (hu : X.A.units + 64 < cLine) : OpR X (compareOp .NotEq) (rNeDD X.K) := by
  intro pins s σ H x y v u Q J rx ry h
  obtain ⟨⟨rfl, rfl⟩ | ⟨a, b, ks, ls, rfl, rfl, ea, eb, hlen, hp⟩, q⟩ := h
  · exact op_ne pins s σ H .non .non v u Q J rx ry ⟨rfl, q⟩
  · obtain rfl : v = Value.ref a := rx
    obtain rfl : u = Value.ref b := ry
    obtain ⟨_, ya, va, ra, da⟩ := (show ObjOk X.prog X.w H s.heap a (.dK ks) from J.hok a _ ea)
    obtain ⟨_, yb, vb, rb, db⟩ := (show ObjOk X.prog X.w H s.heap b (.dK ls) from J.hok b _ eb)
    have size : va.length = vb.length := by rw [← ra.length, ← rb.length]; exact hlen
    refine PySem.W.keq_ne (knd := mixKind X.prog X.w) (r := true) ya yb da db (by omega) (fun _ => hits_data J (by show X.A.units + 1 + 60 < cLine; omega) rb ra hp) ?_
    refine ⟨.bl false, H, J, ?_, q⟩
    show Value.bool _ = Value.bool false
    rw [size]
    simp
theorem cr_sortedK {K : PySem.W.Frag} (e : X.K = K) : CallR X (.builtin "sorted") (rSortedS K) := by
  subst e
  exact cr_sortedS
theorem op_inDK {K : PySem.W.Frag} (e : X.K = K) (hu : X.A.units + 65 < cLine) : OpR X (compareOp .In) (rInD K) := by
  subst e
  exact op_inD hu
theorem op_catK {K : PySem.W.Frag} (e : X.K = K) {r : PySem.W.Frag → R2} {f : Value → Value → Sem Value} (h : OpR X f (r X.K)) : OpR X f (r K) := by
  subst e
  exact h
end
end RM

/-! a generator expression handed to whatever takes its items one by one: the taker's own state (a) is pinned (Pn), D tells what it does with an item -/
namespace GY
open PySem PySem.Spec PyProof.Rows L2 GenW GX
section
variable {Y : Cx} {α : Type}
def RGa (Y : Cx) (Pn : α → List (Addr × Obj) → Prop) (T : α → Hp → Prop) : GenEnd := fun n s₀ r s₁ => r = .ok .next ∧ ∃ a pn σ H, Pn a pn ∧ (∀ p ∈ pn, s₀.heap.get? p.1 = some p.2) ∧ Inv Y pn σ H s₁ ∧ T a H
def YGa (Y : Cx) (fp : List Addr) (Pn : α → List (Addr × Obj) → Prop) (D : α → V → Hp → (α → Prop) → Prop) : Protocol := fun n s₀ v s kap =>
  ∃ a pn y σ H, Pn a pn ∧ (∀ p ∈ pn, s₀.heap.get? p.1 = some p.2) ∧ RelV y v ∧ Inv Y pn σ H s ∧ D a y H fun a' => ∀ pn' s', Pn a' pn' → Inv Y pn' σ H s' → (∀ b ∈ fp, ∀ o, s.heap.get? b = some o → s'.heap.get? b = some o) → kap (.send .none) s'
/-- what a turn of the walk wants -/
def TurnG (J : It) (g : TG) (tt : TT) (te : TE) (vs : List Nat) (σw : L2.St) (W : Nat → Nat → α → Hp → Prop) (T : α → Hp → Prop) (D : α → V → Hp → (α → Prop) → Prop) : Prop :=
  ∀ i m a H, W i m a H → (J.stop i H ∧ T a H) ∨ (J.go i H ∧ ∃ Nx : α → Hp → Prop, (∀ a' H', Nx a' H' → ∃ m', m' < m ∧ W (i + 1) m' a' H') ∧ ∀ x H', J.yld i H x H' → g x σw H' fun σ2 H2 => wipe σ2 vs = σw ∧ tt σ2 H2 fun b H3 =>
    if b = true then te σ2 H3 fun y H4 => D a y H4 (fun a' => Nx a' H4) else Nx a H3)
theorem seg_loopA {A : Around} {elt tg iter : Expr} {ifs : List Expr} {scope : Scope} {pos : Pos} {it : Addr} {fp : List Addr} {tn : Nat → Heap → Prop} {J : It} {g : TG} {tt : TT} {te : TE} {vs : List Nat} {σw : L2.St} {Pn : α → List (Addr × Obj) → Prop} {W : Nat → Nat → α → Hp → Prop} {T : α → Hp → Prop} {D : α → V → Hp → (α → Prop) → Prop}
    (hov : A.over (.compLoop (.GeneratorExp elt [⟨tg, iter, ifs, 0⟩] scope pos) 0 (.ref it) .none Y.env) [] = Y.A) (hxe : Y.xe = fun _ _ => False) (hcalm : Y.calm = true) (hco : Y.env.scope.isCoroutine = false)
    (Tn : Turn Y.prog Y.w Y.K tg J fp it tn) (pg : PG Y tg g) (pt : PTs Y ifs tt) (pe : PE Y elt te) (hex : ∀ b ∈ fp, b ∈ Y.ex) (hpn : Y.pn = []) (hpins : ∀ a pn, Pn a pn → ∀ p ∈ pn, p.1 ∉ fp)
    (mono : ∀ a y H (k k' : α → Prop), (∀ a', k a' → k' a') → D a y H k → D a y H k') (turn : TurnG J g tt te vs σw W T D) :
    ∀ (m n i : Nat) (a : α) (pn : List (Addr × Obj)) (s₀ s : Shared) (H : Hp), m < n → Pn a pn → (∀ p ∈ pn, s₀.heap.get? p.1 = some p.2) → Inv Y pn σw H s → tn i s.heap → (∀ b ∈ fp, H b = none) → W i m a H →
      Seg (model Y.prog Y.w) A (RGa Y Pn T) (YGa Y fp Pn D) n s₀ (.compLoop (.GeneratorExp elt [⟨tg, iter, ifs, 0⟩] scope pos) 0 (.ref it) .none Y.env)
        ((model Y.prog Y.w).den (.compLoop (.GeneratorExp elt [⟨tg, iter, ifs, 0⟩] scope pos) 0 (.ref it) .none Y.env)) [] s := by
  have stat : ∀ {pn : List (Addr × Obj)} {σ' : L2.St} {H' : Hp} {s' : Shared}, (∀ p ∈ pn, p.1 ∉ fp) → Inv Y pn σ' H' s' → (∀ b ∈ fp, H' b = none) → ∀ b ∈ fp, FpOk Y pn H' b := fun {pn σ' H' s'} hpins I' hn b hb =>
    ⟨hn b hb, (I'.ok.exf b (hex b hb)).1, I'.ok.exfs b (hex b hb), .inl (hex b hb), fun x c e => (I'.ok.exf b (hex b hb)).2 x c e, fun p hp => by
      rw [hpn] at hp
      exact fun z => hpins p (by simpa using hp) (by rw [z]; exact hb)⟩
  intro m
  induction m using Nat.strongRecOn with
  | ind m ih =>
    intro n i a pn s₀ s H hmn hPn hs0 I st nfp w
    have hpo := hpins a pn hPn
    show Seg _ A _ _ _ s₀ _ ((compTurn (.GeneratorExp elt [⟨tg, iter, ifs, 0⟩] scope pos) 0 (.ref it) .none Y.env).onRaise (leaving Y.env)) [] s
    rw [compTurn_gen, Sem.onRaise_eq_wrap]
    refine seg_bind_wrap (wpAny_standAt ?_)
    rcases turn i m a H w with ⟨stop, qq⟩ | ⟨go, Nx, hNx, step⟩
    · refine seg_bind_wrap ?_
      rw [hov]
      refine thnF (Tn.done Y rfl rfl rfl hcalm i pn s _ H (fun _ _ => False) I (stat hpo I nfp) st stop) fun r s1 ⟨hr, I1⟩ => ?_
      subst hr
      exact seg_end (.ok .next) ⟨rfl, _, _, _, _, hPn, hs0, I1, qq⟩
    · refine seg_bind_wrap ?_
      rw [hov]
      refine thnF (Tn.item Y rfl rfl rfl hcalm i pn s _ H (fun _ _ => False) I (stat hpo I nfp) st go) fun r s1 ⟨u, hr, h1⟩ => ?_
      subst hr
      refine seg_bind_wrap ?_
      rw [hov]
      refine thnF h1 fun _ s2 ⟨x, H2, I2, r2, y2, st2, n2⟩ => ?_
      have I2' := I2.pinned (stat hpo I2 n2) (Tn.obj _ _ st2)
      have no : ∀ {e : Value} {s' : Shared} {C : Prop}, Y.xe e s' → C := fun {e s' C} h => by
        rw [hxe] at h
        exact h.elim
      refine seg_bind_wrap ?_
      rw [hov]
      refine wpAny_mono (pg.run _ s2 _ H2 x u _ I2' r2 (step x H2 y2)) (fun _ s3 h3 => ?_) fun _ _ e => no e
      obtain ⟨σ3, H3, I3, hw3, q3⟩ := h3
      refine seg_bind_wrap ?_
      rw [hov]
      refine wpAny_mono (pt.run _ s3 σ3 H3 _ I3 q3) (fun b s4 h4 => ?_) fun _ _ e => no e
      obtain ⟨H4, I4, q4⟩ := h4
      -- what stands of the walk at the turn's end
      have kept : ∀ {s' : Shared} {H' : Hp}, Inv Y (pn ++ pinsAt fp s2.heap) σ3 H' s' → (∀ b ∈ fp, ∀ o, s2.heap.get? b = some o → s'.heap.get? b = some o) ∧ (∀ b ∈ fp, H' b = none) := fun {s' H'} I' => by
        have pin' : ∀ b ∈ fp, ∀ o, s2.heap.get? b = some o → s'.heap.get? b = some o ∧ H' b = none := fun b hb o e =>
          (I'.pin (b, o) (List.mem_append_right _ (List.mem_append_right _ (mem_pinsAt hb e)))).imp id And.left
        refine ⟨fun b hb o e => (pin' b hb o e).1, fun b hb => ?_⟩
        obtain ⟨o, e, _⟩ := Tn.obj _ _ st2 b hb
        exact (pin' b hb o e).2
      have weak : ∀ {s' : Shared} {H' : Hp} {pn' : List (Addr × Obj)}, Inv Y pn' σ3 H' s' → Inv Y pn' σw H' s' := fun {s' H' pn'} I' => by
        have hl : σw.length = σ3.length := by rw [← hw3, wipe_length]
        refine I'.weak hl (fun j v e => ?_)
        rw [← hw3] at e
        exact (wipe_some e).1
      cases b with
      | false =>
        simp only [Bool.false_eq_true, if_false] at q4 ⊢
        obtain ⟨m', hm, w'⟩ := hNx a H4 q4
        obtain ⟨k1, k2⟩ := kept I4
        exact seg_again rfl (ih m' hm n (i + 1) a pn s₀ s4 H4 (by omega) hPn hs0 (weak (I4.unpinned (pins := pn))) (Tn.keep _ _ _ st2 k1) k2 w')
      | true =>
        simp only [if_true] at q4 ⊢
        have hy : ∀ v, yieldOut Y.env v = yieldValue v := fun v => by simp only [yieldOut, hco, Bool.false_eq_true, if_false]
        simp only [hy]
        rw [Sem.bind_eq_wrap', Sem.bind_eq_wrap', Sem.wrap_wrap, Sem.wrap_wrap]
        refine seg_wrap ?_
        rw [hov]
        refine wpAny_mono (pe.run _ s4 σ3 H4 _ I4 q4) (fun v s5 h5 => ?_) fun _ _ e => no e
        obtain ⟨yv, H5, I5, r5, q5⟩ := h5
        obtain ⟨n', rfl⟩ : ∃ n', n = n' + 1 := ⟨n - 1, by omega⟩
        obtain ⟨k1, k2⟩ := kept I5
        refine seg_at (seg_yield rfl rfl rfl ⟨a, pn, yv, σ3, H5, hPn, hs0, r5, I5.unpinned (pins := pn), mono _ _ _ _ _ (fun a' nx pn' s' hPn' I' kb => ?_) q5⟩)
        obtain ⟨m', hm, w'⟩ := hNx a' H5 nx
        exact seg_again rfl (ih m' hm n' (i + 1) a' pn' _ _ H5 (by omega) hPn' (fun p hp => (I'.pin p (List.mem_append_right _ hp)).1) (weak I') (Tn.keep _ _ _ st2 fun b hb o e => kb b hb o (k1 b hb o e)) k2 w')
end
end GY

namespace GY
open PySem PySem.Spec PyProof.Rows L2 GenW GX
/-- a generator expression's generator, made and not yet woken -/
structure GenAt (X : Cx) (pins : List (Addr × Obj)) (σ : L2.St) (J : It) (g : TG) (tt : TT) (te : TE) (vs : List Nat) (fp : List Addr) (H3 : Hp) (ga gi : Nat) (Y : Cx) (go : Obj) (s5 : Shared) : Prop where
  prog : Y.prog = X.prog
  w : Y.w = X.w
  inv : Inv Y [(ga, go)] (wipe σ vs) H3 s5
  ypn : Y.pn = []
  isgen : ∀ h : Heap, h.get? ga = some go → h.IsGen ga gi
  gafp : ga ∉ fp
  fplt : ∀ b ∈ fp, b < s5.heap.objs.size
  back : ∀ pn σ' H' s', Inv Y pn σ' H' s' → Inv X pins σ H' s'
  goes : ∀ {α : Type} (Pn : α → List (Addr × Obj) → Prop) (T : α → Hp → Prop) (D : α → V → Hp → (α → Prop) → Prop) (W : Nat → Nat → α → Hp → Prop), (∀ a pn, Pn a pn → ∀ p ∈ pn, p.1 ∉ fp) → (∀ a y H (k k' : α → Prop), (∀ a', k a' → k' a') → D a y H k → D a y H k') → TurnG J g tt te vs (wipe σ vs) W T D →
    ∀ (m0 : Nat) (a0 : α) (pn0 : List (Addr × Obj)) (s6 : Shared), Pn a0 pn0 → Inv Y pn0 (wipe σ vs) H3 s6 → (∀ b ∈ fp, ∀ o, s5.heap.get? b = some o → s6.heap.get? b = some o) → s6.gens = s5.gens → W 0 m0 a0 H3 →
      ∃ gs, s6.gens[gi]? = some gs ∧ gs.Goes (model X.prog X.w) X.A.in1.in1 (RGa Y Pn T) (YGa Y fp Pn D) (m0 + 1) (.send .none) (s6.setGen gi .running)
section
variable {X : Cx}
theorem gen_made {c P : Addr} {elt tg iter : Expr} {ifs : List Expr} {scope : Scope} {own : List (Str × Nat)} {gpos : Pos} {wi : TI} {g : TG} {tt : TT} {te : TE} {k : Nat}
    (hr : Room k X.A) (TB : GxR.TabB X.base X.mg c P) (hcode : X.env.code = .ref c) (hc : X.calm = true) (hN : X.N.Nodup) (hi : PI X tg iter wi) (ok : BlkOk X.N X.env.scope scope own)
    (hco : scope.isCoroutine = false) (nc : ∀ y ∈ scope.names, y.2 ≠ .cell) (h0 : scope.names.lookup (".0" : Str) = some NameKind.local)
    (hg : ∀ (s : Shared) (H : Hp) (C : Addr) (cl : List (Str × Addr)) (code : Value) (fp : List Addr), PG (gcx X s H (genEnv scope cl C code builtinsNs X.env) fp) tg g)
    (ht : ∀ (s : Shared) (H : Hp) (C : Addr) (cl : List (Str × Addr)) (code : Value) (fp : List Addr), PTs (gcx X s H (genEnv scope cl C code builtinsNs X.env) fp) ifs tt)
    (he : ∀ (s : Shared) (H : Hp) (C : Addr) (cl : List (Str × Addr)) (code : Value) (fp : List Addr), PE (gcx X s H (genEnv scope cl C code builtinsNs X.env) fp) elt te)
    (hs : ∀ v, genFold iter X.env v = pure v)
    {pins : List (Addr × Obj)} {s : Shared} {σ : L2.St} {H : Hp} {Kt : It → Hp → Prop} (I : Inv X pins σ H s) (h : wi σ H fun J H1 => GxR.TabG H1 P ∧ ∀ H2, GxR.Tabbed P H1 H2 → Kt J H2)
    {Q : Value → Shared → Prop} (hq : ∀ (J : It) (fp : List Addr) (H3 : Hp) (ga gi : Nat) (Y : Cx) (go : Obj) (s5 : Shared), Kt J H3 → GenAt X pins σ J g tt te (own.map (·.2)) fp H3 ga gi Y go s5 → Q (.ref ga) s5) :
    wpAny (model X.prog X.w) X.A (eval (.GeneratorExp elt [⟨tg, iter, ifs, 0⟩] scope gpos) X.env) Q X.xe s := by
  have caught : ∀ n ∈ scope.names, n.2 = .free → ∃ c, X.env.cells.lookup n.1 = some c := fun n hn hf => I.ok.has _ ((ok.free n hn hf).elim .inl .inr)
  refine wpAny_GeneratorExp_make hco (closure_ok caught) nc h0 ok.kind hr.depth ?_ hs
  refine thn (hi.run pins s σ H _ I h) fun xv s1 hx => thn hx fun itv s2 h2 => ?_
  obtain ⟨it, fp, tn, J, H2, e, I2, T, st2, f2, ⟨ps, hP, ht2⟩, q⟩ := h2
  subst e
  refine ⟨I2.nolimit, ?_⟩
  have hPs : s2.heap.get? P = some { cls := .none, data := .fields ps } := I2.hok P _ hP
  have cd : PySem.W.CodeHd s2.heap c P := TB.code.keeps fun b u e => I2.bk b u e
  have nfP : ∀ b ∈ fp, b ≠ P := fun b hb z => by
    have := (f2 b hb).1
    rw [z, hP] at this
    cases this
  -- behind the code object
  have cont : ∀ (code : Value) (h3 : Heap) (tk : Nat) (ps' : Array Value), Heap.ExtBut P s2.heap h3 → s2.heap.objs.size ≤ h3.objs.size → h3.get? P = some { cls := .none, data := .fields ps' } → (∃ more, ps' = ps ++ more) → TriplesOk ps'.toList →
      wpAny (model X.prog X.w) X.A (builtinsFor X.env.globals X.env.builtins) (fun bi s₄ => ∀ h', h'.Ns s₄.heap.objs.size (fun y => if y = ".0" then some (.ref it) else none) → Heap.SameBut s₄.heap.objs.size (s₄.heap.push { cls := .type "frame", data := .dict #[] }) h' →
          Q (.ref h'.objs.size) { s₄ with
            gens := s₄.gens.push (.fresh (.compStart (.GeneratorExp elt [⟨tg, iter, ifs, 0⟩] scope gpos) 0 (.ref it) .none (genEnv scope (cloFrom X.env.cells scope.names []) s₄.heap.objs.size code bi X.env))),
            toks := s₄.toks + 1 + 1 + 1,
            heap := h'.push { cls := .type "generator", data := .fields #[.int s₄.gens.size 0, .str "<genexpr>" (s₄.toks + 1), .str (X.env.qual ++ "<genexpr>") (s₄.toks + 1 + 1)] } }) X.xe { s2 with heap := h3, toks := tk } := by
    intro code h3 tk ps' hx hsz hP3 ⟨more, em⟩ ht3
    obtain ⟨bmod, bobj, i1, i2, i3, i4, i5, i6, i7, i8⟩ := TB.bm
    have keep3 : ∀ b u, b ≠ P → s2.heap.get? b = some u → h3.get? b = some u := fun b u hb e => hx b u hb e
    refine wpAny_builtinsFor (m := X.mg) (by rw [I2.ok.glob]; exact (I2.mod.glob.keeps I2.bk).extBut hx TB.gP) i1 i2 (keep3 _ _ i4 (I2.bk _ _ i5)) i6 i7 i8 ?_
    intro h' hn' hs'
    -- the state ahead of the frame
    have I3 := GxR.inv_tab (more := more) (h' := h3) (g' := s2.gens) (d' := s2.drawn) (t' := tk) I2 hP (fun b u hb e => keep3 b u hb e) (by rw [← em]; exact hP3) I2.bare
    have hTab : GxR.Tabbed P H2 (upd H2 P (.tbl (ps ++ more))) := ⟨⟨ps ++ more, upd_same, by rw [← em]; exact ht3⟩, fun b hb => upd_ne hb⟩
    have hK := q _ hTab
    generalize upd H2 P (.tbl (ps ++ more)) = H3 at I3 hK hTab
    have st3 : tn 0 h3 := T.keep _ _ _ st2 fun b hb o e => keep3 b o (nfP b hb) e
    have f3 : ∀ b ∈ fp, FpOk X pins H3 b ∧ b < h3.objs.size := fun b hb => by
      obtain ⟨o, e, _⟩ := T.obj _ _ st3 b hb
      exact ⟨⟨by rw [hTab.2 b (nfP b hb)]; exact (f2 b hb).1, (f2 b hb).2⟩, Heap.lt_size e⟩
    generalize hs3 : ({ s2 with heap := h3, toks := tk } : Shared) = s3 at I3
    have es3 : h3 = s3.heap := by rw [← hs3]
    have hn'' : h'.Ns s3.heap.objs.size (fun y => if y = ".0" then some (.ref it) else none) := by rw [← es3]; exact hn'
    have hs'' : Heap.SameBut s3.heap.objs.size (s3.heap.push { cls := .type "frame", data := .dict #[] }) h' := by rw [← es3]; exact hs'
    rw [es3] at st3 f3
    show Q _ { s3 with
            gens := s3.gens.push (.fresh (.compStart (.GeneratorExp elt [⟨tg, iter, ifs, 0⟩] scope gpos) 0 (.ref it) .none (genEnv scope (cloFrom X.env.cells scope.names []) s3.heap.objs.size code builtinsNs X.env))),
            toks := s3.toks + 1 + 1 + 1,
            heap := h'.push { cls := .type "generator", data := .fields #[.int s3.gens.size 0, .str "<genexpr>" (s3.toks + 1), .str (X.env.qual ++ "<genexpr>") (s3.toks + 1 + 1)] } }
    have kp : ∀ b o, s3.heap.get? b = some o → h'.get? b = some o := fun b o e => hs''.extBut b o (Nat.ne_of_lt (Heap.lt_size e)) (Heap.get?_push_of_some _ e)
    have hsz' : h'.objs.size = s3.heap.objs.size + 1 := by rw [hs''.1, Heap.size_push]
    generalize hgo : ({ cls := .type "generator", data := .fields #[.int s3.gens.size 0, .str "<genexpr>" (s3.toks + 1), .str (X.env.qual ++ "<genexpr>") (s3.toks + 1 + 1)] } : Obj) = go
    have hgen0 : ∀ h : Heap, h.get? h'.objs.size = some go → h.IsGen h'.objs.size s3.gens.size := fun h e => ⟨go, _, _, e, by rw [← hgo], by rw [← hgo], by rw [← hgo]⟩
    have ngo : ∀ v, go.data ≠ .cell v := fun v z => by
      rw [← hgo] at z
      cases z
    have hpush : (h'.push go).get? h'.objs.size = some go := by
      rw [← hgo]
      exact Heap.get?_push_size _ rfl
    have kp2 : ∀ b o, s3.heap.get? b = some o → (h'.push go).get? b = some o := fun b o e => Heap.get?_push_of_some _ (kp b o e)
    have pg := hg s3 H3 s3.heap.objs.size (cloFrom X.env.cells scope.names []) code fp
    have pt := ht s3 H3 s3.heap.objs.size (cloFrom X.env.cells scope.names []) code fp
    have pe := he s3 H3 s3.heap.objs.size (cloFrom X.env.cells scope.names []) code fp
    have I4 := gen_start (code := code) (tk := s3.toks + 1 + 1 + 1) (h' := h'.push go) (G := s3.gens.push (.fresh (.compStart (.GeneratorExp elt [⟨tg, iter, ifs, 0⟩] scope gpos) 0 (.ref it) .none (genEnv scope (cloFrom X.env.cells scope.names []) s3.heap.objs.size code builtinsNs X.env)))) I3 ok nc hN f3 (hn''.push _) kp2 (AllBare.push I3.bare rfl)
    generalize hce : genEnv scope (cloFrom X.env.cells scope.names []) s3.heap.objs.size code builtinsNs X.env = ce at pg pt pe I4 ⊢
    have cL : ce.locals = s3.heap.objs.size := by subst hce; rfl
    have cS : ce.scope = scope := by subst hce; rfl
    have hgH : H3 h'.objs.size = none := I3.hok.fresh (by rw [hsz']; exact Nat.le_succ _)
    have nfs : h'.objs.size ∉ frs X.stack := fun z => by
      rcases List.mem_cons.mp (I3.stkSub _ z) with z | z
      · have := I3.lt
        rw [← z, hsz'] at this
        exact absurd (Nat.lt_of_succ_lt this) (Nat.lt_irrefl _)
      · exact I3.nofs (by rw [hsz']; exact Nat.le_succ _) z
    have I5 := I4.pins_of (pins' := [(h'.objs.size, go)]) fun p hp => by
      rw [List.mem_singleton.mp hp]
      refine ⟨hpush, hgH, ?_, nfs, ngo⟩
      show h'.objs.size ≠ ce.locals
      rw [cL, hsz']
      exact Nat.succ_ne_self _
    generalize hs5 : ({ s3 with heap := h'.push go, gens := s3.gens.push (.fresh (.compStart (.GeneratorExp elt [⟨tg, iter, ifs, 0⟩] scope gpos) 0 (.ref it) .none ce)), toks := s3.toks + 1 + 1 + 1 } : Shared) = s5 at I5
    have st5 : tn 0 s5.heap := T.keep _ _ _ st3 fun b _ o e => by rw [← hs5]; exact kp2 b o e
    have hgs : s5.gens[s3.gens.size]? = some (.fresh (.compStart (.GeneratorExp elt [⟨tg, iter, ifs, 0⟩] scope gpos) 0 (.ref it) .none ce)) := by
      rw [← hs5]
      exact Array.getElem?_push_size ..
    have hz5 : s5.heap.objs.size = h'.objs.size + 1 := by
      rw [← hs5]
      exact Heap.size_push ..
    refine hq J fp H3 h'.objs.size s3.gens.size (gcx X s3 H3 ce fp) go s5 hK ⟨rfl, rfl, I5, rfl, hgen0, fun hb => ?_, fun b hb => ?_, fun pn σ' H' s' I6 => ?_, fun {α} Pn T' D W hpins mono turn m0 a0 pn0 s6 hPn I6 k6 hg6 w0 => ?_⟩
    · have z : h'.objs.size < s3.heap.objs.size := (f3 _ hb).2
      rw [hsz'] at z
      omega
    · have z : b < s3.heap.objs.size := (f3 b hb).2
      rw [hz5, hsz']
      exact Nat.lt_succ_of_lt (Nat.lt_succ_of_lt z)
    · exact I3.call' (ch := fp) I6.os I6.base I6.hok I6.bare fun b hb => ⟨(f3 b hb).1.2.2.2.1, (f3 b hb).1.2.1, (f3 b hb).1.2.2.2.2.1, (f3 b hb).1.2.2.2.2.2⟩
    · have hgs6 : s6.gens[s3.gens.size]? = some (.fresh (.compStart (.GeneratorExp elt [⟨tg, iter, ifs, 0⟩] scope gpos) 0 (.ref it) .none ce)) := by
        rw [hg6]
        exact hgs
      refine ⟨_, hgs6, rfl, ?_⟩
      have st6 : tn 0 s6.heap := T.keep _ _ _ st5 k6
      refine seg_start (i := 0) T st6 ?_
      exact seg_loopA (Y := gcx X s3 H3 ce fp) (vs := own.map (·.2)) rfl rfl hc (by show ce.scope.isCoroutine = false; rw [cS]; exact hco) T pg pt pe (fun b hb => hb) rfl hpins mono turn m0 (m0 + 1) 0 a0 pn0 _ _ H3 (Nat.lt_succ_self _) hPn (fun p hp => (I6.pin p (List.mem_append_right _ hp)).1) (inv_gens I6 (allBare_setGen I6.bare rfl)) st6 (fun b hb => (f3 b hb).1.1) w0
  cases hf : codeAmong gpos ps.toList with
  | none =>
    refine wpAny_genexprCodeX hcode (cd.code hPs ht2) (cd.tab hPs) hf fun c' h' tk hx hge hlt hco' _ htab' _ => ?_
    have trip := hco'.choose_spec.choose_spec.choose_spec.choose_spec.choose_spec.choose_spec.choose_spec.choose_spec.choose_spec.choose_spec.2.2.2.2.2.2.2.2.2.1
    exact cont _ h' tk _ hx (Nat.le_trans hge (Nat.le_of_lt hlt)) htab'.2 ⟨#[_, _, _], rfl⟩ trip
  | some cv =>
    refine wpAny_genexprCode_hit hcode (cd.code hPs ht2) hf ?_
    exact cont cv s2.heap s2.toks ps (Heap.ExtBut.refl _ _) (Nat.le_refl _) hPs ⟨#[], by simp⟩ ht2
end
end GY

namespace GY
open PySem PySem.Spec PyProof.Rows L2 GenW GX
section
variable {Y : Cx}
/-! ### any -/
abbrev dAny (F : Hp → Prop) : Unit → V → Hp → (Unit → Prop) → Prop := fun _ y H k => ∃ c : Bool, y = .bl c ∧ (c = false → k ()) ∧ (c = true → F H)
theorem dAny_mono (F : Hp → Prop) : ∀ a y H (k k' : Unit → Prop), (∀ a', k a' → k' a') → dAny F a y H k → dAny F a y H k' := fun _ _ _ _ _ h ⟨c, e, h1, h2⟩ => ⟨c, e, fun z => h _ (h1 z), h2⟩
theorem any_loop {A : Around} {R : Result → Shared → Prop} {ga gi : Nat} {go : Obj} {fp : List Addr} {T F : Hp → Prop} (hh : A.handled = none) (hd : A.depth < recursionLimit) (isgen : ∀ h : Heap, h.get? ga = some go → h.IsGen ga gi) (hT : ∀ σ H s, Inv Y [(ga, go)] σ H s → T H → R (.ok (.ret (.bool false))) s) (hF : ∀ σ H s, Inv Y [(ga, go)] σ H s → F H → R (.ok (.ret (.bool true))) s) :
    ∀ (n : Nat) (s : Shared), s.heap.get? ga = some go → s.heap.NoLimit → (∃ gs, s.gens[gi]? = some gs ∧ gs.Goes (model Y.prog Y.w) A.in1.in1 (RGa Y (fun (_ : Unit) pn => pn = [(ga, go)]) fun _ => T) (YGa Y fp (fun (_ : Unit) pn => pn = [(ga, go)]) (dAny F)) n (.send .none) (s.setGen gi .running)) →
      codeAny (model Y.prog Y.w) A (.builtin "any.loop" ⟨[.ref ga], []⟩) R s := by
  intro n
  induction n with
  | zero =>
    intro s hg hl ⟨gs, hgs, hgo⟩
    refine codeAny_builtin PySem.F.entry_any_loop ?_
    rw [Around.under_plainId PySem.F.plain_any_loop _]
    show wpAny _ A.in1 (pyNext (.ref ga) >>= _) _ _ s
    refine wpAny_bind (wpAny_pyNext_genexpQ (A := A.in1) (P := fun _ s₀ s₁ => ∃ (a : Unit) (pn : List (Addr × Obj)) (σ : L2.St) (H : Hp), pn = [(ga, go)] ∧ (∀ p ∈ pn, s₀.heap.get? p.1 = some p.2) ∧ Inv Y pn σ H s₁ ∧ T H) hh hl hd (isgen _ hg) hgs hgo (fun v s₁ gs' hb hv => ?_) (fun s₁ hp h' hk => ?_))
    · obtain ⟨a, pn, y, σ, H, rfl, _, ry, I, c, rfl, h1, h2⟩ := hv
      obtain rfl : v = Value.bool c := ry
      cases c with
      | false => exact (h1 rfl _ _ rfl I (fun _ _ _ e => e)).elim
      | true =>
        refine wpAny_bind (wpAny_holding (wpAny_truthy_bool ?_))
        refine wpAny_bind (wpAny_letGo ?_)
        simp only [if_true]
        exact wpAny_bind (wpAny_rule (wpAny_pure (hF σ H _ (inv_gens I (allBare_setGen I.bare hb)) (h2 rfl))))
    · obtain ⟨_, pn, σ, H, rfl, _, I, q⟩ := hp
      exact wpAny_bind (wpAny_rule (wpAny_pure (hT σ H _ (inv_kept (s := s₁) (G := (s₁.setGen gi .finished).gens) I (allBare_setGen I.bare rfl) hk) q)))
  | succ n ih =>
    intro s hg hl ⟨gs, hgs, hgo⟩
    have hgl : gi < s.gens.size := (Array.getElem?_eq_some_iff.mp hgs).1
    refine codeAny_builtin PySem.F.entry_any_loop ?_
    rw [Around.under_plainId PySem.F.plain_any_loop _]
    show wpAny _ A.in1 (pyNext (.ref ga) >>= _) _ _ s
    refine wpAny_bind (wpAny_gsz (n := gi + 1) hgl (wpAny_pyNext_genexpQ (A := A.in1) (P := fun _ s₀ s₁ => ∃ (a : Unit) (pn : List (Addr × Obj)) (σ : L2.St) (H : Hp), pn = [(ga, go)] ∧ (∀ p ∈ pn, s₀.heap.get? p.1 = some p.2) ∧ Inv Y pn σ H s₁ ∧ T H) hh hl hd (isgen _ hg) hgs hgo (fun v s₁ gs' hb hv => ?_) (fun s₁ hp h' hk => ?_)))
    · intro hsz
      obtain ⟨a, pn, y, σ, H, rfl, _, ry, I, c, rfl, h1, h2⟩ := hv
      obtain rfl : v = Value.bool c := ry
      refine wpAny_bind (wpAny_holding (wpAny_truthy_bool ?_))
      refine wpAny_bind (wpAny_letGo ?_)
      cases c with
      | false =>
        simp only [Bool.false_eq_true, if_false]
        have hsz1 : gi < s₁.gens.size := by
          have q : (s₁.setGen gi gs').gens.size = s₁.gens.size := setGen_size _ _ _
          have hsz' : gi + 1 ≤ (s₁.setGen gi gs').gens.size := hsz
          omega
        refine wpAny_pure ⟨plainId_quiet PySem.F.plain_any_loop _, ih (s₁.setGen gi gs') (I.pin (ga, go) (List.mem_append_right _ (List.mem_singleton.mpr rfl))).1 (show s₁.heap.NoLimit from I.nolimit) ⟨gs', setGen_at hsz1, ?_⟩⟩
        exact h1 rfl _ _ rfl (inv_gens (inv_gens I (allBare_setGen (g := gi) I.bare hb)) (allBare_setGen (s := s₁.setGen gi gs') (allBare_setGen I.bare hb) rfl)) (fun _ _ _ e => e)
      | true =>
        simp only [if_true]
        exact wpAny_bind (wpAny_rule (wpAny_pure (hF σ H _ (inv_gens I (allBare_setGen I.bare hb)) (h2 rfl))))
    · intro hsz
      obtain ⟨_, pn, σ, H, rfl, _, I, q⟩ := hp
      exact wpAny_bind (wpAny_rule (wpAny_pure (hT σ H _ (inv_kept (s := s₁) (G := (s₁.setGen gi .finished).gens) I (allBare_setGen I.bare rfl) hk) q)))
/-! ### sum -/
abbrev dSum : Int → V → Hp → (Int → Prop) → Prop := fun t y _ k => ∃ i : Int, y = .int i ∧ k (t + i)
theorem dSum_mono : ∀ a y H (k k' : Int → Prop), (∀ a', k a' → k' a') → dSum a y H k → dSum a y H k' := fun _ _ _ _ _ h ⟨i, e, h1⟩ => ⟨i, e, h _ h1⟩
abbrev sumO (t : Int) (tok : Tok) (c : Nat) : Obj := { cls := .type "list", dict := none, data := .seq #[.int t tok] c, slots := #[] }
abbrev pnSum (ga : Addr) (go : Obj) (L : Addr) : Int → List (Addr × Obj) → Prop := fun t pn => ∃ tok c, pn = [(ga, go), (L, sumO t tok c)]
/-- the taker's own list, new when the generator was made -/
structure OwnL (Y : Cx) (ga L : Addr) (fp : List Addr) : Prop where
  young : Y.s_0.heap.objs.size ≤ L
  cells : ∀ x c, Y.env.cells.lookup x = some c → c ≠ L
  ypn : Y.pn = []
  ne : L ≠ ga
  nfp : L ∉ fp
theorem own_put {ga L : Addr} {fp : List Addr} {go : Obj} {o o' : Obj} {σ : L2.St} {H : Hp} {s : Shared} {h' : Heap} {tk : Nat} (O : OwnL Y ga L fp) (I : Inv Y [(ga, go), (L, o)] σ H s) (hL : h'.get? L = some o') (hk : ∀ b u, b ≠ L → s.heap.get? b = some u → h'.get? b = some u) (nc : ∀ v, o'.data ≠ .cell v) : Inv Y [(ga, go), (L, o')] σ H { s with heap := h', toks := tk } := by
  have pL := I.pin (L, o) (by simp)
  have pG := I.pin (ga, go) (by simp)
  have J := (I.pins_of (pins' := [(ga, go)]) fun p hp => by rw [List.mem_singleton.mp hp]; exact pG).turned (it := L) (h' := h') (t' := tk) (fun b u hb e => hk b u hb e) pL.2.1 pL.2.2.1 (.inr O.young) O.cells (fun p hp => by
    rw [O.ypn] at hp
    have : p = (ga, go) := by simpa using hp
    rw [this]
    exact O.ne.symm)
  refine J.pins_of fun p hp => ?_
  have two : p = (ga, go) ∨ p = (L, o') := by simpa using hp
  rcases two with rfl | rfl
  · exact ⟨hk _ _ O.ne.symm pG.1, pG.2⟩
  · exact ⟨hL, pL.2.1, pL.2.2.1, pL.2.2.2.1, nc⟩
theorem sum_loop {A : Around} {R : Result → Shared → Prop} {ga gi L : Nat} {go : Obj} {fp : List Addr} {T : Int → Hp → Prop} (hh : A.handled = none) (hd : A.depth < recursionLimit) (isgen : ∀ h : Heap, h.get? ga = some go → h.IsGen ga gi) (O : OwnL Y ga L fp) (hT : ∀ t tok pn σ H s, Inv Y pn σ H s → T t H → R (.ok (.ret (.int t tok))) s) :
    ∀ (n : Nat) (s : Shared) (t : Int) (tok : Tok) (c : Nat) (st : Int), (st = 0 ∨ st = 2) → s.heap.get? L = some (sumO t tok c) → s.heap.get? ga = some go → s.heap.NoLimit → (∃ gs, s.gens[gi]? = some gs ∧ gs.Goes (model Y.prog Y.w) A.in1.in1 (RGa Y (pnSum ga go L) T) (YGa Y fp (pnSum ga go L) dSum) n (.send .none) (s.setGen gi .running)) →
      codeAny (model Y.prog Y.w) A (.builtin "sum.loop" ⟨[.ref ga, .ref L, rawInt st, rawInt 0], []⟩) R s := by
  intro n
  induction n with
  | zero =>
    intro s t tok c st hst hL hg hl ⟨gs, hgs, hgo⟩
    refine codeAny_builtin PySem.F.entry_sum_loop ?_
    rw [Around.under_plainId PySem.F.plain_sum_loop _]
    show wpAny _ A.in1 (seqItems? (.ref L) >>= _) _ _ s
    refine wpAny_bind (wpAny_seqItems hL rfl ?_)
    show wpAny _ A.in1 (tryCatch (pyNext (.ref ga)) _ >>= _) _ _ s
    refine wpAny_bind (wpAny_tryCatch (wpAny_pyNext_genexpQ (A := A.in1) (P := fun _ s₀ s₁ => ∃ a pn σ H, pnSum ga go L a pn ∧ (∀ p ∈ pn, s₀.heap.get? p.1 = some p.2) ∧ Inv Y pn σ H s₁ ∧ T a H) hh hl hd (isgen _ hg) hgs hgo (fun v s₁ gs' hb hv => ?_) (fun s₁ hp h' hk => ?_)))
    · obtain ⟨a, pn, y, σ, H, ⟨tok', c', rfl⟩, h0, ry, I, i, rfl, h1⟩ := hv
      have IL := own_put (tk := s₁.toks) (o' := sumO (a + i) tok' c') (h' := s₁.heap.update L fun _ => sumO (a + i) tok' c') O I (Heap.get?_update_self _ (I.pin (L, sumO a tok' c') (by simp)).1 rfl) (fun b u hb e => (Heap.get?_update_other _ _ (fun h : L = b => hb h.symm)).trans e) (fun v z => by cases z)
      exact (h1 _ _ ⟨tok', c', rfl⟩ IL fun b hb o e => (Heap.get?_update_other _ _ (fun h : L = b => O.nfp (h ▸ hb))).trans e).elim
    · obtain ⟨a, pn, σ, H, ⟨tok', c', rfl⟩, h0, I, q⟩ := hp
      have e0 := h0 (L, sumO a tok' c') (by simp)
      have e1 : s.heap.get? L = some (sumO a tok' c') := e0
      rw [hL] at e1
      have ea : t = a := by
        injection e1 with e1
        injection e1 with _ _ e1
        injection e1 with e1 _
        injection e1 with e1
        injection e1 with e1 _
        injection e1 with e1 _
      subst ea
      exact wpAny_pure (hT t tok _ σ H _ (inv_kept (s := s₁) (G := (s₁.setGen gi .finished).gens) I (allBare_setGen I.bare rfl) hk) q)
  | succ n ih =>
    intro s t tok c st hst hL hg hl ⟨gs, hgs, hgo⟩
    have hgl : gi < s.gens.size := (Array.getElem?_eq_some_iff.mp hgs).1
    refine codeAny_builtin PySem.F.entry_sum_loop ?_
    rw [Around.under_plainId PySem.F.plain_sum_loop _]
    show wpAny _ A.in1 (seqItems? (.ref L) >>= _) _ _ s
    refine wpAny_bind (wpAny_seqItems hL rfl ?_)
    show wpAny _ A.in1 (tryCatch (pyNext (.ref ga)) _ >>= _) _ _ s
    refine wpAny_bind (wpAny_tryCatch (wpAny_gsz (n := gi + 1) hgl (wpAny_pyNext_genexpQ (A := A.in1) (P := fun _ s₀ s₁ => ∃ a pn σ H, pnSum ga go L a pn ∧ (∀ p ∈ pn, s₀.heap.get? p.1 = some p.2) ∧ Inv Y pn σ H s₁ ∧ T a H) hh hl hd (isgen _ hg) hgs hgo (fun v s₁ gs' hb hv => ?_) (fun s₁ hp h' hk => ?_))))
    · intro hsz
      obtain ⟨a, pn, y, σ, H, ⟨tok', c', rfl⟩, h0, ry, I, i, rfl, h1⟩ := hv
      obtain ⟨tv, rfl⟩ := ry
      have e0 := h0 (L, sumO a tok' c') (by simp)
      have e1 : s.heap.get? L = some (sumO a tok' c') := e0
      rw [hL] at e1
      have ea : t = a ∧ tok = tok' ∧ c = c' := by
        injection e1 with e1
        injection e1 with _ _ e1
        injection e1 with e1 e2
        injection e1 with e1
        injection e1 with e1 _
        injection e1 with e1 e3
        exact ⟨e1, e3, e2⟩
      obtain ⟨rfl, rfl, rfl⟩ := ea
      have hsz1 : gi < s₁.gens.size := by
        have q : (s₁.setGen gi gs').gens.size = s₁.gens.size := setGen_size _ _ _
        have hsz' : gi + 1 ≤ (s₁.setGen gi gs').gens.size := hsz
        omega
      have I' := inv_gens I (allBare_setGen (g := gi) I.bare hb)
      have hS' : (s₁.setGen gi gs').heap.get? L = some (sumO t tok c) := (I'.pin (L, sumO t tok c) (by simp)).1
      have hG' : (s₁.setGen gi gs').heap.get? ga = some go := (I'.pin (ga, go) (by simp)).1
      -- what follows a turn
      have fin : ∀ (h' : Heap) (tk : Nat) (tok2 : Tok) (c2 : Nat) (st2 : Int), (st2 = 0 ∨ st2 = 2) → h'.get? L = some (sumO (t + i) tok2 c2) → (∀ b u, b ≠ L → (s₁.setGen gi gs').heap.get? b = some u → h'.get? b = some u) →
          codeAny (model Y.prog Y.w) A (.builtin "sum.loop" ⟨[.ref ga, .ref L, rawInt st2, rawInt 0], []⟩) R { s₁.setGen gi gs' with heap := h', toks := tk } := fun h' tk tok2 c2 st2 hst2 hL2 hk2 => by
        have IL := own_put (tk := tk) (o' := sumO (t + i) tok2 c2) O I' hL2 hk2 (fun v z => by cases z)
        refine ih _ (t + i) tok2 c2 st2 hst2 hL2 (hk2 _ _ O.ne.symm hG') (IL.nolimit) ⟨gs', setGen_at hsz1, ?_⟩
        exact h1 _ _ ⟨tok2, c2, rfl⟩ (inv_gens IL (allBare_setGen IL.bare rfl)) fun b hb' o e => hk2 b o (fun z => O.nfp (z ▸ hb')) e
      rcases hst with rfl | rfl
      · show wpAny _ A.in1 (if (_ : Bool) = true then (mkInt (t + i) >>= _) else _) _ _ _
        split
        · refine wpAny_bind (wpAny_mkInt ?_)
          show wpAny _ A.in1 (updateSeq L (fun _ => #[.int (t + i) _]) >>= _) _ _ _
          refine wpAny_bind ?_
          refine wpAny_updateSeq hS' rfl (wpAny_pure ⟨plainId_quiet F.plain_sum_loop _, ?_⟩)
          exact fin _ _ _ _ 0 (.inl rfl) (Heap.get?_update_self _ hS' rfl) fun b u hb e => (Heap.get?_update_other _ _ (fun h : L = b => hb h.symm)).trans e
        · refine wpAny_bind (wpAny_rule ?_)
          refine wpAny_bind (wpAny_attempt (wpAny_holding (wpAny_add_int ?_)))
          show wpAny _ A.in1 (updateSeq L (fun _ => #[.int (t + i) _]) >>= _) _ _ _
          refine wpAny_bind (wpAny_updateSeq hS' rfl ?_)
          have hS₂ := Heap.get?_update_self (Obj.mapSeq fun _ => #[Value.int (t + i) (s₁.setGen gi gs').toks]) hS' rfl
          refine wpAny_bind (wpAny_letGo ?_)
          refine wpAny_bind (wpAny_updateSeq hS₂ rfl (wpAny_pure ⟨plainId_quiet F.plain_sum_loop _, ?_⟩))
          exact fin _ _ _ _ 2 (.inr rfl) (Heap.get?_update_self _ hS₂ rfl) fun b u hb e => (Heap.get?_update_other _ _ (fun h : L = b => hb h.symm)).trans ((Heap.get?_update_other _ _ (fun h : L = b => hb h.symm)).trans e)
      · show wpAny _ A.in1 ((holding [Value.int i tv] (binaryOp .Add (.int t tok) (.int i tv))).attempt >>= _) _ _ _
        refine wpAny_bind (wpAny_attempt (wpAny_holding (wpAny_add_int ?_)))
        show wpAny _ A.in1 (updateSeq L (fun _ => #[.int (t + i) _]) >>= _) _ _ _
        refine wpAny_bind (wpAny_updateSeq hS' rfl ?_)
        have hS₂ := Heap.get?_update_self (Obj.mapSeq fun _ => #[Value.int (t + i) (s₁.setGen gi gs').toks]) hS' rfl
        refine wpAny_bind (wpAny_letGo ?_)
        refine wpAny_bind (wpAny_updateSeq hS₂ rfl (wpAny_pure ⟨plainId_quiet F.plain_sum_loop _, ?_⟩))
        exact fin _ _ _ _ 2 (.inr rfl) (Heap.get?_update_self _ hS₂ rfl) fun b u hb e => (Heap.get?_update_other _ _ (fun h : L = b => hb h.symm)).trans ((Heap.get?_update_other _ _ (fun h : L = b => hb h.symm)).trans e)
    · intro hsz
      obtain ⟨a, pn, σ, H, ⟨tok', c', rfl⟩, h0, I, q⟩ := hp
      have e0 := h0 (L, sumO a tok' c') (by simp)
      have e1 : s.heap.get? L = some (sumO a tok' c') := e0
      rw [hL] at e1
      have ea : t = a := by
        injection e1 with e1
        injection e1 with _ _ e1
        injection e1 with e1 _
        injection e1 with e1
        injection e1 with e1 _
        injection e1 with e1 _
      subst ea
      exact wpAny_pure (hT t tok _ σ H _ (inv_kept (s := s₁) (G := (s₁.setGen gi .finished).gens) I (allBare_setGen I.bare rfl) hk) q)
end
end GY

namespace GY
open PySem PySem.Spec PyProof.Rows L2 GenW GX
/-- f(elt for tg in iter if ..): the taker begins with a0, T is what holds of it at the end, D what it does with an item -/
def tGx {α : Type} (P : Addr) (wi : TI) (g : TG) (tt : TT) (te : TE) (vs : List Nat) (a0 : α) (T : VK → α → Hp → Prop) (D : VK → α → V → Hp → (α → Prop) → Prop) : TE := fun σ H Q => wi σ H fun J H1 => GxR.TabG H1 P ∧ ∀ H2, GxR.Tabbed P H1 H2 →
  ∃ W : Nat → Nat → α → Hp → Prop, (∃ m, W 0 m a0 H2) ∧ TurnG J g tt te vs (wipe σ vs) W (T Q) (D Q)
section
variable {X : Cx}
theorem pe_sum {c P : Addr} {elt tg iter : Expr} {ifs : List Expr} {scope : Scope} {own : List (Str × Nat)} {p pos gpos : Pos} {wi : TI} {g : TG} {tt : TT} {te : TE} {k : Nat}
    (hr : Room k X.A) (hgl : Gl X "sum") (hm : X.mg "sum" = none) (TB : GxR.TabB X.base X.mg c P) (hcode : X.env.code = .ref c) (hc : X.calm = true) (hN : X.N.Nodup) (hi : PI X tg iter wi) (ok : BlkOk X.N X.env.scope scope own)
    (hco : scope.isCoroutine = false) (nc : ∀ y ∈ scope.names, y.2 ≠ .cell) (h0 : scope.names.lookup (".0" : Str) = some NameKind.local)
    (hg : ∀ (s : Shared) (H : Hp) (C : Addr) (cl : List (Str × Addr)) (code : Value) (fp : List Addr), PG (gcx X s H (genEnv scope cl C code builtinsNs X.env) fp) tg g)
    (ht : ∀ (s : Shared) (H : Hp) (C : Addr) (cl : List (Str × Addr)) (code : Value) (fp : List Addr), PTs (gcx X s H (genEnv scope cl C code builtinsNs X.env) fp) ifs tt)
    (he : ∀ (s : Shared) (H : Hp) (C : Addr) (cl : List (Str × Addr)) (code : Value) (fp : List Addr), PE (gcx X s H (genEnv scope cl C code builtinsNs X.env) fp) elt te)
    (hs : ∀ v, genFold iter X.env v = pure v := by intro _; rfl)
    (hst : starEach [.GeneratorExp elt [⟨tg, iter, ifs, 0⟩] scope gpos] X.env = (false, eval (.GeneratorExp elt [⟨tg, iter, ifs, 0⟩] scope gpos) X.env) :: starEach [] X.env := by rfl) :
    PE X (.Call (.Name "sum" p) [.GeneratorExp elt [⟨tg, iter, ifs, 0⟩] scope gpos] [] pos) (tGx P wi g tt te (own.map (·.2)) (0 : Int) (fun Q t H => Q (.int t) H) (fun _ => dSum)) := by
  refine ⟨fun pins s σ H Q I h => ?_⟩
  refine wpAny_Call_Name_kw (ld_blt I hgl hm boot_sum ?_)
  refine PyProof.Rows.callWith_builtin1 ?_ hst (by rfl)
  rw [hst]
  show wpAny _ _ (spliced ((false, eval (.GeneratorExp elt [⟨tg, iter, ifs, 0⟩] scope gpos) X.env) :: backTo pos (starEach [] X.env))) _ _ s
  refine Calls.spliced_cons (gen_made hr TB hcode hc hN hi ok hco nc h0 hg ht he hs I h fun J fp H3 ga gi Y go s5 ⟨W, ⟨m0, w0⟩, turn⟩ G => ?_)
  refine Calls.spliced_nil ?_
  have hg5 := (G.inv.pin (ga, go) (List.mem_append_right _ (List.mem_singleton.mpr rfl))).1
  refine call_function_tree F.kind_sum F.plain_sum F.entry_sum (F.args_sum1 _) ?_
  unfold Builtin.«sum»
  simp only [List.length_cons, List.length_nil]
  rw [if_neg (by decide)]
  refine wpAny_bind (wpAny_of_eq (show Builtin.Builtins.bindParams "sum" ["start"] 0 { } = pure [none] from rfl) ?_)
  refine wpAny_bind (wpAny_pyIter_gen (G.isgen _ hg5) ?_)
  refine wpAny_bind (wpAny_mkInt ?_)
  refine wpAny_bind (wpAny_pure ?_)
  simp only [List.forIn_cons, List.forIn_nil]
  refine wpAny_bind (wpAny_bind (wpAny_bind (wpAny_isInstance (T := "int") (b := false) (typeIs_int _ _ _) PySem.sub_int_str ?_)))
  simp only [Bool.false_eq_true, if_false]
  refine wpAny_pure (wpAny_bind (wpAny_bind (wpAny_isInstance (T := "int") (b := false) (typeIs_int _ _ _) PySem.sub_int_bytes ?_)))
  simp only [Bool.false_eq_true, if_false]
  refine wpAny_pure (wpAny_bind (wpAny_bind (wpAny_isInstance (T := "int") (b := false) (typeIs_int _ _ _) PySem.sub_int_bytearray ?_)))
  simp only [Bool.false_eq_true, if_false]
  refine wpAny_pure (wpAny_pure ?_)
  refine wpAny_bind (wpAny_newObj_type ?_)
  have fL := G.inv.fpOk (b := s5.heap.objs.size) (Nat.le_refl _) (G.inv.hok.fresh (Nat.le_refl _))
  have O : OwnL Y ga s5.heap.objs.size fp := ⟨fL.2.2.2.1.elim (fun z => Nat.le_trans G.inv.sz (Nat.le_refl _)) id, fL.2.2.2.2.1, G.ypn, Nat.ne_of_gt (Heap.lt_size hg5), fun hb => Nat.lt_irrefl _ (G.fplt _ hb)⟩
  have kp : ∀ b u, s5.heap.get? b = some u → (s5.heap.push (sumO 0 s5.toks 0)).get? b = some u := fun b u e => Heap.get?_push_of_some _ e
  have I6 : Inv Y [(ga, go), (s5.heap.objs.size, sumO 0 s5.toks 0)] (wipe σ (own.map (·.2))) H3 { s5 with heap := s5.heap.push (sumO 0 s5.toks 0), toks := s5.toks + 1 } := by
    refine (G.inv.kept (t' := s5.toks + 1) kp).pins_of fun q hq => ?_
    have two : q = (ga, go) ∨ q = (s5.heap.objs.size, sumO 0 s5.toks 0) := by simpa using hq
    have pG := G.inv.pin (ga, go) (List.mem_append_right _ (List.mem_singleton.mpr rfl))
    rcases two with rfl | rfl
    · exact ⟨kp _ _ pG.1, pG.2⟩
    · exact ⟨Heap.get?_push_size _ rfl, fL.1, fL.2.1, fL.2.2.1, fun v z => by cases z⟩
  have go6 := G.goes (pnSum ga go s5.heap.objs.size) (fun t H => Q (.int t) H) dSum W (fun a pn ⟨tok, c, e⟩ q hq => by
    rw [e] at hq
    have two : q = (ga, go) ∨ q = (s5.heap.objs.size, sumO a tok c) := by simpa using hq
    rcases two with rfl | rfl
    · exact G.gafp
    · exact O.nfp) dSum_mono turn m0 0 _ _ ⟨_, _, rfl⟩ I6 (fun b _ o e => kp b o e) rfl w0
  rw [← G.prog, ← G.w] at go6 ⊢
  refine wpAny_pure ⟨plainId_quiet F.plain_sum_loop _, sum_loop (Y := Y) hr.hd hr.depth G.isgen O (fun t tok pn σ' H' s' I7 q => ⟨.int t, H', G.back _ _ _ _ I7, ⟨tok, rfl⟩, q⟩) (m0 + 1) _ 0 s5.toks 0 0 (.inl rfl) (Heap.get?_push_size _ rfl) (kp _ _ hg5) I6.nolimit go6⟩
theorem pe_any {c P : Addr} {elt tg iter : Expr} {ifs : List Expr} {scope : Scope} {own : List (Str × Nat)} {p pos gpos : Pos} {wi : TI} {g : TG} {tt : TT} {te : TE} {k : Nat}
    (hr : Room k X.A) (hgl : Gl X "any") (hm : X.mg "any" = none) (TB : GxR.TabB X.base X.mg c P) (hcode : X.env.code = .ref c) (hc : X.calm = true) (hN : X.N.Nodup) (hi : PI X tg iter wi) (ok : BlkOk X.N X.env.scope scope own)
    (hco : scope.isCoroutine = false) (nc : ∀ y ∈ scope.names, y.2 ≠ .cell) (h0 : scope.names.lookup (".0" : Str) = some NameKind.local)
    (hg : ∀ (s : Shared) (H : Hp) (C : Addr) (cl : List (Str × Addr)) (code : Value) (fp : List Addr), PG (gcx X s H (genEnv scope cl C code builtinsNs X.env) fp) tg g)
    (ht : ∀ (s : Shared) (H : Hp) (C : Addr) (cl : List (Str × Addr)) (code : Value) (fp : List Addr), PTs (gcx X s H (genEnv scope cl C code builtinsNs X.env) fp) ifs tt)
    (he : ∀ (s : Shared) (H : Hp) (C : Addr) (cl : List (Str × Addr)) (code : Value) (fp : List Addr), PE (gcx X s H (genEnv scope cl C code builtinsNs X.env) fp) elt te)
    (hs : ∀ v, genFold iter X.env v = pure v := by intro _; rfl)
    (hst : starEach [.GeneratorExp elt [⟨tg, iter, ifs, 0⟩] scope gpos] X.env = (false, eval (.GeneratorExp elt [⟨tg, iter, ifs, 0⟩] scope gpos) X.env) :: starEach [] X.env := by rfl) :
    PE X (.Call (.Name "any" p) [.GeneratorExp elt [⟨tg, iter, ifs, 0⟩] scope gpos] [] pos) (tGx P wi g tt te (own.map (·.2)) () (fun Q _ H => Q (.bl false) H) (fun Q => dAny fun H => Q (.bl true) H)) := by
  refine ⟨fun pins s σ H Q I h => ?_⟩
  refine wpAny_Call_Name_kw (ld_blt I hgl hm (by decide +kernel : bootBuiltins "any" = some (.builtin "any")) ?_)
  refine PyProof.Rows.callWith_builtin1 ?_ hst (by rfl)
  rw [hst]
  show wpAny _ _ (spliced ((false, eval (.GeneratorExp elt [⟨tg, iter, ifs, 0⟩] scope gpos) X.env) :: backTo pos (starEach [] X.env))) _ _ s
  refine Calls.spliced_cons (gen_made hr TB hcode hc hN hi ok hco nc h0 hg ht he hs I h fun J fp H3 ga gi Y go s5 ⟨W, ⟨m0, w0⟩, turn⟩ G => ?_)
  refine Calls.spliced_nil ?_
  have hg5 := (G.inv.pin (ga, go) (List.mem_append_right _ (List.mem_singleton.mpr rfl))).1
  refine call_function_tree F.kind_any F.plain_any F.entry_any (F.args_any1 _) ?_
  unfold Builtin.«any»
  refine wpAny_bind (m := oneArg "any" _) (wpAny_pure ?_)
  refine wpAny_bind (wpAny_pyIter_gen (G.isgen _ hg5) ?_)
  have go6 := G.goes (fun (_ : Unit) pn => pn = [(ga, go)]) (fun _ H => Q (.bl false) H) (dAny fun H => Q (.bl true) H) W (fun a pn e q hq => by
    rw [e] at hq
    rw [List.mem_singleton.mp hq]
    exact G.gafp) (dAny_mono _) turn m0 () _ _ rfl G.inv (fun b _ o e => e) rfl w0
  rw [← G.prog, ← G.w] at go6 ⊢
  refine wpAny_pure ⟨plainId_quiet F.plain_any_loop _, any_loop (Y := Y) hr.hd hr.depth G.isgen (fun σ' H' s' I7 q => ⟨.bl false, H', G.back _ _ _ _ I7, rfl, q⟩) (fun σ' H' s' I7 q => ⟨.bl true, H', G.back _ _ _ _ I7, rfl, q⟩) (m0 + 1) _ hg5 G.inv.nolimit go6⟩
/-- such a taker over a walk -/
theorem gx_it {α : Type} {J : It} {n : Nat} {G : Hp → Prop} {Y : Nat → Hp → V → Hp → Prop} (w : Walk J n G Y) {g : TG} {tt : TT} {te : TE} {vs : List Nat} {σw : L2.St} {H2 : Hp} {a0 : α} {T : α → Hp → Prop} {D : α → V → Hp → (α → Prop) → Prop} (Pv : Nat → α → Hp → Prop) (h0 : Pv 0 a0 H2) (hG : ∀ i a H, i ≤ n → Pv i a H → G H)
    (hs : ∀ i x a H H', i < n → Pv i a H → Y i H x H' → g x σw H' fun σ2 H2 => wipe σ2 vs = σw ∧ tt σ2 H2 fun b H3 => if b = true then te σ2 H3 fun y H4 => D a y H4 (fun a' => Pv (i + 1) a' H4) else Pv (i + 1) a H3) (hd : ∀ a H, Pv n a H → T a H) :
    ∃ W : Nat → Nat → α → Hp → Prop, (∃ m, W 0 m a0 H2) ∧ TurnG J g tt te vs σw W T D := by
  refine ⟨fun i left a H => i + left = n ∧ Pv i a H, ⟨n, Nat.zero_add n, h0⟩, fun i left a H ⟨sum, pv⟩ => ?_⟩
  have good := hG i a H (by omega) pv
  cases left with
  | zero =>
    have last : i = n := sum
    subst last
    exact .inl ⟨w.stops H good, hd a H pv⟩
  | succ left =>
    have below : i < n := by omega
    exact .inr ⟨w.goes i H below good, Pv (i + 1), fun a' H' pv' => ⟨left, Nat.lt_succ_self _, by omega, pv'⟩, fun x H' y => hs i x a H H' below pv (w.yields i H x H' below good y)⟩
end
end GY

/-! rules of my own: letters for the written part, sorted of data -/
namespace BR
open PySem PySem.Spec PyProof.Rows L2
theorem room_gen {k : Nat} {A : Around} (hr : Room (k + 3) A) (env : Env) : Room k (A.in1.in1.deeper env) := ((hr.in1).in1).deeper env
section
variable {X : Cx}
theorem ix_tupK {K : PySem.W.Frag} (e : X.K = K) : IxR X (rIxT K) := by
  subst e
  exact ix_tup
theorem ix_lstK {K : PySem.W.Frag} (e : X.K = K) : IxR X (rIxL K) := by
  subst e
  exact ix_list
theorem pi_listK {tg l : Expr} {tl : TE} {K : PySem.W.Frag} (e : X.K = K) (hl : PE X l tl) : PI X tg l (iList K tl) := by
  subst e
  exact pi_list hl
theorem pa_starK {e : Expr} {es : List Expr} {te : TE} {t : TA} {p : Pos} {K : PySem.W.Frag} (eK : X.K = K) (he : PE X e te) (hr : PA X es t) (hs : starEach (.Starred e p :: es) X.env = (true, eval e X.env) :: starEach es X.env := by rfl) : PA X (.Starred e p :: es) (StX.tStar K te t) := by
  subst eK
  exact StX.pa_star he hr hs
theorem op_notInK {K : PySem.W.Frag} (e : X.K = K) : OpR X (compareOp .NotIn) (rIn K true) := by
  subst e
  exact op_notIn_seq
theorem pg_tupK {K : PySem.W.Frag} {es : List Expr} {k : Nat} {t : TGs} {n : Nat} {pos : Pos} (eK : X.K = K) (h : PG X (.Tuple es k pos) (gTup X.K n t)) : PG X (.Tuple es k pos) (gTup K n t) := by
  subst eK
  exact h
theorem sl_listK {K : PySem.W.Frag} {r : PySem.W.Frag → V → Option Int → Option Int → Hp → VK → Prop} (eK : X.K = K) (h : SlR X (r X.K)) : SlR X (r K) := by
  subst eK
  exact h
theorem mt_K {K : PySem.W.Frag} {id : String} {r : PySem.W.Frag → V → List V → Hp → VK → Prop} (eK : X.K = K) (h : MtR X id (r X.K)) : MtR X id (r K) := by
  subst eK
  exact h
theorem cr_K {K : PySem.W.Frag} {f : Value} {r : PySem.W.Frag → List V → Hp → VK → Prop} (eK : X.K = K) (h : CallR X f (r X.K)) : CallR X f (r K) := by
  subst eK
  exact h
/-! ### sorted(list of data) -/
abbrev VD := V × PyData
def sortD (bs : List VD) : List VD := bs.mergeSort (PySem.W.dataLe false (·.2))
def rSortedD (K : PySem.W.Frag) : List V → Hp → VK → Prop := fun vs H Q => ∃ (a : Addr) (bs : List VD), vs = [V.ref a] ∧ SqL K H a (bs.map (·.1)) ∧ (∀ b ∈ bs, Dp K H b.1 b.2 ∧ b.2.depth ≤ 60) ∧ PySem.W.AllAlike (bs.map (·.2)) ∧ PySem.W.Sortable (bs.map (·.2)) ∧
  ∀ p, H p = none → Q (.ref p) (upd H p (.lst ((sortD bs).map (·.1))))
theorem each_of_vals : ∀ {bs : List VD} {us : List Value}, Vals (bs.map (·.1)) us → PySem.W.EachIs (fun v (b : VD) => RelV b.1 v) us bs
  | [], _, r => by
    cases r
    exact .nil
  | b :: bs, _, r => by
    cases r with
    | cons h t => exact .cons h (each_of_vals t)
theorem vals_of_each : ∀ {bs : List VD} {us : List Value}, PySem.W.EachIs (fun v (b : VD) => RelV b.1 v) us bs → Vals (bs.map (·.1)) us
  | _, _, .nil => .nil
  | _, _, .cons h t => .cons h (vals_of_each t)
theorem cr_sortedD (hu : X.A.units + 64 < cLine) : CallR X (.builtin "sorted") (rSortedD X.K) := by
  intro pins s σ H vs us Q I r h
  obtain ⟨a, bs, rfl, hs, hd, hal, hso, q⟩ := h
  obtain ⟨its, rv, hl, hz⟩ := I.list hs
  obtain ⟨u, rfl, ru⟩ := vals1 r
  obtain rfl : u = Value.ref a := ru
  have e := each_of_vals rv
  have er : PySem.W.EachIs (fun v (b : VD) => ∃ as, Reads s.heap v b.2 as) its bs := (PySem.W.each_mem e).mono fun v b ⟨r, hb⟩ => Dp.reads I b.2 b.1 v (hd b hb).1 r
  refine PySem.W.sorted_data (R := fun v (b : VD) => RelV b.1 v) (enc := (·.2)) hl.isList e er hal hso (by rw [List.length_map] at hz; exact hz) (fun b hb => by have := (hd b hb).2; omega) fun out hlen eo => ?_
  obtain ⟨n, hn⟩ := sortedAll_at s.heap its out.toArray
  refine ⟨.ref (s.heap.objs.size + 1), upd H (s.heap.objs.size + 1) (.lst ((sortD bs).map (·.1))), I.laid (t' := s.toks) (fun _ _ => sortedAll_old) (Nat.le_succ _) ⟨?_, out, n, vals_of_each eo, ?_⟩, rfl, q _ (I.hok.fresh (Nat.le_succ _))⟩
  · rw [List.length_map]
    show (List.mergeSort bs _).length ≤ _
    rw [List.length_mergeSort]
    rw [List.length_map] at hz
    exact hz
  · exact hn
end
end BR
namespace Bn
open PySem PySem.Spec PyProof.Rows L2 BR GX
theorem _root_.GX.SameN.new {Ps : List Addr} {H H' : Hp} {p : Addr} {o : HO} (s : SameN Ps H H') (n : H' p = none) : SameN Ps H (upd H' p o) := s.trans (SameN.of s.t (same_new n))
theorem _root_.GX.SameN.own {Ps : List Addr} {H H' : Hp} {p : Addr} {o u : HO} (s : SameN Ps H H') (n : H p = none) (e : H' p = some u) (hu : NT u) : SameN Ps H (upd H' p o) := by
  refine ⟨fun x y nt h => ?_, fun x q h => ?_, fun P hP => ?_⟩
  · rw [upd_ne (ne_of_none h n)]
    exact s.k _ _ nt h
  · rw [upd_ne (ne_of_none h n)]
    exact s.q _ _ h
  · obtain ⟨ps, h1, h2⟩ := s.t P hP
    refine ⟨ps, ?_, h2⟩
    rw [upd_ne (ne_of h1 e fun z => hu ps (by rw [← z]))]
    exact h1
theorem _root_.GX.SameN.kb {Ps : List Addr} {b : Addr} {H0 H H' : Hp} (s : SameN Ps H0 H) (nb : H0 b = none) (hb : Bx H b) (k : Kb b H H') : SameN Ps H0 H' := by
  refine ⟨fun x y n e => k.k _ _ (ne_of_none e nb) (s.k x y n e), fun x p e => ?_, fun P hP => ?_⟩
  · obtain ⟨p', e'⟩ := s.q x p e
    exact ⟨p', k.k _ _ (ne_of_none e nb) e'⟩
  · obtain ⟨ps, e, h⟩ := s.t P hP
    exact ⟨ps, k.k _ _ (ne_bx hb e (fun _ _ _ z => by cases z)) e, h⟩
theorem _root_.GX.SameN.same {Ps : List Addr} {H0 H H' : Hp} (s : SameN Ps H0 H) (k : Same H H') : SameN Ps H0 H' := s.trans (SameN.of s.t k)
theorem rd_sameN {Ps : List Addr} {H H' : Hp} {a : Addr} {v : HO} (h : Rd H a v) (hv : NT v) (s : SameN Ps H H') : Rd H' a v := by
  rcases h with e | ⟨o, e⟩
  · exact .inl (s.k _ _ hv e)
  · exact .inr ⟨o, s.k _ _ nt_frz e⟩
theorem Same.unlock {H HX : Hp} {a : Addr} {u : HO} {o : Obj} (ha : H a = some u) (s : Same (upd H a (.frz o u)) HX) : Same H (upd HX a u) := fun x y e => by
  by_cases c : x = a
  · subst c
    rw [upd_same, ← ha]
    exact e
  · rw [upd_ne c]
    exact s _ _ (by rw [upd_ne c]; exact e)
end Bn

/-! enumerate(tuple) walked -/
namespace PySem
open PySem.Calls
theorem my_enumNew {v : Value} {o : Obj} {H : Heap → Prop} (B : Begins v o H) :
    Meets (Builtin.«enumerate.__new__» ⟨[.type "enumerate", v], []⟩) (fun _ R s => H s.heap ∧
      R (.ok (.ret (.ref (s.heap.push o).objs.size))) { s with heap := (s.heap.push o).push { cls := .type "enumerate", data := .fields #[.none, .bool false, .ref s.heap.objs.size, rawInt 0, .none, .none] } }) :=
  .of_wp fun prog w A R s h => by
    obtain ⟨hp, g, d, tk, os⟩ := s
    obtain ⟨at0, h⟩ := h
    have subE := sub_enumerate
    have goI : ∀ {A' : Around} {E : Value → Shared → Prop} {Q : Value → Shared → Prop}, Q (.ref hp.objs.size) ⟨hp.push o, g, d, tk, os⟩ → wpAny (model prog w) A' (pyIter v) Q E ⟨hp, g, d, tk, os⟩ :=
      fun q => B.iter prog w _ _ ⟨hp, g, d, tk, os⟩ _ at0 q
    wp_walk using goI
    refine wpAny_stack_any fun st => wpAny_pure ?_
    split
    · rename_i c _ _ _ _ _
      cases (c == Value.type "enumerate")
      · wp_walk using goI
        exact ⟨_, rfl, h⟩
      · wp_walk using goI
        exact ⟨_, rfl, h⟩
    · wp_walk using goI
      exact ⟨_, rfl, h⟩
theorem my_enumCall {prog : Program} {w : World} {A : Around} {E : Value → Shared → Prop} {s : Shared} {v : Value} {o : Obj} {H : Heap → Prop} {Q : Value → Shared → Prop} (B : Begins v o H) (at0 : H s.heap)
    (h : ∀ h', IsEnum h' (s.heap.objs.size + 1) s.heap.objs.size 0 .none → h'.get? s.heap.objs.size = some o →
      (∀ b o, s.heap.get? b = some o → h'.get? b = some o) → Q (.ref (s.heap.objs.size + 1)) { s with heap := h' }) :
    wpAny (model prog w) A (call (.type "enumerate") [v]) Q E s := by
  refine callType_new F.called_enumerate (by decide) (F.typeCall_enumerate_1 _) (F.newCall_enumerate_1 _) (fun obj => F.args_object_init_2 obj _) F.entry_enumerate_new
    (my_enumNew B) ⟨at0, ?_⟩
  have zs : (s.heap.push o).objs.size = s.heap.objs.size + 1 := Heap.size_push ..
  show _ ∧ _
  rw [zs]
  have isE : IsEnum ((s.heap.push o).push { cls := .type "enumerate", data := .fields #[.none, .bool false, .ref s.heap.objs.size, rawInt 0, .none, .none] }) (s.heap.objs.size + 1) s.heap.objs.size 0 .none := by
    have := Heap.get?_push_size (s.heap.push o) (o := { cls := .type "enumerate", data := .fields #[.none, .bool false, .ref s.heap.objs.size, rawInt 0, .none, .none] }) rfl
    rw [zs] at this
    exact this
  exact ⟨⟨_, isE, rfl⟩, h _ isE (Heap.get?_push_of_some _ (Heap.get?_push_size _ B.free)) fun b o x => Heap.get?_push_of_some _ (Heap.get?_push_of_some _ x)⟩
end PySem
namespace RM
open PySem PySem.Spec PyProof.Rows L2
/-- a tuple at a, its items in fits pairs with their numbers -/
def IteT (K : PySem.W.Frag) (a : Addr) (xs : List V) : It where
  go := fun i H => SqT K H a xs ∧ i < xs.length
  yld := fun i H v H' => ∃ T x, v = .ref T ∧ H T = none ∧ H' = upd H T (.tup [.int (i : Nat), x]) ∧ xs[i]? = some x
  stop := fun i H => SqT K H a xs ∧ i = xs.length
theorem turn_enumT {P : Program} {w : World} {K : PySem.W.Frag} {elts : List Expr} {kk : Nat} {tpos : Pos} {a e it : Addr} {xs : List V} (na : a ≠ it) (nae : e ≠ a) :
    Turn P w K (.Tuple elts kk tpos) (IteT K a xs) [e, it] e (fun i h => (∃ was, IsEnum h e it ((i : Nat) : Int) was) ∧ h.IsTupleIter it a i ∧ e ≠ it) where
  mem := by simp
  obj := fun i h st b inB => by
    obtain ⟨⟨was, isE⟩, ⟨o, outE, calm, hd⟩, _⟩ := st
    have two : b = e ∨ b = it := by simpa using inB
    rcases two with z | z
    · rw [z]; exact ⟨_, isE, fun v q => nomatch q⟩
    · rw [z]; exact ⟨o, outE, fun v q => by rw [hd] at q; cases q⟩
  keep := fun i h h' st k => let ⟨⟨was, isE⟩, hi, apart⟩ := st; ⟨⟨was, k e (by simp) _ isE⟩, hi.at fun o q => k it (by simp) o q, apart⟩
  item := by
    intro X eP eW eK calm i pins s σ H E J foot st stands
    subst eP eW eK
    obtain ⟨⟨was, isE⟩, isI, apart⟩ := st
    obtain ⟨qt, hlt⟩ := stands
    obtain ⟨its, rels, p, szl⟩ := J.tuple qt
    have getX : xs[i]? = some xs[i] := List.getElem?_eq_getElem hlt
    obtain ⟨u, getU, relU⟩ := rels.get getX
    have ltE : e < s.heap.objs.size := Heap.lt_size isE
    have ltI : it < s.heap.objs.size := by obtain ⟨_, q, _⟩ := isI; exact Heap.lt_size q
    have hnd : X.A.in1.handled = none := J.ok.hd calm
    have ltU : i < its.toArray.size := by rw [List.size_toArray, ← rels.length]; exact hlt
    refine wpAny_pyNext_enum_itemD (Draws.tuple hnd it a na its.toArray) isE ⟨isI, p⟩ ltU apart (fun z => by
      have two : e = it ∨ e = a := by simpa using z
      rcases two with z | z
      · exact apart z
      · exact nae z) fun v h' tk hv outE hst' pair1 szN same1 => ?_
    have hv2 : its[i]? = some v := by simpa using hv
    rw [getU] at hv2
    cases hv2
    refine ⟨_, rfl, wpAny_letOwnedTupleGo_enum (s := { s with heap := h', toks := tk + 1 }) outE fun hq2 he' sbut => ?_⟩
    have pairAt : hq2.get? s.heap.objs.size = some { cls := .type "tuple", data := .seq #[.int i tk, u] } := (sbut.2 _ (Nat.ne_of_gt ltE)).trans pair1
    have fits : ObjOk X.prog X.w (upd H s.heap.objs.size (.tup [.int (i : Nat), xs[i]])) hq2 s.heap.objs.size (.tup [.int (i : Nat), xs[i]]) :=
      ⟨by show 2 ≤ sizeLine; decide, [.int i tk, u], .cons ⟨_, rfl⟩ (.cons relU .nil), ⟨_, pairAt, rfl, _, rfl⟩⟩
    have J1 : Inv X pins σ (upd H s.heap.objs.size (.tup [.int (i : Nat), xs[i]])) { s with heap := hq2, toks := tk + 1 } :=
      J.turnedNew (ch := [e, it]) (fun b ob inB q => (sbut.2 b (fun z => inB (by simp [z]))).trans (same1 b ob (fun z => inB (by simp [z])) (fun z => inB (by simp [z])) q)) foot (Nat.le_refl _) fits
    refine ⟨.ref s.heap.objs.size, _, J1, rfl, ⟨_, xs[i], rfl, J.hok.fresh (Nat.le_refl _), rfl, getX⟩, ⟨⟨u, ?_⟩, hst'.1.at fun o q => (sbut.2 it (Ne.symm apart)).trans q, apart⟩, fun b inB => ?_⟩
    · have e1 : ((i + 1 : Nat) : Int) = (i : Int) + 1 := by omega
      rw [e1]; exact he'
    · have ltB : b < s.heap.objs.size := by
        have two : b = e ∨ b = it := by simpa using inB
        rcases two with z | z
        · rw [z]; exact ltE
        · rw [z]; exact ltI
      rw [upd_ne (Nat.ne_of_lt ltB)]
      exact (foot b inB).1
  done := by
    intro X eP eW eK calm i pins s σ H E J foot st stands
    subst eP eW eK
    obtain ⟨⟨was, isE⟩, isI, apart⟩ := st
    obtain ⟨qt, getX⟩ := stands
    obtain ⟨its, rels, p, szl⟩ := J.tuple qt
    obtain ⟨g0, g1, g2, g3, g4, g5⟩ := foot it (by simp)
    have hnd : X.A.in1.handled = none := J.ok.hd calm
    have many : its.toArray.size = xs.length := by rw [List.size_toArray, ← rels.length]
    subst getX
    refine wpAny_pyNext_enum_endD (Draws.tuple hnd it a na its.toArray) isE ⟨by rw [many]; exact isI, p⟩ fun h' eb => ⟨rfl, J.turned (t' := s.toks) (fun b o inB q => eb b o inB q) g0 g1 g3 g4 g5⟩
  self := fun A i s Q E st h => let ⟨⟨_, isE⟩, _⟩ := st; wpAny_pyIter_enum isE h
def iEnumT (K : PySem.W.Frag) (ta : TA) : TI := fun σ H R => ta σ H fun vs H1 => ∃ a xs, vs = [.ref a] ∧ SqT K H1 a xs ∧ R (IteT K a xs) H1
theorem pi_enumT {X : Cx} {e : Expr} {ta : TA} {p pos tpos : Pos} {elts : List Expr} {kk : Nat} (stands : Gl X "enumerate") (own1 : X.mg "enumerate" = none) (pArgs : PA X [e] ta) (stars : starEach [e] X.env = [(false, eval e X.env)] := by rfl) :
    PI X (.Tuple elts kk tpos) (.Call (.Name "enumerate" p) [e] [] pos) (iEnumT X.K ta) := by
  refine ⟨fun pins s σ H R J h => ?_⟩
  refine Call_ (ld_blt J stands own1 boot_enumerate (PyProof.Rows.callWith_type1 (thn (pArgs.run pos pins s σ H _ J h) fun us s1 ⟨vs, H1, J1, rel1, want1⟩ => ?_) stars rfl))
  obtain ⟨a, xs, eV, qt, q⟩ := want1
  subst eV
  cases rel1 with
  | cons r rr =>
    cases rr
    cases r
    obtain ⟨its, rels, isT, szl⟩ := J1.tuple qt
    have la : a < s1.heap.objs.size := Heap.lt_size isT.choose_spec.1
    refine my_enumCall (begins_tuple a its.toArray) isT fun h' isE isI same1 => wpAny_pyIter_enum isE ?_
    have J2 : Inv X pins σ H1 { s1 with heap := h' } := J1.kept (t' := s1.toks) same1
    refine ⟨s1.heap.objs.size + 1, [s1.heap.objs.size + 1, s1.heap.objs.size], _, _, H1, rfl, J2, turn_enumT (Nat.ne_of_lt la) (Nat.ne_of_gt (Nat.lt_succ_of_lt la)), ⟨⟨.none, isE⟩, ⟨_, isI, rfl, rfl⟩, Nat.succ_ne_self _⟩, fun b inB => ?_, q⟩
    have two : b = s1.heap.objs.size + 1 ∨ b = s1.heap.objs.size := by simpa using inB
    have hle : s1.heap.objs.size ≤ b := by
      rcases two with z | z
      · rw [z]; exact Nat.le_add_right _ _
      · rw [z]; exact Nat.le_refl _
    exact J1.fpOk hle (J1.hok.fresh hle)
theorem walk_enumT {K : PySem.W.Frag} {a : Addr} {xs : List V} : Walk (IteT K a xs) xs.length (fun H => SqT K H a xs) (YPair (fun i => some (.int (i : Nat))) (fun i => xs[i]?)) :=
  ⟨fun i H hi q => ⟨q, hi⟩, fun H q => ⟨q, rfl⟩, fun i H v H' _ q ⟨T, x, h1, h2, h3, h4⟩ => ⟨T, .int (i : Nat), x, h1, h2, h3, rfl, h4⟩⟩
end RM

/-! == of nested lists, tuples and dicts that are equal -/
namespace PySem.SeqAt
open AutoSeq1 (wpAny_loadPart')
open MeetsSeq MeetsSeq2 MeetsSeq3 SeqRoads2
section
variable {prog : Program} {w : World}
theorem my_tupEq (l b : Addr) (ul vs : Array Value) (n m : Nat) (du dv : Option Addr) (su sv : Array (Option Value)) (hz : ul.size = vs.size) :
    MeetsIn prog w (Builtin.«tuple.__eq__» ⟨[.ref l, .ref b], []⟩) (fun A R s =>
      s.heap.get? l = some { cls := .type "tuple", dict := du, data := .seq ul n, slots := su } ∧ s.heap.get? b = some { cls := .type "tuple", dict := dv, data := .seq vs m, slots := sv } ∧
      (∀ j (p : j < ul.size) (q : j < vs.size), EqP prog w A.in1 s ul[j] vs[j] true) ∧ R (.ok (.ret (.bool true))) s) := by
  intro A R s h
  obtain ⟨pr, g, d, tk, os⟩ := s
  obtain ⟨isL, isB, eqs, h⟩ := h
  have sub2 := AutoSeq1.sub_tuple_tuple
  have zl : (ul.toList.zip vs.toList).length = ul.size := by simp [hz]
  wp_walk using wpAny_loadPart' isL, wpAny_loadPart' isB, wpAny_forIn_list _ (fun rest b s' => b.1 = none ∧ s' = ⟨pr, g, d, tk, os⟩ ∧ ∃ i, rest = (ul.toList.zip vs.toList).drop i) _
  case turn =>
    rintro ⟨y, x⟩ rest b s' ⟨hb', rfl, i, left⟩
    have ltZ : i < (ul.toList.zip vs.toList).length := by
      rcases Nat.lt_or_ge i (ul.toList.zip vs.toList).length with h' | h'
      · exact h'
      · rw [List.drop_of_length_le h'] at left
        cases left
    have h1 : i < ul.size := by rw [← zl]; exact ltZ
    have h2 : i < vs.size := by rw [← hz]; exact h1
    rw [List.drop_eq_getElem_cons ltZ] at left
    injection left with two more
    have eY : y = ul[i] := by have := congrArg Prod.fst two; simpa using this
    have eX : x = vs[i] := by have := congrArg Prod.snd two; simpa using this
    subst eY eX
    refine wpAny_bind (eqs i h1 h2 _ _ ?_)
    wp_walk
    exact ⟨rfl, rfl, i + 1, more⟩
  case fin =>
    rintro ⟨b1, b2⟩ s' ⟨hb', rfl, i, left⟩
    simp only at hb'
    subst hb'
    wp_walk
    simpa [Builtin.Tuple.tupleCompareSizes, hz] using h
  case h => exact ⟨rfl, rfl, 0, rfl⟩
theorem my_rcTup {A : Around} {s : Shared} {l b : Addr} {ul vs : Array Value} (isL : s.heap.IsTuple l ul) (isB : s.heap.IsTuple b vs) (hz : ul.size = vs.size) (hu : A.units < cLine)
    (eqs : ∀ j (p : j < ul.size) (q : j < vs.size), EqP prog w A.in1 s ul[j] vs[j] true) (E Q : Value → Shared → Prop) (h : Q (.bool true) s) : wpAny (model prog w) A (richCompare .Eq (.ref l) (.ref b)) Q E s := by
  obtain ⟨⟨c1, du, x1, su⟩, atL, cL, n, dL⟩ := id isL
  obtain ⟨⟨c2, dv, x2, sv⟩, atB, cB, m, dB⟩ := id isB
  simp only at cL dL cB dB
  subst cL dL cB dB
  have tyL : s.TypeIs (.ref l) "tuple" := ⟨_, atL, rfl⟩
  have tyB : s.TypeIs (.ref b) "tuple" := ⟨_, atB, rfl⟩
  exact wpAny_richCompare_same_room (op := .Eq) tyL tyB F.slot_tuple_eq (call_meetsIn F.slot_tuple_eq tyL F.entry_tuple_eq (F.args_tuple_eq_2 _ _) (my_tupEq l b ul vs n m du dv su sv hz)
    ⟨atL, atB, eqs, show Value.bool true ≠ Value.notImplemented ∧ Q (.bool true) s from ⟨(fun x => nomatch x), h⟩⟩) hu
end
end PySem.SeqAt
namespace RM
open PySem PySem.Spec PyProof.Rows L2
/-- two lists, two tuples of equal items; two dicts of the same keys, their values equal -/
def EqS (K : PySem.W.Frag) (H : Hp) (E : V → V → Prop) (x y : V) : Prop := EqR K H E x y ∨ ∃ a b xs ys, x = .ref a ∧ y = .ref b ∧ SqT K H a xs ∧ SqT K H b ys ∧ Paired E xs ys
def EqN (K : PySem.W.Frag) (H : Hp) : Nat → V → V → Prop
  | 0 => fun _ _ => False
  | n + 1 => fun x y => (x = y ∧ flatB x = true) ∨ (∃ a, x = .ref a ∧ y = .ref a) ∨ EqS K H (EqN K H n) x y
section
variable {X : Cx} {pins : List (Addr × Obj)} {σ : L2.St} {H : Hp} {s : Shared}
theorem eqS_run (I : Inv X pins σ H s) {A : Around} {F : V → V → Prop} (hu : A.units < cLine) (below : ∀ x y v u, F x y → RelV x v → RelV y u → SeqAt.EqP X.prog X.w A.in1 s v u true) {x y : V} {v u : Value} (h : EqS X.K H F x y) (rx : RelV x v) (ry : RelV y u)
    (E Q : Value → Shared → Prop) (q : Q (.bool true) s) : wpAny (model X.prog X.w) A (richCompare .Eq v u) Q E s := by
  rcases h with h | ⟨a, b, xs, ys, rfl, rfl, ha, isB, pr⟩
  · exact eqR_run I hu below h rx ry E Q q
  · cases (show v = Value.ref a from rx)
    cases (show u = Value.ref b from ry)
    obtain ⟨ul, relX, tupX, _⟩ := I.tuple ha
    obtain ⟨wl, relY, tupY, _⟩ := I.tuple isB
    have sizes : ul.toArray.size = wl.toArray.size := by
      rw [List.size_toArray, List.size_toArray, ← relX.length, ← relY.length]
      exact Paired.length pr
    refine SeqAt.my_rcTup tupX tupY sizes hu (fun j h1 h2 => ?_) E Q q
    have k := items_run below pr relX relY j (by simpa using h1) (by simpa using h2)
    simpa using k
theorem eqN_run (I : Inv X pins σ H s) : ∀ (n : Nat) (A : Around), A.units + n < cLine → ∀ (x y : V) (v u : Value), EqN X.K H n x y → RelV x v → RelV y u → SeqAt.EqP X.prog X.w A s v u true
  | 0, _, _, _, _, _, _, h, _, _ => (show False from h).elim
  | n + 1, A, hu, x, y, v, u, h, rx, ry => by
    rcases h with ⟨rfl, f⟩ | ⟨a, rfl, rfl⟩ | h
    · exact (eqAt_same rx ry f).eqP
    · cases (show v = Value.ref a from rx)
      cases (show u = Value.ref a from ry)
      exact (SeqAt.EqAt.same _).eqP
    · have stp := eqS_run I (A := A) (by omega) (eqN_run I n A.in1 (by show A.units + 1 + n < cLine; omega)) h rx ry
      obtain ⟨a, b, rfl, rfl⟩ : ∃ a b, x = .ref a ∧ y = .ref b := by
        rcases h with (⟨a, b, _, _, e1, e2, _⟩ | ⟨a, b, _, _, e1, e2, _⟩) | ⟨a, b, _, _, e1, e2, _⟩
        · exact ⟨a, b, e1, e2⟩
        · exact ⟨a, b, e1, e2⟩
        · exact ⟨a, b, e1, e2⟩
      cases (show v = Value.ref a from rx)
      cases (show u = Value.ref b from ry)
      by_cases e : a = b
      · subst e
        exact (SeqAt.EqAt.same _).eqP
      · exact SeqAt.eqP_refs e stp
end
section
variable {X : Cx}
/-- a == b, two lists, tuples or dicts that are equal -/
def rEqN (K : PySem.W.Frag) : R2 := fun x y H Q => ∃ n, n ≤ 60 ∧ EqS K H (EqN K H n) x y ∧ Q (.bl true) H
theorem op_eqN (hu : X.A.units + 64 < cLine) : OpR X (compareOp .Eq) (rEqN X.K) := by
  intro pins s σ H x y v u Q I rx ry h
  obtain ⟨n, hn, h, q⟩ := h
  exact eqS_run I (A := X.A) (by omega) (eqN_run I n X.A.in1 (by show X.A.units + 1 + n < cLine; omega)) h rx ry _ _ ⟨.bl true, H, I, rfl, q⟩
end
end RM

/-! orders: the mathematics -/
namespace Bn
open PySem PySem.Spec PyProof.Rows L2 BR GX RM GY
theorem paired_mono {α β : Type} {R S : α → β → Prop} {l : List α} {m : List β} (h : Paired R l m) (f : ∀ a b, R a b → S a b) : Paired S l m := by
  induction h with
  | nil => exact .nil
  | cons x _ ih => exact .cons (f _ _ x) ih
theorem paired_snoc {α β : Type} {R : α → β → Prop} {l : List α} {m : List β} {a : α} {b : β} (h : Paired R l m) (x : R a b) : Paired R (l ++ [a]) (m ++ [b]) := by
  induction h with
  | nil => exact .cons x .nil
  | cons y _ ih => exact .cons y ih
theorem paired_mono2 {α β : Type} {R S : α → β → Prop} {l : List α} {m : List β} (h : Paired R l m) : (∀ {b : β} (a : α), a ∈ l → R a b → S a b) → Paired S l m := by
  induction h with
  | nil => exact fun _ => .nil
  | cons x _ ih => exact fun f => .cons (f _ (List.mem_cons_self ..) x) (ih fun a ha r => f a (List.mem_cons_of_mem _ ha) r)
theorem paired_app {α β : Type} {R : α → β → Prop} {l l' : List α} {m m' : List β} (h : Paired R l m) (h' : Paired R l' m') : Paired R (l ++ l') (m ++ m') := by
  induction h with
  | nil => exact h'
  | cons x _ ih => exact .cons x ih
theorem paired_at {α β : Type} {R : α → β → Prop} {l : List α} {m : List β} (h : Paired R l m) : ∀ {i : Nat} {x : α}, l[i]? = some x → ∃ y, m[i]? = some y ∧ R x y := by
  induction h with
  | nil => intro i x e; simp at e
  | cons r _ ih =>
    intro i x e
    cases i with
    | zero =>
      cases Option.some.inj e
      exact ⟨_, rfl, r⟩
    | succ j => exact ih e
abbrev Rw := List Nat
abbrev iv (r : Rw) : List V := r.map fun n => V.int (n : Nat)
def absI (x : Int) : Int := if x < 0 then -x else x
def nearB (st : Int) (n p : Nat) : Bool := decide (absI ((p : Int) - (n : Int)) ≤ st)
def nearF (m : Nat) (st : Int) (n : Nat) : List Nat := (List.range m).filter (nearB st n)
def stepF (vals : List Nat) (r : Rw) : List Rw := (vals.filter fun p => decide (p ∉ r)).map fun p => r ++ [p]
def rowsF (m : Nat) (st : Int) : Nat → List Rw
  | 0 => [[]]
  | k + 1 => (rowsF m st k).flatMap (stepF (nearF m st k))
abbrev Prs := List (Nat × Nat)
def aheadF (A : Prs) (r : Rw) : Bool := A.all fun pr => decide (r.getD pr.1 0 < r.getD pr.2 0)
def plF (m : Nat) (st : Int) (A : Prs) : List Rw := (rowsF m st m).filter (aheadF A)
theorem near_lt {m n : Nat} {st : Int} : ∀ p ∈ nearF m st n, p < m := fun p hp => List.mem_range.mp (List.mem_filter.mp hp).1
theorem near_len (m n : Nat) (st : Int) : (nearF m st n).length ≤ m := Nat.le_trans (List.length_filter_le _ _) (by rw [List.length_range]; exact Nat.le_refl _)
theorem step_len (vals : List Nat) (r : Rw) : (stepF vals r).length ≤ vals.length := by
  unfold stepF
  rw [List.length_map]
  exact List.length_filter_le _ _
theorem flatMap_len {α β : Type} (f : α → List β) (n : Nat) : ∀ (l : List α), (∀ x ∈ l, (f x).length ≤ n) → (l.flatMap f).length ≤ l.length * n
  | [], _ => by simp
  | x :: l, h => by
    rw [List.flatMap_cons, List.length_append, List.length_cons, Nat.add_mul, Nat.one_mul]
    have := flatMap_len f n l fun y hy => h y (List.mem_cons_of_mem _ hy)
    have h1 := h x (List.mem_cons_self ..)
    omega
theorem rows_size (m : Nat) (st : Int) : ∀ k, (rowsF m st k).length ≤ m ^ k
  | 0 => Nat.le_refl _
  | k + 1 => by
    have := flatMap_len (stepF (nearF m st k)) m (rowsF m st k) fun r _ => Nat.le_trans (step_len _ _) (near_len _ _ _)
    exact Nat.le_trans this (Nat.mul_le_mul_right m (rows_size m st k))
theorem rows_in (m : Nat) (st : Int) : ∀ k, ∀ r ∈ rowsF m st k, r.length = k ∧ ∀ p ∈ r, p < m
  | 0 => fun r hr => by
    rw [List.mem_singleton.mp hr]
    exact ⟨rfl, fun p hp => by cases hp⟩
  | k + 1 => fun r hr => by
    obtain ⟨r0, h0, h1⟩ := List.mem_flatMap.mp hr
    obtain ⟨p, hp, e⟩ := List.mem_map.mp h1
    obtain ⟨i1, i2⟩ := rows_in m st k r0 h0
    subst e
    refine ⟨by rw [List.length_append, i1]; rfl, fun q hq => ?_⟩
    rcases List.mem_append.mp hq with z | z
    · exact i2 q z
    · rw [List.mem_singleton.mp z]
      exact near_lt p (List.mem_filter.mp hp).1
theorem pow5 {m k : Nat} (hm : m ≤ 5) (hk : k ≤ 5) : m ^ k ≤ 3125 := Nat.le_trans (Nat.pow_le_pow_left hm k) (Nat.le_trans (Nat.pow_le_pow_right (by decide) hk) (by decide))
theorem line4000 {n : Nat} (h : n ≤ 4000) : n < sizeLine := Nat.lt_of_le_of_lt h (by decide)
theorem take_get {α : Type} {l : List α} {i : Nat} {x : α} (h : l[i]? = some x) : l.take (i + 1) = l.take i ++ [x] := by
  rw [List.take_succ, h]
  rfl
theorem filter_snoc {α : Type} {l : List α} {i : Nat} {x : α} {f : α → Bool} (h : l[i]? = some x) : (l.take (i + 1)).filter f = (l.take i).filter f ++ (if f x = true then [x] else []) := by
  rw [take_get h, List.filter_append]
  congr 1
  by_cases e : f x = true
  · rw [if_pos e, List.filter_cons_of_pos e]
    rfl
  · rw [if_neg e, List.filter_cons_of_neg e]
    rfl
theorem flatMap_snoc {α β : Type} (f : α → List β) (l : List α) (x : α) : (l ++ [x]).flatMap f = l.flatMap f ++ f x := by
  rw [List.flatMap_append]
  simp
theorem inV_int (p : Nat) : ∀ r : Rw, inV (V.int (p : Nat)) (iv r) = decide (p ∈ r)
  | [] => rfl
  | q :: r => by
    have ih := inV_int p r
    have e : inV (V.int (p : Nat)) (iv (q :: r)) = (eqV (V.int (q : Nat)) (V.int (p : Nat)) || inV (V.int (p : Nat)) (iv r)) := by
      unfold inV
      rfl
    rw [e, ih]
    have e2 : eqV (V.int (q : Nat)) (V.int (p : Nat)) = decide (p = q) := by
      unfold eqV
      by_cases h : p = q
      · subst h
        simp
      · have : ¬ (q : Int) = (p : Int) := by omega
        simp [h, this]
    rw [e2]
    by_cases h : p = q
    · simp [h]
    · simp [h]
theorem flat_ints (r : Rw) : (iv r).all flatV = true := by
  induction r with
  | nil => rfl
  | cons a r ih =>
    show (flatV (V.int (a : Nat)) && (iv r).all flatV) = true
    rw [ih]
    rfl
theorem all_snoc {α : Type} {l : List α} {i : Nat} {x : α} {f : α → Bool} (h : l[i]? = some x) : (l.take (i + 1)).all f = ((l.take i).all f && f x) := by
  rw [take_get h, List.all_append]
  simp
theorem all_bad {α : Type} {l : List α} {i : Nat} {x : α} {f : α → Bool} (h : l[i]? = some x) (e : f x = false) : l.all f = false := by
  rw [List.all_eq_false]
  exact ⟨x, List.mem_of_getElem? h, by rw [e]; decide⟩
end Bn

namespace Bn
open PySem PySem.Spec PyProof.Rows L2
def topS (i : Nat) : Stmt := PySem.Challenge.pw_speechloom_k15_orders.main.body.getD i (.Pass ⟨0, 0, 0, 0⟩)
abbrev s_places_of : Stmt := topS 1
theorem sc_places_of : FnScope ["rule", "many", "stray", "stir", "ahead", "rows", "number", "near", "place", "row", "one", "other"] ["rule"] (defScope s_places_of) := ⟨rfl, rfl, rfl, by decide +kernel, rfl, by decide +kernel, by decide +kernel⟩
abbrev s_stir_of : Stmt := topS 2
theorem sc_stir_of : FnScope ["rule", "places", "number", "place"] ["rule", "places"] (defScope s_stir_of) := ⟨rfl, rfl, rfl, by decide +kernel, rfl, by decide +kernel, by decide +kernel⟩
abbrev s_stir_at : Stmt := topS 3
theorem sc_stir_at : FnScope ["rule", "part", "place"] ["rule", "part", "place"] (defScope s_stir_at) := ⟨rfl, rfl, rfl, by decide +kernel, rfl, by decide +kernel, by decide +kernel⟩
abbrev s_l_cell_at : Stmt := topS 5
theorem sc_l_cell_at : FnScope ["_law_script", "_law_k"] ["_law_script", "_law_k"] (defScope s_l_cell_at) := ⟨rfl, rfl, rfl, by decide +kernel, rfl, by decide +kernel, by decide +kernel⟩
abbrev s_l_mixed : Stmt := topS 6
theorem sc_l_mixed : FnScope ["_law_number", "_law_k", "_law_once", "_law_twice"] ["_law_number", "_law_k"] (defScope s_l_mixed) := ⟨rfl, rfl, rfl, by decide +kernel, rfl, by decide +kernel, by decide +kernel⟩
abbrev s_l_box : Stmt := topS 7
theorem sc_l_box : FnScope ["_law_script", "_law_k", "_law_cell"] ["_law_script", "_law_k"] (defScope s_l_box) := ⟨rfl, rfl, rfl, by decide +kernel, rfl, by decide +kernel, by decide +kernel⟩
abbrev s_l_take : Stmt := topS 8
theorem sc_l_take : FnScope ["_law_box_here", "_law_many", "_law_found"] ["_law_box_here", "_law_many"] (defScope s_l_take) := ⟨rfl, rfl, rfl, by decide +kernel, rfl, by decide +kernel, by decide +kernel⟩
abbrev s_l_rows_of : Stmt := topS 9
theorem sc_l_rows_of : FnScope ["_law_many", "_law_rows", "_law_part", "_law_longer", "_law_row", "_law_at"] ["_law_many"] (defScope s_l_rows_of) := ⟨rfl, rfl, rfl, by decide +kernel, rfl, by decide +kernel, by decide +kernel⟩
abbrev s_l_order : Stmt := topS 10
theorem sc_l_order : FnScope ["_law_box_here", "_law_many", "_law_ahead", "_law_k", "_law_one", "_law_stir"] ["_law_box_here", "_law_many"] (defScope s_l_order) := ⟨rfl, rfl, rfl, by decide +kernel, rfl, by decide +kernel, by decide +kernel⟩
abbrev s_l_stands : Stmt := topS 11
theorem sc_l_stands : FnScope ["_law_row", "_law_stray", "_law_ahead", "_law_place", "_law_part", "_law_one", "_law_other"] ["_law_row", "_law_stray", "_law_ahead"] (defScope s_l_stands) := ⟨rfl, rfl, rfl, by decide +kernel, rfl, by decide +kernel, by decide +kernel⟩
abbrev s_l_due : Stmt := topS 12
theorem sc_l_due : FnScope ["_law_many", "_law_stray", "_law_ahead", "_law_found", "_law_row", "_law_part"] ["_law_many", "_law_stray", "_law_ahead"] (defScope s_l_due) := ⟨rfl, rfl, rfl, by decide +kernel, rfl, by decide +kernel, by decide +kernel⟩
abbrev s_l_right : Stmt := topS 13
theorem sc_l_right : FnScope ["_law_box_here", "_law_many", "_law_head", "_law_parts", "_law_order_here", "_law_rule", "_law_due_here", "_law_turn", "_law_found", "_law_places", "_law_off", "_law_k", "_law_place"] ["_law_box_here"] (defScope s_l_right) := ⟨rfl, rfl, rfl, by decide +kernel, rfl, by decide +kernel, by decide +kernel⟩
abbrev s_law : Stmt := topS 14
theorem sc_law : FnScope ["_law_script", "_law_k"] ["_law_script"] (defScope s_law) := ⟨rfl, rfl, rfl, by decide +kernel, rfl, by decide +kernel, by decide +kernel⟩

end Bn

namespace Bn
open PySem PySem.Spec PyProof.Rows L2 BR GX RM GY
def lcScope : Stmt → Scope
  | .Return (some (.ListComp _ _ sc _)) _ => sc
  | _ => { kind := .function, names := [], isGenerator := false, isCoroutine := false }
abbrev scAhead : Scope := relabel (lcScope ((defBody s_places_of).getD 4 (.Pass ⟨0, 0, 0, 0⟩))) (envOfC "" (defScope s_places_of) 0 0 .none)
section
variable {P : Program} {w : World} {K : PySem.W.Frag} {mg : Str → Option Value} {base : Heap}
abbrev NP : List Str := ["rule", "many", "stray", "stir", "ahead", "rows", "number", "near", "place", "row", "one", "other"]
/-- rows of whole numbers, as tuples -/
abbrev Tps (H : Hp) (ts : List Addr) (L : List Rw) : Prop := Paired (fun t r => H t = some (.tup (iv r))) ts L
theorem Tps.same {H H' : Hp} {ts : List Addr} {L : List Rw} (h : Tps H ts L) (s : Same H H') : Tps H' ts L := paired_mono h fun _ _ e => s _ _ e
theorem Tps.sameN {Ps : List Addr} {H H' : Hp} {ts : List Addr} {L : List Rw} (h : Tps H ts L) (s : SameN Ps H H') : Tps H' ts L := paired_mono h fun _ _ e => s.k _ _ nt_tup e
theorem Tps.updL {H : Hp} {D : Addr} {ts : List Addr} {L : List Rw} {xs : List V} {o : HO} (h : Tps H ts L) (hD : H D = some (.lst xs)) : Tps (upd H D o) ts L := paired_mono h fun _ _ e => by
  rw [upd_ne (ne_of e hD (by intro z; cases z))]
  exact e
def RowsAt (H : Hp) (r : Addr) (L : List Rw) : Prop := ∃ ts, H r = some (.lst (ts.map V.ref)) ∧ Tps H ts L
/-- pairs of parts -/
abbrev Pas (H : Hp) (ts : List Addr) (A : Prs) : Prop := Paired (fun t pr => H t = some (.tup [.int ((pr : Nat × Nat).1 : Nat), .int (pr.2 : Nat)])) ts A
/-- a rule: m parts, its order's stray, stir and pairs -/
structure RuleAt (H : Hp) (a : Addr) (m : Nat) (st si : Int) (A : Prs) (pl o al : Addr) (ps : List V) (as : List Addr) (r0 r1 r2 r3 r5 : V) : Prop where
  a : H a = some (.tup [r0, r1, r2, r3, .ref pl, r5, .ref o])
  pl : H pl = some (.lst ps)
  len : ps.length = m
  o : H o = some (.tup [.int st, .int si, .ref al])
  al : H al = some (.lst (as.map V.ref))
  as : Pas H as A
theorem RuleAt.same {H H' : Hp} {a : Addr} {m : Nat} {st si : Int} {A : Prs} {pl o al : Addr} {ps : List V} {as : List Addr} {r0 r1 r2 r3 r5 : V} (h : RuleAt H a m st si A pl o al ps as r0 r1 r2 r3 r5) (s : Same H H') : RuleAt H' a m st si A pl o al ps as r0 r1 r2 r3 r5 :=
  ⟨s _ _ h.a, s _ _ h.pl, h.len, s _ _ h.o, s _ _ h.al, paired_mono h.as fun _ _ e => s _ _ e⟩
theorem RuleAt.sameN {Ps : List Addr} {H H' : Hp} {a : Addr} {m : Nat} {st si : Int} {A : Prs} {pl o al : Addr} {ps : List V} {as : List Addr} {r0 r1 r2 r3 r5 : V} (h : RuleAt H a m st si A pl o al ps as r0 r1 r2 r3 r5) (s : SameN Ps H H') : RuleAt H' a m st si A pl o al ps as r0 r1 r2 r3 r5 :=
  ⟨s.k _ _ nt_tup h.a, s.k _ _ nt_lst h.pl, h.len, s.k _ _ nt_tup h.o, s.k _ _ nt_lst h.al, paired_mono h.as fun _ _ e => s.k _ _ nt_tup e⟩
def spPl (Ps : List Addr) : Sp := fun vs H Q _ => ∃ (a pl o al : Addr) (m : Nat) (st si : Int) (A : Prs) (ps : List V) (as : List Addr) (r0 r1 r2 r3 r5 : V), vs = [.ref a] ∧ RuleAt H a m st si A pl o al ps as r0 r1 r2 r3 r5 ∧ m ≤ 5 ∧ (∀ pr ∈ A, pr.1 < m ∧ pr.2 < m) ∧ Tabs Ps H ∧
  ∀ r H', H r = none → SameN Ps H H' → RowsAt H' r (plF m st A) → Q (.ref r) H'
theorem ok_places {f c0 pT : Addr} {fd : FuncData} {Ps : List Addr} {k : Nat} (F : FunC K "places_of" "places_of" s_places_of f fd c0) (TB : GxR.TabB base mg c0 pT) (hP : pT ∈ Ps) (ml : mg "len" = none) (mr : mg "range" = none) (mab : mg "abs" = none) (ma : mg "all" = none) : FnOk P w K mg base CX0 (k + 5) f fd ["rule"] (spPl Ps) := by
  refine F.ok sc_places_of (fun vs H Q E h => ?_) (fun A outer s H vs Q E hr h => ?_)
  · obtain ⟨a, pl, o, al, m, st, si, A', ps, as, r0, r1, r2, r3, r5, rfl, _⟩ := h
    rfl
  · obtain ⟨a, pl, o, al, m, st, si, A', ps, as, r0, r1, r2, r3, r5, rfl, hR, hm5, hA, hT, q⟩ := h
    refine ⟨_, pss_cons (ps_set (i := 1) sc_places_of.nd rfl (.inl rfl) (pe_callB call_len_seq (by rfl) ml PySem.boot_len (pa_cons (pe_ix ix_tup (pv 0) pe_int (fun _ _ => rfl)) pa_nil)))
      (pss_cons (ps_asg (pe_ix ix_tup (pv 0) pe_int (fun _ _ => rfl)) (pg_tup rfl (pgs_cons (pg_name (i := 2) sc_places_of.nd rfl (.inr rfl)) (pgs_cons (pg_name (i := 3) sc_places_of.nd rfl (.inl rfl)) (pgs_cons (pg_name (i := 4) sc_places_of.nd rfl (.inr rfl)) pgs_nil)))))
      (pss_cons (ps_set (i := 5) sc_places_of.nd rfl (.inl rfl) (pe_lst (pa_cons (pe_tup pa_nil) pa_nil)))
      (pss_cons (ps_for PassesOwn.never rfl (pi_range1 (by rfl) mr (pa_cons (pv 1) pa_nil)) (pg_name (i := 6) sc_places_of.nd rfl (.inr rfl))
        (pss_cons (ps_set (i := 7) sc_places_of.nd rfl (.inr rfl) (pe_lc (own := [("place", 8)]) (g := gName 8) rfl sc_places_of.nd (pi_range1 (by rfl) mr (pa_cons (pv 1) pa_nil))
            (blkOk_by (own := [("place", 8)]) (N := NP) (sc := defScope s_places_of) (by decide +kernel))
            (fun _ _ _ _ _ => pg_name (i := 8) sc_places_of.nd rfl (Or.inl rfl)) (fun _ _ _ _ _ => pts_one (pt_cmpR op_le (pe_callB call_abs (by rfl) mab (by decide +kernel) (pa_cons (pe_op op_sub (pv 8) (pv 6)) pa_nil)) (pv 2) (nomark _))) (fun _ _ _ _ _ => pv 8)))
        (pss_one (ps_setLc2 (i := 5) (own := [("row", 9), ("place", 8)]) (vs1 := [8]) (g := gName 9) (g1 := gName 8) rfl sc_places_of.nd rfl rfl (sw_true rfl rfl rfl (by decide +kernel)) (pi_list (pv 5))
            (blkOk_by (own := [("row", 9), ("place", 8)]) (N := NP) (sc := defScope s_places_of) (by decide +kernel)) (by decide)
            (fun _ _ _ _ _ => pg_name (i := 9) sc_places_of.nd rfl (Or.inl rfl)) (fun _ _ _ _ _ => pts_nil)
            (fun _ _ _ _ _ => pi_listK (K := K) rfl (pv 7)) (fun _ _ _ _ _ => pg_name (i := 8) sc_places_of.nd rfl (Or.inl rfl)) (fun _ _ _ _ _ => pts_one (pt_cmpR (op_notInK (K := K) rfl) (pv 8) (pv 9) (by rfl)))
            (fun _ _ _ _ _ => pe_tup (pa_starK (K := K) rfl (pv 9) (pa_cons (pv 8) pa_nil)))))))
      (pss_one (ps_ret (pe_lc (own := [("row", 9)]) (g := gName 9) rfl sc_places_of.nd (pi_list (pv 5))
            (blkOk_by (own := [("row", 9)]) (N := NP) (sc := defScope s_places_of) (by decide +kernel))
            (fun _ _ _ _ _ => pg_name (i := 9) sc_places_of.nd rfl (Or.inr rfl)) (fun _ _ _ _ _ => pts_one (pt_val (pe_all (own := [("one", 10), ("other", 11)]) hr (by rfl) ma (by decide +kernel) TB rfl rfl sc_places_of.nd (pi_listK (K := K) rfl (pv 4))
              (blkOk_by (own := [("one", 10), ("other", 11)]) (N := NP) (sc := scAhead) (by decide +kernel)) rfl (by decide +kernel) rfl
              (fun _ _ _ _ _ _ => pg_tupK (K := K) (n := 2) rfl (pg_tup (n := 2) rfl (pgs_cons (pg_name (i := 10) sc_places_of.nd rfl (Or.inl rfl)) (pgs_cons (pg_name (i := 11) sc_places_of.nd rfl (Or.inl rfl)) pgs_nil)))) (fun _ _ _ _ _ _ => pts_nil)
              (fun _ _ _ _ _ _ => pe_cmpR op_lt (pe_ix (ix_tupK (K := K) rfl) (pv 9) (pv 10) (fun _ _ => rfl)) (pe_ix (ix_tupK (K := K) rfl) (pv 9) (pv 11) (fun _ _ => rfl)) (nomark _))))) (fun _ _ _ _ _ => pv 9))))))), ?_⟩
    refine ⟨_, rfl, a, _, _, V.ref pl, rfl, rfl, .inl (.inl hR.a), rfl, pl, _, rfl, .inl (.inl (.inl hR.pl)), ?_⟩
    rw [hR.len]
    refine ⟨_, rfl, a, _, _, V.ref o, rfl, rfl, .inl (.inl hR.a), rfl, o, _, rfl, .inl (.inl hR.o), rfl, _, _, rfl, _, _, rfl, _, _, rfl, rfl, ?_⟩
    refine ⟨Nat.zero_le _, fun t nt => ⟨(show 1 ≤ sizeLine by decide), fun r nr => ?_⟩⟩
    have sA : Same H (upd H t (.tup [])) := same_new nt
    have ht : (upd H t (.tup [])) t = some (.tup []) := upd_same
    generalize upd H t (.tup []) = HA at sA ht nr ⊢
    have sB : Same HA (upd HA r (.lst [.ref t])) := same_new nr
    have hr0 : (upd HA r (.lst [.ref t])) r = some (.lst [.ref t]) := upd_same
    have nrH : H r = none := sA.free nr
    generalize upd HA r (.lst [.ref t]) = HB at sB hr0 ⊢
    have sHB : Same H HB := sA.trans sB
    refine ⟨_, rfl, ((m : Nat) : Int), rfl, by omega, by omega, ?_⟩
    rw [Int.toNat_natCast]
    refine for_it (walk_range (lo := 0) (n := m)) (fun i σ HY => ∃ (r : Addr) (y6 y7 y8 y9 y10 y11 : Option V), σ = [some (.ref a), some (.int (m : Nat)), some (.int st), some (.int si), some (.ref al), some (.ref r), y6, y7, y8, y9, y10, y11] ∧ Same HB HY ∧ H r = none ∧ RowsAt HY r (rowsF m st i))
      ⟨r, _, _, _, _, _, _, rfl, Same.refl _, nrH, [t], hr0, .cons (sB _ _ ht) .nil⟩ (fun _ _ _ _ _ => trivial) (fun i x σ HY HY' hi hP' hY => ?_) (fun σ HY hP' => ?_)
    · obtain ⟨rfl, rfl⟩ := hY
      obtain ⟨r, y6, y7, y8, y9, y10, y11, rfl, sY, nr', ts, hr', hts⟩ := hP'
      have hrl : (rowsF m st i).length ≤ 3125 := Nat.le_trans (rows_size m st i) (pow5 hm5 (by omega))
      have htl : ts.length = (rowsF m st i).length := Paired.length hts
      have hcast : (0 : Int) + (i : Nat) = (i : Nat) := Int.zero_add _
      refine ⟨_, rfl, ((m : Nat) : Int), rfl, by omega, by omega, fun D nD => ?_⟩
      rw [Int.toNat_natCast]
      refine lc_range (lo := 0) (n := m) (fun j HZ => Same HY' HZ ∧ HZ D = some (.lst (iv (((List.range m).take j).filter (nearB st i))))) ⟨same_new nD, upd_same⟩ (fun j HZ hj hP' => ?_) (fun HZ hP' => ?_)
      · obtain ⟨sZ, hD⟩ := hP'
        have ej : (List.range m)[j]? = some j := by rw [List.getElem?_range hj]
        have few : (iv (((List.range m).take j).filter (nearB st i))).length < sizeLine := by
          rw [List.length_map]
          refine small1000 (Nat.le_trans (List.length_filter_le _ _) ?_)
          rw [List.length_take]
          omega
        refine ⟨rfl, _, rfl, _, rfl, _, _, rfl, rfl, _, rfl, _, rfl, _, _, rfl, rfl, _, rfl, ?_⟩
        have ec : ∀ x : Int, x = ((j : Int) - (i : Int)) → (decide ((if x < 0 then -x else x) ≤ st)) = nearB st i j := fun x e => by
          subst e
          rfl
        refine ite2 (fun e => ?_) (fun e => ?_)
        · rw [ec _ (by omega)] at e
          refine ⟨_, rfl, _, hD, few, Same.own sZ nD, ?_⟩
          rw [upd_same, filter_snoc ej, if_pos e]
          show some (HO.lst (iv _ ++ [V.int (0 + (j : Nat))])) = some (.lst (iv (_ ++ [j])))
          rw [Int.zero_add, iv, iv, List.map_append]
          rfl
        · rw [ec _ (by omega)] at e
          refine ⟨sZ, ?_⟩
          rw [filter_snoc ej, if_neg e, List.append_nil]
          exact hD
      · obtain ⟨sZ, hD⟩ := hP'
        rw [List.take_of_length_le (by rw [List.length_range]; exact Nat.le_refl _)] at hD
        have hD' : HZ D = some (.lst (iv (nearF m st i))) := hD
        generalize hvals : nearF m st i = vals at hD'
        have hvl : vals.length ≤ 5 := by
          rw [← hvals]
          exact Nat.le_trans (near_len _ _ _) hm5
        generalize hrows : rowsF m st i = rows at hts hrl htl
        have next : rowsF m st (i + 1) = rows.flatMap (stepF vals) := by
          show (rowsF m st i).flatMap (stepF (nearF m st i)) = _
          rw [hrows, hvals]
        have hrZ := sZ _ _ hr'
        have htsZ := hts.same sZ
        refine ⟨_, rfl, r, rfl, ⟨_, .inl (.inl hrZ)⟩, fun D2 nD2 => ?_⟩
        have nD2H : H D2 = none := sHB.free (sY.free (sZ.free nD2))
        refine lc2_it (walk_list (K := K) (a := r) (xs := ts.map V.ref)) (fun i HW => Same HZ HW ∧ ∃ us : List Addr, HW D2 = some (.lst (us.map V.ref)) ∧ Tps HW us ((rows.take i).flatMap (stepF vals))) ⟨same_new nD2, [], upd_same, .nil⟩ (fun j HW _ h => .inl (.inl (h.1 _ _ hrZ))) (fun j x HW HW' hj hP' hY => ?_) (fun HW hP' => ?_)
        · obtain ⟨rfl, hx3⟩ := hY
          obtain ⟨sW, us, hD2, hus⟩ := hP'
          rw [List.getElem?_map] at hx3
          obtain ⟨t1, et1, ex⟩ := Option.map_eq_some_iff.mp hx3
          subst ex
          obtain ⟨row, hrow, ht1⟩ := paired_at htsZ et1
          have hjr : j < rows.length := (List.getElem?_eq_some_iff.mp hrow).1
          have hrin := rows_in m st i row (by rw [hrows]; exact List.mem_of_getElem? hrow)
          refine ⟨rfl, tYes_in ⟨_, rfl, D, rfl, ⟨_, .inl (.inl (sW _ _ hD'))⟩, ?_⟩⟩
          refine in2_it (walk_list (K := K) (a := D) (xs := iv vals)) (fun k HU => Same HZ HU ∧ ∃ us : List Addr, HU D2 = some (.lst (us.map V.ref)) ∧ Tps HU us (((rows.take j).flatMap (stepF vals)) ++ stepF (vals.take k) row)) ⟨sW, us, hD2, by rw [List.take_zero]; show Tps _ us (_ ++ []); rw [List.append_nil]; exact hus⟩ (fun k HU _ h => .inl (.inl (h.1 _ _ hD'))) (fun k x HU HU' hk' hP' hY => ?_) (fun HU hP' => ?_)
          · obtain ⟨rfl, hx4⟩ := hY
            obtain ⟨sU, us, hD2, hus⟩ := hP'
            rw [List.getElem?_map] at hx4
            obtain ⟨v, ev, ex⟩ := Option.map_eq_some_iff.mp hx4
            subst ex
            have hkv : k < vals.length := (List.getElem?_eq_some_iff.mp ev).1
            have hul : us.length < sizeLine := by
              have e := Paired.length hus
              rw [List.length_append] at e
              have e2 := flatMap_len (stepF vals) 5 (rows.take j) fun r _ => Nat.le_trans (step_len vals r) hvl
              have e3 := step_len (vals.take k) row
              rw [List.length_take] at e2 e3
              exact Nat.lt_of_le_of_lt (show us.length ≤ 20000 by omega) (by decide)
            refine ⟨rfl, _, rfl, _, rfl, t1, _, rfl, .inr (.inl (.inl (sU _ _ ht1))), rfl, flat_ints row, _, rfl, ite2 (fun e => ?_) (fun e => ?_)⟩
            · have e' : (!inV (V.int (v : Nat)) (iv row)) = true := e
              rw [inV_int] at e'
              have e2 : decide (v ∉ row) = true := by simpa using e'
              refine ⟨_, rfl, t1, _, rfl, .inl (.inl (.inl (sU _ _ ht1))), _, rfl, ?_, fun p np => ?_⟩
              · rw [List.length_append, List.length_map, hrin.1]
                exact line1000 (by show i + 1 ≤ 1000; omega)
              · have sP : Same HU' (upd HU' p (.tup (iv row ++ [V.int (v : Nat)]))) := same_new np
                have hp : (upd HU' p (.tup (iv row ++ [V.int (v : Nat)]))) p = some (.tup (iv (row ++ [v]))) := by
                  rw [upd_same, iv, iv, List.map_append]
                  rfl
                generalize upd HU' p (.tup (iv row ++ [V.int (v : Nat)])) = HQ at sP hp ⊢
                have hD3 := sP _ _ hD2
                refine ⟨_, hD3, by rw [List.length_map]; exact hul, Same.own (sU.trans sP) nD2, us ++ [p], ?_, ?_⟩
                · rw [upd_same, List.map_append]
                  rfl
                · have e3 : stepF (vals.take (k + 1)) row = stepF (vals.take k) row ++ [row ++ [v]] := by
                    unfold stepF
                    rw [filter_snoc ev, if_pos e2, List.map_append]
                    rfl
                  rw [e3, ← List.append_assoc]
                  exact Tps.updL (paired_snoc (hus.same sP) hp) hD3
            · have e' : ¬ (!inV (V.int (v : Nat)) (iv row)) = true := e
              rw [inV_int] at e'
              have e2 : ¬ decide (v ∉ row) = true := by simpa using e'
              refine ⟨sU, us, hD2, ?_⟩
              have e3 : stepF (vals.take (k + 1)) row = stepF (vals.take k) row := by
                unfold stepF
                rw [filter_snoc ev, if_neg e2, List.append_nil]
              rw [e3]
              exact hus
          · obtain ⟨sU, us, hD2, hus⟩ := hP'
            rw [List.length_map, List.take_length] at hus
            refine ⟨sU, us, hD2, ?_⟩
            rw [take_get hrow, flatMap_snoc]
            exact hus
        · obtain ⟨sW, us, hD2, hus⟩ := hP'
          rw [List.length_map, htl, List.take_length] at hus
          refine ⟨D2, _, _, _, _, _, _, rfl, (sY.trans sZ).trans sW, nD2H, us, hD2, ?_⟩
          rw [next]
          exact hus
    · obtain ⟨r, y6, y7, y8, y9, y10, y11, rfl, sY, nr', ts, hr', hts⟩ := hP'
      have hrl : (rowsF m st m).length ≤ 3125 := Nat.le_trans (rows_size m st m) (pow5 hm5 hm5)
      have htl : ts.length = (rowsF m st m).length := Paired.length hts
      have sHY : Same H HY := sHB.trans sY
      have hTY : Tabs Ps HY := hT.same sHY
      refine ⟨_, rfl, r, rfl, ⟨_, .inl (.inl hr')⟩, fun D nD => ?_⟩
      have nDH : H D = none := sHY.free nD
      have sD : Same HY (upd HY D (.lst [])) := same_new nD
      refine lc_it (walk_list (K := K) (a := r) (xs := ts.map V.ref)) (fun i HX => SameN Ps HY HX ∧ ∃ us : List Addr, HX D = some (.lst (us.map V.ref)) ∧ Tps HX us (((rowsF m st m).take i).filter (aheadF A'))) ⟨SameN.of hTY sD, [], upd_same, .nil⟩ (fun i HX _ h => .inl (.inl (h.1.k _ _ nt_lst hr'))) (fun i x HX HX' hi hP' hY => ?_) (fun HX hP' => ?_)
      · obtain ⟨rfl, hx⟩ := hY
        obtain ⟨sX, us, hD, hus⟩ := hP'
        rw [List.getElem?_map] at hx
        obtain ⟨t1, et1, ex⟩ := Option.map_eq_some_iff.mp hx
        subst ex
        obtain ⟨row, hrow, ht1⟩ := paired_at hts et1
        obtain ⟨rl, rin⟩ := rows_in m st m row (List.mem_of_getElem? hrow)
        refine ⟨rfl, ?_⟩
        have hRX : RuleAt HX' a m st si A' pl o al ps as r0 r1 r2 r3 r5 := (hR.same sHY).sameN sX
        refine ⟨_, rfl, al, rfl, ⟨_, .inl (.inl hRX.al)⟩, sX.t _ hP, fun H2 hTb => ?_⟩
        have s2 : SameN Ps HX' H2 := SameN.tab sX.t hP hTb
        have hlenA : as.length = A'.length := Paired.length hR.as
        -- what follows the test
        have fin : ∀ {HZ : Hp} {b : Bool}, SameN Ps HX' HZ → aheadF A' row = b → ∃ k, (V.bl b : V) = .bl k ∧ (if k = true then tVar 9 [some (V.ref a), some (V.int (m : Nat)), some (V.int st), some (V.int si), some (V.ref al), some (V.ref r), y6, y7, y8, some (V.ref t1), y10, y11] HZ (fun y H4 => ∃ acc, H4 D = some (.lst acc) ∧ acc.length < sizeLine ∧ (fun H5 => SameN Ps HY H5 ∧ ∃ us : List Addr, H5 D = some (.lst (us.map V.ref)) ∧ Tps H5 us (((rowsF m st m).take (i + 1)).filter (aheadF A'))) (upd H4 D (.lst (acc ++ [y])))) else (fun H5 => SameN Ps HY H5 ∧ ∃ us : List Addr, H5 D = some (.lst (us.map V.ref)) ∧ Tps H5 us (((rowsF m st m).take (i + 1)).filter (aheadF A'))) HZ) := fun {HZ b} sZ e => by
          refine ⟨b, rfl, ?_⟩
          have hDZ := sZ.k _ _ nt_lst hD
          have husZ := hus.sameN sZ
          cases b with
          | true =>
            refine iteT ⟨_, rfl, _, hDZ, ?_, (sX.trans sZ).own nD hDZ nt_lst, us ++ [t1], ?_, ?_⟩
            · rw [List.length_map, Paired.length husZ]
              refine line4000 (Nat.le_trans (List.length_filter_le _ _) ?_)
              rw [List.length_take]
              omega
            · rw [upd_same, List.map_append]
              rfl
            · rw [filter_snoc hrow, if_pos e]
              exact Tps.updL (paired_snoc husZ (sZ.k _ _ nt_tup (sX.k _ _ nt_tup ht1))) hDZ
          | false =>
            refine iteF ⟨sX.trans sZ, us, hDZ, ?_⟩
            rw [filter_snoc hrow, if_neg (by rw [e]; decide), List.append_nil]
            exact husZ
        refine all_it (walk_list (K := K) (a := al) (xs := as.map V.ref)) (fun j HZ => SameN Ps HX' HZ ∧ aheadF (A'.take j) row = true) ⟨s2, rfl⟩ (fun j HZ _ h => .inl (.inl (h.1.k _ _ nt_lst hRX.al))) (fun j x HZ HZ' hj hP' hY => ?_) (fun HZ hP' => ?_)
        · obtain ⟨rfl, hx2⟩ := hY
          obtain ⟨sZ, hin⟩ := hP'
          rw [List.getElem?_map] at hx2
          obtain ⟨t2, et2, ex⟩ := Option.map_eq_some_iff.mp hx2
          subst ex
          obtain ⟨pr, hpr, ht2⟩ := paired_at hRX.as et2
          obtain ⟨p1, p2⟩ := hA pr (List.mem_of_getElem? hpr)
          have htr := sZ.k _ _ nt_tup (sX.k _ _ nt_tup ht1)
          have g1 : (iv row)[pr.1]? = some (V.int (row.getD pr.1 0 : Nat)) := by
            rw [List.getElem?_map, List.getElem?_eq_getElem (by omega), List.getD_eq_getElem?_getD, List.getElem?_eq_getElem (by omega)]
            rfl
          have g2 : (iv row)[pr.2]? = some (V.int (row.getD pr.2 0 : Nat)) := by
            rw [List.getElem?_map, List.getElem?_eq_getElem (by omega), List.getD_eq_getElem?_getD, List.getElem?_eq_getElem (by omega)]
            rfl
          refine ⟨t2, _, rfl, .inl (.inl (sZ.k _ _ nt_tup ht2)), rfl, _, _, rfl, _, _, rfl, rfl, ?_⟩
          refine ⟨rfl, tYes_in ?_⟩
          refine ⟨_, rfl, _, rfl, t1, _, _, _, rfl, rfl, .inl (.inl htr), atI_nat g1, _, rfl, _, rfl, t1, _, _, _, rfl, rfl, .inl (.inl htr), atI_nat g2, _, _, rfl, rfl, _, rfl, fun e => ⟨sZ, ?_⟩, fun e => fin sZ (all_bad hpr ?_)⟩
          · have e' : row.getD pr.1 0 < row.getD pr.2 0 := by
              have := of_decide_eq_true e
              omega
            unfold aheadF at hin ⊢
            rw [all_snoc hpr, hin]
            exact decide_eq_true e'
          · have e' : ¬ row.getD pr.1 0 < row.getD pr.2 0 := fun z => by
              have := of_decide_eq_false e
              omega
            exact decide_eq_false e'
        · obtain ⟨sZ, hin⟩ := hP'
          rw [List.length_map, hlenA, List.take_length] at hin
          exact fin sZ hin
      · obtain ⟨sX, us, hD, hus⟩ := hP'
        rw [List.length_map, htl, List.take_length] at hus
        exact q D HX nDH ((SameN.of hT sHY).trans sX) ⟨us, hD, hus⟩
end
end Bn

namespace Bn
open PySem PySem.Spec PyProof.Rows L2 BR
section
variable {P : Program} {w : World} {K : PySem.W.Frag} {mg : Str → Option Value} {base : Heap}
/-! ### cell_at -/
def spCell (K : PySem.W.Frag) : Sp := fun vs H Q _ => ∃ (a : Addr) (ns : List Int) (k : Nat), vs = [.ref a, .int (k : Nat)] ∧ SqL K H a (ns.map V.int) ∧ ∀ m : Int, Q (.int m) H
theorem ok_cell {f : Addr} {fd : FuncData} {k : Nat} (F : Fun K "_law_cell_at" "_law_cell_at" s_l_cell_at f fd) (ml : mg "len" = none) : FnOk P w K mg base CX0 (k + 1) f fd ["_law_script", "_law_k"] (spCell K) := by
  refine F.ok sc_l_cell_at (fun vs H Q E h => ?_) (fun cdv A outer s H vs Q E hr h => ?_)
  · obtain ⟨a, ns, k, rfl, _⟩ := h
    rfl
  · obtain ⟨a, ns, k, rfl, hS, q⟩ := h
    refine ⟨_, pss_cons (ps_if (pt_cmpR op_lt (pv 1) (pe_callB call_len_seq (by rfl) ml PySem.boot_len (pa_cons (pv 0) pa_nil)) (nomark _)) (pss_one (ps_ret (pe_ix ix_list (pv 0) (pv 1) (fun _ _ => rfl)))) pss_nil) (pss_one (ps_ret pe_int)), ?_⟩
    refine ⟨_, rfl, _, rfl, a, _, rfl, .inl hS, _, _, rfl, rfl, _, rfl, ite2 (fun e => ?_) (fun e => ?_)⟩
    · have e' := of_decide_eq_true e
      rw [List.length_map] at e'
      have hk : k < ns.length := by omega
      refine ⟨_, rfl, _, rfl, a, _, _, V.int ns[k], rfl, rfl, hS, atI_nat ?_, q _⟩
      rw [List.getElem?_map, List.getElem?_eq_getElem hk]
      rfl
    · exact q _
/-! ### mixed -/
def spMixed : Sp := fun vs H Q _ => ∃ (n k : Int), vs = [.int n, .int k] ∧ ∀ m : Int, Q (.int m) H
theorem ok_mixed {f : Addr} {fd : FuncData} {k : Nat} (F : Fun K "_law_mixed" "_law_mixed" s_l_mixed f fd) : FnOk P w K mg base CX0 (k + 1) f fd ["_law_number", "_law_k"] spMixed := by
  refine F.ok sc_l_mixed (fun vs H Q E h => ?_) (fun cdv A outer s H vs Q E hr h => ?_)
  · obtain ⟨n, k, rfl, _⟩ := h
    rfl
  · obtain ⟨n, k, rfl, q⟩ := h
    refine ⟨_, pss_cons (ps_set (i := 2) sc_l_mixed.nd rfl (.inl rfl) (pe_op op_mod (pe_op op_mul (pe_op op_add (pe_op op_add (pe_op op_mod (pv 0) pe_int) (pe_op op_mul pe_int (pv 1))) pe_int) pe_int) pe_int))
      (pss_cons (ps_set (i := 3) sc_l_mixed.nd rfl (.inl rfl) (pe_op op_mod (pe_op op_mul (pv 2) (pe_op op_add (pe_op op_add (pe_op op_mod (pv 2) pe_int) (pv 1)) pe_int)) pe_int))
      (pss_one (ps_ret (pe_op op_mod (pe_op op_add (pe_op op_mul (pv 3) pe_int) (pv 2)) pe_int)))), ?_⟩
    refine ⟨_, rfl, _, _, rfl, rfl, (by show (0 : Int) < 1000000007; decide), _, rfl, _, _, rfl, rfl, .inl ⟨by decide, by decide⟩, _, _, rfl, rfl, _, _, rfl, rfl, _, _, rfl, rfl, .inr ⟨by decide, by decide⟩, _, _, rfl, rfl, (by show (0 : Int) < 2147483647; decide), ?_⟩
    generalize (n % 1000000007 + 7 * k + 1) * 48271 = y
    have y0 := Int.emod_nonneg y (show (2147483647 : Int) ≠ 0 by decide)
    have y1 := Int.emod_lt_of_pos y (show (0 : Int) < 2147483647 by decide)
    refine ⟨_, rfl, _, rfl, _, _, rfl, rfl, (by show (0 : Int) < 1009; decide), _, rfl, _, _, rfl, rfl, _, _, rfl, rfl, _, _, rfl, rfl, .inl ⟨by omega, by omega⟩, _, _, rfl, rfl, (by show (0 : Int) < 998244353; decide), ?_⟩
    exact ⟨_, rfl, _, _, rfl, rfl, .inr ⟨by decide, by decide⟩, _, rfl, _, _, rfl, rfl, _, _, rfl, rfl, (by show (0 : Int) < 2147483629; decide), q _⟩
theorem bit_lo (b : Bool) : -(2 ^ 64) < (if b = true then (1 : Int) else 0) := by cases b <;> decide
theorem bit_hi (b : Bool) : (if b = true then (1 : Int) else 0) < 2 ^ 64 := by cases b <;> decide
/-! ### box -/
def spBox (K : PySem.W.Frag) : Sp := fun vs H Q _ => ∃ (a : Addr) (ns : List Int) (k : Nat), vs = [.ref a, .int (k : Nat)] ∧ SqL K H a (ns.map V.int) ∧ ∀ p H', H p = none → Same H H' → Bx H' p → Q (.ref p) H'
theorem ok_box {f fC fM : Addr} {fd fdC fdM : FuncData} (F : Fun K "_law_box" "_law_box" s_l_box f fd)
    (kC : PySem.W.keepIn K (.ref fC) = true) (bC : Binds K fdC ["_law_script", "_law_k"] []) (gC : mg "_law_cell_at" = some (.ref fC)) (GC : FnOk P w K mg base CX0 1 fC fdC ["_law_script", "_law_k"] (spCell K))
    (kM : PySem.W.keepIn K (.ref fM) = true) (bM : Binds K fdM ["_law_number", "_law_k"] []) (gM : mg "_law_mixed" = some (.ref fM)) (GM : FnOk P w K mg base CX0 1 fM fdM ["_law_number", "_law_k"] spMixed)
    (ma : mg "abs" = none) (mi : mg "int" = none) : FnOk P w K mg base CX0 2 f fd ["_law_script", "_law_k"] (spBox K) := by
  refine F.ok sc_l_box (fun vs H Q E h => ?_) (fun cdv A outer s H vs Q E hr h => ?_)
  · obtain ⟨a, ns, k, rfl, _⟩ := h
    rfl
  · obtain ⟨a, ns, k, rfl, hS, q⟩ := h
    refine ⟨_, pss_cons (ps_set (i := 2) sc_l_box.nd rfl (.inl rfl) (pe_call GC hr (by rfl) gC kC bC .nil pass0 (pa_cons (pv 0) (pa_cons (pv 1) pa_nil))))
      (pss_one (ps_ret (pe_lst (pa_cons (pe_op op_mul (pe_callB call_abs (by rfl) ma (by decide +kernel) (pa_cons (pv 2) pa_nil)) (pe_callTy call_int1 (by rfl) mi (by decide +kernel) (pa_cons (pe_cmpR op_ge (pe_callB call_abs (by rfl) ma (by decide +kernel) (pa_cons (pv 2) pa_nil)) (pe_op op_pow pe_int pe_int) (nomark _)) pa_nil)))
        (pa_cons (pe_call GM hr (by rfl) gM kM bM .nil pass0 (pa_cons (pv 2) (pa_cons (pe_op op_add pe_int (pv 1)) pa_nil))) (pa_cons pe_int pa_nil)))))), ?_⟩
    refine ⟨_, rfl, _, rfl, a, ns, k, rfl, hS, fun c => ?_⟩
    refine ⟨_, rfl, _, rfl, _, rfl, _, rfl, _, _, rfl, rfl, ⟨by decide, by decide, by decide⟩, _, _, rfl, rfl, .inr ⟨_, rfl, _, _, rfl, rfl, .inr ⟨bit_lo _, bit_hi _⟩, _, rfl, _, rfl, _, _, rfl, rfl, _, _, rfl, fun m => ⟨(show 3 ≤ sizeLine by decide), fun p np => ?_⟩⟩⟩
    exact q p _ np (same_new np) ⟨_, _, _, upd_same⟩
/-! ### take -/
def spTake : Sp := fun vs H Q _ => ∃ (b : Addr) (m : Int), vs = [.ref b, .int m] ∧ Bx H b ∧ 0 < m ∧ m < 1073741824 ∧ ∀ (n : Nat) H', (n : Int) < m → Kb b H H' → Q (.int (n : Nat)) H'
theorem ok_take {f fM : Addr} {fd fdM : FuncData} (F : Fun K "_law_take" "_law_take" s_l_take f fd)
    (kM : PySem.W.keepIn K (.ref fM) = true) (bM : Binds K fdM ["_law_number", "_law_k"] []) (gM : mg "_law_mixed" = some (.ref fM)) (GM : FnOk P w K mg base CX0 1 fM fdM ["_law_number", "_law_k"] spMixed) : FnOk P w K mg base CX0 2 f fd ["_law_box_here", "_law_many"] spTake := by
  refine F.ok sc_l_take (fun vs H Q E h => ?_) (fun cdv A outer s H vs Q E hr h => ?_)
  · obtain ⟨b, m, rfl, _⟩ := h
    rfl
  · obtain ⟨b, m, rfl, ⟨x, y, z, hb⟩, m0, m1, q⟩ := h
    have fin : ∀ (t : Int) (H' : Hp), Kb b H H' → Q (.int (t % m)) H' := fun t H' k => by
      have t0 := Int.emod_nonneg t (show m ≠ 0 by omega)
      have t1 := Int.emod_lt_of_pos t m0
      have e : t % m = (((t % m).toNat : Nat) : Int) := (Int.toNat_of_nonneg t0).symm
      rw [e]
      exact q _ _ (by omega) k
    refine ⟨_, pss_cons (ps_if (pt_cmpR op_gt (pe_ix ix_list (pv 0) pe_int (fun _ _ => rfl)) pe_int (nomark _))
        (pss_cons (ps_set (i := 2) sc_l_take.nd rfl (.inl rfl) (pe_op op_mod (pe_ix ix_list (pv 0) pe_int (fun _ _ => rfl)) (pv 1)))
        (pss_cons (ps_asg (pe_op op_fdiv (pe_ix ix_list (pv 0) pe_int (fun _ _ => rfl)) (pv 1)) (pg_sub (pv 0) pe_int set_list))
        (pss_one (ps_ret (pv 2))))) pss_nil)
      (pss_cons (ps_asg (pe_op op_add (pe_ix ix_list (pv 0) pe_int (fun _ _ => rfl)) pe_int) (pg_sub (pv 0) pe_int set_list))
      (pss_one (ps_ret (pe_op op_mod (pe_call GM hr (by rfl) gM kM bM .nil pass0 (pa_cons (pe_ix ix_list (pv 0) pe_int (fun _ _ => rfl)) (pa_cons (pe_ix ix_list (pv 0) pe_int (fun _ _ => rfl)) pa_nil))) (pv 1))))), ?_⟩
    have hL : SqL K H b [.int x, .int y, .int z] := .inl (.inl hb)
    refine ⟨_, rfl, b, _, _, .int x, rfl, rfl, hL, rfl, _, _, rfl, rfl, _, rfl, ite2 (fun e => ?_) (fun e => ?_)⟩
    · refine ⟨_, rfl, b, _, _, .int x, rfl, rfl, hL, rfl, _, rfl, _, _, rfl, rfl, m0, ?_⟩
      refine ⟨_, rfl, b, _, _, .int x, rfl, rfl, hL, rfl, _, rfl, _, _, rfl, rfl, ⟨m0, m1⟩, _, rfl, b, _, _, 0, rfl, rfl, hb, rfl, ?_⟩
      exact ⟨_, rfl, fin x _ ⟨Kp.put, ⟨_, _, _, upd_same⟩⟩⟩
    · refine ⟨_, rfl, b, _, _, .int z, rfl, rfl, hL, rfl, _, _, rfl, rfl, _, rfl, b, _, _, 2, rfl, rfl, hb, rfl, ?_⟩
      have hL2 : SqL K (upd H b (.lst [.int x, .int y, .int (z + 1)])) b [.int x, .int y, .int (z + 1)] := .inl (.inl upd_same)
      refine ⟨_, rfl, b, _, _, .int y, rfl, rfl, hL2, rfl, _, rfl, b, _, _, .int (z + 1), rfl, rfl, hL2, rfl, _, _, rfl, fun n1 => ?_⟩
      exact ⟨_, rfl, _, _, rfl, rfl, m0, fin n1 _ ⟨Kp.put, ⟨_, _, _, upd_same⟩⟩⟩
end
end Bn

namespace Bn
open PySem PySem.Spec PyProof.Rows L2 BR GX RM GY
def off (row : Rw) (j : Nat) : Int := absI ((row.getD j 0 : Nat) - (j : Nat))
def offL (row : Rw) (n : Nat) : List Int := (List.range n).map (off row)
theorem offL_succ (row : Rw) (n : Nat) : offL row (n + 1) = offL row n ++ [off row n] := by
  unfold offL
  rw [List.range_succ, List.map_append]
  rfl
theorem off_sum (row : Rw) (n : Nat) : (offL row (n + 1)).sum = (offL row n).sum + off row n := by
  rw [offL_succ, List.sum_append]
  simp
theorem off_small {row : Rw} {j m : Nat} (h : ∀ p ∈ row, p < m) (hm : m ≤ 5) (hj : j < 10) : 0 ≤ off row j ∧ off row j ≤ 20 := by
  have e : row.getD j 0 < 6 := by
    rw [List.getD_eq_getElem?_getD]
    cases z : row[j]? with
    | none => decide
    | some p =>
      have := h p (List.mem_of_getElem? z)
      show p < 6
      omega
  unfold off absI
  split <;> omega
section
variable {P : Program} {w : World} {K : PySem.W.Frag} {mg : Str → Option Value} {base : Heap}
/-! ### stir_at -/
def spSA : Sp := fun vs H Q _ => ∃ (a pl o al : Addr) (m : Nat) (st si : Int) (A : Prs) (ps : List V) (as : List Addr) (r0 r1 r2 r3 r5 : V) (i p : Nat), vs = [.ref a, .int (i : Nat), .int (p : Nat)] ∧ RuleAt H a m st si A pl o al ps as r0 r1 r2 r3 r5 ∧ 0 ≤ si ∧ si ≤ 99 ∧ Q (.int (si * absI ((p : Nat) - (i : Nat)))) H
theorem ok_sa {f : Addr} {fd : FuncData} {k : Nat} (F : Fun K "stir_at" "stir_at" s_stir_at f fd) (mab : mg "abs" = none) : FnOk P w K mg base CX0 (k + 1) f fd ["rule", "part", "place"] spSA := by
  refine F.ok sc_stir_at (fun vs H Q E h => ?_) (fun cdv A outer s H vs Q E hr h => ?_)
  · obtain ⟨a, pl, o, al, m, st, si, A', ps, as, r0, r1, r2, r3, r5, i, p, rfl, _⟩ := h
    rfl
  · obtain ⟨a, pl, o, al, m, st, si, A', ps, as, r0, r1, r2, r3, r5, i, p, rfl, hR, s0, s1, q⟩ := h
    refine ⟨_, pss_one (ps_ret (pe_op op_mul (pe_ix ix_tup (pe_ix ix_tup (pv 0) pe_int (fun _ _ => rfl)) pe_int (fun _ _ => rfl)) (pe_callB call_abs (by rfl) mab (by decide +kernel) (pa_cons (pe_op op_sub (pv 2) (pv 1)) pa_nil)))), ?_⟩
    exact ⟨_, rfl, a, _, _, V.ref o, rfl, rfl, .inl (.inl hR.a), rfl, o, _, _, V.int si, rfl, rfl, .inl (.inl hR.o), rfl, _, rfl, _, rfl, _, _, rfl, rfl, _, rfl, _, _, rfl, rfl, .inl ⟨by omega, by omega⟩, q⟩
/-! ### stir_of -/
def spSO (Ps : List Addr) : Sp := fun vs H Q _ => ∃ (a pl o al t : Addr) (m : Nat) (st si : Int) (A : Prs) (ps : List V) (as : List Addr) (r0 r1 r2 r3 r5 : V) (row : Rw), vs = [.ref a, .ref t] ∧ RuleAt H a m st si A pl o al ps as r0 r1 r2 r3 r5 ∧ 0 ≤ si ∧ si ≤ 99 ∧ H t = some (.tup (iv row)) ∧ Tabs Ps H ∧
  ∀ H', SameN Ps H H' → Q (.int (si * (offL row row.length).sum)) H'
theorem ok_so {f c0 pT fS : Addr} {fd fdS : FuncData} {Ps : List Addr} (F : FunC K "stir_of" "stir_of" s_stir_of f fd c0) (TB : GxR.TabB base mg c0 pT) (hP : pT ∈ Ps) (ms : mg "sum" = none) (me : mg "enumerate" = none)
    (kS : PySem.W.keepIn K (.ref fS) = true) (bS : Binds K fdS ["rule", "part", "place"] []) (gS : mg "stir_at" = some (.ref fS)) (GS : FnOk P w K mg base CX0 1 fS fdS ["rule", "part", "place"] spSA) : FnOk P w K mg base CX0 5 f fd ["rule", "places"] (spSO Ps) := by
  refine F.ok sc_stir_of (fun vs H Q E h => ?_) (fun A outer s H vs Q E hr h => ?_)
  · obtain ⟨a, pl, o, al, t, m, st, si, A', ps, as, r0, r1, r2, r3, r5, row, rfl, _⟩ := h
    rfl
  · obtain ⟨a, pl, o, al, t, m, st, si, A', ps, as, r0, r1, r2, r3, r5, row, rfl, hR, s0, s1, ht, hT, q⟩ := h
    refine ⟨_, pss_one (ps_ret (pe_sum (own := [("number", 2), ("place", 3)]) hr (by rfl) ms TB rfl rfl sc_stir_of.nd (pi_enumT (by rfl) me (pa_cons (pv 1) pa_nil))
      (blkOk_by (own := [("number", 2), ("place", 3)]) (N := ["rule", "places", "number", "place"]) (sc := defScope s_stir_of) (by decide +kernel)) rfl (by decide +kernel) rfl
      (fun _ _ _ _ _ _ => pg_tupK (K := K) (n := 2) rfl (pg_tup (n := 2) rfl (pgs_cons (pg_name (i := 2) sc_stir_of.nd rfl (Or.inl rfl)) (pgs_cons (pg_name (i := 3) sc_stir_of.nd rfl (Or.inl rfl)) pgs_nil)))) (fun _ _ _ _ _ _ => pts_nil)
      (fun _ _ _ _ _ _ => pe_call GS (room_gen hr _) (by rfl) gS kS bS .nil pass0 (pa_cons (pv 0) (pa_cons (pv 2) (pa_cons (pv 3) pa_nil)))))), ?_⟩
    refine ⟨_, rfl, t, _, rfl, .inl (.inl ht), hT _ hP, fun H2 hTb => ?_⟩
    have s2 : SameN Ps H H2 := SameN.tab hT hP hTb
    refine gx_it (walk_enumT (K := K) (a := t) (xs := iv row)) (fun j t' HZ => SameN Ps H HZ ∧ t' = si * (offL row j).sum) ⟨s2, by show (0 : Int) = si * 0; omega⟩ (fun j t' HZ _ h => .inl (.inl (h.1.k _ _ nt_tup ht))) (fun j x t' HZ HZ' hj hP' hY => ?_) (fun t' HZ hP' => ?_)
    · obtain ⟨T, u1, u2, rfl, nT, rfl, e1, e2⟩ := hY
      obtain ⟨sZ, rfl⟩ := hP'
      rw [List.length_map] at hj
      have e1' := Option.some.inj e1
      subst e1'
      have e2' : (iv row)[j]? = some u2 := e2
      rw [List.getElem?_map, List.getElem?_eq_getElem hj] at e2'
      have e3 := Option.some.inj e2'
      subst e3
      have sT : SameN Ps HZ (upd HZ T (.tup [.int (j : Nat), .int (row[j] : Nat)])) := SameN.of sZ.t (same_new nT)
      refine ⟨T, _, rfl, .inl (.inl upd_same), rfl, _, _, rfl, _, _, rfl, rfl, ?_⟩
      refine ⟨rfl, tYes_in ?_⟩
      refine ⟨_, rfl, _, rfl, _, rfl, a, pl, o, al, m, st, si, A', ps, as, r0, r1, r2, r3, r5, j, row[j], rfl, hR.sameN (sZ.trans sT), s0, s1, _, rfl, sZ.trans sT, ?_⟩
      rw [off_sum, Int.mul_add]
      congr 2
      unfold off
      rw [List.getD_eq_getElem?_getD, List.getElem?_eq_getElem hj]
      rfl
    · obtain ⟨sZ, rfl⟩ := hP'
      rw [List.length_map]
      exact q _ sZ
end
end Bn

namespace Bn
open PySem PySem.Spec PyProof.Rows L2 BR GX RM GY
def insF (p : Nat) (r : Rw) : List Rw := (List.range (r.length + 1)).map fun a => r.take a ++ [p] ++ r.drop a
def permsF : Nat → List Rw
  | 0 => [[]]
  | k + 1 => (permsF k).flatMap (insF k)
abbrev Lps (H : Hp) (ts : List Addr) (L : List Rw) : Prop := Paired (fun t r => H t = some (.lst (iv r))) ts L
theorem Lps.same {H H' : Hp} {ts : List Addr} {L : List Rw} (h : Lps H ts L) (s : Same H H') : Lps H' ts L := paired_mono h fun _ _ e => s _ _ e
def LrowsAt (H : Hp) (r : Addr) (L : List Rw) : Prop := ∃ ts, H r = some (.lst (ts.map V.ref)) ∧ Lps H ts L
theorem ins_len (p : Nat) (r : Rw) : (insF p r).length = r.length + 1 := by
  unfold insF
  rw [List.length_map, List.length_range]
theorem perms_in : ∀ k, ∀ r ∈ permsF k, r.length = k
  | 0 => fun r hr => by rw [List.mem_singleton.mp hr]; rfl
  | k + 1 => fun r hr => by
    obtain ⟨r0, h0, h1⟩ := List.mem_flatMap.mp hr
    obtain ⟨a, ha, e⟩ := List.mem_map.mp h1
    have := perms_in k r0 h0
    have ha' := List.mem_range.mp ha
    subst e
    simp only [List.length_append, List.length_take, List.length_drop, List.length_cons, List.length_nil]
    omega
theorem perms_size : ∀ k, k ≤ 5 → (permsF k).length ≤ 6 ^ k
  | 0, _ => Nat.le_refl _
  | k + 1, hk => by
    have h1 := perms_size k (by omega)
    have := flatMap_len (insF k) 6 (permsF k) fun r hr => by
      rw [ins_len, perms_in k r hr]
      omega
    exact Nat.le_trans this (Nat.mul_le_mul_right 6 h1)
theorem pow6 {k : Nat} (hk : k ≤ 5) : 6 ^ k ≤ 7776 := Nat.le_trans (Nat.pow_le_pow_right (by decide) hk) (by decide)
theorem line50000 {n : Nat} (h : n ≤ 50000) : n < sizeLine := Nat.lt_of_le_of_lt h (by decide)
theorem cut_lo (xs : List V) (a : Nat) (h : a ≤ xs.length) : cutV xs none (some (a : Nat)) = xs.take a := by
  unfold cutV
  rw [show (some ((a : Nat) : Int)) = some ((a : Nat) : Int) from rfl, HT.sIx_nat]
  show (xs.drop 0).take (min a xs.length - 0) = _
  rw [List.drop_zero, Nat.min_eq_left h, Nat.sub_zero]
theorem cut_hi (xs : List V) (a : Nat) (h : a ≤ xs.length) : cutV xs (some (a : Nat)) none = xs.drop a := by
  unfold cutV
  rw [HT.sIx_nat]
  show (xs.drop (min a xs.length)).take (xs.length - min a xs.length) = _
  rw [Nat.min_eq_left h]
  exact List.take_of_length_le (by rw [List.length_drop]; exact Nat.le_refl _)
section
variable {P : Program} {w : World} {K : PySem.W.Frag} {mg : Str → Option Value} {base : Heap}
abbrev NR : List Str := ["_law_many", "_law_rows", "_law_part", "_law_longer", "_law_row", "_law_at"]
def spRows : Sp := fun vs H Q _ => ∃ m : Nat, vs = [.int (m : Nat)] ∧ m ≤ 5 ∧ ∀ r H', H r = none → Same H H' → LrowsAt H' r (permsF m) → Q (.ref r) H'
theorem ok_rows {f : Addr} {fd : FuncData} {k : Nat} (F : Fun K "_law_rows_of" "_law_rows_of" s_l_rows_of f fd) (ml : mg "len" = none) (mr : mg "range" = none) : FnOk P w K mg base CX0 (k + 1) f fd ["_law_many"] spRows := by
  refine F.ok sc_l_rows_of (fun vs H Q E h => ?_) (fun cdv A outer s H vs Q E hr h => ?_)
  · obtain ⟨m, rfl, _⟩ := h
    rfl
  · obtain ⟨m, rfl, hm5, q⟩ := h
    refine ⟨_, pss_cons (ps_set (i := 1) sc_l_rows_of.nd rfl (.inl rfl) (pe_lst (pa_cons (pe_lst pa_nil) pa_nil)))
      (pss_cons (ps_for PassesOwn.never rfl (pi_range1 (by rfl) mr (pa_cons (pv 0) pa_nil)) (pg_name (i := 2) sc_l_rows_of.nd rfl (.inr rfl))
        (pss_cons (ps_set (i := 3) sc_l_rows_of.nd rfl (.inl rfl) (pe_lst pa_nil))
        (pss_cons (ps_for PassesOwn.never rfl (pi_list (pv 1)) (pg_name (i := 4) sc_l_rows_of.nd rfl (.inr rfl))
          (pss_one (ps_expr (pe_bm PySem.F.plainAttrs_list PySem.F.slot_list_extend PySem.F.type_list_extend mt_extend (pv 3) (pa_cons
            (pe_lc (own := [("_law_at", 5)]) (g := gName 5) (tt := tYes) rfl sc_l_rows_of.nd (pi_range1 (by rfl) mr (pa_cons (pe_op op_add (pe_callB call_len_seq (by rfl) ml PySem.boot_len (pa_cons (pv 4) pa_nil)) pe_int) pa_nil))
              (blkOk_by (own := [("_law_at", 5)]) (N := NR) (sc := defScope s_l_rows_of) (by decide +kernel))
              (fun _ _ _ _ _ => pg_name (i := 5) sc_l_rows_of.nd rfl (Or.inl rfl)) (fun _ _ _ _ _ => pts_nil)
              (fun _ _ _ _ _ => pe_op op_cat (pe_op op_cat (pe_slice (sl_listK (K := K) (r := rSlL) rfl sl_list) (pv 4) po_none (po_some (pv 5))) (pe_lst (pa_cons (pv 2) pa_nil))) (pe_slice (sl_listK (K := K) (r := rSlL) rfl sl_list) (pv 4) (po_some (pv 5)) po_none))) pa_nil)))))
        (pss_one (ps_set (i := 1) sc_l_rows_of.nd rfl (.inl rfl) (pv 3))))))
      (pss_one (ps_ret (pv 1)))), ?_⟩
    refine ⟨Nat.zero_le _, fun t nt => ⟨(show 1 ≤ sizeLine by decide), fun r nr => ?_⟩⟩
    have sA : Same H (upd H t (.lst [])) := same_new nt
    have ht : (upd H t (.lst [])) t = some (.lst []) := upd_same
    generalize upd H t (.lst []) = HA at sA ht nr ⊢
    have sB : Same HA (upd HA r (.lst [.ref t])) := same_new nr
    have hr0 : (upd HA r (.lst [.ref t])) r = some (.lst [.ref t]) := upd_same
    have nrH : H r = none := sA.free nr
    generalize upd HA r (.lst [.ref t]) = HB at sB hr0 ⊢
    have sHB : Same H HB := sA.trans sB
    refine ⟨_, rfl, ((m : Nat) : Int), rfl, by omega, by omega, ?_⟩
    rw [Int.toNat_natCast]
    refine for_it (walk_range (lo := 0) (n := m)) (fun i σ HY => ∃ (r : Addr) (y2 y3 y4 y5 : Option V), σ = [some (.int (m : Nat)), some (.ref r), y2, y3, y4, y5] ∧ Same HB HY ∧ H r = none ∧ LrowsAt HY r (permsF i))
      ⟨r, _, _, _, _, rfl, Same.refl _, nrH, [t], hr0, .cons (sB _ _ ht) .nil⟩ (fun _ _ _ _ _ => trivial) (fun i x σ HY HY' hi hP' hY => ?_) (fun σ HY hP' => ?_)
    · obtain ⟨rfl, rfl⟩ := hY
      obtain ⟨r, y2, y3, y4, y5, rfl, sY, nr', ts, hr', hts⟩ := hP'
      have htl : ts.length = (permsF i).length := Paired.length hts
      have hpl : (permsF i).length ≤ 7776 := Nat.le_trans (perms_size i (by omega)) (pow6 (by omega))
      refine ⟨Nat.zero_le _, fun L nL => ?_⟩
      have nLH : H L = none := sHB.free (sY.free nL)
      have sL : Same HY' (upd HY' L (.lst [])) := same_new nL
      have hL : (upd HY' L (.lst [])) L = some (.lst []) := upd_same
      generalize upd HY' L (.lst []) = HL at sL hL ⊢
      have hrL := sL _ _ hr'
      have htsL := hts.same sL
      have nrL : r ≠ L := fun z => by
        rw [z] at hr'
        rw [nL] at hr'
        cases hr'
      refine ⟨_, rfl, r, rfl, ⟨_, .inl (.inl hrL)⟩, for_list (K := K) (a := r) (xs := ts.map V.ref) (fun j σ HZ => ∃ (z4 z5 : Option V), σ = [some (.int (m : Nat)), some (.ref r), some (.int (0 + (i : Nat))), some (.ref L), z4, z5] ∧ Same HY' HZ ∧ ∃ us : List Addr, HZ L = some (.lst (us.map V.ref)) ∧ Lps HZ us (((permsF i).take j).flatMap (insF i)) ∧ L ∉ us)
        ⟨_, _, rfl, sL, [], hL, .nil, by simp⟩ (fun j σ HZ _ h => ?_) (fun j x σ HZ hx hP' => ?_) (fun σ HZ hP' => ?_)⟩
      · obtain ⟨_, _, _, sZ, _⟩ := h
        exact .inl (.inl (sZ _ _ hr'))
      · obtain ⟨z4, z5, rfl, sZ, us, hLZ, hus, nLu⟩ := hP'
        rw [List.getElem?_map] at hx
        obtain ⟨t1, et1, ex⟩ := Option.map_eq_some_iff.mp hx
        subst ex
        obtain ⟨row, hrow, ht1⟩ := paired_at hts et1
        have hj : j < (permsF i).length := (List.getElem?_eq_some_iff.mp hrow).1
        have rl := perms_in i row (List.mem_of_getElem? hrow)
        have ht1Z := sZ _ _ ht1
        refine ⟨_, rfl, .inl ⟨rfl, _, .inl (.inl hLZ)⟩, ?_⟩
        refine ⟨_, rfl, t1, _, rfl, .inl (.inl (.inl ht1Z)), _, _, rfl, rfl, (((row.length + 1 : Nat)) : Int), ?_, by omega, by omega, fun D nD => ?_⟩
        · rw [List.length_map]
          rfl
        have nDY : HY' D = none := sZ.free nD
        have nLD : L ≠ D := fun z => by rw [z, nD] at hLZ; cases hLZ
        rw [Int.toNat_natCast]
        refine lc_range (lo := 0) (n := row.length + 1) (fun a HX => Same HZ HX ∧ ∃ vs : List Addr, HX D = some (.lst (vs.map V.ref)) ∧ Lps HX vs ((List.range a).map fun a => row.take a ++ [i] ++ row.drop a) ∧ L ∉ vs ∧ D ∉ vs) ⟨same_new nD, [], upd_same, .nil, by simp, by simp⟩ (fun a HX ha hP' => ?_) (fun HX hP' => ?_)
        · obtain ⟨sX, vs, hD, hvs, nLv, nDv⟩ := hP'
          have hvl : vs.length = a := by
            have := Paired.length hvs
            rw [List.length_map, List.length_range] at this
            exact this
          have hal : a ≤ (iv row).length := by
            rw [List.length_map]
            omega
          have ez : (0 : Int) + (a : Nat) = ((a : Nat) : Int) := Int.zero_add _
          have ht1X := sX _ _ ht1Z
          refine ⟨rfl, tYes_in ?_⟩
          refine ⟨_, rfl, _, rfl, (0 + (a : Nat) : Int), rfl, t1, _, rfl, .inl (.inl ht1X), fun p1 n1 => ?_⟩
          rw [ez, cut_lo _ _ hal]
          have s1 : Same HX (upd HX p1 (.lst ((iv row).take a))) := same_new n1
          have h1 : (upd HX p1 (.lst ((iv row).take a))) p1 = some (.lst ((iv row).take a)) := upd_same
          generalize upd HX p1 (.lst ((iv row).take a)) = H1 at s1 h1 ⊢
          refine ⟨_, rfl, (show 1 ≤ sizeLine by decide), fun p2 n2 => ?_⟩
          rw [Int.zero_add]
          have s2 : Same H1 (upd H1 p2 (.lst [.int (i : Nat)])) := same_new n2
          have h2 : (upd H1 p2 (.lst [.int (i : Nat)])) p2 = some (.lst [.int (i : Nat)]) := upd_same
          generalize upd H1 p2 (.lst [.int (i : Nat)]) = H2 at s2 h2 ⊢
          refine ⟨p1, p2, _, _, rfl, rfl, s2 _ _ h1, h2, ?_, fun p3 n3 => ?_⟩
          · rw [List.length_take]
            exact line1000 (by show min a (iv row).length + 1 ≤ 1000; omega)
          have s3 : Same H2 (upd H2 p3 (.lst ((iv row).take a ++ [.int (i : Nat)]))) := same_new n3
          have h3 : (upd H2 p3 (.lst ((iv row).take a ++ [.int (i : Nat)]))) p3 = some (.lst ((iv row).take a ++ [.int (i : Nat)])) := upd_same
          generalize upd H2 p3 (.lst ((iv row).take a ++ [.int (i : Nat)])) = H3 at s3 h3 ⊢
          have ht13 := s3 _ _ (s2 _ _ (s1 _ _ ht1X))
          refine ⟨_, rfl, _, rfl, _, rfl, t1, _, rfl, .inl (.inl ht13), fun p4 n4 => ?_⟩
          rw [cut_hi _ _ hal]
          have s4 : Same H3 (upd H3 p4 (.lst ((iv row).drop a))) := same_new n4
          have h4 : (upd H3 p4 (.lst ((iv row).drop a))) p4 = some (.lst ((iv row).drop a)) := upd_same
          generalize upd H3 p4 (.lst ((iv row).drop a)) = H4 at s4 h4 ⊢
          refine ⟨p3, p4, _, _, rfl, rfl, s4 _ _ h3, h4, ?_, fun p5 n5 => ?_⟩
          · rw [List.length_append, List.length_take, List.length_drop, List.length_map]
            exact line1000 (by show min a row.length + 1 + (row.length - a) ≤ 1000; omega)
          have eN : (iv row).take a ++ [V.int (i : Nat)] ++ (iv row).drop a = iv (row.take a ++ [i] ++ row.drop a) := by
            simp only [iv, List.map_append, List.map_take, List.map_drop]
            rfl
          rw [eN]
          have s5 : Same H4 (upd H4 p5 (.lst (iv (row.take a ++ [i] ++ row.drop a)))) := same_new n5
          have h5 : (upd H4 p5 (.lst (iv (row.take a ++ [i] ++ row.drop a)))) p5 = some (.lst (iv (row.take a ++ [i] ++ row.drop a))) := upd_same
          have sX5 := (((s1.trans s2).trans s3).trans s4)
          have n5D : p5 ≠ D := fun z => by
            rw [z, sX5 _ _ hD] at n5
            cases n5
          have n5L : p5 ≠ L := fun z => by
            rw [z, sX5 _ _ (sX _ _ hLZ)] at n5
            cases n5
          generalize upd H4 p5 (.lst (iv (row.take a ++ [i] ++ row.drop a))) = H5 at s5 h5 ⊢
          have sX6 := sX5.trans s5
          refine ⟨_, sX6 _ _ hD, by rw [List.length_map, hvl]; exact small1000 (by omega), Same.own (sX.trans sX6) nD, vs ++ [p5], ?_, ?_, ?_, ?_⟩
          · rw [upd_same, List.map_append]
            rfl
          · rw [List.range_succ, List.map_append]
            refine paired_snoc (paired_mono2 (hvs.same sX6) fun t hv e => ?_) ?_
            · rw [upd_ne fun z => nDv (by rw [← z]; exact hv)]
              exact e
            · rw [upd_ne n5D]
              exact h5
          · intro z
            rcases List.mem_append.mp z with z | z
            · exact nLv z
            · exact n5L (List.mem_singleton.mp z).symm
          · intro z
            rcases List.mem_append.mp z with z | z
            · exact nDv z
            · exact n5D (List.mem_singleton.mp z).symm
        · obtain ⟨sX, vs, hD, hvs, nLv, nDv⟩ := hP'
          have hvs' : Lps HX vs (insF i row) := hvs
          have hul : us.length ≤ 47000 := by
            rw [Paired.length hus]
            have := flatMap_len (insF i) 6 ((permsF i).take j) fun r hr => by
              rw [ins_len, perms_in i r (List.mem_of_mem_take hr)]
              omega
            rw [List.length_take] at this
            omega
          have hvl : vs.length = row.length + 1 := by
            have := Paired.length hvs'
            rw [ins_len] at this
            exact this
          refine ⟨L, D, _, _, rfl, rfl, sX _ _ hLZ, hD, ?_, _, _, rfl, Same.own (sZ.trans sX) nL, us ++ vs, ?_, ?_, ?_⟩
          · rw [List.length_map, List.length_map]
            exact Nat.le_of_lt (line50000 (by omega))
          · rw [upd_same, List.map_append]
          · rw [take_get hrow, flatMap_snoc]
            refine paired_app (paired_mono2 (hus.same sX) fun t hv e => ?_) (paired_mono2 hvs' fun t hv e => ?_)
            · rw [upd_ne fun z => nLu (by rw [← z]; exact hv)]
              exact e
            · rw [upd_ne fun z => nLv (by rw [← z]; exact hv)]
              exact e
          · intro z
            rcases List.mem_append.mp z with z | z
            · exact nLu z
            · exact nLv z
      · obtain ⟨z4, z5, rfl, sZ, us, hLZ, hus, nLu⟩ := hP'
        rw [List.length_map, htl, List.take_length] at hus
        exact ⟨_, rfl, L, _, _, _, _, rfl, sY.trans sZ, nLH, us, hLZ, hus⟩
    · obtain ⟨r, y2, y3, y4, y5, rfl, sY, nr', hR⟩ := hP'
      exact ⟨_, rfl, q r HY nr' (sHB.trans sY) hR⟩
end
end Bn

namespace Bn
open PySem PySem.Spec PyProof.Rows L2 BR GX RM GY
/-- the place of x in a row -/
def ixOf (r : Rw) (x : Nat) : Nat := r.findIdx (fun y => decide (y = x))
theorem ix_lt {r : Rw} {x : Nat} (h : x ∈ r) : ixOf r x < r.length := List.findIdx_lt_length_of_exists ⟨x, h, by simp⟩
theorem ix_get {r : Rw} {x : Nat} (h : x ∈ r) : r[ixOf r x]? = some x := by
  rw [List.getElem?_eq_getElem (ix_lt h)]
  have := List.findIdx_getElem (w := ix_lt h)
  exact congrArg some (of_decide_eq_true this)
theorem ix_first {r : Rw} {x j : Nat} (h : j < ixOf r x) : ∀ z, r[j]? = some z → z ≠ x := fun z hz e => by
  have hj : j < r.length := (List.getElem?_eq_some_iff.mp hz).1
  have := List.not_of_lt_findIdx h
  rw [List.getElem?_eq_getElem hj] at hz
  cases hz
  simp [e] at this
def rowNear (st : Int) (r : Rw) : Bool := (List.range r.length).all fun j => decide (absI ((j : Nat) - (r.getD j 0 : Nat)) ≤ st)
def standsF (st : Int) (A : Prs) (r : Rw) : Bool := rowNear st r && A.all fun pr => decide (ixOf r pr.1 ≤ ixOf r pr.2)
def invF (m : Nat) (r : Rw) : Rw := (List.range m).map (ixOf r)
theorem ixg {r : Rw} {x : Nat} (hx : x ∈ r) : (iv r)[ixOf r x]? = some (.int (x : Nat)) := by
  rw [List.getElem?_map, ix_get hx]
  rfl
theorem ixe (x : Nat) : eqV (.int (x : Nat)) (.int (x : Nat)) = true := by
  show ((x : Int) == (x : Int)) = true
  exact beq_self_eq_true _
theorem ixf {r : Rw} {x : Nat} : ∀ (m : Nat) (z' : V), m < ixOf r x → (iv r)[m]? = some z' → eqV z' (.int (x : Nat)) = false := fun j z hj hz => by
  rw [List.getElem?_map] at hz
  obtain ⟨y, ey, e⟩ := Option.map_eq_some_iff.mp hz
  subst e
  have := ix_first hj y ey
  show ((y : Int) == (x : Int)) = false
  rw [beq_eq_false_iff_ne]
  omega
section
variable {P : Program} {w : World} {K : PySem.W.Frag} {mg : Str → Option Value} {base : Heap}
abbrev NS : List Str := ["_law_row", "_law_stray", "_law_ahead", "_law_place", "_law_part", "_law_one", "_law_other"]
def spStands : Sp := fun vs H Q _ => ∃ (t al : Addr) (r : Rw) (st : Int) (A : Prs) (as : List Addr), vs = [.ref t, .int st, .ref al] ∧ H t = some (.lst (iv r)) ∧ H al = some (.lst (as.map V.ref)) ∧ Pas H as A ∧ (∀ pr ∈ A, pr.1 ∈ r ∧ pr.2 ∈ r) ∧ ∀ H', Same H H' → Q (.bl (standsF st A r)) H'
theorem ok_stands {f : Addr} {fd : FuncData} {k : Nat} (F : Fun K "_law_stands" "_law_stands" s_l_stands f fd) (me : mg "enumerate" = none) (mab : mg "abs" = none) : FnOk P w K mg base CX0 (k + 1) f fd ["_law_row", "_law_stray", "_law_ahead"] spStands := by
  refine F.ok sc_l_stands (fun vs H Q E h => ?_) (fun cdv A outer s H vs Q E hr h => ?_)
  · obtain ⟨t, al, r, st, A', as, rfl, _⟩ := h
    rfl
  · obtain ⟨t, al, r, st, A', as, rfl, ht, hal, hA, hin, q⟩ := h
    refine ⟨_, pss_cons (ps_for PassesOwn.never rfl (pi_enum (by rfl) me (pa_cons (pv 0) pa_nil)) (pg_tup rfl (pgs_cons (pg_name (i := 3) sc_l_stands.nd rfl (.inl rfl)) (pgs_cons (pg_name (i := 4) sc_l_stands.nd rfl (.inl rfl)) pgs_nil)))
        (pss_one (ps_if (pt_cmpR op_gt (pe_callB call_abs (by rfl) mab (by decide +kernel) (pa_cons (pe_op op_sub (pv 3) (pv 4)) pa_nil)) (pv 1) (nomark _)) (pss_one (ps_ret pe_bl)) pss_nil)))
      (pss_cons (ps_for PassesOwn.never rfl (pi_list (pv 2)) (pg_tup rfl (pgs_cons (pg_name (i := 5) sc_l_stands.nd rfl (.inl rfl)) (pgs_cons (pg_name (i := 6) sc_l_stands.nd rfl (.inl rfl)) pgs_nil)))
        (pss_one (ps_if (pt_cmpR op_gt (pe_bm PySem.F.plainAttrs_list PySem.F.slot_list_index PySem.F.type_list_index mt_index (pv 0) (pa_cons (pv 5) pa_nil)) (pe_bm PySem.F.plainAttrs_list PySem.F.slot_list_index PySem.F.type_list_index mt_index (pv 0) (pa_cons (pv 6) pa_nil)) (nomark _)) (pss_one (ps_ret pe_bl)) pss_nil)))
      (pss_one (ps_ret pe_bl))), ?_⟩
    have hAl : as.length = A'.length := Paired.length hA
    refine ⟨_, rfl, t, _, rfl, .inl (.inl ht), ?_⟩
    refine for_it (walk_enum (K := K) (a := t) (xs := iv r)) (fun i σ HY => (∃ y3 y4 y5 y6 : Option V, σ = [some (.ref t), some (.int st), some (.ref al), y3, y4, y5, y6]) ∧ Same H HY ∧ ((List.range r.length).take i).all (fun j => decide (absI ((j : Nat) - (r.getD j 0 : Nat)) ≤ st)) = true)
      ⟨⟨_, _, _, _, rfl⟩, Same.refl _, rfl⟩ (fun i σ HY _ h => .inl (.inl (h.2.1 _ _ ht))) (fun i x σ HY HY' hi hP' hY => ?_) (fun σ HY hP' => ?_)
    · obtain ⟨T, u1, u2, rfl, nT, rfl, e1, e2⟩ := hY
      obtain ⟨⟨y3, y4, y5, y6, rfl⟩, sY, hok⟩ := hP'
      rw [List.length_map] at hi
      have e1' := Option.some.inj e1
      subst e1'
      have e2' : (iv r)[i]? = some u2 := e2
      rw [List.getElem?_map, List.getElem?_eq_getElem hi] at e2'
      have e3 := Option.some.inj e2'
      subst e3
      have eg : r.getD i 0 = r[i] := by rw [List.getD_eq_getElem?_getD, List.getElem?_eq_getElem hi]; rfl
      have er : (List.range r.length)[i]? = some i := List.getElem?_range hi
      refine ⟨T, _, rfl, .inl (.inl upd_same), rfl, _, _, rfl, _, _, rfl, rfl, ?_⟩
      refine ⟨_, rfl, _, rfl, _, _, rfl, rfl, _, rfl, _, rfl, _, _, rfl, rfl, _, rfl, ite2 (fun e => ?_) (fun e => ?_)⟩
      · have e' := of_decide_eq_true e
        have bad : standsF st A' r = false := by
          unfold standsF rowNear
          rw [all_bad er (decide_eq_false fun z => by
            rw [eg] at z
            unfold absI at z
            omega)]
          rfl
        rw [← bad]
        exact q _ (sY.trans (same_new nT))
      · have e' : ¬ _ := fun z => e (decide_eq_true z)
        refine ⟨⟨_, _, _, _, rfl⟩, sY.trans (same_new nT), ?_⟩
        rw [all_snoc er, hok]
        refine decide_eq_true ?_
        rw [eg]
        unfold absI
        omega
    · obtain ⟨⟨y3, y4, y5, y6, rfl⟩, sY, hok⟩ := hP'
      rw [List.length_map, List.take_of_length_le (by rw [List.length_range]; exact Nat.le_refl _)] at hok
      refine ⟨_, rfl, al, rfl, ⟨_, .inl (.inl (sY _ _ hal))⟩, for_list (K := K) (a := al) (xs := as.map V.ref) (fun i σ HZ => (∃ y3 y4 y5 y6 : Option V, σ = [some (.ref t), some (.int st), some (.ref al), y3, y4, y5, y6]) ∧ HZ = HY ∧ ((A'.take i).all fun pr => decide (ixOf r pr.1 ≤ ixOf r pr.2)) = true)
        ⟨⟨_, _, _, _, rfl⟩, rfl, rfl⟩ (fun i σ HZ _ h => by rw [h.2.1]; exact .inl (.inl (sY _ _ hal))) (fun i x σ HZ hx hP' => ?_) (fun σ HZ hP' => ?_)⟩
      · obtain ⟨⟨y3, y4, y5, y6, rfl⟩, rfl, hok2⟩ := hP'
        rw [List.getElem?_map] at hx
        obtain ⟨t2, et2, ex⟩ := Option.map_eq_some_iff.mp hx
        subst ex
        obtain ⟨pr, hpr, ht2⟩ := paired_at hA et2
        obtain ⟨p1, p2⟩ := hin pr (List.mem_of_getElem? hpr)
        have htZ := sY _ _ ht
        refine ⟨t2, _, rfl, .inl (.inl (sY _ _ ht2)), rfl, _, _, rfl, _, _, rfl, rfl, ?_⟩
        refine ⟨_, rfl, .inl ⟨rfl, _, .inl (.inl htZ)⟩, _, rfl, t, iv r, _, ixOf r pr.1, _, rfl, rfl, .inl (.inl htZ), rfl, flat_ints r, ixg p1, ixe _, ixf, _, rfl, .inl ⟨rfl, _, .inl (.inl htZ)⟩, _, rfl, t, iv r, _, ixOf r pr.2, _, rfl, rfl, .inl (.inl htZ), rfl, flat_ints r, ixg p2, ixe _, ixf, _, _, rfl, rfl, _, rfl, ite2 (fun e => ?_) (fun e => ?_)⟩
        · have e' := of_decide_eq_true e
          have bad : standsF st A' r = false := by
            unfold standsF
            rw [all_bad hpr (decide_eq_false fun z => by omega), Bool.and_false]
          rw [← bad]
          exact q _ sY
        · have e' : ¬ _ := fun z => e (decide_eq_true z)
          refine ⟨⟨_, _, _, _, rfl⟩, rfl, ?_⟩
          rw [all_snoc hpr, hok2]
          exact decide_eq_true (by omega)
      · obtain ⟨⟨y3, y4, y5, y6, rfl⟩, rfl, hok2⟩ := hP'
        rw [List.length_map, hAl, List.take_length] at hok2
        have good : standsF st A' r = true := by
          unfold standsF rowNear
          rw [hok, hok2]
          rfl
        rw [← good]
        exact q _ sY
end
end Bn

namespace Bn
open PySem PySem.Spec PyProof.Rows L2 BR GX RM GY
theorem Pas.kp {b : Addr} {H H' : Hp} {as : List Addr} {A : Prs} (h : Pas H as A) (hb : Bx H b) (k : Kp b H H') : Pas H' as A := paired_mono h fun _ _ e => k _ _ (ne_bx hb e (fun _ _ _ z => by cases z)) e
theorem Pas.updL {H : Hp} {D : Addr} {ts : List Addr} {L : Prs} {xs : List V} {o : HO} (h : Pas H ts L) (hD : H D = some (.lst xs)) : Pas (upd H D o) ts L := paired_mono h fun _ _ e => by
  rw [upd_ne (ne_of e hD (by intro z; cases z))]
  exact e
theorem paired_set {α β : Type} {R : α → β → Prop} {l : List α} {m : List β} (h : Paired R l m) {a : α} {b : β} (r : R a b) : ∀ n, Paired R (l.set n a) (m.set n b) := by
  induction h with
  | nil => exact fun n => .nil
  | cons x t ih =>
    intro n
    cases n with
    | zero => exact .cons r t
    | succ n => exact .cons x (ih n)
theorem menu_at {n : Nat} (h : (n : Int) < 6) : ∃ c : Nat, c ≤ 4 ∧ atI [V.int 0, .int 0, .int 1, .int 2, .int 3, .int 4] (n : Int) = some (.int (c : Nat)) := by
  have : n = 0 ∨ n = 1 ∨ n = 2 ∨ n = 3 ∨ n = 4 ∨ n = 5 := by omega
  rcases this with rfl | rfl | rfl | rfl | rfl | rfl
  · exact ⟨0, by decide, rfl⟩
  · exact ⟨0, by decide, rfl⟩
  · exact ⟨1, by decide, rfl⟩
  · exact ⟨2, by decide, rfl⟩
  · exact ⟨3, by decide, rfl⟩
  · exact ⟨4, by decide, rfl⟩
theorem three_at {x y z : V} {n : Nat} (h : (n : Int) < 3) : ∃ v, (v = x ∨ v = y ∨ v = z) ∧ atI [x, y, z] (n : Int) = some v := by
  have : n = 0 ∨ n = 1 ∨ n = 2 := by omega
  rcases this with rfl | rfl | rfl
  · exact ⟨x, .inl rfl, rfl⟩
  · exact ⟨y, .inr (.inl rfl), rfl⟩
  · exact ⟨z, .inr (.inr rfl), rfl⟩
def PrOk (m : Nat) (A : Prs) : Prop := ∀ pr ∈ A, pr.1 < m ∧ pr.2 < m ∧ pr.1 ≠ pr.2
theorem ixN_last {n : Nat} (h : 0 < n) : ixN n (-1) = some (n - 1) := by
  unfold ixN
  rw [if_neg (by decide), if_pos (by omega)]
  congr 1
  omega
theorem nonempty_get {as : List Addr} (h : 0 < as.length) : ∃ a0, as[0]? = some a0 := ⟨_, List.getElem?_eq_getElem h⟩
theorem refs_ne_ints (ps : List Addr) : ∀ x y z : Int, HO.lst (ps.map V.ref) ≠ .lst [.int x, .int y, .int z] := fun x y z e => by
  injection e with e1
  cases ps with
  | nil => cases e1
  | cons p r =>
    rw [List.map_cons] at e1
    injection e1 with e2 _
    cases e2
section
variable {P : Program} {w : World} {K : PySem.W.Frag} {mg : Str → Option Value} {base : Heap}
abbrev NO : List Str := ["_law_box_here", "_law_many", "_law_ahead", "_law_k", "_law_one", "_law_stir"]
def spOrder : Sp := fun vs H Q _ => ∃ (b : Addr) (m : Nat), vs = [.ref b, .int (m : Nat)] ∧ Bx H b ∧ 1 ≤ m ∧ m ≤ 5 ∧ ∀ (o al : Addr) (st si : Nat) (A : Prs) (as : List Addr) H', H o = none → H al = none → Kb b H H' → H' o = some (.tup [.int (st : Nat), .int (si : Nat), .ref al]) → H' al = some (.lst (as.map V.ref)) → Pas H' as A → PrOk m A → A.length ≤ 4 → st ≤ 4 → si ≤ 99 → Q (.ref o) H'
theorem ok_order {f fT : Addr} {fd fdT : FuncData} (F : Fun K "_law_order" "_law_order" s_l_order f fd)
    (kT : PySem.W.keepIn K (.ref fT) = true) (bT : Binds K fdT ["_law_box_here", "_law_many"] []) (gT : mg "_law_take" = some (.ref fT)) (GT : FnOk P w K mg base CX0 2 fT fdT ["_law_box_here", "_law_many"] spTake)
    (mr : mg "range" = none) (mi : mg "int" = none) : FnOk P w K mg base CX0 3 f fd ["_law_box_here", "_law_many"] spOrder := by
  refine F.ok sc_l_order (fun vs H Q E h => ?_) (fun cdv A outer s H vs Q E hr h => ?_)
  · obtain ⟨b, m, rfl, _⟩ := h
    rfl
  · obtain ⟨b, m, rfl, hb, m1, m5, q⟩ := h
    refine ⟨_, pss_cons (ps_set (i := 2) sc_l_order.nd rfl (.inl rfl) (pe_lst pa_nil))
      (C8.pss_cut (ps_for PassesOwn.never rfl (pi_range1 (by rfl) mr (pa_cons (pe_op op_mul (pe_ix ix_list (pe_lst (pa_cons pe_int (pa_cons pe_int (pa_cons pe_int (pa_cons pe_int (pa_cons pe_int (pa_cons pe_int pa_nil))))))) (pe_call GT hr (by rfl) gT kT bT .nil pass0 (pa_cons (pv 0) (pa_cons pe_int pa_nil))) (fun _ _ => rfl)) (pe_callTy call_int1 (by rfl) mi (by decide +kernel) (pa_cons (pe_cmpR op_gt (pv 1) pe_int (nomark _)) pa_nil))) pa_nil)) (pg_name (i := 3) sc_l_order.nd rfl (.inl rfl))
        (pss_cons (ps_set (i := 4) sc_l_order.nd rfl (.inl rfl) (pe_call GT hr (by rfl) gT kT bT .nil pass0 (pa_cons (pv 0) (pa_cons (pv 1) pa_nil))))
        (pss_cons (ps_expr (pe_bm PySem.F.plainAttrs_list PySem.F.slot_list_append PySem.F.type_list_append mt_append (pv 2) (pa_cons
          (pe_tup (pa_cons (pv 4) (pa_cons (pe_op op_mod (pe_op op_add (pe_op op_add (pv 4) pe_int) (pe_call GT hr (by rfl) gT kT bT .nil pass0 (pa_cons (pv 0) (pa_cons (pe_op op_sub (pv 1) pe_int) pa_nil)))) (pv 1)) pa_nil))) pa_nil)))
        (pss_one (ps_if (pt_cmpR op_eq (pe_call GT hr (by rfl) gT kT bT .nil pass0 (pa_cons (pv 0) (pa_cons pe_int pa_nil))) pe_int (nomark _))
          (pss_one (ps_asg (pe_ix ix_list (pv 2) pe_int (fun _ _ => rfl)) (pg_sub (pv 2) (pe_un un_neg pe_int) set_list))) pss_nil)))))
      (pss_cons (ps_set (i := 5) sc_l_order.nd rfl (.inl rfl) (pe_ix ix_list (pe_lst (pa_cons (pe_call GT hr (by rfl) gT kT bT .nil pass0 (pa_cons (pv 0) (pa_cons pe_int pa_nil))) (pa_cons pe_int (pa_cons (pe_call GT hr (by rfl) gT kT bT .nil pass0 (pa_cons (pv 0) (pa_cons pe_int pa_nil))) pa_nil)))) (pe_call GT hr (by rfl) gT kT bT .nil pass0 (pa_cons (pv 0) (pa_cons pe_int pa_nil))) (fun _ _ => rfl)))
      (pss_one (ps_ret (pe_tup (pa_cons (pe_call GT hr (by rfl) gT kT bT .nil pass0 (pa_cons (pv 0) (pa_cons pe_int pa_nil))) (pa_cons (pv 5) (pa_cons (pv 2) pa_nil)))))))), ?_⟩
    refine ⟨Nat.zero_le _, fun al nal => ?_⟩
    have nab : al ≠ b := (hb.ne nal).symm
    have k1 : Kb b H (upd H al (.lst [])) := Kb.new hb nal
    have h1 : (upd H al (.lst [])) al = some (.lst []) := upd_same
    generalize upd H al (.lst []) = H1 at k1 h1 ⊢
    refine ⟨fun σ HM => ∃ (y3 y4 y5 : Option V) (as : List Addr) (A : Prs), σ = [some (.ref b), some (.int (m : Nat)), some (.ref al), y3, y4, y5] ∧ Kb b H HM ∧ HM al = some (.lst (as.map V.ref)) ∧ Pas HM as A ∧ PrOk m A ∧ A.length ≤ 4, ?_, fun σ HM hM => ?_⟩
    · refine ⟨(show 6 ≤ sizeLine by decide), fun l nl => ?_⟩
      have k2 : Kb b H1 (upd H1 l (.lst [.int 0, .int 0, .int 1, .int 2, .int 3, .int 4])) := Kb.new k1.x nl
      have h2 : (upd H1 l (.lst [.int 0, .int 0, .int 1, .int 2, .int 3, .int 4])) l = some (.lst [.int 0, .int 0, .int 1, .int 2, .int 3, .int 4]) := upd_same
      have nlb : l ≠ b := (k1.x.ne nl).symm
      generalize upd H1 l (.lst [.int 0, .int 0, .int 1, .int 2, .int 3, .int 4]) = H2 at k2 h2 ⊢
      refine ⟨_, rfl, b, 6, rfl, k2.x, by decide, by decide, fun n H3 hn k3 => ?_⟩
      obtain ⟨c, c4, hc⟩ := menu_at hn
      have k13 : Kb b H H3 := (k1.trans k2).trans k3
      have hal3 : H3 al = some (.lst []) := k3.k _ _ nab (k2.k _ _ nab h1)
      refine ⟨l, _, _, _, rfl, rfl, .inl (.inl (k3.k _ _ nlb h2)), hc, _, rfl, _, _, rfl, rfl, .inr ⟨_, rfl, _, _, rfl, rfl, .inr ⟨bit_lo _, bit_hi _⟩, _, rfl, ?_⟩⟩
      have hrange : ∃ R : Nat, R ≤ 4 ∧ (R ≠ 0 → 1 < m) ∧ ((c : Nat) : Int) * (if decide ((1 : Int) < (m : Nat)) = true then (1 : Int) else 0) = ((R : Nat) : Int) := by
        by_cases z : 1 < m
        · refine ⟨c, c4, fun _ => z, ?_⟩
          rw [if_pos (decide_eq_true (by omega))]
          omega
        · refine ⟨0, by decide, fun y => absurd rfl y, ?_⟩
          rw [if_neg (by intro y; have := of_decide_eq_true y; omega)]
          omega
      obtain ⟨R, R4, Rm, eR⟩ := hrange
      rw [eR]
      refine ⟨by omega, by omega, ?_⟩
      rw [Int.toNat_natCast]
      refine for_it (walk_range (lo := 0) (n := R)) (fun i σ HY => ∃ (y3 y4 y5 : Option V) (as : List Addr) (A : Prs), σ = [some (.ref b), some (.int (m : Nat)), some (.ref al), y3, y4, y5] ∧ Kb b H HY ∧ HY al = some (.lst (as.map V.ref)) ∧ Pas HY as A ∧ PrOk m A ∧ A.length = i)
        ⟨_, _, _, [], [], rfl, k13, hal3, .nil, (fun pr hp => by cases hp), rfl⟩ (fun _ _ _ _ _ => trivial) (fun i x σ HY HY' hi hP' hY => ?_) (fun σ HY hP' => ?_)
      · obtain ⟨rfl, rfl⟩ := hY
        obtain ⟨y3, y4, y5, as, A', rfl, kY, hal, hA, hPr, hlA⟩ := hP'
        have hlen : as.length = A'.length := Paired.length hA
        have hm1 : 1 < m := Rm (by omega)
        refine ⟨_, rfl, _, rfl, b, (m : Nat), rfl, kY.x, by omega, by omega, fun n1 H4 hn1 k4 => ?_⟩
        have hal4 := k4.k _ _ nab hal
        have hA4 : Pas H4 as A' := hA.kp kY.x k4.k
        refine ⟨_, rfl, .inl ⟨rfl, _, .inl (.inl hal4)⟩, _, rfl, _, rfl, _, _, rfl, rfl, _, rfl, _, rfl, _, _, rfl, rfl, b, _, rfl, k4.x, by omega, by omega, fun n2 H5 hn2 k5 => ?_⟩
        have hal5 := k5.k _ _ nab hal4
        have hA5 : Pas H5 as A' := hA4.kp k4.x k5.k
        refine ⟨_, _, rfl, rfl, _, rfl, _, _, rfl, rfl, by omega, (show 2 ≤ sizeLine by decide), fun t nt => ?_⟩
        have eM : ((n1 : Nat) : Int) + 1 + (n2 : Nat) = (((n1 + 1 + n2 : Nat)) : Int) := by omega
        have eM2 : (((n1 : Nat) : Int) + 1 + (n2 : Nat)) % ((m : Nat) : Int) = (((n1 + 1 + n2) % m : Nat) : Int) := by
          rw [eM]
          rfl
        have eM3 : (fun i j : Int => V.int (i % j)) ((n1 : Nat) + 1 + (n2 : Nat)) (m : Nat) = V.int (((n1 + 1 + n2) % m : Nat) : Int) := congrArg V.int eM2
        rw [eM3]
        have pr_ok : n1 < m ∧ (n1 + 1 + n2) % m < m ∧ n1 ≠ (n1 + 1 + n2) % m := by
          have a1 : n1 < m := by omega
          have a2 : n2 < m - 1 := by omega
          refine ⟨a1, Nat.mod_lt _ (by omega), fun z => ?_⟩
          by_cases y : n1 + 1 + n2 < m
          · rw [Nat.mod_eq_of_lt y] at z
            omega
          · rw [Nat.mod_eq_sub_mod (by omega), Nat.mod_eq_of_lt (by omega)] at z
            omega
        have k6 : Kb b H5 (upd H5 t (.tup [.int (n1 : Nat), .int (((n1 + 1 + n2) % m : Nat))])) := Kb.new k5.x nt
        have h6 : (upd H5 t (.tup [.int (n1 : Nat), .int (((n1 + 1 + n2) % m : Nat))])) t = some (.tup [.int (n1 : Nat), .int (((n1 + 1 + n2) % m : Nat))]) := upd_same
        generalize upd H5 t (.tup [.int (n1 : Nat), .int (((n1 + 1 + n2) % m : Nat))]) = H6 at k6 h6 ⊢
        have hal6 := k6.k _ _ nab hal5
        have hA6 : Pas H6 as A' := hA5.kp k5.x k6.k
        refine ⟨al, _, _, rfl, rfl, hal6, by rw [List.length_map]; exact small1000 (by omega), ?_⟩
        have kb7 : Kb b H (upd H6 al (.lst (as.map V.ref ++ [.ref t]))) := (((kY.trans k4).trans k5).trans k6).own nal nab
        have h7 : (upd H6 al (.lst (as.map V.ref ++ [.ref t]))) al = some (.lst ((as ++ [t]).map V.ref)) := by
          rw [upd_same, List.map_append]
          rfl
        have hA7 : Pas (upd H6 al (.lst (as.map V.ref ++ [.ref t]))) (as ++ [t]) (A' ++ [(n1, (n1 + 1 + n2) % m)]) := Pas.updL (paired_snoc hA6 h6) hal6
        have hPr7 : PrOk m (A' ++ [(n1, (n1 + 1 + n2) % m)]) := fun pr hp => by
          rcases List.mem_append.mp hp with z | z
          · exact hPr pr z
          · rw [List.mem_singleton.mp z]
            exact pr_ok
        have hl7 : (A' ++ [(n1, (n1 + 1 + n2) % m)]).length = i + 1 := by
          rw [List.length_append, hlA]
          rfl
        generalize upd H6 al (.lst (as.map V.ref ++ [.ref t])) = H7 at kb7 h7 hA7 ⊢
        generalize as ++ [t] = as7 at h7 hA7
        generalize A' ++ [(n1, (n1 + 1 + n2) % m)] = A7 at hA7 hPr7 hl7
        have hlen7 : as7.length = A7.length := Paired.length hA7
        refine ⟨_, rfl, b, 6, rfl, kb7.x, by decide, by decide, fun n3 H8 hn3 k8 => ?_⟩
        have hal8 := k8.k _ _ nab h7
        have hA8 : Pas H8 as7 A7 := hA7.kp kb7.x k8.k
        refine ⟨rfl, _, rfl, ite2 (fun e => ?_) (fun e => ?_)⟩
        · obtain ⟨a0, ha0⟩ := nonempty_get (as := as7) (by omega)
          obtain ⟨p0, hp0, hr0⟩ := paired_at hA8 ha0
          refine ⟨_, rfl, al, _, _, V.ref a0, rfl, rfl, .inl (.inl hal8), atI_nat (j := 0) (by rw [List.getElem?_map, ha0]; rfl), _, rfl, _, rfl, al, _, _, as7.length - 1, rfl, rfl, hal8, ?_, ?_⟩
          · rw [List.length_map]
            exact ixN_last (by omega)
          · refine ⟨_, _, _, as7.set (as7.length - 1) a0, A7.set (as7.length - 1) p0, rfl, (kb7.trans k8).own nal nab, ?_, ?_, fun pr hp => ?_, ?_⟩
            · rw [upd_same, List.map_set]
            · exact Pas.updL (paired_set hA8 hr0 _) hal8
            · rcases List.mem_or_eq_of_mem_set hp with z | z
              · exact hPr7 pr z
              · rw [z]
                exact hPr7 p0 (List.mem_of_getElem? hp0)
            · rw [List.length_set]
              exact hl7
        · exact ⟨_, _, _, as7, A7, rfl, kb7.trans k8, hal8, hA8, hPr7, hl7⟩
      · obtain ⟨y3, y4, y5, as, A', rfl, kY, hal, hA, hPr, hlA⟩ := hP'
        exact ⟨_, _, _, as, A', rfl, kY, hal, hA, hPr, by omega⟩
    · obtain ⟨y3, y4, y5, as, A', rfl, kM, hal, hA, hPr, hlA⟩ := hM
      refine ⟨_, rfl, b, 5, rfl, kM.x, by decide, by decide, fun n1 H1 hn1 k1' => ?_⟩
      refine ⟨_, rfl, b, 100, rfl, k1'.x, by decide, by decide, fun n2 H2 hn2 k2' => ?_⟩
      refine ⟨(show 3 ≤ sizeLine by decide), fun l nl => ?_⟩
      have k3 : Kb b H2 (upd H2 l (.lst [.int (n1 : Nat), .int 99, .int (n2 : Nat)])) := Kb.new k2'.x nl
      have h3 : (upd H2 l (.lst [.int (n1 : Nat), .int 99, .int (n2 : Nat)])) l = some (.lst [.int (n1 : Nat), .int 99, .int (n2 : Nat)]) := upd_same
      have nlb : l ≠ b := (k2'.x.ne nl).symm
      generalize upd H2 l (.lst [.int (n1 : Nat), .int 99, .int (n2 : Nat)]) = H3 at k3 h3 ⊢
      refine ⟨_, rfl, b, 3, rfl, k3.x, by decide, by decide, fun n3 H4 hn3 k4 => ?_⟩
      obtain ⟨v, hv, ev⟩ := three_at (x := V.int (n1 : Nat)) (y := .int 99) (z := .int (n2 : Nat)) hn3
      obtain ⟨si, si99, rfl⟩ : ∃ si : Nat, si ≤ 99 ∧ v = .int (si : Nat) := by
        rcases hv with rfl | rfl | rfl
        · exact ⟨n1, by omega, rfl⟩
        · exact ⟨99, by decide, rfl⟩
        · exact ⟨n2, by omega, rfl⟩
      refine ⟨l, _, _, _, rfl, rfl, .inl (.inl (k4.k _ _ nlb h3)), ev, ?_⟩
      refine ⟨_, rfl, b, 5, rfl, k4.x, by decide, by decide, fun n5 H5 hn5 k5 => ?_⟩
      have kk : Kb b HM H5 := (((k1'.trans k2').trans k3).trans k4).trans k5
      refine ⟨_, rfl, _, rfl, (show 3 ≤ sizeLine by decide), fun o no => ?_⟩
      have kall := kM.trans kk
      have hal5 := kk.k _ _ nab hal
      have hA5 : Pas H5 as A' := hA.kp kM.x kk.k
      have s6 : Same H5 (upd H5 o (.tup [.int (n5 : Nat), .int (si : Nat), .ref al])) := same_new no
      exact q o al n5 si A' as _ (kall.free no) nal (kall.trans (Kb.new kall.x no)) upd_same (s6 _ _ hal5) (paired_mono hA5 fun _ _ e => s6 _ _ e) hPr hlA (by omega) si99
end
end Bn

namespace Bn
open PySem PySem.Spec PyProof.Rows L2 BR GX RM GY
/-! ### orders of rows -/
def lexN : Rw → Rw → Bool
  | [], _ => true
  | _ :: _, [] => false
  | x :: xs, y :: ys => if x < y then true else if y < x then false else lexN xs ys
theorem lexN_trans : ∀ a b c : Rw, lexN a b = true → lexN b c = true → lexN a c = true
  | [], _, _, _, _ => rfl
  | _ :: _, [], _, h, _ => by cases h
  | x :: xs, y :: ys, [], h, k => by cases k
  | x :: xs, y :: ys, z :: zs, h, k => by
    simp only [lexN] at h k ⊢
    by_cases h1 : x < y
    · by_cases k1 : y < z
      · rw [if_pos (by omega)]
      · rw [if_neg k1] at k
        by_cases k2 : z < y
        · rw [if_pos k2] at k
          cases k
        · rw [if_pos (by omega)]
    · rw [if_neg h1] at h
      by_cases h2 : y < x
      · rw [if_pos h2] at h
        cases h
      · rw [if_neg h2] at h
        by_cases k1 : y < z
        · rw [if_pos (by omega)]
        · rw [if_neg k1] at k
          by_cases k2 : z < y
          · rw [if_pos k2] at k
            cases k
          · rw [if_neg k2] at k
            rw [if_neg (by omega), if_neg (by omega)]
            exact lexN_trans xs ys zs h k
theorem lexN_total : ∀ a b : Rw, (lexN a b || lexN b a) = true
  | [], _ => rfl
  | _ :: _, [] => rfl
  | x :: xs, y :: ys => by
    simp only [lexN]
    by_cases h1 : x < y
    · simp [h1]
    · by_cases h2 : y < x
      · simp [h1, h2]
      · simp only [if_neg h1, if_neg h2]
        exact lexN_total xs ys
theorem lexN_antisymm : ∀ a b : Rw, lexN a b = true → lexN b a = true → a = b
  | [], [], _, _ => rfl
  | [], _ :: _, _, k => by cases k
  | _ :: _, [], h, _ => by cases h
  | x :: xs, y :: ys, h, k => by
    simp only [lexN] at h k
    by_cases h1 : x < y
    · rw [if_neg (by omega), if_pos h1] at k
      cases k
    · by_cases h2 : y < x
      · rw [if_neg h1, if_pos h2] at h
        cases h
      · rw [if_neg h1, if_neg h2] at h
        rw [if_neg h2, if_neg h1] at k
        have e : x = y := by omega
        rw [e, lexN_antisymm xs ys h k]
def enc (r : Rw) : PyData := .tuple (r.map fun n => PyData.int (n : Nat))
def leR : Rw → Rw → Bool := PySem.W.dataLe false enc
theorem leR_eq : ∀ a b : Rw, leR a b = lexN a b := fun a b => by
  show (!PySem.W.dataLt (enc b) (enc a)) = _
  unfold enc
  rw [PySem.W.dataLt_tuple]
  have key : ∀ a b : Rw, (!PyProof.Rows.lexLt PyProof.Rows.itemOrd (PySem.W.keyToksAll (b.map fun n => PyData.int (n : Nat))) (PySem.W.keyToksAll (a.map fun n => PyData.int (n : Nat)))) = lexN a b := by
    intro a
    induction a with
    | nil =>
      intro b
      cases b with
      | nil =>
        show (!PyProof.Rows.lexLt PyProof.Rows.itemOrd (PySem.W.keyToksAll []) (PySem.W.keyToksAll [])) = true
        rw [PyProof.Rows.lex_irrefl]
        rfl
      | cons y ys =>
        have z := PySem.W.dataLt_ints (((y : Nat) : Int) :: ys.map fun n => ((n : Nat) : Int)) []
        have e : (((y : Nat) : Int) :: ys.map fun n => ((n : Nat) : Int)).map PyData.int = (y :: ys).map fun n => PyData.int (n : Nat) := by
          simp [List.map_map]
        rw [e] at z
        have z' : PyProof.Rows.lexLt PyProof.Rows.itemOrd (PySem.W.keyToksAll ((y :: ys).map fun n => PyData.int (n : Nat))) (PySem.W.keyToksAll []) = false := by
          refine z.trans ?_
          simp
        show (!PyProof.Rows.lexLt PyProof.Rows.itemOrd (PySem.W.keyToksAll ((y :: ys).map fun n => PyData.int (n : Nat))) (PySem.W.keyToksAll [])) = true
        rw [z']
        rfl
    | cons x xs ih =>
      intro b
      cases b with
      | nil =>
        have z := PySem.W.dataLt_ints [] (((x : Nat) : Int) :: xs.map fun n => ((n : Nat) : Int))
        have e : (((x : Nat) : Int) :: xs.map fun n => ((n : Nat) : Int)).map PyData.int = (x :: xs).map fun n => PyData.int (n : Nat) := by
          simp [List.map_map]
        rw [e] at z
        have z' : PyProof.Rows.lexLt PyProof.Rows.itemOrd (PySem.W.keyToksAll []) (PySem.W.keyToksAll ((x :: xs).map fun n => PyData.int (n : Nat))) = true := by
          refine z.trans ?_
          simp
        show (!PyProof.Rows.lexLt PyProof.Rows.itemOrd (PySem.W.keyToksAll []) (PySem.W.keyToksAll ((x :: xs).map fun n => PyData.int (n : Nat)))) = false
        rw [z']
        rfl
      | cons y ys =>
        rw [List.map_cons, List.map_cons, PySem.W.dataLt_cons (by rfl), PySem.W.dataLt_int]
        simp only [lexN]
        have eq : PyData.eqv (PyData.int (y : Nat)) (PyData.int (x : Nat)) = decide (y = x) := by
          show ((y : Int) == (x : Int)) = _
          by_cases h : y = x
          · subst h
            simp
          · have : ¬ (y : Int) = (x : Int) := by omega
            simp [h, this]
        rw [eq]
        by_cases h : y = x
        · rw [if_pos (decide_eq_true h), if_neg (by omega), if_neg (by omega)]
          exact ih ys
        · rw [if_neg (by simpa using h)]
          by_cases h1 : x < y
          · rw [if_pos h1]
            have : ¬ ((y : Int) < (x : Int)) := by omega
            simp [this]
          · rw [if_neg h1, if_pos (by omega)]
            have : ((y : Int) < (x : Int)) := by omega
            simp [this]
  exact key a b
theorem leR_fun : leR = lexN := funext fun a => funext fun b => leR_eq a b
/-! ### due -/
def dueF (m : Nat) (st : Int) (A : Prs) : List Rw := (((permsF m).filter (standsF st A)).map (invF m)).mergeSort leR
def nearAll (st : Int) (r : Rw) : Bool := (List.range r.length).all fun j => nearB st j (r.getD j 0)
theorem inv_get {m i : Nat} (r : Rw) (h : i < m) : (invF m r).getD i 0 = ixOf r i := by
  unfold invF
  rw [List.getD_eq_getElem?_getD, List.getElem?_map, List.getElem?_range h]
  rfl
theorem perms_all : ∀ m, m ≤ 5 → ∀ r ∈ permsF m, ∀ x, x < m → x ∈ r
  | 0, _ => fun r _ x hx => absurd hx (Nat.not_lt_zero _)
  | k + 1, hk => fun r hr x hx => by
    obtain ⟨r0, h0, h1⟩ := List.mem_flatMap.mp hr
    obtain ⟨a, ha, e⟩ := List.mem_map.mp h1
    have ih := perms_all k (by omega) r0 h0
    subst e
    by_cases z : x = k
    · subst z
      simp
    · have := ih x (by omega)
      have e2 : r0.take a ++ r0.drop a = r0 := List.take_append_drop a r0
      rw [← e2] at this
      rcases List.mem_append.mp this with y | y
      · simp [y]
      · simp [y]
theorem near_perm : ∀ m ≤ 5, ∀ st ≤ 4, ∀ r ∈ permsF m, rowNear (st : Nat) r = nearAll (st : Nat) (invF m r) := by decide +kernel
theorem rows_near : ∀ m ≤ 5, ∀ st ≤ 4, rowsF m (st : Nat) m = (rowsF m 9 m).filter (nearAll (st : Nat)) := by decide +kernel
theorem perm_rows : ∀ m ≤ 5, ((permsF m).map (invF m)).isPerm (rowsF m 9 m) = true := by decide +kernel
theorem rows_sorted : ∀ m ≤ 5, (rowsF m 9 m).Pairwise (fun a b => lexN a b = true) := by decide +kernel
theorem ahead_perm {m : Nat} {A : Prs} {r : Rw} (hA : PrOk m A) (hr : ∀ x, x < m → x ∈ r) : (A.all fun pr => decide (ixOf r pr.1 ≤ ixOf r pr.2)) = aheadF A (invF m r) := by
  unfold aheadF
  induction A with
  | nil => rfl
  | cons pr A ih =>
    rw [List.all_cons, List.all_cons, ih fun q hq => hA q (List.mem_cons_of_mem _ hq)]
    obtain ⟨h1, h2, h3⟩ := hA pr (List.mem_cons_self ..)
    rw [inv_get r h1, inv_get r h2]
    have ne : ixOf r pr.1 ≠ ixOf r pr.2 := fun z => by
      have a := ix_get (hr _ h1)
      have b := ix_get (hr _ h2)
      rw [z, b] at a
      exact h3 (Option.some.inj a).symm
    congr 1
    by_cases y : ixOf r pr.1 ≤ ixOf r pr.2
    · rw [decide_eq_true y, decide_eq_true (by omega)]
    · rw [decide_eq_false y, decide_eq_false (by omega)]
theorem due_eq {m st : Nat} {A : Prs} (hm : m ≤ 5) (hs : st ≤ 4) (hA : PrOk m A) : dueF m (st : Nat) A = plF m (st : Nat) A := by
  have e1 : ((permsF m).filter (standsF (st : Nat) A)).map (invF m) = ((permsF m).map (invF m)).filter (fun r => aheadF A r && nearAll (st : Nat) r) := by
    rw [List.filter_map]
    congr 1
    refine List.filter_congr fun r hr => ?_
    show standsF (st : Nat) A r = (aheadF A (invF m r) && nearAll (st : Nat) (invF m r))
    unfold standsF
    rw [near_perm m hm st hs r hr, ahead_perm hA (perms_all m hm r hr), Bool.and_comm]
  have e2 : plF m (st : Nat) A = (rowsF m 9 m).filter (fun r => aheadF A r && nearAll (st : Nat) r) := by
    unfold plF
    rw [rows_near m hm st hs, List.filter_filter]
  have p : (((permsF m).map (invF m)).filter (fun r => aheadF A r && nearAll (st : Nat) r)).Perm ((rowsF m 9 m).filter (fun r => aheadF A r && nearAll (st : Nat) r)) := (List.isPerm_iff.mp (perm_rows m hm)).filter _
  unfold dueF
  rw [e1, e2, leR_fun]
  refine List.Perm.eq_of_pairwise (le := fun a b => lexN a b = true) (fun a b _ _ h k => lexN_antisymm a b h k) ?_ ((rows_sorted m hm).filter _) ((List.mergeSort_perm _ _).trans p)
  exact List.pairwise_mergeSort (le := lexN) (fun a b c h k => lexN_trans a b c h k) (fun a b => lexN_total a b) _
end Bn

namespace Bn
open PySem PySem.Spec PyProof.Rows L2 BR GX RM GY
theorem dpAll_ints {K : PySem.W.Frag} {H : Hp} : ∀ r : Rw, DpAll K H (iv r) (r.map fun n => PyData.int (n : Nat))
  | [] => .nil
  | n :: r => .cons (.int _) (dpAll_ints r)
theorem enc_depth (r : Rw) : (enc r).depth ≤ 1 := by
  unfold enc
  have : ∀ r : Rw, PyData.depthAll (r.map fun n => PyData.int (n : Nat)) = 0 := fun r => by
    induction r with
    | nil => rfl
    | cons n r ih =>
      show max 0 (PyData.depthAll (r.map fun n => PyData.int (n : Nat))) = 0
      rw [ih]
      rfl
  show PyData.depthAll _ + 1 ≤ 1
  rw [this]
  exact Nat.le_refl _
theorem enc_alike : ∀ a b : Rw, PySem.W.alike (enc a) (enc b) = true := by
  intro a b
  show PySem.W.alikeAll _ _ = true
  have : ∀ a b : Rw, PySem.W.alikeAll (a.map fun n => PyData.int (n : Nat)) (b.map fun n => PyData.int (n : Nat)) = true := by
    intro a
    induction a with
    | nil => intro b; cases b <;> rfl
    | cons x xs ih =>
      intro b
      cases b with
      | nil => rfl
      | cons y ys =>
        show (PySem.W.alike (.int _) (.int _) && PySem.W.alikeAll _ _) = true
        rw [ih ys]
        rfl
  exact this a b
theorem paired_zip {α β : Type} {R : α → β → Prop} {l : List α} {m : List β} (h : Paired R l m) : (l.zip m).map (·.1) = l ∧ (l.zip m).map (·.2) = m ∧ ∀ p ∈ l.zip m, R p.1 p.2 := by
  induction h with
  | nil => exact ⟨rfl, rfl, fun p hp => by cases hp⟩
  | cons x _ ih =>
    obtain ⟨i1, i2, i3⟩ := ih
    refine ⟨by rw [List.zip_cons_cons, List.map_cons, i1], by rw [List.zip_cons_cons, List.map_cons, i2], fun p hp => ?_⟩
    rw [List.zip_cons_cons] at hp
    rcases List.mem_cons.mp hp with z | z
    · rw [z]
      exact x
    · exact i3 p z
theorem paired_unzip {α β : Type} {R : α → β → Prop} : ∀ (S : List (α × β)), (∀ p ∈ S, R p.1 p.2) → Paired R (S.map (·.1)) (S.map (·.2))
  | [], _ => .nil
  | p :: S, h => .cons (h p (List.mem_cons_self ..)) (paired_unzip S fun q hq => h q (List.mem_cons_of_mem _ hq))
/-- what sorted makes of rows -/
theorem sort_rows {H : Hp} {ts : List Addr} {L : List Rw} (h : Tps H ts L) : ∃ ts', (sortD ((ts.zip L).map fun p => (V.ref p.1, enc p.2))).map (·.1) = ts'.map V.ref ∧ Tps H ts' (L.mergeSort leR) := by
  obtain ⟨z1, z2, z3⟩ := paired_zip h
  let S := (ts.zip L).mergeSort fun p q => leR p.2 q.2
  have e1 : sortD ((ts.zip L).map fun p => (V.ref p.1, enc p.2)) = S.map fun p => (V.ref p.1, enc p.2) := by
    show List.mergeSort _ _ = _
    exact (List.map_mergeSort (f := fun p : Addr × Rw => ((V.ref p.1, enc p.2) : VD)) (r := fun p q => leR p.2 q.2) (s := PySem.W.dataLe false (·.2)) fun a _ b _ => rfl).symm
  have e2 : S.map (·.2) = L.mergeSort leR := by
    have := List.map_mergeSort (f := fun p : Addr × Rw => p.2) (r := fun p q => leR p.2 q.2) (s := leR) (l := ts.zip L) fun a _ b _ => rfl
    rw [z2] at this
    exact this
  refine ⟨S.map (·.1), ?_, ?_⟩
  · rw [e1, List.map_map, List.map_map]
    rfl
  · rw [← e2]
    exact paired_unzip S fun p hp => z3 p ((List.mergeSort_perm _ _).mem_iff.mp hp)
section
variable {P : Program} {w : World} {K : PySem.W.Frag} {mg : Str → Option Value} {base : Heap}
abbrev ND : List Str := ["_law_many", "_law_stray", "_law_ahead", "_law_found", "_law_row", "_law_part"]
def spDue : Sp := fun vs H Q _ => ∃ (al : Addr) (m st : Nat) (A : Prs) (as : List Addr), vs = [.int (m : Nat), .int (st : Nat), .ref al] ∧ 1 ≤ m ∧ m ≤ 5 ∧ H al = some (.lst (as.map V.ref)) ∧ Pas H as A ∧ PrOk m A ∧ ∀ r H', H r = none → Same H H' → RowsAt H' r (dueF m (st : Nat) A) → Q (.ref r) H'
theorem ok_due {f fR fS : Addr} {fd fdR fdS : FuncData} (F : Fun K "_law_due" "_law_due" s_l_due f fd)
    (kR : PySem.W.keepIn K (.ref fR) = true) (bR : Binds K fdR ["_law_many"] []) (gR : mg "_law_rows_of" = some (.ref fR)) (GR : FnOk P w K mg base CX0 1 fR fdR ["_law_many"] spRows)
    (kS : PySem.W.keepIn K (.ref fS) = true) (bS : Binds K fdS ["_law_row", "_law_stray", "_law_ahead"] []) (gS : mg "_law_stands" = some (.ref fS)) (GS : FnOk P w K mg base CX0 1 fS fdS ["_law_row", "_law_stray", "_law_ahead"] spStands)
    (mr : mg "range" = none) (mt : mg "tuple" = none) (mso : mg "sorted" = none) : FnOk P w K mg base CX0 2 f fd ["_law_many", "_law_stray", "_law_ahead"] spDue := by
  refine F.ok sc_l_due (fun vs H Q E h => ?_) (fun cdv A outer s H vs Q E hr h => ?_)
  · obtain ⟨al, m, st, A', as, rfl, _⟩ := h
    rfl
  · obtain ⟨al, m, st, A', as, rfl, hm1, hm5, hal, hA, hPr, q⟩ := h
    refine ⟨_, pss_cons (ps_set (i := 3) sc_l_due.nd rfl (.inl rfl) (pe_lst pa_nil))
      (pss_cons (ps_for PassesOwn.never rfl (pi_list (pe_call GR hr (by rfl) gR kR bR .nil pass0 (pa_cons (pv 0) pa_nil))) (pg_name (i := 4) sc_l_due.nd rfl (.inr rfl))
        (pss_one (ps_if (pt_val (pe_call GS hr (by rfl) gS kS bS .nil pass0 (pa_cons (pv 4) (pa_cons (pv 1) (pa_cons (pv 2) pa_nil)))))
          (pss_one (ps_expr (pe_bm PySem.F.plainAttrs_list PySem.F.slot_list_append PySem.F.type_list_append mt_append (pv 3) (pa_cons
            (pe_callTy call_tuple_of (by rfl) mt (by decide +kernel) (pa_cons (pe_lc (own := [("_law_part", 5)]) (g := gName 5) (tt := tYes) rfl sc_l_due.nd (pi_range1 (by rfl) mr (pa_cons (pv 0) pa_nil))
              (blkOk_by (own := [("_law_part", 5)]) (N := ND) (sc := defScope s_l_due) (by decide +kernel))
              (fun _ _ _ _ _ => pg_name (i := 5) sc_l_due.nd rfl (Or.inl rfl)) (fun _ _ _ _ _ => pts_nil)
              (fun _ _ _ _ _ => pe_bmK (K := K) rfl PySem.F.plainAttrs_list PySem.F.slot_list_index PySem.F.type_list_index (mt_K (K := K) (r := rIndex) rfl mt_index) (pv 4) (pa_cons (pv 5) pa_nil))) pa_nil)) pa_nil)))) pss_nil)))
      (pss_one (ps_ret (pe_callB (cr_sortedD hr.units) (by rfl) mso (by decide +kernel) (pa_cons (pv 3) pa_nil))))), ?_⟩
    refine ⟨Nat.zero_le _, fun fo nfo => ?_⟩
    have s1 : Same H (upd H fo (.lst [])) := same_new nfo
    have h1 : (upd H fo (.lst [])) fo = some (.lst []) := upd_same
    generalize upd H fo (.lst []) = H1 at s1 h1 ⊢
    refine ⟨_, rfl, m, rfl, hm5, fun rr H2 nrr s2 ⟨ts, hrr, hts⟩ => ?_⟩
    have hfo2 := s2 _ _ h1
    have nfr : rr ≠ fo := fun z => by
      rw [z, h1] at nrr
      cases nrr
    have nft : fo ∉ ts := fun z => by
      obtain ⟨i, hi⟩ := List.getElem?_of_mem z
      obtain ⟨row, hrow, e⟩ := paired_at hts hi
      have e' : H2 fo = some (.lst (iv row)) := e
      rw [hfo2] at e'
      have e2 : iv row = [] := (HO.lst.inj (Option.some.inj e')).symm
      have e3 := perms_in m row (List.mem_of_getElem? hrow)
      rw [List.map_eq_nil_iff] at e2
      rw [e2] at e3
      have e4 : 0 = m := e3
      omega
    have htl : ts.length = (permsF m).length := Paired.length hts
    have hpl : (permsF m).length ≤ 7776 := Nat.le_trans (perms_size m hm5) (pow6 hm5)
    refine ⟨rr, rfl, ⟨_, .inl (.inl hrr)⟩, for_list (K := K) (a := rr) (xs := ts.map V.ref) (fun i σ HY => (∃ y4 y5 : Option V, σ = [some (.int (m : Nat)), some (.int (st : Nat)), some (.ref al), some (.ref fo), y4, y5]) ∧ Same H HY ∧ HY rr = some (.lst (ts.map V.ref)) ∧ Lps HY ts (permsF m) ∧ ∃ us, HY fo = some (.lst (us.map V.ref)) ∧ Tps HY us ((((permsF m).take i).filter (standsF (st : Nat) A')).map (invF m)))
      ⟨⟨_, _, rfl⟩, s1.trans s2, hrr, hts, [], hfo2, .nil⟩ (fun i σ HY _ h => .inl (.inl h.2.2.1)) (fun i x σ HY hx hP' => ?_) (fun σ HY hP' => ?_)⟩
    · obtain ⟨⟨y4, y5, rfl⟩, sY, hrY, htsY, us, hfY, hus⟩ := hP'
      rw [List.getElem?_map] at hx
      obtain ⟨t1, et1, ex⟩ := Option.map_eq_some_iff.mp hx
      subst ex
      obtain ⟨row, hrow, ht1⟩ := paired_at htsY et1
      have hrm := List.mem_of_getElem? hrow
      have hall := perms_all m hm5 row hrm
      refine ⟨_, rfl, _, rfl, _, rfl, t1, al, row, (st : Nat), A', as, rfl, ht1, sY _ _ hal, paired_mono hA fun _ _ e => sY _ _ e, fun pr hp => ⟨hall _ (hPr pr hp).1, hall _ (hPr pr hp).2.1⟩, fun H3 s3 => ?_⟩
      refine ⟨_, rfl, ?_⟩
      have hf3 := s3 _ _ hfY
      have hus3 := hus.same s3
      have hts3 := htsY.same s3
      have hr3 := s3 _ _ hrY
      refine ite2 (fun e => ?_) (fun e => ?_)
      · refine ⟨_, rfl, .inl ⟨rfl, _, .inl (.inl hf3)⟩, ?_⟩
        refine ⟨_, rfl, ((m : Nat) : Int), rfl, by omega, by omega, fun D nD => ?_⟩
        rw [Int.toNat_natCast]
        have ht3 := s3 _ _ ht1
        refine lc_range (lo := 0) (n := m) (fun a HX => Same H3 HX ∧ HX D = some (.lst (iv ((List.range a).map (ixOf row))))) ⟨same_new nD, upd_same⟩ (fun a HX ha hP' => ?_) (fun HX hP' => ?_)
        · obtain ⟨sX, hD⟩ := hP'
          have htX := sX _ _ ht3
          refine ⟨rfl, tYes_in ?_⟩
          rw [show (V.int (0 + (a : Nat))) = V.int (a : Nat) from congrArg V.int (Int.zero_add _)]
          refine ⟨_, rfl, .inl ⟨rfl, _, .inl (.inl htX)⟩, _, rfl, t1, iv row, _, ixOf row a, _, rfl, rfl, .inl (.inl htX), rfl, flat_ints row, ixg (hall a ha), ixe _, ixf, _, hD, ?_, Same.own sX nD, ?_⟩
          · rw [List.length_map, List.length_map, List.length_range]
            exact small1000 (by omega)
          · rw [upd_same, List.range_succ, List.map_append, iv, iv, List.map_append]
            rfl
        · obtain ⟨sX, hD⟩ := hP'
          have hD' : HX D = some (.lst (iv (invF m row))) := hD
          refine ⟨D, _, rfl, .inl ⟨.inl (.inl hD'), fun t nt => ?_⟩⟩
          have sT : Same HX (upd HX t (.tup (iv (invF m row)))) := same_new nt
          have hT : (upd HX t (.tup (iv (invF m row)))) t = some (.tup (iv (invF m row))) := upd_same
          generalize upd HX t (.tup (iv (invF m row))) = HT at sT hT ⊢
          have sT3 := sX.trans sT
          have hfT := sT3 _ _ hf3
          refine ⟨fo, _, _, rfl, rfl, hfT, ?_, ⟨_, _, rfl⟩, Same.own (((sY.trans s3).trans sX).trans sT) nfo, ?_, ?_, us ++ [t], ?_, ?_⟩
          · rw [List.length_map, Paired.length hus, List.length_map]
            refine line50000 (Nat.le_trans (List.length_filter_le _ _) ?_)
            rw [List.length_take]
            omega
          · rw [upd_ne nfr]
            exact sT3 _ _ hr3
          · refine paired_mono2 (hts3.same sT3) fun a ha e => ?_
            rw [upd_ne fun z => nft (by rw [← z]; exact ha)]
            exact e
          · rw [upd_same, List.map_append]
            rfl
          · rw [filter_snoc hrow, if_pos e, List.map_append]
            exact Tps.updL (paired_snoc (hus3.same sT3) hT) hfT
      · refine ⟨⟨_, _, rfl⟩, sY.trans s3, hr3, hts3, us, hf3, ?_⟩
        rw [filter_snoc hrow, if_neg e, List.append_nil]
        exact hus3
    · obtain ⟨⟨y4, y5, rfl⟩, sY, hrY, htsY, us, hfY, hus⟩ := hP'
      rw [List.length_map, htl, List.take_length] at hus
      obtain ⟨z1, z2, z3⟩ := paired_zip hus
      have eF : ((us.zip (((permsF m).filter (standsF (st : Nat) A')).map (invF m))).map fun p => ((V.ref p.1, enc p.2) : VD)).map (·.1) = us.map V.ref := by
        rw [List.map_map]
        conv => rhs; rw [← z1]
        rw [List.map_map]
        rfl
      refine ⟨_, rfl, fo, (us.zip (((permsF m).filter (standsF (st : Nat) A')).map (invF m))).map fun p => ((V.ref p.1, enc p.2) : VD), rfl, ?_, fun b hb => ?_, ?_, ?_, fun p np => ?_⟩
      · rw [eF]
        exact .inl (.inl hfY)
      · obtain ⟨pr, hpr, rfl⟩ := List.mem_map.mp hb
        exact ⟨.tup (.inl (.inl (z3 pr hpr))) (dpAll_ints _), Nat.le_trans (enc_depth _) (by decide)⟩
      · rw [List.map_map]
        exact PySem.W.AllAlike.of (enc := fun p : Addr × Rw => enc p.2) fun b b' => enc_alike _ _
      · rw [List.map_map]
        refine .inl fun d hd => ?_
        obtain ⟨pr, hpr, rfl⟩ := List.mem_map.mp hd
        have hm2 := List.of_mem_zip hpr
        obtain ⟨row, _, e⟩ := List.mem_map.mp hm2.2
        have e2 : pr.2.length = m := by
          rw [← e]
          unfold invF
          rw [List.length_map, List.length_range]
        show ∃ x r, enc pr.2 = .tuple (x :: r)
        cases e3 : pr.2 with
        | nil =>
          rw [e3] at e2
          have e4 : 0 = m := e2
          omega
        | cons x r => exact ⟨_, _, rfl⟩
      · obtain ⟨ts', e1, e2⟩ := sort_rows hus
        rw [e1]
        exact q p _ (sY.free np) (sY.trans (same_new np)) ⟨ts', upd_same, e2.same (same_new np)⟩
end
end Bn

namespace Bn
open PySem PySem.Spec PyProof.Rows L2 BR GX RM GY
theorem rows_data {K : PySem.W.Frag} {H : Hp} : ∀ {ts : List Addr} {L : List Rw}, Tps H ts L → DpAll K H (ts.map V.ref) (L.map enc) := fun {ts L} h => by
  induction h with
  | nil => exact .nil
  | cons x _ ih => exact .cons (.tup (.inl (.inl x)) (dpAll_ints _)) ih
theorem encs_shaped : ∀ L : List Rw, PyData.canLayAll0 (L.map enc) = true ∧ PyData.depthAll (L.map enc) ≤ 1
  | [] => ⟨rfl, Nat.zero_le _⟩
  | r :: L => by
    obtain ⟨a, b⟩ := encs_shaped L
    have c : (enc r).canLay0 = true := by
      unfold enc
      show PyData.canLayAll0 _ = true
      induction r with
      | nil => rfl
      | cons x r ih => exact ih
    refine ⟨?_, ?_⟩
    · show ((enc r).canLay0 && PyData.canLayAll0 (L.map enc)) = true
      rw [a, c]
      rfl
    · show max (enc r).depth (PyData.depthAll (L.map enc)) ≤ 1
      have := enc_depth r
      omega
theorem rows_shaped (L : List Rw) : SeqAt.shaped (.list (L.map enc)) = true := by
  obtain ⟨a, b⟩ := encs_shaped L
  show (PyData.canLayAll0 (L.map enc) && decide (PyData.depthAll (L.map enc) + 1 ≤ 64)) = true
  rw [a, decide_eq_true (by omega)]
  rfl
section
variable {P : Program} {w : World} {K : PySem.W.Frag} {mg : Str → Option Value} {base : Heap}
abbrev NRt : List Str := ["_law_box_here", "_law_many", "_law_head", "_law_parts", "_law_order_here", "_law_rule", "_law_due_here", "_law_turn", "_law_found", "_law_places", "_law_off", "_law_k", "_law_place"]
def cutB (b : Addr) (H : Hp) : Hp := fun x => if x = b then none else H x
theorem cutB_at (b : Addr) (H : Hp) : cutB b H b = none := by
  unfold cutB
  rw [if_pos rfl]
theorem cutB_ne {b x : Addr} {H : Hp} (h : x ≠ b) : cutB b H x = H x := by
  unfold cutB
  rw [if_neg h]
theorem cutB_same {b : Addr} {H : Hp} {Ps : List Addr} (hT : Tabs Ps H) : SameN Ps (cutB b H) H := by
  have key : ∀ x y, cutB b H x = some y → H x = some y := fun x y e => by
    by_cases z : x = b
    · rw [z, cutB_at] at e
      cases e
    · rw [cutB_ne z] at e
      exact e
  exact ⟨fun x y _ e => key x y e, fun x p e => ⟨p, key x _ e⟩, hT⟩
theorem ite_bit {b : Bool} : ∃ n : Nat, (n : Int) < 2 ∧ (if b = true then (1 : Int) else 0) = ((n : Nat) : Int) := by
  cases b
  · exact ⟨0, by decide, rfl⟩
  · exact ⟨1, by decide, rfl⟩
theorem two_at {x y : V} {n : Nat} (h : (n : Int) < 2) : ∃ v, atI [x, y] (n : Int) = some v := by
  have : n = 0 ∨ n = 1 := by omega
  rcases this with rfl | rfl
  · exact ⟨x, rfl⟩
  · exact ⟨y, rfl⟩
theorem iteF' {b : Bool} {p q : Prop} (h : b = false) (x : q) : if b = true then p else q := by
  subst h
  exact iteF x
def spRight (Ps : List Addr) : Sp := fun vs H Q _ => ∃ b : Addr, vs = [.ref b] ∧ Bx H b ∧ Tabs Ps H ∧ ∀ H', SameN Ps (cutB b H) H' → Q (.bl true) H'
theorem ok_right {f fT fO fD fP fS : Addr} {fd fdT fdO fdD fdP fdS : FuncData} {Ps : List Addr} (F : Fun K "_law_right" "_law_right" s_l_right f fd)
    (kT : PySem.W.keepIn K (.ref fT) = true) (bT : Binds K fdT ["_law_box_here", "_law_many"] []) (gT : mg "_law_take" = some (.ref fT)) (GT : FnOk P w K mg base CX0 2 fT fdT ["_law_box_here", "_law_many"] spTake)
    (kO : PySem.W.keepIn K (.ref fO) = true) (bO : Binds K fdO ["_law_box_here", "_law_many"] []) (gO : mg "_law_order" = some (.ref fO)) (GO : FnOk P w K mg base CX0 3 fO fdO ["_law_box_here", "_law_many"] spOrder)
    (kD : PySem.W.keepIn K (.ref fD) = true) (bD : Binds K fdD ["_law_many", "_law_stray", "_law_ahead"] []) (gD : mg "_law_due" = some (.ref fD)) (GD : FnOk P w K mg base CX0 2 fD fdD ["_law_many", "_law_stray", "_law_ahead"] spDue)
    (kP : PySem.W.keepIn K (.ref fP) = true) (bP : Binds K fdP ["rule"] []) (gP : mg "places_of" = some (.ref fP)) (GP : FnOk P w K mg base CX0 5 fP fdP ["rule"] (spPl Ps))
    (kS : PySem.W.keepIn K (.ref fS) = true) (bS : Binds K fdS ["rule", "places"] []) (gS : mg "stir_of" = some (.ref fS)) (GS : FnOk P w K mg base CX0 5 fS fdS ["rule", "places"] (spSO Ps))
    (mr : mg "range" = none) (mi : mg "int" = none) (mis : mg "isinstance" = none) (ml : mg "list" = none) (me : mg "enumerate" = none) (mab : mg "abs" = none) (msu : mg "sum" = none) : FnOk P w K mg base CX0 6 f fd ["_law_box_here"] (spRight Ps) := by
  refine F.ok sc_l_right (fun vs H Q E h => ?_) (fun cdv A outer s H vs Q E hr h => ?_)
  · obtain ⟨b, rfl, _⟩ := h
    rfl
  · obtain ⟨b, rfl, hb, hT, q⟩ := h
    refine ⟨_, pss_cons (ps_set (i := 1) sc_l_right.nd rfl (.inl rfl) (pe_op op_add pe_int (pe_call GT (hr.mono (by decide)) (by rfl) gT kT bT .nil pass0 (pa_cons (pv 0) (pa_cons pe_int pa_nil)))))
      (pss_cons (ps_set (i := 2) sc_l_right.nd rfl (.inr rfl) (pe_call GT (hr.mono (by decide)) (by rfl) gT kT bT .nil pass0 (pa_cons (pv 0) (pa_cons (pv 1) pa_nil))))
      (pss_cons (ps_setLc (i := 3) (own := [("_law_k", 11)]) (g := gName 11) (tt := tYes) rfl sc_l_right.nd rfl rfl (sw_true rfl rfl rfl (by decide +kernel)) (pi_range1 (by rfl) mr (pa_cons (pv 1) pa_nil))
        (blkOk_by (own := [("_law_k", 11)]) (N := NRt) (sc := defScope s_l_right) (by decide +kernel))
        (fun _ _ _ _ _ => pg_name (i := 11) sc_l_right.nd rfl (Or.inl rfl)) (fun _ _ _ _ _ => pts_nil)
        (fun _ _ _ _ _ => pe_tup (pa_cons (pe_ix (ix_lstK (K := K) rfl) (pe_lst (pa_cons pe_str (pa_cons pe_str pa_nil))) (pe_callTy (T := "int") call_int1 (by rfl) mi (by decide +kernel) (pa_cons (pe_cmpR op_eq (pv 11) (pv 2) (nomark _)) pa_nil)) (fun _ _ => rfl)) (pa_cons pe_str (pa_cons pe_dnewK (pa_cons pe_bl pa_nil))))))
      (pss_cons (ps_set (i := 4) sc_l_right.nd rfl (.inl rfl) (pe_call GO (hr.mono (by decide)) (by rfl) gO kO bO .nil pass0 (pa_cons (pv 0) (pa_cons (pv 1) pa_nil))))
      (pss_cons (ps_set (i := 5) sc_l_right.nd rfl (.inl rfl) (pe_tup (pa_cons pe_str (pa_cons pe_int (pa_cons pe_str (pa_cons pe_dnewK (pa_cons (pv 3) (pa_cons (pe_lst pa_nil) (pa_cons (pv 4) pa_nil)))))))))
      (pss_cons (ps_set (i := 6) sc_l_right.nd rfl (.inl rfl) (pe_call GD (hr.mono (by decide)) (by rfl) gD kD bD .nil pass0 (pa_cons (pv 1) (pa_cons (pe_ix ix_tup (pv 4) pe_int (fun _ _ => rfl)) (pa_cons (pe_ix ix_tup (pv 4) pe_int (fun _ _ => rfl)) pa_nil)))))
      (pss_cons (ps_for PassesOwn.never rfl (pi_range1 (by rfl) mr (pa_cons pe_int pa_nil)) (pg_name (i := 7) sc_l_right.nd rfl (.inl rfl))
        (pss_cons (ps_set (i := 8) sc_l_right.nd rfl (.inl rfl) (pe_call GP hr (by rfl) gP kP bP .nil pass0 (pa_cons (pv 5) pa_nil)))
        (pss_cons (ps_if (PW.pt (pw_or (pt_not (pt_val (pe_callB call_isi (by rfl) mis (by decide +kernel) (pa_cons (pv 8) (pa_cons (pe_bltn (v := .ty "list") (by rfl) ml (by decide +kernel) rfl) pa_nil))))) (pw_or1 (pt_cmpR (op_neD hr.units) (pv 8) (pv 6) (nomark _))))) (pss_one (ps_ret pe_bl)) pss_nil)
        (pss_cons (ps_for PassesOwn.never rfl (pi_list (pv 8)) (pg_name (i := 9) sc_l_right.nd rfl (.inl rfl))
          (pss_cons (ps_setLc (i := 10) (own := [("_law_k", 11), ("_law_place", 12)]) (tt := tYes) rfl sc_l_right.nd rfl rfl (sw_true rfl rfl rfl (by decide +kernel)) (pi_enumT (by rfl) me (pa_cons (pv 9) pa_nil))
            (blkOk_by (own := [("_law_k", 11), ("_law_place", 12)]) (N := NRt) (sc := defScope s_l_right) (by decide +kernel))
            (fun _ _ _ _ _ => pg_tupK (K := K) (n := 2) rfl (pg_tup (n := 2) rfl (pgs_cons (pg_name (i := 11) sc_l_right.nd rfl (Or.inl rfl)) (pgs_cons (pg_name (i := 12) sc_l_right.nd rfl (Or.inl rfl)) pgs_nil)))) (fun _ _ _ _ _ => pts_nil)
            (fun _ _ _ _ _ => pe_callB call_abs (by rfl) mab (by decide +kernel) (pa_cons (pe_op op_sub (pv 12) (pv 11)) pa_nil)))
          (pss_one (ps_if (pt_cmpR op_ne (pe_call GS hr (by rfl) gS kS bS .nil pass0 (pa_cons (pv 5) (pa_cons (pv 9) pa_nil))) (pe_op op_mul (pe_ix ix_tup (pv 4) pe_int (fun _ _ => rfl)) (pe_callB (cr_sum rfl) (by rfl) msu (by decide +kernel) (pa_cons (pv 10) pa_nil))) (nomark _)) (pss_one (ps_ret pe_bl)) pss_nil))))
        (pss_one (ps_expr (pe_bm PySem.F.plainAttrs_list PySem.F.slot_list_append PySem.F.type_list_append mt_append (pv 8) (pa_cons (pe_tup pa_nil) pa_nil))))))))
      (pss_one (ps_ret (pe_cmpR (op_eqN hr.units) (pv 5) (pe_tup (pa_cons pe_str (pa_cons pe_int (pa_cons pe_str (pa_cons pe_dnewK (pa_cons (pv 3) (pa_cons (pe_lst pa_nil) (pa_cons (pv 4) pa_nil)))))))) (nomark _)))))))))), ?_⟩
    refine ⟨_, rfl, b, 5, rfl, hb, by decide, by decide, fun n0 H1 hn0 k1 => ⟨_, _, rfl, rfl, ?_⟩⟩
    have em : (fun i j : Int => V.int (i + j)) 1 (n0 : Nat) = V.int ((n0 + 1 : Nat) : Int) := congrArg V.int (show (1 : Int) + (n0 : Nat) = ((n0 + 1 : Nat) : Int) by omega)
    rw [em]
    have m1 : 1 ≤ n0 + 1 := by omega
    have m5 : n0 + 1 ≤ 5 := by omega
    generalize n0 + 1 = m at m1 m5 ⊢
    clear em
    refine ⟨_, rfl, _, rfl, b, (m : Nat), rfl, k1.x, by omega, by omega, fun hd H2 hhd k2 => ?_⟩
    have k12 := k1.trans k2
    -- the parts
    refine ⟨_, rfl, ((m : Nat) : Int), rfl, by omega, by omega, fun D nD => ?_⟩
    rw [Int.toNat_natCast]
    have nDb : D ≠ b := (k12.x.ne nD).symm
    have s0 : SameN Ps (cutB b H) H2 := (cutB_same hT).kb (cutB_at b H) hb k12
    refine lc_range (lo := 0) (n := m) (fun j HX => Same H2 HX ∧ ∃ ps : List V, HX D = some (.lst ps) ∧ ps.length = j) ⟨same_new nD, [], upd_same, rfl⟩ (fun j HX hj hP' => ?_) (fun HX hP' => ?_)
    · obtain ⟨sX, ps, hD, hl⟩ := hP'
      refine ⟨rfl, tYes_in ?_⟩
      refine ⟨(show 2 ≤ sizeLine by decide), fun l nl => ?_⟩
      have s1 : Same HX (upd HX l (.lst [.str "x", .str "head"])) := same_new nl
      have h1 : (upd HX l (.lst [.str "x", .str "head"])) l = some (.lst [.str "x", .str "head"]) := upd_same
      generalize upd HX l (.lst [.str "x", .str "head"]) = HA at s1 h1 ⊢
      refine ⟨_, rfl, _, rfl, rfl, .inr ⟨_, rfl, ?_⟩⟩
      obtain ⟨bit, hbit, eb⟩ := ite_bit (b := decide (V.int (0 + (j : Nat)) = V.int (hd : Nat)))
      obtain ⟨v, hv⟩ := two_at (x := V.str "x") (y := V.str "head") hbit
      refine ⟨l, _, _, v, rfl, rfl, .inl (.inl h1), ?_, fun d nd => ?_⟩
      · rw [← eb] at hv
        exact hv
      have s2 : Same HA (upd HA d (.dK [])) := same_new nd
      generalize upd HA d (.dK []) = HB at s2 ⊢
      refine ⟨(show 4 ≤ sizeLine by decide), fun t nt => ?_⟩
      have s3 := (s1.trans s2).trans (same_new (o := .tup [v, .str "a", .ref d, .bl true]) nt)
      refine ⟨_, s3 _ _ hD, by rw [hl]; exact small1000 (by omega), Same.own (sX.trans s3) nD, _, upd_same, ?_⟩
      rw [List.length_append, hl]
      rfl
    obtain ⟨sX, ps, hD, hl⟩ := hP'
    have kX : Kb b H2 HX := ⟨Kp.of_same sX, k12.x.same sX⟩
    have s1 : SameN Ps (cutB b H) HX := s0.same sX
    -- the order
    refine ⟨_, rfl, _, rfl, b, m, rfl, kX.x, m1, m5, fun o al st si A' as H4 no nal k4 ho hal hA hPr hA4 st4 si99 => ?_⟩
    have nob : o ≠ b := (kX.x.ne no).symm
    have nalb : al ≠ b := (kX.x.ne nal).symm
    have s4 : SameN Ps (cutB b H) H4 := s1.kb (cutB_at b H) kX.x k4
    have hD4 : H4 D = some (.lst ps) := k4.k _ _ nDb hD
    -- the rule
    intro d1 nd1
    have sa : Same H4 (upd H4 d1 (.dK [])) := same_new nd1
    have hd1 : (upd H4 d1 (.dK [])) d1 = some (.dK []) := upd_same
    generalize upd H4 d1 (.dK []) = HA at sa hd1 ⊢
    refine ⟨_, rfl, Nat.zero_le _, fun l1 nl1 => ?_⟩
    have sb : Same HA (upd HA l1 (.lst [])) := same_new nl1
    have hl1 : (upd HA l1 (.lst [])) l1 = some (.lst []) := upd_same
    generalize upd HA l1 (.lst []) = HB at sb hl1 ⊢
    refine ⟨_, rfl, (show 7 ≤ sizeLine by decide), fun a na => ?_⟩
    have sc : Same HB (upd HB a (.tup [.str "r", .int 1, .str "s", .ref d1, .ref D, .ref l1, .ref o])) := same_new na
    have ha : (upd HB a (.tup [.str "r", .int 1, .str "s", .ref d1, .ref D, .ref l1, .ref o])) a = some (.tup [.str "r", .int 1, .str "s", .ref d1, .ref D, .ref l1, .ref o]) := upd_same
    generalize upd HB a (.tup [.str "r", .int 1, .str "s", .ref d1, .ref D, .ref l1, .ref o]) = HC at sc ha ⊢
    have sabc := (sa.trans sb).trans sc
    have sC : SameN Ps (cutB b H) HC := s4.same sabc
    have hR : RuleAt HC a m (st : Nat) (si : Nat) A' D o al ps as (.str "r") (.int 1) (.str "s") (.ref d1) (.ref l1) :=
      ⟨ha, sabc _ _ hD4, hl, sabc _ _ ho, sabc _ _ hal, paired_mono hA fun _ _ e => sabc _ _ e⟩
    have hd1C := sc _ _ (sb _ _ hd1)
    have hl1C := sc _ _ hl1
    -- due
    refine ⟨_, rfl, _, rfl, o, _, _, V.int (st : Nat), rfl, rfl, .inl (.inl hR.o), rfl, _, rfl, o, _, _, V.ref al, rfl, rfl, .inl (.inl hR.o), rfl, al, m, st, A', as, rfl, m1, m5, hR.al, hR.as, hPr, fun du HD ndu sD ⟨dts, hdu, hdts⟩ => ?_⟩
    rw [due_eq m5 st4 hPr] at hdts
    have hRD := hR.same sD
    have sDD : SameN Ps (cutB b H) HD := sC.same sD
    have hprs : ∀ pr ∈ A', pr.1 < m ∧ pr.2 < m := fun pr hp => ⟨(hPr pr hp).1, (hPr pr hp).2.1⟩
    have hpl : (plF m (st : Nat) A').length ≤ 3125 := Nat.le_trans (List.length_filter_le _ _) (Nat.le_trans (rows_size m (st : Nat) m) (pow5 m5 m5))
    refine ⟨2, rfl, by decide, by decide, for_range (n := 2) (fun i σ HY => (∃ y7 y8 y9 y10 y11 y12 : Option V, σ = [some (.ref b), some (.int (m : Nat)), some (.int (hd : Nat)), some (.ref D), some (.ref o), some (.ref a), some (.ref du), y7, y8, y9, y10, y11, y12]) ∧ SameN Ps HD HY) ⟨⟨_, _, _, _, _, _, rfl⟩, SameN.refl sDD.t⟩ (fun i σ HY hi hP' => ?_) (fun σ HY hP' => ?_)⟩
    · obtain ⟨⟨y7, y8, y9, y10, y11, y12, rfl⟩, sY⟩ := hP'
      have hRY := hRD.sameN sY
      refine ⟨_, rfl, a, D, o, al, m, (st : Nat), (si : Nat), A', ps, as, _, _, _, _, _, rfl, hRY, m5, hprs, sY.t, fun fo HF nfo sF ⟨fts, hfo, hfts⟩ => ?_⟩
      have sDF := sY.trans sF
      have hduF := sDF.k _ _ nt_lst hdu
      have hdtsF := hdts.sameN sDF
      refine ⟨_, rfl, _, .ty "list", .type "list", .type "list", true, rfl, .ty "list", .base (.lst hfo), kit_ty (by decide +kernel), true, rfl, iteF ⟨_, rfl, _, rfl, _, _, .lst (.inl (.inl hfo)) (rows_data hfts), .lst (.inl (.inl hduF)) (rows_data hdtsF), rows_shaped _, rows_shaped _, _, rfl, ?_⟩⟩
      have eqq : PyData.eqv (.list ((plF m (st : Nat) A').map enc)) (.list ((plF m (st : Nat) A').map enc)) = true := SeqAt.eqv_refl _ (encs_shaped _).1
      rw [eqq]
      refine iteF ?_
      have hftl : fts.length = (plF m (st : Nat) A').length := Paired.length hfts
      have nfoD : HD fo = none := sY.free nfo
      refine ⟨_, rfl, fo, rfl, ⟨_, .inl (.inl hfo)⟩, for_list (K := K) (a := fo) (xs := fts.map V.ref) (fun j σ HZ => (∃ y7 y9 y10 y11 y12 : Option V, σ = [some (.ref b), some (.int (m : Nat)), some (.int (hd : Nat)), some (.ref D), some (.ref o), some (.ref a), some (.ref du), y7, some (.ref fo), y9, y10, y11, y12]) ∧ SameN Ps HF HZ) ⟨⟨_, _, _, _, _, rfl⟩, SameN.refl sF.t⟩ (fun j σ HZ _ h => .inl (.inl (h.2.k _ _ nt_lst hfo))) (fun j x σ HZ hx hP' => ?_) (fun σ HZ hP' => ?_)⟩
      · obtain ⟨⟨y7, y9, y10, y11, y12, rfl⟩, sZ⟩ := hP'
        rw [List.getElem?_map] at hx
        obtain ⟨t1, et1, ex⟩ := Option.map_eq_some_iff.mp hx
        subst ex
        obtain ⟨row, hrow, ht1⟩ := paired_at hfts et1
        have hrin := rows_in m (st : Nat) m row (List.mem_filter.mp (List.mem_of_getElem? hrow)).1
        have ht1Z := sZ.k _ _ nt_tup ht1
        refine ⟨_, rfl, t1, _, rfl, .inl (.inl ht1Z), fun L nL => ?_⟩
        refine lc_it (walk_enumT (K := K) (a := t1) (xs := iv row)) (fun i HX => Same HZ HX ∧ HX L = some (.lst ((offL row i).map V.int))) ⟨same_new nL, upd_same⟩ (fun i HX _ h => .inl (.inl (h.1 _ _ ht1Z))) (fun i x HX HX' hi2 hP' hY => ?_) (fun HX hP' => ?_)
        · obtain ⟨T, u1, u2, rfl, nT, rfl, e1, e2⟩ := hY
          obtain ⟨sX, hL⟩ := hP'
          rw [List.length_map] at hi2
          have e1' := Option.some.inj e1
          subst e1'
          have e2' : (iv row)[i]? = some u2 := e2
          rw [List.getElem?_map, List.getElem?_eq_getElem hi2] at e2'
          have e3 := Option.some.inj e2'
          subst e3
          have sT : Same HX (upd HX T (.tup [.int (i : Nat), .int (row[i] : Nat)])) := same_new nT
          refine ⟨T, _, rfl, .inl (.inl upd_same), rfl, _, _, rfl, _, _, rfl, rfl, ?_⟩
          refine ⟨rfl, tYes_in ?_⟩
          refine ⟨_, rfl, _, rfl, _, _, rfl, rfl, _, rfl, _, sT _ _ hL, ?_, Same.own (sX.trans sT) nL, ?_⟩
          · rw [List.length_map]
            unfold offL
            rw [List.length_map, List.length_range]
            exact small1000 (by omega)
          · rw [upd_same, offL_succ, List.map_append]
            congr 4
            unfold off
            rw [List.getD_eq_getElem?_getD, List.getElem?_eq_getElem hi2]
            rfl
        · obtain ⟨sX, hL⟩ := hP'
          rw [List.length_map] at hL
          have sFX := sZ.same sX
          have hRX := (hRY.sameN sF).sameN sFX
          refine ⟨_, rfl, _, rfl, a, D, o, al, t1, m, (st : Nat), (si : Nat), A', ps, as, _, _, _, _, _, row, rfl, hRX, by omega, by omega, sX _ _ ht1Z, sFX.t, fun HW sW => ?_⟩
          have hRW := hRX.sameN sW
          have hLW := sW.k _ _ nt_lst hL
          refine ⟨_, rfl, o, _, _, V.int (si : Nat), rfl, rfl, .inl (.inl hRW.o), rfl, _, rfl, L, _, rfl, .inl (.inl hLW), _, _, rfl, rfl, .inl ⟨by omega, by omega⟩, rfl, _, rfl, ?_⟩
          refine iteF' (by simp) ?_
          exact ⟨⟨_, _, _, _, _, rfl⟩, sFX.trans sW⟩
      · obtain ⟨⟨y7, y9, y10, y11, y12, rfl⟩, sZ⟩ := hP'
        have hfoZ := sZ.k _ _ nt_lst hfo
        refine ⟨_, rfl, .inl ⟨rfl, _, .inl (.inl hfoZ)⟩, Nat.zero_le _, fun t0 nt0 => ?_⟩
        have s0' : Same HZ (upd HZ t0 (.tup [])) := same_new nt0
        generalize upd HZ t0 (.tup []) = HE at s0' ⊢
        have hfoE := s0' _ _ hfoZ
        refine ⟨fo, _, _, rfl, rfl, hfoE, ?_, ⟨_, _, _, _, _, _, rfl⟩, ((sDF.trans sZ).same s0').own nfoD hfoE nt_lst⟩
        rw [List.length_map, hftl]
        exact line4000 (by omega)
    · obtain ⟨⟨y7, y8, y9, y10, y11, y12, rfl⟩, sY⟩ := hP'
      have hRY := hRD.sameN sY
      have hd1Y := sY.k _ _ nt_dK (sD _ _ hd1C)
      have hl1Y := sY.k _ _ nt_lst (sD _ _ hl1C)
      refine ⟨_, rfl, fun d2 nd2 => ?_⟩
      have sa2 : Same HY (upd HY d2 (.dK [])) := same_new nd2
      have hd2 : (upd HY d2 (.dK [])) d2 = some (.dK []) := upd_same
      generalize upd HY d2 (.dK []) = HA2 at sa2 hd2 ⊢
      refine ⟨_, rfl, Nat.zero_le _, fun l2 nl2 => ?_⟩
      have sb2 : Same HA2 (upd HA2 l2 (.lst [])) := same_new nl2
      have hl2 : (upd HA2 l2 (.lst [])) l2 = some (.lst []) := upd_same
      generalize upd HA2 l2 (.lst []) = HB2 at sb2 hl2 ⊢
      refine ⟨_, rfl, (show 7 ≤ sizeLine by decide), fun a2 na2 => ?_⟩
      have sc2 : Same HB2 (upd HB2 a2 (.tup [.str "r", .int 1, .str "s", .ref d2, .ref D, .ref l2, .ref o])) := same_new na2
      have ha2 : (upd HB2 a2 (.tup [.str "r", .int 1, .str "s", .ref d2, .ref D, .ref l2, .ref o])) a2 = some (.tup [.str "r", .int 1, .str "s", .ref d2, .ref D, .ref l2, .ref o]) := upd_same
      generalize upd HB2 a2 (.tup [.str "r", .int 1, .str "s", .ref d2, .ref D, .ref l2, .ref o]) = HC2 at sc2 ha2 ⊢
      have sall := (sa2.trans sb2).trans sc2
      refine ⟨2, by decide, .inr ⟨a, a2, _, _, rfl, rfl, .inl (.inl (sall _ _ hRY.a)), .inl (.inl ha2), ?_⟩, q _ ((sDD.trans sY).same sall)⟩
      refine .cons (.inl ⟨rfl, rfl⟩) (.cons (.inl ⟨rfl, rfl⟩) (.cons (.inl ⟨rfl, rfl⟩) (.cons (.inr (.inr (.inl (.inr ⟨d1, d2, [], [], rfl, rfl, sall _ _ hd1Y, sc2 _ _ (sb2 _ _ hd2), rfl, fun p hp => by cases hp⟩)))) (.cons (.inr (.inl ⟨_, rfl, rfl⟩)) (.cons (.inr (.inr (.inl (.inl ⟨l1, l2, [], [], rfl, rfl, .inl (.inl (sall _ _ hl1Y)), .inl (.inl (sc2 _ _ hl2)), .nil⟩)))) (.cons (.inr (.inl ⟨_, rfl, rfl⟩)) .nil))))))
end
end Bn

namespace Bn
open PySem PySem.Spec PyProof.Rows L2 BR GX RM GY
theorem seqN {K : PySem.W.Frag} {Ps : List Addr} {H H' : Hp} {a : Addr} {xs : List V} (h : SqL K H a xs) (s : SameN Ps H H') : SqL K H' a xs := by
  rcases h with (h | ⟨o, h⟩) | h
  · exact .inl (.inl (s.k _ _ nt_lst h))
  · exact .inl (.inr ⟨o, s.k _ _ nt_frz h⟩)
  · exact .inr h
theorem cutB_of {b : Addr} {H0 H : Hp} {Ps : List Addr} (s : SameN Ps H0 H) (n : H0 b = none) (hb : Bx H b) : SameN Ps H0 (cutB b H) := by
  refine ⟨fun x y nt e => ?_, fun x p e => ?_, fun P hP => ?_⟩
  · rw [cutB_ne (ne_of_none e n)]
    exact s.k _ _ nt e
  · obtain ⟨p', e'⟩ := s.q x p e
    exact ⟨p', by rw [cutB_ne (ne_of_none e n)]; exact e'⟩
  · obtain ⟨ps, e, h⟩ := s.t P hP
    exact ⟨ps, by rw [cutB_ne (ne_bx hb e (fun _ _ _ z => by cases z))]; exact e, h⟩
section
variable {P : Program} {w : World} {K : PySem.W.Frag} {mg : Str → Option Value} {base : Heap}
def spLaw (K : PySem.W.Frag) (Ps : List Addr) : Sp := fun vs H Q _ => ∃ (a : Addr) (ns : List Int), vs = [.ref a] ∧ SqL K H a (ns.map V.int) ∧ ns.length ≤ 63 ∧ Tabs Ps H ∧ ∀ H', Q (.bl true) H'
theorem ok_law {f fB fR : Addr} {fd fdB fdR : FuncData} {Ps : List Addr} (F : Fun K "law" "law" s_law f fd)
    (kB : PySem.W.keepIn K (.ref fB) = true) (bB : Binds K fdB ["_law_script", "_law_k"] []) (gB : mg "_law_box" = some (.ref fB)) (GB : FnOk P w K mg base CX0 2 fB fdB ["_law_script", "_law_k"] (spBox K))
    (kR : PySem.W.keepIn K (.ref fR) = true) (bR : Binds K fdR ["_law_box_here"] []) (gR : mg "_law_right" = some (.ref fR)) (GR : FnOk P w K mg base CX0 6 fR fdR ["_law_box_here"] (spRight Ps))
    (mr : mg "range" = none) (mmx : mg "max" = none) (mmn : mg "min" = none) (ml : mg "len" = none) : FnOk P w K mg base CX0 7 f fd ["_law_script"] (spLaw K Ps) := by
  refine F.ok sc_law (fun vs H Q E h => ?_) (fun cdv A outer s H vs Q E hr h => ?_)
  · obtain ⟨a, ns, rfl, _⟩ := h
    rfl
  · obtain ⟨a, ns, rfl, hS, hl, hT, q⟩ := h
    refine ⟨_, pss_cons (ps_for PassesOwn.never rfl (pi_range1 (by rfl) mr (pa_cons (pe_callB (call_max2 rfl) (by rfl) mmx (by decide +kernel) (pa_cons pe_int (pa_cons (pe_callB (call_min2 rfl) (by rfl) mmn (by decide +kernel) (pa_cons (pe_callB call_len_seq (by rfl) ml PySem.boot_len (pa_cons (pv 0) pa_nil)) (pa_cons pe_int pa_nil))) pa_nil))) pa_nil)) (pg_name (i := 1) sc_law.nd rfl (.inl rfl))
        (pss_one (ps_if (pt_not (pt_val (pe_call GR hr (by rfl) gR kR bR .nil pass0 (pa_cons (pe_call GB (hr.mono (by decide)) (by rfl) gB kB bB .nil pass0 (pa_cons (pv 0) (pa_cons (pv 1) pa_nil))) pa_nil)))) (pss_one (ps_ret pe_bl)) pss_nil)))
      (pss_one (ps_ret pe_bl)), ?_⟩
    refine ⟨_, rfl, a, _, rfl, .inl hS, _, _, rfl, _, _, rfl, ?_⟩
    rw [List.length_map]
    have hR : ∃ R : Nat, R ≤ 24 ∧ (if (if (24 : Int) < (ns.length : Nat) then (24 : Int) else (ns.length : Nat)) > 4 then (if (24 : Int) < (ns.length : Nat) then (24 : Int) else (ns.length : Nat)) else 4) = ((R : Nat) : Int) := by
      by_cases h1 : (24 : Int) < (ns.length : Nat)
      · refine ⟨24, by decide, ?_⟩
        rw [if_pos h1, if_pos (by decide)]
        rfl
      · rw [if_neg h1]
        by_cases h2 : ((ns.length : Nat) : Int) > 4
        · exact ⟨ns.length, by omega, by rw [if_pos h2]⟩
        · exact ⟨4, by decide, by rw [if_neg h2]; rfl⟩
    obtain ⟨R, R24, eR⟩ := hR
    rw [eR]
    refine ⟨_, rfl, by omega, by omega, ?_⟩
    rw [Int.toNat_natCast]
    refine for_it (walk_range (lo := 0) (n := R)) (fun i σ HY => (∃ y1 : Option V, σ = [some (.ref a), y1]) ∧ SameN Ps H HY) ⟨⟨_, rfl⟩, SameN.refl hT⟩ (fun _ _ _ _ _ => trivial) (fun i x σ HY HY' hi hP' hY => ?_) (fun σ HY hP' => q _)
    obtain ⟨rfl, rfl⟩ := hY
    obtain ⟨⟨y1, rfl⟩, sY⟩ := hP'
    refine ⟨_, rfl, _, rfl, a, ns, i, congrArg (fun z => [V.ref a, V.int z]) (Int.zero_add _), seqN hS sY, fun b H1 nb s1 hb => ?_⟩
    have sH1 := sY.same s1
    refine ⟨b, rfl, hb, sH1.t, fun H2 s2 => ⟨_, rfl, iteF ⟨⟨_, rfl⟩, ?_⟩⟩⟩
    exact (cutB_of sH1 (sY.free nb) hb).trans s2
end
end Bn

namespace Bn
open PySem PySem.Spec PyProof.Rows L2 BR GX RM GY
theorem all_mk {q : Program} {l : PySem.W.OpenLaw} {w : World} {K : PySem.W.Frag} {h : Heap} {mg : Str → Option Value} {fa f1 f2 f3 f4 f5 f6 f7 f8 f9 f10 f11 f12 f13 : Addr} (X : K.In h) (G : h.Ns mainGlobals mg) (hfa : mg "law" = some (.ref fa)) (T : TabsTop q mg h)
    {od1 an1 od2 an2 od3 an3 od4 an4 od5 an5 od6 an6 od7 an7 od8 an8 od9 an9 od10 an10 od11 an11 od12 an12 od13 an13 : Option Addr} {sl1 sl2 sl3 sl4 sl5 sl6 sl7 sl8 sl9 sl10 sl11 sl12 sl13 : Array (Option Value)} {oc1 kV1 dc1 pm1 cd1 ct1 oc2 kV2 dc2 pm2 cd2 ct2 oc3 kV3 dc3 pm3 cd3 ct3 oc4 kV4 dc4 pm4 cd4 ct4 oc5 kV5 dc5 pm5 cd5 ct5 oc6 kV6 dc6 pm6 cd6 ct6 oc7 kV7 dc7 pm7 cd7 ct7 oc8 kV8 dc8 pm8 cd8 ct8 oc9 kV9 dc9 pm9 cd9 ct9 oc10 kV10 dc10 pm10 cd10 ct10 oc11 kV11 dc11 pm11 cd11 ct11 oc12 kV12 dc12 pm12 cd12 ct12 oc13 kV13 dc13 pm13 cd13 ct13 : Value}
    (a1 : PySem.W.nsIn K mainGlobals "places_of" = some (some (.ref f1))) (l1 : K.lookup f1 = some ⟨oc1, od1, .func (PySem.W.fnOf "places_of" "places_of" (defArgs s_places_of) (defBody s_places_of) (defScope s_places_of) .none kV1 dc1 pm1 an1 cd1 ct1), sl1⟩) (c1 : PySem.W.codeIn K cd1 "places_of" = true) (k1 : PySem.W.keepIn K (.ref f1) = true)
    (a2 : PySem.W.nsIn K mainGlobals "stir_of" = some (some (.ref f2))) (l2 : K.lookup f2 = some ⟨oc2, od2, .func (PySem.W.fnOf "stir_of" "stir_of" (defArgs s_stir_of) (defBody s_stir_of) (defScope s_stir_of) .none kV2 dc2 pm2 an2 cd2 ct2), sl2⟩) (c2 : PySem.W.codeIn K cd2 "stir_of" = true) (k2 : PySem.W.keepIn K (.ref f2) = true)
    (a3 : PySem.W.nsIn K mainGlobals "stir_at" = some (some (.ref f3))) (l3 : K.lookup f3 = some ⟨oc3, od3, .func (PySem.W.fnOf "stir_at" "stir_at" (defArgs s_stir_at) (defBody s_stir_at) (defScope s_stir_at) .none kV3 dc3 pm3 an3 cd3 ct3), sl3⟩) (c3 : PySem.W.codeIn K cd3 "stir_at" = true) (k3 : PySem.W.keepIn K (.ref f3) = true)
    (a4 : PySem.W.nsIn K mainGlobals "_law_cell_at" = some (some (.ref f4))) (l4 : K.lookup f4 = some ⟨oc4, od4, .func (PySem.W.fnOf "_law_cell_at" "_law_cell_at" (defArgs s_l_cell_at) (defBody s_l_cell_at) (defScope s_l_cell_at) .none kV4 dc4 pm4 an4 cd4 ct4), sl4⟩) (c4 : PySem.W.codeIn K cd4 "_law_cell_at" = true) (k4 : PySem.W.keepIn K (.ref f4) = true)
    (a5 : PySem.W.nsIn K mainGlobals "_law_mixed" = some (some (.ref f5))) (l5 : K.lookup f5 = some ⟨oc5, od5, .func (PySem.W.fnOf "_law_mixed" "_law_mixed" (defArgs s_l_mixed) (defBody s_l_mixed) (defScope s_l_mixed) .none kV5 dc5 pm5 an5 cd5 ct5), sl5⟩) (c5 : PySem.W.codeIn K cd5 "_law_mixed" = true) (k5 : PySem.W.keepIn K (.ref f5) = true)
    (a6 : PySem.W.nsIn K mainGlobals "_law_box" = some (some (.ref f6))) (l6 : K.lookup f6 = some ⟨oc6, od6, .func (PySem.W.fnOf "_law_box" "_law_box" (defArgs s_l_box) (defBody s_l_box) (defScope s_l_box) .none kV6 dc6 pm6 an6 cd6 ct6), sl6⟩) (c6 : PySem.W.codeIn K cd6 "_law_box" = true) (k6 : PySem.W.keepIn K (.ref f6) = true)
    (a7 : PySem.W.nsIn K mainGlobals "_law_take" = some (some (.ref f7))) (l7 : K.lookup f7 = some ⟨oc7, od7, .func (PySem.W.fnOf "_law_take" "_law_take" (defArgs s_l_take) (defBody s_l_take) (defScope s_l_take) .none kV7 dc7 pm7 an7 cd7 ct7), sl7⟩) (c7 : PySem.W.codeIn K cd7 "_law_take" = true) (k7 : PySem.W.keepIn K (.ref f7) = true)
    (a8 : PySem.W.nsIn K mainGlobals "_law_rows_of" = some (some (.ref f8))) (l8 : K.lookup f8 = some ⟨oc8, od8, .func (PySem.W.fnOf "_law_rows_of" "_law_rows_of" (defArgs s_l_rows_of) (defBody s_l_rows_of) (defScope s_l_rows_of) .none kV8 dc8 pm8 an8 cd8 ct8), sl8⟩) (c8 : PySem.W.codeIn K cd8 "_law_rows_of" = true) (k8 : PySem.W.keepIn K (.ref f8) = true)
    (a9 : PySem.W.nsIn K mainGlobals "_law_order" = some (some (.ref f9))) (l9 : K.lookup f9 = some ⟨oc9, od9, .func (PySem.W.fnOf "_law_order" "_law_order" (defArgs s_l_order) (defBody s_l_order) (defScope s_l_order) .none kV9 dc9 pm9 an9 cd9 ct9), sl9⟩) (c9 : PySem.W.codeIn K cd9 "_law_order" = true) (k9 : PySem.W.keepIn K (.ref f9) = true)
    (a10 : PySem.W.nsIn K mainGlobals "_law_stands" = some (some (.ref f10))) (l10 : K.lookup f10 = some ⟨oc10, od10, .func (PySem.W.fnOf "_law_stands" "_law_stands" (defArgs s_l_stands) (defBody s_l_stands) (defScope s_l_stands) .none kV10 dc10 pm10 an10 cd10 ct10), sl10⟩) (c10 : PySem.W.codeIn K cd10 "_law_stands" = true) (k10 : PySem.W.keepIn K (.ref f10) = true)
    (a11 : PySem.W.nsIn K mainGlobals "_law_due" = some (some (.ref f11))) (l11 : K.lookup f11 = some ⟨oc11, od11, .func (PySem.W.fnOf "_law_due" "_law_due" (defArgs s_l_due) (defBody s_l_due) (defScope s_l_due) .none kV11 dc11 pm11 an11 cd11 ct11), sl11⟩) (c11 : PySem.W.codeIn K cd11 "_law_due" = true) (k11 : PySem.W.keepIn K (.ref f11) = true)
    (a12 : PySem.W.nsIn K mainGlobals "_law_right" = some (some (.ref f12))) (l12 : K.lookup f12 = some ⟨oc12, od12, .func (PySem.W.fnOf "_law_right" "_law_right" (defArgs s_l_right) (defBody s_l_right) (defScope s_l_right) .none kV12 dc12 pm12 an12 cd12 ct12), sl12⟩) (c12 : PySem.W.codeIn K cd12 "_law_right" = true) (k12 : PySem.W.keepIn K (.ref f12) = true)
    (a13 : PySem.W.nsIn K mainGlobals "law" = some (some (.ref f13))) (l13 : K.lookup f13 = some ⟨oc13, od13, .func (PySem.W.fnOf "law" "law" (defArgs s_law) (defBody s_law) (defScope s_law) .none kV13 dc13 pm13 an13 cd13 ct13), sl13⟩) (c13 : PySem.W.codeIn K cd13 "law" = true) (k13 : PySem.W.keepIn K (.ref f13) = true)
    (t1 : tabFree K cd1 = true) (r1 : ((recsOf q).any fun e => e.name == ("places_of" : Str)) = true)
    (t2 : tabFree K cd2 = true) (r2 : ((recsOf q).any fun e => e.name == ("stir_of" : Str)) = true)
    (z1 : PySem.W.nsIn K mainGlobals "len" = some none) (z2 : PySem.W.nsIn K mainGlobals "abs" = some none) (z3 : PySem.W.nsIn K mainGlobals "int" = some none) (z4 : PySem.W.nsIn K mainGlobals "list" = some none) (z5 : PySem.W.nsIn K mainGlobals "range" = some none) (z6 : PySem.W.nsIn K mainGlobals "all" = some none) (z7 : PySem.W.nsIn K mainGlobals "sum" = some none) (z8 : PySem.W.nsIn K mainGlobals "enumerate" = some none) (z9 : PySem.W.nsIn K mainGlobals "tuple" = some none) (z10 : PySem.W.nsIn K mainGlobals "sorted" = some none) (z11 : PySem.W.nsIn K mainGlobals "isinstance" = some none) (z12 : PySem.W.nsIn K mainGlobals "max" = some none) (z13 : PySem.W.nsIn K mainGlobals "min" = some none) :
    LamX.LawAtS l w K CX0 7 63 "_law_script" mg fa h := by
  have e := hfa.symm.trans (PySem.W.mg_of X G a13)
  cases e
  obtain ⟨C1, P1, ec1, et1, en1, eh1⟩ := tabOf X T r1 (PySem.W.mg_of X G a1) l1 t1
  subst ec1
  obtain ⟨C2, P2, ec2, et2, en2, eh2⟩ := tabOf X T r2 (PySem.W.mg_of X G a2) l2 t2
  subst ec2
  have F1 := fun_mk (st := s_places_of) l1 c1 k1
  have FC1 : FunC K "places_of" "places_of" s_places_of f1 _ C1 := ⟨⟨_, _, _, _, _, _, _, _, rfl, l1, c1⟩, k1⟩
  have b1 := F1.binds (ps := ["rule"]) fun _ _ _ _ _ _ us hl => match us, hl with | [_], _ => rfl
  have g1 := PySem.W.mg_of X G a1
  have F2 := fun_mk (st := s_stir_of) l2 c2 k2
  have FC2 : FunC K "stir_of" "stir_of" s_stir_of f2 _ C2 := ⟨⟨_, _, _, _, _, _, _, _, rfl, l2, c2⟩, k2⟩
  have b2 := F2.binds (ps := ["rule", "places"]) fun _ _ _ _ _ _ us hl => match us, hl with | [_, _], _ => rfl
  have g2 := PySem.W.mg_of X G a2
  have F3 := fun_mk (st := s_stir_at) l3 c3 k3
  have b3 := F3.binds (ps := ["rule", "part", "place"]) fun _ _ _ _ _ _ us hl => match us, hl with | [_, _, _], _ => rfl
  have g3 := PySem.W.mg_of X G a3
  have F4 := fun_mk (st := s_l_cell_at) l4 c4 k4
  have b4 := F4.binds (ps := ["_law_script", "_law_k"]) fun _ _ _ _ _ _ us hl => match us, hl with | [_, _], _ => rfl
  have g4 := PySem.W.mg_of X G a4
  have F5 := fun_mk (st := s_l_mixed) l5 c5 k5
  have b5 := F5.binds (ps := ["_law_number", "_law_k"]) fun _ _ _ _ _ _ us hl => match us, hl with | [_, _], _ => rfl
  have g5 := PySem.W.mg_of X G a5
  have F6 := fun_mk (st := s_l_box) l6 c6 k6
  have b6 := F6.binds (ps := ["_law_script", "_law_k"]) fun _ _ _ _ _ _ us hl => match us, hl with | [_, _], _ => rfl
  have g6 := PySem.W.mg_of X G a6
  have F7 := fun_mk (st := s_l_take) l7 c7 k7
  have b7 := F7.binds (ps := ["_law_box_here", "_law_many"]) fun _ _ _ _ _ _ us hl => match us, hl with | [_, _], _ => rfl
  have g7 := PySem.W.mg_of X G a7
  have F8 := fun_mk (st := s_l_rows_of) l8 c8 k8
  have b8 := F8.binds (ps := ["_law_many"]) fun _ _ _ _ _ _ us hl => match us, hl with | [_], _ => rfl
  have g8 := PySem.W.mg_of X G a8
  have F9 := fun_mk (st := s_l_order) l9 c9 k9
  have b9 := F9.binds (ps := ["_law_box_here", "_law_many"]) fun _ _ _ _ _ _ us hl => match us, hl with | [_, _], _ => rfl
  have g9 := PySem.W.mg_of X G a9
  have F10 := fun_mk (st := s_l_stands) l10 c10 k10
  have b10 := F10.binds (ps := ["_law_row", "_law_stray", "_law_ahead"]) fun _ _ _ _ _ _ us hl => match us, hl with | [_, _, _], _ => rfl
  have g10 := PySem.W.mg_of X G a10
  have F11 := fun_mk (st := s_l_due) l11 c11 k11
  have b11 := F11.binds (ps := ["_law_many", "_law_stray", "_law_ahead"]) fun _ _ _ _ _ _ us hl => match us, hl with | [_, _, _], _ => rfl
  have g11 := PySem.W.mg_of X G a11
  have F12 := fun_mk (st := s_l_right) l12 c12 k12
  have b12 := F12.binds (ps := ["_law_box_here"]) fun _ _ _ _ _ _ us hl => match us, hl with | [_], _ => rfl
  have g12 := PySem.W.mg_of X G a12
  have F13 := fun_mk (st := s_law) l13 c13 k13
  have m_len := PySem.W.mg_none_of X G z1
  have m_abs := PySem.W.mg_none_of X G z2
  have m_int := PySem.W.mg_none_of X G z3
  have m_list := PySem.W.mg_none_of X G z4
  have m_range := PySem.W.mg_none_of X G z5
  have m_all := PySem.W.mg_none_of X G z6
  have m_sum := PySem.W.mg_none_of X G z7
  have m_enumerate := PySem.W.mg_none_of X G z8
  have m_tuple := PySem.W.mg_none_of X G z9
  have m_sorted := PySem.W.mg_none_of X G z10
  have m_isinstance := PySem.W.mg_none_of X G z11
  have m_max := PySem.W.mg_none_of X G z12
  have m_min := PySem.W.mg_none_of X G z13
  have hT1 : ∀ p ∈ [(C1, P1), (C2, P2)], h.get? p.2 = some { cls := .none, data := .fields #[] } := fun p hp => by
    rcases List.mem_cons.mp hp with rfl | hp
    · exact et1
    rw [List.mem_singleton.mp hp]
    exact et2

  have hT2 : ∀ p ∈ [(C1, P1), (C2, P2)], K.lookup p.2 = none := fun p hp => by
    rcases List.mem_cons.mp hp with rfl | hp
    · exact en1
    rw [List.mem_singleton.mp hp]
    exact en2

  have hT3 : ∀ p ∈ [(C1, P1), (C2, P2)], PySem.W.CodeHd h p.1 p.2 := fun p hp => by
    rcases List.mem_cons.mp hp with rfl | hp
    · exact eh1
    rw [List.mem_singleton.mp hp]
    exact eh2

  refine ⟨PySem.W.fnOf "law" "law" (defArgs s_law) (defBody s_law) (defScope s_law) .none kV13 dc13 pm13 an13 cd13 ct13, [(C1, P1), (C2, P2)], spLaw K [P1, P2], hT1, hT2, hT3, fun s v => .of_eq rfl, fun H a ns hl _ hT hS => ⟨a, ns, rfl, hS, hl, fun P hP => ?_, fun _ => rfl⟩, fun base _ _ TB => ?_⟩
  · rcases List.mem_cons.mp hP with e | hP
    · rw [e]
      exact ⟨#[], hT (C1, P1) (by simp), trivial⟩
    rw [List.mem_singleton.mp hP]
    exact ⟨#[], hT (C2, P2) (by simp), trivial⟩
  have TB1 := tabB_of (TB (C1, P1) (by simp))
  have hP1 : P1 ∈ [P1, P2] := by simp
  have TB2 := tabB_of (TB (C2, P2) (by simp))
  have hP2 : P2 ∈ [P1, P2] := by simp
  have GC : FnOk l.prog w K mg base CX0 1 f4 _ ["_law_script", "_law_k"] (spCell K) := ok_cell F4 m_len
  have GM : FnOk l.prog w K mg base CX0 1 f5 _ ["_law_number", "_law_k"] spMixed := ok_mixed F5
  have GB := ok_box F6 F4.kp b4 g4 GC F5.kp b5 g5 GM m_abs m_int
  have GT := ok_take F7 F5.kp b5 g5 GM
  have GR : FnOk l.prog w K mg base CX0 1 f8 _ ["_law_many"] spRows := ok_rows F8 m_len m_range
  have GO := ok_order F9 F7.kp b7 g7 GT m_range m_int
  have GS : FnOk l.prog w K mg base CX0 1 f10 _ ["_law_row", "_law_stray", "_law_ahead"] spStands := ok_stands F10 m_enumerate m_abs
  have GD := ok_due F11 F8.kp b8 g8 GR F10.kp b10 g10 GS m_range m_tuple m_sorted
  have GP : FnOk l.prog w K mg base CX0 5 f1 _ ["rule"] (spPl [P1, P2]) := ok_places (k := 0) FC1 TB1 hP1 m_len m_range m_abs m_all
  have GSA : FnOk l.prog w K mg base CX0 1 f3 _ ["rule", "part", "place"] spSA := ok_sa F3 m_abs
  have GSO : FnOk l.prog w K mg base CX0 5 f2 _ ["rule", "places"] (spSO [P1, P2]) := ok_so FC2 TB2 hP2 m_sum m_enumerate F3.kp b3 g3 GSA
  have GRi := ok_right F12 F7.kp b7 g7 GT F9.kp b9 g9 GO F11.kp b11 g11 GD F1.kp b1 g1 GP F2.kp b2 g2 GSO m_range m_int m_isinstance m_list m_enumerate m_abs m_sum
  exact ok_law F13 F6.kp b6 g6 GB F12.kp b12 g12 GRi m_range m_max m_min m_len
end Bn
open PySem PySem.W PyProof.Rows
set_option maxHeartbeats 0 in
theorem PySem.Challenge.cw_speechloom_k15_orders_holds : PySem.Challenge.rw_speechloom_k15_orders.Holds := by
  w_on; o_law; k_head; (case hw => w_witness2)
  k_fill
  refine GX.walk_ofTabs (l := PySem.Challenge.rw_speechloom_k15_orders) (n := 63) (k := 7) (x := "_law_script") (CX := fun _ => L2.CX0) rfl (by decide) rfl ⟨rfl, by decide, by decide⟩ (fun w h Y => PySem.W.kIn_of Y) ?F (fun _ _ _ _ _ h => h)
  case F =>
    intro w mg fa h KX G hmg T
    refine' Bn.all_mk KX G hmg T ?a1 ?l1 ?c1 ?k1 ?a2 ?l2 ?c2 ?k2 ?a3 ?l3 ?c3 ?k3 ?a4 ?l4 ?c4 ?k4 ?a5 ?l5 ?c5 ?k5 ?a6 ?l6 ?c6 ?k6 ?a7 ?l7 ?c7 ?k7 ?a8 ?l8 ?c8 ?k8 ?a9 ?l9 ?c9 ?k9 ?a10 ?l10 ?c10 ?k10 ?a11 ?l11 ?c11 ?k11 ?a12 ?l12 ?c12 ?k12 ?a13 ?l13 ?c13 ?k13 ?t1 ?r1 ?t2 ?r2 ?z1 ?z2 ?z3 ?z4 ?z5 ?z6 ?z7 ?z8 ?z9 ?z10 ?z11 ?z12 ?z13
    (case a1 => k_is); (case l1 => k_is); (case c1 => k_is); (case k1 => k_is); (case a2 => k_is); (case l2 => k_is); (case c2 => k_is); (case k2 => k_is); (case a3 => k_is); (case l3 => k_is); (case c3 => k_is); (case k3 => k_is); (case a4 => k_is); (case l4 => k_is); (case c4 => k_is); (case k4 => k_is); (case a5 => k_is); (case l5 => k_is); (case c5 => k_is); (case k5 => k_is); (case a6 => k_is); (case l6 => k_is); (case c6 => k_is); (case k6 => k_is); (case a7 => k_is); (case l7 => k_is); (case c7 => k_is); (case k7 => k_is); (case a8 => k_is); (case l8 => k_is); (case c8 => k_is); (case k8 => k_is); (case a9 => k_is); (case l9 => k_is); (case c9 => k_is); (case k9 => k_is); (case a10 => k_is); (case l10 => k_is); (case c10 => k_is); (case k10 => k_is); (case a11 => k_is); (case l11 => k_is); (case c11 => k_is); (case k11 => k_is); (case a12 => k_is); (case l12 => k_is); (case c12 => k_is); (case k12 => k_is); (case a13 => k_is); (case l13 => k_is); (case c13 => k_is); (case k13 => k_is); (case z1 => k_is); (case z2 => k_is); (case z3 => k_is); (case z4 => k_is); (case z5 => k_is); (case z6 => k_is); (case z7 => k_is); (case z8 => k_is); (case z9 => k_is); (case z10 => k_is); (case z11 => k_is); (case z12 => k_is); (case z13 => k_is)
    case t1 => kernel_rfl
    case t2 => kernel_rfl
    case r1 => decide +kernel
    case r2 => decide +kernel
