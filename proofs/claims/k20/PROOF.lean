import PyProof.Rows.All
import Wide.All
import OpenK.AllK
import Wide.FinOn
import HandS.ForMost
import HandS.IsInst
import HandS.Codes
import HandS.Conv
import HandS.Star
import HandS.DeepEq
import HandS.ListEq
import HandS.SetFor
import HandS.Flow
import KE.KDictSum
import HandS.Walk
import HandS.AnyAll
import HandS.GenList
import HandS.Words
import HandS.EndTab
import HandS.DictComp
import KE.GoesMore
import KE.KEqDict
import HandS.Deep
import HandS.ListItems
import PyProof.SumAny
import KE.SortData
import HandS.SortKw
import KE.GoesEnum
import PyProof.TupleOfGen
import HandS.Lambda
import HandS.Nested
import HandS.CallLocal
import HandS.Strs
import PyProof.StrOps2
import PyProof.DictUpdate
import KE.KExcSuper
import KE.KExcIs
import HandS.ExcInit
import HandS.FStr
import HandS.FStrTup
import HandS.ExcIs
import HandS.ExcField
import HandS.ExcValue
import PySem.Challenge.RW_speechloom_k20_rings
import HandS.ForExc
import HandS.Style
import HandS.NoneIn
import HandS.SetKeys
set_option Elab.async false
set_option linter.all false
set_option maxRecDepth 100000
set_option maxHeartbeats 4000000
/-! rules of my own over the hand layer -/
namespace PySem.SeqAt
open AutoSeq1 (wpAny_loadPart')
open MeetsSeq MeetsSeq2 MeetsSeq3 SeqRoads2
section
variable {prog : Program} {w : World}
theorem my_neLoop (l b : Addr) (us vs : Array Value) (n m : Nat) (du dv : Option Addr) (su sv : Array (Option Value)) (hz : us.size = vs.size) (k : Nat) : ∀ i : Nat, us.size - i = k →
    MeetsIn prog w (Builtin.«list.__eq__.loop» ⟨[.ref l, .ref b, rawInt i, rawInt 3], []⟩) (fun A R s =>
      s.heap.get? l = some { cls := .type "list", dict := du, data := .seq us n, slots := su } ∧ s.heap.get? b = some { cls := .type "list", dict := dv, data := .seq vs m, slots := sv } ∧
      (∀ j (p : j < us.size) (q : j < vs.size), EqP prog w A.in1 s us[j] vs[j] true) ∧ R (.ok (.ret (.bool false))) s) := by
  induction k with
  | zero =>
    intro i hk A R s h
    obtain ⟨hp, g, d, tk, os⟩ := s
    obtain ⟨hl, hb, he, h⟩ := h
    wp_walk using wpAny_loadPart' hl, wpAny_loadPart' hb
    have e1 : us[((i : Nat) : Int).toNat]? = none := by simp; omega
    have e2 : vs[((i : Nat) : Int).toNat]? = none := by simp; omega
    rw [e1, e2]
    wp_walk using wpAny_loadPart' hl, wpAny_loadPart' hb
    show R (.ok (.ret (.bool (us.size != vs.size)))) _
    rw [hz]
    simpa using h
  | succ k ih =>
    intro i hk A R s h
    obtain ⟨hp, g, d, tk, os⟩ := s
    obtain ⟨hl, hb, he, h⟩ := h
    wp_walk using wpAny_loadPart' hl, wpAny_loadPart' hb
    have p1 : i < us.size := by omega
    have p2 : i < vs.size := by omega
    have e1 : us[((i : Nat) : Int).toNat]? = some us[i] := by simp [p1]
    have e2 : vs[((i : Nat) : Int).toNat]? = some vs[i] := by simp [p2]
    have ec : ((i : Int) + 1) = ((i + 1 : Nat) : Int) := by push_cast; rfl
    rw [e1, e2]
    refine wpAny_bind (he i p1 p2 _ _ ?_)
    wp_walk
    rw [ec]
    exact ⟨plainId_quiet plain_eq_loop _, codeAny_builtin entry_eq_loop (by
      rw [Around.under_plainId plain_eq_loop _]
      exact ih (i + 1) (by omega) A R _ ⟨hl, hb, he, h⟩)⟩
theorem my_listNe (l b : Addr) (us vs : Array Value) (n m : Nat) (du dv : Option Addr) (su sv : Array (Option Value)) (hz : us.size = vs.size) :
    MeetsIn prog w (Builtin.«list.__ne__» ⟨[.ref l, .ref b], []⟩) (fun A R s =>
      s.heap.get? l = some { cls := .type "list", dict := du, data := .seq us n, slots := su } ∧ s.heap.get? b = some { cls := .type "list", dict := dv, data := .seq vs m, slots := sv } ∧
      (∀ j (p : j < us.size) (q : j < vs.size), EqP prog w A.in1 s us[j] vs[j] true) ∧ R (.ok (.ret (.bool false))) s) := by
  intro A R s h
  obtain ⟨hp, g, d, tk, os⟩ := s
  obtain ⟨hl, hb, he, h⟩ := h
  have f3 := AutoSeq1.sub_list_list
  have hn : ¬ (us.size != vs.size) = true := by simp [hz]
  wp_walk using wpAny_loadPart' hl, wpAny_loadPart' hb
  exact ⟨plainId_quiet plain_eq_loop _, codeAny_builtin entry_eq_loop (by
    rw [Around.under_plainId plain_eq_loop _]
    exact my_neLoop l b us vs n m du dv su sv hz _ 0 rfl A R _ ⟨hl, hb, he, h⟩)⟩
theorem my_rcNe {A : Around} {s : Shared} {l b : Addr} {us vs : Array Value} (hl : s.heap.IsList l us) (hb : s.heap.IsList b vs) (hz : us.size = vs.size) (hu : A.units < cLine)
    (he : ∀ j (p : j < us.size) (q : j < vs.size), EqP prog w A.in1 s us[j] vs[j] true) (E Q : Value → Shared → Prop) (h : Q (.bool false) s) : wpAny (model prog w) A (richCompare .NotEq (.ref l) (.ref b)) Q E s := by
  obtain ⟨⟨c1, du, x1, su⟩, ho, hc, n, hd⟩ := id hl
  obtain ⟨⟨c2, dv, x2, sv⟩, ho2, hc2, m, hd2⟩ := id hb
  simp only at hc hd hc2 hd2
  subst hc hd hc2 hd2
  have ta : s.TypeIs (.ref l) "list" := ⟨_, ho, rfl⟩
  have tb : s.TypeIs (.ref b) "list" := ⟨_, ho2, rfl⟩
  exact wpAny_richCompare_same_room (op := .NotEq) ta tb F.slot_list_ne (call_meetsIn F.slot_list_ne ta F.entry_list_ne (F.args_list_ne_2 _ _) (my_listNe l b us vs n m du dv su sv hz)
    ⟨ho, ho2, he, show Value.bool false ≠ Value.notImplemented ∧ Q (.bool false) s from ⟨(fun x => nomatch x), h⟩⟩) hu
end
end PySem.SeqAt
namespace BR
open PySem PySem.Spec PyProof.Rows L2
section
variable {X : Cx}
/-- two lists that are equal to the bottom: a != b is False -/
def rNeV (K : PySem.W.Frag) : R2 := fun x y H Q => ∃ a b xs ys n, x = .ref a ∧ y = .ref b ∧ SqL K H a xs ∧ SqL K H b ys ∧ n ≤ 60 ∧ Paired (EqV K H n) xs ys ∧ Q (.bl false) H
theorem op_neV (hu : X.A.units + 64 < cLine) : OpR X (compareOp .NotEq) (rNeV X.K) := by
  intro pins s σ H x y v u Q I rx ry h
  obtain ⟨a, b, xs, ys, n, rfl, rfl, ha, hb, hn, hp, q⟩ := h
  cases (show v = Value.ref a from rx)
  cases (show u = Value.ref b from ry)
  obtain ⟨us, r1, p1, _⟩ := I.list ha
  obtain ⟨ws, r2, p2, _⟩ := I.list hb
  have hz : us.toArray.size = ws.toArray.size := by
    rw [List.size_toArray, List.size_toArray, ← r1.length, ← r2.length]
    exact Paired.length hp
  refine SeqAt.my_rcNe p1.isList p2.isList hz (by omega) (fun j h1 h2 => ?_) _ _ ⟨.bl false, H, I, rfl, q⟩
  have k := items_run (eqV_run I n X.A.in1 (by show X.A.units + 1 + n < cLine; omega)) hp r1 r2 j (by simpa using h1) (by simpa using h2)
  simpa using k
/-! *d in a display: the keys of a dict -/
theorem star_dK {pins : List (Addr × Obj)} {σ : L2.St} {H : Hp} {s : Shared} {p : Addr} {kvs : List (Key × V)} {E : Value → Shared → Prop} {Q : List Value → Shared → Prop} (hc : X.calm = true) (I : Inv X pins σ H s) (hk : H p = some (.dK kvs))
    (hQ : ∀ us s', Inv X pins σ H s' → Vals (kvs.map fun kv => kV kv.1) us → Q us s') : PySem.W.StarOf (model X.prog X.w) X.A E (.ref p) Q s := by
  obtain ⟨z, lo, vs, rk, hd⟩ := (show ObjOk X.prog X.w H s.heap p (.dK kvs) from I.hok p _ hk)
  obtain ⟨ep, hat⟩ := hd.dictAt
  have hl : kvs.length = vs.length := Paired.length rk
  have hT : s.TypeIs (.ref p) "dict" := hd.typeIs
  have zz : wpAny (model X.prog X.w) X.A (collect (.ref p)) Q E s := by
    refine PySem.W.kdu_collect (PySem.W.kdl_dict (knd := mixKind X.prog X.w) (kvs := vs) (ep := ep) lo) (I.ok.hd hc) hat (by rw [← hl]; exact z) fun h' tk acc hkeep hacc => ?_
    refine hQ acc.toList _ (I.kept (t' := tk) hkeep) ?_
    have el : acc.toList.length = acc.size := by simp
    refine vals_of_at (by rw [List.length_map, el, hacc.1, hl]) fun j x w h1 h2 => ?_
    obtain ⟨k, y, hky, hi⟩ := hacc.2 j w (by rw [← Array.getElem?_toList]; exact h2)
    have e1 : (kvs.map (·.1))[j]? = some k := by
      rw [KV.keys rk, List.getElem?_map, hky] <;> rfl
    have e2 : (kvs.map fun kv => kV kv.1)[j]? = some (kV k) := by
      have e3 : (kvs.map fun kv => kV kv.1) = (kvs.map (·.1)).map kV := by rw [List.map_map] <;> rfl
      rw [e3, List.getElem?_map, e1] <;> rfl
    rw [e2] at h1
    cases h1
    exact keyIs_rel hi
  unfold PySem.W.StarOf notIterableAtAll
  exact wpAny_bind (wpAny_specialOf hT PySem.F.slot_dict_iter.lookup (wpAny_pure ⟨rfl, zz⟩))
def tStarD (te : TE) (t : TA) : TA := fun σ H Q => te σ H fun x H1 => ∃ p kvs, x = V.ref p ∧ H1 p = some (.dK kvs) ∧ t σ H1 fun ys H2 => Q ((kvs.map fun kv => kV kv.1) ++ ys) H2
theorem pa_starD {e : Expr} {es : List Expr} {te : TE} {t : TA} {p : Pos} (hc : X.calm = true) (he : PE X e te) (hr : PA X es t) (hs : starEach (.Starred e p :: es) X.env = (true, eval e X.env) :: starEach es X.env := by rfl) : PA X (.Starred e p :: es) (tStarD te t) := by
  refine ⟨fun pos pins s σ H Q I h => ?_⟩
  refine PySem.W.items_star (thn (he.run pins s σ H _ I h) fun v s1 ⟨y, H1, I1, ry, a, kvs, ey, hx, q⟩ => ?_) hs
  subst ey
  obtain rfl : v = Value.ref a := ry
  refine star_dK hc I1 hx fun us s2 I2 rv => ?_
  exact thn (hr.run pos pins s2 σ H1 _ I2 q) fun ws s3 ⟨vs, H3, I3, r3, q3⟩ => ⟨_ ++ vs, H3, I3, rv.append r3, q3⟩
/-! rules whose reading names the written part, said with a letter for it (for the block of a comprehension) -/
theorem call_listK {K : PySem.W.Frag} (e : X.K = K) : CallR X (.type "list") (fun xs H Q => ∃ p ys, xs = [.ref p] ∧ (SqL K H p ys ∨ SqT K H p ys) ∧ ∀ l, H l = none → Q (.ref l) (upd H l (.lst ys))) := by
  subst e
  exact call_list_of
theorem op_inK {K : PySem.W.Frag} (e : X.K = K) : OpR X (compareOp .In) (rIn K false) := by
  subst e
  exact op_in_seq
theorem pt_truthK {K : PySem.W.Frag} {a : Expr} {ta : TE} (e : X.K = K) (ha : PE X a ta) (he : ∀ whole, isTrue a X.env whole = (do let v ← whole; standAt a.pos; holding [v] (truthy v))) :
    PT X a (fun σ H Q => ta σ H fun x H' => ∃ k, TruV K x H' k ∧ Q k H') := by
  subst e
  exact pt_truth ha he
theorem call_isiX {K : PySem.W.Frag} (e : X.K = K) : CallR X (.builtin "isinstance") (rIsi K) := by
  subst e
  exact call_isi
theorem pe_bmK {K : PySem.W.Frag} {o e : Expr} {es : List Expr} {to : TE} {t : TA} {name : Str} {apos cpos : Pos} {T id : String} {r : V → List V → Hp → VK → Prop} (eK : X.K = K)
    (pa : PlainAttrs T) (slot : Slot T name id) (hty : typeOf (.builtin id) = pure (.type "method_descriptor")) (hm : MtR X id r) (ho : PE X o to) (ha : PA X (e :: es) t)
    (h1 : attributeBase o name X.env (eval o X.env) = eval o X.env := by rfl)
    (h2 : ((backTo cpos (starEach (e :: es) X.env)).all (fun x => !x.1) && (backToKw cpos (keywordEach [] X.env)).all (fun x => x.1.isSome) && decide ((e :: es).length + ([] : List Keyword).length + (if ([] : List Keyword).isEmpty then 0 else 1) < 30)) = true := by rfl)
    (h3 : (apos.endLine == cpos.line) = true := by rfl) (h4 : starEach (e :: es) X.env = (false, eval e X.env) :: starEach es X.env := by rfl) (h5 : (backTo cpos (starEach es X.env)).any (·.1) = false := by rfl) :
    PE X (.Call (.Attribute o name apos) (e :: es) [] cpos) (tBM K T r to t) := by
  subst eK
  exact pe_bm pa slot hty hm ho ha h1 h2 h3 h4 h5
/-! list.count of a text in a list of texts -/
def eqsT (z : Str) : Value → Bool
  | .str y _ => y == z
  | _ => false
theorem eqsT_count {z : Str} : ∀ {ss : List Str} {us : List Value}, Vals (ss.map V.str) us → us.countP (eqsT z) = ss.count z
  | [], _, r => by cases r; rfl
  | y :: ss, _, r => by
    cases r with
    | cons h t =>
      obtain ⟨k, rfl⟩ := h
      rw [List.countP_cons, List.count_cons, eqsT_count t]
      rfl
theorem eqsT_at {A : Around} {s : Shared} {z : Str} {t : Tok} : ∀ {ss : List Str} {us : List Value}, Vals (ss.map V.str) us → ∀ y ∈ us, SeqAt.EqAt A s y (.str z t) (eqsT z y)
  | [], _, r, y, hy => by cases r; cases hy
  | x :: ss, _, r, y, hy => by
    cases r with
    | cons h q =>
      obtain ⟨k, rfl⟩ := h
      rcases List.mem_cons.mp hy with rfl | e
      · exact SeqAt.EqAt.str_str _ _ _ _
      · exact eqsT_at q y e
theorem mt_countS : MtR X "list.count" (fun x vs H Q => ∃ (p : Addr) (ss : List Str) (z : Str), x = .ref p ∧ vs = [.str z] ∧ SqL X.K H p (ss.map V.str) ∧ Q (.int (ss.count z : Nat)) H) := by
  intro pins s σ H x xs v us Q I rx rxs h
  obtain ⟨p, ss, z, rfl, rfl, hs, q⟩ := h
  cases rx
  obtain ⟨u, rfl, ru⟩ := rxs.one
  obtain ⟨t, rfl⟩ := ru
  obtain ⟨its, rv, ⟨⟨c1, dd, x1, sl⟩, n, ho, hc, hdn, hd⟩, hlen⟩ := I.list hs
  simp only at hc hd
  subst hc hd
  refine call_meets PySem.F.slot_list_count ⟨_, ho, rfl⟩ PySem.F.entry_list_count (PySem.F.args_list_count_2 _ _)
    (SeqAt.list_countAt p its.toArray n dd sl (.str z t) (eqsT z)) ⟨ho, fun y hy => eqsT_at rv y (by simpa using hy), ?_⟩
  have ec : its.toArray.toList.countP (eqsT z) = ss.count z := eqsT_count rv
  refine ⟨.int (ss.count z : Nat), H, I.tok _, ⟨s.toks, ?_⟩, q⟩
  show Value.int ((its.toArray.toList.countP (eqsT z) : Nat) : Int) s.toks = Value.int ((ss.count z : Nat) : Int) s.toks
  rw [ec]
theorem mt_countK {K : PySem.W.Frag} (e : X.K = K) : MtR X "list.count" (fun x vs H Q => ∃ (p : Addr) (ss : List Str) (z : Str), x = .ref p ∧ vs = [.str z] ∧ SqL K H p (ss.map V.str) ∧ Q (.int (ss.count z : Nat)) H) := by
  subst e
  exact mt_countS
end
end BR

namespace Bn
open PySem PySem.Spec PyProof.Rows L2 BR
/-! ### heaps -/
def Kp (b : Addr) (H H' : Hp) : Prop := ∀ a o, a ≠ b → H a = some o → H' a = some o
theorem Kp.refl (b : Addr) (H : Hp) : Kp b H H := fun _ _ _ h => h
theorem Kp.trans {b : Addr} {H H1 H2 : Hp} (x : Kp b H H1) (y : Kp b H1 H2) : Kp b H H2 := fun a o n h => y a o n (x a o n h)
theorem Kp.put {b : Addr} {H : Hp} {o : HO} : Kp b H (upd H b o) := fun a x n h => by
  rw [upd_ne n]
  exact h
theorem Kp.new {b p : Addr} {H : Hp} {o : HO} (h : H p = none) : Kp b H (upd H p o) := fun a x n e => by
  rw [upd_ne (ne_of_none e h)]
  exact e
theorem same_new {H : Hp} {p : Addr} {o : HO} (h : H p = none) : Same H (upd H p o) := fun b x e => by
  rw [upd_ne (ne_of_none e h)]
  exact e
theorem Kp.of_same {b : Addr} {H H' : Hp} (h : Same H H') : Kp b H H' := fun a o _ e => h a o e
theorem Same.kp {b : Addr} {H0 H H' : Hp} (s : Same H0 H) (n : H0 b = none) (k : Kp b H H') : Same H0 H' := fun a o e => k a o (ne_of_none e n) (s a o e)
/-- what is new is changed -/
theorem Same.own {p : Addr} {H0 H : Hp} {o : HO} (s : Same H0 H) (n : H0 p = none) : Same H0 (upd H p o) := fun a x e => by
  rw [upd_ne (ne_of_none e n)]
  exact s a x e
def Bx (H : Hp) (b : Addr) : Prop := ∃ x y z : Int, H b = some (.lst [.int x, .int y, .int z])
theorem Bx.same {H H' : Hp} {b : Addr} (h : Bx H b) (s : Same H H') : Bx H' b := by
  obtain ⟨x, y, z, e⟩ := h
  exact ⟨x, y, z, s _ _ e⟩
theorem Bx.ne {H : Hp} {b p : Addr} (h : Bx H b) (n : H p = none) : b ≠ p := by
  obtain ⟨x, y, z, e⟩ := h
  exact ne_of_none e n
structure Kb (b : Addr) (H H' : Hp) : Prop where
  k : Kp b H H'
  x : Bx H' b
theorem Kb.refl {b : Addr} {H : Hp} (h : Bx H b) : Kb b H H := ⟨Kp.refl b H, h⟩
theorem Kb.trans {b : Addr} {H H1 H2 : Hp} (p : Kb b H H1) (q : Kb b H1 H2) : Kb b H H2 := ⟨p.k.trans q.k, q.x⟩
theorem Kb.new {b p : Addr} {H : Hp} {o : HO} (hb : Bx H b) (h : H p = none) : Kb b H (upd H p o) := ⟨Kp.new h, hb.same (same_new h)⟩
theorem Kb.free {b a : Addr} {H H' : Hp} (p : Kb b H H') (h : H' a = none) : H a = none := by
  cases e : H a with
  | none => rfl
  | some o =>
    by_cases q : a = b
    · subst q
      obtain ⟨x, y, z, e2⟩ := p.x
      rw [e2] at h
      cases h
    · rw [p.k a o q e] at h
      cases h
theorem Kb.own {b p : Addr} {H H' : Hp} {o : HO} (q : Kb b H H') (h : H p = none) (n : p ≠ b) : Kb b H (upd H' p o) := ⟨fun a x na e => by
  rw [upd_ne (ne_of_none e h)]
  exact q.k a x na e, by
  obtain ⟨x, y, z, e2⟩ := q.x
  exact ⟨x, y, z, by rw [upd_ne n.symm]; exact e2⟩⟩
theorem line1000 {n : Nat} (h : n ≤ 1000) : n ≤ sizeLine := Nat.le_of_lt (small1000 h)
theorem tYes_in {σ : L2.St} {H : Hp} {f g : Hp → Prop} (h : f H) : tYes σ H fun b H3 => if b = true then f H3 else g H3 := by
  show (if true = true then f H else g H)
  exact iteT h
def lenAt (H : Hp) (l : Addr) : Nat := match H l with
  | some (.lst xs) => xs.length
  | _ => 0
theorem lenAt_of {H : Hp} {l : Addr} {xs : List V} (h : H l = some (.lst xs)) : lenAt H l = xs.length := by
  unfold lenAt
  rw [h]
theorem ne_bx {H : Hp} {b p : Addr} {o : HO} (hb : Bx H b) (h : H p = some o) (hn : ∀ x y z : Int, o ≠ .lst [.int x, .int y, .int z]) : p ≠ b := fun e => by
  obtain ⟨x, y, z, e2⟩ := hb
  rw [e, e2] at h
  exact hn x y z (Option.some.inj h).symm
/-! ### texts -/
def okS (x : Str) : Prop := ∀ c ∈ TL.tl x, c < 0x110000
theorem okS_iff (x : Str) : PyData.strOk x = true ↔ okS x := by
  unfold PyData.strOk okS TL.tl
  rw [← Array.all_toList, List.all_eq_true]
  exact ⟨fun h c hc => of_decide_eq_true (h c hc), fun h c hc => decide_eq_true (h c hc)⟩
theorem strs_shaped : ∀ (vs : List Str), (∀ x ∈ vs, okS x) → PyData.canLayAll0 (vs.map PyData.str) = true ∧ PyData.depthAll (vs.map PyData.str) = 0
  | [], _ => ⟨rfl, rfl⟩
  | v :: vs, h => by
    obtain ⟨a, b⟩ := strs_shaped vs fun x hx => h x (List.mem_cons_of_mem _ hx)
    refine ⟨?_, ?_⟩
    · show (PyData.strOk v && PyData.canLayAll0 (vs.map PyData.str)) = true
      rw [a, (okS_iff v).mpr (h v (List.mem_cons_self ..))]
      rfl
    · show max 0 (PyData.depthAll (vs.map PyData.str)) = 0
      rw [b]
      rfl
theorem strs_list_shaped {vs : List Str} (h : ∀ x ∈ vs, okS x) : SeqAt.shaped (.list (vs.map PyData.str)) = true := by
  obtain ⟨a, b⟩ := strs_shaped vs h
  show (PyData.canLayAll0 (vs.map PyData.str) && decide (PyData.depthAll (vs.map PyData.str) + 1 ≤ 64)) = true
  rw [a, b]
  rfl
theorem strs_dp {K : PySem.W.Frag} {H : Hp} : ∀ (vs : List Str), DpAll K H (vs.map V.str) (vs.map PyData.str)
  | [] => .nil
  | v :: vs => .cons (.str v) (strs_dp vs)
theorem strs_nil (vs : List Str) : PyData.eqv (.list (vs.map PyData.str)) (.list []) = vs.isEmpty := by
  cases vs with
  | nil => rfl
  | cons v r => rfl
theorem strs_all {ws : List Str} : ∀ {ys : List V}, (∀ y ∈ ys, y ∈ ws.map V.str) → ∃ vs : List Str, ys = vs.map V.str ∧ ∀ v ∈ vs, v ∈ ws
  | [], _ => ⟨[], rfl, fun v hv => by cases hv⟩
  | y :: ys, h => by
    obtain ⟨vs, e, hv⟩ := strs_all (ys := ys) fun z hz => h z (List.mem_cons_of_mem _ hz)
    obtain ⟨x, hx, ex⟩ := List.mem_map.mp (h y (List.mem_cons_self ..))
    refine ⟨x :: vs, ?_, fun v hv' => ?_⟩
    · rw [List.map_cons, ex, e]
    · rcases List.mem_cons.mp hv' with rfl | q
      · exact hx
      · exact hv v q
theorem map_str_inj : ∀ {vs ws : List Str}, vs.map V.str = ws.map V.str → vs = ws
  | [], [], _ => rfl
  | [], _ :: _, h => by cases h
  | _ :: _, [], h => by cases h
  | v :: vs, w :: ws, h => by
    rw [List.map_cons, List.map_cons] at h
    injection h with h1 h2
    rw [V.str.inj h1, map_str_inj h2]
theorem strs_ne_ints {vs : List Str} (h : 1 ≤ vs.length) : ∀ x y z : Int, HO.lst (vs.map V.str) ≠ .lst [.int x, .int y, .int z] := fun x y z e => by
  cases vs with
  | nil => exact absurd h (by decide)
  | cons v r =>
    injection e with e1
    rw [List.map_cons] at e1
    injection e1 with e2 _
    cases e2
theorem rd_lock {H : Hp} {a d : Addr} {u v : HO} {o : Obj} (ha : H a = some v) (hd : H d = some u) : Rd (upd H d (.frz o u)) a v := by
  by_cases e : a = d
  · subst e
    rw [ha] at hd
    cases hd
    exact .inr ⟨o, upd_same⟩
  · exact .inl (by rw [upd_ne e]; exact ha)
theorem unlock {H : Hp} {d : Addr} {u : HO} {o : Obj} (hd : H d = some u) : upd (upd H d (.frz o u)) d u = H := by
  funext x
  by_cases e : x = d
  · subst e
    rw [upd_same, hd]
  · rw [upd_ne e, upd_ne e]
end Bn

/-! all(elt for target in iter if ..), the element by the layer's own rules, over anything that is walked; the heap may move -/
namespace GX
open PySem PySem.Spec PyProof.Rows L2 GenW

/-- the context of a generator expression's frame that was made at s -/
abbrev gcx (X : Cx) (s : Shared) (H : Hp) (cenv : Env) (fp : List Addr) : Cx :=
  { X with A := X.A.in1.in1.deeper cenv, s_0 := s, H_0 := H, env := cenv, outer := X.stack, stack := cenv :: X.stack, ex := fp, fn := fun _ => false, pn := [], xe := fun _ _ => False }

section
variable {X : Cx} {pins : List (Addr × Obj)} {σ : L2.St} {H : Hp} {s : Shared}
theorem gen_start {scope : Scope} {own : List (Str × Nat)} {fp : List Addr} {h' : Heap} {mm : Str → Option Value} {G : Array GenState} {tk : Nat} {code : Value} (J : Inv X pins σ H s) (blk : BlkOk X.N X.env.scope scope own) (nc : ∀ y ∈ scope.names, y.2 ≠ .cell) (nd : X.N.Nodup)
    (walked : ∀ p ∈ fp, FpOk X pins H p ∧ p < s.heap.objs.size) (frame : h'.Ns s.heap.objs.size mm) (up : ∀ p u, s.heap.get? p = some u → h'.get? p = some u) (bare : AllBare G) :
    Inv (gcx X s H (genEnv scope (cloFrom X.env.cells scope.names []) s.heap.objs.size code builtinsNs X.env) fp) [] (wipe σ (own.map (·.2))) H { s with heap := h', gens := G, toks := tk } := by
  have caught : ∀ n ∈ scope.names, n.2 = .free → ∃ c, X.env.cells.lookup n.1 = some c := fun n hn hf =>
    J.ok.has _ ((blk.free n hn hf).elim .inl .inr)
  -- the closure holds cells of the def alone
  have clo : ∀ {n c}, (n, c) ∈ cloFrom X.env.cells scope.names [] → X.env.cells.lookup n = some c ∧ c < s.heap.objs.size := fun {n c} hin => by
    rcases cloFrom_mem hin with none' | ⟨isFree, rfl⟩
    · exact absurd none' List.not_mem_nil
    · obtain ⟨c₀, at₀⟩ := caught _ isFree rfl
      obtain ⟨val, stands⟩ := J.cell _ _ at₀
      rw [at₀]
      exact ⟨rfl, stands.lt⟩
  generalize env' : genEnv scope (cloFrom X.env.cells scope.names []) s.heap.objs.size code builtinsNs X.env = ge
  have gL : ge.locals = s.heap.objs.size := env' ▸ rfl
  have gC : ge.cells = cloFrom X.env.cells scope.names [] := env' ▸ rfl
  have gS : ge.scope = scope := env' ▸ rfl
  have gF : ge.frame = some ge.locals := env' ▸ rfl
  have down : ∀ {n c}, ge.cells.lookup n = some c → X.env.cells.lookup n = some c ∧ c < s.heap.objs.size := fun {n c} q =>
    clo (PySem.mem_of_lookup (gC ▸ q))
  have freeAt : ∀ {n}, scope.names.lookup n = some .free → ∃ c, ge.cells.lookup n = some c ∧ X.env.cells.lookup n = some c := fun {n} q => by
    obtain ⟨c, inGe⟩ := mem_lookup (cloFrom_has (cells := X.env.cells) (acc := []) (PySem.mem_of_lookup q))
    have inGe' : ge.cells.lookup n = some c := gC ▸ inGe
    exact ⟨c, inGe', (down inGe').1⟩
  have wOk : (gcx X s H ge fp).Ok := {
    mod := J.ok.mod
    kind := by show ge.scope.kind = _; rw [gS]; exact blk.kind
    glob := by show ge.globals = _; rw [← env']; exact J.ok.glob
    blt := by show ge.builtins = _; rw [← env']; rfl
    above := Nat.le_of_eq gL.symm
    inj := fun n n' c q q' => J.ok.inj n n' c (down q).1 (down q').1
    has := fun n kinds => by
      have kinds' : scope.names.lookup n = some .cell ∨ scope.names.lookup n = some .free := gS ▸ kinds
      rcases kinds' with isCell | isFree
      · exact absurd rfl (nc _ (PySem.mem_of_lookup isCell))
      · exact (freeAt isFree).imp fun _ q => q.1
    cab := fun _ _ z _ => absurd z Bool.false_ne_true
    hd := J.ok.hd
    frames := Around.frames_deeper J.ok.frames
    stk := .inr ⟨rfl, gF⟩
    exf := fun p hp => ⟨by show p ≠ ge.locals; rw [gL]; exact Nat.ne_of_lt (walked p hp).2, fun n c q => (walked p hp).1.2.2.2.2.1 n c (down q).1⟩
    bs := J.bs
    bsz := Nat.le_trans J.ok.bsz J.sz
    noex := fun p u q hp => (walked p hp).1.2.2.2.1.elim (J.ok.noex p u q) fun young => Nat.lt_irrefl _ (Nat.lt_of_lt_of_le (Heap.lt_size q) (Nat.le_trans J.ok.bsz young))
    exfs := fun p hp z => (List.mem_cons.mp (J.stkSub p z)).elim (walked p hp).1.2.1 (walked p hp).1.2.2.1
    funs := J.stack
    frf := J.stkFree }
  refine { ok := wOk, os := rfl, bare := bare, base := Un.kept up, loc := ⟨mm, by show Heap.Ns _ ge.locals _; rw [gL]; exact frame, fun k n v atN atS vis => ?_⟩, cell := fun n c q => ?_, free := ?_, freeC := fun n c q => J.freeC n c (down q).1, pin := fun _ none' => absurd none' List.not_mem_nil, hok := J.hok.kept up, len := ?_ }
  · obtain ⟨atS, notOwn⟩ := wipe_some atS
    have isFree : scope.names.lookup n = some .free := by
      have ownNot : ∀ kd, scope.names.lookup n = some kd → ¬ (kd = .local ∨ kd = .cell) := fun kd q two => by
        rcases blk.own _ (PySem.mem_of_lookup q) two with among | out
        · obtain ⟨⟨m₁, k₁⟩, in₁, nm⟩ := List.mem_map.mp among
          have nm' : m₁ = n := nm
          have k₁At := blk.ix _ in₁
          rw [show (m₁, k₁).1 = n from nm'] at k₁At
          exact notOwn (List.mem_map.mpr ⟨_, in₁, nodup_ix nd k₁At atN⟩)
        · exact out (List.mem_of_getElem? atN)
      have vis' : Vis scope n := gS ▸ (show Vis ge.scope n from vis)
      rcases vis' with q | q | q
      · exact absurd (.inl rfl) (ownNot _ q)
      · exact absurd (.inr rfl) (ownNot _ q)
      · exact q
    have inDef := blk.free _ (PySem.mem_of_lookup isFree) rfl
    obtain ⟨_, _, reads⟩ := J.loc
    obtain ⟨val, rel, how⟩ := reads k n v atN atS (.inr inDef)
    obtain ⟨c, c1, c2⟩ := freeAt isFree
    refine ⟨val, rel, .inr ⟨.inr (by show ge.scope.names.lookup n = _; rw [gS]; exact isFree), c, c1, ?_⟩⟩
    rcases how with ⟨isLocal, _⟩ | ⟨_, c₂, c₂At, stands⟩
    · have isLocal' : X.env.scope.names.lookup n = some .local := isLocal
      rw [isLocal'] at inDef
      rcases inDef with q | q <;> cases q
    · rw [c2] at c₂At
      cases c₂At
      exact stands.keeps up
  · obtain ⟨val, stands⟩ := J.cell n c (down q).1
    exact ⟨val, stands.keeps up⟩
  · show H ge.locals = none
    exact gL ▸ J.hok.fresh (Nat.le_refl _)
  · exact (wipe_length σ _).trans J.len
end

/-! ### the protocol -/
section
variable {Y : Cx}
def RG (Y : Cx) (pn : List (Addr × Obj)) (T : Hp → Prop) : GenEnd := fun n s₀ r s₁ => r = .ok .next ∧ ∃ σ H, Inv Y pn σ H s₁ ∧ T H
def YG (Y : Cx) (pn : List (Addr × Obj)) (F : Hp → Prop) : Protocol := fun n s₀ v s kap =>
  ∃ b σ H, v = .bool b ∧ Inv Y pn σ H s ∧ (b = true → ∀ G, AllBare G → kap (.send .none) { s with gens := G }) ∧ (b = false → F H)
theorem inv_gens {pn : List (Addr × Obj)} {σ : L2.St} {H : Hp} {s : Shared} {G : Array GenState} (I : Inv Y pn σ H s) (h : AllBare G) : Inv Y pn σ H { s with gens := G } :=
  I.call' (ch := []) rfl (Un.kept fun _ _ e => e) I.hok h fun b z => by simp at z
theorem inv_kept {pn : List (Addr × Obj)} {σ : L2.St} {H : Hp} {s : Shared} {G : Array GenState} {h' : Heap} (I : Inv Y pn σ H s) (h : AllBare G) (k : ∀ b o, s.heap.get? b = some o → h'.get? b = some o) : Inv Y pn σ H { s with gens := G, heap := h' } :=
  I.call' (ch := []) rfl (Un.kept k) (I.hok.kept k) h fun b z => by simp at z

/-- what a turn of the walk wants -/
def AllTurn (J : It) (g : TG) (tt : TT) (te : TE) (vs : List Nat) (σw : L2.St) (W : Nat → Nat → Hp → Prop) (T F : Hp → Prop) : Prop :=
  ∀ i m H, W i m H → (J.stop i H ∧ T H) ∨ (J.go i H ∧ ∃ Nx : Hp → Prop, (∀ H', Nx H' → ∃ m', m' < m ∧ W (i + 1) m' H') ∧ ∀ x H', J.yld i H x H' → g x σw H' fun σ2 H2 => wipe σ2 vs = σw ∧ tt σ2 H2 fun b H3 =>
    if b = true then te σ2 H3 fun y H4 => ∃ c : Bool, y = .bl c ∧ (c = true → Nx H4) ∧ (c = false → F H4) else Nx H3)

theorem seg_loop {A : Around} {elt tg iter : Expr} {ifs : List Expr} {scope : Scope} {pos : Pos} {it : Addr} {fp : List Addr} {tn : Nat → Heap → Prop} {J : It} {g : TG} {tt : TT} {te : TE} {vs : List Nat} {σw : L2.St} {pn : List (Addr × Obj)} {W : Nat → Nat → Hp → Prop} {T F : Hp → Prop}
    (hov : A.over (.compLoop (.GeneratorExp elt [⟨tg, iter, ifs, 0⟩] scope pos) 0 (.ref it) .none Y.env) [] = Y.A) (hxe : Y.xe = fun _ _ => False) (hcalm : Y.calm = true) (hco : Y.env.scope.isCoroutine = false)
    (Tn : Turn Y.prog Y.w Y.K tg J fp it tn) (pg : PG Y tg g) (pt : PTs Y ifs tt) (pe : PE Y elt te) (hex : ∀ b ∈ fp, b ∈ Y.ex) (hpn : Y.pn = []) (hpins : ∀ p ∈ pn, p.1 ∉ fp) (turn : AllTurn J g tt te vs σw W T F) :
    ∀ (m n i : Nat) (s₀ s : Shared) (H : Hp), m < n → Inv Y pn σw H s → tn i s.heap → (∀ b ∈ fp, H b = none) → W i m H →
      Seg (model Y.prog Y.w) A (RG Y pn T) (YG Y pn F) n s₀ (.compLoop (.GeneratorExp elt [⟨tg, iter, ifs, 0⟩] scope pos) 0 (.ref it) .none Y.env)
        ((model Y.prog Y.w).den (.compLoop (.GeneratorExp elt [⟨tg, iter, ifs, 0⟩] scope pos) 0 (.ref it) .none Y.env)) [] s := by
  have stat : ∀ {σ' : L2.St} {H' : Hp} {s' : Shared}, Inv Y pn σ' H' s' → (∀ b ∈ fp, H' b = none) → ∀ b ∈ fp, FpOk Y pn H' b := fun {σ' H' s'} I' hn b hb =>
    ⟨hn b hb, (I'.ok.exf b (hex b hb)).1, I'.ok.exfs b (hex b hb), .inl (hex b hb), fun x c e => (I'.ok.exf b (hex b hb)).2 x c e, fun p hp => by
      rw [hpn] at hp
      exact fun z => hpins p (by simpa using hp) (by rw [z]; exact hb)⟩
  intro m
  induction m using Nat.strongRecOn with
  | ind m ih =>
    intro n i s₀ s H hmn I st nfp w
    show Seg _ A _ _ _ s₀ _ ((compTurn (.GeneratorExp elt [⟨tg, iter, ifs, 0⟩] scope pos) 0 (.ref it) .none Y.env).onRaise (leaving Y.env)) [] s
    rw [compTurn_gen, Sem.onRaise_eq_wrap]
    refine seg_bind_wrap (wpAny_standAt ?_)
    rcases turn i m H w with ⟨stop, qq⟩ | ⟨go, Nx, hNx, step⟩
    · refine seg_bind_wrap ?_
      rw [hov]
      refine thnF (Tn.done Y rfl rfl rfl hcalm i pn s _ H (fun _ _ => False) I (stat I nfp) st stop) fun r s1 ⟨hr, I1⟩ => ?_
      subst hr
      exact seg_end (.ok .next) ⟨rfl, _, _, I1, qq⟩
    · refine seg_bind_wrap ?_
      rw [hov]
      refine thnF (Tn.item Y rfl rfl rfl hcalm i pn s _ H (fun _ _ => False) I (stat I nfp) st go) fun r s1 ⟨u, hr, h1⟩ => ?_
      subst hr
      refine seg_bind_wrap ?_
      rw [hov]
      refine thnF h1 fun _ s2 ⟨x, H2, I2, r2, y2, st2, n2⟩ => ?_
      have I2' := I2.pinned (stat I2 n2) (Tn.obj _ _ st2)
      have no : ∀ {e : Value} {s' : Shared} {C : Prop}, Y.xe e s' → C := fun {e s' C} h => by
        rw [hxe] at h
        exact h.elim
      refine seg_bind_wrap ?_
      rw [hov]
      refine wpAny_mono (pg.run _ s2 _ H2 x u _ I2' r2 (step x H2 y2)) (fun _ s3 h3 => ?_) fun _ _ e => no e
      obtain ⟨σ3, H3, I3, hw3, q3⟩ := h3
      refine seg_bind_wrap ?_
      rw [hov]
      refine wpAny_mono (pt.run _ s3 σ3 H3 _ I3 q3) (fun b s4 h4 => ?_) fun _ _ e => no e
      obtain ⟨H4, I4, q4⟩ := h4
      -- the turn's end
      have fin : ∀ {s' : Shared} {H' : Hp} {G : Array GenState}, Inv Y (pn ++ pinsAt fp s2.heap) σ3 H' s' → AllBare G → Nx H' → ∃ m', m' < m ∧ Inv Y pn σw H' { s' with gens := G } ∧ tn (i + 1) ({ s' with gens := G } : Shared).heap ∧ (∀ b ∈ fp, H' b = none) ∧ W (i + 1) m' H' := fun {s' H' G} I' hG nx => by
        obtain ⟨m', less, w'⟩ := hNx H' nx
        have pin' : ∀ b ∈ fp, ∀ o, s2.heap.get? b = some o → s'.heap.get? b = some o ∧ H' b = none := fun b hb o e =>
          (I'.pin (b, o) (List.mem_append_right _ (List.mem_append_right _ (mem_pinsAt hb e)))).imp id And.left
        have hl : σw.length = σ3.length := by rw [← hw3, wipe_length]
        refine ⟨m', less, inv_gens ((I'.unpinned (pins := pn)).weak hl (fun j v e => ?_)) hG, Tn.keep _ _ _ st2 fun b hb o e => (pin' b hb o e).1, fun b hb => ?_, w'⟩
        · rw [← hw3] at e
          exact (wipe_some e).1
        · obtain ⟨o, e, _⟩ := Tn.obj _ _ st2 b hb
          exact (pin' b hb o e).2
      cases b with
      | false =>
        simp only [Bool.false_eq_true, if_false] at q4 ⊢
        obtain ⟨m', hm, J1, J2, J3, J4⟩ := fin I4 I4.bare q4
        exact seg_again rfl (ih m' hm n (i + 1) s₀ s4 H4 (by omega) J1 J2 J3 J4)
      | true =>
        simp only [if_true] at q4 ⊢
        have hy : ∀ v, yieldOut Y.env v = yieldValue v := fun v => by simp only [yieldOut, hco, Bool.false_eq_true, if_false]
        simp only [hy]
        rw [Sem.bind_eq_wrap', Sem.bind_eq_wrap', Sem.wrap_wrap, Sem.wrap_wrap]
        refine seg_wrap ?_
        rw [hov]
        refine wpAny_mono (pe.run _ s4 σ3 H4 _ I4 q4) (fun v s5 h5 => ?_) fun _ _ e => no e
        obtain ⟨yv, H5, I5, r5, c, ey, hT, hF⟩ := h5
        subst ey
        obtain rfl : v = Value.bool c := r5
        obtain ⟨n', rfl⟩ : ∃ n', n = n' + 1 := ⟨n - 1, by omega⟩
        refine seg_at (seg_yield rfl rfl rfl ⟨c, σ3, H5, rfl, I5.unpinned (pins := pn), fun hc G hG => ?_, hF⟩)
        obtain ⟨m', hm, J1, J2, J3, J4⟩ := fin I5 hG (hT hc)
        exact seg_again rfl (ih m' hm n' (i + 1) _ _ H5 (by omega) J1 J2 J3 J4)

theorem seg_start {A : Around} {elt tg iter : Expr} {ifs : List Expr} {scope : Scope} {pos : Pos} {it : Addr} {fp : List Addr} {tn : Nat → Heap → Prop} {J : It} {n i : Nat} {R : GenEnd} {Yp : Protocol} {s₀ s : Shared} {cenv : Env} {P : Program} {w : World} {K : PySem.W.Frag}
    (Tn : Turn P w K tg J fp it tn) (st : tn i s.heap)
    (loop : Seg (model P w) A R Yp n s₀ (.compLoop (.GeneratorExp elt [⟨tg, iter, ifs, 0⟩] scope pos) 0 (.ref it) .none cenv) ((model P w).den (.compLoop (.GeneratorExp elt [⟨tg, iter, ifs, 0⟩] scope pos) 0 (.ref it) .none cenv)) [] s) :
    Seg (model P w) A R Yp n s₀ (.compStart (.GeneratorExp elt [⟨tg, iter, ifs, 0⟩] scope pos) 0 (.ref it) .none cenv) ((model P w).den (.compStart (.GeneratorExp elt [⟨tg, iter, ifs, 0⟩] scope pos) 0 (.ref it) .none cenv)) [] s := by
  show Seg _ A _ _ _ s₀ _ ((compStart (.GeneratorExp elt [⟨tg, iter, ifs, 0⟩] scope pos) 0 (.ref it) .none cenv).onRaise (leaving cenv)) [] s
  unfold compStart
  rw [Sem.onRaise_eq_wrap]
  show Seg _ A _ _ _ s₀ _ ((ask >>= _).wrap _ _ _ _) [] s
  refine seg_bind_wrap (wpAny_askSetting ?_)
  split
  · exact seg_again rfl loop
  · first
      | exact seg_bind_wrap (wpAny_rule (seg_bind_wrap (wpAny_standAt (seg_bind_wrap (Tn.self _ i s _ _ st (seg_again rfl loop))))))
      | (refine seg_bind_wrap (wpAny_rule ?_); show Seg _ A _ _ _ s₀ _ ((standAt iter.pos >>= _).wrap _ _ _ _) [] s; exact seg_bind_wrap (wpAny_standAt (seg_bind_wrap (Tn.self _ i s _ _ st (seg_again rfl loop)))))

/-! ### all's loop -/
theorem all_loop {A : Around} {R : Result → Shared → Prop} {a : Addr} {g : Nat} {pn : List (Addr × Obj)} {T F : Hp → Prop} (hh : A.handled = none) (hd : A.depth < recursionLimit)
    (hgen : ∀ σ H s, Inv Y pn σ H s → s.heap.IsGen a g) (hT : ∀ σ H s, Inv Y pn σ H s → T H → R (.ok (.ret (.bool true))) s) (hF : ∀ σ H s, Inv Y pn σ H s → F H → R (.ok (.ret (.bool false))) s) :
    ∀ (n : Nat) (s : Shared), s.heap.IsGen a g → s.heap.NoLimit → (∃ gs, s.gens[g]? = some gs ∧ gs.Goes (model Y.prog Y.w) A.in1.in1 (RG Y pn T) (YG Y pn F) n (.send .none) (s.setGen g .running)) →
      codeAny (model Y.prog Y.w) A (.builtin "all.loop" ⟨[.ref a], []⟩) R s := by
  intro n
  induction n with
  | zero =>
    intro s hg hl ⟨gs, hgs, hgo⟩
    refine codeAny_builtin PySem.F.entry_all_loop ?_
    rw [Around.under_plainId PySem.F.plain_all_loop _]
    show wpAny _ A.in1 (pyNext (.ref a) >>= _) _ _ s
    refine wpAny_bind (wpAny_pyNext_genexpQ (A := A.in1) (P := fun _ _ s₁ => ∃ σ H, Inv Y pn σ H s₁ ∧ T H) hh hl hd hg hgs hgo (fun v s₁ gs' hb hv => ?_) (fun s₁ hp h' hk => ?_))
    · obtain ⟨b, σ, H, rfl, I, h1, h2⟩ := hv
      cases b with
      | true => exact (h1 rfl _ I.bare).elim
      | false =>
        refine wpAny_bind (wpAny_holding (wpAny_truthy_bool ?_))
        refine wpAny_bind (wpAny_letGo ?_)
        simp only [Bool.false_eq_true, if_false]
        exact wpAny_bind (wpAny_rule (wpAny_pure (hF σ H _ (inv_gens I (allBare_setGen I.bare hb)) (h2 rfl))))
    · obtain ⟨σ, H, I, q⟩ := hp
      exact wpAny_bind (wpAny_rule (wpAny_pure (hT σ H _ (inv_kept (s := s₁) (G := (s₁.setGen g .finished).gens) I (allBare_setGen I.bare rfl) hk) q)))
  | succ n ih =>
    intro s hg hl ⟨gs, hgs, hgo⟩
    have hgl : g < s.gens.size := (Array.getElem?_eq_some_iff.mp hgs).1
    refine codeAny_builtin PySem.F.entry_all_loop ?_
    rw [Around.under_plainId PySem.F.plain_all_loop _]
    show wpAny _ A.in1 (pyNext (.ref a) >>= _) _ _ s
    refine wpAny_bind (wpAny_gsz (n := g + 1) hgl (wpAny_pyNext_genexpQ (A := A.in1) (P := fun _ _ s₁ => ∃ σ H, Inv Y pn σ H s₁ ∧ T H) hh hl hd hg hgs hgo (fun v s₁ gs' hb hv => ?_) (fun s₁ hp h' hk => ?_)))
    · intro hsz
      obtain ⟨b, σ, H, rfl, I, h1, h2⟩ := hv
      refine wpAny_bind (wpAny_holding (wpAny_truthy_bool ?_))
      refine wpAny_bind (wpAny_letGo ?_)
      cases b with
      | true =>
        simp only [if_true]
        have hsz1 : g < s₁.gens.size := by
          have q : (s₁.setGen g gs').gens.size = s₁.gens.size := setGen_size _ _ _
          have hsz' : g + 1 ≤ (s₁.setGen g gs').gens.size := hsz
          omega
        refine wpAny_pure ⟨plainId_quiet PySem.F.plain_all_loop _, ih (s₁.setGen g gs') (hgen σ H _ (inv_gens I (allBare_setGen I.bare hb))) (show s₁.heap.NoLimit from I.nolimit) ⟨gs', setGen_at hsz1, ?_⟩⟩
        exact h1 rfl _ (allBare_setGen (s := s₁.setGen g gs') (allBare_setGen I.bare hb) rfl)
      | false =>
        simp only [Bool.false_eq_true, if_false]
        exact wpAny_bind (wpAny_rule (wpAny_pure (hF σ H _ (inv_gens I (allBare_setGen I.bare hb)) (h2 rfl))))
    · intro hsz
      obtain ⟨σ, H, I, q⟩ := hp
      exact wpAny_bind (wpAny_rule (wpAny_pure (hT σ H _ (inv_kept (s := s₁) (G := (s₁.setGen g .finished).gens) I (allBare_setGen I.bare rfl) hk) q)))
end
end GX

namespace GX
open PySem PySem.Spec PyProof.Rows L2 GenW
/-- all(elt for tg in iter if ..): behind it the def's table may have grown -/
def tAll (P : Addr) (wi : TI) (g : TG) (tt : TT) (te : TE) (vs : List Nat) : TE := fun σ H Q => wi σ H fun J H1 => GxR.TabG H1 P ∧ ∀ H2, GxR.Tabbed P H1 H2 →
  ∃ W : Nat → Nat → Hp → Prop, (∃ m, W 0 m H2) ∧ AllTurn J g tt te vs (wipe σ vs) W (fun H' => Q (.bl true) H') (fun H' => Q (.bl false) H')
section
variable {X : Cx}
theorem pe_all {c P : Addr} {elt tg iter : Expr} {ifs : List Expr} {scope : Scope} {own : List (Str × Nat)} {p pos gpos : Pos} {wi : TI} {g : TG} {tt : TT} {te : TE} {k : Nat}
    (hr : Room k X.A) (hgl : Gl X "all") (hm : X.mg "all" = none) (hb : bootBuiltins "all" = some (.builtin "all")) (TB : GxR.TabB X.base X.mg c P) (hcode : X.env.code = .ref c) (hc : X.calm = true) (hN : X.N.Nodup) (hi : PI X tg iter wi) (ok : BlkOk X.N X.env.scope scope own)
    (hco : scope.isCoroutine = false) (nc : ∀ y ∈ scope.names, y.2 ≠ .cell) (h0 : scope.names.lookup (".0" : Str) = some NameKind.local)
    (hg : ∀ (s : Shared) (H : Hp) (C : Addr) (cl : List (Str × Addr)) (code : Value) (fp : List Addr), PG (gcx X s H (genEnv scope cl C code builtinsNs X.env) fp) tg g)
    (ht : ∀ (s : Shared) (H : Hp) (C : Addr) (cl : List (Str × Addr)) (code : Value) (fp : List Addr), PTs (gcx X s H (genEnv scope cl C code builtinsNs X.env) fp) ifs tt)
    (he : ∀ (s : Shared) (H : Hp) (C : Addr) (cl : List (Str × Addr)) (code : Value) (fp : List Addr), PE (gcx X s H (genEnv scope cl C code builtinsNs X.env) fp) elt te)
    (hs : ∀ v, genFold iter X.env v = pure v := by intro _; rfl)
    (hst : starEach [.GeneratorExp elt [⟨tg, iter, ifs, 0⟩] scope gpos] X.env = (false, eval (.GeneratorExp elt [⟨tg, iter, ifs, 0⟩] scope gpos) X.env) :: starEach [] X.env := by rfl) :
    PE X (.Call (.Name "all" p) [.GeneratorExp elt [⟨tg, iter, ifs, 0⟩] scope gpos] [] pos) (tAll P wi g tt te (own.map (·.2))) := by
  refine ⟨fun pins s σ H Q I h => ?_⟩
  have caught : ∀ n ∈ scope.names, n.2 = .free → ∃ c, X.env.cells.lookup n.1 = some c := fun n hn hf => I.ok.has _ ((ok.free n hn hf).elim .inl .inr)
  refine wpAny_Call_Name_kw (ld_blt I hgl hm hb ?_)
  refine PyProof.Rows.callWith_builtin1 ?_ hst (by rfl)
  rw [hst]
  show wpAny _ _ (spliced ((false, eval (.GeneratorExp elt [⟨tg, iter, ifs, 0⟩] scope gpos) X.env) :: backTo pos (starEach [] X.env))) _ _ s
  refine Calls.spliced_cons ?_
  refine wpAny_GeneratorExp_make hco (closure_ok caught) nc h0 ok.kind hr.depth ?_ hs
  refine thn (hi.run pins s σ H _ I h) fun xv s1 hx => thn hx fun itv s2 h2 => ?_
  obtain ⟨it, fp, tn, J, H2, e, I2, T, st2, f2, ⟨ps, hP, ht2⟩, q⟩ := h2
  subst e
  refine ⟨I2.nolimit, ?_⟩
  have hPs : s2.heap.get? P = some { cls := .none, data := .fields ps } := I2.hok P _ hP
  have cd : PySem.W.CodeHd s2.heap c P := TB.code.keeps fun b u e => I2.bk b u e
  have nfP : ∀ b ∈ fp, b ≠ P := fun b hb z => by
    have := (f2 b hb).1
    rw [z, hP] at this
    cases this
  -- behind the code object
  have cont : ∀ (code : Value) (h3 : Heap) (tk : Nat) (ps' : Array Value), Heap.ExtBut P s2.heap h3 → s2.heap.objs.size ≤ h3.objs.size → h3.get? P = some { cls := .none, data := .fields ps' } → (∃ more, ps' = ps ++ more) → TriplesOk ps'.toList →
      wpAny (model X.prog X.w) X.A (builtinsFor X.env.globals X.env.builtins) (fun bi s₄ => ∀ h', h'.Ns s₄.heap.objs.size (fun y => if y = ".0" then some (.ref it) else none) → Heap.SameBut s₄.heap.objs.size (s₄.heap.push { cls := .type "frame", data := .dict #[] }) h' →
          wpAny (model X.prog X.w) X.A (spliced (backTo pos (starEach [] X.env))) (fun vs s6 => wpAny (model X.prog X.w) X.A (call (.builtin "all") (.ref h'.objs.size :: vs)) (EP X pins σ Q) X.xe s6) X.xe { s₄ with
            gens := s₄.gens.push (.fresh (.compStart (.GeneratorExp elt [⟨tg, iter, ifs, 0⟩] scope gpos) 0 (.ref it) .none (genEnv scope (cloFrom X.env.cells scope.names []) s₄.heap.objs.size code bi X.env))),
            toks := s₄.toks + 1 + 1 + 1,
            heap := h'.push { cls := .type "generator", data := .fields #[.int s₄.gens.size 0, .str "<genexpr>" (s₄.toks + 1), .str (X.env.qual ++ "<genexpr>") (s₄.toks + 1 + 1)] } }) X.xe { s2 with heap := h3, toks := tk } := by
    intro code h3 tk ps' hx hsz hP3 ⟨more, em⟩ ht3
    obtain ⟨bmod, bobj, i1, i2, i3, i4, i5, i6, i7, i8⟩ := TB.bm
    have keep3 : ∀ b u, b ≠ P → s2.heap.get? b = some u → h3.get? b = some u := fun b u hb e => hx b u hb e
    refine wpAny_builtinsFor (m := X.mg) (by rw [I2.ok.glob]; exact (I2.mod.glob.keeps I2.bk).extBut hx TB.gP) i1 i2 (keep3 _ _ i4 (I2.bk _ _ i5)) i6 i7 i8 ?_
    intro h' hn' hs'
    -- the state ahead of the frame
    have I3 := GxR.inv_tab (more := more) (h' := h3) (g' := s2.gens) (d' := s2.drawn) (t' := tk) I2 hP (fun b u hb e => keep3 b u hb e) (by rw [← em]; exact hP3) I2.bare
    have hTab : GxR.Tabbed P H2 (upd H2 P (.tbl (ps ++ more))) := ⟨⟨ps ++ more, upd_same, by rw [← em]; exact ht3⟩, fun b hb => upd_ne hb⟩
    obtain ⟨W, ⟨m0, w0⟩, turn⟩ := q _ hTab
    generalize upd H2 P (.tbl (ps ++ more)) = H3 at I3 w0 hTab
    have st3 : tn 0 h3 := T.keep _ _ _ st2 fun b hb o e => keep3 b o (nfP b hb) e
    have f3 : ∀ b ∈ fp, FpOk X pins H3 b ∧ b < h3.objs.size := fun b hb => by
      obtain ⟨o, e, _⟩ := T.obj _ _ st3 b hb
      exact ⟨⟨by rw [hTab.2 b (nfP b hb)]; exact (f2 b hb).1, (f2 b hb).2⟩, Heap.lt_size e⟩
    generalize hs3 : ({ s2 with heap := h3, toks := tk } : Shared) = s3 at I3
    have es3 : h3 = s3.heap := by rw [← hs3]
    have hn'' : h'.Ns s3.heap.objs.size (fun y => if y = ".0" then some (.ref it) else none) := by rw [← es3]; exact hn'
    have hs'' : Heap.SameBut s3.heap.objs.size (s3.heap.push { cls := .type "frame", data := .dict #[] }) h' := by rw [← es3]; exact hs'
    rw [es3] at st3 f3
    show wpAny _ _ _ _ _ { s3 with
            gens := s3.gens.push (.fresh (.compStart (.GeneratorExp elt [⟨tg, iter, ifs, 0⟩] scope gpos) 0 (.ref it) .none (genEnv scope (cloFrom X.env.cells scope.names []) s3.heap.objs.size code builtinsNs X.env))),
            toks := s3.toks + 1 + 1 + 1,
            heap := h'.push { cls := .type "generator", data := .fields #[.int s3.gens.size 0, .str "<genexpr>" (s3.toks + 1), .str (X.env.qual ++ "<genexpr>") (s3.toks + 1 + 1)] } }
    have kp : ∀ b o, s3.heap.get? b = some o → h'.get? b = some o := fun b o e => hs''.extBut b o (Nat.ne_of_lt (Heap.lt_size e)) (Heap.get?_push_of_some _ e)
    have hsz' : h'.objs.size = s3.heap.objs.size + 1 := by rw [hs''.1, Heap.size_push]
    generalize hgo : ({ cls := .type "generator", data := .fields #[.int s3.gens.size 0, .str "<genexpr>" (s3.toks + 1), .str (X.env.qual ++ "<genexpr>") (s3.toks + 1 + 1)] } : Obj) = go
    have hgen0 : ∀ h : Heap, h.get? h'.objs.size = some go → h.IsGen h'.objs.size s3.gens.size := fun h e => ⟨go, _, _, e, by rw [← hgo], by rw [← hgo], by rw [← hgo]⟩
    have ngo : ∀ v, go.data ≠ .cell v := fun v z => by
      rw [← hgo] at z
      cases z
    have hpush : (h'.push go).get? h'.objs.size = some go := by
      rw [← hgo]
      exact Heap.get?_push_size _ rfl
    have kp2 : ∀ b o, s3.heap.get? b = some o → (h'.push go).get? b = some o := fun b o e => Heap.get?_push_of_some _ (kp b o e)
    have pg := hg s3 H3 s3.heap.objs.size (cloFrom X.env.cells scope.names []) code fp
    have pt := ht s3 H3 s3.heap.objs.size (cloFrom X.env.cells scope.names []) code fp
    have pe := he s3 H3 s3.heap.objs.size (cloFrom X.env.cells scope.names []) code fp
    have I4 := gen_start (code := code) (tk := s3.toks + 1 + 1 + 1) (h' := h'.push go) (G := s3.gens.push (.fresh (.compStart (.GeneratorExp elt [⟨tg, iter, ifs, 0⟩] scope gpos) 0 (.ref it) .none (genEnv scope (cloFrom X.env.cells scope.names []) s3.heap.objs.size code builtinsNs X.env)))) I3 ok nc hN f3 (hn''.push _) kp2 (AllBare.push I3.bare rfl)
    generalize hce : genEnv scope (cloFrom X.env.cells scope.names []) s3.heap.objs.size code builtinsNs X.env = ce at pg pt pe I4 ⊢
    have cL : ce.locals = s3.heap.objs.size := by subst hce; rfl
    have cS : ce.scope = scope := by subst hce; rfl
    have hgH : H3 h'.objs.size = none := I3.hok.fresh (by rw [hsz']; exact Nat.le_succ _)
    have nfs : h'.objs.size ∉ frs X.stack := fun z => by
      rcases List.mem_cons.mp (I3.stkSub _ z) with z | z
      · have := I3.lt
        rw [← z, hsz'] at this
        exact absurd (Nat.lt_of_succ_lt this) (Nat.lt_irrefl _)
      · exact I3.nofs (by rw [hsz']; exact Nat.le_succ _) z
    have I5 := I4.pins_of (pins' := [(h'.objs.size, go)]) fun p hp => by
      rw [List.mem_singleton.mp hp]
      refine ⟨hpush, hgH, ?_, nfs, ngo⟩
      show h'.objs.size ≠ ce.locals
      rw [cL, hsz']
      exact Nat.succ_ne_self _
    generalize hs5 : ({ s3 with heap := h'.push go, gens := s3.gens.push (.fresh (.compStart (.GeneratorExp elt [⟨tg, iter, ifs, 0⟩] scope gpos) 0 (.ref it) .none ce)), toks := s3.toks + 1 + 1 + 1 } : Shared) = s5 at I5
    have st5 : tn 0 s5.heap := T.keep _ _ _ st3 fun b _ o e => by rw [← hs5]; exact kp2 b o e
    have back : ∀ σ' H' s', Inv (gcx X s3 H3 ce fp) [(h'.objs.size, go)] σ' H' s' → Inv X pins σ H' s' := fun σ' H' s' I6 =>
      I3.call' (ch := fp) I6.os I6.base I6.hok I6.bare fun b hb => ⟨(f3 b hb).1.2.2.2.1, (f3 b hb).1.2.1, (f3 b hb).1.2.2.2.2.1, (f3 b hb).1.2.2.2.2.2⟩
    have hgen : ∀ σ' H' s', Inv (gcx X s3 H3 ce fp) [(h'.objs.size, go)] σ' H' s' → s'.heap.IsGen h'.objs.size s3.gens.size := fun σ' H' s' I6 =>
      hgen0 _ (I6.pin (h'.objs.size, go) (List.mem_append_right _ (List.mem_singleton.mpr rfl))).1
    have hgs : s5.gens[s3.gens.size]? = some (.fresh (.compStart (.GeneratorExp elt [⟨tg, iter, ifs, 0⟩] scope gpos) 0 (.ref it) .none ce)) := by
      rw [← hs5]
      exact Array.getElem?_push_size ..
    have seg : Seg (model X.prog X.w) X.A.in1.in1 (RG (gcx X s3 H3 ce fp) [(h'.objs.size, go)] fun H' => Q (.bl true) H') (YG (gcx X s3 H3 ce fp) [(h'.objs.size, go)] fun H' => Q (.bl false) H') (m0 + 1) (s5.setGen s3.gens.size .running)
        (.compStart (.GeneratorExp elt [⟨tg, iter, ifs, 0⟩] scope gpos) 0 (.ref it) .none ce) ((model X.prog X.w).den (.compStart (.GeneratorExp elt [⟨tg, iter, ifs, 0⟩] scope gpos) 0 (.ref it) .none ce)) [] (s5.setGen s3.gens.size .running) := by
      refine seg_start (i := 0) T st5 ?_
      exact seg_loop (Y := gcx X s3 H3 ce fp) (vs := own.map (·.2)) rfl rfl hc (by show ce.scope.isCoroutine = false; rw [cS]; exact hco) T pg pt pe (fun b hb => hb) rfl (fun p hp hb => by
          rw [List.mem_singleton.mp hp] at hb
          have := (f3 _ hb).2
          have z : h'.objs.size < s3.heap.objs.size := this
          rw [hsz'] at z
          omega) turn m0 (m0 + 1) 0 _ _ H3 (Nat.lt_succ_self _) (inv_gens I5 (allBare_setGen I5.bare rfl)) st5 (fun b hb => (f3 b hb).1.1) w0
    refine Calls.spliced_nil ?_
    refine call_function_tree F.kind_all F.plain_all F.entry_all (F.args_all1 _) ?_
    unfold Builtin.«all»
    refine wpAny_bind (m := oneArg "all" _) (wpAny_pure ?_)
    refine wpAny_bind (wpAny_pyIter_gen (hgen _ _ _ I5) ?_)
    refine wpAny_pure ⟨plainId_quiet F.plain_all_loop _, ?_⟩
    refine all_loop (Y := gcx X s3 H3 ce fp) (T := fun H' => Q (.bl true) H') (F := fun H' => Q (.bl false) H') hr.hd hr.depth hgen (fun σ' H' s' I6 hq => ?_) (fun σ' H' s' I6 hq => ?_) (m0 + 1) s5 (hgen _ _ _ I5) I5.nolimit ⟨_, hgs, rfl, seg⟩
    · exact ⟨.bl true, H', back _ _ _ I6, rfl, hq⟩
    · exact ⟨.bl false, H', back _ _ _ I6, rfl, hq⟩
  cases hf : codeAmong gpos ps.toList with
  | none =>
    refine wpAny_genexprCodeX hcode (cd.code hPs ht2) (cd.tab hPs) hf fun c' h' tk hx hge hlt hco' _ htab' _ => ?_
    have trip := hco'.choose_spec.choose_spec.choose_spec.choose_spec.choose_spec.choose_spec.choose_spec.choose_spec.choose_spec.choose_spec.2.2.2.2.2.2.2.2.2.1
    exact cont _ h' tk _ hx (Nat.le_trans hge (Nat.le_of_lt hlt)) htab'.2 ⟨#[_, _, _], rfl⟩ trip
  | some cv =>
    refine wpAny_genexprCode_hit hcode (cd.code hPs ht2) hf ?_
    exact cont cv s2.heap s2.toks ps (Heap.ExtBut.refl _ _) (Nat.le_refl _) hPs ⟨#[], by simp⟩ ht2
end
end GX

namespace GX
open PySem PySem.Spec PyProof.Rows L2 GenW
/-- all(..) over a walk -/
theorem all_it {J : It} {n : Nat} {G : Hp → Prop} {Y : Nat → Hp → V → Hp → Prop} (w : Walk J n G Y) {g : TG} {tt : TT} {te : TE} {vs : List Nat} {σw : L2.St} {H2 : Hp} {T F : Hp → Prop} (Pv : Nat → Hp → Prop) (h0 : Pv 0 H2) (hG : ∀ i H, i ≤ n → Pv i H → G H)
    (hs : ∀ i x H H', i < n → Pv i H → Y i H x H' → g x σw H' fun σ2 H2 => wipe σ2 vs = σw ∧ tt σ2 H2 fun b H3 => if b = true then te σ2 H3 fun y H4 => ∃ c : Bool, y = .bl c ∧ (c = true → Pv (i + 1) H4) ∧ (c = false → F H4) else Pv (i + 1) H3) (hd : ∀ H, Pv n H → T H) :
    ∃ W : Nat → Nat → Hp → Prop, (∃ m, W 0 m H2) ∧ AllTurn J g tt te vs σw W T F := by
  refine ⟨fun i left H => i + left = n ∧ Pv i H, ⟨n, Nat.zero_add n, h0⟩, fun i left H ⟨sum, pv⟩ => ?_⟩
  have good := hG i H (by omega) pv
  cases left with
  | zero =>
    have last : i = n := sum
    subst last
    exact .inl ⟨w.stops H good, hd H pv⟩
  | succ left =>
    have below : i < n := by omega
    exact .inr ⟨w.goes i H below good, Pv (i + 1), fun H' pv' => ⟨left, Nat.lt_succ_self _, by omega, pv'⟩, fun x H' y => hs i x H H' below pv (w.yields i H x H' below good y)⟩
/-! ### tables -/
def NT (o : HO) : Prop := ∀ q, o ≠ .tbl q
theorem nt_lst {xs : List V} : NT (.lst xs) := fun _ z => by cases z
theorem nt_tup {xs : List V} : NT (.tup xs) := fun _ z => by cases z
theorem nt_dK {xs : List (Key × V)} : NT (.dK xs) := fun _ z => by cases z
theorem nt_frz {o : Obj} {u : HO} : NT (.frz o u) := fun _ z => by cases z
def Tabs (Ps : List Addr) (H : Hp) : Prop := ∀ P ∈ Ps, GxR.TabG H P
/-- all is kept but the tables, which may have grown -/
structure SameN (Ps : List Addr) (H H' : Hp) : Prop where
  k : ∀ x y, NT y → H x = some y → H' x = some y
  q : ∀ x p, H x = some (.tbl p) → ∃ p', H' x = some (.tbl p')
  t : Tabs Ps H'
section
variable {Ps : List Addr} {H H' H1 H2 : Hp}
theorem SameN.refl (t : Tabs Ps H) : SameN Ps H H := ⟨fun _ _ _ e => e, fun _ p e => ⟨p, e⟩, t⟩
theorem SameN.trans (a : SameN Ps H H1) (b : SameN Ps H1 H2) : SameN Ps H H2 := ⟨fun x y n e => b.k x y n (a.k x y n e), fun x p e => let ⟨p', e'⟩ := a.q x p e; b.q x p' e', b.t⟩
theorem Tabs.same (t : Tabs Ps H) (s : Same H H') : Tabs Ps H' := fun P hP => let ⟨ps, e, h⟩ := t P hP; ⟨ps, s _ _ e, h⟩
theorem SameN.of (t : Tabs Ps H) (s : Same H H') : SameN Ps H H' := ⟨fun x y _ e => s x y e, fun x p e => ⟨p, s _ _ e⟩, t.same s⟩
theorem SameN.tab {P : Addr} (t : Tabs Ps H) (hP : P ∈ Ps) (s : GxR.Tabbed P H H') : SameN Ps H H' := by
  obtain ⟨ps, e0, _⟩ := t P hP
  refine ⟨fun x y n e => ?_, fun x p e => ?_, fun P' hP' => ?_⟩
  · rw [s.2 x fun z => by rw [z, e0] at e; exact n ps (Option.some.inj e).symm]
    exact e
  · by_cases z : x = P
    · obtain ⟨ps', e', _⟩ := s.1
      exact ⟨ps', by rw [z]; exact e'⟩
    · exact ⟨p, by rw [s.2 x z]; exact e⟩
  · by_cases z : P' = P
    · rw [z]
      exact s.1
    · obtain ⟨ps', e', h'⟩ := t P' hP'
      exact ⟨ps', by rw [s.2 P' z]; exact e', h'⟩
theorem SameN.free {p : Addr} (s : SameN Ps H H') (h : H' p = none) : H p = none := by
  cases e : H p with
  | none => rfl
  | some o =>
    by_cases z : ∃ q, o = .tbl q
    · obtain ⟨q, rfl⟩ := z
      obtain ⟨q', e'⟩ := s.q p q e
      rw [e'] at h
      cases h
    · rw [s.k p o (fun q y => z ⟨q, y⟩) e] at h
      cases h
theorem SameN.unlock {a : Addr} {u : HO} {o : Obj} (ha : H a = some u) (hu : NT u) (t : Tabs Ps H) (s : SameN Ps (upd H a (.frz o u)) H') : SameN Ps H (upd H' a u) := by
  have hP : ∀ P ∈ Ps, P ≠ a := fun P h z => by
    obtain ⟨ps, e, _⟩ := t P h
    rw [z, ha] at e
    exact hu ps (Option.some.inj e)
  refine ⟨fun x y n e => ?_, fun x p e => ?_, fun P h => ?_⟩
  · by_cases c : x = a
    · subst c
      rw [upd_same, ← ha]
      exact e
    · rw [upd_ne c]
      exact s.k _ _ n (by rw [upd_ne c]; exact e)
  · by_cases c : x = a
    · subst c
      rw [ha] at e
      exact absurd (Option.some.inj e) (hu p)
    · rw [upd_ne c]
      exact s.q _ _ (by rw [upd_ne c]; exact e)
  · obtain ⟨ps, e, h'⟩ := s.t P h
    exact ⟨ps, by rw [upd_ne (hP P h)]; exact e, h'⟩
theorem Tabs.lock {a : Addr} {u : HO} {o : Obj} (ha : H a = some u) (hu : NT u) (t : Tabs Ps H) : Tabs Ps (upd H a (.frz o u)) := fun P h => by
  obtain ⟨ps, e, h'⟩ := t P h
  refine ⟨ps, ?_, h'⟩
  rw [upd_ne fun z => by rw [z, ha] at e; exact hu ps (Option.some.inj e)]
  exact e
end
/-! ### a def whose code object is known -/
structure FunC (K : PySem.W.Frag) (x qual : Str) (st : Stmt) (f : Addr) (fd : FuncData) (c : Addr) : Prop where
  ex : ∃ (oc : Value) (od : Option Addr) (kV doc pm : Value) (an : Option Addr) (ct : Value) (osl : Array (Option Value)),
    fd = PySem.W.fnOf x qual (defArgs st) (defBody st) (defScope st) .none kV doc pm an (.ref c) ct ∧ K.lookup f = some ⟨oc, od, .func fd, osl⟩ ∧ PySem.W.codeIn K (.ref c) qual = true
  kp : PySem.W.keepIn K (.ref f) = true
section
variable {P : Program} {w : World} {K : PySem.W.Frag} {mg : Str → Option Value} {base : Heap}
theorem FunC.ok {x qual : Str} {st : Stmt} {f c : Addr} {fd : FuncData} {N ps : List Str} {k : Nat} {sp : Sp} (F : FunC K x qual st f fd c) (S : FnScope N ps (defScope st)) (len : ∀ vs H Q E, sp vs H Q E → vs.length = ps.length)
    (hbody : ∀ (A : Around) (outer : List Env) (s : Shared) (H : Hp) (vs : List V) (Q : VK) (E : XK), Room k (A.deeper (envOfC qual (defScope st) s.heap.objs.size f (.ref c))) → sp vs H Q E →
      ∃ t, PSs (cxOf CX0 P w K mg base N qual (defScope st) f (.ref c) A outer s H E).nox (defBody st) t ∧ t { nx := fun _ H' => Q .non H', rt := Q } (start N vs) H) : FnOk P w K mg base CX0 (k + 1) f fd ps sp := by
  obtain ⟨oc, od, kV, doc, pm, an, ct, osl, rfl, lk, hcd⟩ := F.ex
  exact fn_of lk hcd S len fun A outer s H vs Q E room said => (hbody A outer s H vs Q E room said).imp fun _ h => ⟨h.1.nox, h.2⟩
theorem FunC.fun {x qual : Str} {st : Stmt} {f c : Addr} {fd : FuncData} (F : FunC K x qual st f fd c) : Fun K x qual st f fd := by
  obtain ⟨oc, od, kV, doc, pm, an, ct, osl, e, lk, hcd⟩ := F.ex
  exact ⟨⟨oc, od, kV, doc, pm, an, _, ct, osl, e, lk, hcd⟩, F.kp⟩
end
/-! ### the end -/
/-- the table of the code object cd is not among what is written -/
def tabFree (K : PySem.W.Frag) (cd : Value) : Bool := match cd with
  | .ref c => (match K.lookup c with
      | some ⟨_, _, .fields vs, _⟩ => (match vs.toList.drop 11 with | .ref P :: _ => (K.lookup P).isNone | _ => false)
      | _ => false)
  | _ => false
/-- the def x's code object at c, its table at P, empty -/
def TabOf (K : PySem.W.Frag) (cd : Value) (h : Heap) (c P : Addr) : Prop := cd = .ref c ∧ h.get? P = some { cls := .none, data := .fields #[] } ∧ K.lookup P = none ∧ PySem.W.CodeHd h c P
def TabsTop (q : Program) (mg : Str → Option Value) (h : Heap) : Prop := ∀ d ∈ recsOf q, ∃ a o fd c P, mg d.name = some (.ref a) ∧ h.get? a = some o ∧ o.data = .func fd ∧ fd.code = .ref c ∧ h.IsCode c P #[] ∧ h.TableAt c P #[]
theorem tabOf {q : Program} {K : PySem.W.Frag} {mg : Str → Option Value} {h : Heap} {x : Str} {f : Addr} {params : Arguments} {body : List Stmt} {scope : Scope} {dV kV doc pm cd ct oc : Value} {an od : Option Addr} {osl : Array (Option Value)} {qual name : Str}
    (X : K.In h) (T : TabsTop q mg h) (hx : ((recsOf q).any fun e => e.name == x) = true) (hm : mg x = some (.ref f)) (lk : K.lookup f = some ⟨oc, od, .func (PySem.W.fnOf name qual params body scope dV kV doc pm an cd ct), osl⟩) (ht : tabFree K cd = true) :
    ∃ c P, TabOf K cd h c P := by
  obtain ⟨dL, hmem, hn1⟩ := List.any_eq_true.mp hx
  have hn2 : dL.name = x := beq_iff_eq.mp hn1
  obtain ⟨a', o', fd', c', P', h1, h2, h3, h4, h5, h6⟩ := T dL hmem
  rw [hn2, hm] at h1
  cases h1
  have g1 := X _ _ lk
  rw [g1] at h2
  cases h2
  have h3' : Data.func (PySem.W.fnOf name qual params body scope dV kV doc pm an cd ct) = .func fd' := h3
  cases h3'
  have h4' : cd = .ref c' := h4
  subst h4'
  refine ⟨c', P', rfl, h6.2, ?_, .of h5 h6⟩
  obtain ⟨⟨oc', vc, e1, _, e3, e4⟩, _⟩ := h6
  unfold tabFree at ht
  dsimp only at ht
  split at ht
  · rename_i vs sl hk
    have g2 := X _ _ hk
    rw [g2] at e1
    cases e1
    have e3' : Data.fields vs = .fields vc := e3
    cases e3'
    split at ht
    · rename_i P2 r hd
      have e5 : vc.toList[11]? = some (.ref P2) := by
        have : (vc.toList.drop 11)[0]? = some (.ref P2) := by rw [hd]; rfl
        rw [List.getElem?_drop] at this
        exact this
      rw [Array.getElem?_toList, e4] at e5
      cases e5
      exact Option.isNone_iff_eq_none.mp ht
    · cases ht
  · cases ht
theorem walk_ofTabs {l : PySem.W.OpenLaw} {n k : Nat} {q : Program} {loose : List Str} {XP : (Str → Option Value) → Heap → Prop} {YP : World → Heap → Prop} {d : DefRec} {K : Params → PySem.W.Frag} {CX : World → CXT} {x : Str}
    (most : l.most = some n) (small : n ≤ sizeLine) (plain : d.params.defaults = []) (room : Room k callerA) (hY : ∀ (w : World) (h : Heap), YP w h → (K w.params).In h)
    (F : ∀ (w : World) (mg : Str → Option Value) (fa : Addr) (h : Heap), (K w.params).In h → h.Ns mainGlobals mg → mg d.name = some (.ref fa) → TabsTop q mg h → LamX.LawAtS l w (K w.params) (CX w) k n x mg fa h)
    (calm : ∀ (w : World) (H : Hp) (s : Shared) (x : Value) (s' : Shared), CX w [] H s (fun _ _ _ => False) x s' → False) : PySem.W.WalkO q loose XP YP l.row.toRowW d [] (fun f vs => PySem.call f vs) := by
  refine Att.attach_callB most plain fun w _ s₁ mg _ fa _ _ _ _ a _ ns G Y _ _ _ hmg lstAt intsAt lenAt' bitsAt gensAt => ?_
  have KX := hY w _ Y
  obtain ⟨fd, cs, sp, hT, nT, C, hb, hsp, hF⟩ := F w mg fa _ KX G.T.g hmg G.T.tab
  exact LamX.law_callTs KX G.T.g G.T.b G.T.builtins G.T.nolimit gensAt hT nT C G.T.bmain lstAt intsAt (Nat.le_trans lenAt' small) room hF hb (fun H tabs sq => hsp H a ns lenAt' bitsAt tabs sq) fun H x s' => calm w H s₁ x s'
theorem tabB_of {base : Heap} {mg : Str → Option Value} {c P : Addr} (t : LamX.TabB base mg c P) : GxR.TabB base mg c P := ⟨t.code, t.bm, t.gP⟩
end GX

/-! rules of my own: zip of a list and a tuple, y = {k: v for ..}, != of lists of data and dicts -/
namespace RM
open PySem PySem.Spec PyProof.Rows L2
/-- a list at a and a tuple at b, walked together -/
def ItzM (K : PySem.W.Frag) (a b : Addr) (xs ys : List V) : It where
  go := fun i H => SqL K H a xs ∧ SqT K H b ys ∧ i < xs.length ∧ i < ys.length
  yld := fun i H v H' => ∃ T x y, v = .ref T ∧ H T = none ∧ H' = upd H T (.tup [x, y]) ∧ xs[i]? = some x ∧ ys[i]? = some y
  stop := fun i H => SqL K H a xs ∧ SqT K H b ys ∧ i ≤ xs.length ∧ i ≤ ys.length ∧ (i = xs.length ∨ i = ys.length)
theorem off_ne (n : Nat) {i j : Nat} (h : i ≠ j) : n + i ≠ n + j := by omega
theorem old_ne {n a : Nat} (h : a < n) (i : Nat) : n + i ≠ a := by omega
theorem sep_mix {a b : Addr} (n : Nat) (ha : Nat.lt a n) (hb : Nat.lt b n) : ZipSep2 (n + 4) (n + 2) (n + 3) n (n + 1) [n, a] [n + 1, b] where
  TIz := off_ne n (by decide)
  TOz := off_ne n (by decide)
  TITO := off_ne n (by decide)
  TIi1 := off_ne n (j := 0) (by decide)
  mem1 := List.mem_cons_self ..
  zf1 := fun z => (List.mem_cons.mp z).elim (off_ne n (j := 0) (by decide)) fun z => old_ne ha 4 (List.mem_singleton.mp z)
  Tf1 := fun z => (List.mem_cons.mp z).elim (off_ne n (j := 0) (by decide)) fun z => old_ne ha 3 (List.mem_singleton.mp z)
  TIi2 := off_ne n (by decide)
  mem2 := List.mem_cons_self ..
  zf2 := fun z => (List.mem_cons.mp z).elim (off_ne n (by decide)) fun z => old_ne hb 4 (List.mem_singleton.mp z)
  Tf2 := fun z => (List.mem_cons.mp z).elim (off_ne n (by decide)) fun z => old_ne hb 3 (List.mem_singleton.mp z)
  sep1_2 := fun z => (List.mem_cons.mp z).elim (off_ne n (i := 0) (by decide)) fun z => old_ne hb 0 (List.mem_singleton.mp z)
  sep2_1 := fun z => (List.mem_cons.mp z).elim (off_ne n (j := 0) (by decide)) fun z => old_ne ha 1 (List.mem_singleton.mp z)
theorem turn_zipM {P : Program} {w : World} {K : PySem.W.Frag} {elts : List Expr} {kk : Nat} {tpos : Pos} {a b z TI TO i1 i2 : Addr} {xs ys : List V} (S : ZipSep2 z TI TO i1 i2 [i1, a] [i2, b]) (na : a ≠ i1) (nb : b ≠ i2) :
    Turn P w K (.Tuple elts kk tpos) (ItzM K a b xs ys) [z, TI, TO, i1, i2] z (fun i h => IsZip h z TI TO .none ∧ IsTupOf2 h TI (.ref i1) (.ref i2) ∧ (∃ x y, IsTupOf2 h TO x y) ∧ h.IsListIter i1 a i ∧ h.IsTupleIter i2 b i) where
  mem := List.mem_cons_self ..
  obj := fun i h st c hc => by
    obtain ⟨sz, sI, ⟨x, y, sO⟩, ⟨o1, e1, _, d1⟩, o2, e2, _, d2⟩ := st
    have five : c = z ∨ c = TI ∨ c = TO ∨ c = i1 ∨ c = i2 := by simpa using hc
    rcases five with rfl | rfl | rfl | rfl | rfl
    · exact ⟨_, sz, fun _ no => nomatch no⟩
    · exact ⟨_, sI, fun _ no => nomatch no⟩
    · exact ⟨_, sO, fun _ no => nomatch no⟩
    · exact ⟨o1, e1, fun _ no => by rw [d1] at no; cases no⟩
    · exact ⟨o2, e2, fun _ no => by rw [d2] at no; cases no⟩
  keep := fun i h h' ⟨sz, sI, ⟨x, y, sO⟩, s1, s2⟩ up =>
    ⟨up z (by simp) _ sz, up TI (by simp) _ sI, ⟨x, y, up TO (by simp) _ sO⟩, s1.at fun o q => up i1 (by simp) o q, s2.at fun o q => up i2 (by simp) o q⟩
  item := by
    intro X eP ew eK calm i pins s σ H E J foot st go
    subst eP ew eK
    obtain ⟨sz, sI, ⟨x0, y0, sO⟩, s1, s2⟩ := st
    obtain ⟨qx, qy, lx, ly⟩ := go
    obtain ⟨us, rx, px, _⟩ := J.list qx
    obtain ⟨vs, ry, py, _⟩ := J.tuple qy
    have hh : X.A.in1.handled = none := J.ok.hd calm
    have lu : i < us.toArray.size := by rw [List.size_toArray, ← rx.length]; exact lx
    have lv : i < vs.toArray.size := by rw [List.size_toArray, ← ry.length]; exact ly
    have zlt : z < s.heap.objs.size := Heap.lt_size sz
    refine wpAny_pyNext_zipD2_item S (Draws.list hh i1 a na us.toArray) (Draws.tuple hh i2 b nb vs.toArray) sz sI sO ⟨s1, px.isList⟩ ⟨s2, py⟩ lu lv fun u v h' tk hu hv zz oo t1 t2 pr _ same => ?_
    refine ⟨_, rfl, wpAny_letOwnedTupleGo_zip (s := { s with heap := h', toks := tk }) zz fun h2 z2 sb => ?_⟩
    have gx : xs[i]? = some xs[i] := List.getElem?_eq_getElem lx
    have gy : ys[i]? = some ys[i] := List.getElem?_eq_getElem ly
    obtain ⟨u', hu', ru⟩ := rx.get gx
    obtain ⟨v', hv', rv⟩ := ry.get gy
    have hu2 : us[i]? = some u := by simpa using hu
    have hv2 : vs[i]? = some v := by simpa using hv
    rw [hu2] at hu'
    rw [hv2] at hv'
    cases hu'
    cases hv'
    have pr2 : h2.get? s.heap.objs.size = some { cls := .type "tuple", data := .seq #[u, v] } := (sb.2 _ (Nat.ne_of_gt zlt)).trans pr
    have fits : ObjOk X.prog X.w (upd H s.heap.objs.size (.tup [xs[i], ys[i]])) h2 s.heap.objs.size (.tup [xs[i], ys[i]]) :=
      ⟨(by show 2 ≤ sizeLine; decide), [u, v], .cons ru (.cons rv .nil), _, pr2, rfl, _, rfl⟩
    have J2 : Inv X pins σ (upd H s.heap.objs.size (.tup [xs[i], ys[i]])) { s with heap := h2, toks := tk } :=
      J.turnedNew (t' := tk) (ch := [z, TI, TO, i1, i2]) (fun c o out q => (sb.2 c fun e => out (by simp [e])).trans (same c o (fun e => out (by simp [e])) (fun e => out (by simp [e])) (fun e => out (by simp [e])) (fun e => out (by simp [e])) q)) foot (Nat.le_refl _) fits
    refine ⟨.ref s.heap.objs.size, _, J2, rfl, ⟨_, xs[i], ys[i], rfl, J.hok.fresh (Nat.le_refl _), rfl, gx, gy⟩, ⟨z2, ?_, ⟨u, v, ?_⟩, ?_, ?_⟩, fun c hc => ?_⟩
    · exact (sb.2 _ S.TIz).trans (same _ _ S.TIz S.TITO S.TIi1 S.TIi2 sI)
    · exact (sb.2 _ S.TOz).trans oo
    · exact t1.1.at fun o q => (sb.2 _ S.zi1.symm).trans q
    · exact t2.1.at fun o q => (sb.2 _ S.zi2.symm).trans q
    · have five : c = z ∨ c = TI ∨ c = TO ∨ c = i1 ∨ c = i2 := by simpa using hc
      have clt : c < s.heap.objs.size := by
        rcases five with rfl | rfl | rfl | rfl | rfl
        · exact zlt
        · exact Heap.lt_size sI
        · exact Heap.lt_size sO
        · exact Heap.lt_size s1.choose_spec.1
        · exact Heap.lt_size s2.choose_spec.1
      rw [upd_ne (Nat.ne_of_lt clt)]
      exact (foot c hc).1
  done := by
    intro X eP ew eK calm i pins s σ H E J foot st stop
    subst eP ew eK
    obtain ⟨sz, sI, ⟨x0, y0, sO⟩, s1, s2⟩ := st
    obtain ⟨qx, qy, lx, ly, fin⟩ := stop
    obtain ⟨us, rx, px, _⟩ := J.list qx
    obtain ⟨vs, ry, py, _⟩ := J.tuple qy
    have hh : X.A.in1.handled = none := J.ok.hd calm
    have nu : us.toArray.size = xs.length := by rw [List.size_toArray, ← rx.length]
    have nv : vs.toArray.size = ys.length := by rw [List.size_toArray, ← ry.length]
    refine wpAny_pyNext_zipD2_end S (Draws.list hh i1 a na us.toArray) (Draws.tuple hh i2 b nb vs.toArray) sz sI sO ⟨s1, px.isList⟩ ⟨s2, py⟩ (by rw [nu]; exact lx) (by rw [nv]; exact ly) (by rw [nu, nv]; exact fin) fun h' tk same => ?_
    exact ⟨rfl, J.turnedL (t' := tk) (ch := [z, TI, TO, i1, i2]) (fun c o out q => same c o (fun e => out (by simp [e])) (fun e => out (by simp [e])) (fun e => out (by simp [e])) (fun e => out (by simp [e])) q) foot⟩
  self := fun _ _ _ _ _ st q => wpAny_pyIter_zip st.1 q
def iZipM (K : PySem.W.Frag) (ta : TA) : TI := fun σ H R => ta σ H fun vs H1 => ∃ a b xs ys, vs = [.ref a, .ref b] ∧ SqL K H1 a xs ∧ SqT K H1 b ys ∧ R (ItzM K a b xs ys) H1
theorem pi_zipM {X : Cx} {e e2 : Expr} {ta : TA} {p pos tpos : Pos} {elts : List Expr} {kk : Nat} (glo : Gl X "zip") (own : X.mg "zip" = none) (args : PA X [e, e2] ta)
    (st1 : starEach [e, e2] X.env = (false, eval e X.env) :: starEach [e2] X.env := by rfl) (st2 : (backTo pos (starEach [e2] X.env)).any (·.1) = false := by rfl) :
    PI X (.Tuple elts kk tpos) (.Call (.Name "zip" p) [e, e2] [] pos) (iZipM X.K ta) := by
  refine ⟨fun pins s σ H R J h => Call_ (ld_blt J glo own PyProof.Rows.boot_zip (PyProof.Rows.callWith_type1 (thn (args.run pos pins s σ H _ J h) fun us s1 ⟨vs, H1, J1, r1, a, b, xs, ys, ev, qx, qy, q⟩ => ?_) st1 st2))⟩
  subst ev
  cases r1 with
  | cons ra rest =>
    cases rest with
    | cons rb none' =>
      cases none'
      cases ra
      cases rb
      obtain ⟨its, _, px, _⟩ := J1.list qx
      obtain ⟨its2, _, py, _⟩ := J1.tuple qy
      have la : a < s1.heap.objs.size := px.lt
      have lb : b < s1.heap.objs.size := Heap.lt_size py.choose_spec.1
      refine zip_begins2 (begins_list a its.toArray) (begins_tuple b its2.toArray) px.isList py fun h' zz tI tO o1 o2 _ up => wpAny_pyIter_zip zz ?_
      have J2 : Inv X pins σ H1 { s1 with heap := h' } := J1.kept (t' := s1.toks) up
      refine ⟨s1.heap.objs.size + 4, [s1.heap.objs.size + 4, s1.heap.objs.size + 2, s1.heap.objs.size + 3, s1.heap.objs.size, s1.heap.objs.size + 1], _, _, H1, rfl, J2, turn_zipM (sep_mix _ la lb) (Nat.ne_of_lt la) (Nat.ne_of_lt (Nat.lt_succ_of_lt lb)), ⟨zz, tI, ⟨_, _, tO⟩, ⟨_, o1, rfl, rfl⟩, _, o2, rfl, rfl⟩, fun c hc => ?_, q⟩
      have old : s1.heap.objs.size ≤ c := by
        have five : c = s1.heap.objs.size + 4 ∨ c = s1.heap.objs.size + 2 ∨ c = s1.heap.objs.size + 3 ∨ c = s1.heap.objs.size ∨ c = s1.heap.objs.size + 1 := by simpa using hc
        rcases five with rfl | rfl | rfl | rfl | rfl
        · exact Nat.le_add_right _ 4
        · exact Nat.le_add_right _ 2
        · exact Nat.le_add_right _ 3
        · exact Nat.le_refl _
        · exact Nat.le_add_right _ 1
      exact J1.fpOk old (J1.hok.fresh old)
/-- both of one length -/
theorem walk_zipM {K : PySem.W.Frag} {a b : Addr} {xs ys : List V} (hl : xs.length = ys.length) : Walk (ItzM K a b xs ys) xs.length (fun H => SqL K H a xs ∧ SqT K H b ys) (YPair (fun i => xs[i]?) (fun i => ys[i]?)) :=
  ⟨fun i H hi q => ⟨q.1, q.2, hi, by omega⟩, fun H q => ⟨q.1, q.2, Nat.le_refl _, by omega, .inl rfl⟩, fun _ _ _ _ _ _ y => y⟩
section
variable {X : Cx}
/-- y = {k: v for ..}, y a local -/
theorem ps_setDc {i : Nat} {y : Str} {py : Pos} {kx vx tg iter : Expr} {ifs : List Expr} {scope : Scope} {own : List (Str × Nat)} {pos spos : Pos} {wi : TI} {g : TG} {tt : TT} {tk tv : TE} (calm : X.calm = true) (nd : X.N.Nodup) (slot : X.N[i]? = some y) (here : X.env.scope.names.lookup y = some .local)
    (sw : swapsWith (.DictComp kx vx [⟨tg, iter, ifs, 0⟩] scope pos) (some (.Name y py)) spos.line X.env = pure true) (hi : PI X tg iter wi) (blk : BlkOk X.N X.env.scope scope own)
    (hg : ∀ (s : Shared) (H : Hp) (C : Addr) (cl : List (PySem.Str × Addr)) (fp : List Addr), PG (X.blk s H scope (compEnvC scope cl C X.env) fp) tg g) (ht : ∀ (s : Shared) (H : Hp) (C : Addr) (cl : List (PySem.Str × Addr)) (fp : List Addr), PTs (X.blk s H scope (compEnvC scope cl C X.env) fp) ifs tt)
    (hk : ∀ (s : Shared) (H : Hp) (C : Addr) (cl : List (PySem.Str × Addr)) (fp : List Addr), PE (X.blk s H scope (compEnvC scope cl C X.env) fp) kx tk)
    (hv : ∀ (s : Shared) (H : Hp) (C : Addr) (cl : List (PySem.Str × Addr)) (fp : List Addr), PE (X.blk s H scope (compEnvC scope cl C X.env) fp) vx tv) (fold : ∀ x, foldedSetIterable iter X.env x = pure x := by intro _; rfl) :
    PS X (.Assign [.Name y py] (.DictComp kx vx [⟨tg, iter, ifs, 0⟩] scope pos) spos) (tAsg (tDc wi g tt tk tv (own.map (·.2))) (gName i)) := by
  refine ⟨fun pins s σ H D J h => ?_⟩
  rw [exec_Assign_Name_used _ _ _ _ sw]
  refine wpAny_bind (wpAny_standAt (wpAny_bind ?_))
  have want : tDc wi g tt tk tv (own.map (·.2)) σ H (fun x H1 => gName i x σ H1 D.nx) := h
  show wpAny _ X.A (do let _ ← comprehension (.DictComp kx vx [⟨tg, iter, ifs, 0⟩] scope pos) scope X.env (firstIterPos [⟨tg, iter, ifs, 0⟩] pos) newDict false (eval iter X.env) (some (assign (.Name y py) X.env))) _ _ s
  refine wpAny_bind (thn (dc_core (Qf := fun _ s' => SP X pins D .next s') calm nd J hi blk hg ht hk hv fold want fun L C s' m H' J' q ns fp => ?_) fun _ s' hq => wpAny_pure (wpAny_pure hq))
  obtain ⟨f0, f1, _, f3, f4, f5⟩ := fp
  show wpAny _ _ (assign (.Name y py) X.env (.ref L)) _ _ _
  refine wpAny_assign_Name (store_ok2 (v := V.ref L) J' nd slot (.inl here) rfl (fun s2 J2 ⟨a, sb, ha⟩ => ?_) (.inr here))
  have apart : C ≠ a := ha.elim (fun z => by rw [z]; exact f1) fun z e => f4 y a z e.symm
  exact ⟨m, ns.sameBut sb apart, fun h3 sb3 => ⟨_, H', J2.turned (t' := s2.toks) (fun b o hb e => (sb3.2 b hb).trans e) f0 f1 f3 f4 f5, q⟩⟩
theorem sw_dict {kx vx : Expr} {gs : List Comprehension} {scope : Scope} {pos py : Pos} {y : Str} {l : Nat} {env : Env} (fn : env.scope.kind = .function) (here : env.scope.names.lookup y = some .local) (line : (py.line == pos.line) = true)
    (off : (scope.names.any fun (n, k) => n == y && (k == .local || k == .cell)) = false) : swapsWith (.DictComp kx vx gs scope pos) (some (.Name y py)) l env = pure true := by
  have k1 : env.kindOf y = some .local := here
  have k2 : env.blockKind = .function := by unfold Env.blockKind; rw [fn]; rfl
  unfold swapsWith
  simp only [k2, k1, off, Expr.pos, line]
  rfl
/-- such a comprehension over a walk -/
theorem dc_it {J : It} {n : Nat} {G : Hp → Prop} {Y : Nat → Hp → V → Hp → Prop} (wk : Walk J n G Y) {g : TG} {tt : TT} {tk tv : TE} {vs : List Nat} {σ : L2.St} {H1 : Hp} {D : Addr} {Qd : Hp → Prop} (Pv : Nat → Hp → Prop) (h0 : Pv 0 (upd H1 D (.dK []))) (hG : ∀ i H, i ≤ n → Pv i H → G H)
    (hs : ∀ i x H H', i < n → Pv i H → Y i H x H' → g x (wipe σ vs) H' fun σ2 H2 => wipe σ2 vs = wipe σ vs ∧ tt σ2 H2 fun b H3 =>
      if b = true then tk σ2 H3 fun y H4 => tv σ2 H4 fun z H5 => ∃ kvs k, y = kV k ∧ H5 D = some (.dK kvs) ∧ kvs.length < sizeLine ∧ Pv (i + 1) (upd H5 D (.dK (putK kvs k z))) else Pv (i + 1) H3) (hd : ∀ H, Pv n H → Qd H) :
    ∃ W : Nat → Nat → Hp → Prop, (∃ m, W 0 m (upd H1 D (.dK []))) ∧ ∀ i m H, W i m H →
      (J.stop i H ∧ Qd H) ∨ (J.go i H ∧ ∃ Nx : Hp → Prop, (∀ H', Nx H' → ∃ m', m' < m ∧ W (i + 1) m' H') ∧ ∀ x H', J.yld i H x H' → g x (wipe σ vs) H' fun σ2 H2 => wipe σ2 vs = wipe σ vs ∧ tt σ2 H2 fun b H3 =>
        if b = true then tk σ2 H3 fun y H4 => tv σ2 H4 fun z H5 => ∃ kvs k, y = kV k ∧ H5 D = some (.dK kvs) ∧ kvs.length < sizeLine ∧ Nx (upd H5 D (.dK (putK kvs k z))) else Nx H3) := by
  refine ⟨fun i left H => i + left = n ∧ Pv i H, ⟨n, Nat.zero_add n, h0⟩, fun i left H ⟨sum, pv⟩ => ?_⟩
  have good := hG i H (by omega) pv
  cases left with
  | zero =>
    have last : i = n := sum
    subst last
    exact .inl ⟨wk.stops H good, hd H pv⟩
  | succ left =>
    have below : i < n := by omega
    exact .inr ⟨wk.goes i H below good, Pv (i + 1), fun H' pv' => ⟨left, Nat.lt_succ_self _, by omega, pv'⟩, fun x H' y => hs i x H H' below pv (wk.yields i H x H' below good y)⟩
/-! lists of data and of dicts -/
/-- one and the same data, or equal by EqV -/
def EqW (K : PySem.W.Frag) (H : Hp) (n : Nat) (x y : V) : Prop := (∃ d, Dp K H x d ∧ Dp K H y d ∧ d.canLay0 = true ∧ d.depth ≤ 60) ∨ EqV K H n x y
theorem eqW_run {pins : List (Addr × Obj)} {σ : L2.St} {H : Hp} {s : Shared} (J : Inv X pins σ H s) (n : Nat) (A : Around) (hn : n ≤ 60) (hu : A.units + 60 < cLine) (x y : V) (v u : Value) (h : EqW X.K H n x y) (rx : RelV x v) (ry : RelV y u) : SeqAt.EqP X.prog X.w A s v u true := by
  rcases h with ⟨d, dx, dy, can, dep⟩ | h
  · obtain ⟨as, ra⟩ := Dp.reads J d x v dx rx
    obtain ⟨bs, rb⟩ := Dp.reads J d y u dy ry
    have e := SeqAt.eqAt_reads d d A s v u as bs ra rb can can (by rw [Nat.min_self]; omega)
    rw [SeqAt.eqv_refl d can] at e
    exact e.eqP
  · exact eqV_run J n A (by omega) x y v u h rx ry
def rNeW (K : PySem.W.Frag) : R2 := fun x y H Q => ∃ a b xs ys n, x = .ref a ∧ y = .ref b ∧ SqL K H a xs ∧ SqL K H b ys ∧ n ≤ 60 ∧ Paired (EqW K H n) xs ys ∧ Q (.bl false) H
theorem op_neW (hu : X.A.units + 64 < cLine) : OpR X (compareOp .NotEq) (rNeW X.K) := by
  intro pins s σ H x y v u Q J rx ry h
  obtain ⟨a, b, xs, ys, n, rfl, rfl, ha, hb, hn, hp, q⟩ := h
  cases (show v = Value.ref a from rx)
  cases (show u = Value.ref b from ry)
  obtain ⟨us, r1, p1, _⟩ := J.list ha
  obtain ⟨ws, r2, p2, _⟩ := J.list hb
  have size : us.toArray.size = ws.toArray.size := by
    rw [List.size_toArray, List.size_toArray, ← r1.length, ← r2.length]
    exact Paired.length hp
  refine SeqAt.my_rcNe p1.isList p2.isList size (by omega) (fun j h1 h2 => ?_) _ _ ⟨.bl false, H, J, rfl, q⟩
  have k := items_run (eqW_run J n X.A.in1 (by omega) (by show X.A.units + 1 + 60 < cLine; omega)) hp r1 r2 j (by simpa using h1) (by simpa using h2)
  simpa using k
end
end RM

namespace RM
open PySem PySem.Spec PyProof.Rows L2
/-- the second clause's loop -/
def In2 (J1 : It) (g1 : TG) (tt1 : TT) (te : TE) (vs1 : List Nat) (D : Addr) (σ2 : L2.St) (H4 : Hp) (Nx : Hp → Prop) : Prop :=
  ∃ W1 : Nat → Nat → Hp → Prop, (∃ m, W1 0 m H4) ∧ ∀ j k H, W1 j k H →
      (J1.stop j H ∧ Nx H) ∨ (J1.go j H ∧ ∃ Nx1 : Hp → Prop, (∀ H', Nx1 H' → ∃ k', k' < k ∧ W1 (j + 1) k' H') ∧ ∀ x H', J1.yld j H x H' → g1 x (wipe σ2 vs1) H' fun σ3 H5 => wipe σ3 vs1 = wipe σ2 vs1 ∧ tt1 σ3 H5 fun b H6 =>
        if b = true then te σ3 H6 fun y H7 => ∃ acc, H7 D = some (.lst acc) ∧ acc.length < sizeLine ∧ Nx1 (upd H7 D (.lst (acc ++ [y]))) else Nx1 H6)
theorem in2_it {J : It} {n : Nat} {G : Hp → Prop} {Y : Nat → Hp → V → Hp → Prop} (wk : Walk J n G Y) {g : TG} {tt : TT} {te : TE} {vs : List Nat} {σ : L2.St} {H1 : Hp} {D : Addr} {Nx : Hp → Prop} (Pv : Nat → Hp → Prop) (h0 : Pv 0 H1) (hG : ∀ i H, i ≤ n → Pv i H → G H)
    (hs : ∀ i x H H', i < n → Pv i H → Y i H x H' → g x (wipe σ vs) H' fun σ2 H2 => wipe σ2 vs = wipe σ vs ∧ tt σ2 H2 fun b H3 =>
      if b = true then te σ2 H3 fun y H4 => ∃ acc, H4 D = some (.lst acc) ∧ acc.length < sizeLine ∧ Pv (i + 1) (upd H4 D (.lst (acc ++ [y]))) else Pv (i + 1) H3) (hd : ∀ H, Pv n H → Nx H) : In2 J g tt te vs D σ H1 Nx := by
  refine ⟨fun i left H => i + left = n ∧ Pv i H, ⟨n, Nat.zero_add n, h0⟩, fun i left H ⟨sum, pv⟩ => ?_⟩
  have good := hG i H (by omega) pv
  cases left with
  | zero =>
    have last : i = n := sum
    subst last
    exact .inl ⟨wk.stops H good, hd H pv⟩
  | succ left =>
    have below : i < n := by omega
    exact .inr ⟨wk.goes i H below good, Pv (i + 1), fun H' pv' => ⟨left, Nat.lt_succ_self _, by omega, pv'⟩, fun x H' y => hs i x H H' below pv (wk.yields i H x H' below good y)⟩
theorem lc2_it {J : It} {n : Nat} {G : Hp → Prop} {Y : Nat → Hp → V → Hp → Prop} (wk : Walk J n G Y) {g g1 : TG} {tt tt1 : TT} {wi1 : TI} {te : TE} {vs vs1 : List Nat} {σ : L2.St} {H1 : Hp} {D : Addr} {Qd : Hp → Prop} (Pv : Nat → Hp → Prop) (h0 : Pv 0 (upd H1 D (.lst []))) (hG : ∀ i H, i ≤ n → Pv i H → G H)
    (hs : ∀ i x H H', i < n → Pv i H → Y i H x H' → g x (wipe σ vs) H' fun σ2 H2 => wipe σ2 vs = wipe σ vs ∧ tt σ2 H2 fun b H3 => if b = true then wi1 σ2 H3 fun J1 H4 => In2 J1 g1 tt1 te vs1 D σ2 H4 (Pv (i + 1)) else Pv (i + 1) H3) (hd : ∀ H, Pv n H → Qd H) :
    ∃ W : Nat → Nat → Hp → Prop, (∃ m, W 0 m (upd H1 D (.lst []))) ∧ ∀ i m H, W i m H →
      (J.stop i H ∧ Qd H) ∨ (J.go i H ∧ ∃ Nx : Hp → Prop, (∀ H', Nx H' → ∃ m', m' < m ∧ W (i + 1) m' H') ∧ ∀ x H', J.yld i H x H' → g x (wipe σ vs) H' fun σ2 H2 => wipe σ2 vs = wipe σ vs ∧ tt σ2 H2 fun b H3 => if b = true then wi1 σ2 H3 fun J1 H4 => In2 J1 g1 tt1 te vs1 D σ2 H4 Nx else Nx H3) := by
  refine ⟨fun i left H => i + left = n ∧ Pv i H, ⟨n, Nat.zero_add n, h0⟩, fun i left H ⟨sum, pv⟩ => ?_⟩
  have good := hG i H (by omega) pv
  cases left with
  | zero =>
    have last : i = n := sum
    subst last
    exact .inl ⟨wk.stops H good, hd H pv⟩
  | succ left =>
    have below : i < n := by omega
    exact .inr ⟨wk.goes i H below good, Pv (i + 1), fun H' pv' => ⟨left, Nat.lt_succ_self _, by omega, pv'⟩, fun x H' y => hs i x H H' below pv (wk.yields i H x H' below good y)⟩
end RM

namespace RM
open PySem PySem.Spec PyProof.Rows L2
section
variable {X : Cx}
/-- keys of the one, each with the same data in the other -/
def SameD (K : PySem.W.Frag) (H : Hp) (ks ls : List (Key × V)) : Prop := ∀ p ∈ ks, ∃ u d, valV ls p.1 = some u ∧ Dp K H p.2 d ∧ Dp K H u d ∧ d.canLay0 = true ∧ d.depth ≤ 60
theorem hits_data {pins : List (Addr × Obj)} {σ : L2.St} {H : Hp} {s : Shared} (J : Inv X pins σ H s) {A : Around} (hu : A.units + 60 < cLine) {ls : List (Key × V)} {vb : List (Key × Value)} (rb : KV ls vb) {ks : List (Key × V)} {va : List (Key × Value)} (ra : KV ks va) : SameD X.K H ks ls → PySem.W.KeqHits A s vb va true := by
  unfold KV at ra
  induction ra with
  | nil => exact fun _ => .nil
  | @cons p q ps qs h t ih =>
    intro hp
    obtain ⟨k1, k2⟩ := h
    obtain ⟨u, d, e, d1, d2, can, dep⟩ := hp p List.mem_cons_self
    have found : RelO (some u) (valueAt vb p.1) := by rw [← e]; exact rb.val p.1
    obtain ⟨y, hy, ry⟩ := found.some_of
    obtain ⟨key, v⟩ := q
    have k1' : p.1 = key := k1
    rw [k1'] at hy
    obtain ⟨as, r1⟩ := Dp.reads J d p.2 v d1 k2
    obtain ⟨bs, r2⟩ := Dp.reads J d u y d2 ry
    have eq := SeqAt.eqAt_reads d d A s v y as bs r1 r2 can can (by rw [Nat.min_self]; omega)
    rw [SeqAt.eqv_refl d can] at eq
    show PySem.W.KeqHits A s vb ((key, v) :: qs) (true && true)
    exact .hit hy eq (ih fun p' hm => hp p' (List.mem_cons_of_mem _ hm))
def rNeDD (K : PySem.W.Frag) : R2 := fun x y H Q => ((x = .non ∧ y = .non) ∨ ∃ a b ks ls, x = .ref a ∧ y = .ref b ∧ H a = some (.dK ks) ∧ H b = some (.dK ls) ∧ ks.length = ls.length ∧ SameD K H ks ls) ∧ Q (.bl false) H
theorem op_neDD (hu : X.A.units + 64 < cLine) : OpR X (compareOp .NotEq) (rNeDD X.K) := by
  intro pins s σ H x y v u Q J rx ry h
  obtain ⟨⟨rfl, rfl⟩ | ⟨a, b, ks, ls, rfl, rfl, ea, eb, hlen, hp⟩, q⟩ := h
  · exact op_ne pins s σ H .non .non v u Q J rx ry ⟨rfl, q⟩
  · obtain rfl : v = Value.ref a := rx
    obtain rfl : u = Value.ref b := ry
    obtain ⟨_, ya, va, ra, da⟩ := (show ObjOk X.prog X.w H s.heap a (.dK ks) from J.hok a _ ea)
    obtain ⟨_, yb, vb, rb, db⟩ := (show ObjOk X.prog X.w H s.heap b (.dK ls) from J.hok b _ eb)
    have size : va.length = vb.length := by rw [← ra.length, ← rb.length]; exact hlen
    refine PySem.W.keq_ne (knd := mixKind X.prog X.w) (r := true) ya yb da db (by omega) (fun _ => hits_data J (by show X.A.units + 1 + 60 < cLine; omega) rb ra hp) ?_
    refine ⟨.bl false, H, J, ?_, q⟩
    show Value.bool _ = Value.bool false
    rw [size]
    simp
theorem cr_sortedK {K : PySem.W.Frag} (e : X.K = K) : CallR X (.builtin "sorted") (rSortedS K) := by
  subst e
  exact cr_sortedS
theorem op_inDK {K : PySem.W.Frag} (e : X.K = K) (hu : X.A.units + 65 < cLine) : OpR X (compareOp .In) (rInD K) := by
  subst e
  exact op_inD hu
theorem op_catK {K : PySem.W.Frag} (e : X.K = K) {r : PySem.W.Frag → R2} {f : Value → Value → Sem Value} (h : OpR X f (r X.K)) : OpR X f (r K) := by
  subst e
  exact h
end
end RM

/-! a generator expression handed to whatever takes its items one by one: the taker's own state (a) is pinned (Pn), D tells what it does with an item -/
namespace GY
open PySem PySem.Spec PyProof.Rows L2 GenW GX
section
variable {Y : Cx} {α : Type}
def RGa (Y : Cx) (Pn : α → List (Addr × Obj) → Prop) (T : α → Hp → Prop) : GenEnd := fun n s₀ r s₁ => r = .ok .next ∧ ∃ a pn σ H, Pn a pn ∧ (∀ p ∈ pn, s₀.heap.get? p.1 = some p.2) ∧ Inv Y pn σ H s₁ ∧ T a H
def YGa (Y : Cx) (fp : List Addr) (Pn : α → List (Addr × Obj) → Prop) (D : α → V → Hp → (α → Prop) → Prop) : Protocol := fun n s₀ v s kap =>
  ∃ a pn y σ H, Pn a pn ∧ (∀ p ∈ pn, s₀.heap.get? p.1 = some p.2) ∧ RelV y v ∧ Inv Y pn σ H s ∧ D a y H fun a' => ∀ pn' s', Pn a' pn' → Inv Y pn' σ H s' → (∀ b ∈ fp, ∀ o, s.heap.get? b = some o → s'.heap.get? b = some o) → kap (.send .none) s'
/-- what a turn of the walk wants -/
def TurnG (J : It) (g : TG) (tt : TT) (te : TE) (vs : List Nat) (σw : L2.St) (W : Nat → Nat → α → Hp → Prop) (T : α → Hp → Prop) (D : α → V → Hp → (α → Prop) → Prop) : Prop :=
  ∀ i m a H, W i m a H → (J.stop i H ∧ T a H) ∨ (J.go i H ∧ ∃ Nx : α → Hp → Prop, (∀ a' H', Nx a' H' → ∃ m', m' < m ∧ W (i + 1) m' a' H') ∧ ∀ x H', J.yld i H x H' → g x σw H' fun σ2 H2 => wipe σ2 vs = σw ∧ tt σ2 H2 fun b H3 =>
    if b = true then te σ2 H3 fun y H4 => D a y H4 (fun a' => Nx a' H4) else Nx a H3)
theorem seg_loopA {A : Around} {elt tg iter : Expr} {ifs : List Expr} {scope : Scope} {pos : Pos} {it : Addr} {fp : List Addr} {tn : Nat → Heap → Prop} {J : It} {g : TG} {tt : TT} {te : TE} {vs : List Nat} {σw : L2.St} {Pn : α → List (Addr × Obj) → Prop} {W : Nat → Nat → α → Hp → Prop} {T : α → Hp → Prop} {D : α → V → Hp → (α → Prop) → Prop}
    (hov : A.over (.compLoop (.GeneratorExp elt [⟨tg, iter, ifs, 0⟩] scope pos) 0 (.ref it) .none Y.env) [] = Y.A) (hxe : Y.xe = fun _ _ => False) (hcalm : Y.calm = true) (hco : Y.env.scope.isCoroutine = false)
    (Tn : Turn Y.prog Y.w Y.K tg J fp it tn) (pg : PG Y tg g) (pt : PTs Y ifs tt) (pe : PE Y elt te) (hex : ∀ b ∈ fp, b ∈ Y.ex) (hpn : Y.pn = []) (hpins : ∀ a pn, Pn a pn → ∀ p ∈ pn, p.1 ∉ fp)
    (mono : ∀ a y H (k k' : α → Prop), (∀ a', k a' → k' a') → D a y H k → D a y H k') (turn : TurnG J g tt te vs σw W T D) :
    ∀ (m n i : Nat) (a : α) (pn : List (Addr × Obj)) (s₀ s : Shared) (H : Hp), m < n → Pn a pn → (∀ p ∈ pn, s₀.heap.get? p.1 = some p.2) → Inv Y pn σw H s → tn i s.heap → (∀ b ∈ fp, H b = none) → W i m a H →
      Seg (model Y.prog Y.w) A (RGa Y Pn T) (YGa Y fp Pn D) n s₀ (.compLoop (.GeneratorExp elt [⟨tg, iter, ifs, 0⟩] scope pos) 0 (.ref it) .none Y.env)
        ((model Y.prog Y.w).den (.compLoop (.GeneratorExp elt [⟨tg, iter, ifs, 0⟩] scope pos) 0 (.ref it) .none Y.env)) [] s := by
  have stat : ∀ {pn : List (Addr × Obj)} {σ' : L2.St} {H' : Hp} {s' : Shared}, (∀ p ∈ pn, p.1 ∉ fp) → Inv Y pn σ' H' s' → (∀ b ∈ fp, H' b = none) → ∀ b ∈ fp, FpOk Y pn H' b := fun {pn σ' H' s'} hpins I' hn b hb =>
    ⟨hn b hb, (I'.ok.exf b (hex b hb)).1, I'.ok.exfs b (hex b hb), .inl (hex b hb), fun x c e => (I'.ok.exf b (hex b hb)).2 x c e, fun p hp => by
      rw [hpn] at hp
      exact fun z => hpins p (by simpa using hp) (by rw [z]; exact hb)⟩
  intro m
  induction m using Nat.strongRecOn with
  | ind m ih =>
    intro n i a pn s₀ s H hmn hPn hs0 I st nfp w
    have hpo := hpins a pn hPn
    show Seg _ A _ _ _ s₀ _ ((compTurn (.GeneratorExp elt [⟨tg, iter, ifs, 0⟩] scope pos) 0 (.ref it) .none Y.env).onRaise (leaving Y.env)) [] s
    rw [compTurn_gen, Sem.onRaise_eq_wrap]
    refine seg_bind_wrap (wpAny_standAt ?_)
    rcases turn i m a H w with ⟨stop, qq⟩ | ⟨go, Nx, hNx, step⟩
    · refine seg_bind_wrap ?_
      rw [hov]
      refine thnF (Tn.done Y rfl rfl rfl hcalm i pn s _ H (fun _ _ => False) I (stat hpo I nfp) st stop) fun r s1 ⟨hr, I1⟩ => ?_
      subst hr
      exact seg_end (.ok .next) ⟨rfl, _, _, _, _, hPn, hs0, I1, qq⟩
    · refine seg_bind_wrap ?_
      rw [hov]
      refine thnF (Tn.item Y rfl rfl rfl hcalm i pn s _ H (fun _ _ => False) I (stat hpo I nfp) st go) fun r s1 ⟨u, hr, h1⟩ => ?_
      subst hr
      refine seg_bind_wrap ?_
      rw [hov]
      refine thnF h1 fun _ s2 ⟨x, H2, I2, r2, y2, st2, n2⟩ => ?_
      have I2' := I2.pinned (stat hpo I2 n2) (Tn.obj _ _ st2)
      have no : ∀ {e : Value} {s' : Shared} {C : Prop}, Y.xe e s' → C := fun {e s' C} h => by
        rw [hxe] at h
        exact h.elim
      refine seg_bind_wrap ?_
      rw [hov]
      refine wpAny_mono (pg.run _ s2 _ H2 x u _ I2' r2 (step x H2 y2)) (fun _ s3 h3 => ?_) fun _ _ e => no e
      obtain ⟨σ3, H3, I3, hw3, q3⟩ := h3
      refine seg_bind_wrap ?_
      rw [hov]
      refine wpAny_mono (pt.run _ s3 σ3 H3 _ I3 q3) (fun b s4 h4 => ?_) fun _ _ e => no e
      obtain ⟨H4, I4, q4⟩ := h4
      -- what stands of the walk at the turn's end
      have kept : ∀ {s' : Shared} {H' : Hp}, Inv Y (pn ++ pinsAt fp s2.heap) σ3 H' s' → (∀ b ∈ fp, ∀ o, s2.heap.get? b = some o → s'.heap.get? b = some o) ∧ (∀ b ∈ fp, H' b = none) := fun {s' H'} I' => by
        have pin' : ∀ b ∈ fp, ∀ o, s2.heap.get? b = some o → s'.heap.get? b = some o ∧ H' b = none := fun b hb o e =>
          (I'.pin (b, o) (List.mem_append_right _ (List.mem_append_right _ (mem_pinsAt hb e)))).imp id And.left
        refine ⟨fun b hb o e => (pin' b hb o e).1, fun b hb => ?_⟩
        obtain ⟨o, e, _⟩ := Tn.obj _ _ st2 b hb
        exact (pin' b hb o e).2
      have weak : ∀ {s' : Shared} {H' : Hp} {pn' : List (Addr × Obj)}, Inv Y pn' σ3 H' s' → Inv Y pn' σw H' s' := fun {s' H' pn'} I' => by
        have hl : σw.length = σ3.length := by rw [← hw3, wipe_length]
        refine I'.weak hl (fun j v e => ?_)
        rw [← hw3] at e
        exact (wipe_some e).1
      cases b with
      | false =>
        simp only [Bool.false_eq_true, if_false] at q4 ⊢
        obtain ⟨m', hm, w'⟩ := hNx a H4 q4
        obtain ⟨k1, k2⟩ := kept I4
        exact seg_again rfl (ih m' hm n (i + 1) a pn s₀ s4 H4 (by omega) hPn hs0 (weak (I4.unpinned (pins := pn))) (Tn.keep _ _ _ st2 k1) k2 w')
      | true =>
        simp only [if_true] at q4 ⊢
        have hy : ∀ v, yieldOut Y.env v = yieldValue v := fun v => by simp only [yieldOut, hco, Bool.false_eq_true, if_false]
        simp only [hy]
        rw [Sem.bind_eq_wrap', Sem.bind_eq_wrap', Sem.wrap_wrap, Sem.wrap_wrap]
        refine seg_wrap ?_
        rw [hov]
        refine wpAny_mono (pe.run _ s4 σ3 H4 _ I4 q4) (fun v s5 h5 => ?_) fun _ _ e => no e
        obtain ⟨yv, H5, I5, r5, q5⟩ := h5
        obtain ⟨n', rfl⟩ : ∃ n', n = n' + 1 := ⟨n - 1, by omega⟩
        obtain ⟨k1, k2⟩ := kept I5
        refine seg_at (seg_yield rfl rfl rfl ⟨a, pn, yv, σ3, H5, hPn, hs0, r5, I5.unpinned (pins := pn), mono _ _ _ _ _ (fun a' nx pn' s' hPn' I' kb => ?_) q5⟩)
        obtain ⟨m', hm, w'⟩ := hNx a' H5 nx
        exact seg_again rfl (ih m' hm n' (i + 1) a' pn' _ _ H5 (by omega) hPn' (fun p hp => (I'.pin p (List.mem_append_right _ hp)).1) (weak I') (Tn.keep _ _ _ st2 fun b hb o e => kb b hb o (k1 b hb o e)) k2 w')
end
end GY

namespace GY
open PySem PySem.Spec PyProof.Rows L2 GenW GX
/-- a generator expression's generator, made and not yet woken -/
structure GenAt (X : Cx) (pins : List (Addr × Obj)) (σ : L2.St) (J : It) (g : TG) (tt : TT) (te : TE) (vs : List Nat) (fp : List Addr) (H3 : Hp) (ga gi : Nat) (Y : Cx) (go : Obj) (s5 : Shared) : Prop where
  prog : Y.prog = X.prog
  w : Y.w = X.w
  inv : Inv Y [(ga, go)] (wipe σ vs) H3 s5
  ypn : Y.pn = []
  isgen : ∀ h : Heap, h.get? ga = some go → h.IsGen ga gi
  gafp : ga ∉ fp
  fplt : ∀ b ∈ fp, b < s5.heap.objs.size
  back : ∀ pn σ' H' s', Inv Y pn σ' H' s' → Inv X pins σ H' s'
  goes : ∀ {α : Type} (Pn : α → List (Addr × Obj) → Prop) (T : α → Hp → Prop) (D : α → V → Hp → (α → Prop) → Prop) (W : Nat → Nat → α → Hp → Prop), (∀ a pn, Pn a pn → ∀ p ∈ pn, p.1 ∉ fp) → (∀ a y H (k k' : α → Prop), (∀ a', k a' → k' a') → D a y H k → D a y H k') → TurnG J g tt te vs (wipe σ vs) W T D →
    ∀ (m0 : Nat) (a0 : α) (pn0 : List (Addr × Obj)) (s6 : Shared), Pn a0 pn0 → Inv Y pn0 (wipe σ vs) H3 s6 → (∀ b ∈ fp, ∀ o, s5.heap.get? b = some o → s6.heap.get? b = some o) → s6.gens = s5.gens → W 0 m0 a0 H3 →
      ∃ gs, s6.gens[gi]? = some gs ∧ gs.Goes (model X.prog X.w) X.A.in1.in1 (RGa Y Pn T) (YGa Y fp Pn D) (m0 + 1) (.send .none) (s6.setGen gi .running)
section
variable {X : Cx}
theorem gen_made {c P : Addr} {elt tg iter : Expr} {ifs : List Expr} {scope : Scope} {own : List (Str × Nat)} {gpos : Pos} {wi : TI} {g : TG} {tt : TT} {te : TE} {k : Nat}
    (hr : Room k X.A) (TB : GxR.TabB X.base X.mg c P) (hcode : X.env.code = .ref c) (hc : X.calm = true) (hN : X.N.Nodup) (hi : PI X tg iter wi) (ok : BlkOk X.N X.env.scope scope own)
    (hco : scope.isCoroutine = false) (nc : ∀ y ∈ scope.names, y.2 ≠ .cell) (h0 : scope.names.lookup (".0" : Str) = some NameKind.local)
    (hg : ∀ (s : Shared) (H : Hp) (C : Addr) (cl : List (Str × Addr)) (code : Value) (fp : List Addr), PG (gcx X s H (genEnv scope cl C code builtinsNs X.env) fp) tg g)
    (ht : ∀ (s : Shared) (H : Hp) (C : Addr) (cl : List (Str × Addr)) (code : Value) (fp : List Addr), PTs (gcx X s H (genEnv scope cl C code builtinsNs X.env) fp) ifs tt)
    (he : ∀ (s : Shared) (H : Hp) (C : Addr) (cl : List (Str × Addr)) (code : Value) (fp : List Addr), PE (gcx X s H (genEnv scope cl C code builtinsNs X.env) fp) elt te)
    (hs : ∀ v, genFold iter X.env v = pure v)
    {pins : List (Addr × Obj)} {s : Shared} {σ : L2.St} {H : Hp} {Kt : It → Hp → Prop} (I : Inv X pins σ H s) (h : wi σ H fun J H1 => GxR.TabG H1 P ∧ ∀ H2, GxR.Tabbed P H1 H2 → Kt J H2)
    {Q : Value → Shared → Prop} (hq : ∀ (J : It) (fp : List Addr) (H3 : Hp) (ga gi : Nat) (Y : Cx) (go : Obj) (s5 : Shared), Kt J H3 → GenAt X pins σ J g tt te (own.map (·.2)) fp H3 ga gi Y go s5 → Q (.ref ga) s5) :
    wpAny (model X.prog X.w) X.A (eval (.GeneratorExp elt [⟨tg, iter, ifs, 0⟩] scope gpos) X.env) Q X.xe s := by
  have caught : ∀ n ∈ scope.names, n.2 = .free → ∃ c, X.env.cells.lookup n.1 = some c := fun n hn hf => I.ok.has _ ((ok.free n hn hf).elim .inl .inr)
  refine wpAny_GeneratorExp_make hco (closure_ok caught) nc h0 ok.kind hr.depth ?_ hs
  refine thn (hi.run pins s σ H _ I h) fun xv s1 hx => thn hx fun itv s2 h2 => ?_
  obtain ⟨it, fp, tn, J, H2, e, I2, T, st2, f2, ⟨ps, hP, ht2⟩, q⟩ := h2
  subst e
  refine ⟨I2.nolimit, ?_⟩
  have hPs : s2.heap.get? P = some { cls := .none, data := .fields ps } := I2.hok P _ hP
  have cd : PySem.W.CodeHd s2.heap c P := TB.code.keeps fun b u e => I2.bk b u e
  have nfP : ∀ b ∈ fp, b ≠ P := fun b hb z => by
    have := (f2 b hb).1
    rw [z, hP] at this
    cases this
  -- behind the code object
  have cont : ∀ (code : Value) (h3 : Heap) (tk : Nat) (ps' : Array Value), Heap.ExtBut P s2.heap h3 → s2.heap.objs.size ≤ h3.objs.size → h3.get? P = some { cls := .none, data := .fields ps' } → (∃ more, ps' = ps ++ more) → TriplesOk ps'.toList →
      wpAny (model X.prog X.w) X.A (builtinsFor X.env.globals X.env.builtins) (fun bi s₄ => ∀ h', h'.Ns s₄.heap.objs.size (fun y => if y = ".0" then some (.ref it) else none) → Heap.SameBut s₄.heap.objs.size (s₄.heap.push { cls := .type "frame", data := .dict #[] }) h' →
          Q (.ref h'.objs.size) { s₄ with
            gens := s₄.gens.push (.fresh (.compStart (.GeneratorExp elt [⟨tg, iter, ifs, 0⟩] scope gpos) 0 (.ref it) .none (genEnv scope (cloFrom X.env.cells scope.names []) s₄.heap.objs.size code bi X.env))),
            toks := s₄.toks + 1 + 1 + 1,
            heap := h'.push { cls := .type "generator", data := .fields #[.int s₄.gens.size 0, .str "<genexpr>" (s₄.toks + 1), .str (X.env.qual ++ "<genexpr>") (s₄.toks + 1 + 1)] } }) X.xe { s2 with heap := h3, toks := tk } := by
    intro code h3 tk ps' hx hsz hP3 ⟨more, em⟩ ht3
    obtain ⟨bmod, bobj, i1, i2, i3, i4, i5, i6, i7, i8⟩ := TB.bm
    have keep3 : ∀ b u, b ≠ P → s2.heap.get? b = some u → h3.get? b = some u := fun b u hb e => hx b u hb e
    refine wpAny_builtinsFor (m := X.mg) (by rw [I2.ok.glob]; exact (I2.mod.glob.keeps I2.bk).extBut hx TB.gP) i1 i2 (keep3 _ _ i4 (I2.bk _ _ i5)) i6 i7 i8 ?_
    intro h' hn' hs'
    -- the state ahead of the frame
    have I3 := GxR.inv_tab (more := more) (h' := h3) (g' := s2.gens) (d' := s2.drawn) (t' := tk) I2 hP (fun b u hb e => keep3 b u hb e) (by rw [← em]; exact hP3) I2.bare
    have hTab : GxR.Tabbed P H2 (upd H2 P (.tbl (ps ++ more))) := ⟨⟨ps ++ more, upd_same, by rw [← em]; exact ht3⟩, fun b hb => upd_ne hb⟩
    have hK := q _ hTab
    generalize upd H2 P (.tbl (ps ++ more)) = H3 at I3 hK hTab
    have st3 : tn 0 h3 := T.keep _ _ _ st2 fun b hb o e => keep3 b o (nfP b hb) e
    have f3 : ∀ b ∈ fp, FpOk X pins H3 b ∧ b < h3.objs.size := fun b hb => by
      obtain ⟨o, e, _⟩ := T.obj _ _ st3 b hb
      exact ⟨⟨by rw [hTab.2 b (nfP b hb)]; exact (f2 b hb).1, (f2 b hb).2⟩, Heap.lt_size e⟩
    generalize hs3 : ({ s2 with heap := h3, toks := tk } : Shared) = s3 at I3
    have es3 : h3 = s3.heap := by rw [← hs3]
    have hn'' : h'.Ns s3.heap.objs.size (fun y => if y = ".0" then some (.ref it) else none) := by rw [← es3]; exact hn'
    have hs'' : Heap.SameBut s3.heap.objs.size (s3.heap.push { cls := .type "frame", data := .dict #[] }) h' := by rw [← es3]; exact hs'
    rw [es3] at st3 f3
    show Q _ { s3 with
            gens := s3.gens.push (.fresh (.compStart (.GeneratorExp elt [⟨tg, iter, ifs, 0⟩] scope gpos) 0 (.ref it) .none (genEnv scope (cloFrom X.env.cells scope.names []) s3.heap.objs.size code builtinsNs X.env))),
            toks := s3.toks + 1 + 1 + 1,
            heap := h'.push { cls := .type "generator", data := .fields #[.int s3.gens.size 0, .str "<genexpr>" (s3.toks + 1), .str (X.env.qual ++ "<genexpr>") (s3.toks + 1 + 1)] } }
    have kp : ∀ b o, s3.heap.get? b = some o → h'.get? b = some o := fun b o e => hs''.extBut b o (Nat.ne_of_lt (Heap.lt_size e)) (Heap.get?_push_of_some _ e)
    have hsz' : h'.objs.size = s3.heap.objs.size + 1 := by rw [hs''.1, Heap.size_push]
    generalize hgo : ({ cls := .type "generator", data := .fields #[.int s3.gens.size 0, .str "<genexpr>" (s3.toks + 1), .str (X.env.qual ++ "<genexpr>") (s3.toks + 1 + 1)] } : Obj) = go
    have hgen0 : ∀ h : Heap, h.get? h'.objs.size = some go → h.IsGen h'.objs.size s3.gens.size := fun h e => ⟨go, _, _, e, by rw [← hgo], by rw [← hgo], by rw [← hgo]⟩
    have ngo : ∀ v, go.data ≠ .cell v := fun v z => by
      rw [← hgo] at z
      cases z
    have hpush : (h'.push go).get? h'.objs.size = some go := by
      rw [← hgo]
      exact Heap.get?_push_size _ rfl
    have kp2 : ∀ b o, s3.heap.get? b = some o → (h'.push go).get? b = some o := fun b o e => Heap.get?_push_of_some _ (kp b o e)
    have pg := hg s3 H3 s3.heap.objs.size (cloFrom X.env.cells scope.names []) code fp
    have pt := ht s3 H3 s3.heap.objs.size (cloFrom X.env.cells scope.names []) code fp
    have pe := he s3 H3 s3.heap.objs.size (cloFrom X.env.cells scope.names []) code fp
    have I4 := gen_start (code := code) (tk := s3.toks + 1 + 1 + 1) (h' := h'.push go) (G := s3.gens.push (.fresh (.compStart (.GeneratorExp elt [⟨tg, iter, ifs, 0⟩] scope gpos) 0 (.ref it) .none (genEnv scope (cloFrom X.env.cells scope.names []) s3.heap.objs.size code builtinsNs X.env)))) I3 ok nc hN f3 (hn''.push _) kp2 (AllBare.push I3.bare rfl)
    generalize hce : genEnv scope (cloFrom X.env.cells scope.names []) s3.heap.objs.size code builtinsNs X.env = ce at pg pt pe I4 ⊢
    have cL : ce.locals = s3.heap.objs.size := by subst hce; rfl
    have cS : ce.scope = scope := by subst hce; rfl
    have hgH : H3 h'.objs.size = none := I3.hok.fresh (by rw [hsz']; exact Nat.le_succ _)
    have nfs : h'.objs.size ∉ frs X.stack := fun z => by
      rcases List.mem_cons.mp (I3.stkSub _ z) with z | z
      · have := I3.lt
        rw [← z, hsz'] at this
        exact absurd (Nat.lt_of_succ_lt this) (Nat.lt_irrefl _)
      · exact I3.nofs (by rw [hsz']; exact Nat.le_succ _) z
    have I5 := I4.pins_of (pins' := [(h'.objs.size, go)]) fun p hp => by
      rw [List.mem_singleton.mp hp]
      refine ⟨hpush, hgH, ?_, nfs, ngo⟩
      show h'.objs.size ≠ ce.locals
      rw [cL, hsz']
      exact Nat.succ_ne_self _
    generalize hs5 : ({ s3 with heap := h'.push go, gens := s3.gens.push (.fresh (.compStart (.GeneratorExp elt [⟨tg, iter, ifs, 0⟩] scope gpos) 0 (.ref it) .none ce)), toks := s3.toks + 1 + 1 + 1 } : Shared) = s5 at I5
    have st5 : tn 0 s5.heap := T.keep _ _ _ st3 fun b _ o e => by rw [← hs5]; exact kp2 b o e
    have hgs : s5.gens[s3.gens.size]? = some (.fresh (.compStart (.GeneratorExp elt [⟨tg, iter, ifs, 0⟩] scope gpos) 0 (.ref it) .none ce)) := by
      rw [← hs5]
      exact Array.getElem?_push_size ..
    have hz5 : s5.heap.objs.size = h'.objs.size + 1 := by
      rw [← hs5]
      exact Heap.size_push ..
    refine hq J fp H3 h'.objs.size s3.gens.size (gcx X s3 H3 ce fp) go s5 hK ⟨rfl, rfl, I5, rfl, hgen0, fun hb => ?_, fun b hb => ?_, fun pn σ' H' s' I6 => ?_, fun {α} Pn T' D W hpins mono turn m0 a0 pn0 s6 hPn I6 k6 hg6 w0 => ?_⟩
    · have z : h'.objs.size < s3.heap.objs.size := (f3 _ hb).2
      rw [hsz'] at z
      omega
    · have z : b < s3.heap.objs.size := (f3 b hb).2
      rw [hz5, hsz']
      exact Nat.lt_succ_of_lt (Nat.lt_succ_of_lt z)
    · exact I3.call' (ch := fp) I6.os I6.base I6.hok I6.bare fun b hb => ⟨(f3 b hb).1.2.2.2.1, (f3 b hb).1.2.1, (f3 b hb).1.2.2.2.2.1, (f3 b hb).1.2.2.2.2.2⟩
    · have hgs6 : s6.gens[s3.gens.size]? = some (.fresh (.compStart (.GeneratorExp elt [⟨tg, iter, ifs, 0⟩] scope gpos) 0 (.ref it) .none ce)) := by
        rw [hg6]
        exact hgs
      refine ⟨_, hgs6, rfl, ?_⟩
      have st6 : tn 0 s6.heap := T.keep _ _ _ st5 k6
      refine seg_start (i := 0) T st6 ?_
      exact seg_loopA (Y := gcx X s3 H3 ce fp) (vs := own.map (·.2)) rfl rfl hc (by show ce.scope.isCoroutine = false; rw [cS]; exact hco) T pg pt pe (fun b hb => hb) rfl hpins mono turn m0 (m0 + 1) 0 a0 pn0 _ _ H3 (Nat.lt_succ_self _) hPn (fun p hp => (I6.pin p (List.mem_append_right _ hp)).1) (inv_gens I6 (allBare_setGen I6.bare rfl)) st6 (fun b hb => (f3 b hb).1.1) w0
  cases hf : codeAmong gpos ps.toList with
  | none =>
    refine wpAny_genexprCodeX hcode (cd.code hPs ht2) (cd.tab hPs) hf fun c' h' tk hx hge hlt hco' _ htab' _ => ?_
    have trip := hco'.choose_spec.choose_spec.choose_spec.choose_spec.choose_spec.choose_spec.choose_spec.choose_spec.choose_spec.choose_spec.2.2.2.2.2.2.2.2.2.1
    exact cont _ h' tk _ hx (Nat.le_trans hge (Nat.le_of_lt hlt)) htab'.2 ⟨#[_, _, _], rfl⟩ trip
  | some cv =>
    refine wpAny_genexprCode_hit hcode (cd.code hPs ht2) hf ?_
    exact cont cv s2.heap s2.toks ps (Heap.ExtBut.refl _ _) (Nat.le_refl _) hPs ⟨#[], by simp⟩ ht2
end
end GY

namespace GY
open PySem PySem.Spec PyProof.Rows L2 GenW GX
section
variable {Y : Cx}
/-! ### any -/
abbrev dAny (F : Hp → Prop) : Unit → V → Hp → (Unit → Prop) → Prop := fun _ y H k => ∃ c : Bool, y = .bl c ∧ (c = false → k ()) ∧ (c = true → F H)
theorem dAny_mono (F : Hp → Prop) : ∀ a y H (k k' : Unit → Prop), (∀ a', k a' → k' a') → dAny F a y H k → dAny F a y H k' := fun _ _ _ _ _ h ⟨c, e, h1, h2⟩ => ⟨c, e, fun z => h _ (h1 z), h2⟩
theorem any_loop {A : Around} {R : Result → Shared → Prop} {ga gi : Nat} {go : Obj} {fp : List Addr} {T F : Hp → Prop} (hh : A.handled = none) (hd : A.depth < recursionLimit) (isgen : ∀ h : Heap, h.get? ga = some go → h.IsGen ga gi) (hT : ∀ σ H s, Inv Y [(ga, go)] σ H s → T H → R (.ok (.ret (.bool false))) s) (hF : ∀ σ H s, Inv Y [(ga, go)] σ H s → F H → R (.ok (.ret (.bool true))) s) :
    ∀ (n : Nat) (s : Shared), s.heap.get? ga = some go → s.heap.NoLimit → (∃ gs, s.gens[gi]? = some gs ∧ gs.Goes (model Y.prog Y.w) A.in1.in1 (RGa Y (fun (_ : Unit) pn => pn = [(ga, go)]) fun _ => T) (YGa Y fp (fun (_ : Unit) pn => pn = [(ga, go)]) (dAny F)) n (.send .none) (s.setGen gi .running)) →
      codeAny (model Y.prog Y.w) A (.builtin "any.loop" ⟨[.ref ga], []⟩) R s := by
  intro n
  induction n with
  | zero =>
    intro s hg hl ⟨gs, hgs, hgo⟩
    refine codeAny_builtin PySem.F.entry_any_loop ?_
    rw [Around.under_plainId PySem.F.plain_any_loop _]
    show wpAny _ A.in1 (pyNext (.ref ga) >>= _) _ _ s
    refine wpAny_bind (wpAny_pyNext_genexpQ (A := A.in1) (P := fun _ s₀ s₁ => ∃ (a : Unit) (pn : List (Addr × Obj)) (σ : L2.St) (H : Hp), pn = [(ga, go)] ∧ (∀ p ∈ pn, s₀.heap.get? p.1 = some p.2) ∧ Inv Y pn σ H s₁ ∧ T H) hh hl hd (isgen _ hg) hgs hgo (fun v s₁ gs' hb hv => ?_) (fun s₁ hp h' hk => ?_))
    · obtain ⟨a, pn, y, σ, H, rfl, _, ry, I, c, rfl, h1, h2⟩ := hv
      obtain rfl : v = Value.bool c := ry
      cases c with
      | false => exact (h1 rfl _ _ rfl I (fun _ _ _ e => e)).elim
      | true =>
        refine wpAny_bind (wpAny_holding (wpAny_truthy_bool ?_))
        refine wpAny_bind (wpAny_letGo ?_)
        simp only [if_true]
        exact wpAny_bind (wpAny_rule (wpAny_pure (hF σ H _ (inv_gens I (allBare_setGen I.bare hb)) (h2 rfl))))
    · obtain ⟨_, pn, σ, H, rfl, _, I, q⟩ := hp
      exact wpAny_bind (wpAny_rule (wpAny_pure (hT σ H _ (inv_kept (s := s₁) (G := (s₁.setGen gi .finished).gens) I (allBare_setGen I.bare rfl) hk) q)))
  | succ n ih =>
    intro s hg hl ⟨gs, hgs, hgo⟩
    have hgl : gi < s.gens.size := (Array.getElem?_eq_some_iff.mp hgs).1
    refine codeAny_builtin PySem.F.entry_any_loop ?_
    rw [Around.under_plainId PySem.F.plain_any_loop _]
    show wpAny _ A.in1 (pyNext (.ref ga) >>= _) _ _ s
    refine wpAny_bind (wpAny_gsz (n := gi + 1) hgl (wpAny_pyNext_genexpQ (A := A.in1) (P := fun _ s₀ s₁ => ∃ (a : Unit) (pn : List (Addr × Obj)) (σ : L2.St) (H : Hp), pn = [(ga, go)] ∧ (∀ p ∈ pn, s₀.heap.get? p.1 = some p.2) ∧ Inv Y pn σ H s₁ ∧ T H) hh hl hd (isgen _ hg) hgs hgo (fun v s₁ gs' hb hv => ?_) (fun s₁ hp h' hk => ?_)))
    · intro hsz
      obtain ⟨a, pn, y, σ, H, rfl, _, ry, I, c, rfl, h1, h2⟩ := hv
      obtain rfl : v = Value.bool c := ry
      refine wpAny_bind (wpAny_holding (wpAny_truthy_bool ?_))
      refine wpAny_bind (wpAny_letGo ?_)
      cases c with
      | false =>
        simp only [Bool.false_eq_true, if_false]
        have hsz1 : gi < s₁.gens.size := by
          have q : (s₁.setGen gi gs').gens.size = s₁.gens.size := setGen_size _ _ _
          have hsz' : gi + 1 ≤ (s₁.setGen gi gs').gens.size := hsz
          omega
        refine wpAny_pure ⟨plainId_quiet PySem.F.plain_any_loop _, ih (s₁.setGen gi gs') (I.pin (ga, go) (List.mem_append_right _ (List.mem_singleton.mpr rfl))).1 (show s₁.heap.NoLimit from I.nolimit) ⟨gs', setGen_at hsz1, ?_⟩⟩
        exact h1 rfl _ _ rfl (inv_gens (inv_gens I (allBare_setGen (g := gi) I.bare hb)) (allBare_setGen (s := s₁.setGen gi gs') (allBare_setGen I.bare hb) rfl)) (fun _ _ _ e => e)
      | true =>
        simp only [if_true]
        exact wpAny_bind (wpAny_rule (wpAny_pure (hF σ H _ (inv_gens I (allBare_setGen I.bare hb)) (h2 rfl))))
    · intro hsz
      obtain ⟨_, pn, σ, H, rfl, _, I, q⟩ := hp
      exact wpAny_bind (wpAny_rule (wpAny_pure (hT σ H _ (inv_kept (s := s₁) (G := (s₁.setGen gi .finished).gens) I (allBare_setGen I.bare rfl) hk) q)))
/-! ### sum -/
abbrev dSum : Int → V → Hp → (Int → Prop) → Prop := fun t y _ k => ∃ i : Int, y = .int i ∧ k (t + i)
theorem dSum_mono : ∀ a y H (k k' : Int → Prop), (∀ a', k a' → k' a') → dSum a y H k → dSum a y H k' := fun _ _ _ _ _ h ⟨i, e, h1⟩ => ⟨i, e, h _ h1⟩
abbrev sumO (t : Int) (tok : Tok) (c : Nat) : Obj := { cls := .type "list", dict := none, data := .seq #[.int t tok] c, slots := #[] }
abbrev pnSum (ga : Addr) (go : Obj) (L : Addr) : Int → List (Addr × Obj) → Prop := fun t pn => ∃ tok c, pn = [(ga, go), (L, sumO t tok c)]
/-- the taker's own list, new when the generator was made -/
structure OwnL (Y : Cx) (ga L : Addr) (fp : List Addr) : Prop where
  young : Y.s_0.heap.objs.size ≤ L
  cells : ∀ x c, Y.env.cells.lookup x = some c → c ≠ L
  ypn : Y.pn = []
  ne : L ≠ ga
  nfp : L ∉ fp
theorem own_put {ga L : Addr} {fp : List Addr} {go : Obj} {o o' : Obj} {σ : L2.St} {H : Hp} {s : Shared} {h' : Heap} {tk : Nat} (O : OwnL Y ga L fp) (I : Inv Y [(ga, go), (L, o)] σ H s) (hL : h'.get? L = some o') (hk : ∀ b u, b ≠ L → s.heap.get? b = some u → h'.get? b = some u) (nc : ∀ v, o'.data ≠ .cell v) : Inv Y [(ga, go), (L, o')] σ H { s with heap := h', toks := tk } := by
  have pL := I.pin (L, o) (by simp)
  have pG := I.pin (ga, go) (by simp)
  have J := (I.pins_of (pins' := [(ga, go)]) fun p hp => by rw [List.mem_singleton.mp hp]; exact pG).turned (it := L) (h' := h') (t' := tk) (fun b u hb e => hk b u hb e) pL.2.1 pL.2.2.1 (.inr O.young) O.cells (fun p hp => by
    rw [O.ypn] at hp
    have : p = (ga, go) := by simpa using hp
    rw [this]
    exact O.ne.symm)
  refine J.pins_of fun p hp => ?_
  have two : p = (ga, go) ∨ p = (L, o') := by simpa using hp
  rcases two with rfl | rfl
  · exact ⟨hk _ _ O.ne.symm pG.1, pG.2⟩
  · exact ⟨hL, pL.2.1, pL.2.2.1, pL.2.2.2.1, nc⟩
theorem sum_loop {A : Around} {R : Result → Shared → Prop} {ga gi L : Nat} {go : Obj} {fp : List Addr} {T : Int → Hp → Prop} (hh : A.handled = none) (hd : A.depth < recursionLimit) (isgen : ∀ h : Heap, h.get? ga = some go → h.IsGen ga gi) (O : OwnL Y ga L fp) (hT : ∀ t tok pn σ H s, Inv Y pn σ H s → T t H → R (.ok (.ret (.int t tok))) s) :
    ∀ (n : Nat) (s : Shared) (t : Int) (tok : Tok) (c : Nat) (st : Int), (st = 0 ∨ st = 2) → s.heap.get? L = some (sumO t tok c) → s.heap.get? ga = some go → s.heap.NoLimit → (∃ gs, s.gens[gi]? = some gs ∧ gs.Goes (model Y.prog Y.w) A.in1.in1 (RGa Y (pnSum ga go L) T) (YGa Y fp (pnSum ga go L) dSum) n (.send .none) (s.setGen gi .running)) →
      codeAny (model Y.prog Y.w) A (.builtin "sum.loop" ⟨[.ref ga, .ref L, rawInt st, rawInt 0], []⟩) R s := by
  intro n
  induction n with
  | zero =>
    intro s t tok c st hst hL hg hl ⟨gs, hgs, hgo⟩
    refine codeAny_builtin PySem.F.entry_sum_loop ?_
    rw [Around.under_plainId PySem.F.plain_sum_loop _]
    show wpAny _ A.in1 (seqItems? (.ref L) >>= _) _ _ s
    refine wpAny_bind (wpAny_seqItems hL rfl ?_)
    show wpAny _ A.in1 (tryCatch (pyNext (.ref ga)) _ >>= _) _ _ s
    refine wpAny_bind (wpAny_tryCatch (wpAny_pyNext_genexpQ (A := A.in1) (P := fun _ s₀ s₁ => ∃ a pn σ H, pnSum ga go L a pn ∧ (∀ p ∈ pn, s₀.heap.get? p.1 = some p.2) ∧ Inv Y pn σ H s₁ ∧ T a H) hh hl hd (isgen _ hg) hgs hgo (fun v s₁ gs' hb hv => ?_) (fun s₁ hp h' hk => ?_)))
    · obtain ⟨a, pn, y, σ, H, ⟨tok', c', rfl⟩, h0, ry, I, i, rfl, h1⟩ := hv
      have IL := own_put (tk := s₁.toks) (o' := sumO (a + i) tok' c') (h' := s₁.heap.update L fun _ => sumO (a + i) tok' c') O I (Heap.get?_update_self _ (I.pin (L, sumO a tok' c') (by simp)).1 rfl) (fun b u hb e => (Heap.get?_update_other _ _ (fun h : L = b => hb h.symm)).trans e) (fun v z => by cases z)
      exact (h1 _ _ ⟨tok', c', rfl⟩ IL fun b hb o e => (Heap.get?_update_other _ _ (fun h : L = b => O.nfp (h ▸ hb))).trans e).elim
    · obtain ⟨a, pn, σ, H, ⟨tok', c', rfl⟩, h0, I, q⟩ := hp
      have e0 := h0 (L, sumO a tok' c') (by simp)
      have e1 : s.heap.get? L = some (sumO a tok' c') := e0
      rw [hL] at e1
      have ea : t = a := by
        injection e1 with e1
        injection e1 with _ _ e1
        injection e1 with e1 _
        injection e1 with e1
        injection e1 with e1 _
        injection e1 with e1 _
      subst ea
      exact wpAny_pure (hT t tok _ σ H _ (inv_kept (s := s₁) (G := (s₁.setGen gi .finished).gens) I (allBare_setGen I.bare rfl) hk) q)
  | succ n ih =>
    intro s t tok c st hst hL hg hl ⟨gs, hgs, hgo⟩
    have hgl : gi < s.gens.size := (Array.getElem?_eq_some_iff.mp hgs).1
    refine codeAny_builtin PySem.F.entry_sum_loop ?_
    rw [Around.under_plainId PySem.F.plain_sum_loop _]
    show wpAny _ A.in1 (seqItems? (.ref L) >>= _) _ _ s
    refine wpAny_bind (wpAny_seqItems hL rfl ?_)
    show wpAny _ A.in1 (tryCatch (pyNext (.ref ga)) _ >>= _) _ _ s
    refine wpAny_bind (wpAny_tryCatch (wpAny_gsz (n := gi + 1) hgl (wpAny_pyNext_genexpQ (A := A.in1) (P := fun _ s₀ s₁ => ∃ a pn σ H, pnSum ga go L a pn ∧ (∀ p ∈ pn, s₀.heap.get? p.1 = some p.2) ∧ Inv Y pn σ H s₁ ∧ T a H) hh hl hd (isgen _ hg) hgs hgo (fun v s₁ gs' hb hv => ?_) (fun s₁ hp h' hk => ?_))))
    · intro hsz
      obtain ⟨a, pn, y, σ, H, ⟨tok', c', rfl⟩, h0, ry, I, i, rfl, h1⟩ := hv
      obtain ⟨tv, rfl⟩ := ry
      have e0 := h0 (L, sumO a tok' c') (by simp)
      have e1 : s.heap.get? L = some (sumO a tok' c') := e0
      rw [hL] at e1
      have ea : t = a ∧ tok = tok' ∧ c = c' := by
        injection e1 with e1
        injection e1 with _ _ e1
        injection e1 with e1 e2
        injection e1 with e1
        injection e1 with e1 _
        injection e1 with e1 e3
        exact ⟨e1, e3, e2⟩
      obtain ⟨rfl, rfl, rfl⟩ := ea
      have hsz1 : gi < s₁.gens.size := by
        have q : (s₁.setGen gi gs').gens.size = s₁.gens.size := setGen_size _ _ _
        have hsz' : gi + 1 ≤ (s₁.setGen gi gs').gens.size := hsz
        omega
      have I' := inv_gens I (allBare_setGen (g := gi) I.bare hb)
      have hS' : (s₁.setGen gi gs').heap.get? L = some (sumO t tok c) := (I'.pin (L, sumO t tok c) (by simp)).1
      have hG' : (s₁.setGen gi gs').heap.get? ga = some go := (I'.pin (ga, go) (by simp)).1
      -- what follows a turn
      have fin : ∀ (h' : Heap) (tk : Nat) (tok2 : Tok) (c2 : Nat) (st2 : Int), (st2 = 0 ∨ st2 = 2) → h'.get? L = some (sumO (t + i) tok2 c2) → (∀ b u, b ≠ L → (s₁.setGen gi gs').heap.get? b = some u → h'.get? b = some u) →
          codeAny (model Y.prog Y.w) A (.builtin "sum.loop" ⟨[.ref ga, .ref L, rawInt st2, rawInt 0], []⟩) R { s₁.setGen gi gs' with heap := h', toks := tk } := fun h' tk tok2 c2 st2 hst2 hL2 hk2 => by
        have IL := own_put (tk := tk) (o' := sumO (t + i) tok2 c2) O I' hL2 hk2 (fun v z => by cases z)
        refine ih _ (t + i) tok2 c2 st2 hst2 hL2 (hk2 _ _ O.ne.symm hG') (IL.nolimit) ⟨gs', setGen_at hsz1, ?_⟩
        exact h1 _ _ ⟨tok2, c2, rfl⟩ (inv_gens IL (allBare_setGen IL.bare rfl)) fun b hb' o e => hk2 b o (fun z => O.nfp (z ▸ hb')) e
      rcases hst with rfl | rfl
      · show wpAny _ A.in1 (if (_ : Bool) = true then (mkInt (t + i) >>= _) else _) _ _ _
        split
        · refine wpAny_bind (wpAny_mkInt ?_)
          show wpAny _ A.in1 (updateSeq L (fun _ => #[.int (t + i) _]) >>= _) _ _ _
          refine wpAny_bind ?_
          refine wpAny_updateSeq hS' rfl (wpAny_pure ⟨plainId_quiet F.plain_sum_loop _, ?_⟩)
          exact fin _ _ _ _ 0 (.inl rfl) (Heap.get?_update_self _ hS' rfl) fun b u hb e => (Heap.get?_update_other _ _ (fun h : L = b => hb h.symm)).trans e
        · refine wpAny_bind (wpAny_rule ?_)
          refine wpAny_bind (wpAny_attempt (wpAny_holding (wpAny_add_int ?_)))
          show wpAny _ A.in1 (updateSeq L (fun _ => #[.int (t + i) _]) >>= _) _ _ _
          refine wpAny_bind (wpAny_updateSeq hS' rfl ?_)
          have hS₂ := Heap.get?_update_self (Obj.mapSeq fun _ => #[Value.int (t + i) (s₁.setGen gi gs').toks]) hS' rfl
          refine wpAny_bind (wpAny_letGo ?_)
          refine wpAny_bind (wpAny_updateSeq hS₂ rfl (wpAny_pure ⟨plainId_quiet F.plain_sum_loop _, ?_⟩))
          exact fin _ _ _ _ 2 (.inr rfl) (Heap.get?_update_self _ hS₂ rfl) fun b u hb e => (Heap.get?_update_other _ _ (fun h : L = b => hb h.symm)).trans ((Heap.get?_update_other _ _ (fun h : L = b => hb h.symm)).trans e)
      · show wpAny _ A.in1 ((holding [Value.int i tv] (binaryOp .Add (.int t tok) (.int i tv))).attempt >>= _) _ _ _
        refine wpAny_bind (wpAny_attempt (wpAny_holding (wpAny_add_int ?_)))
        show wpAny _ A.in1 (updateSeq L (fun _ => #[.int (t + i) _]) >>= _) _ _ _
        refine wpAny_bind (wpAny_updateSeq hS' rfl ?_)
        have hS₂ := Heap.get?_update_self (Obj.mapSeq fun _ => #[Value.int (t + i) (s₁.setGen gi gs').toks]) hS' rfl
        refine wpAny_bind (wpAny_letGo ?_)
        refine wpAny_bind (wpAny_updateSeq hS₂ rfl (wpAny_pure ⟨plainId_quiet F.plain_sum_loop _, ?_⟩))
        exact fin _ _ _ _ 2 (.inr rfl) (Heap.get?_update_self _ hS₂ rfl) fun b u hb e => (Heap.get?_update_other _ _ (fun h : L = b => hb h.symm)).trans ((Heap.get?_update_other _ _ (fun h : L = b => hb h.symm)).trans e)
    · intro hsz
      obtain ⟨a, pn, σ, H, ⟨tok', c', rfl⟩, h0, I, q⟩ := hp
      have e0 := h0 (L, sumO a tok' c') (by simp)
      have e1 : s.heap.get? L = some (sumO a tok' c') := e0
      rw [hL] at e1
      have ea : t = a := by
        injection e1 with e1
        injection e1 with _ _ e1
        injection e1 with e1 _
        injection e1 with e1
        injection e1 with e1 _
        injection e1 with e1 _
      subst ea
      exact wpAny_pure (hT t tok _ σ H _ (inv_kept (s := s₁) (G := (s₁.setGen gi .finished).gens) I (allBare_setGen I.bare rfl) hk) q)
end
end GY

namespace GY
open PySem PySem.Spec PyProof.Rows L2 GenW GX
/-- f(elt for tg in iter if ..): the taker begins with a0, T is what holds of it at the end, D what it does with an item -/
def tGx {α : Type} (P : Addr) (wi : TI) (g : TG) (tt : TT) (te : TE) (vs : List Nat) (a0 : α) (T : VK → α → Hp → Prop) (D : VK → α → V → Hp → (α → Prop) → Prop) : TE := fun σ H Q => wi σ H fun J H1 => GxR.TabG H1 P ∧ ∀ H2, GxR.Tabbed P H1 H2 →
  ∃ W : Nat → Nat → α → Hp → Prop, (∃ m, W 0 m a0 H2) ∧ TurnG J g tt te vs (wipe σ vs) W (T Q) (D Q)
section
variable {X : Cx}
theorem pe_sum {c P : Addr} {elt tg iter : Expr} {ifs : List Expr} {scope : Scope} {own : List (Str × Nat)} {p pos gpos : Pos} {wi : TI} {g : TG} {tt : TT} {te : TE} {k : Nat}
    (hr : Room k X.A) (hgl : Gl X "sum") (hm : X.mg "sum" = none) (TB : GxR.TabB X.base X.mg c P) (hcode : X.env.code = .ref c) (hc : X.calm = true) (hN : X.N.Nodup) (hi : PI X tg iter wi) (ok : BlkOk X.N X.env.scope scope own)
    (hco : scope.isCoroutine = false) (nc : ∀ y ∈ scope.names, y.2 ≠ .cell) (h0 : scope.names.lookup (".0" : Str) = some NameKind.local)
    (hg : ∀ (s : Shared) (H : Hp) (C : Addr) (cl : List (Str × Addr)) (code : Value) (fp : List Addr), PG (gcx X s H (genEnv scope cl C code builtinsNs X.env) fp) tg g)
    (ht : ∀ (s : Shared) (H : Hp) (C : Addr) (cl : List (Str × Addr)) (code : Value) (fp : List Addr), PTs (gcx X s H (genEnv scope cl C code builtinsNs X.env) fp) ifs tt)
    (he : ∀ (s : Shared) (H : Hp) (C : Addr) (cl : List (Str × Addr)) (code : Value) (fp : List Addr), PE (gcx X s H (genEnv scope cl C code builtinsNs X.env) fp) elt te)
    (hs : ∀ v, genFold iter X.env v = pure v := by intro _; rfl)
    (hst : starEach [.GeneratorExp elt [⟨tg, iter, ifs, 0⟩] scope gpos] X.env = (false, eval (.GeneratorExp elt [⟨tg, iter, ifs, 0⟩] scope gpos) X.env) :: starEach [] X.env := by rfl) :
    PE X (.Call (.Name "sum" p) [.GeneratorExp elt [⟨tg, iter, ifs, 0⟩] scope gpos] [] pos) (tGx P wi g tt te (own.map (·.2)) (0 : Int) (fun Q t H => Q (.int t) H) (fun _ => dSum)) := by
  refine ⟨fun pins s σ H Q I h => ?_⟩
  refine wpAny_Call_Name_kw (ld_blt I hgl hm boot_sum ?_)
  refine PyProof.Rows.callWith_builtin1 ?_ hst (by rfl)
  rw [hst]
  show wpAny _ _ (spliced ((false, eval (.GeneratorExp elt [⟨tg, iter, ifs, 0⟩] scope gpos) X.env) :: backTo pos (starEach [] X.env))) _ _ s
  refine Calls.spliced_cons (gen_made hr TB hcode hc hN hi ok hco nc h0 hg ht he hs I h fun J fp H3 ga gi Y go s5 ⟨W, ⟨m0, w0⟩, turn⟩ G => ?_)
  refine Calls.spliced_nil ?_
  have hg5 := (G.inv.pin (ga, go) (List.mem_append_right _ (List.mem_singleton.mpr rfl))).1
  refine call_function_tree F.kind_sum F.plain_sum F.entry_sum (F.args_sum1 _) ?_
  unfold Builtin.«sum»
  simp only [List.length_cons, List.length_nil]
  rw [if_neg (by decide)]
  refine wpAny_bind (wpAny_of_eq (show Builtin.Builtins.bindParams "sum" ["start"] 0 { } = pure [none] from rfl) ?_)
  refine wpAny_bind (wpAny_pyIter_gen (G.isgen _ hg5) ?_)
  refine wpAny_bind (wpAny_mkInt ?_)
  refine wpAny_bind (wpAny_pure ?_)
  simp only [List.forIn_cons, List.forIn_nil]
  refine wpAny_bind (wpAny_bind (wpAny_bind (wpAny_isInstance (T := "int") (b := false) (typeIs_int _ _ _) PySem.sub_int_str ?_)))
  simp only [Bool.false_eq_true, if_false]
  refine wpAny_pure (wpAny_bind (wpAny_bind (wpAny_isInstance (T := "int") (b := false) (typeIs_int _ _ _) PySem.sub_int_bytes ?_)))
  simp only [Bool.false_eq_true, if_false]
  refine wpAny_pure (wpAny_bind (wpAny_bind (wpAny_isInstance (T := "int") (b := false) (typeIs_int _ _ _) PySem.sub_int_bytearray ?_)))
  simp only [Bool.false_eq_true, if_false]
  refine wpAny_pure (wpAny_pure ?_)
  refine wpAny_bind (wpAny_newObj_type ?_)
  have fL := G.inv.fpOk (b := s5.heap.objs.size) (Nat.le_refl _) (G.inv.hok.fresh (Nat.le_refl _))
  have O : OwnL Y ga s5.heap.objs.size fp := ⟨fL.2.2.2.1.elim (fun z => Nat.le_trans G.inv.sz (Nat.le_refl _)) id, fL.2.2.2.2.1, G.ypn, Nat.ne_of_gt (Heap.lt_size hg5), fun hb => Nat.lt_irrefl _ (G.fplt _ hb)⟩
  have kp : ∀ b u, s5.heap.get? b = some u → (s5.heap.push (sumO 0 s5.toks 0)).get? b = some u := fun b u e => Heap.get?_push_of_some _ e
  have I6 : Inv Y [(ga, go), (s5.heap.objs.size, sumO 0 s5.toks 0)] (wipe σ (own.map (·.2))) H3 { s5 with heap := s5.heap.push (sumO 0 s5.toks 0), toks := s5.toks + 1 } := by
    refine (G.inv.kept (t' := s5.toks + 1) kp).pins_of fun q hq => ?_
    have two : q = (ga, go) ∨ q = (s5.heap.objs.size, sumO 0 s5.toks 0) := by simpa using hq
    have pG := G.inv.pin (ga, go) (List.mem_append_right _ (List.mem_singleton.mpr rfl))
    rcases two with rfl | rfl
    · exact ⟨kp _ _ pG.1, pG.2⟩
    · exact ⟨Heap.get?_push_size _ rfl, fL.1, fL.2.1, fL.2.2.1, fun v z => by cases z⟩
  have go6 := G.goes (pnSum ga go s5.heap.objs.size) (fun t H => Q (.int t) H) dSum W (fun a pn ⟨tok, c, e⟩ q hq => by
    rw [e] at hq
    have two : q = (ga, go) ∨ q = (s5.heap.objs.size, sumO a tok c) := by simpa using hq
    rcases two with rfl | rfl
    · exact G.gafp
    · exact O.nfp) dSum_mono turn m0 0 _ _ ⟨_, _, rfl⟩ I6 (fun b _ o e => kp b o e) rfl w0
  rw [← G.prog, ← G.w] at go6 ⊢
  refine wpAny_pure ⟨plainId_quiet F.plain_sum_loop _, sum_loop (Y := Y) hr.hd hr.depth G.isgen O (fun t tok pn σ' H' s' I7 q => ⟨.int t, H', G.back _ _ _ _ I7, ⟨tok, rfl⟩, q⟩) (m0 + 1) _ 0 s5.toks 0 0 (.inl rfl) (Heap.get?_push_size _ rfl) (kp _ _ hg5) I6.nolimit go6⟩
theorem pe_any {c P : Addr} {elt tg iter : Expr} {ifs : List Expr} {scope : Scope} {own : List (Str × Nat)} {p pos gpos : Pos} {wi : TI} {g : TG} {tt : TT} {te : TE} {k : Nat}
    (hr : Room k X.A) (hgl : Gl X "any") (hm : X.mg "any" = none) (TB : GxR.TabB X.base X.mg c P) (hcode : X.env.code = .ref c) (hc : X.calm = true) (hN : X.N.Nodup) (hi : PI X tg iter wi) (ok : BlkOk X.N X.env.scope scope own)
    (hco : scope.isCoroutine = false) (nc : ∀ y ∈ scope.names, y.2 ≠ .cell) (h0 : scope.names.lookup (".0" : Str) = some NameKind.local)
    (hg : ∀ (s : Shared) (H : Hp) (C : Addr) (cl : List (Str × Addr)) (code : Value) (fp : List Addr), PG (gcx X s H (genEnv scope cl C code builtinsNs X.env) fp) tg g)
    (ht : ∀ (s : Shared) (H : Hp) (C : Addr) (cl : List (Str × Addr)) (code : Value) (fp : List Addr), PTs (gcx X s H (genEnv scope cl C code builtinsNs X.env) fp) ifs tt)
    (he : ∀ (s : Shared) (H : Hp) (C : Addr) (cl : List (Str × Addr)) (code : Value) (fp : List Addr), PE (gcx X s H (genEnv scope cl C code builtinsNs X.env) fp) elt te)
    (hs : ∀ v, genFold iter X.env v = pure v := by intro _; rfl)
    (hst : starEach [.GeneratorExp elt [⟨tg, iter, ifs, 0⟩] scope gpos] X.env = (false, eval (.GeneratorExp elt [⟨tg, iter, ifs, 0⟩] scope gpos) X.env) :: starEach [] X.env := by rfl) :
    PE X (.Call (.Name "any" p) [.GeneratorExp elt [⟨tg, iter, ifs, 0⟩] scope gpos] [] pos) (tGx P wi g tt te (own.map (·.2)) () (fun Q _ H => Q (.bl false) H) (fun Q => dAny fun H => Q (.bl true) H)) := by
  refine ⟨fun pins s σ H Q I h => ?_⟩
  refine wpAny_Call_Name_kw (ld_blt I hgl hm (by decide +kernel : bootBuiltins "any" = some (.builtin "any")) ?_)
  refine PyProof.Rows.callWith_builtin1 ?_ hst (by rfl)
  rw [hst]
  show wpAny _ _ (spliced ((false, eval (.GeneratorExp elt [⟨tg, iter, ifs, 0⟩] scope gpos) X.env) :: backTo pos (starEach [] X.env))) _ _ s
  refine Calls.spliced_cons (gen_made hr TB hcode hc hN hi ok hco nc h0 hg ht he hs I h fun J fp H3 ga gi Y go s5 ⟨W, ⟨m0, w0⟩, turn⟩ G => ?_)
  refine Calls.spliced_nil ?_
  have hg5 := (G.inv.pin (ga, go) (List.mem_append_right _ (List.mem_singleton.mpr rfl))).1
  refine call_function_tree F.kind_any F.plain_any F.entry_any (F.args_any1 _) ?_
  unfold Builtin.«any»
  refine wpAny_bind (m := oneArg "any" _) (wpAny_pure ?_)
  refine wpAny_bind (wpAny_pyIter_gen (G.isgen _ hg5) ?_)
  have go6 := G.goes (fun (_ : Unit) pn => pn = [(ga, go)]) (fun _ H => Q (.bl false) H) (dAny fun H => Q (.bl true) H) W (fun a pn e q hq => by
    rw [e] at hq
    rw [List.mem_singleton.mp hq]
    exact G.gafp) (dAny_mono _) turn m0 () _ _ rfl G.inv (fun b _ o e => e) rfl w0
  rw [← G.prog, ← G.w] at go6 ⊢
  refine wpAny_pure ⟨plainId_quiet F.plain_any_loop _, any_loop (Y := Y) hr.hd hr.depth G.isgen (fun σ' H' s' I7 q => ⟨.bl false, H', G.back _ _ _ _ I7, rfl, q⟩) (fun σ' H' s' I7 q => ⟨.bl true, H', G.back _ _ _ _ I7, rfl, q⟩) (m0 + 1) _ hg5 G.inv.nolimit go6⟩
/-- such a taker over a walk -/
theorem gx_it {α : Type} {J : It} {n : Nat} {G : Hp → Prop} {Y : Nat → Hp → V → Hp → Prop} (w : Walk J n G Y) {g : TG} {tt : TT} {te : TE} {vs : List Nat} {σw : L2.St} {H2 : Hp} {a0 : α} {T : α → Hp → Prop} {D : α → V → Hp → (α → Prop) → Prop} (Pv : Nat → α → Hp → Prop) (h0 : Pv 0 a0 H2) (hG : ∀ i a H, i ≤ n → Pv i a H → G H)
    (hs : ∀ i x a H H', i < n → Pv i a H → Y i H x H' → g x σw H' fun σ2 H2 => wipe σ2 vs = σw ∧ tt σ2 H2 fun b H3 => if b = true then te σ2 H3 fun y H4 => D a y H4 (fun a' => Pv (i + 1) a' H4) else Pv (i + 1) a H3) (hd : ∀ a H, Pv n a H → T a H) :
    ∃ W : Nat → Nat → α → Hp → Prop, (∃ m, W 0 m a0 H2) ∧ TurnG J g tt te vs σw W T D := by
  refine ⟨fun i left a H => i + left = n ∧ Pv i a H, ⟨n, Nat.zero_add n, h0⟩, fun i left a H ⟨sum, pv⟩ => ?_⟩
  have good := hG i a H (by omega) pv
  cases left with
  | zero =>
    have last : i = n := sum
    subst last
    exact .inl ⟨w.stops H good, hd a H pv⟩
  | succ left =>
    have below : i < n := by omega
    exact .inr ⟨w.goes i H below good, Pv (i + 1), fun a' H' pv' => ⟨left, Nat.lt_succ_self _, by omega, pv'⟩, fun x H' y => hs i x a H H' below pv (w.yields i H x H' below good y)⟩
end
end GY

/-! rules of my own: letters for the written part, sorted of data -/
namespace BR
open PySem PySem.Spec PyProof.Rows L2
theorem room_gen {k : Nat} {A : Around} (hr : Room (k + 3) A) (env : Env) : Room k (A.in1.in1.deeper env) := ((hr.in1).in1).deeper env
section
variable {X : Cx}
theorem ix_tupK {K : PySem.W.Frag} (e : X.K = K) : IxR X (rIxT K) := by
  subst e
  exact ix_tup
theorem ix_lstK {K : PySem.W.Frag} (e : X.K = K) : IxR X (rIxL K) := by
  subst e
  exact ix_list
theorem pi_listK {tg l : Expr} {tl : TE} {K : PySem.W.Frag} (e : X.K = K) (hl : PE X l tl) : PI X tg l (iList K tl) := by
  subst e
  exact pi_list hl
theorem pa_starK {e : Expr} {es : List Expr} {te : TE} {t : TA} {p : Pos} {K : PySem.W.Frag} (eK : X.K = K) (he : PE X e te) (hr : PA X es t) (hs : starEach (.Starred e p :: es) X.env = (true, eval e X.env) :: starEach es X.env := by rfl) : PA X (.Starred e p :: es) (StX.tStar K te t) := by
  subst eK
  exact StX.pa_star he hr hs
theorem op_notInK {K : PySem.W.Frag} (e : X.K = K) : OpR X (compareOp .NotIn) (rIn K true) := by
  subst e
  exact op_notIn_seq
theorem pg_tupK {K : PySem.W.Frag} {es : List Expr} {k : Nat} {t : TGs} {n : Nat} {pos : Pos} (eK : X.K = K) (h : PG X (.Tuple es k pos) (gTup X.K n t)) : PG X (.Tuple es k pos) (gTup K n t) := by
  subst eK
  exact h
theorem sl_listK {K : PySem.W.Frag} {r : PySem.W.Frag → V → Option Int → Option Int → Hp → VK → Prop} (eK : X.K = K) (h : SlR X (r X.K)) : SlR X (r K) := by
  subst eK
  exact h
theorem mt_K {K : PySem.W.Frag} {id : String} {r : PySem.W.Frag → V → List V → Hp → VK → Prop} (eK : X.K = K) (h : MtR X id (r X.K)) : MtR X id (r K) := by
  subst eK
  exact h
theorem cr_K {K : PySem.W.Frag} {f : Value} {r : PySem.W.Frag → List V → Hp → VK → Prop} (eK : X.K = K) (h : CallR X f (r X.K)) : CallR X f (r K) := by
  subst eK
  exact h
/-! ### sorted(list of data) -/
abbrev VD := V × PyData
def sortD (bs : List VD) : List VD := bs.mergeSort (PySem.W.dataLe false (·.2))
def rSortedD (K : PySem.W.Frag) : List V → Hp → VK → Prop := fun vs H Q => ∃ (a : Addr) (bs : List VD), vs = [V.ref a] ∧ SqL K H a (bs.map (·.1)) ∧ (∀ b ∈ bs, Dp K H b.1 b.2 ∧ b.2.depth ≤ 60) ∧ PySem.W.AllAlike (bs.map (·.2)) ∧ PySem.W.Sortable (bs.map (·.2)) ∧
  ∀ p, H p = none → Q (.ref p) (upd H p (.lst ((sortD bs).map (·.1))))
theorem each_of_vals : ∀ {bs : List VD} {us : List Value}, Vals (bs.map (·.1)) us → PySem.W.EachIs (fun v (b : VD) => RelV b.1 v) us bs
  | [], _, r => by
    cases r
    exact .nil
  | b :: bs, _, r => by
    cases r with
    | cons h t => exact .cons h (each_of_vals t)
theorem vals_of_each : ∀ {bs : List VD} {us : List Value}, PySem.W.EachIs (fun v (b : VD) => RelV b.1 v) us bs → Vals (bs.map (·.1)) us
  | _, _, .nil => .nil
  | _, _, .cons h t => .cons h (vals_of_each t)
theorem cr_sortedD (hu : X.A.units + 64 < cLine) : CallR X (.builtin "sorted") (rSortedD X.K) := by
  intro pins s σ H vs us Q I r h
  obtain ⟨a, bs, rfl, hs, hd, hal, hso, q⟩ := h
  obtain ⟨its, rv, hl, hz⟩ := I.list hs
  obtain ⟨u, rfl, ru⟩ := vals1 r
  obtain rfl : u = Value.ref a := ru
  have e := each_of_vals rv
  have er : PySem.W.EachIs (fun v (b : VD) => ∃ as, Reads s.heap v b.2 as) its bs := (PySem.W.each_mem e).mono fun v b ⟨r, hb⟩ => Dp.reads I b.2 b.1 v (hd b hb).1 r
  refine PySem.W.sorted_data (R := fun v (b : VD) => RelV b.1 v) (enc := (·.2)) hl.isList e er hal hso (by rw [List.length_map] at hz; exact hz) (fun b hb => by have := (hd b hb).2; omega) fun out hlen eo => ?_
  obtain ⟨n, hn⟩ := sortedAll_at s.heap its out.toArray
  refine ⟨.ref (s.heap.objs.size + 1), upd H (s.heap.objs.size + 1) (.lst ((sortD bs).map (·.1))), I.laid (t' := s.toks) (fun _ _ => sortedAll_old) (Nat.le_succ _) ⟨?_, out, n, vals_of_each eo, ?_⟩, rfl, q _ (I.hok.fresh (Nat.le_succ _))⟩
  · rw [List.length_map]
    show (List.mergeSort bs _).length ≤ _
    rw [List.length_mergeSort]
    rw [List.length_map] at hz
    exact hz
  · exact hn
end
end BR
namespace Bn
open PySem PySem.Spec PyProof.Rows L2 BR GX
theorem _root_.GX.SameN.new {Ps : List Addr} {H H' : Hp} {p : Addr} {o : HO} (s : SameN Ps H H') (n : H' p = none) : SameN Ps H (upd H' p o) := s.trans (SameN.of s.t (same_new n))
theorem _root_.GX.SameN.own {Ps : List Addr} {H H' : Hp} {p : Addr} {o u : HO} (s : SameN Ps H H') (n : H p = none) (e : H' p = some u) (hu : NT u) : SameN Ps H (upd H' p o) := by
  refine ⟨fun x y nt h => ?_, fun x q h => ?_, fun P hP => ?_⟩
  · rw [upd_ne (ne_of_none h n)]
    exact s.k _ _ nt h
  · rw [upd_ne (ne_of_none h n)]
    exact s.q _ _ h
  · obtain ⟨ps, h1, h2⟩ := s.t P hP
    refine ⟨ps, ?_, h2⟩
    rw [upd_ne (ne_of h1 e fun z => hu ps (by rw [← z]))]
    exact h1
theorem _root_.GX.SameN.kb {Ps : List Addr} {b : Addr} {H0 H H' : Hp} (s : SameN Ps H0 H) (nb : H0 b = none) (hb : Bx H b) (k : Kb b H H') : SameN Ps H0 H' := by
  refine ⟨fun x y n e => k.k _ _ (ne_of_none e nb) (s.k x y n e), fun x p e => ?_, fun P hP => ?_⟩
  · obtain ⟨p', e'⟩ := s.q x p e
    exact ⟨p', k.k _ _ (ne_of_none e nb) e'⟩
  · obtain ⟨ps, e, h⟩ := s.t P hP
    exact ⟨ps, k.k _ _ (ne_bx hb e (fun _ _ _ z => by cases z)) e, h⟩
theorem _root_.GX.SameN.same {Ps : List Addr} {H0 H H' : Hp} (s : SameN Ps H0 H) (k : Same H H') : SameN Ps H0 H' := s.trans (SameN.of s.t k)
theorem rd_sameN {Ps : List Addr} {H H' : Hp} {a : Addr} {v : HO} (h : Rd H a v) (hv : NT v) (s : SameN Ps H H') : Rd H' a v := by
  rcases h with e | ⟨o, e⟩
  · exact .inl (s.k _ _ hv e)
  · exact .inr ⟨o, s.k _ _ nt_frz e⟩
theorem Same.unlock {H HX : Hp} {a : Addr} {u : HO} {o : Obj} (ha : H a = some u) (s : Same (upd H a (.frz o u)) HX) : Same H (upd HX a u) := fun x y e => by
  by_cases c : x = a
  · subst c
    rw [upd_same, ← ha]
    exact e
  · rw [upd_ne c]
    exact s _ _ (by rw [upd_ne c]; exact e)
end Bn

/-! enumerate(tuple) walked -/
namespace PySem
open PySem.Calls
theorem my_enumNew {v : Value} {o : Obj} {H : Heap → Prop} (B : Begins v o H) :
    Meets (Builtin.«enumerate.__new__» ⟨[.type "enumerate", v], []⟩) (fun _ R s => H s.heap ∧
      R (.ok (.ret (.ref (s.heap.push o).objs.size))) { s with heap := (s.heap.push o).push { cls := .type "enumerate", data := .fields #[.none, .bool false, .ref s.heap.objs.size, rawInt 0, .none, .none] } }) :=
  .of_wp fun prog w A R s h => by
    obtain ⟨hp, g, d, tk, os⟩ := s
    obtain ⟨at0, h⟩ := h
    have subE := sub_enumerate
    have goI : ∀ {A' : Around} {E : Value → Shared → Prop} {Q : Value → Shared → Prop}, Q (.ref hp.objs.size) ⟨hp.push o, g, d, tk, os⟩ → wpAny (model prog w) A' (pyIter v) Q E ⟨hp, g, d, tk, os⟩ :=
      fun q => B.iter prog w _ _ ⟨hp, g, d, tk, os⟩ _ at0 q
    wp_walk using goI
    refine wpAny_stack_any fun st => wpAny_pure ?_
    split
    · rename_i c _ _ _ _ _
      cases (c == Value.type "enumerate")
      · wp_walk using goI
        exact ⟨_, rfl, h⟩
      · wp_walk using goI
        exact ⟨_, rfl, h⟩
    · wp_walk using goI
      exact ⟨_, rfl, h⟩
theorem my_enumCall {prog : Program} {w : World} {A : Around} {E : Value → Shared → Prop} {s : Shared} {v : Value} {o : Obj} {H : Heap → Prop} {Q : Value → Shared → Prop} (B : Begins v o H) (at0 : H s.heap)
    (h : ∀ h', IsEnum h' (s.heap.objs.size + 1) s.heap.objs.size 0 .none → h'.get? s.heap.objs.size = some o →
      (∀ b o, s.heap.get? b = some o → h'.get? b = some o) → Q (.ref (s.heap.objs.size + 1)) { s with heap := h' }) :
    wpAny (model prog w) A (call (.type "enumerate") [v]) Q E s := by
  refine callType_new F.called_enumerate (by decide) (F.typeCall_enumerate_1 _) (F.newCall_enumerate_1 _) (fun obj => F.args_object_init_2 obj _) F.entry_enumerate_new
    (my_enumNew B) ⟨at0, ?_⟩
  have zs : (s.heap.push o).objs.size = s.heap.objs.size + 1 := Heap.size_push ..
  show _ ∧ _
  rw [zs]
  have isE : IsEnum ((s.heap.push o).push { cls := .type "enumerate", data := .fields #[.none, .bool false, .ref s.heap.objs.size, rawInt 0, .none, .none] }) (s.heap.objs.size + 1) s.heap.objs.size 0 .none := by
    have := Heap.get?_push_size (s.heap.push o) (o := { cls := .type "enumerate", data := .fields #[.none, .bool false, .ref s.heap.objs.size, rawInt 0, .none, .none] }) rfl
    rw [zs] at this
    exact this
  exact ⟨⟨_, isE, rfl⟩, h _ isE (Heap.get?_push_of_some _ (Heap.get?_push_size _ B.free)) fun b o x => Heap.get?_push_of_some _ (Heap.get?_push_of_some _ x)⟩
end PySem
namespace RM
open PySem PySem.Spec PyProof.Rows L2
/-- a tuple at a, its items in fits pairs with their numbers -/
def IteT (K : PySem.W.Frag) (a : Addr) (xs : List V) : It where
  go := fun i H => SqT K H a xs ∧ i < xs.length
  yld := fun i H v H' => ∃ T x, v = .ref T ∧ H T = none ∧ H' = upd H T (.tup [.int (i : Nat), x]) ∧ xs[i]? = some x
  stop := fun i H => SqT K H a xs ∧ i = xs.length
theorem turn_enumT {P : Program} {w : World} {K : PySem.W.Frag} {elts : List Expr} {kk : Nat} {tpos : Pos} {a e it : Addr} {xs : List V} (na : a ≠ it) (nae : e ≠ a) :
    Turn P w K (.Tuple elts kk tpos) (IteT K a xs) [e, it] e (fun i h => (∃ was, IsEnum h e it ((i : Nat) : Int) was) ∧ h.IsTupleIter it a i ∧ e ≠ it) where
  mem := by simp
  obj := fun i h st b inB => by
    obtain ⟨⟨was, isE⟩, ⟨o, outE, calm, hd⟩, _⟩ := st
    have two : b = e ∨ b = it := by simpa using inB
    rcases two with z | z
    · rw [z]; exact ⟨_, isE, fun v q => nomatch q⟩
    · rw [z]; exact ⟨o, outE, fun v q => by rw [hd] at q; cases q⟩
  keep := fun i h h' st k => let ⟨⟨was, isE⟩, hi, apart⟩ := st; ⟨⟨was, k e (by simp) _ isE⟩, hi.at fun o q => k it (by simp) o q, apart⟩
  item := by
    intro X eP eW eK calm i pins s σ H E J foot st stands
    subst eP eW eK
    obtain ⟨⟨was, isE⟩, isI, apart⟩ := st
    obtain ⟨qt, hlt⟩ := stands
    obtain ⟨its, rels, p, szl⟩ := J.tuple qt
    have getX : xs[i]? = some xs[i] := List.getElem?_eq_getElem hlt
    obtain ⟨u, getU, relU⟩ := rels.get getX
    have ltE : e < s.heap.objs.size := Heap.lt_size isE
    have ltI : it < s.heap.objs.size := by obtain ⟨_, q, _⟩ := isI; exact Heap.lt_size q
    have hnd : X.A.in1.handled = none := J.ok.hd calm
    have ltU : i < its.toArray.size := by rw [List.size_toArray, ← rels.length]; exact hlt
    refine wpAny_pyNext_enum_itemD (Draws.tuple hnd it a na its.toArray) isE ⟨isI, p⟩ ltU apart (fun z => by
      have two : e = it ∨ e = a := by simpa using z
      rcases two with z | z
      · exact apart z
      · exact nae z) fun v h' tk hv outE hst' pair1 szN same1 => ?_
    have hv2 : its[i]? = some v := by simpa using hv
    rw [getU] at hv2
    cases hv2
    refine ⟨_, rfl, wpAny_letOwnedTupleGo_enum (s := { s with heap := h', toks := tk + 1 }) outE fun hq2 he' sbut => ?_⟩
    have pairAt : hq2.get? s.heap.objs.size = some { cls := .type "tuple", data := .seq #[.int i tk, u] } := (sbut.2 _ (Nat.ne_of_gt ltE)).trans pair1
    have fits : ObjOk X.prog X.w (upd H s.heap.objs.size (.tup [.int (i : Nat), xs[i]])) hq2 s.heap.objs.size (.tup [.int (i : Nat), xs[i]]) :=
      ⟨by show 2 ≤ sizeLine; decide, [.int i tk, u], .cons ⟨_, rfl⟩ (.cons relU .nil), ⟨_, pairAt, rfl, _, rfl⟩⟩
    have J1 : Inv X pins σ (upd H s.heap.objs.size (.tup [.int (i : Nat), xs[i]])) { s with heap := hq2, toks := tk + 1 } :=
      J.turnedNew (ch := [e, it]) (fun b ob inB q => (sbut.2 b (fun z => inB (by simp [z]))).trans (same1 b ob (fun z => inB (by simp [z])) (fun z => inB (by simp [z])) q)) foot (Nat.le_refl _) fits
    refine ⟨.ref s.heap.objs.size, _, J1, rfl, ⟨_, xs[i], rfl, J.hok.fresh (Nat.le_refl _), rfl, getX⟩, ⟨⟨u, ?_⟩, hst'.1.at fun o q => (sbut.2 it (Ne.symm apart)).trans q, apart⟩, fun b inB => ?_⟩
    · have e1 : ((i + 1 : Nat) : Int) = (i : Int) + 1 := by omega
      rw [e1]; exact he'
    · have ltB : b < s.heap.objs.size := by
        have two : b = e ∨ b = it := by simpa using inB
        rcases two with z | z
        · rw [z]; exact ltE
        · rw [z]; exact ltI
      rw [upd_ne (Nat.ne_of_lt ltB)]
      exact (foot b inB).1
  done := by
    intro X eP eW eK calm i pins s σ H E J foot st stands
    subst eP eW eK
    obtain ⟨⟨was, isE⟩, isI, apart⟩ := st
    obtain ⟨qt, getX⟩ := stands
    obtain ⟨its, rels, p, szl⟩ := J.tuple qt
    obtain ⟨g0, g1, g2, g3, g4, g5⟩ := foot it (by simp)
    have hnd : X.A.in1.handled = none := J.ok.hd calm
    have many : its.toArray.size = xs.length := by rw [List.size_toArray, ← rels.length]
    subst getX
    refine wpAny_pyNext_enum_endD (Draws.tuple hnd it a na its.toArray) isE ⟨by rw [many]; exact isI, p⟩ fun h' eb => ⟨rfl, J.turned (t' := s.toks) (fun b o inB q => eb b o inB q) g0 g1 g3 g4 g5⟩
  self := fun A i s Q E st h => let ⟨⟨_, isE⟩, _⟩ := st; wpAny_pyIter_enum isE h
def iEnumT (K : PySem.W.Frag) (ta : TA) : TI := fun σ H R => ta σ H fun vs H1 => ∃ a xs, vs = [.ref a] ∧ SqT K H1 a xs ∧ R (IteT K a xs) H1
theorem pi_enumT {X : Cx} {e : Expr} {ta : TA} {p pos tpos : Pos} {elts : List Expr} {kk : Nat} (stands : Gl X "enumerate") (own1 : X.mg "enumerate" = none) (pArgs : PA X [e] ta) (stars : starEach [e] X.env = [(false, eval e X.env)] := by rfl) :
    PI X (.Tuple elts kk tpos) (.Call (.Name "enumerate" p) [e] [] pos) (iEnumT X.K ta) := by
  refine ⟨fun pins s σ H R J h => ?_⟩
  refine Call_ (ld_blt J stands own1 boot_enumerate (PyProof.Rows.callWith_type1 (thn (pArgs.run pos pins s σ H _ J h) fun us s1 ⟨vs, H1, J1, rel1, want1⟩ => ?_) stars rfl))
  obtain ⟨a, xs, eV, qt, q⟩ := want1
  subst eV
  cases rel1 with
  | cons r rr =>
    cases rr
    cases r
    obtain ⟨its, rels, isT, szl⟩ := J1.tuple qt
    have la : a < s1.heap.objs.size := Heap.lt_size isT.choose_spec.1
    refine my_enumCall (begins_tuple a its.toArray) isT fun h' isE isI same1 => wpAny_pyIter_enum isE ?_
    have J2 : Inv X pins σ H1 { s1 with heap := h' } := J1.kept (t' := s1.toks) same1
    refine ⟨s1.heap.objs.size + 1, [s1.heap.objs.size + 1, s1.heap.objs.size], _, _, H1, rfl, J2, turn_enumT (Nat.ne_of_lt la) (Nat.ne_of_gt (Nat.lt_succ_of_lt la)), ⟨⟨.none, isE⟩, ⟨_, isI, rfl, rfl⟩, Nat.succ_ne_self _⟩, fun b inB => ?_, q⟩
    have two : b = s1.heap.objs.size + 1 ∨ b = s1.heap.objs.size := by simpa using inB
    have hle : s1.heap.objs.size ≤ b := by
      rcases two with z | z
      · rw [z]; exact Nat.le_add_right _ _
      · rw [z]; exact Nat.le_refl _
    exact J1.fpOk hle (J1.hok.fresh hle)
theorem walk_enumT {K : PySem.W.Frag} {a : Addr} {xs : List V} : Walk (IteT K a xs) xs.length (fun H => SqT K H a xs) (YPair (fun i => some (.int (i : Nat))) (fun i => xs[i]?)) :=
  ⟨fun i H hi q => ⟨q, hi⟩, fun H q => ⟨q, rfl⟩, fun i H v H' _ q ⟨T, x, h1, h2, h3, h4⟩ => ⟨T, .int (i : Nat), x, h1, h2, h3, rfl, h4⟩⟩
end RM

/-! == of nested lists, tuples and dicts that are equal -/
namespace PySem.SeqAt
open AutoSeq1 (wpAny_loadPart')
open MeetsSeq MeetsSeq2 MeetsSeq3 SeqRoads2
section
variable {prog : Program} {w : World}
theorem my_tupEq (l b : Addr) (ul vs : Array Value) (n m : Nat) (du dv : Option Addr) (su sv : Array (Option Value)) (hz : ul.size = vs.size) :
    MeetsIn prog w (Builtin.«tuple.__eq__» ⟨[.ref l, .ref b], []⟩) (fun A R s =>
      s.heap.get? l = some { cls := .type "tuple", dict := du, data := .seq ul n, slots := su } ∧ s.heap.get? b = some { cls := .type "tuple", dict := dv, data := .seq vs m, slots := sv } ∧
      (∀ j (p : j < ul.size) (q : j < vs.size), EqP prog w A.in1 s ul[j] vs[j] true) ∧ R (.ok (.ret (.bool true))) s) := by
  intro A R s h
  obtain ⟨pr, g, d, tk, os⟩ := s
  obtain ⟨isL, isB, eqs, h⟩ := h
  have sub2 := AutoSeq1.sub_tuple_tuple
  have zl : (ul.toList.zip vs.toList).length = ul.size := by simp [hz]
  wp_walk using wpAny_loadPart' isL, wpAny_loadPart' isB, wpAny_forIn_list _ (fun rest b s' => b.1 = none ∧ s' = ⟨pr, g, d, tk, os⟩ ∧ ∃ i, rest = (ul.toList.zip vs.toList).drop i) _
  case turn =>
    rintro ⟨y, x⟩ rest b s' ⟨hb', rfl, i, left⟩
    have ltZ : i < (ul.toList.zip vs.toList).length := by
      rcases Nat.lt_or_ge i (ul.toList.zip vs.toList).length with h' | h'
      · exact h'
      · rw [List.drop_of_length_le h'] at left
        cases left
    have h1 : i < ul.size := by rw [← zl]; exact ltZ
    have h2 : i < vs.size := by rw [← hz]; exact h1
    rw [List.drop_eq_getElem_cons ltZ] at left
    injection left with two more
    have eY : y = ul[i] := by have := congrArg Prod.fst two; simpa using this
    have eX : x = vs[i] := by have := congrArg Prod.snd two; simpa using this
    subst eY eX
    refine wpAny_bind (eqs i h1 h2 _ _ ?_)
    wp_walk
    exact ⟨rfl, rfl, i + 1, more⟩
  case fin =>
    rintro ⟨b1, b2⟩ s' ⟨hb', rfl, i, left⟩
    simp only at hb'
    subst hb'
    wp_walk
    simpa [Builtin.Tuple.tupleCompareSizes, hz] using h
  case h => exact ⟨rfl, rfl, 0, rfl⟩
theorem my_rcTup {A : Around} {s : Shared} {l b : Addr} {ul vs : Array Value} (isL : s.heap.IsTuple l ul) (isB : s.heap.IsTuple b vs) (hz : ul.size = vs.size) (hu : A.units < cLine)
    (eqs : ∀ j (p : j < ul.size) (q : j < vs.size), EqP prog w A.in1 s ul[j] vs[j] true) (E Q : Value → Shared → Prop) (h : Q (.bool true) s) : wpAny (model prog w) A (richCompare .Eq (.ref l) (.ref b)) Q E s := by
  obtain ⟨⟨c1, du, x1, su⟩, atL, cL, n, dL⟩ := id isL
  obtain ⟨⟨c2, dv, x2, sv⟩, atB, cB, m, dB⟩ := id isB
  simp only at cL dL cB dB
  subst cL dL cB dB
  have tyL : s.TypeIs (.ref l) "tuple" := ⟨_, atL, rfl⟩
  have tyB : s.TypeIs (.ref b) "tuple" := ⟨_, atB, rfl⟩
  exact wpAny_richCompare_same_room (op := .Eq) tyL tyB F.slot_tuple_eq (call_meetsIn F.slot_tuple_eq tyL F.entry_tuple_eq (F.args_tuple_eq_2 _ _) (my_tupEq l b ul vs n m du dv su sv hz)
    ⟨atL, atB, eqs, show Value.bool true ≠ Value.notImplemented ∧ Q (.bool true) s from ⟨(fun x => nomatch x), h⟩⟩) hu
end
end PySem.SeqAt
namespace RM
open PySem PySem.Spec PyProof.Rows L2
/-- two lists, two tuples of equal items; two dicts of the same keys, their values equal -/
def EqS (K : PySem.W.Frag) (H : Hp) (E : V → V → Prop) (x y : V) : Prop := EqR K H E x y ∨ ∃ a b xs ys, x = .ref a ∧ y = .ref b ∧ SqT K H a xs ∧ SqT K H b ys ∧ Paired E xs ys
def EqN (K : PySem.W.Frag) (H : Hp) : Nat → V → V → Prop
  | 0 => fun _ _ => False
  | n + 1 => fun x y => (x = y ∧ flatB x = true) ∨ (∃ a, x = .ref a ∧ y = .ref a) ∨ EqS K H (EqN K H n) x y
section
variable {X : Cx} {pins : List (Addr × Obj)} {σ : L2.St} {H : Hp} {s : Shared}
theorem eqS_run (I : Inv X pins σ H s) {A : Around} {F : V → V → Prop} (hu : A.units < cLine) (below : ∀ x y v u, F x y → RelV x v → RelV y u → SeqAt.EqP X.prog X.w A.in1 s v u true) {x y : V} {v u : Value} (h : EqS X.K H F x y) (rx : RelV x v) (ry : RelV y u)
    (E Q : Value → Shared → Prop) (q : Q (.bool true) s) : wpAny (model X.prog X.w) A (richCompare .Eq v u) Q E s := by
  rcases h with h | ⟨a, b, xs, ys, rfl, rfl, ha, isB, pr⟩
  · exact eqR_run I hu below h rx ry E Q q
  · cases (show v = Value.ref a from rx)
    cases (show u = Value.ref b from ry)
    obtain ⟨ul, relX, tupX, _⟩ := I.tuple ha
    obtain ⟨wl, relY, tupY, _⟩ := I.tuple isB
    have sizes : ul.toArray.size = wl.toArray.size := by
      rw [List.size_toArray, List.size_toArray, ← relX.length, ← relY.length]
      exact Paired.length pr
    refine SeqAt.my_rcTup tupX tupY sizes hu (fun j h1 h2 => ?_) E Q q
    have k := items_run below pr relX relY j (by simpa using h1) (by simpa using h2)
    simpa using k
theorem eqN_run (I : Inv X pins σ H s) : ∀ (n : Nat) (A : Around), A.units + n < cLine → ∀ (x y : V) (v u : Value), EqN X.K H n x y → RelV x v → RelV y u → SeqAt.EqP X.prog X.w A s v u true
  | 0, _, _, _, _, _, _, h, _, _ => (show False from h).elim
  | n + 1, A, hu, x, y, v, u, h, rx, ry => by
    rcases h with ⟨rfl, f⟩ | ⟨a, rfl, rfl⟩ | h
    · exact (eqAt_same rx ry f).eqP
    · cases (show v = Value.ref a from rx)
      cases (show u = Value.ref a from ry)
      exact (SeqAt.EqAt.same _).eqP
    · have stp := eqS_run I (A := A) (by omega) (eqN_run I n A.in1 (by show A.units + 1 + n < cLine; omega)) h rx ry
      obtain ⟨a, b, rfl, rfl⟩ : ∃ a b, x = .ref a ∧ y = .ref b := by
        rcases h with (⟨a, b, _, _, e1, e2, _⟩ | ⟨a, b, _, _, e1, e2, _⟩) | ⟨a, b, _, _, e1, e2, _⟩
        · exact ⟨a, b, e1, e2⟩
        · exact ⟨a, b, e1, e2⟩
        · exact ⟨a, b, e1, e2⟩
      cases (show v = Value.ref a from rx)
      cases (show u = Value.ref b from ry)
      by_cases e : a = b
      · subst e
        exact (SeqAt.EqAt.same _).eqP
      · exact SeqAt.eqP_refs e stp
end
section
variable {X : Cx}
/-- a == b, two lists, tuples or dicts that are equal -/
def rEqN (K : PySem.W.Frag) : R2 := fun x y H Q => ∃ n, n ≤ 60 ∧ EqS K H (EqN K H n) x y ∧ Q (.bl true) H
theorem op_eqN (hu : X.A.units + 64 < cLine) : OpR X (compareOp .Eq) (rEqN X.K) := by
  intro pins s σ H x y v u Q I rx ry h
  obtain ⟨n, hn, h, q⟩ := h
  exact eqS_run I (A := X.A) (by omega) (eqN_run I n X.A.in1 (by show X.A.units + 1 + n < cLine; omega)) h rx ry _ _ ⟨.bl true, H, I, rfl, q⟩
end
end RM

/-! sorted of whatever can be gathered, its items being data -/
namespace BR
open PySem PySem.Spec PyProof.Rows L2
theorem my_sorted {prog : Program} {w : World} {A : Around} {E : Value → Shared → Prop} {s : Shared} {v : Value} {Q : Value → Shared → Prop}
    (got : wpAny (model prog w) A.in1 (collect v) (fun us s1 => ∃ bs : List VD, PySem.W.EachIs (fun v (b : VD) => RelV b.1 v) us bs ∧ PySem.W.EachIs (fun v (b : VD) => ∃ as, Reads s1.heap v b.2 as) us bs ∧ PySem.W.AllAlike (bs.map (·.2)) ∧ PySem.W.Sortable (bs.map (·.2)) ∧ bs.length ≤ sizeLine ∧
      (∀ b ∈ bs, A.units + 2 + b.2.depth < cLine) ∧ ∀ out h' n, PySem.W.EachIs (fun v (b : VD) => RelV b.1 v) out (sortD bs) → (∀ b o, s1.heap.get? b = some o → h'.get? b = some o) → h'.get? s1.heap.objs.size = some (seqObj "list" out.toArray n) → Q (.ref s1.heap.objs.size) { s1 with heap := h' }) E s) :
    wpAny (model prog w) A (call (.builtin "sorted") [v]) Q E s := by
  refine call_function_entry_kw kind_sorted plain_sorted entry_sorted (args_sorted1 _) ?_
  unfold Builtin.«sorted»
  refine wpAny_bind (m := checkCount "sorted" 1 1 _) (wpAny_pure ?_)
  refine wpAny_bind (wpAny_mono got (fun us s1 h1 => ?_) fun _ _ e => e)
  obtain ⟨bs, e1, e2, hal, hso, hL, hu, q⟩ := h1
  have hlen : us.length ≤ sizeLine := by rw [e1.length]; exact hL
  refine wpAny_bind (wpAny_newList ?_ hlen)
  have at1 : (s1.heap.push (seqObj "list" us.toArray 0)).get? s1.heap.objs.size = some (seqObj "list" us.toArray 0) := Heap.get?_push_size _ rfl
  have old1 : ∀ b o, s1.heap.get? b = some o → (s1.heap.push (seqObj "list" us.toArray 0)).get? b = some o := fun b o e => Heap.get?_push_of_some _ e
  refine wpAny_bind (wpAny_holding (wpAny_call_entry_kw slot_list_sort ⟨_, at1, rfl⟩ entry_list_sort ?_ (args_list_sort _)))
  have er' : PySem.W.EachIs (fun v (b : VD) => ∃ as, Reads (PySem.W.sortingHeap (s1.heap.push (seqObj "list" us.toArray 0)) s1.heap.objs.size us) v b.2 as) us bs := e2.mono fun _ _ ⟨as, r⟩ => ⟨as, PyProof.Rows.Reads.keeps (fun b o h => PySem.W.sortingHeap_old (Nat.ne_of_lt (Heap.lt_size h)) (old1 b o h)) r⟩
  refine PySem.W.list_sort_vals (κ := PySem.W.dataKind (PySem.W.sortingHeap (s1.heap.push (seqObj "list" us.toArray 0)) s1.heap.objs.size us) (bs.map (·.2))) (A := A.in1.in1) at1 (PySem.W.SortsAt.data (s := { s1 with heap := PySem.W.sortingHeap (s1.heap.push (seqObj "list" us.toArray 0)) s1.heap.objs.size us }) (PySem.W.each_map (R := fun v d => ∃ as, Reads (PySem.W.sortingHeap (s1.heap.push (seqObj "list" us.toArray 0)) s1.heap.objs.size us) v d as) (fun b : VD => b.2) er') hal hso ?_) hlen ?_
  · intro d hd
    obtain ⟨b, hb, rfl⟩ := List.mem_map.mp hd
    exact hu b hb
  · obtain ⟨n, hn⟩ := sortedHeap_at (out := (PySem.W.sortVals (PySem.W.dataKind (PySem.W.sortingHeap (s1.heap.push (seqObj "list" us.toArray 0)) s1.heap.objs.size us) (bs.map (·.2))) false us us).toArray) at1
    refine ⟨_, rfl, wpAny_pure ⟨_, rfl, ?_⟩⟩
    refine q (PySem.W.sortVals (PySem.W.dataKind (PySem.W.sortingHeap (s1.heap.push (seqObj "list" us.toArray 0)) s1.heap.objs.size us) (bs.map (·.2))) false us us) _ n (PySem.W.sortVals_data (enc := fun b : VD => b.2) false e1 er' hal) (fun b o h => ?_) hn
    exact (sortedHeap_old (Nat.ne_of_lt (Heap.lt_size h)) (Heap.lt_size (old1 b o h))).trans (old1 b o h)
section
variable {X : Cx}
/-- sorted(x), x a list or a tuple of data -/
def rSortedDT (K : PySem.W.Frag) : List V → Hp → VK → Prop := fun vs H Q => ∃ (a : Addr) (bs : List VD), vs = [V.ref a] ∧ (SqL K H a (bs.map (·.1)) ∨ SqT K H a (bs.map (·.1))) ∧ (∀ b ∈ bs, Dp K H b.1 b.2 ∧ b.2.depth ≤ 60) ∧ PySem.W.AllAlike (bs.map (·.2)) ∧ PySem.W.Sortable (bs.map (·.2)) ∧
  ∀ p, H p = none → Q (.ref p) (upd H p (.lst ((sortD bs).map (·.1))))
theorem cr_sortedDT (hu : X.A.units + 64 < cLine) : CallR X (.builtin "sorted") (rSortedDT X.K) := by
  intro pins s σ H vs us Q I r h
  obtain ⟨a, bs, rfl, hs, hd, hal, hso, q⟩ := h
  obtain ⟨u, rfl, ru⟩ := vals1 r
  obtain rfl : u = Value.ref a := ru
  have key : ∀ (T : String) (its : List Value) (o : Obj) (n : Nat), (T = "list" ∨ T = "tuple") → Vals (bs.map (·.1)) its → s.heap.get? a = some o → o.cls = .type T → o.data = .seq its.toArray n → (bs.map (·.1)).length ≤ sizeLine → wpAny (model X.prog X.w) X.A (call (.builtin "sorted") [Value.ref a]) (EP X pins σ Q) X.xe s := by
    intro T its o n hT rv ho hc hdd hz
    have hl := rv.length
    refine my_sorted (wpAny_collect_seq a hT ho hc hdd (fun h' hk => ?_) (by rw [List.size_toArray]; omega))
    have e : its.toArray.toList = its := by simp
    rw [e]
    have J : Inv X pins σ H { s with heap := h' } := I.kept (t' := s.toks) hk
    have e1 := each_of_vals rv
    refine ⟨bs, e1, (PySem.W.each_mem e1).mono fun v b ⟨r, hb⟩ => Dp.reads J b.2 b.1 v (hd b hb).1 r, hal, hso, by rw [List.length_map] at hz; exact hz, fun b hb => by have := (hd b hb).2; omega, fun out h2 n2 eo k2 hn => ?_⟩
    refine ⟨.ref h'.objs.size, upd H h'.objs.size (.lst ((sortD bs).map (·.1))), J.laid (t' := s.toks) k2 (Nat.le_refl _) ⟨?_, out, n2, vals_of_each eo, hn⟩, rfl, q _ (J.hok.fresh (Nat.le_refl _))⟩
    rw [List.length_map]
    show (List.mergeSort bs _).length ≤ _
    rw [List.length_mergeSort]
    rw [List.length_map] at hz
    exact hz
  rcases hs with hs | hs
  · obtain ⟨its, rv, pl, hz⟩ := I.list hs
    obtain ⟨o, ho, hc, n, hdd⟩ := pl.isList
    exact key "list" its o n (.inl rfl) rv ho hc hdd hz
  · obtain ⟨its, rv, pl, hz⟩ := I.tuple hs
    obtain ⟨o, ho, hc, n, hdd⟩ := pl
    exact key "tuple" its o n (.inr rfl) rv ho hc hdd hz
end
end BR

/-! sorted(d.items()), d a dict from texts to texts; data of tuples alone -/
namespace BR
open PySem PySem.Spec PyProof.Rows L2 LiI
section
variable {X : Cx} {e : Expr} {te : TE} {p apos cpos pos : Pos}
theorem tups_laid {pins : List (Addr × Obj)} {σ : L2.St} {H : Hp} {s : Shared} {h' : Heap} {tk : Nat} {kvs : List (Key × V)} {vs : List (Key × Value)} {as : List Addr} (J : Inv X pins σ H s) (kv : KV kvs vs) (up : ∀ b o, s.heap.get? b = some o → h'.get? b = some o) (many : as.length = vs.length) (G : PySem.W.KdxG (mixKind X.prog X.w) vs s.heap.objs.size h' as) :
    ∃ H' : Hp, (∀ b o, H b = some o → H' b = some o) ∧ (∀ t ∈ as, H t = none) ∧ Paired (fun (t : Addr) (q : Key × V) => H' t = some (.tup [kV q.1, q.2])) as kvs ∧ Inv X pins σ H' { s with heap := h', toks := tk } := by
  have lk : kvs.length = vs.length := Paired.length kv
  have nod : as.Nodup := List.Pairwise.imp (fun {a b} (h : a < b) => Nat.ne_of_lt h) G.rise
  have young : ∀ t ∈ as, H t = none := fun t ht => J.hok.fresh (Nat.le_of_lt (G.above t ht))
  have here := putT_at as kvs H (by omega) nod
  have away : ∀ b, b ∉ as → putT H as kvs b = H b := fun b h1 => putT_off as kvs _ h1
  have stay : ∀ b u, H b = some u → putT H as kvs b = some u := fun b u e => by
    rw [away b fun z => by rw [young b z] at e; cases e]
    exact e
  refine ⟨putT H as kvs, stay, young, here, ?_⟩
  refine J.call' (ch := []) rfl ⟨fun b o q _ _ _ => up b o q, fun b o q _ _ _ => ⟨o.slots, up b o q⟩, fun b o q n _ => ?_, fun b o q _ => ⟨o, up b o q⟩, fun b xs q => stay b _ q, fun b o u q => stay b _ q, fun b ps q => ⟨#[], by rw [stay b _ q]; simp⟩⟩ (fun b u q => ?_) J.bare fun b z => by simp at z
  · rw [away b fun z => absurd (Heap.lt_size q) (Nat.not_lt.mpr (Nat.le_of_lt (G.above b z)))]
    exact n
  · by_cases inAs : b ∈ as
    · obtain ⟨j, pk, e1, e2, e3⟩ := paired_ix here inAs
      rw [e3] at q
      cases q
      obtain ⟨key, k, x, f1, f2, f3⟩ := G.pairs j b e1
      obtain ⟨qv, g1, g2, g3⟩ := LiI.paired_get kv e2
      rw [f1] at g1
      cases g1
      have rk : RelV (kV pk.1) key := by
        rw [g2]
        exact relV_key (show keyIs k key = true from f2)
      exact ⟨by show 2 ≤ sizeLine; decide, [key, x], .cons rk (.cons g3 .nil), ⟨_, f3, rfl, _, rfl⟩⟩
    · rw [away b inAs] at q
      exact (J.hok b u q).stay (fun d v _ y => up d v y) (fun d y => stay d _ y) fun d xs y => stay d _ y
abbrev SS := List (Str × Str)
abbrev kvSS (ms : SS) : List (Key × V) := ms.map fun m => (.inr m.1, .str m.2)
abbrev Tss (H : Hp) (ts : List Addr) (ms : SS) : Prop := Paired (fun t m => H t = some (.tup [.str (m : Str × Str).1, .str m.2])) ts ms
def tSortedItems (te : TE) : TE := fun σ H Q => te σ H fun x H1 => ∃ (d : Addr) (ms : SS), x = .ref d ∧ H1 d = some (.dK (kvSS ms)) ∧
  ∀ (H' : Hp) (p : Addr) (ts : List Addr) (ms' : SS), (∀ b o, H1 b = some o → H' b = some o) → H1 p = none → H' p = some (.lst (ts.map V.ref)) → Tss H' ts ms' → ms'.Perm ms → Q (.ref p) H'
theorem alike_ss (a b : Str × Str) : PySem.W.alike (.tuple [.str a.1, .str a.2]) (.tuple [.str b.1, .str b.2]) = true := rfl
theorem pe_sortedItems (hr : X.A.units + 64 < cLine) (hc : X.calm = true) (he : PE X e te) (hg : Gl X "sorted") (hm : X.mg "sorted" = none) (hbase : attributeBase e "items" X.env (eval e X.env) = eval e X.env := by rfl) (hline : (apos.endLine == cpos.line) = true := by rfl)
    (hs : starEach [.Call (.Attribute e "items" apos) [] [] cpos] X.env = (false, eval (.Call (.Attribute e "items" apos) [] [] cpos) X.env) :: starEach [] X.env := by rfl) :
    PE X (.Call (.Name "sorted" p) [.Call (.Attribute e "items" apos) [] [] cpos] [] pos) (tSortedItems te) := by
  refine ⟨fun pins s σ H Q J hq => ?_⟩
  refine wpAny_Call_Name_kw (ld_blt J hg hm (by decide +kernel : bootBuiltins "sorted" = some (.builtin "sorted")) ?_)
  refine PyProof.Rows.callWith_builtin1 ?_ hs (by rfl)
  rw [hs]
  show wpAny _ _ (spliced ((false, eval (.Call (.Attribute e "items" apos) [] [] cpos) X.env) :: backTo pos (starEach [] X.env))) _ _ s
  refine Calls.spliced_cons ?_
  refine wpAny_Call_method (T := "dict") (id := "dict.items") hbase rfl hline F.plainAttrs_dict F.slot_dict_items F.type_dict_items (thn (he.run pins s σ H _ J hq) fun u s1 ⟨x, H1, J1, rx, d, ms, ex, hd, q⟩ => ?_)
  subst ex
  obtain rfl : u = Value.ref d := rx
  obtain ⟨size, off0, vs, kv, isD⟩ := J1.hok d _ hd
  obtain ⟨ep, hat⟩ := isD.dictAt
  have lk : (kvSS ms).length = vs.length := Paired.length kv
  have J2 : Inv X pins σ H1 { s1 with heap := s1.heap.push { cls := .type "dict_items", data := .fields #[.ref d] } } := J1.kept (t' := s1.toks) fun b ob q => Heap.get?_push_of_some _ q
  refine ⟨isD.typeIs, isD.mapOf.noDict, ?_⟩
  show wpAny _ _ (callWith cpos (.builtin "dict.items") [.ref d] [] []) _ X.xe s1
  refine method_meetsIn F.slot_dict_items F.entry_dict_items rfl (PySem.evalArgs_none ⟨rfl, isD.typeIs, F.args_dict_items_1 _, _, meets_dict_items (mixKind X.prog X.w) d off0, ⟨vs, isD⟩, ?_⟩)
  refine Calls.spliced_nil ?_
  refine my_sorted (PySem.W.kdx_collect (A := X.A.in1) (knd := mixKind X.prog X.w) (kvs := vs) (ep := ep) (J1.ok.hd hc) ⟨_, Heap.get?_push_size _ rfl, rfl, rfl⟩ (hat.push _) (by omega) fun h' tk as up many G => ?_)
  obtain ⟨H2, k1, k2, k3, J3⟩ := tups_laid (tk := tk) J2 kv up many G
  have k4 : Tss H2 as ms := by
    have : Paired (fun (t : Addr) (m : Str × Str) => H2 t = some (.tup [.str m.1, .str m.2])) as ms := by
      have aux : ∀ {as : List Addr} {ms : SS}, Paired (fun (t : Addr) (q : Key × V) => H2 t = some (.tup [kV q.1, q.2])) as (kvSS ms) → Tss H2 as ms := by
        intro as ms
        induction ms generalizing as with
        | nil => intro h; cases h; exact .nil
        | cons m ms ih =>
          intro h
          cases h with
          | cons x t => exact .cons x (ih t)
      exact aux k3
    exact this
  have lms : as.length = ms.length := Paired.length k4
  have e0 : ((as.zip ms).map fun q => ((V.ref q.1, PyData.tuple [.str q.2.1, .str q.2.2]) : VD)).map (·.1) = as.map V.ref := by
    have z : ∀ {as : List Addr} {ms : SS}, as.length = ms.length → ((as.zip ms).map fun q => ((V.ref q.1, PyData.tuple [.str q.2.1, .str q.2.2]) : VD)).map (·.1) = as.map V.ref := by
      intro as
      induction as with
      | nil => intro ms _; rfl
      | cons a as ih =>
        intro ms h
        cases ms with
        | nil => cases h
        | cons m ms =>
          rw [List.zip_cons_cons, List.map_cons, List.map_cons, List.map_cons, ih (Nat.succ.inj h)]
    exact z lms
  have e1 : PySem.W.EachIs (fun v (b : VD) => RelV b.1 v) (as.map Value.ref) ((as.zip ms).map fun q => ((V.ref q.1, PyData.tuple [.str q.2.1, .str q.2.2]) : VD)) := each_of_vals (by rw [e0]; exact LiI.vals_refs as)
  have mem : ∀ q ∈ as.zip ms, H2 q.1 = some (.tup [.str q.2.1, .str q.2.2]) := by
    have z : ∀ {as : List Addr} {ms : SS}, Tss H2 as ms → ∀ q ∈ as.zip ms, H2 q.1 = some (.tup [.str q.2.1, .str q.2.2]) := by
      intro as ms h
      induction h with
      | nil => intro q hq; cases hq
      | cons x _ ih =>
        intro q hq
        rw [List.zip_cons_cons] at hq
        rcases List.mem_cons.mp hq with z | z
        · rw [z]; exact x
        · exact ih q z
    exact z k4
  have dp : ∀ b ∈ ((as.zip ms).map fun q => ((V.ref q.1, PyData.tuple [.str q.2.1, .str q.2.2]) : VD)), Dp X.K H2 b.1 b.2 ∧ b.2.depth ≤ 1 := fun b hb => by
    obtain ⟨q, hq, rfl⟩ := List.mem_map.mp hb
    exact ⟨.tup (.inl (.inl (mem q hq))) (.cons (.str _) (.cons (.str _) .nil)), Nat.le_refl 1⟩
  refine ⟨_, e1, (PySem.W.each_mem e1).mono fun v b ⟨r, hb⟩ => Dp.reads J3 b.2 b.1 v (dp b hb).1 r, ?_, ?_, ?_, fun b hb => by have := (dp b hb).2; omega, fun out h2 n eo up2 hn => ?_⟩
  · rw [List.map_map]
    exact PySem.W.AllAlike.of (enc := fun q : Addr × Str × Str => PyData.tuple [.str q.2.1, .str q.2.2]) fun b b' => alike_ss _ _
  · rw [List.map_map]
    exact PySem.W.Sortable.tuples (enc := fun q : Addr × Str × Str => PyData.tuple [.str q.2.1, .str q.2.2]) fun b => ⟨_, _, rfl⟩
  · rw [List.length_map, List.length_zip]
    rw [List.length_map] at size lk
    omega
  · let S := (as.zip ms).mergeSort fun q r => PySem.W.dataLe false (fun q : Addr × Str × Str => PyData.tuple [.str q.2.1, .str q.2.2]) q r
    have eS : sortD ((as.zip ms).map fun q => ((V.ref q.1, PyData.tuple [.str q.2.1, .str q.2.2]) : VD)) = S.map fun q => ((V.ref q.1, PyData.tuple [.str q.2.1, .str q.2.2]) : VD) := by
      show List.mergeSort _ _ = _
      exact (List.map_mergeSort (f := fun q : Addr × Str × Str => ((V.ref q.1, PyData.tuple [.str q.2.1, .str q.2.2]) : VD)) (r := fun q r => PySem.W.dataLe false (fun q : Addr × Str × Str => PyData.tuple [.str q.2.1, .str q.2.2]) q r) (s := PySem.W.dataLe false (·.2)) fun a _ b _ => rfl).symm
    have pS : S.Perm (as.zip ms) := List.mergeSort_perm _ _
    have eF : (sortD ((as.zip ms).map fun q => ((V.ref q.1, PyData.tuple [.str q.2.1, .str q.2.2]) : VD))).map (·.1) = (S.map (·.1)).map V.ref := by
      rw [eS, List.map_map, List.map_map]
      rfl
    have vl := vals_of_each eo
    rw [eF] at vl
    refine ⟨.ref h'.objs.size, upd H2 h'.objs.size (.lst ((S.map (·.1)).map V.ref)), J3.laid (t' := tk) up2 (Nat.le_refl _) ⟨?_, out, n, vl, hn⟩, rfl, ?_⟩
    · rw [List.length_map, List.length_map, pS.length_eq, List.length_zip]
      rw [List.length_map] at size lk
      omega
    · have fresh : H2 h'.objs.size = none := J3.hok.fresh (Nat.le_refl _)
      refine q _ _ (S.map (·.1)) (S.map (·.2)) (fun b o hb => ?_) ?_ upd_same ?_ ?_
      · rw [upd_ne (ne_of_none (k1 _ _ hb) fresh)]
        exact k1 _ _ hb
      · cases z : H1 h'.objs.size with
        | none => rfl
        | some o =>
          rw [k1 _ _ z] at fresh
          cases fresh
      · have all : ∀ r ∈ S, (upd H2 h'.objs.size (.lst ((S.map (·.1)).map V.ref))) r.1 = some (.tup [.str r.2.1, .str r.2.2]) := fun r hr => by
          have := mem r (pS.mem_iff.mp hr)
          rw [upd_ne (ne_of_none this fresh)]
          exact this
        have unz : ∀ S : List (Addr × Str × Str), (∀ r ∈ S, (upd H2 h'.objs.size (.lst ((S.map (·.1)).map V.ref))) r.1 = (upd H2 h'.objs.size (.lst ((S.map (·.1)).map V.ref))) r.1) → True := fun _ _ => trivial
        generalize upd H2 h'.objs.size (.lst ((S.map (·.1)).map V.ref)) = HU at all
        clear_value S
        clear eS pS eF vl unz
        induction S with
        | nil => exact .nil
        | cons r S ih => exact .cons (all r (List.mem_cons_self ..)) (ih fun q hq => all q (List.mem_cons_of_mem _ hq))
      · have z : (as.zip ms).map (·.2) = ms := by
          have zz : ∀ {as : List Addr} {ms : SS}, as.length = ms.length → (as.zip ms).map (·.2) = ms := by
            intro as
            induction as with
            | nil => intro ms h; cases ms with
              | nil => rfl
              | cons _ _ => cases h
            | cons a as ih =>
              intro ms h
              cases ms with
              | nil => cases h
              | cons m ms => rw [List.zip_cons_cons, List.map_cons, ih (Nat.succ.inj h)]
          exact zz lms
        rw [← z]
        exact pS.map _
end
end BR

/-! tuple(list), the new object known; a method of such a tuple -/
namespace BR
open PySem PySem.Spec PyProof.Rows L2
section
variable {X : Cx}
theorem call_tupleF : CallR X (.type "tuple") (fun xs H Q => ∃ (p : Addr) (ys : List V), xs = [.ref p] ∧ SqL X.K H p ys ∧ ∀ (l : Addr) (ob : Obj), H l = none → ob.cls = .type "tuple" → ob.dict = none → Q (.ref l) (upd H l (.frz ob (.tup ys)))) := by
  intro pins s σ H xs us Q J r h
  obtain ⟨p, ys, rfl, seq, q⟩ := h
  obtain ⟨u, rfl, rx⟩ := vals1 r
  cases rx
  obtain ⟨its, rels, isL, size⟩ := J.list seq
  have many := rels.length
  refine call_tuple_list isL.isList (fun h' up => ?_) (by simp only [List.size_toArray] <;> omega)
  have J1 : Inv X pins σ H { s with heap := h' } := J.kept (t' := s.toks) up
  have J2 : Inv X pins σ (upd H h'.objs.size (.frz { cls := .type "tuple", data := .seq its.toArray } (.tup ys))) { s with heap := h'.push { cls := .type "tuple", data := .seq its.toArray } } :=
    J1.laid (t' := s.toks) (fun b o e => Heap.get?_push_of_some _ e) (Nat.le_refl _) (show ObjOk X.prog X.w _ _ _ (.frz _ (.tup ys)) from ⟨Heap.get?_push_size _ rfl, size, its, rels, IsTup.new _ _⟩)
  exact ⟨.ref h'.objs.size, _, J2, rfl, q _ _ (J1.hok.fresh (Nat.le_refl _)) rfl rfl⟩
def tBMF (T : String) (r : V → List V → Hp → VK → Prop) (to : TE) (t : TA) : TE := fun σ H Q => to σ H fun x H1 => (∃ (p : Addr) (ob : Obj) (u : HO), x = .ref p ∧ H1 p = some (.frz ob u) ∧ ob.cls = .type T ∧ ob.dict = none) ∧ t σ H1 fun xs H2 => r x xs H2 Q
theorem pe_bmF {o e : Expr} {es : List Expr} {to : TE} {t : TA} {name : Str} {apos cpos : Pos} {T id : String} {r : V → List V → Hp → VK → Prop} (pa : PlainAttrs T) (slot : Slot T name id) (ty : typeOf (.builtin id) = pure (.type "method_descriptor")) (m : MtR X id r) (ho : PE X o to) (ha : PA X (e :: es) t)
    (h1 : attributeBase o name X.env (eval o X.env) = eval o X.env := by rfl)
    (h2 : ((backTo cpos (starEach (e :: es) X.env)).all (fun x => !x.1) && (backToKw cpos (keywordEach [] X.env)).all (fun x => x.1.isSome) && decide ((e :: es).length + ([] : List Keyword).length + (if ([] : List Keyword).isEmpty then 0 else 1) < 30)) = true := by rfl)
    (h3 : (apos.endLine == cpos.line) = true := by rfl) (h4 : starEach (e :: es) X.env = (false, eval e X.env) :: starEach es X.env := by rfl) (h5 : (backTo cpos (starEach es X.env)).any (·.1) = false := by rfl) :
    PE X (.Call (.Attribute o name apos) (e :: es) [] cpos) (tBMF T r to t) := by
  refine ⟨fun pins s σ H Q J h => ?_⟩
  refine wpAny_Call_method_late h1 h2 h3 rfl (thn (ho.run pins s σ H _ J h) fun v s1 ⟨x, H1, J1, r1, ⟨p, ob, u, ex, at1, isT, noD⟩, q1⟩ => ?_)
  subst ex
  obtain rfl : v = Value.ref p := r1
  obtain ⟨get, _⟩ := (show ObjOk X.prog X.w H1 s1.heap p (.frz ob u) from J1.hok p _ at1)
  refine ⟨T, id, pa, slot, ty, ⟨ob, get, isT⟩, fun b eb => ?_, ?_⟩
  · cases eb
    exact ⟨ob, get, noD⟩
  have run := ha.run cpos pins s1 σ H1 _ J1 q1
  rw [h4] at run ⊢
  refine Calls.callWith_builtin (by show (false || (backTo cpos (starEach es X.env)).any (·.1)) = false; rw [h5] <;> rfl) (Calls.evalArgs_plain ?_)
  exact thn run fun us s2 ⟨vs, H2, J2, r2, q2⟩ => m pins s2 σ H2 (.ref p) vs (.ref p) us Q J2 rfl r2 q2
end
end BR

namespace GY
open PySem PySem.Spec PyProof.Rows L2 GenW GX
/-- two calls deeper -/
abbrev up (X : Cx) : Cx := { X with A := X.A.in1.in1 }
theorem inv_up {X : Cx} {pins : List (Addr × Obj)} {σ : L2.St} {H : Hp} {s : Shared} (I : Inv X pins σ H s) : Inv (up X) pins σ H s :=
  { ok := { mod := I.ok.mod, kind := I.ok.kind, glob := I.ok.glob, blt := I.ok.blt, above := I.ok.above, inj := I.ok.inj, has := I.ok.has, cab := I.ok.cab, hd := I.ok.hd, frames := I.ok.frames, stk := I.ok.stk, exf := I.ok.exf, bs := I.ok.bs, bsz := I.ok.bsz, noex := I.ok.noex, exfs := I.ok.exfs, funs := I.ok.funs, frf := I.ok.frf }, os := I.os, bare := I.bare, base := I.base, loc := I.loc, cell := I.cell, free := I.free, freeC := I.freeC, pin := I.pin, hok := I.hok, len := I.len }
theorem inv_down {X : Cx} {pins : List (Addr × Obj)} {σ : L2.St} {H : Hp} {s : Shared} (I : Inv (up X) pins σ H s) : Inv X pins σ H s :=
  { ok := { mod := I.ok.mod, kind := I.ok.kind, glob := I.ok.glob, blt := I.ok.blt, above := I.ok.above, inj := I.ok.inj, has := I.ok.has, cab := I.ok.cab, hd := I.ok.hd, frames := I.ok.frames, stk := I.ok.stk, exf := I.ok.exf, bs := I.ok.bs, bsz := I.ok.bsz, noex := I.ok.noex, exfs := I.ok.exfs, funs := I.ok.funs, frf := I.ok.frf }, os := I.os, bare := I.bare, base := I.base, loc := I.loc, cell := I.cell, free := I.free, freeC := I.freeC, pin := I.pin, hok := I.hok, len := I.len }
section
variable {X : Cx}
theorem gen_madeU {c P : Addr} {elt tg iter : Expr} {ifs : List Expr} {scope : Scope} {own : List (Str × Nat)} {gpos : Pos} {wi : TI} {g : TG} {tt : TT} {te : TE} {k : Nat}
    (hr : Room k X.A) (TB : GxR.TabB X.base X.mg c P) (hcode : X.env.code = .ref c) (hc : X.calm = true) (hN : X.N.Nodup) (hi : PI X tg iter wi) (ok : BlkOk X.N X.env.scope scope own)
    (hco : scope.isCoroutine = false) (nc : ∀ y ∈ scope.names, y.2 ≠ .cell) (h0 : scope.names.lookup (".0" : Str) = some NameKind.local)
    (hg : ∀ (s : Shared) (H : Hp) (C : Addr) (cl : List (Str × Addr)) (code : Value) (fp : List Addr), PG (gcx (up X) s H (genEnv scope cl C code builtinsNs X.env) fp) tg g)
    (ht : ∀ (s : Shared) (H : Hp) (C : Addr) (cl : List (Str × Addr)) (code : Value) (fp : List Addr), PTs (gcx (up X) s H (genEnv scope cl C code builtinsNs X.env) fp) ifs tt)
    (he : ∀ (s : Shared) (H : Hp) (C : Addr) (cl : List (Str × Addr)) (code : Value) (fp : List Addr), PE (gcx (up X) s H (genEnv scope cl C code builtinsNs X.env) fp) elt te)
    (hs : ∀ v, genFold iter X.env v = pure v)
    {pins : List (Addr × Obj)} {s : Shared} {σ : L2.St} {H : Hp} {Kt : It → Hp → Prop} (I : Inv X pins σ H s) (h : wi σ H fun J H1 => GxR.TabG H1 P ∧ ∀ H2, GxR.Tabbed P H1 H2 → Kt J H2)
    {Q : Value → Shared → Prop} (hq : ∀ (J : It) (fp : List Addr) (H3 : Hp) (ga gi : Nat) (Y : Cx) (go : Obj) (s5 : Shared), Kt J H3 → GenAt (up X) pins σ J g tt te (own.map (·.2)) fp H3 ga gi Y go s5 → Q (.ref ga) s5) :
    wpAny (model X.prog X.w) X.A (eval (.GeneratorExp elt [⟨tg, iter, ifs, 0⟩] scope gpos) X.env) Q X.xe s := by
  have caught : ∀ n ∈ scope.names, n.2 = .free → ∃ c, X.env.cells.lookup n.1 = some c := fun n hn hf => I.ok.has _ ((ok.free n hn hf).elim .inl .inr)
  refine wpAny_GeneratorExp_make hco (closure_ok caught) nc h0 ok.kind hr.depth ?_ hs
  refine thn (hi.run pins s σ H _ I h) fun xv s1 hx => thn hx fun itv s2 h2 => ?_
  obtain ⟨it, fp, tn, J, H2, e, I2, T, st2, f2, ⟨ps, hP, ht2⟩, q⟩ := h2
  subst e
  refine ⟨I2.nolimit, ?_⟩
  have hPs : s2.heap.get? P = some { cls := .none, data := .fields ps } := I2.hok P _ hP
  have cd : PySem.W.CodeHd s2.heap c P := TB.code.keeps fun b u e => I2.bk b u e
  have nfP : ∀ b ∈ fp, b ≠ P := fun b hb z => by
    have := (f2 b hb).1
    rw [z, hP] at this
    cases this
  -- behind the code object
  have cont : ∀ (code : Value) (h3 : Heap) (tk : Nat) (ps' : Array Value), Heap.ExtBut P s2.heap h3 → s2.heap.objs.size ≤ h3.objs.size → h3.get? P = some { cls := .none, data := .fields ps' } → (∃ more, ps' = ps ++ more) → TriplesOk ps'.toList →
      wpAny (model X.prog X.w) X.A (builtinsFor X.env.globals X.env.builtins) (fun bi s₄ => ∀ h', h'.Ns s₄.heap.objs.size (fun y => if y = ".0" then some (.ref it) else none) → Heap.SameBut s₄.heap.objs.size (s₄.heap.push { cls := .type "frame", data := .dict #[] }) h' →
          Q (.ref h'.objs.size) { s₄ with
            gens := s₄.gens.push (.fresh (.compStart (.GeneratorExp elt [⟨tg, iter, ifs, 0⟩] scope gpos) 0 (.ref it) .none (genEnv scope (cloFrom X.env.cells scope.names []) s₄.heap.objs.size code bi X.env))),
            toks := s₄.toks + 1 + 1 + 1,
            heap := h'.push { cls := .type "generator", data := .fields #[.int s₄.gens.size 0, .str "<genexpr>" (s₄.toks + 1), .str (X.env.qual ++ "<genexpr>") (s₄.toks + 1 + 1)] } }) X.xe { s2 with heap := h3, toks := tk } := by
    intro code h3 tk ps' hx hsz hP3 ⟨more, em⟩ ht3
    obtain ⟨bmod, bobj, i1, i2, i3, i4, i5, i6, i7, i8⟩ := TB.bm
    have keep3 : ∀ b u, b ≠ P → s2.heap.get? b = some u → h3.get? b = some u := fun b u hb e => hx b u hb e
    refine wpAny_builtinsFor (m := X.mg) (by rw [I2.ok.glob]; exact (I2.mod.glob.keeps I2.bk).extBut hx TB.gP) i1 i2 (keep3 _ _ i4 (I2.bk _ _ i5)) i6 i7 i8 ?_
    intro h' hn' hs'
    -- the state ahead of the frame
    have I3 := GxR.inv_tab (more := more) (h' := h3) (g' := s2.gens) (d' := s2.drawn) (t' := tk) I2 hP (fun b u hb e => keep3 b u hb e) (by rw [← em]; exact hP3) I2.bare
    have hTab : GxR.Tabbed P H2 (upd H2 P (.tbl (ps ++ more))) := ⟨⟨ps ++ more, upd_same, by rw [← em]; exact ht3⟩, fun b hb => upd_ne hb⟩
    have hK := q _ hTab
    generalize upd H2 P (.tbl (ps ++ more)) = H3 at I3 hK hTab
    have st3 : tn 0 h3 := T.keep _ _ _ st2 fun b hb o e => keep3 b o (nfP b hb) e
    have f3 : ∀ b ∈ fp, FpOk X pins H3 b ∧ b < h3.objs.size := fun b hb => by
      obtain ⟨o, e, _⟩ := T.obj _ _ st3 b hb
      exact ⟨⟨by rw [hTab.2 b (nfP b hb)]; exact (f2 b hb).1, (f2 b hb).2⟩, Heap.lt_size e⟩
    generalize hs3 : ({ s2 with heap := h3, toks := tk } : Shared) = s3 at I3
    have es3 : h3 = s3.heap := by rw [← hs3]
    have hn'' : h'.Ns s3.heap.objs.size (fun y => if y = ".0" then some (.ref it) else none) := by rw [← es3]; exact hn'
    have hs'' : Heap.SameBut s3.heap.objs.size (s3.heap.push { cls := .type "frame", data := .dict #[] }) h' := by rw [← es3]; exact hs'
    rw [es3] at st3 f3
    show Q _ { s3 with
            gens := s3.gens.push (.fresh (.compStart (.GeneratorExp elt [⟨tg, iter, ifs, 0⟩] scope gpos) 0 (.ref it) .none (genEnv scope (cloFrom X.env.cells scope.names []) s3.heap.objs.size code builtinsNs X.env))),
            toks := s3.toks + 1 + 1 + 1,
            heap := h'.push { cls := .type "generator", data := .fields #[.int s3.gens.size 0, .str "<genexpr>" (s3.toks + 1), .str (X.env.qual ++ "<genexpr>") (s3.toks + 1 + 1)] } }
    have kp : ∀ b o, s3.heap.get? b = some o → h'.get? b = some o := fun b o e => hs''.extBut b o (Nat.ne_of_lt (Heap.lt_size e)) (Heap.get?_push_of_some _ e)
    have hsz' : h'.objs.size = s3.heap.objs.size + 1 := by rw [hs''.1, Heap.size_push]
    generalize hgo : ({ cls := .type "generator", data := .fields #[.int s3.gens.size 0, .str "<genexpr>" (s3.toks + 1), .str (X.env.qual ++ "<genexpr>") (s3.toks + 1 + 1)] } : Obj) = go
    have hgen0 : ∀ h : Heap, h.get? h'.objs.size = some go → h.IsGen h'.objs.size s3.gens.size := fun h e => ⟨go, _, _, e, by rw [← hgo], by rw [← hgo], by rw [← hgo]⟩
    have ngo : ∀ v, go.data ≠ .cell v := fun v z => by
      rw [← hgo] at z
      cases z
    have hpush : (h'.push go).get? h'.objs.size = some go := by
      rw [← hgo]
      exact Heap.get?_push_size _ rfl
    have kp2 : ∀ b o, s3.heap.get? b = some o → (h'.push go).get? b = some o := fun b o e => Heap.get?_push_of_some _ (kp b o e)
    have pg := hg s3 H3 s3.heap.objs.size (cloFrom X.env.cells scope.names []) code fp
    have pt := ht s3 H3 s3.heap.objs.size (cloFrom X.env.cells scope.names []) code fp
    have pe := he s3 H3 s3.heap.objs.size (cloFrom X.env.cells scope.names []) code fp
    have I3u := inv_up I3
    have I4 := gen_start (X := up X) (code := code) (tk := s3.toks + 1 + 1 + 1) (h' := h'.push go) (G := s3.gens.push (.fresh (.compStart (.GeneratorExp elt [⟨tg, iter, ifs, 0⟩] scope gpos) 0 (.ref it) .none (genEnv scope (cloFrom X.env.cells scope.names []) s3.heap.objs.size code builtinsNs X.env)))) I3u ok nc hN f3 (hn''.push _) kp2 (AllBare.push I3.bare rfl)
    generalize hce : genEnv scope (cloFrom X.env.cells scope.names []) s3.heap.objs.size code builtinsNs X.env = ce at pg pt pe I4 ⊢
    have cL : ce.locals = s3.heap.objs.size := by subst hce; rfl
    have cS : ce.scope = scope := by subst hce; rfl
    have hgH : H3 h'.objs.size = none := I3.hok.fresh (by rw [hsz']; exact Nat.le_succ _)
    have nfs : h'.objs.size ∉ frs X.stack := fun z => by
      rcases List.mem_cons.mp (I3.stkSub _ z) with z | z
      · have := I3.lt
        rw [← z, hsz'] at this
        exact absurd (Nat.lt_of_succ_lt this) (Nat.lt_irrefl _)
      · exact I3.nofs (by rw [hsz']; exact Nat.le_succ _) z
    have I5 := I4.pins_of (pins' := [(h'.objs.size, go)]) fun p hp => by
      rw [List.mem_singleton.mp hp]
      refine ⟨hpush, hgH, ?_, nfs, ngo⟩
      show h'.objs.size ≠ ce.locals
      rw [cL, hsz']
      exact Nat.succ_ne_self _
    generalize hs5 : ({ s3 with heap := h'.push go, gens := s3.gens.push (.fresh (.compStart (.GeneratorExp elt [⟨tg, iter, ifs, 0⟩] scope gpos) 0 (.ref it) .none ce)), toks := s3.toks + 1 + 1 + 1 } : Shared) = s5 at I5
    have st5 : tn 0 s5.heap := T.keep _ _ _ st3 fun b _ o e => by rw [← hs5]; exact kp2 b o e
    have hgs : s5.gens[s3.gens.size]? = some (.fresh (.compStart (.GeneratorExp elt [⟨tg, iter, ifs, 0⟩] scope gpos) 0 (.ref it) .none ce)) := by
      rw [← hs5]
      exact Array.getElem?_push_size ..
    have hz5 : s5.heap.objs.size = h'.objs.size + 1 := by
      rw [← hs5]
      exact Heap.size_push ..
    refine hq J fp H3 h'.objs.size s3.gens.size (gcx (up X) s3 H3 ce fp) go s5 hK ⟨rfl, rfl, I5, rfl, hgen0, fun hb => ?_, fun b hb => ?_, fun pn σ' H' s' I6 => ?_, fun {α} Pn T' D W hpins mono turn m0 a0 pn0 s6 hPn I6 k6 hg6 w0 => ?_⟩
    · have z : h'.objs.size < s3.heap.objs.size := (f3 _ hb).2
      rw [hsz'] at z
      omega
    · have z : b < s3.heap.objs.size := (f3 b hb).2
      rw [hz5, hsz']
      exact Nat.lt_succ_of_lt (Nat.lt_succ_of_lt z)
    · exact I3u.call' (ch := fp) I6.os I6.base I6.hok I6.bare fun b hb => ⟨(f3 b hb).1.2.2.2.1, (f3 b hb).1.2.1, (f3 b hb).1.2.2.2.2.1, (f3 b hb).1.2.2.2.2.2⟩
    · have hgs6 : s6.gens[s3.gens.size]? = some (.fresh (.compStart (.GeneratorExp elt [⟨tg, iter, ifs, 0⟩] scope gpos) 0 (.ref it) .none ce)) := by
        rw [hg6]
        exact hgs
      refine ⟨_, hgs6, rfl, ?_⟩
      have st6 : tn 0 s6.heap := T.keep _ _ _ st5 k6
      refine seg_start (i := 0) T st6 ?_
      exact seg_loopA (Y := gcx (up X) s3 H3 ce fp) (vs := own.map (·.2)) rfl rfl hc (by show ce.scope.isCoroutine = false; rw [cS]; exact hco) T pg pt pe (fun b hb => hb) rfl hpins mono turn m0 (m0 + 1) 0 a0 pn0 _ _ H3 (Nat.lt_succ_self _) hPn (fun p hp => (I6.pin p (List.mem_append_right _ hp)).1) (inv_gens I6 (allBare_setGen I6.bare rfl)) st6 (fun b hb => (f3 b hb).1.1) w0
  cases hf : codeAmong gpos ps.toList with
  | none =>
    refine wpAny_genexprCodeX hcode (cd.code hPs ht2) (cd.tab hPs) hf fun c' h' tk hx hge hlt hco' _ htab' _ => ?_
    have trip := hco'.choose_spec.choose_spec.choose_spec.choose_spec.choose_spec.choose_spec.choose_spec.choose_spec.choose_spec.choose_spec.2.2.2.2.2.2.2.2.2.1
    exact cont _ h' tk _ hx (Nat.le_trans hge (Nat.le_of_lt hlt)) htab'.2 ⟨#[_, _, _], rfl⟩ trip
  | some cv =>
    refine wpAny_genexprCode_hit hcode (cd.code hPs ht2) hf ?_
    exact cont cv s2.heap s2.toks ps (Heap.ExtBut.refl _ _) (Nat.le_refl _) hPs ⟨#[], by simp⟩ ht2
end
end GY

/-! tuple(elt for target in iter if ..) -/
namespace GY
open PySem PySem.Spec PyProof.Rows L2 GenW GX
section
variable {Y : Cx}
abbrev colO (us : Array Value) (c : Nat) : Obj := { cls := .type "list", dict := none, data := .seq us c, slots := #[] }
abbrev dCol : List V → V → Hp → (List V → Prop) → Prop := fun ys y _ k => ys.length < sizeLine ∧ k (ys ++ [y])
theorem dCol_mono : ∀ a y H (k k' : List V → Prop), (∀ a', k a' → k' a') → dCol a y H k → dCol a y H k' := fun _ _ _ _ _ h ⟨i, h1⟩ => ⟨i, h _ h1⟩
abbrev pnCol (ga : Addr) (go : Obj) (L : Addr) : List V → List (Addr × Obj) → Prop := fun ys pn => ∃ (us : Array Value) (c : Nat), Vals ys us.toList ∧ ys.length ≤ sizeLine ∧ pn = [(ga, go), (L, colO us c)]
theorem col_loop {A : Around} {R : Result → Shared → Prop} {ga gi L : Nat} {go : Obj} {fp : List Addr} {T : List V → Hp → Prop} {res : Value} (hh : A.handled = none) (hd : A.depth < recursionLimit) (isgen : ∀ h : Heap, h.get? ga = some go → h.IsGen ga gi) (O : OwnL Y ga L fp)
    (hT : ∀ ys us c σ H s, Vals ys us.toList → ys.length ≤ sizeLine → Inv Y [(ga, go), (L, colO us c)] σ H s → T ys H → R (.ok (.ret res)) s) :
    ∀ (n : Nat) (s : Shared), s.heap.get? ga = some go → s.heap.NoLimit → (∃ gs, s.gens[gi]? = some gs ∧ gs.Goes (model Y.prog Y.w) A.in1.in1 (RGa Y (pnCol ga go L) T) (YGa Y fp (pnCol ga go L) dCol) n (.send .none) (s.setGen gi .running)) →
      codeAny (model Y.prog Y.w) A (.builtin "list.extend.loop" ⟨[.ref L, .ref ga, res], []⟩) R s := by
  intro n
  induction n with
  | zero =>
    intro s hg hl ⟨gs, hgs, hgo⟩
    refine codeAny_builtin PySem.F.entry_extend_loop ?_
    rw [Around.under_plainId PySem.F.plain_extend_loop _]
    show wpAny _ A.in1 (pyNext (.ref ga) >>= _) _ _ s
    refine wpAny_bind (wpAny_pyNext_genexpQ (A := A.in1) (P := fun _ s₀ s₁ => ∃ a pn σ H, pnCol ga go L a pn ∧ (∀ p ∈ pn, s₀.heap.get? p.1 = some p.2) ∧ Inv Y pn σ H s₁ ∧ T a H) hh hl hd (isgen _ hg) hgs hgo (fun v s₁ gs' hb hv => ?_) (fun s₁ hp h' hk => ?_))
    · obtain ⟨a, pn, y, σ, H, ⟨us, c, rv, rz, rfl⟩, h0, ry, I, hlt, h1⟩ := hv
      have IL := own_put (tk := s₁.toks) (o' := colO (us.push v) c) (h' := s₁.heap.update L fun _ => colO (us.push v) c) O I (Heap.get?_update_self _ (I.pin (L, colO us c) (by simp)).1 rfl) (fun b u hb e => (Heap.get?_update_other _ _ (fun h : L = b => hb h.symm)).trans e) (fun v z => by cases z)
      exact (h1 _ _ ⟨us.push v, c, by rw [Array.toList_push]; exact rv.append (.cons ry .nil), by rw [List.length_append]; exact hlt, rfl⟩ IL fun b hb o e => (Heap.get?_update_other _ _ (fun h : L = b => O.nfp (h ▸ hb))).trans e).elim
    · obtain ⟨a, pn, σ, H, ⟨us, c, rv, rz, rfl⟩, h0, I, q⟩ := hp
      exact wpAny_pure (hT a us c σ H _ rv rz (inv_kept (s := s₁) (G := (s₁.setGen gi .finished).gens) I (allBare_setGen I.bare rfl) hk) q)
  | succ n ih =>
    intro s hg hl ⟨gs, hgs, hgo⟩
    have hgl : gi < s.gens.size := (Array.getElem?_eq_some_iff.mp hgs).1
    refine codeAny_builtin PySem.F.entry_extend_loop ?_
    rw [Around.under_plainId PySem.F.plain_extend_loop _]
    show wpAny _ A.in1 (pyNext (.ref ga) >>= _) _ _ s
    refine wpAny_bind (wpAny_gsz (n := gi + 1) hgl (wpAny_pyNext_genexpQ (A := A.in1) (P := fun _ s₀ s₁ => ∃ a pn σ H, pnCol ga go L a pn ∧ (∀ p ∈ pn, s₀.heap.get? p.1 = some p.2) ∧ Inv Y pn σ H s₁ ∧ T a H) hh hl hd (isgen _ hg) hgs hgo (fun v s₁ gs' hb hv => ?_) (fun s₁ hp h' hk => ?_)))
    · intro hsz
      obtain ⟨a, pn, y, σ, H, ⟨us, c, rv, rz, rfl⟩, h0, ry, I, hlt, h1⟩ := hv
      have hsz1 : gi < s₁.gens.size := by
        have q : (s₁.setGen gi gs').gens.size = s₁.gens.size := setGen_size _ _ _
        have hsz' : gi + 1 ≤ (s₁.setGen gi gs').gens.size := hsz
        omega
      have I' := inv_gens I (allBare_setGen (g := gi) I.bare hb)
      have hS' : (s₁.setGen gi gs').heap.get? L = some (colO us c) := (I'.pin (L, colO us c) (by simp)).1
      have hG' : (s₁.setGen gi gs').heap.get? ga = some go := (I'.pin (ga, go) (by simp)).1
      have hul : us.size = a.length := by
        have := rv.length
        rw [Array.length_toList] at this
        exact this.symm
      show wpAny _ A.in1 (updateSeq L (·.push v) >>= _) _ _ _
      refine wpAny_bind (wpAny_updateSeq hS' rfl (wpAny_pure ⟨plainId_quiet PySem.F.plain_extend_loop _, ?_⟩) (by omega) (by show (us.push v).size ≤ sizeLine + 1; rw [Array.size_push]; omega))
      have hL2 := Heap.get?_update_self (Obj.mapSeq (·.push v)) hS' rfl
      have hk2 : ∀ b u, b ≠ L → (s₁.setGen gi gs').heap.get? b = some u → ((s₁.setGen gi gs').heap.update L (Obj.mapSeq (·.push v))).get? b = some u := fun b u hb e => (Heap.get?_update_other _ _ (fun h : L = b => hb h.symm)).trans e
      have IL := own_put (tk := s₁.toks) O I' hL2 hk2 (fun v z => by cases z)
      refine ih _ (hk2 _ _ O.ne.symm hG') (IL.nolimit) ⟨gs', setGen_at hsz1, ?_⟩
      exact h1 _ _ ⟨us.push v, _, by rw [Array.toList_push]; exact rv.append (.cons ry .nil), by rw [List.length_append]; exact hlt, rfl⟩ (inv_gens IL (allBare_setGen IL.bare rfl)) fun b hb' o e => hk2 b o (fun z => O.nfp (z ▸ hb')) e
    · intro hsz
      obtain ⟨a, pn, σ, H, ⟨us, c, rv, rz, rfl⟩, h0, I, q⟩ := hp
      exact wpAny_pure (hT a us c σ H _ rv rz (inv_kept (s := s₁) (G := (s₁.setGen gi .finished).gens) I (allBare_setGen I.bare rfl) hk) q)
end
end GY

namespace GY
open PySem PySem.Spec PyProof.Rows L2 GenW GX
/-- what a generator gives, gathered: the loop is told by itself -/
theorem collect_by {prog : Program} {w : World} {A : Around} {s : Shared} {ga gi : Nat} {R : Result → Shared → Prop} (hgen : ∀ h : Heap, (∀ b o, s.heap.get? b = some o → h.get? b = some o) → h.IsGen ga gi) (hlt : ga < s.heap.objs.size)
    (hloop : ∀ (h' : Heap) (c : Nat), (∀ b o, s.heap.get? b = some o → h'.get? b = some o) → h'.get? s.heap.objs.size = some (colO #[] c) →
      codeAny (model prog w) A (.builtin "list.extend.loop" ⟨[.ref s.heap.objs.size, .ref ga, .ref s.heap.objs.size], []⟩) R { s with heap := h' }) :
    codeAny (model prog w) A (.builtin "proto.collect" ⟨[.ref ga], []⟩) R s := by
  refine codeAny_builtin PySem.F.entry_proto_collect ?_
  rw [Around.under_plainId PySem.F.plain_proto_collect _]
  show wpAny _ A.in1 (newList [] >>= fun nl => again (.builtin "list.__iadd__" ⟨[nl, .ref ga], []⟩)) _ _ s
  refine wpAny_bind (wpAny_newObj_type ?_)
  refine (wpAny_pure ⟨plainId_quiet PySem.F.plain_list_iadd _, codeAny_builtin PySem.F.entry_list_iadd ?_⟩)
  rw [Around.under_plainId PySem.F.plain_list_iadd _]
  show wpAny _ A.in1 (Builtin.List.listExtendWith (.ref s.heap.objs.size) (.ref ga) (.ref s.heap.objs.size)) _ _ _
  unfold Builtin.List.listExtendWith
  have kp : ∀ b o, s.heap.get? b = some o → (s.heap.push (colO #[] 0)).get? b = some o := fun b o e => Heap.get?_push_of_some _ e
  have ig := hgen _ kp
  have hS : (s.heap.push (colO #[] 0)).get? s.heap.objs.size = some (colO #[] 0) := Heap.get?_push_size _ rfl
  have ne : s.heap.objs.size ≠ ga := Nat.ne_of_gt hlt
  refine wpAny_bind (wpAny_typeOf ig.typeIs ?_)
  have g1 : Builtin.List.listSameRef (.ref s.heap.objs.size) (.ref ga) = false := by simp [Builtin.List.listSameRef, ne]
  have g2 : (Value.type "generator" == Value.type "list") = false := by decide
  have g3 : (Value.type "generator" == Value.type "tuple") = false := by decide
  rw [g1, g2, g3]
  simp only [Bool.or_false, Bool.false_eq_true, if_false]
  refine wpAny_bind (wpAny_pyIter_gen ig ?_)
  refine wpAny_bind (wpAny_holding ?_)
  unfold Builtin.List.listLengthHint
  refine (wpAny_bind (wpAny_specialOf ig.typeIs PySem.F.gen_no_len ?_))
  show wpAny _ A.in1 (specialOf (Value.ref ga) (Str.ofString "__length_hint__") >>= _) _ _ _
  refine (wpAny_bind (wpAny_specialOf ig.typeIs PySem.F.gen_no_hint ?_))
  refine wpAny_pure ?_
  show wpAny _ A.in1 (rule "list.extend.makes-room" >>= fun _ => Builtin.List.listTouch (.ref s.heap.objs.size) >>= fun _ => again (.builtin "list.extend.loop" ⟨[.ref s.heap.objs.size, .ref ga, .ref s.heap.objs.size], []⟩)) _ _ _
  refine wpAny_bind (wpAny_rule (wpAny_bind ?_))
  show wpAny _ A.in1 (updateSeq s.heap.objs.size (fun xs => xs.push .none) >>= fun _ => updateSeq s.heap.objs.size (fun xs => xs.pop)) _ _ _
  refine wpAny_bind (wpAny_updateSeq hS rfl ?_)
  have hS2 := Heap.get?_update_self (Obj.mapSeq (fun xs => xs.push Value.none)) hS rfl
  refine wpAny_updateSeq hS2 rfl ?_
  have hS3 := Heap.get?_update_self (Obj.mapSeq (fun xs => xs.pop)) hS2 rfl
  have oth : ∀ b o, s.heap.get? b = some o → (((s.heap.push (colO #[] 0)).update s.heap.objs.size (Obj.mapSeq (fun xs => xs.push Value.none))).update s.heap.objs.size (Obj.mapSeq (fun xs => xs.pop))).get? b = some o := fun b o e => by
    have hb : s.heap.objs.size ≠ b := Nat.ne_of_gt (Heap.lt_size e)
    exact (Heap.get?_update_other _ _ hb).trans ((Heap.get?_update_other _ _ hb).trans (kp b o e))
  refine wpAny_pure ⟨plainId_quiet PySem.F.plain_extend_loop _, ?_⟩
  exact hloop _ _ oth hS3
section
variable {X : Cx}
theorem pe_tupG {c P : Addr} {elt tg iter : Expr} {ifs : List Expr} {scope : Scope} {own : List (Str × Nat)} {p pos gpos : Pos} {wi : TI} {g : TG} {tt : TT} {te : TE} {k : Nat}
    (hr : Room (k + 5) X.A) (hgl : Gl X "tuple") (hm : X.mg "tuple" = none) (TB : GxR.TabB X.base X.mg c P) (hcode : X.env.code = .ref c) (hc : X.calm = true) (hN : X.N.Nodup) (hi : PI X tg iter wi) (ok : BlkOk X.N X.env.scope scope own)
    (hco : scope.isCoroutine = false) (nc : ∀ y ∈ scope.names, y.2 ≠ .cell) (h0 : scope.names.lookup (".0" : Str) = some NameKind.local)
    (hg : ∀ (s : Shared) (H : Hp) (C : Addr) (cl : List (Str × Addr)) (code : Value) (fp : List Addr), PG (gcx (up X) s H (genEnv scope cl C code builtinsNs X.env) fp) tg g)
    (ht : ∀ (s : Shared) (H : Hp) (C : Addr) (cl : List (Str × Addr)) (code : Value) (fp : List Addr), PTs (gcx (up X) s H (genEnv scope cl C code builtinsNs X.env) fp) ifs tt)
    (he : ∀ (s : Shared) (H : Hp) (C : Addr) (cl : List (Str × Addr)) (code : Value) (fp : List Addr), PE (gcx (up X) s H (genEnv scope cl C code builtinsNs X.env) fp) elt te)
    (hs : ∀ v, genFold iter X.env v = pure v := by intro _; rfl)
    (hst : starEach [.GeneratorExp elt [⟨tg, iter, ifs, 0⟩] scope gpos] X.env = (false, eval (.GeneratorExp elt [⟨tg, iter, ifs, 0⟩] scope gpos) X.env) :: starEach [] X.env := by rfl) :
    PE X (.Call (.Name "tuple" p) [.GeneratorExp elt [⟨tg, iter, ifs, 0⟩] scope gpos] [] pos) (tGx P wi g tt te (own.map (·.2)) ([] : List V) (fun Q ys H => ∀ l, H l = none → Q (.ref l) (upd H l (.tup ys))) (fun _ => dCol)) := by
  refine ⟨fun pins s σ H Q I h => ?_⟩
  refine wpAny_Call_Name_kw (ld_blt I hgl hm boot_tuple ?_)
  refine PyProof.Rows.callWith_type1 ?_ hst (by rfl)
  rw [hst]
  show wpAny _ _ (spliced ((false, eval (.GeneratorExp elt [⟨tg, iter, ifs, 0⟩] scope gpos) X.env) :: backTo pos (starEach [] X.env))) _ _ s
  refine Calls.spliced_cons (gen_madeU (k := k) (hr.mono (by omega)) TB hcode hc hN hi ok hco nc h0 hg ht he hs I h fun J fp H3 ga gi Y go s5 ⟨W, ⟨m0, w0⟩, turn⟩ G => ?_)
  refine Calls.spliced_nil ?_
  have hg5 := (G.inv.pin (ga, go) (List.mem_append_right _ (List.mem_singleton.mpr rfl))).1
  refine callType_codes (Q₁ := fun obj s₁ => s₁.TypeIs obj "tuple" ∧ EP X pins σ Q obj s₁) PySem.F.called_tuple (PySem.F.typeCall_tuple_1 _) PySem.F.entry_object_init ?_ fun obj s₁ h₁ => ⟨h₁.1, PySem.F.args_object_init_2 obj _, object_init_meets PySem.F.called_tuple.init.lookup PySem.F.called_tuple.made (by decide) _ _ _ _ s₁ ⟨h₁.1, rfl, h₁.2⟩⟩
  refine codeAny_of_tree ?_
  show wpAny _ X.A.in1.in1 (do checkBuiltinCall "tuple.__new__" ⟨[.type "tuple", .ref ga], []⟩; again (.builtin "tuple.__new__" ⟨[.type "tuple", .ref ga], []⟩)) _ _ s5
  refine (wpAny_bind (wpAny_of_eq (PySem.F.newCall_tuple_1 _) (wpAny_pure ⟨plainId_quiet PySem.F.plain_tuple_new _, codeAny_builtin PySem.F.entry_tuple_new ?_⟩)))
  rw [Around.under_plainId PySem.F.plain_tuple_new _]
  have s1 := sub_tuple_self
  have s2 := init_tuple_lookup
  have s3 := madeHere_tuple
  have s4 := (G.isgen _ hg5).typeIs
  wp_walk using wpAny_typeOf s4
  refine collect_by (fun h k => G.isgen h (k _ _ hg5)) (Heap.lt_size hg5) fun h' c0 kp hL => ?_
  have fL := G.inv.fpOk (b := s5.heap.objs.size) (Nat.le_refl _) (G.inv.hok.fresh (Nat.le_refl _))
  have O : OwnL Y ga s5.heap.objs.size fp := ⟨fL.2.2.2.1.elim (fun z => Nat.le_trans G.inv.sz (Nat.le_refl _)) id, fL.2.2.2.2.1, G.ypn, Nat.ne_of_gt (Heap.lt_size hg5), fun hb => Nat.lt_irrefl _ (G.fplt _ hb)⟩
  have I6 : Inv Y [(ga, go), (s5.heap.objs.size, colO #[] c0)] (wipe σ (own.map (·.2))) H3 { s5 with heap := h' } := by
    refine (G.inv.kept (t' := s5.toks) kp).pins_of fun q hq => ?_
    have two : q = (ga, go) ∨ q = (s5.heap.objs.size, colO #[] c0) := by simpa using hq
    have pG := G.inv.pin (ga, go) (List.mem_append_right _ (List.mem_singleton.mpr rfl))
    rcases two with rfl | rfl
    · exact ⟨kp _ _ pG.1, pG.2⟩
    · exact ⟨hL, fL.1, fL.2.1, fL.2.2.1, fun v z => by cases z⟩
  have go6 := G.goes (pnCol ga go s5.heap.objs.size) (fun ys H => ∀ l, H l = none → Q (.ref l) (upd H l (.tup ys))) dCol W (fun a pn ⟨us, c, _, _, e⟩ q hq => by
    rw [e] at hq
    have two : q = (ga, go) ∨ q = (s5.heap.objs.size, colO us c) := by simpa using hq
    rcases two with rfl | rfl
    · exact G.gafp
    · exact O.nfp) dCol_mono turn m0 [] _ { s5 with heap := h' } ⟨#[], c0, .nil, Nat.zero_le _, rfl⟩ I6 (fun b _ o e => kp b o e) rfl w0
  have eprog : Y.prog = X.prog := G.prog
  have ew : Y.w = X.w := G.w
  have go7 : ∃ gs, s5.gens[gi]? = some gs ∧ gs.Goes (model X.prog X.w) X.A.in1.in1.in1.in1 (RGa Y (pnCol ga go s5.heap.objs.size) fun ys H => ∀ l, H l = none → Q (.ref l) (upd H l (.tup ys))) (YGa Y fp (pnCol ga go s5.heap.objs.size) dCol) (m0 + 1) (.send .none) (({ s5 with heap := h' } : Shared).setGen gi .running) := go6
  rw [← eprog, ← ew] at go7 ⊢
  refine col_loop (Y := Y) (A := X.A.in1.in1) (T := fun ys H => ∀ l, H l = none → Q (.ref l) (upd H l (.tup ys))) hr.hd hr.depth G.isgen O (fun ys us c' σ' H' s' rv hz I7 q => ?_) (m0 + 1) _ (kp _ _ hg5) I6.nolimit go7
  have hL7 := (I7.pin (s5.heap.objs.size, colO us c') (by simp)).1
  show wpAny _ X.A.in1.in1 (load s5.heap.objs.size >>= _) _ _ s'
  refine wpAny_bind (wpAny_load hL7 (wpAny_pure ?_))
  refine wpAny_bind (wpAny_pure ?_)
  show wpAny _ _ (Builtin.Tuple.tupleExact us.toList.toArray >>= fun tv => ret tv) _ _ _
  unfold Builtin.Tuple.tupleExact
  have hul : us.toList.length = ys.length := rv.length.symm
  refine wpAny_bind (wpAny_newObj_type ?_ (by show us.toList.toArray.size ≤ sizeLine; rw [List.size_toArray, hul]; exact hz))
  refine wpAny_pure ?_
  have I8 : Inv X pins σ H' s' := inv_down (G.back _ _ _ _ I7)
  refine ⟨⟨_, Heap.get?_push_size _ rfl, rfl⟩, .ref s'.heap.objs.size, upd H' s'.heap.objs.size (.tup ys), I8.laid (t' := s'.toks) (fun b o e => Heap.get?_push_of_some _ e) (Nat.le_refl _) (show ObjOk X.prog X.w _ _ _ (.tup ys) from ⟨hz, us.toList, rv, IsTup.new _ _⟩), rfl, q _ (I8.hok.fresh (Nat.le_refl _))⟩
end
end GY

namespace Bn
open PySem PySem.Spec PyProof.Rows L2 BR GX RM GY
/-! tables: of the defs with generator expressions (ps), of the def with lambdas (at F, all its code objects named q) -/
structure Tb where
  ps : List Addr
  F : Addr
  q : Str
structure TbOk (T : Tb) (H : Hp) : Prop where
  g : GX.Tabs T.ps H
  l : LamX.TabS H T.F T.q
/-- all is kept but the tables, which may have grown -/
structure SL (T : Tb) (H H' : Hp) : Prop where
  k : ∀ x y, NT y → H x = some y → H' x = some y
  q : ∀ x p, H x = some (.tbl p) → ∃ p', H' x = some (.tbl p')
  t : TbOk T H'
theorem nt_code {c : Addr} {q : Str} : NT (LamX.CodeO c q) := fun p z => LamX.codeO_ne p z
section
variable {T : Tb} {H H' H1 H2 : Hp}
theorem TbOk.same (t : TbOk T H) (s : Same H H') : TbOk T H' := ⟨t.g.same s, t.l.ext s⟩
theorem SL.refl (t : TbOk T H) : SL T H H := ⟨fun _ _ _ e => e, fun _ p e => ⟨p, e⟩, t⟩
theorem SL.trans (a : SL T H H1) (b : SL T H1 H2) : SL T H H2 := ⟨fun x y n e => b.k x y n (a.k x y n e), fun x p e => let ⟨p', e'⟩ := a.q x p e; b.q x p' e', b.t⟩
theorem SL.of (t : TbOk T H) (s : Same H H') : SL T H H' := ⟨fun x y _ e => s x y e, fun x p e => ⟨p, s _ _ e⟩, t.same s⟩
theorem SL.same (s : SL T H H1) (k : Same H1 H') : SL T H H' := s.trans (SL.of s.t k)
theorem SL.tab {P : Addr} (hF : T.F ∉ T.ps) (t : TbOk T H) (hP : P ∈ T.ps) (s : GxR.Tabbed P H H') : SL T H H' := by
  have n := SameN.tab t.g hP s
  refine ⟨n.k, n.q, n.t, ?_⟩
  obtain ⟨ps, e1, e2, e3⟩ := t.l
  refine ⟨ps, ?_, e2, fun pos cv hc => ?_⟩
  · rw [s.2 T.F fun z => hF (by rw [z]; exact hP)]
    exact e1
  · obtain ⟨c, h1, h2⟩ := e3 pos cv hc
    exact ⟨c, h1, n.k _ _ nt_code h2⟩
theorem SL.free {p : Addr} (s : SL T H H') (h : H' p = none) : H p = none := by
  cases e : H p with
  | none => rfl
  | some o =>
    by_cases z : ∃ q, o = .tbl q
    · obtain ⟨q, rfl⟩ := z
      obtain ⟨q', e'⟩ := s.q p q e
      rw [e'] at h
      cases h
    · rw [s.k p o (fun q y => z ⟨q, y⟩) e] at h
      cases h
theorem SL.new {p : Addr} {o : HO} (s : SL T H H') (n : H' p = none) : SL T H (upd H' p o) := s.same (same_new n)
theorem TbOk.put {p : Addr} {o u : HO} (t : TbOk T H) (e : H p = some u) (hu : NT u) (hc : ∀ c q, u ≠ LamX.CodeO c q) : TbOk T (upd H p o) := by
  refine ⟨fun P hP => ?_, ?_⟩
  · obtain ⟨ps, h1, h2⟩ := t.g P hP
    refine ⟨ps, ?_, h2⟩
    rw [upd_ne (ne_of h1 e fun z => hu ps (by rw [← z]))]
    exact h1
  · obtain ⟨ps, e1, e2, e3⟩ := t.l
    refine ⟨ps, ?_, e2, fun pos cv h => ?_⟩
    · rw [upd_ne (ne_of e1 e fun z => hu ps (by rw [← z]))]
      exact e1
    · obtain ⟨c, h1, h2⟩ := e3 pos cv h
      refine ⟨c, h1, ?_⟩
      rw [upd_ne (ne_of h2 e fun z => hc c T.q (by rw [← z]))]
      exact h2
/-- a thing that is new since H is changed -/
theorem SL.own {p : Addr} {o u : HO} (s : SL T H H') (n : H p = none) (e : H' p = some u) (hu : NT u) (hc : ∀ c q, u ≠ LamX.CodeO c q) : SL T H (upd H' p o) := by
  refine ⟨fun x y nt h => ?_, fun x q h => ?_, s.t.put e hu hc⟩
  · rw [upd_ne (ne_of_none h n)]
    exact s.k _ _ nt h
  · rw [upd_ne (ne_of_none h n)]
    exact s.q _ _ h
theorem ncL {xs : List V} : ∀ c q, HO.lst xs ≠ LamX.CodeO c q := fun _ _ z => by
  unfold LamX.CodeO at z
  cases z
theorem ncD {xs : List (Key × V)} : ∀ c q, HO.dK xs ≠ LamX.CodeO c q := fun _ _ z => by
  unfold LamX.CodeO at z
  cases z
theorem ncT {xs : List V} : ∀ c q, HO.tup xs ≠ LamX.CodeO c q := fun _ _ z => by
  unfold LamX.CodeO at z
  cases z
theorem SL.ownL {p : Addr} {o : HO} {xs : List V} (s : SL T H H') (n : H p = none) (e : H' p = some (.lst xs)) : SL T H (upd H' p o) := s.own n e nt_lst ncL
theorem SL.ownD {p : Addr} {o : HO} {xs : List (Key × V)} (s : SL T H H') (n : H p = none) (e : H' p = some (.dK xs)) : SL T H (upd H' p o) := s.own n e nt_dK ncD
theorem TbOk.lock {a : Addr} {kvs : List (Key × V)} {o : Obj} (ha : H a = some (.dK kvs)) (t : TbOk T H) : TbOk T (upd H a (.frz o (.dK kvs))) := t.put ha nt_dK ncD
theorem SL.unlock {a : Addr} {kvs : List (Key × V)} {o : Obj} (ha : H a = some (.dK kvs)) (s : SL T (upd H a (.frz o (.dK kvs))) H') : SL T H (upd H' a (.dK kvs)) := by
  have ha' : H' a = some (.frz o (.dK kvs)) := s.k _ _ nt_frz upd_same
  refine ⟨fun x y n e => ?_, fun x p e => ?_, s.t.put ha' nt_frz fun c q z => by unfold LamX.CodeO at z; cases z⟩
  · by_cases c : x = a
    · subst c
      rw [upd_same, ← ha]
      exact e
    · rw [upd_ne c]
      exact s.k _ _ n (by rw [upd_ne c]; exact e)
  · have c : x ≠ a := fun z => by
      rw [z, ha] at e
      cases e
    rw [upd_ne c]
    exact s.q _ _ (by rw [upd_ne c]; exact e)
theorem SL.sqT {K : PySem.W.Frag} {a : Addr} {xs : List V} (s : SL T H H') (h : SqT K H a xs) : SqT K H' a xs := by
  rcases h with (h | ⟨o, h⟩) | h
  · exact .inl (.inl (s.k _ _ nt_tup h))
  · exact .inl (.inr ⟨o, s.k _ _ nt_frz h⟩)
  · exact .inr h
end
/-! ### data: lists and dicts of it are among N; at most n deep -/
mutual
inductive Dq (K : PySem.W.Frag) (H : Hp) : (Addr → Prop) → Nat → V → PyData → Prop
  | non {N : Addr → Prop} {n : Nat} : Dq K H N n .non .none
  | bl {N : Addr → Prop} {n : Nat} (b : Bool) : Dq K H N n (.bl b) (.bool b)
  | int {N : Addr → Prop} {n : Nat} (i : Int) : Dq K H N n (.int i) (.int i)
  | str {N : Addr → Prop} {n : Nat} (x : Str) : Dq K H N n (.str x) (.str x)
  | lst {N : Addr → Prop} {n : Nat} {a : Addr} {xs : List V} {ds : List PyData} : H a = some (.lst xs) → N a → xs.length ≤ 1000 → DqAll K H N n xs ds → Dq K H N (n + 1) (.ref a) (.list ds)
  | tup {N : Addr → Prop} {n : Nat} {a : Addr} {xs : List V} {ds : List PyData} : SqT K H a xs → xs.length ≤ 1000 → DqAll K H N n xs ds → Dq K H N (n + 1) (.ref a) (.tuple ds)
  | dic {N : Addr → Prop} {n : Nat} {a : Addr} {kvs : List (Key × V)} {es : List (PyData × PyData)} : H a = some (.dK kvs) → N a → kvs.length ≤ 1000 → (kvs.map (·.1)).Nodup → DqKv K H (fun b => N b ∧ b ≠ a) n kvs es → Dq K H N (n + 1) (.ref a) (.dict es)
inductive DqAll (K : PySem.W.Frag) (H : Hp) : (Addr → Prop) → Nat → List V → List PyData → Prop
  | nil {N : Addr → Prop} {n : Nat} : DqAll K H N n [] []
  | cons {N : Addr → Prop} {n : Nat} {v : V} {vs : List V} {d : PyData} {ds : List PyData} : Dq K H N n v d → DqAll K H N n vs ds → DqAll K H N n (v :: vs) (d :: ds)
inductive DqKv (K : PySem.W.Frag) (H : Hp) : (Addr → Prop) → Nat → List (Key × V) → List (PyData × PyData) → Prop
  | nil {N : Addr → Prop} {n : Nat} : DqKv K H N n [] []
  | cons {N : Addr → Prop} {n : Nat} {k : Str} {v : V} {kvs : List (Key × V)} {d : PyData} {es : List (PyData × PyData)} : Dq K H N n v d → DqKv K H N n kvs es → DqKv K H N n ((.inr k, v) :: kvs) ((.str k, d) :: es)
end
section
variable {K : PySem.W.Frag} {H H' : Hp}
mutual
/-- kept where its lists, dicts and tuples are -/
theorem Dq.keep (hT : ∀ a xs, SqT K H a xs → SqT K H' a xs) : ∀ {N N' : Addr → Prop} {n : Nat} {v : V} {d : PyData}, (∀ a o, N a → H a = some o → H' a = some o) → (∀ a o, N a → H a = some o → N' a) → Dq K H N n v d → Dq K H' N' n v d
  | _, _, _, _, _, _, _, .non => .non
  | _, _, _, _, _, _, _, .bl b => .bl b
  | _, _, _, _, _, _, _, .int i => .int i
  | _, _, _, _, _, _, _, .str x => .str x
  | _, _, _, _, _, k, hN, .lst h m l h2 => .lst (k _ _ m h) (hN _ _ m h) l (DqAll.keep hT k hN h2)
  | _, _, _, _, _, k, hN, .tup h l h2 => .tup (hT _ _ h) l (DqAll.keep hT k hN h2)
  | _, _, _, _, _, k, hN, .dic h m l nd h2 => .dic (k _ _ m h) (hN _ _ m h) l nd (DqKv.keep hT (fun a o na e => k a o na.1 e) (fun a o na e => ⟨hN a o na.1 e, na.2⟩) h2)
theorem DqAll.keep (hT : ∀ a xs, SqT K H a xs → SqT K H' a xs) : ∀ {N N' : Addr → Prop} {n : Nat} {vs : List V} {ds : List PyData}, (∀ a o, N a → H a = some o → H' a = some o) → (∀ a o, N a → H a = some o → N' a) → DqAll K H N n vs ds → DqAll K H' N' n vs ds
  | _, _, _, _, _, _, _, .nil => .nil
  | _, _, _, _, _, k, hN, .cons h1 h2 => .cons (Dq.keep hT k hN h1) (DqAll.keep hT k hN h2)
theorem DqKv.keep (hT : ∀ a xs, SqT K H a xs → SqT K H' a xs) : ∀ {N N' : Addr → Prop} {n : Nat} {kvs : List (Key × V)} {es : List (PyData × PyData)}, (∀ a o, N a → H a = some o → H' a = some o) → (∀ a o, N a → H a = some o → N' a) → DqKv K H N n kvs es → DqKv K H' N' n kvs es
  | _, _, _, _, _, _, _, .nil => .nil
  | _, _, _, _, _, k, hN, .cons h1 h2 => .cons (Dq.keep hT k hN h1) (DqKv.keep hT k hN h2)
end
mutual
theorem Dq.up : ∀ {N : Addr → Prop} {n m : Nat} {v : V} {d : PyData}, n ≤ m → Dq K H N n v d → Dq K H N m v d
  | _, _, _, _, _, _, .non => .non
  | _, _, _, _, _, _, .bl b => .bl b
  | _, _, _, _, _, _, .int i => .int i
  | _, _, _, _, _, _, .str x => .str x
  | _, _, 0, _, _, h, .lst .. => absurd h (by omega)
  | _, _, 0, _, _, h, .tup .. => absurd h (by omega)
  | _, _, 0, _, _, h, .dic .. => absurd h (by omega)
  | _, _, _ + 1, _, _, hm, .lst h m l h2 => .lst h m l (DqAll.up (by omega) h2)
  | _, _, _ + 1, _, _, hm, .tup h l h2 => .tup h l (DqAll.up (by omega) h2)
  | _, _, _ + 1, _, _, hm, .dic h m l nd h2 => .dic h m l nd (DqKv.up (by omega) h2)
theorem DqAll.up : ∀ {N : Addr → Prop} {n m : Nat} {vs : List V} {ds : List PyData}, n ≤ m → DqAll K H N n vs ds → DqAll K H N m vs ds
  | _, _, _, _, _, _, .nil => .nil
  | _, _, _, _, _, h, .cons h1 h2 => .cons (Dq.up h h1) (DqAll.up h h2)
theorem DqKv.up : ∀ {N : Addr → Prop} {n m : Nat} {kvs : List (Key × V)} {es : List (PyData × PyData)}, n ≤ m → DqKv K H N n kvs es → DqKv K H N m kvs es
  | _, _, _, _, _, _, .nil => .nil
  | _, _, _, _, _, h, .cons h1 h2 => .cons (Dq.up h h1) (DqKv.up h h2)
end
theorem sqT_of_same {a : Addr} {xs : List V} (s : Same H H') (h : SqT K H a xs) : SqT K H' a xs := by
  rcases h with (h | ⟨o, h⟩) | h
  · exact .inl (.inl (s _ _ h))
  · exact .inl (.inr ⟨o, s _ _ h⟩)
  · exact .inr h
theorem nt_of_lst {o : HO} {xs : List V} (e : o = .lst xs) : NT o := e ▸ nt_lst
variable {N N' : Addr → Prop} {n : Nat} {v : V} {d : PyData} {vs ws : List V} {ds es : List PyData} {kvs : List (Key × V)} {kes : List (PyData × PyData)}
theorem Dq.same (h : Dq K H N n v d) (s : Same H H') : Dq K H' N n v d := h.keep (fun _ _ => sqT_of_same s) (fun _ _ _ e => s _ _ e) (fun _ _ z _ => z)
theorem DqAll.same (h : DqAll K H N n vs ds) (s : Same H H') : DqAll K H' N n vs ds := h.keep (fun _ _ => sqT_of_same s) (fun _ _ _ e => s _ _ e) (fun _ _ z _ => z)
theorem DqKv.same (h : DqKv K H N n kvs kes) (s : Same H H') : DqKv K H' N n kvs kes := h.keep (fun _ _ => sqT_of_same s) (fun _ _ _ e => s _ _ e) (fun _ _ z _ => z)
theorem Dq.mono (h : Dq K H N n v d) (s : ∀ a, N a → N' a) : Dq K H N' n v d := h.keep (fun _ _ e => e) (fun _ _ _ e => e) (fun _ _ z _ => s _ z)
/-- its lists and dicts stand there -/
theorem Dq.tight (h : Dq K H N n v d) : Dq K H (fun a => N a ∧ H a ≠ none) n v d := h.keep (fun _ _ e => e) (fun _ _ _ e => e) (fun _ _ z e => ⟨z, by rw [e]; simp⟩)
theorem DqAll.len (h : DqAll K H N n vs ds) : vs.length = ds.length := by
  induction ds generalizing vs with
  | nil => cases h; rfl
  | cons d ds ih =>
    cases h with
    | cons _ h2 => show _ + 1 = _ + 1; rw [ih h2]
theorem DqAll.at (h : DqAll K H N n vs ds) : ∀ {i : Nat} {v : V}, vs[i]? = some v → ∃ d, ds[i]? = some d ∧ Dq K H N n v d := by
  induction ds generalizing vs with
  | nil => intro i v e; cases h; simp at e
  | cons d ds ih =>
    intro i v e
    cases h with
    | cons h1 h2 =>
      cases i with
      | zero =>
        cases Option.some.inj e
        exact ⟨_, rfl, h1⟩
      | succ j => exact ih h2 e
theorem DqAll.app (h : DqAll K H N n vs ds) (k : DqAll K H N n ws es) : DqAll K H N n (vs ++ ws) (ds ++ es) := by
  induction ds generalizing vs with
  | nil => cases h; exact k
  | cons d ds ih =>
    cases h with
    | cons h1 h2 => exact .cons h1 (ih h2)
theorem DqKv.len (h : DqKv K H N n kvs kes) : kvs.length = kes.length := by
  induction kes generalizing kvs with
  | nil => cases h; rfl
  | cons d ds ih =>
    cases h with
    | cons _ h2 => show _ + 1 = _ + 1; rw [ih h2]
theorem DqKv.at (h : DqKv K H N n kvs kes) : ∀ {i : Nat} {k : Key} {v : V}, kvs[i]? = some (k, v) → ∃ (x : Str) (d : PyData), k = .inr x ∧ kes[i]? = some (.str x, d) ∧ Dq K H N n v d := by
  induction kes generalizing kvs with
  | nil => intro i k v e; cases h; simp at e
  | cons d ds ih =>
    intro i k v e
    cases h with
    | cons h1 h2 =>
      cases i with
      | zero =>
        cases Option.some.inj e
        exact ⟨_, _, rfl, rfl, h1⟩
      | succ j => exact ih h2 e
theorem DqKv.app {kws : List (Key × V)} {kfs : List (PyData × PyData)} (h : DqKv K H N n kvs kes) (k : DqKv K H N n kws kfs) : DqKv K H N n (kvs ++ kws) (kes ++ kfs) := by
  induction kes generalizing kvs with
  | nil => cases h; exact k
  | cons d ds ih =>
    cases h with
    | cons h1 h2 => exact .cons h1 (ih h2)
end
section
variable {T : Tb} {K : PySem.W.Frag} {H H' : Hp} {N : Addr → Prop} {n : Nat} {v : V} {d : PyData} {vs : List V} {ds : List PyData} {kvs : List (Key × V)} {kes : List (PyData × PyData)}
mutual
theorem Dq.sl (s : SL T H H') : ∀ {N : Addr → Prop} {n : Nat} {v : V} {d : PyData}, Dq K H N n v d → Dq K H' N n v d
  | _, _, _, _, .non => .non
  | _, _, _, _, .bl b => .bl b
  | _, _, _, _, .int i => .int i
  | _, _, _, _, .str x => .str x
  | _, _, _, _, .lst h m l h2 => .lst (s.k _ _ nt_lst h) m l (DqAll.sl s h2)
  | _, _, _, _, .tup h l h2 => .tup (s.sqT h) l (DqAll.sl s h2)
  | _, _, _, _, .dic h m l nd h2 => .dic (s.k _ _ nt_dK h) m l nd (DqKv.sl s h2)
theorem DqAll.sl (s : SL T H H') : ∀ {N : Addr → Prop} {n : Nat} {vs : List V} {ds : List PyData}, DqAll K H N n vs ds → DqAll K H' N n vs ds
  | _, _, _, _, .nil => .nil
  | _, _, _, _, .cons h1 h2 => .cons (Dq.sl s h1) (DqAll.sl s h2)
theorem DqKv.sl (s : SL T H H') : ∀ {N : Addr → Prop} {n : Nat} {kvs : List (Key × V)} {es : List (PyData × PyData)}, DqKv K H N n kvs es → DqKv K H' N n kvs es
  | _, _, _, _, .nil => .nil
  | _, _, _, _, .cons h1 h2 => .cons (Dq.sl s h1) (DqKv.sl s h2)
end
end
end Bn

/-! lambdas: made in one def, handed on as values, called in another one that was handed them -/
namespace LX
open PySem PySem.Spec PyProof.Rows L2 LamX NdefX
/-- a lambda that was made: its words, the cells that it captured, its code object -/
structure LF where
  qual : Str
  params : Arguments
  body : Expr
  scope : Scope
  cl : List (Str × Addr)
  c : Addr
abbrev LF.fd (F : LF) (pm ctv : Value) : FuncData := PySem.W.kla_fn "<lambda>" F.qual F.params F.body F.scope F.cl pm (.ref F.c) ctv
abbrev LF.nf (F : LF) : NF := ⟨"<lambda>", F.qual, F.params, [], F.scope, F.cl, F.c⟩
def LamO (f : Addr) (F : LF) : HO := .ext fun h => ∃ pm ctv : Value, h.get? f = some ({ cls := .type "function", data := .func (F.fd pm ctv) } : Obj)
theorem nt_lamO {f : Addr} {F : LF} : GX.NT (LamO f F) := fun _ z => by
  unfold LamO at z
  cases z
theorem lamO_at {P : Program} {w : World} {H : Hp} {h : Heap} {f : Addr} {F : LF} (ok : HOk P w H h) (e : H f = some (LamO f F)) : ∃ pm ctv : Value, h.get? f = some ({ cls := .type "function", data := .func (F.fd pm ctv) } : Obj) := (ok f _ e).1
section
variable {X : Cx} {pins : List (Addr × Obj)} {σ : L2.St} {H : Hp} {s : Shared}
theorem inv_lam {F : LF} {t' : Nat} {pm ctv : Value} (I : Inv X pins σ H s) :
    Inv X pins σ (upd H s.heap.objs.size (LamO s.heap.objs.size F)) { s with heap := s.heap.push ({ cls := .type "function", data := .func (F.fd pm ctv) } : Obj), toks := t' } := by
  refine I.laid (fun _ _ e => Heap.get?_push_of_some _ e) (Nat.le_refl _) ?_
  have q : (s.heap.push ({ cls := .type "function", data := .func (F.fd pm ctv) } : Obj)).get? s.heap.objs.size = some ({ cls := .type "function", data := .func (F.fd pm ctv) } : Obj) := Heap.get?_push_size _ rfl
  exact ⟨⟨pm, ctv, q⟩, ⟨_, q⟩, fun _ _ ⟨p, t, z⟩ keep => ⟨p, t, keep _ z⟩⟩
/-- the lambda is made and known from then on; but for the table all is kept -/
theorem lam_made {c P : Addr} {params : Arguments} {body : Expr} {scope : Scope} {pos : Pos} {E : Value → Shared → Prop} {Q : Value → Shared → Prop} (I : Inv X pins σ H s) (TB : LamX.TabB X.base X.mg c P) (hcode : X.env.code = .ref c)
    (hT : TabS H P (X.env.qual ++ "<lambda>")) (hdef : defaultsOf params X.env = ([], [])) (caught : ∀ y ∈ scope.names, y.2 = .free → ∃ c, X.env.cells.lookup y.1 = some c)
    (h : ∀ (f c' : Addr) (H1 : Hp) (s' : Shared), Inv X pins σ H1 s' → (∀ b o, b ≠ P → H b = some o → H1 b = some o) → TabS H1 P (X.env.qual ++ "<lambda>") → H f = none →
      H1 f = some (LamO f ⟨X.env.qual ++ "<lambda>", params, body, scope, cloFrom X.env.cells scope.names [], c'⟩) → H1 c' = some (CodeO c' (X.env.qual ++ "<lambda>")) → Q (.ref f) s') :
    wpAny (model X.prog X.w) X.A (eval (.Lambda params body scope pos) X.env) Q E s := by
  obtain ⟨ps, hP, trip, among⟩ := hT
  have bP : s.heap.BuiltinsAt X.mg P := TB.bm.keeps I.bk
  have tabP : s.heap.get? P = some { cls := .none, data := .fields ps } := I.hok P _ hP
  refine PySem.W.kla_eval hdef ?_
  cases hit : codeAmong pos ps.toList with
  | some cv =>
    obtain ⟨c', rfl, known⟩ := among pos cv hit
    refine PySem.W.kla_makeFunctionHit (mg := X.mg) (c := c) (ps := ps) (closure_ok caught) I.ok.glob (I.mod.glob.keeps I.bk) hcode (TB.code.keeps I.bk) tabP trip hit bP fun ctv h' tk grown _ => ?_
    have J : Inv X pins σ H { s with heap := h', toks := tk } := I.kept grown
    have new : H h'.objs.size = none := J.hok.fresh (Nat.le_refl _)
    have up : ∀ b o, H b = some o → upd H h'.objs.size (LamO h'.objs.size ⟨X.env.qual ++ "<lambda>", params, body, scope, cloFrom X.env.cells scope.names [], c'⟩) b = some o := fun b o e => (upd_ne (ne_of_none e new)).trans e
    exact h h'.objs.size c' _ _ (inv_lam (F := ⟨X.env.qual ++ "<lambda>", params, body, scope, cloFrom X.env.cells scope.names [], c'⟩) J) (fun b o _ e => up b o e) (TabS.ext ⟨ps, hP, trip, among⟩ up) new upd_same (up _ _ known)
  | none =>
    refine PySem.W.kla_makeFunction (mg := X.mg) (c := c) (ps := ps) (closure_ok caught) I.ok.glob (I.mod.glob.keeps I.bk) hcode (TB.code.keeps I.bk) tabP trip hit TB.gP bP fun c' ctv h' tk grown low high code tab => ?_
    obtain ⟨c2, oc, vs, t, e2, at1, at2, at3⟩ := code
    cases e2
    have newC : H c' = none := I.hok.fresh low
    have J := LamX.inv_table (t' := tk) (more := #[rawInt pos.line, rawInt pos.col, .ref c']) (h' := h') I hP (fun b o nb e => grown b o nb e) tab low ⟨oc, vs, t, at1, at2, at3⟩
    have nPc : P ≠ c' := ne_of_none hP newC
    have mid : ∀ b o, b ≠ P → H b = some o → upd (upd H P (.tbl (ps ++ #[rawInt pos.line, rawInt pos.col, .ref c']))) c' (CodeO c' (X.env.qual ++ "<lambda>")) b = some o := fun b o nb e => by
      rw [upd_ne (ne_of_none e newC), upd_ne nb]
      exact e
    have midP : upd (upd H P (.tbl (ps ++ #[rawInt pos.line, rawInt pos.col, .ref c']))) c' (CodeO c' (X.env.qual ++ "<lambda>")) P = some (.tbl (ps ++ #[rawInt pos.line, rawInt pos.col, .ref c'])) := by
      rw [upd_ne nPc, upd_same]
    have midC : upd (upd H P (.tbl (ps ++ #[rawInt pos.line, rawInt pos.col, .ref c']))) c' (CodeO c' (X.env.qual ++ "<lambda>")) c' = some (CodeO c' (X.env.qual ++ "<lambda>")) := upd_same
    generalize upd (upd H P (.tbl (ps ++ #[rawInt pos.line, rawInt pos.col, .ref c']))) c' (CodeO c' (X.env.qual ++ "<lambda>")) = HM at J mid midP midC
    have newF : HM h'.objs.size = none := J.hok.fresh (Nat.le_refl _)
    have up : ∀ b o, HM b = some o → upd HM h'.objs.size (LamO h'.objs.size ⟨X.env.qual ++ "<lambda>", params, body, scope, cloFrom X.env.cells scope.names [], c'⟩) b = some o := fun b o e => (upd_ne (ne_of_none e newF)).trans e
    have flat : (ps ++ #[rawInt pos.line, rawInt pos.col, .ref c']).toList = ps.toList ++ [rawInt pos.line, rawInt pos.col, .ref c'] := by simp
    have tM : TabS HM P (X.env.qual ++ "<lambda>") := by
      refine ⟨_, midP, by rw [flat]; exact PySem.TriplesOk_snoc _ _ _ _ trip, fun p' cv found => ?_⟩
      rw [flat] at found
      rcases LamX.among_app _ trip found with z | z
      · obtain ⟨c0, e1, e3⟩ := among p' cv z
        exact ⟨c0, e1, mid _ _ (fun y => by rw [y, hP] at e3; exact LamX.codeO_ne ps (Option.some.inj e3).symm) e3⟩
      · exact ⟨c', z, midC⟩
    refine h h'.objs.size c' _ _ (inv_lam (F := ⟨X.env.qual ++ "<lambda>", params, body, scope, cloFrom X.env.cells scope.names [], c'⟩) J) (fun b o nb e => up b o (mid b o nb e)) (tM.ext up) (I.hok.fresh (Nat.le_trans low (Nat.le_of_lt high))) upd_same (up _ _ midC)
end
def tLm (P : Addr) (q : Str) (mk : Addr → LF) : TE := fun _ H Q => TabS H P q ∧ ∀ (f c' : Addr) (H1 : Hp), (∀ b o, b ≠ P → H b = some o → H1 b = some o) → TabS H1 P q → H f = none → H1 f = some (LamO f (mk c')) → H1 c' = some (CodeO c' q) → Q (.ref f) H1
theorem pe_lam {X : Cx} {c P : Addr} {params : Arguments} {body : Expr} {scope : Scope} {pos : Pos} (TB : LamX.TabB X.base X.mg c P) (hcode : X.env.code = .ref c) (hdef : defaultsOf params X.env = ([], []))
    (caught : ∀ y ∈ scope.names, y.2 = .free → X.env.scope.names.lookup y.1 = some .cell ∨ X.env.scope.names.lookup y.1 = some .free) :
    PE X (.Lambda params body scope pos) (tLm P (X.env.qual ++ "<lambda>") fun c' => ⟨X.env.qual ++ "<lambda>", params, body, scope, cloFrom X.env.cells scope.names [], c'⟩) := by
  refine ⟨fun pins s σ H Q I h => ?_⟩
  refine lam_made I TB hcode h.1 hdef (fun y hy e => (caught y hy e).elim (fun z => I.ok.has _ (.inl z)) fun z => I.ok.has _ (.inr z)) fun f c' H1 s' J k t n a b => ?_
  exact ⟨.ref f, H1, J, rfl, h.2 f c' H1 k t n a b⟩
/-! ### what a lambda promises -/
structure LOk (P : Program) (w : World) (K : PySem.W.Frag) (mg : Str → Option Value) (base : Heap) (k : Nat) (f : Addr) (F : LF) (fr : List Str) (sp : List (Option V) → Sp) : Prop where
  run : ∀ (A : Around) (outer : List Env) (s : Shared) (H : Hp) (us : List Value) (vs : List V) (ws : List (Option V)) (Q : VK), Room k A → Env0 P w K mg base A outer s H → H f = some (LamO f F) → H F.c = some (CodeO F.c F.qual) →
    CellsAt F.cl fr ws s.heap H → Vals vs us → sp ws vs H Q E0 → codeAny (model P w) A (.call (.ref f) ⟨us, []⟩) (CR CX0 outer P w H s Q E0) s
theorem lok_of {P : Program} {w : World} {K : PySem.W.Frag} {mg : Str → Option Value} {base : Heap} {N ps fr : List Str} {F : LF} {f : Addr} {k : Nat} {sp : List (Option V) → Sp} (S : NScope N ps fr F.scope)
    (hb : ∀ (pm ctv : Value) (us : List Value), us.length = ps.length → bindArgs (F.fd pm ctv) ⟨us, []⟩ = pure (ps.zip us)) (len : ∀ ws vs H Q, sp ws vs H Q E0 → vs.length = ps.length)
    (hbody : ∀ (A : Around) (outer : List Env) (s : Shared) (H : Hp) (vs : List V) (ws : List (Option V)) (Q : VK), Room k (A.deeper (envF F.nf f s.heap.objs.size)) → sp ws vs H Q E0 →
      ∃ te, PE (ncx CX0 P w K mg base N F.nf f A outer s H E0) F.body te ∧ te (startF N vs ws) H Q) : LOk P w K mg base (k + 1) f F fr sp := by
  refine ⟨fun A outer s H us vs ws Q room e0 hf hc C r said => ?_⟩
  have many := len _ _ _ _ said
  have lim : s.heap.NoLimit := e0.mod.nolimit.keeps fun b o e => (e0.bs b o e).1
  obtain ⟨pm, ctv, here⟩ := lamO_at e0.hok hf
  refine PySem.W.kla_callFunE room.depth here rfl S.co S.gen rfl (codeO_at e0.hok hc) ?_
  rw [hb pm ctv us (by rw [← r.length]; exact many)]
  refine wpAny_pure (wpAny_newFunctionEnv S.nocell (fun ⟨n, _⟩ hy => S.par n (List.of_mem_zip hy).1) (fun h₁ frame sb => ⟨lim.fresh _ sb, ?_⟩) S.kind)
  show codeAny _ _ (.expr F.body (envF F.nf f s.heap.objs.size)) _ _
  have up : ∀ b o, s.heap.get? b = some o → h₁.get? b = some o := fun b o e => sb.extBut b o (Nat.ne_of_lt (Heap.lt_size e)) (Heap.get?_push_of_some _ e)
  obtain ⟨te, pe, said'⟩ := hbody A outer s H vs ws Q (room.deeper _) said
  have J : Inv (ncx CX0 P w K mg base N F.nf f A outer s H E0) [] (startF N vs ws) H { s with heap := h₁, toks := s.toks + (ps.zip us).length } := inv_startN S room.hd e0 many r C frame up
  refine PySem.W.kla_codeExpr (wpAny_mono (pe.run [] _ _ H Q J said') (fun v s' z => ?_) fun e s' z => z)
  obtain ⟨x, H', J', rv, q⟩ := z
  exact ⟨x, H', J'.os, J'.bare, J'.base, J'.hok, rv, q⟩
/-! ### what may be called by a name: a def, or a lambda whose cells hold ws since the running def began; St: that it stands there still -/
def Cal (X : Cx) (k : Nat) (f : Addr) (sp : Sp) (St : Hp → Prop) : Prop :=
  Held X.prog X.w X.K X.mg X.base k f sp ∨
  ∃ (F : LF) (fr : List Str) (ws : List (Option V)) (sp' : List (Option V) → Sp), LOk X.prog X.w X.K X.mg X.base k f F fr sp' ∧ CellsAt F.cl fr ws X.s_0.heap X.H_0 ∧ X.ex = [] ∧
    (∀ H, St H → H f = some (LamO f F) ∧ H F.c = some (CodeO F.c F.qual)) ∧ ∀ vs H Q, sp vs H Q E0 → sp' ws vs H Q E0
theorem later {X : Cx} {pins : List (Addr × Obj)} {σ : L2.St} {H : Hp} {s : Shared} {cl : List (Str × Addr)} {fr : List Str} {ws : List (Option V)} (C : CellsAt cl fr ws X.s_0.heap X.H_0) (hx : X.ex = []) (I : Inv X pins σ H s) : CellsAt cl fr ws s.heap H := by
  have nx : ∀ c : Addr, c ∉ X.ex := fun c z => by
    rw [hx] at z
    cases z
  have still : ∀ y c, cl.lookup y = some c → ∀ v, X.s_0.heap.IsCell c v → s.heap.IsCell c v := fun y c e v ⟨o, ho, hd⟩ => by
    obtain ⟨sl, q⟩ := I.base.any ho (C.all y c e).1 (nx c)
    exact ⟨_, q, hd⟩
  refine ⟨C.len, fun y c e => ?_, C.inj, fun i y e => ?_⟩
  · obtain ⟨n, v, z⟩ := C.all y c e
    refine ⟨?_, v, still y c e v z⟩
    obtain ⟨o, ho, _⟩ := z
    exact I.base.free c o ho n (nx c)
  · obtain ⟨c, hc, hv⟩ := C.has i y e
    refine ⟨c, hc, fun v ev => ?_⟩
    obtain ⟨u, r, z⟩ := hv v ev
    exact ⟨u, r, still y c hc _ z⟩
theorem pe_callH {X : Cx} {k i : Nat} {f : Addr} {sp : Sp} {St : Hp → Prop} {x : Str} {p pos : Pos} {e : Expr} {es : List Expr} {t : TA} (C : Cal X k f sp St) (room : Room k X.A) (hN : X.N[i]? = some x) (hv : Vis X.env.scope x) (ha : PA X (e :: es) t)
    (hdb : (x == ("__debug__" : Str)) = false := by decide) (hcd : (x == ("__classdict__" : Str)) = false := by decide)
    (he : starEach (e :: es) X.env = (false, eval e X.env) :: starEach es X.env := by rfl) (hpl : (backTo pos (starEach es X.env)).any (·.1) = false := by rfl) :
    PE X (.Call (.Name x p) (e :: es) [] pos) (fun σ H Q => σ[i]? = some (some (.ref f)) ∧ St H ∧ t σ H fun vs H1 => St H1 ∧ sp vs H1 Q E0) := by
  refine ⟨fun pins s σ H Q I ⟨slot, st, h⟩ => ?_⟩
  rcases C with ⟨fd, ps, G, kp, b⟩ | ⟨F, fr, ws, sp', G, cells, hx, still, imp⟩
  · refine wpAny_Call_Name_kw (thn ((pe_var (pos := p) hN hv hdb hcd).run pins s σ H (fun v H1 => v = .ref f ∧ H1 = H) I ⟨.ref f, slot, rfl, rfl⟩) fun u s1 ⟨v, H1, I1, r1, ev, eH⟩ => ?_)
    subst ev
    rw [eH] at I1
    obtain rfl : u = Value.ref f := r1
    refine PySem.W.callWith_K (h₀ := X.base) I.ok.mod.kin kp (thn (ha.run pos pins s1 σ H _ I1 h) fun us s2 ⟨vs, H2, I2, r, _, q⟩ => ⟨I2.kIn, ?_⟩) he hpl
    exact run_fn (E := E0) (dvs := []) G room b .nil (fun _ _ _ _ _ _ _ z => z.elim) I2 r (by rw [List.append_nil]; exact q)
  · refine wpAny_Call_Name_kw (thn ((pe_var (pos := p) hN hv hdb hcd).run pins s σ H (fun v H1 => v = .ref f ∧ H1 = H) I ⟨.ref f, slot, rfl, rfl⟩) fun u s1 ⟨v, H1, I1, r1, ev, eH⟩ => ?_)
    subst ev
    rw [eH] at I1
    obtain rfl : u = Value.ref f := r1
    have fnAt : ∀ {pins : List (Addr × Obj)} {σ : L2.St} {H : Hp} {s : Shared}, Inv X pins σ H s → St H → PySem.W.FnAt f s.heap := fun J z => by
      obtain ⟨pm, ctv, q⟩ := lamO_at J.hok (still _ z).1
      exact ⟨_, _, _, _, q⟩
    refine PySem.W.callWith_F (first := []) (fnAt I1 st) (thn (ha.run pos pins s1 σ H _ I1 h) fun us s2 ⟨vs, H2, I2, r, st2, q⟩ => ⟨fnAt I2 st2, ?_⟩) he hpl
    show wpAny _ _ (call (.ref f) us) _ _ _
    have a := G.run X.A X.stack s2 H2 us vs ws Q room I2.env0 (still _ st2).1 (still _ st2).2 (later cells hx I2) r (imp _ _ _ q)
    refine wpAny_call (codeAny_mono a fun r s' hq => ?_)
    cases r with
    | error e => exact (show False from hq).elim
    | ok fl =>
      cases fl with
      | ret u => exact I2.after hq
      | next => exact False.elim hq
      | brk => exact False.elim hq
      | cont => exact False.elim hq
/-! ### the same, in the def that made the lambda -/
def CalX (X : Cx) (σ : L2.St) (k : Nat) (f : Addr) (sp : Sp) (St : Hp → Prop) : Prop :=
  Held X.prog X.w X.K X.mg X.base k f sp ∨
  ∃ (F : LF) (fr : List Str) (js : List Nat) (sp' : List (Option V) → Sp), LOk X.prog X.w X.K X.mg X.base k f F fr sp' ∧ (X.Ok → Caps X F.cl fr js) ∧
    (∀ H, St H → H f = some (LamO f F) ∧ H F.c = some (CodeO F.c F.qual)) ∧ ∀ vs H Q, sp vs H Q E0 → sp' (js.map (slotAt σ)) vs H Q E0
theorem cal_of {X : Cx} {pins : List (Addr × Obj)} {σ : L2.St} {H : Hp} {s : Shared} {k : Nat} {f : Addr} {sp : Sp} {St : Hp → Prop} {CX : CXT} {N : List Str} {qual : Str} {scope : Scope} {g : Addr} {cd : Value} {A : Around} {outer : List Env} {E : XK} (I : Inv X pins σ H s) (C : CalX X σ k f sp St) :
    Cal (cxOf CX X.prog X.w X.K X.mg X.base N qual scope g cd A outer s H E) k f sp St := by
  rcases C with C | ⟨F, fr, js, sp', G, cap, still, imp⟩
  · exact .inl C
  · exact .inr ⟨F, fr, js.map (slotAt σ), sp', G, cells_of I (cap I.ok), rfl, still, imp⟩
/-- a def called whose promise may speak of the caller's lambdas -/
theorem pe_callV {X : Cx} {name : Str} {st : Stmt} {g : Addr} {fd : FuncData} {N ps : List Str} {k : Nat} {p pos : Pos} {e : Expr} {es : List Expr} {t : TA} (F : Fun X.K name name st g fd) (S : FnScope N ps (defScope st)) (b : Binds X.K fd ps []) (hg : Gl X name) (hm : X.mg name = some (.ref g)) (room : Room (k + 1) X.A) (SPx : L2.St → List V → Hp → VK → Prop)
    (hG : ∀ (pins : List (Addr × Obj)) (σ : L2.St) (s : Shared) (H : Hp) (vs : List V) (Q : VK), Inv X pins σ H s → SPx σ vs H Q → vs.length = ps.length ∧ ∀ cd, Room k (X.A.deeper (envOfC name (defScope st) s.heap.objs.size g cd)) →
      ∃ t, PSs (cxOf CX0 X.prog X.w X.K X.mg X.base N name (defScope st) g cd X.A X.stack s H E0).nox (defBody st) t ∧ t { nx := fun _ H' => Q .non H', rt := Q } (L2.start N vs) H)
    (ha : PA X (e :: es) t) (hdb : (name == ("__debug__" : Str)) = false := by decide)
    (he : starEach (e :: es) X.env = (false, eval e X.env) :: starEach es X.env := by rfl) (hpl : (backTo pos (starEach es X.env)).any (·.1) = false := by rfl) :
    PE X (.Call (.Name name p) (e :: es) [] pos) (fun σ H Q => t σ H fun vs H1 => SPx σ vs H1 Q) := by
  refine ⟨fun pins s σ H Q I h => ?_⟩
  obtain ⟨⟨oc, od, kV, doc, pm, an, cdv, ct, osl, rfl, lk, hcd⟩, kp⟩ := F
  refine wpAny_Call_Name_kw (ld_glob I hg hm ?_ hdb)
  refine PySem.W.callWith_K (h₀ := X.base) I.ok.mod.kin kp (thn (ha.run pos pins s σ H _ I h) fun us s2 ⟨vs, H2, I2, r, q⟩ => ⟨I2.kIn, ?_⟩) he hpl
  show wpAny _ _ (call (.ref g) us) _ _ _
  obtain ⟨many, hbody⟩ := hG pins σ s2 H2 vs Q I2 q
  have bu : BindsTo s2 (PySem.W.fnOf name name (defArgs st) (defBody st) (defScope st) .none kV doc pm an cdv ct) ⟨us, []⟩ (ps.zip us) := by
    have z := b s2 us I2.kIn (by rw [List.append_nil, ← r.length]; exact many)
    rw [List.append_nil] at z
    exact z
  have a : codeAny (model X.prog X.w) X.A (.call (.ref g) ⟨us, []⟩) (CR CX0 X.stack X.prog X.w H2 s2 Q E0) s2 := by
    refine run_ofS (N := N) (ps := ps) (us := us) (vs := vs) lk hcd S room I2.env0 bu r many fun room' => ?_
    obtain ⟨t', h1, h2⟩ := hbody cdv room'
    exact ⟨t', h1.nox, h2⟩
  refine wpAny_call (codeAny_mono a fun r s' hq => ?_)
  cases r with
  | error e => exact (show False from hq).elim
  | ok fl =>
    cases fl with
    | ret u => exact I2.after hq
    | next => exact False.elim hq
    | brk => exact False.elim hq
    | cont => exact False.elim hq
end LX

/-! len(set(texts)), no two of them alike -/
namespace SU
open PySem PySem.Spec PyProof.Rows SS
theorem unlike_off {ts : List Str} (unl : ts.Nodup) {i : Nat} (b : i < ts.length) : (ts.take i).any (· == ts[i]) = false := by
  rw [Bool.eq_false_iff]
  intro z
  obtain ⟨y, hy, e⟩ := List.any_eq_true.mp z
  have e' : y = ts[i] := beq_iff_eq.mp e
  obtain ⟨j, hj, ej⟩ := List.mem_take_iff_getElem.mp hy
  have l1 : j < i := by omega
  have := (List.nodup_iff_pairwise_ne.mp unl)
  exact (List.pairwise_iff_getElem.mp this j i (by omega) b l1) (by rw [ej, e'])
section
variable {prog : Program} {w : World} {A : Around} {Re : Result → Shared → Prop} {I : Addr} {fp wr : List Addr} {G : Array GenState → Array GenState → Prop} {nn : Nat} {P : Nat → Value → Prop} {St : Nat → Shared → Prop}
theorem loop_unlike (W : WalksS prog w A.in1 I fp wr G nn P St) (Sa : Addr) (apart : Sa ∉ fp) (ts : List Str) (many : ts.length = nn) (unl : ts.Nodup) (few : nn + 1 < scanBound)
    (each : ∀ ix va, P ix va → ∃ t, va = .str (ts.getD ix Str.empty) t) :
    ∀ (kk ix : Nat) (sh : Shared), nn - ix = kk → ix ≤ nn → St ix sh →
      sh.heap.SetOf (PySem.strKind prog w) Sa (fun ky => (ts.take ix).any (· == ky)) ix →
      (∀ sh2, Moved (Sa :: wr) G sh sh2 → sh2.heap.SetOf (PySem.strKind prog w) Sa (fun ky => (ts.take nn).any (· == ky)) nn → Re (.ok (.ret .none)) sh2) →
      codeAny (model prog w) A (.builtin "set.update.loop" ⟨[.ref Sa, .ref I], []⟩) Re sh := by
  have offW : Sa ∉ wr := fun go => apart (W.sub _ go)
  have sub2 : ∀ bb ∈ wr, bb ∈ Sa :: wr := fun bb eb => List.mem_cons_of_mem _ eb
  intro kk
  induction kk with
  | zero =>
    intro ix sh ek ilt stands isSet then_
    have last : ix = nn := by omega
    subst last
    refine codeAny_builtin PyProof.Rows.F.entry_set_update_loop ?_
    rw [Around.under_plainId PyProof.Rows.F.plain_set_update_loop _]
    show wpAny _ A.in1 (pyNext (.ref I) >>= _) _ _ sh
    refine wpAny_bind (W.done sh _ _ stands fun sh2 mv => ?_)
    show wpAny _ A.in1 (ret Value.none) _ _ sh2
    exact wpAny_pure (then_ sh2 (mv.mono sub2) (by
      obtain ⟨ob, es, ep, t, ho, rest⟩ := isSet
      exact ⟨ob, es, ep, t, mv.heap Sa _ offW ho, rest⟩))
  | succ kk ih =>
    intro ix sh ek ilt stands isSet then_
    have below : ix < nn := by omega
    refine codeAny_builtin PyProof.Rows.F.entry_set_update_loop ?_
    rw [Around.under_plainId PyProof.Rows.F.plain_set_update_loop _]
    show wpAny _ A.in1 (pyNext (.ref I) >>= _) _ _ sh
    refine wpAny_bind (W.item ix sh _ _ below stands fun va sh2 isP stands2 mv => ?_)
    obtain ⟨t, rfl⟩ := each ix va isP
    have isSet2 : sh2.heap.SetOf (PySem.strKind prog w) Sa (fun ky => (ts.take ix).any (· == ky)) ix := by
      obtain ⟨ob, es, ep, tb, ho, rest⟩ := isSet
      exact ⟨ob, es, ep, tb, mv.heap Sa _ offW ho, rest⟩
    show wpAny _ A.in1 (holding [Value.str (ts.getD ix Str.empty) t] (setAdd Sa (.str (ts.getD ix Str.empty) t)) >>= _) _ _ sh2
    refine wpAny_bind (wpAny_holding ?_)
    unfold setAdd
    refine wpAny_holding ?_
    refine wpAny_bind ((PySem.strKind prog w).pyHash (k := ts.getD ix Str.empty) (strKind_is _ _ _ _) ?_)
    refine wpAny_setAddHashed_of (knd := PySem.strKind prog w) (s := { sh2 with toks := sh2.toks + 1 }) (strKind_is _ _ _ _) rfl isSet2 (by omega) fun h' sb2 isSet3 => ?_
    have isSet4 : h'.SetOf (PySem.strKind prog w) Sa (fun ky => (ts.take (ix + 1)).any (· == ky)) (ix + 1) := by
      have bl : ix < ts.length := by omega
      have eg : ts.getD ix Str.empty = ts[ix] := by rw [List.getD_eq_getElem?_getD, List.getElem?_eq_getElem bl]; rfl
      have off : (ts.take ix).any (· == ts[ix]) = false := unlike_off unl bl
      refine SetOf_congr isSet3 (fun ky => ?_) ?_
      · show ((ts.take ix).any (· == ky) || decide (ky = ts.getD ix Str.empty)) = (ts.take (ix + 1)).any (· == ky)
        rw [List.take_succ_eq_append_getElem bl, List.any_append, eg]
        congr 1
        show decide (ky = ts[ix]) = ((ts[ix] == ky) || false)
        rw [Bool.or_false, Bool.eq_iff_iff, decide_eq_true_iff, beq_iff_eq]
        exact ⟨fun z => z.symm, fun z => z.symm⟩
      · show (if (ts.take ix).any (· == ts.getD ix Str.empty) = true then ix else ix + 1) = ix + 1
        rw [eg, off]
        rfl
    refine wpAny_pure ⟨plainId_quiet PyProof.Rows.F.plain_set_update_loop _, ih (ix + 1) _ (by omega) below (W.frame _ sh2 _ _ stands2 (Nat.le_succ _) fun bb eb ob ee => ?_) isSet4 fun sh3 mv3 isSet5 => ?_⟩
    · rw [sb2.2 bb (fun go : bb = Sa => apart (by rw [← go]; exact eb))]; exact ee
    · refine then_ sh3 (Moved.trans W.gtrans ((mv.mono sub2).then_heap (Nat.le_succ _) fun bb ob eb ee => ?_) mv3) isSet5
      rw [sb2.2 bb (fun go : bb = Sa => eb (by rw [go]; exact List.mem_cons_self))]; exact ee
end
section
variable {prog : Program} {w : World} {A : Around} {E : Value → Shared → Prop} {sh : Shared}
set_option maxHeartbeats 4200000 in
theorem call_set_unlike {l : Addr} {its : Array Value} {ts : List Str} {Qe : Value → Shared → Prop}
    (quiet : A.handled = none) (isL : sh.heap.IsList l its) (ilt : PyProof.Rows.StrsAre its.toList ts) (unl : ts.Nodup) (few : ts.length + 1 < scanBound)
    (go : ∀ (h' : Heap) (tk : Nat), h'.SetOf (PySem.strKind prog w) sh.heap.objs.size (fun ky => (ts.take its.size).any (· == ky)) its.size →
      (∀ bb ob, bb < sh.heap.objs.size → sh.heap.get? bb = some ob → h'.get? bb = some ob) → Qe (.ref sh.heap.objs.size) { sh with heap := h', toks := tk }) :
    wpAny (model prog w) A (call (.type "set") [.ref l]) Qe E sh := by
  obtain ⟨c, tl, emro⟩ := PySem.F.called_set.mro
  have emade := PySem.F.called_set.made
  have sub2 := PySem.F.called_set.sub
  refine wpAny_call (codeAny_of_tree ?_)
  show wpAny _ _ (callAny (.type "set") _) _ _ _
  refine wpAny_pure ⟨Code.quiet_builtin _ (by decide +kernel), codeAny_builtin PySem.F.entry_type_call ?_⟩
  rw [Around.under_plain (weight_type_call_type "set" [.ref l] []) rfl]
  have h1 := PySem.F.called_set.notType
  have h2 := PySem.F.called_set.canCreate
  have ect := PySem.F.typeCall_set_1 (.ref l)
  repeat (any_goals (first | assumption | wp_step))

  refine codeAny_mono (code_set_new_1 (.ref l) (E := E) (Q₁ := fun obj sh4 => ∃ led : Bool, obj = .ref sh.heap.objs.size ∧ sh4 = { sh with heap := sh.heap.push { cls := .type "set", dict := none, data := .set #[] 0 (.fresh 0 0 led) } }) fun led => ⟨led, rfl, rfl⟩) fun r sh4 er => ?_
  cases r with
  | error ee => exact er
  | ok fl =>
    cases fl with
    | ret obj =>
      obtain ⟨led, rfl, rfl⟩ := er
      have isSet : (sh.heap.push { cls := .type "set", dict := none, data := .set #[] 0 (.fresh 0 0 led) }).get? sh.heap.objs.size = some { cls := .type "set", dict := none, data := .set #[] 0 (.fresh 0 0 led) } := Heap.get?_push_size _ rfl
      have eT : Shared.TypeIs { sh with heap := sh.heap.push { cls := .type "set", dict := none, data := .set #[] 0 (.fresh 0 0 led) } } (.ref sh.heap.objs.size) "set" := ⟨_, isSet, rfl⟩
      have eli := PySem.F.called_set.init.lookup
      have ebi := PySem.F.called_set.init.bind (.ref sh.heap.objs.size)
      repeat (any_goals (first | assumption | wp_step))

      refine codeAny_mono (codeAny_call_builtin (R := wants (fun r sh5 => r = .none ∧ ∃ h' tk, sh5 = { sh with heap := h', toks := tk } ∧
          h'.SetOf (PySem.strKind prog w) sh.heap.objs.size (fun ky => (ts.take its.size).any (· == ky)) its.size ∧
          (∀ bb ob, bb < sh.heap.objs.size → sh.heap.get? bb = some ob → h'.get? bb = some ob)) E) PySem.F.called_set.init.plain PySem.F.entry_set_init (check_set_init_1 eT ?_)) fun r₂ sh5 er2 => ?_
      · obtain ⟨ol, oat, ocl, nl, odl⟩ := isL
        obtain ⟨ocls, odict, odata, oslots⟩ := ol
        simp only at ocl odl
        subst ocl; subst odl
        have oat2 : (sh.heap.push { cls := .type "set", dict := none, data := .set #[] 0 (.fresh 0 0 led) }).get? l = some { cls := .type "list", dict := odict, data := .seq its nl, slots := oslots } := Heap.get?_push_of_some _ oat
        have esls := PySem.F.sub_list_set
        have eslf := PySem.F.sub_list_frozenset
        have ene : (Value.type "list" == Value.type "dict") = false := by decide
        have isL1 : (sh.heap.push { cls := .type "set", dict := none, data := .set #[] 0 (.fresh 0 0 led) }).IsList l its := ⟨_, oat2, rfl, nl, rfl⟩
        unfold Builtin.«set.__init__» noKeywords Builtin.Frozenset.updateFrom
        generalize ePI : pyIter = PI
        wp_walk
        subst ePI

        refine wpAny_pyIter_list isL1 ?_
        refine wpAny_bind (wpAny_runValue ?_)
        have ltS : l < sh.heap.objs.size := Heap.lt_size oat
        have quiet3 : A.in1.in1.in1.handled = none := by simp [quiet]
        have neI : l ≠ (sh.heap.push { cls := .type "set", dict := none, data := .set #[] 0 (.fresh 0 0 led) }).objs.size := by
          rw [Heap.size_push]; exact Nat.ne_of_lt (Nat.lt_succ_of_lt ltS)
        have apart : sh.heap.objs.size ∉ [(sh.heap.push { cls := .type "set", dict := none, data := .set #[] 0 (.fresh 0 0 led) }).objs.size, l] := by
          rw [Heap.size_push]; simp only [List.mem_cons, List.mem_singleton, List.not_mem_nil, or_false, not_or]
          exact ⟨Nat.ne_of_lt (Nat.lt_succ_self _), Nat.ne_of_gt ltS⟩
        have many : ts.length = its.size := by rw [← StrsAre.len_eq ilt, Array.length_toList]
        have each : ∀ (ix : Nat) (va : Value), its[ix]? = some va → ∃ t, va = .str (ts.getD ix Str.empty) t := fun ix va hv => strs_at ilt ix va (by rw [Array.getElem?_toList]; exact hv)
        refine loop_unlike ((Walks.list quiet3 _ l neI its).toS) sh.heap.objs.size
          apart ts many unl (by rw [← many]; exact few) each (its.size - 0) 0 _ (by omega) (Nat.zero_le _)
          ⟨⟨_, Heap.get?_push_size _ rfl, rfl, rfl⟩, (isL1.push _)⟩ ?hS0 ?then_
        case hS0 =>
          have eget : ((sh.heap.push { cls := .type "set", dict := none, data := .set #[] 0 (.fresh 0 0 led) }).push { cls := .type "list_iterator", data := .fields #[.ref l, .int 0 0] }).get? sh.heap.objs.size
              = some { cls := .type "set", dict := none, data := .set #[] 0 (.fresh 0 0 led) } := Heap.get?_push_of_some _ isSet
          exact PyProof.Rows.SetOf_congr ((PyProof.Rows.setObjOf_fresh (knd := PySem.strKind prog w) led).setOf eget (by unfold scanBound; omega)) (fun _ => rfl) rfl
        case then_ =>
          intro sh2 mv isSet2
          obtain ⟨h', g', d', tk', os'⟩ := sh2
          have eg : g' = sh.gens := mv.gens
          have ed : d' = sh.drawn := mv.drawn
          have eo : os' = sh.os := mv.os
          subst eg; subst ed; subst eo
          show wpAny _ _ _ _ _ _
          refine wpAny_pure ?_
          show wpAny _ _ (ret Value.none) _ _ _
          refine wpAny_pure ⟨rfl, h', tk', rfl, isSet2, fun bb ob eb ee => ?_⟩
          have eb1 : bb ≠ sh.heap.objs.size := Nat.ne_of_lt eb
          have eb2 : bb ≠ (sh.heap.push { cls := .type "set", dict := none, data := .set #[] 0 (.fresh 0 0 led) }).objs.size := by
            rw [Heap.size_push]; exact Nat.ne_of_lt (Nat.lt_succ_of_lt eb)
          exact mv.heap bb ob (by simp only [List.mem_cons, List.mem_singleton, List.not_mem_nil, or_false, not_or]; exact ⟨eb1, eb2⟩) (Heap.get?_push_of_some _ (Heap.get?_push_of_some _ ee))

      · cases r₂ with
        | error ee => exact er2
        | ok fl₂ =>
          cases fl₂ with
          | ret r =>
            obtain ⟨rfl, h', tk, rfl, isSet2, ekk⟩ := er2
            repeat (any_goals (first | assumption | wp_step))
            exact go _ _ isSet2 ekk
          | _ => exact er2.elim
    | _ => exact er.elim

end
end SU
namespace SU
open PySem PySem.Spec PyProof.Rows L2
/-- len(set(xs)), xs a list of texts, no two alike -/
def tLenSetU (K : PySem.W.Frag) (ta : TE) : TE := fun σ H Q => ta σ H fun x H1 => ∃ (l : Addr) (xs : List Str), x = .ref l ∧ SqL K H1 l (xs.map V.str) ∧ xs.Nodup ∧ xs.length ≤ 1000 ∧ Q (.int (xs.length : Nat)) H1
theorem pe_lenSetU {X : Cx} {a : Expr} {ta : TE} {p p2 q pos : Pos} (hc : X.calm = true) (hg : Gl X "len") (hm : X.mg "len" = none) (hg2 : Gl X "set") (hm2 : X.mg "set" = none) (ha : PE X a ta)
    (na : starEach [a] X.env = (false, eval a X.env) :: starEach [] X.env := by rfl) : PE X (.Call (.Name "len" p) [.Call (.Name "set" p2) [a] [] q] [] pos) (tLenSetU X.K ta) := by
  refine ⟨fun pins s σ H Q I said => ?_⟩
  refine Call_ (ld_blt I hg hm boot_len (PyProof.Rows.callWith_builtin1 (PyProof.Rows.args_cons ?_ rfl) rfl rfl))
  refine Call_ (ld_blt I hg2 hm2 boot_set (PyProof.Rows.callWith_type1 (PyProof.Rows.args_cons (thn (ha.run pins s σ H _ I said) fun v s1 ⟨x, H1, I1, r1, q1⟩ => PyProof.Rows.args_nil ?_) na) na rfl))
  obtain ⟨l, xs, rfl, hq, unl, few, q1⟩ := q1
  cases r1
  obtain ⟨its, r, pl, hz⟩ := I1.list hq
  refine call_set_unlike (I1.ok.hd hc) pl.isList (by simpa using strsAre_of r) unl (by unfold scanBound; omega) fun h' tk isS keep => PyProof.Rows.args_nil ?_
  have many : its.toArray.size = xs.length := by rw [List.size_toArray, ← r.length, List.length_map]
  rw [many] at isS
  obtain ⟨o, es, ep, t, ho, hex, hd, _, _, _, hf, hn⟩ := isS
  have I2 : Inv X pins σ H1 { s1 with heap := h', toks := tk } := I1.kept fun b o e => keep b o (Heap.lt_size e) e
  exact call_len_set ho hex hd hf (by rw [hn] <;> omega) ⟨.int xs.length, H1, I2.tok _, ⟨_, by rw [hn]⟩, q1⟩
end SU

/-! text * 0, text * 1; d.update(e); {**a, **b} -/
namespace BX
open PySem PySem.Spec PyProof.Rows L2
section
variable {X : Cx}
def rMulS : R2 := fun x y H Q => ∃ (z : Str) (b : Bool), x = .str z ∧ y = .int (if b = true then 1 else 0) ∧ Q (.str (if b = true then z else Str.empty)) H
theorem op_mulS : OpR X (binaryOp .Mult) rMulS := by
  intro pins s σ H x y v u Q I rx ry h
  obtain ⟨z, b, rfl, rfl, q⟩ := h
  obtain ⟨t, rfl⟩ := rx
  obtain ⟨t2, rfl⟩ := ry
  cases b with
  | false => exact PySem.P.mul_str_none (by decide) (by decide) ⟨.str Str.empty, H, I.tok _, ⟨_, rfl⟩, q⟩
  | true =>
    refine PySem.P.mul_str (by decide) (fun _ z => ?_) (fun _ z => ?_) ?_
    · exact absurd z (by simp)
    · exact absurd z (by simp)
    · show (if (1 : Int) < 1 then Made.str Str.empty else if ((1 : Int) == 1 || z.length == 0) = true then Made.val (.str z t) else _).post _ s
      rw [if_neg (by decide), if_pos (by simp)]
      exact ⟨.str z, H, I, ⟨_, rfl⟩, q⟩
/-- d.update(e), both dicts that stand there, not the same -/
def rUpd : V → List V → Hp → VK → Prop := fun x xs H Q => ∃ (a b : Addr) (kvs more : List (Key × V)), x = .ref a ∧ xs = [.ref b] ∧ a ≠ b ∧ H a = some (.dK kvs) ∧ H b = some (.dK more) ∧ kvs.length + more.length ≤ sizeLine ∧ Q .non (upd H a (.dK (mergeK kvs more)))
theorem mt_upd : MtR X "dict.update" rUpd := by
  intro pins s σ H x xs v us Q I rx rxs h
  obtain ⟨a, b, kvs, more, rfl, rfl, ne, ea, eb, few, q⟩ := h
  cases rx
  obtain ⟨u, rfl, ru⟩ := rxs.one
  obtain rfl : u = Value.ref b := ru
  obtain ⟨za, lo, va, ra, da⟩ := dk_of I.hok ea
  obtain ⟨zb, lo2, vb, rb, db⟩ := dk_of I.hok eb
  refine call_meetsIn PySem.F.slot_dict_update da.typeIs PySem.F.entry_dict_update (PySem.F.args_dict_update_2 _ _) (PySem.meets_dict_update (mixKind X.prog X.w) a b ne lo2) ⟨va, vb, da, db, by rw [← ra.length, ← rb.length]; exact few, fun h' dd _ hs => ?_⟩
  have he : ∃ q, h'.get? a = some q := let ⟨q, _, _, hq, _⟩ := dd; ⟨q, hq⟩
  have hl : (mergeK kvs more).length ≤ sizeLine := Nat.le_trans (length_mergeK more kvs) few
  exact ⟨.non, _, d_write (t' := s.toks) I (by rw [ea]; exact True.intro) hs he (dk_new hl lo (KV.merge rb ra) dd), rfl, q⟩
end
end BX

namespace BX
open PySem PySem.Spec PyProof.Rows L2
section
variable {prog : Program} {w : World} {A : Around} {E : Value → Shared → Prop} {s : Shared}
theorem put_pairs {knd : KeyKind prog w Key} {d : Addr} {kvs : List (Key × Value)} {k : Key} {key v : Value} {Q : Unit → Shared → Prop} (isk : knd.is k key = true) (hm : s.heap.DictOf knd d kvs) (few : kvs.length ≤ sizeLine)
    (then_ : ∀ h', h'.DictOf knd d (stored kvs k v) → Heap.SameBut d s.heap h' → Q () { s with heap := h' }) : wpAny (model prog w) A (dictPut d (knd.hash k) key v) Q E s := by
  obtain ⟨o, es, ep, ho, hc, hd, hk, hp, hn⟩ := hm
  have fewE : es.size ≤ sizeLine := by
    have e1 := hp.length
    have e2 : es.toList.length = es.size := by simp
    omega
  unfold dictPut
  refine wpAny_bind (wpAny_dictFind_of isk ho hd hk ?_)
  have place : (es.findIdx? fun e => knd.is k e.key) = kvs.findIdx? fun kv => decide (kv.1 = k) := by
    rw [← hp.findIdx k]
    obtain ⟨l⟩ := es
    simp
  cases at_ : es.findIdx? fun e => knd.is k e.key with
  | some i =>
    have there := any_of_findIdx_some (place ▸ at_)
    refine wpAny_updateDict ho hd (then_ _ ⟨_, _, ep, Heap.get?_update_self _ ho (Obj.isFreed_of_dict (Obj.data_mapDict hd _)), hc.mapDict _, Obj.data_mapDict hd _, hk.modify _ _, ?_, ?_⟩ (Heap.SameBut.update ..))
    · rw [stored, if_pos there]
      have hl : (es.toList.findIdx? fun e => knd.is k e.key) = some i := by
        rw [← at_]
        obtain ⟨l⟩ := es
        simp
      have z := hp.modify hn hl v
      obtain ⟨l⟩ := es
      simpa using z
    · rw [stored, if_pos there, keys_map_store]
      exact hn
  | none =>
    have off : k ∉ kvs.map (·.1) := not_mem_of_findIdx_none (place ▸ at_)
    have off2 : ¬ (kvs.any fun kv => decide (kv.1 = k)) = true := fun z => by
      obtain ⟨kv, hkv, he⟩ := List.any_eq_true.mp z
      exact off (List.mem_map.mpr ⟨kv, hkv, of_decide_eq_true he⟩)
    refine wpAny_updateDictKeys (hz := fewE) ho hd (then_ _ ⟨_, _, ep + 1, Heap.get?_update_self _ ho (Obj.isFreed_of_dict (Obj.data_mapDictKeys hd _)), hc.mapDictKeys _, Obj.data_mapDictKeys hd _, hk.push isk _, ?_, ?_⟩ (Heap.SameBut.update ..))
    · rw [stored, if_neg off2]
      have z := hp.append isk (knd.hash k) v
      obtain ⟨l⟩ := es
      simpa using z
    · rw [stored, if_neg off2, List.map_append, List.nodup_append]
      refine ⟨hn, by simp, ?_⟩
      intro a ha b hb
      have eb : b = k := by simpa using hb
      intro z
      exact off (eb ▸ z ▸ ha)
theorem merge_dict {d a : Addr} {kvs more : List (Key × Value)} {Q : Unit → Shared → Prop} (ne : d ≠ a) (lo : (a == sysModules) = false) (hd : s.heap.DictOf (mixKind prog w) d kvs) (ha : s.heap.DictOf (mixKind prog w) a more) (few : kvs.length + more.length ≤ sizeLine)
    (then_ : ∀ h', h'.DictOf (mixKind prog w) d (merged kvs more) → Heap.SameBut d s.heap h' → Q () { s with heap := h' }) : wpAny (model prog w) A (mergeMapping d (.ref a) false) Q E s := by
  obtain ⟨od, esd, epd, hod, hcd, hdd, hkd, hpd, hnd⟩ := id hd
  obtain ⟨oo, eso, epo, hoo, hco, hdo', hko, hpo, hno⟩ := id ha
  have many : more.length = eso.size := by rw [← hpo.length]; simp
  unfold mergeMapping
  refine wpAny_bind (wpAny_isInstance ha.typeIs isSubtype_dict_dict ?_)
  simp only [if_true]
  refine wpAny_bind (wpAny_specialOf ha.typeIs PySem.F.slot_dict_iter.lookup ?_)
  simp only [beq_self_eq_true]
  refine wpAny_bind (wpAny_pure ?_)
  dsimp only
  rw [lo]
  simp only [Bool.false_eq_true, if_false]
  refine wpAny_bind (wpAny_dictEntries hod hdd ?_)
  have body : wpAny (model prog w) A (do
      let l ← dictEntries a
      let epoch ← dictEpoch a
      forIn (List.range l.size) PUnit.unit fun i (_ : PUnit) => (do
        let l' ← dictEntries a
        match l'[i]? with
          | some e => do
            holding [e.key, e.val] (dictPut d e.hash e.key e.val)
            let ep' ← dictEpoch a
            if (ep' != epoch) = true then do
                (unsupported "dict.changed-during-merge" : Sem PUnit)
                pure (ForInStep.yield PUnit.unit)
              else pure (ForInStep.yield PUnit.unit)
          | _ => do
            (unsupported "dict.changed-during-merge" : Sem PUnit)
            pure (ForInStep.yield PUnit.unit) : Sem (ForInStep PUnit))
      pure ()) Q E s := by
    refine wpAny_bind (wpAny_dictEntries hoo hdo' (wpAny_bind (wpAny_dictEpoch hoo hdo' (wpAny_bind ?_))))
    rw [List.range_eq_range']
    refine wpAny_forIn_list _ (fun rest _ s' => ∃ h' i, s' = { s with heap := h' } ∧ rest = List.range' i (eso.size - i) ∧ i ≤ eso.size ∧ h'.DictOf (mixKind prog w) d (merged kvs (more.take i)) ∧ h'.get? a = some oo ∧ Heap.SameBut d s.heap h')
      _ ?_ ?_ _ _ ⟨s.heap, 0, rfl, by simp, Nat.zero_le _, by simpa [merged] using hd, hoo, Heap.SameBut.refl _ _⟩
    · rintro x rest b s' ⟨h', i, rfl, hr, hi, dd, at_, sb⟩
      have below : i < eso.size := by
        rcases Nat.lt_or_ge i eso.size with z | z
        · exact z
        · rw [Nat.sub_eq_zero_of_le z] at hr
          simp at hr
      obtain ⟨rfl, er⟩ : x = i ∧ rest = List.range' (i + 1) (eso.size - (i + 1)) := by
        have e : eso.size - i = (eso.size - (i + 1)) + 1 := by omega
        rw [e, List.range'_succ] at hr
        injection hr with h1 h2
        exact ⟨h1, h2⟩
      refine wpAny_bind (wpAny_dictEntries at_ hdo' ?_)
      rw [Array.getElem?_eq_getElem below]
      obtain ⟨⟨k, v⟩, hkv⟩ : ∃ kv, more[x]? = some kv := ⟨more[x]'(by rw [many]; exact below), List.getElem?_eq_getElem _⟩
      obtain ⟨isk, isv⟩ := hpo.get? (e := eso[x]) (by simp [below]) hkv
      obtain ⟨k', isk', eh⟩ := hko eso[x] (Array.getElem_mem below)
      obtain rfl : k' = k := (mixKind prog w).inj _ _ _ isk' isk
      show wpAny _ _ (holding [eso[x].key, eso[x].val] (dictPut d eso[x].hash eso[x].key eso[x].val) >>= _) _ _ _
      rw [eh, isv]
      have fewX : (merged kvs (more.take x)).length ≤ sizeLine := by
        have e1 := merged_length_le kvs (more.take x)
        have e2 : (more.take x).length ≤ more.length := by rw [List.length_take]; omega
        omega
      refine wpAny_bind (wpAny_holding (put_pairs isk dd fewX fun h'' dd2 sb2 => ?_))
      have at2 : h''.get? a = some oo := (sb2.2 a (Ne.symm ne)).trans at_
      refine wpAny_bind (wpAny_dictEpoch at2 hdo' ?_)
      rw [if_neg (by simp)]
      exact wpAny_pure ⟨h'', x + 1, rfl, er, below, by rw [merged_take_succ kvs more x (k', v) hkv]; exact dd2, at2, sb.trans sb2⟩
    · rintro b s' ⟨h', i, rfl, hr, hi, dd, at_, sb⟩
      have last : i = eso.size := by
        rcases Nat.lt_or_ge i eso.size with z | z
        · have e : eso.size - i = (eso.size - (i + 1)) + 1 := by omega
          rw [e, List.range'_succ] at hr
          exact nomatch hr
        · exact Nat.le_antisymm hi z
      refine wpAny_pure (then_ h' ?_ sb)
      rw [last, ← many, List.take_length] at dd
      exact dd
  split
  · refine wpAny_bind (wpAny_dictEntries hoo hdo' (wpAny_bind ?_))
    refine wpAny_forIn_array' _ (fun rest _ s' => s' = s ∧ ∀ e ∈ rest, ∃ k, (mixKind prog w).is k e.key = true) _ ?_ ?_ _ _ ⟨rfl, fun e he => ?_⟩
    · rintro x rest b s' ⟨rfl, hall⟩
      obtain ⟨k, isk⟩ := hall x (List.mem_cons_self ..)
      have nr : wpAny (model prog w) A (pure (ForInStep.yield PUnit.unit)) (fun r s' => match r with | .yield b' => s' = s' ∧ ∀ e ∈ rest, ∃ k, (mixKind prog w).is k e.key = true | .done b' => True) E s' := wpAny_pure ⟨rfl, fun e he => hall e (List.mem_cons_of_mem _ he)⟩
      rcases keyIs_shape isk with ⟨i, t, e1, e2⟩ | ⟨y, t, e1, e2⟩
      · rw [e2]
        exact wpAny_pure ⟨rfl, fun e he => hall e (List.mem_cons_of_mem _ he)⟩
      · rw [e2]
        exact wpAny_pure ⟨rfl, fun e he => hall e (List.mem_cons_of_mem _ he)⟩
    · rintro b s' ⟨rfl, _⟩
      exact body
    · obtain ⟨k, isk, _⟩ := hko e (by simpa using he)
      exact ⟨k, isk⟩
  · exact body
end
end BX

namespace BX
open PySem PySem.Spec PyProof.Rows L2
/-- {**a, **b}: two dicts that stand there; the new one is made ahead of both -/
def tTwo (ta tb : TE) : TE := fun σ H Q => ∀ p, H p = none → ta σ (upd H p (.dK [])) fun x H1 => ∃ (a : Addr) (kvs : List (Key × V)), x = .ref a ∧ a ≠ p ∧ H1 a = some (.dK kvs) ∧ H1 p = some (.dK []) ∧ kvs.length ≤ 1000 ∧
  tb σ (upd H1 p (.dK (mergeK [] kvs))) fun y H2 => ∃ (b : Addr) (more : List (Key × V)), y = .ref b ∧ b ≠ p ∧ H2 b = some (.dK more) ∧ H2 p = some (.dK (mergeK [] kvs)) ∧ more.length ≤ 1000 ∧ Q (.ref p) (upd H2 p (.dK (mergeK (mergeK [] kvs) more)))
section
variable {X : Cx}
theorem merge_step {pins : List (Addr × Obj)} {σ : L2.St} {H : Hp} {s : Shared} {A : Around} {E : Value → Shared → Prop} {p a : Addr} {kvs more : List (Key × V)} {Q : Unit → Shared → Prop} (I : Inv X pins σ H s) (ne : a ≠ p) (ep : H p = some (.dK kvs)) (ea : H a = some (.dK more)) (few : kvs.length + more.length ≤ sizeLine)
    (then_ : ∀ s', Inv X pins σ (upd H p (.dK (mergeK kvs more))) s' → Q () s') : wpAny (model X.prog X.w) A (mergeMapping p (.ref a) false) Q E s := by
  obtain ⟨za, lo, va, ra, da⟩ := dk_of I.hok ep
  obtain ⟨zb, lo2, vb, rb, db⟩ := dk_of I.hok ea
  refine merge_dict (Ne.symm ne) lo2 da db (by rw [← ra.length, ← rb.length]; exact few) fun h' dd hs => then_ _ ?_
  have he : ∃ q, h'.get? p = some q := let ⟨q, _, _, hq, _⟩ := dd; ⟨q, hq⟩
  exact d_write (t' := s.toks) I (by rw [ep]; exact True.intro) hs he (dk_new (Nat.le_trans (length_mergeK more kvs) few) lo (KV.merge rb ra) dd)
theorem pe_two {e f : Expr} {pos : Pos} {ta tb : TE} (he : PE X e ta) (hf : PE X f tb) : PE X (.Dict [none, none] [e, f] pos) (tTwo ta tb) := by
  refine ⟨fun pins s σ H Q I q => ?_⟩
  have hn := I.hok.fresh (Nat.le_refl s.heap.objs.size)
  have J := I.laid (a := s.heap.objs.size) (o := .dK []) (h' := s.heap.push { cls := .type "dict", data := .dict #[] }) (t' := s.toks) (fun _ _ q => Heap.get?_push_of_some _ q) (Nat.le_refl _) (dk_empty s.heap I.big)
  rw [PySem.arm_eval_Dict]
  unfold dictDisplay
  simp only [evalEachOpt, evalEach, evalOpt, List.map_cons, List.map_nil, List.zip_cons_cons, List.zip_nil_right, List.forIn_cons, List.forIn_nil]
  refine wpAny_bind (wpAny_standAt (wpAny_bind (wpAny_bind (wpAny_bind ?_))))
  rw [if_pos (show ([] : List (Sem Value × Sem Value)).isEmpty = true from rfl)]
  refine wpAny_pure (wpAny_bind (wpAny_alloc ?_))
  refine wpAny_bind (wpAny_holding (wpAny_bind (thn (he.run pins _ σ _ _ J (q _ hn)) fun v s1 ⟨x, H1, I1, rx, a, kvs, ex, ne, ea, ep, few, q1⟩ => wpAny_bind (wpAny_standAt (wpAny_pure ?_)))))
  subst ex
  obtain rfl : v = Value.ref a := rx
  have l1 : (mergeK [] kvs).length ≤ 1000 := by
    have := length_mergeK kvs []
    rw [List.length_nil] at this
    omega
  have big : 2000 ≤ sizeLine := by decide
  refine wpAny_bind (wpAny_onRaise (wpAny_tryCatch (wpAny_onRaise (wpAny_holding (merge_step I1 ne ep ea (by rw [List.length_nil]; omega) fun s2 I2 => wpAny_pure (wpAny_bind (wpAny_bind ?_)))))))
  rw [if_pos (show ([] : List (Sem Value × Sem Value)).isEmpty = true from rfl)]
  refine wpAny_pure (wpAny_bind (wpAny_pure ?_))
  refine wpAny_bind (wpAny_holding (wpAny_bind (thn (hf.run pins _ σ _ _ I2 q1) fun v s3 ⟨y, H3, I3, ry, b, more, ey, ne2, eb, ep2, few2, q2⟩ => wpAny_bind (wpAny_standAt (wpAny_pure ?_)))))
  subst ey
  obtain rfl : v = Value.ref b := ry
  refine wpAny_bind (wpAny_onRaise (wpAny_tryCatch (wpAny_onRaise (wpAny_holding (merge_step I3 ne2 ep2 eb (by omega) fun s4 I4 => wpAny_pure (wpAny_pure (wpAny_bind ?_)))))))
  rw [if_pos (show ([] : List (Sem Value × Sem Value)).isEmpty = true from rfl)]
  exact wpAny_pure (wpAny_pure ⟨.ref s.heap.objs.size, _, I4, rfl, q2⟩)
end
end BX

set_option pp.maxSteps 400
/-! d.update(e), d itself or another dict -/
namespace BX
open PySem PySem.Spec PyProof.Rows L2
theorem meets_upd_self {Pg : Program} {wd : World} (d : Addr) : MeetsIn Pg wd (Builtin.«dict.update» ⟨[.ref d, .ref d], []⟩) (fun _ R s => (∃ kvs, s.heap.DictOf (mixKind Pg wd) d kvs) ∧ R (.ok (.ret .none)) s) :=
  .of_wp fun A R s ⟨⟨kvs, hd⟩, h⟩ => by
    unfold Builtin.«dict.update» Builtin.Dict.selfAndRest
    refine wpAny_bind (wpAny_bind (wpAny_notOrdered_dict hd.typeIs ?_))
    refine wpAny_pure ?_
    show wpAny (model Pg wd) A.in1 (Builtin.Dict.updateFrom "dict.update" d (.ref d) [] .none) _ _ s
    unfold Builtin.Dict.updateFrom
    refine wpAny_bind (wpAny_typeOf hd.typeIs ?_)
    rw [if_neg (by decide)]
    refine wpAny_bind ?_
    unfold Builtin.Dict.merge Builtin.Dict.readDirectly
    refine wpAny_bind (wpAny_bind (wpAny_isInstance hd.typeIs isSubtype_dict_dict ?_))
    simp only [Bool.not_true, Bool.false_eq_true, if_false]
    refine wpAny_bind (wpAny_specialOf hd.typeIs PySem.F.slot_dict_iter.lookup (wpAny_pure ?_))
    simp only [beq_self_eq_true, if_true]
    refine wpAny_bind (wpAny_pure ?_)
    unfold Builtin.Dict.mergeDict
    rw [if_pos (beq_self_eq_true d)]
    refine wpAny_bind (wpAny_rule (wpAny_pure ?_))
    show wpAny (model Pg wd) A.in1 (Builtin.Dict.addKeywords d [] >>= _) _ _ _
    exact wpAny_bind (wpAny_pure (wpAny_pure ⟨.none, rfl, h⟩))
section
variable {X : Cx}
def rUpdS : V → List V → Hp → VK → Prop := fun x xs H Q => (∃ (a : Addr) (kvs : List (Key × V)), x = .ref a ∧ xs = [.ref a] ∧ H a = some (.dK kvs) ∧ Q .non H) ∨ rUpd x xs H Q
theorem mt_updS : MtR X "dict.update" rUpdS := by
  intro pins s σ H x xs v us Q I rx rxs h
  rcases h with ⟨a, kvs, rfl, rfl, ea, q⟩ | h
  · cases rx
    obtain ⟨u, rfl, ru⟩ := rxs.one
    obtain rfl : u = Value.ref a := ru
    obtain ⟨za, lo, va, ra, da⟩ := dk_of I.hok ea
    exact call_meetsIn PySem.F.slot_dict_update da.typeIs PySem.F.entry_dict_update (PySem.F.args_dict_update_2 _ _) (meets_upd_self a) ⟨⟨va, da⟩, .non, H, I, rfl, q⟩
  · exact mt_upd pins s σ H x xs v us Q I rx rxs h
end
end BX

set_option pp.maxSteps 400
/-! ### an own exception over an own exception over ValueError, whose __init__ says super().__init__(f"..{x}"), then keeps x -/
namespace EXS
open PySem PySem.W PySem.Calls PyProof.Rows
section
variable {Pg : Program} {wd : World} {Ar : Around} {Er : Value → Shared → Prop} {hp : Heap} {ga : Array GenState} {dr : Drawn} {tc : Nat} {os : OsState}
variable {nm qn : Str} {C Nn : Addr} {bs bm : List Value} {hd : Bool} {sn : List Str} {sb : List Value} {ab : Bool} {cl : Option Bool} {dd : Option Addr} {z0 z1 z2 z3 z5 : Option Value}
/-- the wrapper of ValueError.__init__, bound to e, called -/
theorem call_mw {u e t0 : Addr} {us : List Value} {R : Value → Shared → Prop} (hC : hp.get? C = some (excClassObj nm qn C Nn bs bm hd sn sb ab cl dd z0 z1 z2 z3 z5 "ValueError.__new__")) (he : hp.get? e = some (HandSPX.excO C t0))
    (hu : hp.get? u = some (kxs_mw "ValueError.__init__" e)) (few : us.length ≤ sizeLine) (k : ∀ g t1, (∀ b o, b ≠ e → hp.get? b = some o → g.get? b = some o) → g.get? e = some (HandSPX.excO C t1) → R .none ⟨g, ga, dr, tc, os⟩) :
    wpAny (model Pg wd) Ar (call (.ref u) us) R Er ⟨hp, ga, dr, tc, os⟩ := by
  refine wpAny_call (codeAny_of_tree ?_)
  show wpAny (model Pg wd) Ar.in1 (callAny (.ref u) ⟨us, []⟩) _ _ ⟨hp, ga, dr, tc, os⟩
  unfold callAny
  refine wpAny_bind (wpAny_load hu ?_)
  have b1 : (Value.type "method-wrapper" == Value.type "method" || Value.type "method-wrapper" == Value.type "builtin_function_or_method" || Value.type "method-wrapper" == Value.type "method-wrapper") = true := by decide
  dsimp only [kxs_mw]
  simp only [b1, if_true]
  refine KFB.if_so (by decide) ?_
  refine wpAny_bind (check_bound_init PySem.F.excBase_ValueError.toExcCallFacts hC he rfl ?_)
  refine wpAny_bind (wpAny_pure (wpAny_pure ⟨Code.quiet_builtin _ (by decide +kernel), codeAny_builtin PySem.F.excBase_ValueError.initEntry ?_⟩))
  rw [Around.under_plainId PySem.F.excBase_ValueError.init.plain _]
  wp_walk
  refine k _ hp.objs.size (fun b o nb ho => ?_) ?_
  · exact (Heap.get?_update_other _ _ (Ne.symm nb)).trans (Heap.get?_push_of_some _ ho)
  · exact (Heap.get?_update_self _ (Heap.get?_push_of_some _ he) rfl).trans rfl
end
end EXS
namespace EXS
open PySem PySem.Spec PyProof.Rows L2 NdefX
/-! ### {x}: an int, or a tuple of ints and texts -/
/-- what is told well: an int, a tuple of ints and texts -/
def Tells (K : PySem.W.Frag) (H : Hp) (x : V) : Prop := (∃ i : Int, x = .int i ∧ i.natAbs < 10 ^ 100) ∨ ∃ (a : Addr) (l : List V), x = .ref a ∧ SqT K H a l ∧ l.length ≤ 1000 ∧ ∀ y ∈ l, (∃ i : Int, y = .int i ∧ i.natAbs < 10 ^ 100) ∨ ∃ z : Str, y = .str z ∧ z.length ≤ 100 ∧ ∀ c ∈ z.cps.toList, c < 16 ^ 8
theorem int_len {i : Int} (h : i.natAbs < 10 ^ 100) : (Str.ofString (toString i)).length ≤ 101 := by
  have e := int_text_length_le10 (k := 100) (by decide) h
  rw [PySem.ofString_length]
  exact e
theorem log_of {i : Int} (h : i.natAbs < 10 ^ 100) : i.natAbs.log2 < 1920 := by
  by_cases z : i.natAbs = 0
  · rw [z]; decide
  · rw [Nat.log2_lt z]
    exact Nat.lt_trans h (by decide +kernel)
theorem reprs {Pg : Program} {wd : World} : ∀ {l : List V} {its : List Value}, Vals l its → (∀ y ∈ l, (∃ i : Int, y = .int i ∧ i.natAbs < 10 ^ 100) ∨ ∃ z : Str, y = .str z ∧ z.length ≤ 100 ∧ ∀ c ∈ z.cps.toList, c < 16 ^ 8) →
    ∃ ts, ReprAll Pg wd its ts ∧ piled ts ≤ l.length * 1100
  | [], _, .nil, _ => ⟨[], .nil, Nat.zero_le _⟩
  | y :: l, _, .cons r1 r2, h => by
    obtain ⟨ts, h1, h2⟩ := reprs r2 fun z hz => h z (List.mem_cons_of_mem _ hz)
    rcases h y List.mem_cons_self with ⟨i, rfl, hi⟩ | ⟨z, rfl, hl, hz⟩
    · obtain ⟨t, rfl⟩ := r1
      refine ⟨_ :: ts, .cons (ReprIs.int t (log_of hi)) h1, ?_⟩
      have := int_len hi
      rw [piled_cons, List.length_cons]
      omega
    · obtain ⟨t, rfl⟩ := r1
      have hr := StrLaws.reprText_len z hz
      refine ⟨_ :: ts, .cons (ReprIs.str z t (by rw [sizeLine_eq]; omega)) h1, ?_⟩
      rw [piled_cons, List.length_cons]
      omega
def tFmtM (K : PySem.W.Frag) (te : TE) : TE := fun σ H Q => te σ H fun x H1 => Tells K H1 x ∧ ∀ m : Str, m.length ≤ 1200000 → Q (.str m) H1
theorem pe_fmtM {X : Cx} {e : Expr} {te : TE} {pos : Pos} {k : Nat} (hr : Room k X.A) (he : PE X e te) : PE X (.FormattedValue e (-1) none pos) (tFmtM X.K te) := by
  refine ⟨fun pins s σ H Q I h => ?_⟩
  refine wpAny_FormattedValue_plain (thn (he.run pins s σ H _ I h) fun v s1 hv => ?_)
  obtain ⟨x, H1, I1, r1, ht, q⟩ := hv
  rcases ht with ⟨i, rfl, hi⟩ | ⟨a, l, rfl, hs, few, hy⟩
  · obtain ⟨t, rfl⟩ := r1
    have := int_len hi
    exact wpAny_formatField_int (log_of hi) ⟨.str (toString i), H1, I1.tok _, ⟨_, rfl⟩, q _ (by show (Str.ofString (toString i)).length ≤ _; omega)⟩
  · cases r1
    obtain ⟨its, rv, ⟨o, ho, hcl, n, hd⟩, _⟩ := I1.tuple hs
    obtain ⟨ts, h1, h2⟩ := reprs rv hy
    have hp := fmt_text ts
    have hu := hr.units
    have b1 : l.length * 1100 ≤ 1100000 := Nat.mul_le_mul_right 1100 few
    have hz := sizeLine_eq
    refine fmt_tuple (ts := ts) (by omega) ho hcl hd h1 (by omega) fun m u tk hm => ⟨.str m, H1, I1.tok _, ⟨u, rfl⟩, q m (by omega)⟩
end EXS

set_option pp.maxSteps 400
namespace EXS
open PySem PySem.Spec PyProof.Rows L2 NdefX
/-- the words of such an __init__ -/
abbrev iF (qual : Str) (st : Stmt) (cc cda : Addr) : NF := ⟨"__init__", qual, defArgs st, defBody st, defScope st, [("__class__", cc)], cda⟩
/-- what the written part says of it -/
structure SupF (Pg : Program) (K : PySem.W.Frag) (C : Addr) (qual : Str) (st : Stmt) (f : Addr) (fd : FuncData) : Prop where
  ex : ∃ (oc : Value) (od : Option Addr) (osl : Array (Option Value)) (dV kV doc pm ct : Value) (an : Option Addr) (cda cc : Addr) (o1 o2 : Value) (d1 d2 : Option Addr) (s1 s2 : Array (Option Value)) (vs : Array Value) (file : Str) (tf : Tok),
    fd = PySem.W.fnX "__init__" qual (defArgs st) (defBody st) (defScope st) [("__class__", cc)] dV kV doc pm an (.ref cda) ct ∧ K.lookup f = some ⟨oc, od, .func fd, osl⟩ ∧ PySem.W.codeIn K (.ref cda) qual = true ∧
    K.lookup cda = some ⟨o1, d1, .fields vs, s1⟩ ∧ vs[2]? = some (.str file tf) ∧ ((Pg.main.file : Str) == file) = true ∧ K.lookup cc = some ⟨o2, d2, .cell (some (.ref C)), s2⟩
  kp : PySem.W.keepIn K (.ref f) = true
/-- what it says of the class -/
structure SupC (K : PySem.W.Frag) (C : Addr) : Prop where
  ox : OexC K C
  su : PySem.W.ks_superIn K C C "__init__" = some (some (.builtin "ValueError.__init__"))
  sv : PySem.W.subIn K (.ref C) (.type "ValueError") = some true
  sm : PySem.W.mroIn K C (.ref C) = some true
  so : PySem.W.nsIn K cStatics "thirdparty.any" = some none
section
variable {CX : CXT} {Pg : Program} {wd : World} {K : PySem.W.Frag} {mg : Str → Option Value} {base : Heap} {N : List Str} {qual : Str} {st : Stmt} {f cc cda : Addr} {Ar : Around} {outer : List Env} {s0 : Shared} {H0 : Hp} {Er : XK}
abbrev iX (CX : CXT) (Pg : Program) (wd : World) (K : PySem.W.Frag) (mg : Str → Option Value) (base : Heap) (N : List Str) (qual : Str) (st : Stmt) (f cc cda : Addr) (Ar : Around) (outer : List Env) (s0 : Shared) (H0 : Hp) (Er : XK) : Cx := ncx CX Pg wd K mg base N (iF qual st cc cda) f Ar outer s0 H0 Er
/-- super().__init__(e) -/
theorem sup_stmt {σ : L2.St} {H : Hp} {s : Shared} {a C : Addr} {e : Expr} {ta : TA} {p0 p1 p2 p3 p4 : Pos} {ar : Arg} {of : Obj} {fd : FuncData} {o1 o2 : Value} {d1 d2 : Option Addr} {t1 t2 : Array (Option Value)} {vs : Array Value} {file : Str} {tf : Tok} {body : List Stmt} {R : Flow → Shared → Prop} {pl : Sem Bool}
    (I : Inv (iX CX Pg wd K mg base N qual st f cc cda Ar outer s0 H0 Er) [] σ H s) (T : SupC K C) (lf : K.lookup f = some of) (hfd : of.data = .func fd) (hp : (fd.params.posonlyargs ++ fd.params.args).head? = some ar) (lcd : K.lookup cda = some ⟨o1, d1, .fields vs, t1⟩) (hvs : vs[2]? = some (.str file tf)) (hfile : ((Pg.main.file : Str) == file) = true)
    (lcc : K.lookup cc = some ⟨o2, d2, .cell (some (.ref C)), t2⟩) (hks : (defScope st).names.lookup ("super" : Str) = some .globalImplicit) (hkc : (defScope st).names.lookup ("__class__" : Str) = some .free) (hka : (defScope st).names.lookup ar.arg = some .local) (hN : N[0]? = some ar.arg) (hσ : σ[0]? = some (some (.ref a)))
    (htop : (Pg.main.scope.names.lookup ("super" : Str)).isSome = false) (mgs : mg "super" = none) (ha : PA (iX CX Pg wd K mg base N qual st f cc cda Ar outer s0 H0 Er) [e] ta)
    (hst : starEach [e] (iX CX Pg wd K mg base N qual st f cc cda Ar outer s0 H0 Er).env = (false, eval e (iX CX Pg wd K mg base N qual st f cc cda Ar outer s0 H0 Er).env) :: starEach [] (iX CX Pg wd K mg base N qual st f cc cda Ar outer s0 H0 Er).env)
    (hsw : swapsWith (.Call (.Attribute (.Call (.Name "super" p0) [] [] p1) "__init__" p2) [e] [] p3) none p4.line (iX CX Pg wd K mg base N qual st f cc cda Ar outer s0 H0 Er).env = pure false) (hea : H a = some (exo a C none))
    (hev : eval (.Call (.Attribute (.Call (.Name "super" p0) [] [] p1) "__init__" p2) [e] [] p3) (envF (iF qual st cc cda) f s0.heap.objs.size) = (do
      let ov ← attributeBase (.Call (.Name "super" p0) [] [] p1) "__init__" (envF (iF qual st cc cda) f s0.heap.objs.size) (eval (.Call (.Name "super" p0) [] [] p1) (envF (iF qual st cc cda) f s0.heap.objs.size))
      standAt p2.atName
      let (g, first) ← holding [ov] (getMethod ov "__init__" pl)
      callWith p3 g first (backTo p3 (starEach [e] (envF (iF qual st cc cda) f s0.heap.objs.size))) []))
    (hq : ta σ H fun ws H1 => ws.length ≤ 1000 ∧ H1 a = some (exo a C none) ∧ ∀ s', Inv (iX CX Pg wd K mg base N qual st f cc cda Ar outer s0 H0 Er) [] σ H1 s' → R .next s') :
    _root_.PySem.wpAt (model Pg wd) (Ar.deeper (envF (iF qual st cc cda) f s0.heap.objs.size)) (.func body (envF (iF qual st cc cda) f s0.heap.objs.size)) (exec (.Expr (.Call (.Attribute (.Call (.Name "super" p0) [] [] p1) "__init__" p2) [e] [] p3) p4) (envF (iF qual st cc cda) f s0.heap.objs.size)) R (iX CX Pg wd K mg base N qual st f cc cda Ar outer s0 H0 Er).xe s := by
  have X0 : K.In s.heap := I.kIn
  obtain ⟨m, hn, hl⟩ := id I.loc
  obtain ⟨u0, r0, hlook⟩ := hl 0 ar.arg (.ref a) hN hσ (.inl hka)
  cases r0
  have hm : m ar.arg = some (.ref a) := by
    rcases hlook with ⟨_, z⟩ | ⟨z | z, _⟩
    · exact z
    · exact absurd (hka.symm.trans z) (by decide)
    · exact absurd (hka.symm.trans z) (by decide)
  have hk : (defScope st).kind = .function := I.ok.kind
  obtain ⟨mb, hmb, hbb⟩ := I.mod.blt
  have hC2 : ∃ cd, PySem.W.clsIn K C = some cd := by
    obtain ⟨nm, q, Nn, bs, bm, sn, sub, ab, col, dd, k0, k1, k2, k3, k5, hC, _⟩ := T.ox.cls
    exact ⟨_, by unfold PySem.W.clsIn; rw [hC] <;> rfl⟩
  obtain ⟨cd, hcd⟩ := hC2
  obtain ⟨oD, hD1, hD2⟩ : ∃ oD, s.heap.get? C = some oD ∧ oD.data = .cls cd := by
    have z := hcd
    unfold PySem.W.clsIn at z
    split at z
    · rename_i c d cd' sl ho
      cases z
      exact ⟨_, X0 _ _ ho, rfl⟩
    · cases z
  obtain ⟨tA, hoA⟩ := exo_at I.hok hea
  have hbk : ∀ b o, base.get? b = some o → s.heap.get? b = some o := I.bk
  have hxC : a ≠ C := fun z => by
    rw [z, hD1] at hoA
    cases hoA
    cases hD2
  have hI : ∀ h, (∀ b o, s.heap.get? b = some o → h.get? b = some o) → PySem.W.Looks (model Pg wd) h (isInstance (.ref a) (.type "ValueError")) true := fun h k => by
    have J : PySem.W.InstAt h a { cls := .ref C, dict := none, data := .fields #[.ref tA, .none, .none, .none, .bool false, .none] } C none := ⟨k _ _ hoA, rfl, rfl, trivial⟩
    exact J.type.andThen (PySem.W.looks_subIn (X0.keeps k) T.sv)
  refine ks_wpAt_Expr_any (ks_wpAt_MethodCall (pl := pl) ?_ hev) (by show ((defScope st).kind == .module && _) = false; rw [hk]; rfl) hsw
  refine ks_wpAt_super_base (env := envF (iF qual st cc cda) f s0.heap.objs.size) hks hkc (by decide +kernel) rfl (X0 _ _ lf) hfd hp rfl (X0 _ _ lcd) rfl hvs hfile htop ?_
  refine PySem.W.ks_loadName_global hk hks (Calls.loadGlobal_builtin (env := envF (iF qual st cc cda) f s0.heap.objs.size) (I.mod.glob.keeps hbk) mgs (hmb.keeps hbk) ((hbb "super" (by decide +kernel)).trans Boot.«super») ⟨rfl, ?_⟩)
  refine wpAny_loadName_free hk hkc rfl ⟨_, X0 _ _ lcc, rfl⟩ ?_
  refine wpAny_loadName_local hk hka hn hm ?_
  refine ks_wpAny_isType_cls hD1 hD2 ⟨rfl, ?_⟩
  obtain ⟨hh, gg, dg, tg, og⟩ := s
  refine ks_wpAny_call_super hD1 hD2 hoA rfl (fun c z => nomatch z) (PySem.W.looks_mroIn X0 T.sm) (fun h1 e1 k1 => ?_)
  have X1 : K.In h1 := X0.keeps k1
  have I1 : Inv (iX CX Pg wd K mg base N qual st f cc cda Ar outer s0 H0 Er) [] σ H ⟨h1, gg, dg, tg + 1, og⟩ := I.kept (t' := tg + 1) k1
  have hsu := T.su
  unfold PySem.W.ks_superIn at hsu
  rw [hcd] at hsu
  refine PySem.W.kxs_getMethod PySem.W.kxs_ValueError e1 (PySem.W.looks_opaque X1 T.so) (l₀ := cd.mro) (fun A Q E s k q => wpAny_bind ((PySem.W.looks_clsIn X1 hcd) A _ E s k (wpAny_pure q))) rfl X1 hsu (hI _ k1) hxC (by decide +kernel) ?_
  have k2 : ∀ b o, h1.get? b = some o → (h1.push (PySem.W.kxs_mw "ValueError.__init__" a)).get? b = some o := fun b o z => Heap.get?_push_of_some _ z
  have g2 : (h1.push (PySem.W.kxs_mw "ValueError.__init__" a)).get? h1.objs.size = some (PySem.W.kxs_mw "ValueError.__init__" a) := Heap.get?_push_at rfl rfl
  have I2 : Inv (iX CX Pg wd K mg base N qual st f cc cda Ar outer s0 H0 Er) [(h1.objs.size, PySem.W.kxs_mw "ValueError.__init__" a)] σ H ⟨h1.push (PySem.W.kxs_mw "ValueError.__init__" a), gg, dg, tg + 1, og⟩ :=
    (I1.kept (t' := tg + 1) k2).pins_of fun p hp => by
      rw [List.mem_singleton.mp hp]
      refine ⟨g2, I1.hok.fresh (Nat.le_refl _), Nat.ne_of_gt I1.lt, I1.nofs (Nat.le_refl _), fun v z => ?_⟩
      cases z
  have key : wpAny (model Pg wd) (Ar.deeper (envF (iF qual st cc cda) f s0.heap.objs.size)) (spliced (backTo p3 (starEach [e] (envF (iF qual st cc cda) f s0.heap.objs.size)))) (fun us s' => PySem.W.KxsAt "ValueError.__init__" h1.objs.size a s'.heap ∧ wpAny (model Pg wd) (Ar.deeper (envF (iF qual st cc cda) f s0.heap.objs.size)) (call (.ref h1.objs.size) ([] ++ us)) (fun _ => R .next) (iX CX Pg wd K mg base N qual st f cc cda Ar outer s0 H0 Er).xe s') (iX CX Pg wd K mg base N qual st f cc cda Ar outer s0 H0 Er).xe ⟨h1.push (PySem.W.kxs_mw "ValueError.__init__" a), gg, dg, tg + 1, og⟩ := by
    refine thn (ha.run p3 _ _ σ H _ I2 hq) fun us s3 ⟨ws, H1, I3, rv, few, ea, fin⟩ => ?_
    have hpin := (I3.pin (h1.objs.size, PySem.W.kxs_mw "ValueError.__init__" a) (List.mem_append_right _ (List.mem_singleton.mpr rfl))).1
    refine ⟨hpin, ?_⟩
    obtain ⟨nm, q, Nn, bs, bm, sn, sub, ab, col, dd, k0, k1, k2, k3, k5, hC, hbm⟩ := T.ox.cls
    obtain ⟨t9, ho9⟩ := exo_at I3.hok ea
    have hC3 := I3.kIn _ _ hC
    have I4 : Inv (iX CX Pg wd K mg base N qual st f cc cda Ar outer s0 H0 Er) [] σ H1 s3 := I3.pins_of fun p hp => by cases hp
    obtain ⟨h3, g3, d3, t3, o3⟩ := s3
    refine call_mw hC3 ho9 hpin (by rw [List.nil_append, ← rv.length, sizeLine_eq]; omega) fun g4 t4 kk e4 => fin _ ?_
    have J := I4.write (t' := t3) (x := a) (e := a) (o := exo a C none) (by rw [ea]; exact True.intro) (.inl rfl) kk ⟨_, e4⟩ (exo_ok e4)
    have eu : upd H1 a (exo a C none) = H1 := by
      funext b
      by_cases hb : b = a
      · rw [hb, upd_same, ea]
      · rw [upd_ne hb]
    rw [eu] at J
    exact J
  rw [show starEach [e] (envF (iF qual st cc cda) f s0.heap.objs.size) = (false, eval e (envF (iF qual st cc cda) f s0.heap.objs.size)) :: starEach [] (envF (iF qual st cc cda) f s0.heap.objs.size) from hst] at key ⊢
  exact PySem.W.kxs_callWith (i := "ValueError.__init__") (x := a) rfl (Calls.evalArgs_plain key)
/-- what the body of such an __init__ promises -/
def spXi (K : PySem.W.Frag) (C : Addr) (fld : Str) : Sp := fun vs H Q _ => ∃ (a : Addr) (y : V), vs = [.ref a, y] ∧ H a = some (exo a C none) ∧ Tells K H y ∧ ∀ dx, H dx = none → dx ≠ a → Q .non (upd (upd H dx (exd dx [(fld, y)])) a (exo a C (some dx)))
theorem ok_xi {fd : FuncData} {C : Addr} {yn fld tx : Str} {p0 p1 p2 p3 p4 p5 p6 p7 p8 p9 p10 p11 pc : Pos} {j k : Nat} (S : SupF Pg K C qual st f fd) (T : SupC K C) (sc : NScope (["self", yn, "__class__"] : List Str) (["self", yn] : List Str) (["__class__"] : List Str) (defScope st)) (hks : (defScope st).names.lookup ("super" : Str) = some .globalImplicit)
    (few : tx.length ≤ 1000) (hb : defBody st = [.Expr (.Call (.Attribute (.Call (.Name "super" p0) [] [] p1) "__init__" p2) [.JoinedStr [.Constant (.str tx) j pc, .FormattedValue (.Name yn p5) (-1) none p6] p7] [] p3) p4, .Assign [.Attribute (.Name "self" p8) fld p9] (.Name yn p10) p11])
    (hev : ∀ (cc cda f L : Addr), ∃ pl : Sem Bool, eval (.Call (.Attribute (.Call (.Name "super" p0) [] [] p1) "__init__" p2) [.JoinedStr [.Constant (.str tx) j pc, .FormattedValue (.Name yn p5) (-1) none p6] p7] [] p3) (envF (iF qual st cc cda) f L) = (do
      let ov ← attributeBase (.Call (.Name "super" p0) [] [] p1) "__init__" (envF (iF qual st cc cda) f L) (eval (.Call (.Name "super" p0) [] [] p1) (envF (iF qual st cc cda) f L))
      standAt p2.atName
      let (g, first) ← holding [ov] (getMethod ov "__init__" pl)
      callWith p3 g first (backTo p3 (starEach [.JoinedStr [.Constant (.str tx) j pc, .FormattedValue (.Name yn p5) (-1) none p6] p7] (envF (iF qual st cc cda) f L))) []))
    (har : ∃ ar, ((defArgs st).posonlyargs ++ (defArgs st).args).head? = some ar ∧ ar.arg = "self") (hy1 : (yn == ("__debug__" : Str)) = false) (hy2 : (yn == ("__classdict__" : Str)) = false)
    (htop : (Pg.main.scope.names.lookup ("super" : Str)).isSome = false) (mgs : mg "super" = none) (hno : PySem.W.findIn K (.ref C) fld = some none) : FnOk Pg wd K mg base CX0 (k + 1) f fd (["self", yn] : List Str) (spXi K C fld) := by
  obtain ⟨oc, od, osl, dV, kV, doc, pm, ct, an, cda, cc, o1, o2, d1, d2, s1, s2, vs', file, tf, rfl, lk, hcd, lcd, hvs, hfile, lcc⟩ := S.ex
  obtain ⟨ar, hp, har⟩ := har
  refine ⟨fun vs H Q E h => ?_, fun A outer s H args us vs Q E hr e0 hbd r hsp => ?_⟩
  · obtain ⟨a, y, rfl, _⟩ := h
    rfl
  obtain ⟨a, y, rfl, ha, ht, q⟩ := hsp
  have KX : K.In s.heap := e0.mod.kin.keeps fun b o e => (e0.bs b o e).1
  have lim : s.heap.NoLimit := e0.mod.nolimit.keeps fun b o e => (e0.bs b o e).1
  refine ks_codeAny_call_defAt (body := defBody st) (binds := (["self", yn] : List Str).zip us) hr.depth (KX _ _ lk) rfl lim (PySem.W.codeRec_of KX hcd) rfl hbd sc.nocell (fun ⟨n, _⟩ hy => sc.par n (List.of_mem_zip hy).1) (fun h1 hns kp => ?_) sc.co sc.gen sc.kind
  have Cs : CellsAt [("__class__", cc)] ["__class__"] [none] s.heap H := by
    have one : ∀ {y : Str} {c : Addr}, ([(("__class__" : Str), cc)] : List (Str × Addr)).lookup y = some c → c = cc ∧ y = "__class__" := fun {y c} z => by
      have := PySem.mem_of_lookup z
      have := List.mem_singleton.mp this
      cases this
      exact ⟨rfl, rfl⟩
    refine ⟨rfl, fun y c z => ?_, fun x y c z1 z2 => ?_, fun i y hi => ?_⟩
    · rw [(one z).1]
      exact ⟨(e0.bs cc _ (e0.mod.kin _ _ lcc)).2, some (.ref C), ⟨_, KX _ _ lcc, rfl⟩⟩
    · rw [(one z1).2, (one z2).2]
    · match i, hi with
      | 0, hi =>
        cases hi
        exact ⟨cc, rfl, fun v z => by cases z⟩
  have I : Inv (iX CX0 Pg wd K mg base (["self", yn, "__class__"] : List Str) qual st f cc cda A outer s H E) [] (startF (["self", yn, "__class__"] : List Str) [.ref a, y] [none]) H { s with heap := h1, toks := s.toks + ((["self", yn] : List Str).zip us).length } := inv_startN (F := iF qual st cc cda) sc hr.hd e0 rfl r Cs hns kp
  have hself : (defScope st).names.lookup ("self" : Str) = some .local := sc.par "self" (by simp)
  have hyn : (defScope st).names.lookup yn = some .local := sc.par yn (by simp)
  have hX : (iX CX0 Pg wd K mg base (["self", yn, "__class__"] : List Str) qual st f cc cda A outer s H E).xe = fun e s' => wpAny (model Pg wd) (A.deeper (envF (iF qual st cc cda) f s.heap.objs.size)) (leaving (envF (iF qual st cc cda) f s.heap.objs.size) e) (fun _ s'' => CX0 outer H s E e s'') (fun e' s'' => CX0 outer H s E e' s'') s' := rfl
  show _root_.PySem.wpAt (model Pg wd) (A.deeper (envF (iF qual st cc cda) f s.heap.objs.size)) (.func (defBody st) (envF (iF qual st cc cda) f s.heap.objs.size)) (execs (defBody st) (envF (iF qual st cc cda) f s.heap.objs.size)) _ (iX CX0 Pg wd K mg base (["self", yn, "__class__"] : List Str) qual st f cc cda A outer s H E).xe _
  generalize defBody st = bd at hb I hX ⊢
  subst hb
  have py : PE (iX CX0 Pg wd K mg base (["self", yn, "__class__"] : List Str) qual st f cc cda A outer s H E) (.Name yn p5) (tVar 1) := pv 1 (hN := rfl) (hv := .inl hyn) (hd := hy1) (hcd := hy2)
  have py2 : PE (iX CX0 Pg wd K mg base (["self", yn, "__class__"] : List Str) qual st f cc cda A outer s H E) (.Name yn p10) (tVar 1) := pv 1 (hN := rfl) (hv := .inl hyn) (hd := hy1) (hcd := hy2)
  have ps : PE (iX CX0 Pg wd K mg base (["self", yn, "__class__"] : List Str) qual st f cc cda A outer s H E) (.Name "self" p8) (tVar 0) := pv 0 (hN := rfl) (hv := .inl hself)
  have hr2 : Room k (iX CX0 Pg wd K mg base (["self", yn, "__class__"] : List Str) qual st f cc cda A outer s H E).A := hr.deeper _
  obtain ⟨pl, hev⟩ := hev cc cda f s.heap.objs.size
  refine ks_wpAt_execs_cons (sup_stmt I T lk rfl hp lcd hvs hfile lcc hks (sc.frk "__class__" (by simp)) (by rw [har]; exact hself) (by rw [har]; rfl) rfl htop mgs (pa_cons (pe_joined (.cons pe_str (.cons (pe_fmtM hr2 py) .nil))) pa_nil) rfl rfl ha hev ?_)
  refine ⟨tx, rfl, ?_, _, rfl, ht, fun mt hm => ⟨mt, rfl, ?_, (show 1 ≤ 1000 by decide), ha, fun s' J => ?_⟩⟩
  · have e0 : (Str.empty ++ tx).length = 0 + tx.length := strLen_append Str.empty tx
    rw [e0, sizeLine_eq]
    omega
  · have e0 : (Str.empty ++ tx).length = 0 + tx.length := strLen_append Str.empty tx
    have e1 : ((Str.empty ++ tx) ++ mt).length = (Str.empty ++ tx).length + mt.length := strLen_append _ mt
    rw [e1, e0, sizeLine_eq]
    omega
  · refine wpAt_of_wpAny ?_
    have PR := pss_one (ps_ost (f := fld) (p' := p9) (pos := p11) ps py2)
    refine wpAny_mono (PR.run [] s' _ H { nx := fun _ H' => Q .non H', rt := Q } J ?_) (fun fl s2 hs => ?_) fun e s2 hs => hs
    · exact ⟨_, rfl, _, rfl, a, C, rfl, T.ox, hno, .inl ⟨ha, fun dx n ne => q dx n ne⟩⟩
    · cases fl with
      | ret u =>
        obtain ⟨v, σ', H', J', rv, qq⟩ := hs
        exact ⟨v, H', J'.os, J'.bare, J'.base, J'.hok, rv, qq⟩
      | next =>
        obtain ⟨σ', H', J', qq⟩ := hs
        exact ⟨.non, H', J'.os, J'.bare, J'.base, J'.hok, rfl, qq⟩
      | brk =>
        obtain ⟨_, _, _, qq⟩ := hs
        exact False.elim qq
      | cont =>
        obtain ⟨_, _, _, qq⟩ := hs
        exact False.elim qq
end
end EXS

set_option pp.maxSteps 400
/-! ### an exception caught and kept in a name -/
namespace EXS
open PySem PySem.Spec PyProof.Rows L2
/-- at a: an exception object, its class cls, its dict at d -/
def ExK (cls : Value) (d : Option Addr) (a : Addr) : HO := .ext fun h => ∃ oe vs, h.get? a = some oe ∧ Zc cls d oe ∧ oe.data = .fields vs
theorem exK_ok {Pg : Program} {wd : World} {H : Hp} {h : Heap} {a : Addr} {cls : Value} {d : Option Addr} {oe : Obj} {vs : Array Value} (e : h.get? a = some oe) (z : Zc cls d oe) (hd : oe.data = .fields vs) : ObjOk Pg wd H h a (ExK cls d a) :=
  ⟨⟨oe, vs, e, z, hd⟩, ⟨oe, e⟩, fun _ _ ⟨o, v, q, r⟩ k => ⟨o, v, k _ q, r⟩⟩
theorem exK_at {Pg : Program} {wd : World} {H : Hp} {h : Heap} {a : Addr} {cls : Value} {d : Option Addr} (hok : HOk Pg wd H h) (he : H a = some (ExK cls d a)) : ∃ oe vs, h.get? a = some oe ∧ Zc cls d oe ∧ oe.data = .fields vs := by
  have x : ObjOk Pg wd H h a (.ext fun h => ∃ oe vs, h.get? a = some oe ∧ Zc cls d oe ∧ oe.data = .fields vs) := hok a _ he
  exact x.1
section
variable {X : Cx} {pins : List (Addr × Obj)} {σ : L2.St} {H : Hp} {s : Shared}
/-- an object that is not tracked, and was not at the entry, is tracked from now on -/
theorem Inv.track {a : Addr} {o : HO} (I : Inv X pins σ H s) (n0 : X.s_0.heap.get? a = none) (na : H a = none) (nL : a ≠ X.env.locals) (nC : ∀ x c, X.env.cells.lookup x = some c → c ≠ a) (nP : ∀ p ∈ X.pn ++ pins, p.1 ≠ a) (new : ObjOk X.prog X.w (upd H a o) s.heap a o) : Inv X pins σ (upd H a o) s := by
  have ne : ∀ {b : Addr} {u : Obj}, X.s_0.heap.get? b = some u → b ≠ a := fun e z => by rw [z, n0] at e; cases e
  refine ⟨I.ok, I.os, I.bare, ⟨I.base.keep, I.base.slot, fun b u e n hx => ?_, I.base.there, fun b xs e => ?_, fun b u v e => ?_, fun b ps e => ?_⟩, I.loc, I.cell, ?_, fun x c e => ?_, fun p hp => ?_, fun b u e => ?_, I.len⟩
  · rw [upd_ne (ne e)]
    exact I.base.free b u e n hx
  · have q := I.base.tups b xs e
    rw [upd_ne (ne_of_none q na)]
    exact q
  · have q := I.base.frzs b u v e
    rw [upd_ne (ne_of_none q na)]
    exact q
  · obtain ⟨m, q⟩ := I.base.tbls b ps e
    exact ⟨m, by rw [upd_ne (ne_of_none q na)]; exact q⟩
  · rw [upd_ne (Ne.symm nL)]
    exact I.free
  · rw [upd_ne (nC x c e)]
    exact I.freeC x c e
  · obtain ⟨e, n, r⟩ := I.pin p hp
    exact ⟨e, by rw [upd_ne (nP p hp)]; exact n, r⟩
  · by_cases hb : b = a
    · rw [hb, upd_same] at e
      cases e
      rw [hb]
      exact new
    · rw [upd_ne hb] at e
      exact (I.hok b u e).stay (fun _ _ _ q => q) (fun c q => by rw [upd_ne (ne_of_none q na)]; exact q) fun c xs q => by rw [upd_ne (ne_of_none q na)]; exact q
end
/-- what the clause 'except x as n' wishes, where the exception is tracked behind it -/
def wKp (K : PySem.W.Frag) (c : Value) (i : Nat) (ts : Addr → Value → Option Addr → TS) (Wout : WX) (D : Ends) : WX := fun cls d σ H =>
  ∃ b, PySem.W.exmOne K cls c = some b ∧ (b = true → ∀ a, H a = none → ts a cls d { nx := fun σ' H' => D.nx (σ'.set i none) (upd H' a (ExK cls d a)), rt := fun v H' => D.rt v (upd H' a (ExK cls d a)), bk := fun σ' H' => D.bk (σ'.set i none) (upd H' a (ExK cls d a)), ct := fun σ' H' => D.ct (σ'.set i none) (upd H' a (ExK cls d a)) } (σ.set i (some (.ref a))) H) ∧
    (b = false → Wout cls d σ H)
section
variable {X : Cx} {x n : Str} {c : Value} {i : Nat} {body suite : List Stmt} {b0 : Stmt} {np pos pos' : Pos} {tb : WX → TS} {ts : Addr → Value → Option Addr → TS} {Wout : WX}
/-- try: body, except x as n: suite; what n was is tracked behind the suite -/
theorem ps_try_kp (hs : X.stack = X.env :: X.outer) (hf : X.env.frame = some X.env.locals) (hN : X.N.Nodup) (hi : X.N[i]? = some n) (hln : X.env.kindOf n = some .local) (hx : X.ex = []) (hpn : X.pn = []) (hc : Names X x c) (tk : Takes X Wout)
    (hb : ∀ (W : WX) (pn : List (Addr × Obj)) (xe : Value → Shared → Prop), Takes (X.tr pn xe) W → PassesOwn (model X.prog X.w) X.A X.env xe → PSs (X.tr pn xe) body (tb W))
    (hsu : ∀ (a : Addr) (oe : Obj) (cls : Value) (d : Option Addr) (pn : List (Addr × Obj)), Zc cls d oe → (∃ vs, oe.data = .fields vs) → PSs (X.suite a ((a, oe) :: pn)) (b0 :: suite) (ts a cls d)) :
    PS X (.Try body [.ExceptHandler (some (.Name x np)) (some n) (b0 :: suite) pos'] [] [] pos) (fun D σ H => tb (wKp X.K c i ts Wout D) D σ H) := by
  refine ⟨fun pins s σ H D I h => ?_⟩
  have ok := I.ok
  have hfr : X.A.frames = some (X.env :: X.outer) := by rw [ok.frames, hs]
  have hloc : Loc X.env.scope n := .inl hln
  have pins0 := I.pin
  refine wpAny_Try_except ?_
  refine wpAny_mono ((hb (wKp X.K c i ts Wout D) (X.pn ++ pins) (fun e s₁ => wpAny (model X.prog X.w) X.A (noteFrame e X.env) (fun _ s₂ => wpAny (model X.prog X.w) X.A (setFlight e none) (fun _ s₃ =>
    wpAny (model X.prog X.w) X.A (handleBy e X.env [.ExceptHandler (some (.Name x np)) (some n) (b0 :: suite) pos']) (SP X pins D) X.xe s₃) X.xe s₂) X.xe s₁) (fun u s' xx => ?_) PassesOwn.looking).run [] s σ H D (I.toTry _) h) (fun f s1 hsp => ?_) (fun e s1 he => he)
  · obtain ⟨a, B, sI, pins', σ', H', cls, d, rfl, J', nb, up, sky, na, os, ag, b, hb1, hyes, hno⟩ := xx
    have J : Inv X pins σ' H' sI := J'.ofTry ok
    have sky' : Sky B (X.env :: X.outer) a (Zc cls d) X.env.locals s'.heap := by rw [← hs]; exact sky
    show wpAny (model X.prog X.w) X.A (noteFrame (.ref a) X.env) _ _ _
    refine Sky.land Zc.steady hfr hf sky' fun h3 fl3 up3 => ?_
    have J3 : Inv X pins σ' H' { s' with heap := h3 } := J.landed nb fl3.1 (up.trans up3) os ag
    obtain ⟨oe3, vs3, he3, hz3, hd3⟩ := fl3.there
    have notFr : ∀ {h : Heap} {o : Obj} {vs : Array Value}, h.FunFrames B (X.env :: X.outer) → h.get? a = some o → o.data = .fields vs → a ∉ frs (X.env :: X.outer) := fun {h o vs} ff e dd hm => by
      obtain ⟨_, o', e', hnf⟩ := ff.mem hm
      rw [e] at e'; cases e'
      exact hnf _ dd
    have nfr := notFr fl3.2.2.1 he3 hd3
    have nL : a ≠ X.env.locals := fun z => nfr (List.mem_filterMap.mpr ⟨X.env, List.mem_cons_self, by rw [hf, z]⟩)
    have nF : a ∉ X.fs := fun hm => by
      obtain ⟨e, he, q⟩ := List.mem_filterMap.mp hm
      exact nfr (List.mem_filterMap.mpr ⟨e, List.mem_cons_of_mem _ he, q⟩)
    have hBa : B.get? a = none := fl3.2.1
    have nI : sI.heap.get? a = none := by
      cases e : sI.heap.get? a with
      | none => rfl
      | some o =>
        have := nb a o e (by rw [hs]; exact nfr)
        rw [hBa] at this
        cases this
    have n0 : X.s_0.heap.get? a = none := by
      cases e : X.s_0.heap.get? a with
      | none => rfl
      | some o =>
        obtain ⟨o', q⟩ := J.base.there a o e (by rw [hx]; exact fun z => nomatch z)
        rw [nI] at q
        cases q
    have nC : ∀ y k, X.env.cells.lookup y = some k → k ≠ a := fun y k e z => by
      obtain ⟨v, o, ho, _⟩ := J.cell y k e
      rw [z, nI] at ho
      cases ho
    have nP : ∀ p ∈ X.pn ++ pins, p.1 ≠ a := fun p hp z => by
      have q := (J.pin p hp).1
      rw [z, nI] at q
      cases q
    have S3 := J3.suite he3 hd3 na nL nF
    refine wpAny_handleBy_cons (codeAny_handlers_test ?_) (by intro q; cases q)
    have LT : PySem.W.Looks (model X.prog X.w) h3 (typeOf (.ref a)) cls := fun A Q E s k q => wpAny_typeOf_ref (k _ _ he3) (by rw [hz3.1]; exact q)
    have LM := PySem.W.exm_one (M := model X.prog X.w) (J3.kIn) LT hb1
    have test : ∀ {Q : Value → Shared → Prop} {E : Value → Shared → Prop}, Q c { s' with heap := h3 } → wpAny (model X.prog X.w) (X.A.mark (some (.ref a))) (eval (.Name x np) X.env) Q E { s' with heap := h3 } := fun {Q E} q => by
      obtain ⟨hg, hdbg, hm | ⟨hm, hv, hnn⟩⟩ := hc
      · exact ld_glob (X := X.suite a ((a, oe3) :: (X.pn ++ pins))) S3 hg hm q hdbg
      · exact ld_blt (X := X.suite a ((a, oe3) :: (X.pn ++ pins))) S3 hg hm hv q hnn hdbg
    refine test (LM.here ?_)
    cases b with
    | true =>
      refine codeAny_handlers_suite_as ?_
      refine HandSPX.lands_againZ fl3 fun h4 fl4 up4 => ?_
      have J4 : Inv X pins σ' H' { s' with heap := h4 } := J.landed nb fl4.1 ((up.trans up3).trans up4) os ag
      obtain ⟨oe4, vs4, he4, hz4, hd4⟩ := fl4.there
      have S4 := J4.suite he4 hd4 na nL nF
      refine store_ok (X := X.suite a ((a, oe4) :: (X.pn ++ pins))) (v := .ref a) S4 hN hi hloc rfl (fun s5 S5 => ?_) (.inr hln)
      refine wpAny_mono ((hsu a oe4 cls d (X.pn ++ pins) hz4 ⟨_, hd4⟩).run [] s5 _ H' _ S5 (hyes rfl a na)) (fun f s6 hsp => ?_) (fun _ _ z => False.elim z)
      have end_ : ∀ {σ6 : L2.St} {H6 : Hp} {Q : Shared → Prop}, Inv (X.suite a ((a, oe4) :: (X.pn ++ pins))) [] σ6 H6 s6 → (∀ s7, Inv X pins (σ6.set i none) (upd H6 a (ExK cls d a)) s7 → Q s7) →
          wpAny (model X.prog X.w) X.A (do bindName X.env n .none; unbindBehindTheSuite X.env n pos') (fun _ s7 => Q s7) X.xe s6 := fun {σ6 H6 Q} S6 hq => by
        have S7 : Inv X ((a, oe4) :: pins) σ6 H6 s6 := ⟨ok, S6.os, S6.bare, S6.base, S6.loc, S6.cell, S6.free, S6.freeC, fun p hp => S6.pin p (by
          rw [hpn] at hp ⊢
          exact List.mem_append_left _ hp), S6.hok, S6.len⟩
        refine gone_ok S7 hN hi hln fun s7 J7 => hq s7 ?_
        obtain ⟨g7, n7, _⟩ := J7.pin (a, oe4) (List.mem_append_right _ List.mem_cons_self)
        have J8 : Inv X pins (σ6.set i none) H6 s7 := ⟨J7.ok, J7.os, J7.bare, J7.base, J7.loc, J7.cell, J7.free, J7.freeC, fun p hp => J7.pin p ((List.mem_append.mp hp).elim (fun z => List.mem_append_left _ z) fun z => List.mem_append_right _ (List.mem_cons_of_mem _ z)), J7.hok, J7.len⟩
        exact Inv.track J8 n0 n7 nL nC nP (exK_ok g7 hz4 hd4)
      cases f with
      | next =>
        obtain ⟨σ6, H6, S6, q6⟩ := hsp
        exact end_ S6 fun s7 J7 => ⟨_, _, J7, q6⟩
      | brk =>
        obtain ⟨σ6, H6, S6, q6⟩ := hsp
        exact end_ S6 fun s7 J7 => ⟨_, _, J7, q6⟩
      | cont =>
        obtain ⟨σ6, H6, S6, q6⟩ := hsp
        exact end_ S6 fun s7 J7 => ⟨_, _, J7, q6⟩
      | ret u =>
        obtain ⟨v6, σ6, H6, S6, r6, q6⟩ := hsp
        exact end_ S6 fun s7 J7 => ⟨_, _, _, J7, r6, q6⟩
    | false =>
      show wpAny _ X.A (handleBy (.ref a) X.env []) _ _ _
      refine wpAny_handleBy_nil ?_
      obtain ⟨k1, k2, k3, oe, vs, T, oT, ts', he, hz, hd, h1, hr⟩ := id fl3
      unfold PySem.passOn
      refine wpAny_bind (wpAny_field he hd h1 ?_)
      rw [if_neg (show ¬ ((Value.ref T == Value.none) = true) from by simp)]
      have fin : wpAny (model X.prog X.w) X.A (setFlight (.ref a) X.env.frame) (fun _ s4 => wpAny (model X.prog X.w) X.A (throw (.ref a) : Sem Flow) (SP X pins D) X.xe s4) X.xe { s' with heap := h3 } := by
        rw [hf]
        refine HandSPX.setFlight_upZ fl3 fun h4 hh4 up4 => wpAny_throw (tk _ _ ?_)
        exact ⟨a, B, sI, pins, σ', H', cls, d, rfl, J, nb, (up.trans up3).trans up4, .inr (.inr (by rw [hs]; exact hh4)), na, os, ag, hno rfl⟩
      first
        | exact wpAny_bind (wpAny_pure (wpAny_bind fin))
        | exact wpAny_bind fin
  · cases f with
    | next =>
      obtain ⟨σ', H', J', q⟩ := hsp
      exact wpAny_execs_nil ⟨σ', H', J'.ofTry ok, q⟩
    | brk =>
      obtain ⟨σ', H', J', q⟩ := hsp
      exact ⟨σ', H', J'.ofTry ok, q⟩
    | cont =>
      obtain ⟨σ', H', J', q⟩ := hsp
      exact ⟨σ', H', J'.ofTry ok, q⟩
    | ret u =>
      obtain ⟨v, σ', H', J', r, q⟩ := hsp
      exact ⟨v, σ', H', J'.ofTry ok, r, q⟩
end
section
variable {X : Cx} {pins : List (Addr × Obj)} {σ : L2.St} {H : Hp} {s : Shared}
theorem exK_inst {a d C : Addr} {fs : List (Str × V)} (I : Inv X pins σ H s) (e : H a = some (ExK (.ref C) (some d) a)) (ed : H d = some (.xd fs)) : ∃ (oe od : Obj) (mA : Str → Option Value), PySem.W.InstAt s.heap a oe C (some od) ∧ (∀ f, RelO (fs.lookup f) (mA f)) ∧ ∀ f, PySem.W.lookIn f od = some (mA f) := by
  obtain ⟨oe, vs, ho, hz, hd⟩ := exK_at I.hok e
  have hx : ObjOk X.prog X.w H s.heap d (.xd fs) := I.hok d _ ed
  obtain ⟨mA, hns, hr⟩ := hx
  obtain ⟨od, h1, h2⟩ := lookIn_ns hns
  exact ⟨oe, od, mA, ⟨ho, hz.1, by unfold PySem.W.notCls; rw [hd] <;> rfl, by rw [hz.2]; exact h1⟩, hr, h2⟩
/-- isinstance(x, c), x such an exception -/
def rIsX (K : PySem.W.Frag) : List V → Hp → VK → Prop := fun xs H Q => ∃ (a d C : Addr) (fs : List (Str × V)) (c : V) (u : Value) (b : Bool), xs = [.ref a, c] ∧ H a = some (ExK (.ref C) (some d) a) ∧ H d = some (.xd fs) ∧ ExcC K C ∧ ClsV c u ∧ PySem.W.kitOne K (.ref C) u = some b ∧ Q (.bl b) H
def rIsXT (K : PySem.W.Frag) : List V → Hp → VK → Prop := fun xs H Q => ∃ (a d C tp : Addr) (fs : List (Str × V)) (cs : List V) (us : List Value) (b : Bool), xs = [.ref a, .ref tp] ∧ H a = some (ExK (.ref C) (some d) a) ∧ H d = some (.xd fs) ∧ ExcC K C ∧ H tp = some (.tup cs) ∧ Paired ClsV cs us ∧ PySem.W.kitAny K (.ref C) us = some b ∧ Q (.bl b) H
theorem call_isX : CallR X (.builtin "isinstance") (rIsX X.K) := by
  intro pins s σ H xs us Q I r h
  obtain ⟨a, d, C, fs, c, u, b, rfl, e, ed, T, k, ek, q⟩ := h
  obtain ⟨u1, u2, rfl, r1, r2⟩ := vals2 r
  have e2 := k.eq r2
  subst e2
  cases r1
  obtain ⟨oe, od, mA, J, _⟩ := exK_inst I e ed
  obtain ⟨cd, hcd, _⟩ := PySem.W.any_some T.hd
  exact PySem.W.kia_one (PySem.W.kitx_exc (by rw [hcd]; rfl) T.hg T.hk T.hs T.ha T.hn T.ht T.hm) I.kIn J ek (fun z => nomatch z) fun tk => ⟨.bl b, H, I.tok tk, rfl, q⟩
theorem call_isXT : CallR X (.builtin "isinstance") (rIsXT X.K) := by
  intro pins s σ H xs us Q I r h
  obtain ⟨a, d, C, tp, fs, cs, ws, b, rfl, e, ed, T, hT, k, ek, q⟩ := h
  obtain ⟨u1, u2, rfl, r1, r2⟩ := vals2 r
  cases (show u2 = Value.ref tp from r2)
  cases r1
  obtain ⟨oe, od, mA, J, _⟩ := exK_inst I e ed
  obtain ⟨cd, hcd, _⟩ := PySem.W.any_some T.hd
  obtain ⟨_, its, rv, o, h1, h2, n, h3⟩ := (show ObjOk X.prog X.w H s.heap tp (.tup cs) from I.hok tp _ hT)
  have e3 := ClsV.all k rv
  subst e3
  obtain ⟨oc, od2, dt, sl⟩ := o
  simp only at h2 h3
  subst h2 h3
  exact PySem.W.kia_tup (PySem.W.kitx_exc (by rw [hcd]; rfl) T.hg T.hk T.hs T.ha T.hn T.ht T.hm) I.kIn J h1 ek (fun z => nomatch z) fun tk => ⟨.bl b, H, I.tok tk, rfl, q⟩
/-- x.f -/
def tXk (K : PySem.W.Frag) (f : Str) (te : TE) : TE := fun σ H Q => te σ H fun x H1 => ∃ (a d C : Addr) (fs : List (Str × V)) (v : V), x = .ref a ∧ H1 a = some (ExK (.ref C) (some d) a) ∧ H1 d = some (.xd fs) ∧ XfC K C ∧ PySem.W.findIn K (.ref C) f = some none ∧ fs.lookup f = some v ∧ Q v H1
theorem pe_xk {e : Expr} {te : TE} {pos : Pos} {n : Str} (he : PE X e te) (hb : attributeBase e n X.env (eval e X.env) = eval e X.env := by rfl) : PE X (.Attribute e n pos) (tXk X.K n te) := by
  refine ⟨fun pins s σ H Q I h => ?_⟩
  refine attr_of hb (thn (he.run pins s σ H _ I h) fun u s1 hh => ?_)
  obtain ⟨x, H1, I1, rx, a, d, C, fs, v, rfl, ea, ed, T, hno, l, q⟩ := hh
  obtain rfl : u = Value.ref a := rx
  obtain ⟨oe, od, mA, J, hr, hl⟩ := exK_inst I1 ea ed
  obtain ⟨w, hw, rw'⟩ := RelO.some_of (v := v) (o := mA n) (by rw [← l]; exact hr n)
  exact HandSPX.exc_get I1.kIn J T.ga T.gg T.exC (PySem.W.findObj_own T.hdC hno rfl (by rw [hl, hw])) (handed_of rw') ⟨v, H1, I1.tok _, rw', q⟩
end
section
variable {X : Cx} {CX : CXT} {k : Nat} {f C : Addr} {fd : FuncData} {ps : List Str} {sp : Sp} {dvs : List V} {ds : List Value} {Es : L2.St → XK} {x : Str} {p pos : Pos} {e : Expr} {es : List Expr} {t : TA}
/-- C(..), what __init__ raises is wished for at the caller's slots -/
def tMakeS (C : Addr) (sp : Sp) (dvs : List V) (Es : L2.St → XK) (t : TA) : TE := fun σ H Q => t σ H fun vs H1 => ∀ o d, H1 o = none → H1 d = none → d ≠ o → sp (.ref o :: (vs ++ dvs)) (upd (upd H1 d (.own o)) o (.ins C d [])) (fun v H2 => v = .non ∧ Q (.ref o) H2) (Es σ)
theorem run_makeS {pins : List (Addr × Obj)} {σ : L2.St} {H : Hp} {s : Shared} {Q : VK} {us : List Value} {vs : List V} (M : Mk X.K C f) (G : FnOk X.prog X.w X.K X.mg X.base CX k f fd ps sp) (hr : Room (k + 1) X.A) (hb : Binds X.K fd ps ds) (hd : Vals dvs ds) (hx : PassesAt CX X σ (Es σ)) (I : Inv X pins σ H s) (r : Vals vs us)
    (h : ∀ o d, H o = none → H d = none → d ≠ o → sp (.ref o :: (vs ++ dvs)) (upd (upd H d (.own o)) o (.ins C d [])) (fun v H2 => v = .non ∧ Q (.ref o) H2) (Es σ)) : wpAny (model X.prog X.w) X.A (call (.ref C) us) (EP X pins σ Q) X.xe s := by
  have q0 := h (s.heap.objs.size + 1) s.heap.objs.size (I.hok.fresh (Nat.le_succ _)) (I.hok.fresh (Nat.le_refl _)) (Nat.ne_of_lt (Nat.lt_succ_self _))
  have J := Inv.made (C := C) I
  have rr : Vals (V.ref (s.heap.objs.size + 1) :: (vs ++ dvs)) (Value.ref (s.heap.objs.size + 1) :: (us ++ ds)) := .cons rfl (r.append hd)
  have ll : (Value.ref (s.heap.objs.size + 1) :: us ++ ds).length = ps.length := by
    have z := rr.length
    rw [G.len _ _ _ _ q0] at z
    exact z.symm
  refine wpAny_call (make_map (f := f) I.kIn M.makes M.init (beq_iff_eq.mp M.fn) (codeAny_mono (G.run _ X.stack _ _ ⟨Value.ref (s.heap.objs.size + 1) :: us, []⟩ (Value.ref (s.heap.objs.size + 1) :: (us ++ ds)) _ _ (Es σ) (hr.make C us []) (J.env0.make C us []) (hb _ (Value.ref (s.heap.objs.size + 1) :: us) J.kIn ll) rr q0) fun rs sz hz => ?_))
  cases rs with
  | error er => exact hx pins _ _ er sz J hz
  | ok fl =>
    cases fl with
    | ret u =>
      obtain ⟨v, Hz, Jz, rv, ev, q3⟩ := J.after hz
      subst ev
      exact ⟨rv, ⟨V.ref (s.heap.objs.size + 1), Hz, Jz, rfl, q3⟩⟩
    | next => exact False.elim hz
    | brk => exact False.elim hz
    | cont => exact False.elim hz
theorem pe_makeS (M : Mk X.K C f) (G : FnOk X.prog X.w X.K X.mg X.base CX k f fd ps sp) (hr : Room (k + 1) X.A) (hg : Gl X x) (hm : X.mg x = some (.ref C)) (hb : Binds X.K fd ps ds) (hd : Vals dvs ds) (hx : ∀ σ, PassesAt CX X σ (Es σ)) (ha : PA X (e :: es) t)
    (hdb : (x == ("__debug__" : Str)) = false := by decide) (he : starEach (e :: es) X.env = (false, eval e X.env) :: starEach es X.env := by rfl) (hpl : (backTo pos (starEach es X.env)).any (·.1) = false := by rfl) : PE X (.Call (.Name x p) (e :: es) [] pos) (tMakeS C sp dvs Es t) := by
  refine ⟨fun pins s σ H Q I h => ?_⟩
  exact wpAny_Call_Name_kw (ld_glob I hg hm (PySem.W.callWith_K (h₀ := X.base) I.ok.mod.kin M.kp (thn (ha.run pos pins s σ H _ I h) fun us s1 ⟨vs, H1, I1, r, q⟩ => ⟨I1.kIn, run_makeS M G hr hb hd (hx σ) I1 r q⟩) he hpl) hdb)
end
end EXS

namespace Bn
open PySem PySem.Spec PyProof.Rows L2
def topS (i : Nat) : Stmt := PySem.Challenge.pw_speechloom_k20_rings.main.body.getD i (.Pass ⟨0, 0, 0, 0⟩)
abbrev s_places_of : Stmt := topS 6
theorem sc_places_of : FnScope ["rule", "many", "stray", "stir", "ahead", "rows", "number", "near", "place", "row", "one", "other"] ["rule"] (defScope s_places_of) := ⟨rfl, rfl, rfl, by decide +kernel, rfl, by decide +kernel, by decide +kernel⟩
abbrev s_is_text : Stmt := topS 15
theorem sc_is_text : FnScope ["text", "most", "letter"] ["text", "most"] (defScope s_is_text) := ⟨rfl, rfl, rfl, by decide +kernel, rfl, by decide +kernel, by decide +kernel⟩
abbrev s_is_name : Stmt := topS 16
theorem sc_is_name : FnScope ["text"] ["text"] (defScope s_is_name) := ⟨rfl, rfl, rfl, by decide +kernel, rfl, by decide +kernel, by decide +kernel⟩
abbrev s_is_rank : Stmt := topS 17
theorem sc_is_rank : FnScope ["number"] ["number"] (defScope s_is_rank) := ⟨rfl, rfl, rfl, by decide +kernel, rfl, by decide +kernel, by decide +kernel⟩
abbrev s_are_unlike : Stmt := topS 18
theorem sc_are_unlike : FnScope ["things"] ["things"] (defScope s_are_unlike) := ⟨rfl, rfl, rfl, by decide +kernel, rfl, by decide +kernel, by decide +kernel⟩
abbrev s_is_feature : Stmt := topS 19
theorem sc_is_feature : FnScope ["feature", "name", "values", "told", "value"] ["feature"] (defScope s_is_feature) := ⟨rfl, rfl, rfl, by decide +kernel, rfl, by decide +kernel, by decide +kernel⟩
abbrev s_is_kind : Stmt := topS 20
theorem sc_is_kind : FnScope ["kind", "features", "name", "own", "gap", "mute", "feature"] ["kind", "features"] (defScope s_is_kind) := ⟨rfl, rfl, rfl, by decide +kernel, rfl, by decide +kernel, by decide +kernel⟩
abbrev s_is_seam : Stmt := topS 21
theorem sc_is_seam : FnScope ["seam", "text"] ["seam"] (defScope s_is_seam) := ⟨rfl, rfl, rfl, by decide +kernel, rfl, by decide +kernel, by decide +kernel⟩
abbrev s_are_marks : Stmt := topS 22
theorem sc_are_marks : FnScope ["marks", "names", "features", "name"] ["marks", "names", "features"] (defScope s_are_marks) := ⟨rfl, rfl, rfl, by decide +kernel, rfl, by decide +kernel, by decide +kernel⟩
abbrev s_is_stem : Stmt := topS 23
theorem sc_is_stem : FnScope ["stem", "features", "kinds", "text", "kind", "line", "atom", "marks", "rank", "name", "own", "gap", "mute"] ["stem", "features", "kinds"] (defScope s_is_stem) := ⟨rfl, rfl, rfl, by decide +kernel, rfl, by decide +kernel, by decide +kernel⟩
abbrev s_is_ending : Stmt := topS 24
theorem sc_is_ending : FnScope ["ending", "features", "line", "text", "marks", "rank"] ["ending", "features"] (defScope s_is_ending) := ⟨rfl, rfl, rfl, by decide +kernel, rfl, by decide +kernel, by decide +kernel⟩
abbrev s_is_bundle : Stmt := topS 25
theorem sc_is_bundle : FnScope ["bundle", "own", "features", "name", "value"] ["bundle", "own", "features"] (defScope s_is_bundle) := ⟨rfl, rfl, rfl, by decide +kernel, rfl, by decide +kernel, by decide +kernel⟩
abbrev s_is_part : Stmt := topS 26
theorem sc_is_part : FnScope ["part", "features", "kinds", "role", "kind", "bundle", "open_to_gap", "name", "own", "gap", "mute"] ["part", "features", "kinds"] (defScope s_is_part) := ⟨rfl, rfl, rfl, by decide +kernel, rfl, by decide +kernel, by decide +kernel⟩
abbrev s_have_roles : Stmt := topS 27
theorem sc_have_roles : FnScope ["parts", "kinds", "roles", "leading", "fill", "part"] ["parts", "kinds"] (defScope s_have_roles) := ⟨rfl, rfl, rfl, by decide +kernel, rfl, by decide +kernel, by decide +kernel⟩
abbrev s_is_group : Stmt := topS 28
theorem sc_is_group : FnScope ["group", "owns", "number", "feature"] ["group", "owns"] (defScope s_is_group) := ⟨rfl, rfl, rfl, by decide +kernel, rfl, by decide +kernel, by decide +kernel⟩
abbrev s_in_group_with_part : Stmt := topS 29
theorem sc_in_group_with_part : FnScope ["feature", "agrees", "pair", "group"] ["feature", "agrees"] (defScope s_in_group_with_part) := ⟨rfl, rfl, rfl, by decide +kernel, rfl, by decide +kernel, by decide +kernel⟩
abbrev s_is_order : Stmt := topS 30
theorem sc_is_order : FnScope ["order", "many", "stray", "stir", "ahead", "one", "other"] ["order", "many"] (defScope s_is_order) := ⟨rfl, rfl, rfl, by decide +kernel, rfl, by decide +kernel, by decide +kernel⟩
abbrev s_is_rule : Stmt := topS 31
theorem sc_is_rule : FnScope ["rule", "features", "kinds", "name", "rank", "kind", "bundle", "parts", "agrees", "order", "own", "owns", "part", "group", "feature"] ["rule", "features", "kinds"] (defScope s_is_rule) := ⟨rfl, rfl, rfl, by decide +kernel, rfl, by decide +kernel, by decide +kernel⟩
abbrev s_copied : Stmt := topS 34
theorem sc_copied : FnScope ["thing", "name", "inner"] ["thing"] (defScope s_copied) := ⟨rfl, rfl, rfl, by decide +kernel, rfl, by decide +kernel, by decide +kernel⟩
abbrev s_fault_in : Stmt := topS 35
theorem sc_fault_in : FnScope ["told", "features", "kinds", "looks", "word", "things", "most", "is_sound", "number", "feature", "kind"] ["told"] (defScope s_fault_in) := ⟨rfl, rfl, rfl, by decide +kernel, rfl, by decide +kernel, by decide +kernel⟩
abbrev s_first_unsound : Stmt := topS 36
theorem sc_first_unsound : FnScope ["things", "most", "is_sound", "is_named", "names", "number", "thing"] ["things", "most", "is_sound", "is_named"] (defScope s_first_unsound) := ⟨rfl, rfl, rfl, by decide +kernel, rfl, by decide +kernel, by decide +kernel⟩
abbrev s_led_by : Stmt := topS 37
theorem sc_led_by : FnScope ["rule", "roles", "part", "role"] ["rule"] (defScope s_led_by) := ⟨rfl, rfl, rfl, by decide +kernel, rfl, by decide +kernel, by decide +kernel⟩
abbrev s_first_in_ring : Stmt := topS 38
theorem sc_first_in_ring : FnScope ["rules", "steps", "number", "origin", "goal", "rule"] ["rules"] (defScope s_first_in_ring) := ⟨rfl, rfl, rfl, by decide +kernel, rfl, by decide +kernel, by decide +kernel⟩
abbrev s_kinds_led_from : Stmt := topS 39
theorem sc_kinds_led_from : FnScope ["kind", "steps", "reached", "at", "here", "origin", "goal"] ["kind", "steps"] (defScope s_kinds_led_from) := ⟨rfl, rfl, rfl, by decide +kernel, rfl, by decide +kernel, by decide +kernel⟩
abbrev s_without_doubles : Stmt := topS 40
theorem sc_without_doubles : FnScope ["names", "name"] ["names"] (defScope s_without_doubles) := ⟨rfl, rfl, rfl, by decide +kernel, rfl, by decide +kernel, by decide +kernel⟩
abbrev s_l_cell_at : Stmt := topS 42
theorem sc_l_cell_at : FnScope ["_law_script", "_law_k"] ["_law_script", "_law_k"] (defScope s_l_cell_at) := ⟨rfl, rfl, rfl, by decide +kernel, rfl, by decide +kernel, by decide +kernel⟩
abbrev s_l_mixed : Stmt := topS 43
theorem sc_l_mixed : FnScope ["_law_number", "_law_k", "_law_once", "_law_twice"] ["_law_number", "_law_k"] (defScope s_l_mixed) := ⟨rfl, rfl, rfl, by decide +kernel, rfl, by decide +kernel, by decide +kernel⟩
abbrev s_l_box : Stmt := topS 44
theorem sc_l_box : FnScope ["_law_script", "_law_k", "_law_cell"] ["_law_script", "_law_k"] (defScope s_l_box) := ⟨rfl, rfl, rfl, by decide +kernel, rfl, by decide +kernel, by decide +kernel⟩
abbrev s_l_take : Stmt := topS 45
theorem sc_l_take : FnScope ["_law_box_here", "_law_many", "_law_found"] ["_law_box_here", "_law_many"] (defScope s_l_take) := ⟨rfl, rfl, rfl, by decide +kernel, rfl, by decide +kernel, by decide +kernel⟩
abbrev s_l_why : Stmt := topS 46
theorem sc_l_why : FnScope ["_law_told", "_law_caught", "_law_refused"] ["_law_told"] (defScope s_l_why) := ⟨rfl, rfl, rfl, by decide +kernel, rfl, by decide +kernel, by decide +kernel⟩
abbrev s_l_parts_drawn : Stmt := topS 47
theorem sc_l_parts_drawn : FnScope ["_law_box_here", "_law_names", "_law_one", "_law_other", "_law_head", "_law_fill", "_law_dumb", "_law_way", "_law_named"] ["_law_box_here", "_law_names"] (defScope s_l_parts_drawn) := ⟨rfl, rfl, rfl, by decide +kernel, rfl, by decide +kernel, by decide +kernel⟩
abbrev s_l_rules_drawn : Stmt := topS 48
theorem sc_l_rules_drawn : FnScope ["_law_box_here", "_law_names", "_law_rules", "_law_steps", "_law_many", "_law_chained", "_law_k", "_law_kind", "_law_parts", "_law_behind"] ["_law_box_here", "_law_names"] (defScope s_l_rules_drawn) := ⟨rfl, rfl, rfl, by decide +kernel, rfl, by decide +kernel, by decide +kernel⟩
abbrev s_l_due : Stmt := topS 49
theorem sc_l_due : FnScope ["_law_steps", "_law_reached", "_law_kind", "_law_behind", "_law_turn", "_law_near", "_law_number"] ["_law_steps"] (defScope s_l_due) := ⟨rfl, rfl, rfl, by decide +kernel, rfl, by decide +kernel, by decide +kernel⟩
abbrev s_l_right : Stmt := topS 50
theorem sc_l_right : FnScope ["_law_box_here", "_law_names", "_law_rules", "_law_steps", "_law_kinds", "_law_told", "_law_letter", "_law_name"] ["_law_box_here"] (defScope s_l_right) := ⟨rfl, rfl, rfl, by decide +kernel, rfl, by decide +kernel, by decide +kernel⟩
abbrev s_law : Stmt := topS 51
theorem sc_law : FnScope ["_law_script", "_law_k"] ["_law_script"] (defScope s_law) := ⟨rfl, rfl, rfl, by decide +kernel, rfl, by decide +kernel, by decide +kernel⟩
abbrev s_init : Stmt := inClass (topS 33) 0
theorem sc_init : FnScope ["self", "told", "why", "feature", "kind", "rule"] ["self", "told"] (defScope s_init) := ⟨rfl, rfl, rfl, by decide +kernel, rfl, by decide +kernel, by decide +kernel⟩
end Bn

namespace Bn
open PySem PySem.Spec PyProof.Rows L2 BR
section
variable {P : Program} {w : World} {K : PySem.W.Frag} {mg : Str → Option Value} {base : Heap}
/-! ### cell_at -/
def spCell (K : PySem.W.Frag) : Sp := fun vs H Q _ => ∃ (a : Addr) (ns : List Int) (k : Nat), vs = [.ref a, .int (k : Nat)] ∧ SqL K H a (ns.map V.int) ∧ ∀ m : Int, Q (.int m) H
theorem ok_cell {f : Addr} {fd : FuncData} {k : Nat} (F : Fun K "_law_cell_at" "_law_cell_at" s_l_cell_at f fd) (ml : mg "len" = none) : FnOk P w K mg base CX0 (k + 1) f fd ["_law_script", "_law_k"] (spCell K) := by
  refine F.ok sc_l_cell_at (fun vs H Q E h => ?_) (fun cdv A outer s H vs Q E hr h => ?_)
  · obtain ⟨a, ns, k, rfl, _⟩ := h
    rfl
  · obtain ⟨a, ns, k, rfl, hS, q⟩ := h
    refine ⟨_, pss_cons (ps_if (pt_cmpR op_lt (pv 1) (pe_callB call_len_seq (by rfl) ml PySem.boot_len (pa_cons (pv 0) pa_nil)) (nomark _)) (pss_one (ps_ret (pe_ix ix_list (pv 0) (pv 1) (fun _ _ => rfl)))) pss_nil) (pss_one (ps_ret pe_int)), ?_⟩
    refine ⟨_, rfl, _, rfl, a, _, rfl, .inl hS, _, _, rfl, rfl, _, rfl, ite2 (fun e => ?_) (fun e => ?_)⟩
    · have e' := of_decide_eq_true e
      rw [List.length_map] at e'
      have hk : k < ns.length := by omega
      refine ⟨_, rfl, _, rfl, a, _, _, V.int ns[k], rfl, rfl, hS, atI_nat ?_, q _⟩
      rw [List.getElem?_map, List.getElem?_eq_getElem hk]
      rfl
    · exact q _
/-! ### mixed -/
def spMixed : Sp := fun vs H Q _ => ∃ (n k : Int), vs = [.int n, .int k] ∧ ∀ m : Int, Q (.int m) H
theorem ok_mixed {f : Addr} {fd : FuncData} {k : Nat} (F : Fun K "_law_mixed" "_law_mixed" s_l_mixed f fd) : FnOk P w K mg base CX0 (k + 1) f fd ["_law_number", "_law_k"] spMixed := by
  refine F.ok sc_l_mixed (fun vs H Q E h => ?_) (fun cdv A outer s H vs Q E hr h => ?_)
  · obtain ⟨n, k, rfl, _⟩ := h
    rfl
  · obtain ⟨n, k, rfl, q⟩ := h
    refine ⟨_, pss_cons (ps_set (i := 2) sc_l_mixed.nd rfl (.inl rfl) (pe_op op_mod (pe_op op_mul (pe_op op_add (pe_op op_add (pe_op op_mod (pv 0) pe_int) (pe_op op_mul pe_int (pv 1))) pe_int) pe_int) pe_int))
      (pss_cons (ps_set (i := 3) sc_l_mixed.nd rfl (.inl rfl) (pe_op op_mod (pe_op op_mul (pv 2) (pe_op op_add (pe_op op_add (pe_op op_mod (pv 2) pe_int) (pv 1)) pe_int)) pe_int))
      (pss_one (ps_ret (pe_op op_mod (pe_op op_add (pe_op op_mul (pv 3) pe_int) (pv 2)) pe_int)))), ?_⟩
    refine ⟨_, rfl, _, _, rfl, rfl, (by show (0 : Int) < 1000000007; decide), _, rfl, _, _, rfl, rfl, .inl ⟨by decide, by decide⟩, _, _, rfl, rfl, _, _, rfl, rfl, _, _, rfl, rfl, .inr ⟨by decide, by decide⟩, _, _, rfl, rfl, (by show (0 : Int) < 2147483647; decide), ?_⟩
    generalize (n % 1000000007 + 7 * k + 1) * 48271 = y
    have y0 := Int.emod_nonneg y (show (2147483647 : Int) ≠ 0 by decide)
    have y1 := Int.emod_lt_of_pos y (show (0 : Int) < 2147483647 by decide)
    refine ⟨_, rfl, _, rfl, _, _, rfl, rfl, (by show (0 : Int) < 1009; decide), _, rfl, _, _, rfl, rfl, _, _, rfl, rfl, _, _, rfl, rfl, .inl ⟨by omega, by omega⟩, _, _, rfl, rfl, (by show (0 : Int) < 998244353; decide), ?_⟩
    exact ⟨_, rfl, _, _, rfl, rfl, .inr ⟨by decide, by decide⟩, _, rfl, _, _, rfl, rfl, _, _, rfl, rfl, (by show (0 : Int) < 2147483629; decide), q _⟩
theorem bit_lo (b : Bool) : -(2 ^ 64) < (if b = true then (1 : Int) else 0) := by cases b <;> decide
theorem bit_hi (b : Bool) : (if b = true then (1 : Int) else 0) < 2 ^ 64 := by cases b <;> decide
/-! ### box -/
def spBox (K : PySem.W.Frag) : Sp := fun vs H Q _ => ∃ (a : Addr) (ns : List Int) (k : Nat), vs = [.ref a, .int (k : Nat)] ∧ SqL K H a (ns.map V.int) ∧ ∀ p H', H p = none → Same H H' → Bx H' p → Q (.ref p) H'
theorem ok_box {f fC fM : Addr} {fd fdC fdM : FuncData} (F : Fun K "_law_box" "_law_box" s_l_box f fd)
    (kC : PySem.W.keepIn K (.ref fC) = true) (bC : Binds K fdC ["_law_script", "_law_k"] []) (gC : mg "_law_cell_at" = some (.ref fC)) (GC : FnOk P w K mg base CX0 1 fC fdC ["_law_script", "_law_k"] (spCell K))
    (kM : PySem.W.keepIn K (.ref fM) = true) (bM : Binds K fdM ["_law_number", "_law_k"] []) (gM : mg "_law_mixed" = some (.ref fM)) (GM : FnOk P w K mg base CX0 1 fM fdM ["_law_number", "_law_k"] spMixed)
    (ma : mg "abs" = none) (mi : mg "int" = none) : FnOk P w K mg base CX0 2 f fd ["_law_script", "_law_k"] (spBox K) := by
  refine F.ok sc_l_box (fun vs H Q E h => ?_) (fun cdv A outer s H vs Q E hr h => ?_)
  · obtain ⟨a, ns, k, rfl, _⟩ := h
    rfl
  · obtain ⟨a, ns, k, rfl, hS, q⟩ := h
    refine ⟨_, pss_cons (ps_set (i := 2) sc_l_box.nd rfl (.inl rfl) (pe_call GC hr (by rfl) gC kC bC .nil pass0 (pa_cons (pv 0) (pa_cons (pv 1) pa_nil))))
      (pss_one (ps_ret (pe_lst (pa_cons (pe_op op_mul (pe_callB call_abs (by rfl) ma (by decide +kernel) (pa_cons (pv 2) pa_nil)) (pe_callTy call_int1 (by rfl) mi (by decide +kernel) (pa_cons (pe_cmpR op_ge (pe_callB call_abs (by rfl) ma (by decide +kernel) (pa_cons (pv 2) pa_nil)) (pe_op op_pow pe_int pe_int) (nomark _)) pa_nil)))
        (pa_cons (pe_call GM hr (by rfl) gM kM bM .nil pass0 (pa_cons (pv 2) (pa_cons (pe_op op_add pe_int (pv 1)) pa_nil))) (pa_cons pe_int pa_nil)))))), ?_⟩
    refine ⟨_, rfl, _, rfl, a, ns, k, rfl, hS, fun c => ?_⟩
    refine ⟨_, rfl, _, rfl, _, rfl, _, rfl, _, _, rfl, rfl, ⟨by decide, by decide, by decide⟩, _, _, rfl, rfl, .inr ⟨_, rfl, _, _, rfl, rfl, .inr ⟨bit_lo _, bit_hi _⟩, _, rfl, _, rfl, _, _, rfl, rfl, _, _, rfl, fun m => ⟨(show 3 ≤ sizeLine by decide), fun p np => ?_⟩⟩⟩
    exact q p _ np (same_new np) ⟨_, _, _, upd_same⟩
/-! ### take -/
def spTake : Sp := fun vs H Q _ => ∃ (b : Addr) (m : Int), vs = [.ref b, .int m] ∧ Bx H b ∧ 0 < m ∧ m < 1073741824 ∧ ∀ (n : Nat) H', (n : Int) < m → Kb b H H' → Q (.int (n : Nat)) H'
theorem ok_take {f fM : Addr} {fd fdM : FuncData} (F : Fun K "_law_take" "_law_take" s_l_take f fd)
    (kM : PySem.W.keepIn K (.ref fM) = true) (bM : Binds K fdM ["_law_number", "_law_k"] []) (gM : mg "_law_mixed" = some (.ref fM)) (GM : FnOk P w K mg base CX0 1 fM fdM ["_law_number", "_law_k"] spMixed) : FnOk P w K mg base CX0 2 f fd ["_law_box_here", "_law_many"] spTake := by
  refine F.ok sc_l_take (fun vs H Q E h => ?_) (fun cdv A outer s H vs Q E hr h => ?_)
  · obtain ⟨b, m, rfl, _⟩ := h
    rfl
  · obtain ⟨b, m, rfl, ⟨x, y, z, hb⟩, m0, m1, q⟩ := h
    have fin : ∀ (t : Int) (H' : Hp), Kb b H H' → Q (.int (t % m)) H' := fun t H' k => by
      have t0 := Int.emod_nonneg t (show m ≠ 0 by omega)
      have t1 := Int.emod_lt_of_pos t m0
      have e : t % m = (((t % m).toNat : Nat) : Int) := (Int.toNat_of_nonneg t0).symm
      rw [e]
      exact q _ _ (by omega) k
    refine ⟨_, pss_cons (ps_if (pt_cmpR op_gt (pe_ix ix_list (pv 0) pe_int (fun _ _ => rfl)) pe_int (nomark _))
        (pss_cons (ps_set (i := 2) sc_l_take.nd rfl (.inl rfl) (pe_op op_mod (pe_ix ix_list (pv 0) pe_int (fun _ _ => rfl)) (pv 1)))
        (pss_cons (ps_asg (pe_op op_fdiv (pe_ix ix_list (pv 0) pe_int (fun _ _ => rfl)) (pv 1)) (pg_sub (pv 0) pe_int set_list))
        (pss_one (ps_ret (pv 2))))) pss_nil)
      (pss_cons (ps_asg (pe_op op_add (pe_ix ix_list (pv 0) pe_int (fun _ _ => rfl)) pe_int) (pg_sub (pv 0) pe_int set_list))
      (pss_one (ps_ret (pe_op op_mod (pe_call GM hr (by rfl) gM kM bM .nil pass0 (pa_cons (pe_ix ix_list (pv 0) pe_int (fun _ _ => rfl)) (pa_cons (pe_ix ix_list (pv 0) pe_int (fun _ _ => rfl)) pa_nil))) (pv 1))))), ?_⟩
    have hL : SqL K H b [.int x, .int y, .int z] := .inl (.inl hb)
    refine ⟨_, rfl, b, _, _, .int x, rfl, rfl, hL, rfl, _, _, rfl, rfl, _, rfl, ite2 (fun e => ?_) (fun e => ?_)⟩
    · refine ⟨_, rfl, b, _, _, .int x, rfl, rfl, hL, rfl, _, rfl, _, _, rfl, rfl, m0, ?_⟩
      refine ⟨_, rfl, b, _, _, .int x, rfl, rfl, hL, rfl, _, rfl, _, _, rfl, rfl, ⟨m0, m1⟩, _, rfl, b, _, _, 0, rfl, rfl, hb, rfl, ?_⟩
      exact ⟨_, rfl, fin x _ ⟨Kp.put, ⟨_, _, _, upd_same⟩⟩⟩
    · refine ⟨_, rfl, b, _, _, .int z, rfl, rfl, hL, rfl, _, _, rfl, rfl, _, rfl, b, _, _, 2, rfl, rfl, hb, rfl, ?_⟩
      have hL2 : SqL K (upd H b (.lst [.int x, .int y, .int (z + 1)])) b [.int x, .int y, .int (z + 1)] := .inl (.inl upd_same)
      refine ⟨_, rfl, b, _, _, .int y, rfl, rfl, hL2, rfl, _, rfl, b, _, _, .int (z + 1), rfl, rfl, hL2, rfl, _, _, rfl, fun n1 => ?_⟩
      exact ⟨_, rfl, _, _, rfl, rfl, m0, fin n1 _ ⟨Kp.put, ⟨_, _, _, upd_same⟩⟩⟩
end
end Bn

namespace Bn
open PySem PySem.Spec PyProof.Rows L2 BR GX RM GY
section
variable {K : PySem.W.Frag} {H : Hp} {a D : Addr} {xs ys : List V} {kvs : List (Key × V)} {o : HO}
theorem sqT_updL (h : SqT K H a xs) (e : H D = some (.lst ys)) : SqT K (upd H D o) a xs := by
  rcases h with (h | ⟨ob, h⟩) | h
  · exact .inl (.inl (by rw [upd_ne (ne_of h e (by intro z; cases z))]; exact h))
  · exact .inl (.inr ⟨ob, by rw [upd_ne (ne_of h e (by intro z; cases z))]; exact h⟩)
  · exact .inr h
theorem sqT_updD (h : SqT K H a xs) (e : H D = some (.dK kvs)) : SqT K (upd H D o) a xs := by
  rcases h with (h | ⟨ob, h⟩) | h
  · exact .inl (.inl (by rw [upd_ne (ne_of h e (by intro z; cases z))]; exact h))
  · exact .inl (.inr ⟨ob, by rw [upd_ne (ne_of h e (by intro z; cases z))]; exact h⟩)
  · exact .inr h
theorem sqT_updF {ob : Obj} (h : SqT K H a xs) (e : H D = some (.frz ob (.dK kvs))) : SqT K (upd H D o) a xs := by
  rcases h with (h | ⟨ob', h⟩) | h
  · exact .inl (.inl (by rw [upd_ne (ne_of h e (by intro z; cases z))]; exact h))
  · exact .inl (.inr ⟨ob', by rw [upd_ne (ne_of h e (by intro z; cases z))]; exact h⟩)
  · exact .inr h
end
theorem valV_nd {kvs : List (Key × V)} (nd : (kvs.map (·.1)).Nodup) : ∀ {i : Nat} {k : Key} {v : V}, kvs[i]? = some (k, v) → valV kvs k = some v := by
  induction kvs with
  | nil => intro i k v e; simp at e
  | cons p r ih =>
    intro i k v e
    rw [List.map_cons, List.nodup_cons] at nd
    unfold valV
    rw [List.find?_cons]
    cases i with
    | zero =>
      cases Option.some.inj e
      simp
    | succ j =>
      have e' : r[j]? = some (k, v) := e
      have ne : ¬ p.1 = k := fun z => nd.1 (z ▸ List.mem_map.mpr ⟨_, List.mem_of_getElem? e', rfl⟩)
      rw [decide_eq_false ne]
      exact ih nd.2 e'
theorem putK_new {kvs : List (Key × V)} {k : Key} {v : V} (h : k ∉ kvs.map (·.1)) : putK kvs k v = kvs ++ [(k, v)] := by
  unfold putK
  rw [if_neg]
  intro z
  obtain ⟨kv, hkv, e⟩ := List.any_eq_true.mp z
  exact h (List.mem_map.mpr ⟨kv, hkv, of_decide_eq_true e⟩)
theorem small_line {n : Nat} (h : n < 1000) : n < sizeLine := Nat.lt_of_lt_of_le h (by decide)
theorem room_gen5 {k : Nat} {A : Around} (hr : Room (k + 5) A) (env : Env) : Room k (A.in1.in1.in1.in1.deeper env) := ((((hr.in1).in1).in1).in1).deeper env
theorem ty_tup {K : PySem.W.Frag} {H : Hp} {a : Addr} {xs : List V} (h : SqT K H a xs) : TyX K H (.ref a) (.type "tuple") := by
  rcases h with (h | ⟨ob, h⟩) | ⟨o, its, n, h1, h2, _⟩
  · exact .base (.tup h)
  · exact .fTuple h
  · exact .kTuple h1 h2
section
variable {P : Program} {w : World} {K : PySem.W.Frag} {mg : Str → Option Value} {base : Heap}
def spCopied (K : PySem.W.Frag) (T : Tb) (n : Nat) : Sp := fun vs H Q _ => ∃ (v : V) (d : PyData) (N : Addr → Prop), vs = [v] ∧ Dq K H N n v d ∧ TbOk T H ∧ ∀ (v' : V) (H' : Hp), SL T H H' → Dq K H' (fun b => H b = none) n v' d → Q v' H'
abbrev NCo : List Str := ["thing", "name", "inner"]
def spPrev (K : PySem.W.Frag) (T : Tb) : Nat → Sp
  | 0 => fun _ _ _ _ => False
  | n + 1 => spCopied K T n
theorem ok_copied1 {f c0 pT : Addr} {fd : FuncData} {T : Tb} {n L : Nat} (F : FunC K "copied" "copied" s_copied f fd c0) (TB : GxR.TabB base mg c0 pT) (hP : pT ∈ T.ps) (hF : T.F ∉ T.ps) (bC : Binds K fd ["thing"] []) (gC : mg "copied" = some (.ref f))
    (mi : mg "isinstance" = none) (md : mg "dict" = none) (ml : mg "list" = none) (mt : mg "tuple" = none) (GC : FnOk P w K mg base CX0 L f fd ["thing"] (spPrev K T n)) : FnOk P w K mg base CX0 (L + 6) f fd ["thing"] (spCopied K T n) := by
  refine F.ok sc_copied (fun vs H Q E h => ?_) (fun A outer s H vs Q E hr h => ?_)
  · obtain ⟨v, d, N, rfl, _⟩ := h
    rfl
  · obtain ⟨v, d, N, rfl, hD, hT, q⟩ := h
    have hu := hu_of hr
    refine ⟨_, pss_cons (ps_if (pt_val (pe_callB call_isi (by rfl) mi (by decide +kernel) (pa_cons (pv 0) (pa_cons (pe_bltn (v := .ty "dict") (by rfl) md (by decide +kernel) rfl) pa_nil))))
        (pss_one (ps_ret (pe_lock (pe_dc (own := [("name", 1)]) (g := gName 1) rfl sc_copied.nd (pi_keys (pv 0))
          (blkOk_by (own := [("name", 1)]) (N := NCo) (sc := defScope s_copied) (by decide +kernel))
          (fun _ _ _ _ _ => pg_name (i := 1) sc_copied.nd rfl (Or.inl rfl)) (fun _ _ _ _ _ => pts_nil) (fun _ _ _ _ _ => pv 1)
          (fun _ _ _ _ _ => pe_call GC (hr.mono (by omega)) (by rfl) gC F.kp bC .nil pass0 (pa_cons (pe_dget hu (pv 0) (pv 1) (fun _ _ => rfl)) pa_nil)))))) pss_nil)
      (pss_cons (ps_if (pt_val (pe_callB call_isi (by rfl) mi (by decide +kernel) (pa_cons (pv 0) (pa_cons (pe_bltn (v := .ty "list") (by rfl) ml (by decide +kernel) rfl) pa_nil))))
        (pss_one (ps_ret (pe_lc (own := [("inner", 2)]) (g := gName 2) rfl sc_copied.nd (pi_list (pv 0))
          (blkOk_by (own := [("inner", 2)]) (N := NCo) (sc := defScope s_copied) (by decide +kernel))
          (fun _ _ _ _ _ => pg_name (i := 2) sc_copied.nd rfl (Or.inl rfl)) (fun _ _ _ _ _ => pts_nil)
          (fun _ _ _ _ _ => pe_call GC (hr.mono (by omega)) (by rfl) gC F.kp bC .nil pass0 (pa_cons (pv 2) pa_nil))))) pss_nil)
      (pss_cons (ps_if (pt_val (pe_callB call_isi (by rfl) mi (by decide +kernel) (pa_cons (pv 0) (pa_cons (pe_bltn (v := .ty "tuple") (by rfl) mt (by decide +kernel) rfl) pa_nil))))
        (pss_one (ps_ret (pe_tupG (own := [("inner", 2)]) (g := gName 2) (k := L) hr (by rfl) mt TB rfl rfl sc_copied.nd (pi_tup (pv 0))
          (blkOk_by (own := [("inner", 2)]) (N := NCo) (sc := defScope s_copied) (by decide +kernel)) rfl (by decide +kernel) rfl
          (fun _ _ _ _ _ _ => pg_name (i := 2) sc_copied.nd rfl (Or.inl rfl)) (fun _ _ _ _ _ _ => pts_nil)
          (fun _ _ _ _ _ _ => pe_call GC (room_gen5 hr _) (by rfl) gC F.kp bC .nil pass0 (pa_cons (pv 2) pa_nil))))) pss_nil)
      (pss_one (ps_ret (pv 0))))), ?_⟩
    cases hD with
    | non =>
      have ty : TyX K H .non (.type "NoneType") := (.base .non)
      exact ⟨_, rfl, _, .ty "dict", .type "NoneType", .type "dict", false, rfl, .ty "dict", ty, kit_ty (by decide +kernel), false, rfl, iteF ⟨_, rfl, _, .ty "list", .type "NoneType", .type "list", false, rfl, .ty "list", ty, kit_ty (by decide +kernel), false, rfl, iteF ⟨_, rfl, _, .ty "tuple", .type "NoneType", .type "tuple", false, rfl, .ty "tuple", ty, kit_ty (by decide +kernel), false, rfl, iteF ⟨_, rfl, q _ H (SL.refl hT) .non⟩⟩⟩⟩
    | bl b =>
      have ty : TyX K H (.bl b) (.type "bool") := (.base (.bl b))
      exact ⟨_, rfl, _, .ty "dict", .type "bool", .type "dict", false, rfl, .ty "dict", ty, kit_ty (by decide +kernel), false, rfl, iteF ⟨_, rfl, _, .ty "list", .type "bool", .type "list", false, rfl, .ty "list", ty, kit_ty (by decide +kernel), false, rfl, iteF ⟨_, rfl, _, .ty "tuple", .type "bool", .type "tuple", false, rfl, .ty "tuple", ty, kit_ty (by decide +kernel), false, rfl, iteF ⟨_, rfl, q _ H (SL.refl hT) (.bl b)⟩⟩⟩⟩
    | int i =>
      have ty : TyX K H (.int i) (.type "int") := (.base (.int i))
      exact ⟨_, rfl, _, .ty "dict", .type "int", .type "dict", false, rfl, .ty "dict", ty, kit_ty (by decide +kernel), false, rfl, iteF ⟨_, rfl, _, .ty "list", .type "int", .type "list", false, rfl, .ty "list", ty, kit_ty (by decide +kernel), false, rfl, iteF ⟨_, rfl, _, .ty "tuple", .type "int", .type "tuple", false, rfl, .ty "tuple", ty, kit_ty (by decide +kernel), false, rfl, iteF ⟨_, rfl, q _ H (SL.refl hT) (.int i)⟩⟩⟩⟩
    | str x =>
      have ty : TyX K H (.str x) (.type "str") := (.base (.str x))
      exact ⟨_, rfl, _, .ty "dict", .type "str", .type "dict", false, rfl, .ty "dict", ty, kit_ty (by decide +kernel), false, rfl, iteF ⟨_, rfl, _, .ty "list", .type "str", .type "list", false, rfl, .ty "list", ty, kit_ty (by decide +kernel), false, rfl, iteF ⟨_, rfl, _, .ty "tuple", .type "str", .type "tuple", false, rfl, .ty "tuple", ty, kit_ty (by decide +kernel), false, rfl, iteF ⟨_, rfl, q _ H (SL.refl hT) (.str x)⟩⟩⟩⟩
    | @dic _ m a kvs es h na hl nd hE =>
      refine ⟨_, rfl, _, .ty "dict", .type "dict", .type "dict", true, rfl, .ty "dict", .base (.dK h), kit_ty (by decide +kernel), true, rfl, iteT ?_⟩
      refine ⟨a, _, h, trivial, fun od => ⟨_, rfl, a, od, rfl, .inl ⟨kvs, upd_same, fun D nD => ?_⟩⟩⟩
      have haL : (upd H a (.frz od (.dK kvs))) a = some (.frz od (.dK kvs)) := upd_same
      have hTL : TbOk T (upd H a (.frz od (.dK kvs))) := hT.lock h
      have hEL : DqKv K (upd H a (.frz od (.dK kvs))) (fun b => N b ∧ b ≠ a) m kvs es := hE.keep (fun _ _ z => sqT_updD z h) (fun b o nb e => by rw [upd_ne nb.2]; exact e) (fun _ _ z _ => z)
      have unl : ∀ {HX : Hp}, SL T (upd H a (.frz od (.dK kvs))) HX → SL T H (upd HX a (.dK kvs)) := fun sX => SL.unlock h sX
      have backN : ∀ b, (upd H a (.frz od (.dK kvs))) b = none → H b = none ∧ b ≠ a := fun b e => by
        have ne : b ≠ a := fun z => by rw [z, haL] at e; cases e
        rw [upd_ne ne] at e
        exact ⟨e, ne⟩
      generalize upd H a (.frz od (.dK kvs)) = HL at haL hTL hEL unl backN nD ⊢
      refine dc_it (walk_keys (d := a) (o := od) (kvs := kvs)) (fun i HZ => SL T HL HZ ∧ ∃ ks, HZ D = some (.dK ks) ∧ ks.map (·.1) = (kvs.map (·.1)).take i ∧ DqKv K HZ (fun b => HL b = none ∧ b ≠ D) m ks (es.take i)) ⟨SL.of hTL (same_new nD), [], upd_same, by simp, by rw [List.take_zero]; exact .nil⟩ (fun i HZ _ z => z.1.k _ _ nt_frz haL) (fun i x HZ HZ' hi hP' hY => ?_) (fun HZ hP' => ?_)
      · obtain ⟨rfl, k, v, hkv, rfl⟩ := hY
        obtain ⟨sZ, ks, hDk, hkk, hDq⟩ := hP'
        obtain ⟨x, d, rfl, hes, hv⟩ := hEL.at hkv
        have hil : ks.length = i := by
          have := congrArg List.length hkk
          rw [List.length_map, List.length_take, List.length_map] at this
          omega
        refine ⟨rfl, tYes_in ⟨_, rfl, _, rfl, _, rfl, a, _, rfl, .inl ⟨kvs, .inr x, .inr ⟨od, sZ.k _ _ nt_frz haL⟩, rfl, (valV_nd nd hkv).symm⟩, v, d, _, rfl, hv.sl sZ, sZ.t, fun v' H' s' hv' => ?_⟩⟩
        have hD' := s'.k _ _ nt_dK hDk
        have new : (Sum.inr x : Key) ∉ ks.map (·.1) := by
          rw [hkk]
          intro z
          obtain ⟨j, hj, ej⟩ := List.mem_take_iff_getElem.mp z
          rw [List.length_map] at hj
          have e1 : (kvs.map (·.1))[i]? = some (.inr x) := by rw [List.getElem?_map, hkv]; rfl
          obtain ⟨hi2, e2⟩ := List.getElem?_eq_some_iff.mp e1
          have := (List.nodup_iff_pairwise_ne.mp nd)
          exact List.pairwise_iff_getElem.mp this j i (by rw [List.length_map]; omega) hi2 (by omega) (by rw [ej, e2])
        have nDL : HL D = none := nD
        refine ⟨ks, .inr x, rfl, hD', small_line (by omega), (sZ.trans s').ownD nDL hD', ks ++ [(.inr x, v')], ?_, ?_, ?_⟩
        · rw [putK_new new]
          exact upd_same
        · rw [List.map_append, hkk]
          have e1 : (kvs.map (·.1))[i]? = some (.inr x) := by rw [List.getElem?_map, hkv]; rfl
          rw [List.take_add_one, e1]
          rfl
        · rw [List.take_add_one, hes]
          have kp : ∀ {N0 : Addr → Prop} {z : V} {y : PyData}, (∀ b, N0 b → HL b = none ∧ b ≠ D) → Dq K H' N0 m z y → Dq K (upd H' D (.dK (putK ks (.inr x) v'))) (fun b => HL b = none ∧ b ≠ D) m z y := fun hN z => z.keep (fun _ _ y => sqT_updD y hD') (fun b o nb e => by rw [upd_ne (hN b nb).2]; exact e) (fun b _ nb _ => hN b nb)
          refine DqKv.app ((hDq.sl s').keep (fun _ _ y => sqT_updD y hD') (fun b o nb e => by rw [upd_ne nb.2]; exact e) (fun _ _ nb _ => nb)) (.cons (kp (fun b nb => ⟨sZ.free nb, fun z => by rw [z, hDk] at nb; cases nb⟩) hv') .nil)
      · obtain ⟨sZ, ks, hDk, hkk, hDq⟩ := hP'
        rw [show kvs.length = es.length from hE.len, List.take_length] at hDq
        rw [List.take_of_length_le (by rw [List.length_map]; exact Nat.le_refl _)] at hkk
        have haZ := sZ.k _ _ nt_frz haL
        obtain ⟨nDH, nDa⟩ := backN D nD
        have hkl : ks.length = kvs.length := by
          have := congrArg List.length hkk
          rw [List.length_map, List.length_map] at this
          exact this
        refine ⟨haZ, q _ _ (unl sZ) (.dic (by rw [upd_ne nDa]; exact hDk) nDH (by omega) (by rw [hkk]; exact nd) ?_)⟩
        exact hDq.keep (fun _ _ y => sqT_updF y haZ) (fun b o nb e => by rw [upd_ne (backN b nb.1).2]; exact e) (fun b _ nb _ => ⟨(backN b nb.1).1, nb.2⟩)
    | @lst _ m a xs ds h na hl hE =>
      refine ⟨_, rfl, _, .ty "dict", .type "list", .type "dict", false, rfl, .ty "dict", .base (.lst h), kit_ty (by decide +kernel), false, rfl, iteF ⟨_, rfl, _, .ty "list", .type "list", .type "list", true, rfl, .ty "list", .base (.lst h), kit_ty (by decide +kernel), true, rfl, iteT ?_⟩⟩
      refine ⟨_, rfl, a, rfl, ⟨_, .inl (.inl h)⟩, fun D nD => ?_⟩
      refine lc_it (walk_list (K := K) (a := a) (xs := xs)) (fun i HZ => SL T H HZ ∧ ∃ ys, HZ D = some (.lst ys) ∧ DqAll K HZ (fun b => H b = none ∧ b ≠ D) m ys (ds.take i)) ⟨SL.of hT (same_new nD), [], upd_same, by rw [List.take_zero]; exact .nil⟩ (fun i HZ _ z => .inl (.inl (z.1.k _ _ nt_lst h))) (fun i x HZ HZ' hi hP' hY => ?_) (fun HZ hP' => ?_)
      · obtain ⟨rfl, hx⟩ := hY
        obtain ⟨sZ, ys, hDl, hDq⟩ := hP'
        obtain ⟨d, hds, hv⟩ := hE.at hx
        refine ⟨rfl, tYes_in ⟨_, rfl, x, d, _, rfl, hv.sl sZ, sZ.t, fun v' H' s' hv' => ?_⟩⟩
        have hD' := s'.k _ _ nt_lst hDl
        have hyl : ys.length ≤ i := by
          rw [hDq.len, List.length_take]
          omega
        refine ⟨ys, hD', small_line (by omega), (sZ.trans s').ownL nD hD', ys ++ [v'], upd_same, ?_⟩
        rw [List.take_add_one, hds]
        refine DqAll.app ((hDq.sl s').keep (fun _ _ y => sqT_updL y hD') (fun b o nb e => by rw [upd_ne nb.2]; exact e) (fun _ _ nb _ => nb)) (.cons (hv'.keep (fun _ _ y => sqT_updL y hD') (fun b o nb e => ?_) (fun b _ nb _ => ⟨sZ.free nb, fun z => ?_⟩)) .nil)
        · rw [upd_ne fun z => by rw [z, hDl] at nb; cases nb]
          exact e
        · rw [z, hDl] at nb
          cases nb
      · obtain ⟨sZ, ys, hDl, hDq⟩ := hP'
        rw [show xs.length = ds.length from hE.len, List.take_length] at hDq
        exact q _ _ sZ (.lst hDl nD (by rw [hDq.len, ← hE.len]; exact hl) (hDq.keep (fun _ _ y => y) (fun _ _ _ e => e) (fun _ _ nb _ => nb.1)))
    | @tup _ m a xs ds h hl hE =>
      refine ⟨_, rfl, _, .ty "dict", .type "tuple", .type "dict", false, rfl, .ty "dict", ty_tup h, kit_ty (by decide +kernel), false, rfl, iteF ⟨_, rfl, _, .ty "list", .type "tuple", .type "list", false, rfl, .ty "list", ty_tup h, kit_ty (by decide +kernel), false, rfl, iteF ⟨_, rfl, _, .ty "tuple", .type "tuple", .type "tuple", true, rfl, .ty "tuple", ty_tup h, kit_ty (by decide +kernel), true, rfl, iteT ?_⟩⟩⟩
      refine ⟨_, rfl, a, rfl, ⟨_, h⟩, hT.g _ hP, fun H2 hTb => ?_⟩
      have s0 : SL T H H2 := SL.tab hF hT hP hTb
      refine gx_it (walk_tup (K := K) (a := a) (xs := xs)) (fun i ys HZ => SL T H HZ ∧ DqAll K HZ (fun b => H b = none) m ys (ds.take i)) ⟨s0, by rw [List.take_zero]; exact .nil⟩ (fun i ys HZ _ z => z.1.sqT h) (fun i x ys HZ HZ' hi hP' hY => ?_) (fun ys HZ hP' => ?_)
      · obtain ⟨rfl, hx⟩ := hY
        obtain ⟨sZ, hDq⟩ := hP'
        obtain ⟨d, hds, hv⟩ := hE.at hx
        refine ⟨rfl, tYes_in ⟨_, rfl, x, d, _, rfl, hv.sl sZ, sZ.t, fun v' H' s' hv' => ?_⟩⟩
        have hyl : ys.length ≤ i := by
          rw [hDq.len, List.length_take]
          omega
        refine ⟨small_line (by omega), sZ.trans s', ?_⟩
        rw [List.take_add_one, hds]
        exact DqAll.app (hDq.sl s') (.cons (hv'.mono fun b nb => sZ.free nb) .nil)
      · obtain ⟨sZ, hDq⟩ := hP'
        rw [show xs.length = ds.length from hE.len, List.take_length] at hDq
        exact fun l nl => q _ _ (sZ.new nl) (.tup (.inl (.inl upd_same)) (by rw [hDq.len, ← hE.len]; exact hl) (hDq.same (same_new nl)))
theorem ok_copied {f c0 pT : Addr} {fd : FuncData} {T : Tb} (F : FunC K "copied" "copied" s_copied f fd c0) (TB : GxR.TabB base mg c0 pT) (hP : pT ∈ T.ps) (hF : T.F ∉ T.ps) (bC : Binds K fd ["thing"] []) (gC : mg "copied" = some (.ref f))
    (mi : mg "isinstance" = none) (md : mg "dict" = none) (ml : mg "list" = none) (mt : mg "tuple" = none) : ∀ n, FnOk P w K mg base CX0 (6 * n + 6) f fd ["thing"] (spCopied K T n)
  | 0 => ok_copied1 (L := 0) F TB hP hF bC gC mi md ml mt ⟨fun _ _ _ _ h => h.elim, fun _ _ _ _ _ _ _ _ _ _ _ _ _ h => h.elim⟩
  | n + 1 => ok_copied1 (L := 6 * n + 6) F TB hP hF bC gC mi md ml mt (ok_copied F TB hP hF bC gC mi md ml mt n)
end
end Bn

namespace Bn
open PySem PySem.Spec PyProof.Rows L2 BR GX RM GY
/-! ### words: what a lexicon has -/
structure Ft where
  n : Str
  vs : List Str
  t : Bool
structure Kd where
  n : Str
  fs : List Str
  g : Bool
  m : Bool
structure Sm where
  l : Str
  r : Str
  m : Str
structure Sd where
  x : Str
  k : Str
  l : Str
  a : Str
  ms : SS
  r : Int
structure En where
  l : Str
  x : Str
  ms : SS
  r : Int
abbrev strsD (xs : List Str) : PyData := .list (xs.map PyData.str)
abbrev msE (ms : SS) : List (PyData × PyData) := ms.map fun p => (.str p.1, .str p.2)
abbrev kvM (ms : SS) : List (Key × V) := ms.map fun p => (.inr p.1, .str p.2)
def ftD (f : Ft) : PyData := .tuple [.str f.n, strsD f.vs, .bool f.t]
def kdD (k : Kd) : PyData := .tuple [.str k.n, strsD k.fs, .bool k.g, .bool k.m]
def smD (s : Sm) : PyData := .tuple [.str s.l, .str s.r, .str s.m]
def sdD (s : Sd) : PyData := .tuple [.str s.x, .str s.k, .str s.l, .str s.a, .dict (msE s.ms), .int s.r]
def enD (e : En) : PyData := .tuple [.str e.l, .str e.x, .dict (msE e.ms), .int e.r]
abbrev lets26 : Str := "abcdefghijklmnopqrstuvwxyz"
def LetS (x : Str) : Prop := ∀ c ∈ x.cps.toList, c ∈ lets26.cps.toList
structure Tx (n : Nat) (x : Str) : Prop where
  len : x.length ≤ n
  all : LetS x
structure Nm (x : Str) : Prop where
  ne : x ≠ ""
  tx : Tx 8 x
structure Ft.Ok (f : Ft) : Prop where
  n : Nm f.n
  lo : 1 ≤ f.vs.length
  hi : f.vs.length ≤ 6
  nd : f.vs.Nodup
  vs : ∀ v ∈ f.vs, Nm v
structure Kd.Ok (fs : List Ft) (k : Kd) : Prop where
  n : Nm k.n
  hi : k.fs.length ≤ 4
  nd : k.fs.Nodup
  fs : ∀ x ∈ k.fs, ∃ f ∈ fs, f.n = x
  gm : (k.g && k.m) = false
structure Sm.Ok (s : Sm) : Prop where
  ne : s.l ≠ ""
  l : Tx 3 s.l
  r : Tx 3 s.r
  m : Tx 3 s.m
def MsOk (fs : List Ft) (ms : SS) : Prop := ∀ p ∈ ms, ∃ f ∈ fs, f.n = p.1 ∧ p.2 ∈ f.vs
structure Sd.Ok (fs : List Ft) (ks : List Kd) (s : Sd) : Prop where
  x : Nm s.x
  l : Nm s.l
  r0 : 0 ≤ s.r
  r1 : s.r ≤ 999
  k : ∃ k ∈ ks, k.n = s.k ∧ (if k.m = true then s.a = "" else Nm s.a) ∧ ∀ p ∈ s.ms, p.1 ∈ k.fs
  ms : MsOk fs s.ms
structure En.Ok (fs : List Ft) (e : En) : Prop where
  l : Nm e.l
  x : Tx 8 e.x
  r0 : 0 ≤ e.r
  r1 : e.r ≤ 999
  ms : MsOk fs e.ms
section
variable {K : PySem.W.Frag} {H H' : Hp} {N : Addr → Prop} {n : Nat} {v : V}
theorem dq_strs : ∀ {xs : List V} {zs : List Str}, DqAll K H N n xs (zs.map PyData.str) → xs = zs.map V.str
  | _, [], h => by cases h; rfl
  | _, z :: zs, h => by
    rw [List.map_cons] at h
    cases h with
    | cons h1 h2 =>
      cases h1
      rw [dq_strs h2]
      rfl
theorem dq_kv : ∀ {kvs : List (Key × V)} {ms : SS}, DqKv K H N n kvs (msE ms) → kvs = kvM ms
  | _, [], h => by cases h; rfl
  | _, m :: ms, h => by
    rw [show msE (m :: ms) = (.str m.1, .str m.2) :: msE ms from rfl] at h
    cases h with
    | cons h1 h2 =>
      cases h1
      rw [dq_kv h2]
      rfl
theorem strs_dq : ∀ {zs : List Str}, DqAll K H N n (zs.map V.str) (zs.map PyData.str)
  | [] => .nil
  | z :: zs => .cons (.str z) strs_dq
theorem kv_dq : ∀ {ms : SS}, DqKv K H N n (kvM ms) (msE ms)
  | [] => .nil
  | m :: ms => .cons (.str m.2) kv_dq
theorem ft_inv {f : Ft} (h : Dq K H N n v (ftD f)) : ∃ a l, v = .ref a ∧ SqT K H a [.str f.n, .ref l, .bl f.t] ∧ H l = some (.lst (f.vs.map V.str)) ∧ N l := by
  unfold ftD at h
  cases h with
  | tup h1 _ h2 =>
    cases h2 with
    | cons a b =>
      cases a
      cases b with
      | cons a b =>
        cases b with
        | cons c d =>
          cases c
          cases d
          cases a with
          | lst e1 e2 _ e3 =>
            rw [dq_strs e3] at e1
            exact ⟨_, _, rfl, h1, e1, e2⟩
theorem kd_inv {k : Kd} (h : Dq K H N n v (kdD k)) : ∃ a l, v = .ref a ∧ SqT K H a [.str k.n, .ref l, .bl k.g, .bl k.m] ∧ H l = some (.lst (k.fs.map V.str)) ∧ N l := by
  unfold kdD at h
  cases h with
  | tup h1 _ h2 =>
    cases h2 with
    | cons a b =>
      cases a
      cases b with
      | cons a b =>
        cases b with
        | cons c d =>
          cases c
          cases d with
          | cons c d =>
            cases c
            cases d
            cases a with
            | lst e1 e2 _ e3 =>
              rw [dq_strs e3] at e1
              exact ⟨_, _, rfl, h1, e1, e2⟩
theorem sm_inv {s : Sm} (h : Dq K H N n v (smD s)) : ∃ a, v = .ref a ∧ SqT K H a [.str s.l, .str s.r, .str s.m] := by
  unfold smD at h
  cases h with
  | tup h1 _ h2 =>
    cases h2 with
    | cons a b =>
      cases a
      cases b with
      | cons a b =>
        cases a
        cases b with
        | cons a b =>
          cases a
          cases b
          exact ⟨_, rfl, h1⟩
theorem sd_inv {s : Sd} (h : Dq K H N n v (sdD s)) : ∃ a m, v = .ref a ∧ SqT K H a [.str s.x, .str s.k, .str s.l, .str s.a, .ref m, .int s.r] ∧ H m = some (.dK (kvM s.ms)) ∧ N m ∧ s.ms.length ≤ 1000 ∧ (s.ms.map (·.1)).Nodup := by
  unfold sdD at h
  cases h with
  | tup h1 _ h2 =>
    cases h2 with
    | cons a b =>
      cases a
      cases b with
      | cons a b =>
        cases a
        cases b with
        | cons a b =>
          cases a
          cases b with
          | cons a b =>
            cases a
            cases b with
            | cons a b =>
              cases b with
              | cons c d =>
                cases c
                cases d
                cases a with
                | dic e1 e2 e4 e5 e3 =>
                  have e := dq_kv e3
                  rw [e] at e1 e4 e5
                  refine ⟨_, _, rfl, h1, e1, e2, by rw [List.length_map] at e4; exact e4, ?_⟩
                  rw [List.map_map] at e5
                  have q : (s.ms.map fun p => (Sum.inr p.1 : Key)).Nodup := e5
                  rw [show (s.ms.map fun p => (Sum.inr p.1 : Key)) = (s.ms.map (·.1)).map Sum.inr from by rw [List.map_map]; rfl] at q
                  exact (List.pairwise_map.mp q).imp fun h z => h (by rw [z])
theorem en_inv {s : En} (h : Dq K H N n v (enD s)) : ∃ a m, v = .ref a ∧ SqT K H a [.str s.l, .str s.x, .ref m, .int s.r] ∧ H m = some (.dK (kvM s.ms)) ∧ N m ∧ s.ms.length ≤ 1000 ∧ (s.ms.map (·.1)).Nodup := by
  unfold enD at h
  cases h with
  | tup h1 _ h2 =>
    cases h2 with
    | cons a b =>
      cases a
      cases b with
      | cons a b =>
        cases a
        cases b with
        | cons a b =>
          cases b with
          | cons c d =>
            cases c
            cases d
            cases a with
            | dic e1 e2 e4 e5 e3 =>
              have e := dq_kv e3
              rw [e] at e1 e4 e5
              refine ⟨_, _, rfl, h1, e1, e2, by rw [List.length_map] at e4; exact e4, ?_⟩
              rw [List.map_map] at e5
              have q : (s.ms.map fun p => (Sum.inr p.1 : Key)).Nodup := e5
              rw [show (s.ms.map fun p => (Sum.inr p.1 : Key)) = (s.ms.map (·.1)).map Sum.inr from by rw [List.map_map]; rfl] at q
              exact (List.pairwise_map.mp q).imp fun h z => h (by rw [z])
theorem kvM_val {ms : SS} (nd : (ms.map (·.1)).Nodup) {p : Str × Str} (hp : p ∈ ms) : valV (kvM ms) (.inr p.1) = some (.str p.2) := by
  obtain ⟨i, hi⟩ := List.getElem?_of_mem hp
  refine valV_nd (i := i) ?_ (by rw [List.getElem?_map, hi]; rfl)
  rw [List.map_map]
  show (ms.map fun p => (Sum.inr p.1 : Key)).Nodup
  rw [show (ms.map fun p => (Sum.inr p.1 : Key)) = (ms.map (·.1)).map Sum.inr from by rw [List.map_map]; rfl]
  refine List.pairwise_map.mpr (nd.imp ?_)
  intro a b h z
  exact h (Sum.inr.inj z)
end
end Bn

namespace Bn
open PySem PySem.Spec PyProof.Rows L2 BR GX RM GY
theorem str_line {x : Str} {n : Nat} (h : x.length ≤ n) (hn : n ≤ 1000) : x.length ≤ sizeLine := Nat.le_trans h (Nat.le_trans hn (by decide))
section
variable {P : Program} {w : World} {K : PySem.W.Frag} {mg : Str → Option Value} {base : Heap}
/-! ### is_text, is_name, is_rank, are_unlike -/
def spIsText (T : Tb) : Sp := fun vs H Q _ => ∃ (x : Str) (m : Nat), vs = [.str x, .int (m : Nat)] ∧ Tx m x ∧ m ≤ 1000 ∧ TbOk T H ∧ ∀ H', SL T H H' → Q (.bl true) H'
theorem ok_isText {f c0 pT : Addr} {fd : FuncData} {T : Tb} {k : Nat} {tL : Tok} (F : FunC K "is_text" "is_text" s_is_text f fd c0) (TB : GxR.TabB base mg c0 pT) (hP : pT ∈ T.ps) (hF : T.F ∉ T.ps) (ml : mg "len" = none) (ma : mg "all" = none) (mL : mg "LETTERS" = some (.str lets26 tL)) : FnOk P w K mg base CX0 (k + 1) f fd ["text", "most"] (spIsText T) := by
  refine F.ok sc_is_text (fun vs H Q E h => ?_) (fun A outer s H vs Q E hr h => ?_)
  · obtain ⟨x, m, rfl, _⟩ := h
    rfl
  · obtain ⟨x, m, rfl, hx, hm, hT, q⟩ := h
    refine ⟨_, pss_one (ps_ret (pe_and (pe_cmpR op_le (pe_callB call_len_str (by rfl) ml PySem.boot_len (pa_cons (pv 0) pa_nil)) (pv 1) (nomark _)) (pe_one (pe_all (own := [("letter", 2)]) (g := gName 2) hr (by rfl) ma (by decide +kernel) TB rfl rfl sc_is_text.nd (pi_str (pv 0))
      (blkOk_by (own := [("letter", 2)]) (N := ["text", "most", "letter"]) (sc := defScope s_is_text) (by decide +kernel)) rfl (by decide +kernel) rfl
      (fun _ _ _ _ _ _ => pg_name (i := 2) sc_is_text.nd rfl (Or.inl rfl)) (fun _ _ _ _ _ _ => pts_nil)
      (fun _ _ _ _ _ _ => pe_cmpR op_in_sign (pv 2) (pe_glob (v := .str lets26) (by rfl) mL ⟨_, rfl⟩) (by rfl)))))), ?_⟩
    refine ⟨_, rfl, _, rfl, str_line hx.len hm, _, rfl, _, _, rfl, rfl, _, rfl, ?_⟩
    rw [decide_eq_true (show ((x.length : Nat) : Int) ≤ (m : Nat) by exact_mod_cast hx.len)]
    refine iteT ⟨_, rfl, x, rfl, hT.g _ hP, fun H2 hTb => ?_⟩
    refine all_it (walk_str (z := x)) (fun i HZ => SL T H HZ) (SL.tab hF hT hP hTb) (fun _ _ _ _ => trivial) (fun i v HZ HZ' hi hP' hY => ?_) (fun HZ hP' => q _ hP')
    obtain ⟨rfl, c, hc, rfl⟩ := hY
    refine ⟨rfl, tYes_in ⟨_, rfl, c, _, rfl, rfl, _, rfl, fun _ => hP', fun z => ?_⟩⟩
    have : c ∈ lets26.cps.toList := hx.all c (List.mem_of_getElem? (by rw [Array.getElem?_toList]; exact hc))
    rw [decide_eq_true this] at z
    cases z
def spIsName (T : Tb) : Sp := fun vs H Q _ => ∃ (x : Str), vs = [.str x] ∧ Nm x ∧ TbOk T H ∧ ∀ H', SL T H H' → Q (.bl true) H'
theorem ok_isName {f fT : Addr} {fd fdT : FuncData} {T : Tb} {k : Nat} (F : Fun K "is_name" "is_name" s_is_name f fd) (kT : PySem.W.keepIn K (.ref fT) = true) (bT : Binds K fdT ["text", "most"] []) (gT : mg "is_text" = some (.ref fT)) (GT : FnOk P w K mg base CX0 (k + 1) fT fdT ["text", "most"] (spIsText T)) :
    FnOk P w K mg base CX0 (k + 2) f fd ["text"] (spIsName T) := by
  refine F.ok sc_is_name (fun vs H Q E h => ?_) (fun cdv A outer s H vs Q E hr h => ?_)
  · obtain ⟨x, rfl, _⟩ := h
    rfl
  · obtain ⟨x, rfl, hx, hT, q⟩ := h
    refine ⟨_, pss_one (ps_ret (pe_and (pe_cmpR op_ne (pv 0) pe_str (nomark _)) (pe_one (pe_call GT hr (by rfl) gT kT bT .nil pass0 (pa_cons (pv 0) (pa_cons pe_int pa_nil)))))), ?_⟩
    refine ⟨_, rfl, rfl, _, rfl, ?_⟩
    have ne : ¬ (V.str x = V.str "") := fun z => hx.ne (V.str.inj z)
    rw [decide_eq_false ne]
    exact iteT ⟨_, rfl, x, 8, rfl, hx.tx, by decide, hT, q⟩
def spIsRank : Sp := fun vs H Q _ => ∃ (i : Int), vs = [.int i] ∧ 0 ≤ i ∧ i ≤ 999 ∧ Q (.bl true) H
theorem ok_isRank {f : Addr} {fd : FuncData} {k : Nat} {t : Tok} (F : Fun K "is_rank" "is_rank" s_is_rank f fd) (mR : mg "MOST_RANK" = some (.int 999 t)) : FnOk P w K mg base CX0 (k + 1) f fd ["number"] spIsRank := by
  refine F.ok sc_is_rank (fun vs H Q E h => ?_) (fun cdv A outer s H vs Q E hr h => ?_)
  · obtain ⟨i, rfl, _⟩ := h
    rfl
  · obtain ⟨i, rfl, h0, h1, q⟩ := h
    refine ⟨_, pss_one (ps_ret (pe_chain op_le op_le pe_int (pv 0) (pe_glob (v := .int 999) (by rfl) mR ⟨_, rfl⟩))), ?_⟩
    refine ⟨_, rfl, _, _, rfl, rfl, _, rfl, ?_⟩
    rw [decide_eq_true h0]
    refine iteT ⟨_, _, rfl, rfl, ?_⟩
    show Q (.bl (decide (i ≤ 999))) H
    rw [decide_eq_true h1]
    exact q
def spUnlike (K : PySem.W.Frag) : Sp := fun vs H Q _ => ∃ (l : Addr) (xs : List Str), vs = [.ref l] ∧ H l = some (.lst (xs.map V.str)) ∧ xs.Nodup ∧ xs.length ≤ 1000 ∧ Q (.bl true) H
theorem ok_unlike {f : Addr} {fd : FuncData} {k : Nat} (F : Fun K "are_unlike" "are_unlike" s_are_unlike f fd) (ml : mg "len" = none) (ms : mg "set" = none) : FnOk P w K mg base CX0 (k + 1) f fd ["things"] (spUnlike K) := by
  refine F.ok sc_are_unlike (fun vs H Q E h => ?_) (fun cdv A outer s H vs Q E hr h => ?_)
  · obtain ⟨l, xs, rfl, _⟩ := h
    rfl
  · obtain ⟨l, xs, rfl, hl, nd, few, q⟩ := h
    refine ⟨_, pss_one (ps_ret (pe_cmpR op_eq (SU.pe_lenSetU rfl (by rfl) ml (by rfl) ms (pv 0)) (pe_callB call_len_seq (by rfl) ml PySem.boot_len (pa_cons (pv 0) pa_nil)) (nomark _))), ?_⟩
    refine ⟨_, rfl, l, xs, rfl, .inl (.inl hl), nd, few, _, rfl, l, _, rfl, .inl (.inl (.inl hl)), rfl, ?_⟩
    rw [List.length_map, decide_eq_true rfl]
    exact q
end
end Bn

namespace Bn
open PySem PySem.Spec PyProof.Rows L2 BR GX RM GY
/-- what is known of features, kinds: dicts by names -/
def FtsD (H : Hp) (fe : Addr) (fs : List Ft) : Prop := ∃ kvs, H fe = some (.dK kvs) ∧ ∀ f ∈ fs, ∃ l, valV kvs (.inr f.n) = some (.ref l) ∧ H l = some (.lst (f.vs.map V.str))
def KdsD (K : PySem.W.Frag) (H : Hp) (kd : Addr) (ks : List Kd) : Prop := ∃ kvs, H kd = some (.dK kvs) ∧ ∀ k ∈ ks, ∃ a l, valV kvs (.inr k.n) = some (.ref a) ∧ SqT K H a [.str k.n, .ref l, .bl k.g, .bl k.m] ∧ H l = some (.lst (k.fs.map V.str))
section
variable {T : Tb} {K : PySem.W.Frag} {H H' : Hp} {a fe : Addr} {fs : List Ft} {ks : List Kd} {u : HO}
theorem FtsD.sl (h : FtsD H fe fs) (s : SL T H H') : FtsD H' fe fs := by
  obtain ⟨kvs, h1, h2⟩ := h
  exact ⟨kvs, s.k _ _ nt_dK h1, fun f hf => let ⟨l, e1, e2⟩ := h2 f hf; ⟨l, e1, s.k _ _ nt_lst e2⟩⟩
theorem KdsD.sl (h : KdsD K H fe ks) (s : SL T H H') : KdsD K H' fe ks := by
  obtain ⟨kvs, h1, h2⟩ := h
  exact ⟨kvs, s.k _ _ nt_dK h1, fun k hk => let ⟨a, l, e1, e2, e3⟩ := h2 k hk; ⟨a, l, e1, s.sqT e2, s.k _ _ nt_lst e3⟩⟩
theorem rd_sl (h : Rd H a u) (hu : NT u) (s : SL T H H') : Rd H' a u := by
  rcases h with e | ⟨o, e⟩
  · exact .inl (s.k _ _ hu e)
  · exact .inr ⟨o, s.k _ _ nt_frz e⟩
end
theorem in_strs {xs : List Str} {x : Str} (h : x ∈ xs) : inV (.str x) (xs.map V.str) = true := by
  unfold inV
  refine List.any_eq_true.mpr ⟨.str x, List.mem_map.mpr ⟨x, h, rfl⟩, ?_⟩
  simp [eqV]
theorem flat_strs (xs : List Str) : (xs.map V.str).all flatV = true := List.all_eq_true.mpr fun v hv => by
  obtain ⟨x, _, rfl⟩ := List.mem_map.mp hv
  rfl
section
variable {P : Program} {w : World} {K : PySem.W.Frag} {mg : Str → Option Value} {base : Heap}
/-! ### is_feature -/
def spIsFeature (K : PySem.W.Frag) (T : Tb) : Sp := fun vs H Q _ => ∃ (v : V) (f : Ft) (N : Addr → Prop) (n : Nat), vs = [v] ∧ Dq K H N n v (ftD f) ∧ f.Ok ∧ TbOk T H ∧ ∀ H', SL T H H' → Q (.bl true) H'
theorem ok_isFeature {f c0 pT fN fU : Addr} {fd fdN fdU : FuncData} {T : Tb} {k : Nat} {t : Tok} (F : FunC K "is_feature" "is_feature" s_is_feature f fd c0) (TB : GxR.TabB base mg c0 pT) (hP : pT ∈ T.ps) (hF : T.F ∉ T.ps) (ml : mg "len" = none) (ma : mg "all" = none) (mV : mg "MOST_VALUES" = some (.int 6 t))
    (kN : PySem.W.keepIn K (.ref fN) = true) (bN : Binds K fdN ["text"] []) (gN : mg "is_name" = some (.ref fN)) (GN : FnOk P w K mg base CX0 (k + 2) fN fdN ["text"] (spIsName T))
    (kU : PySem.W.keepIn K (.ref fU) = true) (bU : Binds K fdU ["things"] []) (gU : mg "are_unlike" = some (.ref fU)) (GU : FnOk P w K mg base CX0 (k + 1) fU fdU ["things"] (spUnlike K)) :
    FnOk P w K mg base CX0 (k + 6) f fd ["feature"] (spIsFeature K T) := by
  refine F.ok sc_is_feature (fun vs H Q E h => ?_) (fun A outer s H vs Q E hr h => ?_)
  · obtain ⟨v, f, N, n, rfl, _⟩ := h
    rfl
  · obtain ⟨v, f, N, n, rfl, hD, hf, hT, q⟩ := h
    obtain ⟨a, l, rfl, ha, hl, _⟩ := ft_inv hD
    refine ⟨_, pss_cons (ps_asg (pv 0) (pg_tup rfl (pgs_cons (pg_name (i := 1) sc_is_feature.nd rfl (.inl rfl)) (pgs_cons (pg_name (i := 2) sc_is_feature.nd rfl (.inl rfl)) (pgs_cons (pg_name (i := 3) sc_is_feature.nd rfl (.inl rfl)) pgs_nil)))))
      (pss_cons (ps_if (PW.pt (pw_or (pt_not (pt_val (pe_call GN (hr.mono (by omega)) (by rfl) gN kN bN .nil pass0 (pa_cons (pv 1) pa_nil)))) (pw_or1 (pt_not (pt_chain op_le op_le pe_int (pe_callB call_len_seq (by rfl) ml PySem.boot_len (pa_cons (pv 2) pa_nil)) (pe_glob (v := .int 6) (by rfl) mV ⟨_, rfl⟩)))))) (pss_one (ps_ret pe_bl)) pss_nil)
      (pss_one (ps_ret (pe_and (pe_call GU (hr.mono (by omega)) (by rfl) gU kU bU .nil pass0 (pa_cons (pv 2) pa_nil)) (pe_one (pe_all (own := [("value", 4)]) (g := gName 4) hr (by rfl) ma (by decide +kernel) TB rfl rfl sc_is_feature.nd (pi_list (pv 2))
        (blkOk_by (own := [("value", 4)]) (N := ["feature", "name", "values", "told", "value"]) (sc := defScope s_is_feature) (by decide +kernel)) rfl (by decide +kernel) rfl
        (fun _ _ _ _ _ _ => pg_name (i := 4) sc_is_feature.nd rfl (Or.inl rfl)) (fun _ _ _ _ _ _ => pts_nil)
        (fun _ _ _ _ _ _ => pe_call GN (room_gen hr _) (by rfl) gN kN bN .nil pass0 (pa_cons (pv 4) pa_nil)))))))), ?_⟩
    refine ⟨_, rfl, a, _, rfl, ha, rfl, _, _, rfl, _, _, rfl, _, _, rfl, rfl, ?_⟩
    refine ⟨_, rfl, f.n, rfl, hf.n, hT, fun H1 s1 => ⟨true, rfl, iteF ?_⟩⟩
    have hl1 := s1.k _ _ nt_lst hl
    refine ⟨_, rfl, l, _, rfl, .inl (.inl (.inl hl1)), _, _, rfl, rfl, _, rfl, ?_⟩
    rw [List.length_map, decide_eq_true (show (1 : Int) ≤ (f.vs.length : Nat) by exact_mod_cast hf.lo)]
    refine iteT ⟨_, _, rfl, rfl, _, rfl, ?_⟩
    rw [decide_eq_true (show ((f.vs.length : Nat) : Int) ≤ 6 by exact_mod_cast hf.hi)]
    refine iteF ?_
    refine ⟨_, rfl, l, f.vs, rfl, hl1, hf.nd, Nat.le_trans hf.hi (by decide), _, rfl, iteT ?_⟩
    refine ⟨_, rfl, l, rfl, ⟨_, .inl (.inl hl1)⟩, s1.t.g _ hP, fun H2 hTb => ?_⟩
    refine all_it (walk_list (K := K) (a := l) (xs := f.vs.map V.str)) (fun i HZ => SL T H HZ) (s1.trans (SL.tab hF s1.t hP hTb)) (fun i HZ _ z => .inl (.inl (z.k _ _ nt_lst hl))) (fun i x HZ HZ' hi hP' hY => ?_) (fun HZ hP' => q _ hP')
    obtain ⟨rfl, hx⟩ := hY
    rw [List.getElem?_map] at hx
    obtain ⟨y, hy, rfl⟩ := Option.map_eq_some_iff.mp hx
    exact ⟨rfl, tYes_in ⟨_, rfl, y, rfl, hf.vs y (List.mem_of_getElem? hy), hP'.t, fun H3 s3 => ⟨true, rfl, fun _ => hP'.trans s3, fun z => by cases z⟩⟩⟩
end
end Bn

namespace Bn
open PySem PySem.Spec PyProof.Rows L2 BR GX RM GY
section
variable {P : Program} {w : World} {K : PySem.W.Frag} {mg : Str → Option Value} {base : Heap}
/-! ### is_kind -/
def spIsKind (K : PySem.W.Frag) (T : Tb) : Sp := fun vs H Q _ => ∃ (v : V) (fe : Addr) (kd : Kd) (fs : List Ft) (N : Addr → Prop) (n : Nat), vs = [v, .ref fe] ∧ Dq K H N n v (kdD kd) ∧ FtsD H fe fs ∧ kd.Ok fs ∧ TbOk T H ∧ ∀ H', SL T H H' → Q (.bl true) H'
theorem ok_isKind {f c0 pT fN fU : Addr} {fd fdN fdU : FuncData} {T : Tb} {k : Nat} {t : Tok} (F : FunC K "is_kind" "is_kind" s_is_kind f fd c0) (TB : GxR.TabB base mg c0 pT) (hP : pT ∈ T.ps) (hF : T.F ∉ T.ps) (ml : mg "len" = none) (ma : mg "all" = none) (mV : mg "MOST_FEATURES_OF_A_KIND" = some (.int 4 t))
    (kN : PySem.W.keepIn K (.ref fN) = true) (bN : Binds K fdN ["text"] []) (gN : mg "is_name" = some (.ref fN)) (GN : FnOk P w K mg base CX0 (k + 2) fN fdN ["text"] (spIsName T))
    (kU : PySem.W.keepIn K (.ref fU) = true) (bU : Binds K fdU ["things"] []) (gU : mg "are_unlike" = some (.ref fU)) (GU : FnOk P w K mg base CX0 (k + 1) fU fdU ["things"] (spUnlike K)) :
    FnOk P w K mg base CX0 (k + 6) f fd ["kind", "features"] (spIsKind K T) := by
  refine F.ok sc_is_kind (fun vs H Q E h => ?_) (fun A outer s H vs Q E hr h => ?_)
  · obtain ⟨v, fe, kd, fs, N, n, rfl, _⟩ := h
    rfl
  · obtain ⟨v, fe, kd, fs, N, n, rfl, hD, hfe, hk, hT, q⟩ := h
    obtain ⟨a, l, rfl, ha, hl, _⟩ := kd_inv hD
    have hu : ∀ env : Env, (_ : Around).units + 1 < cLine := fun env => hu_of (room_gen hr env)
    refine ⟨_, pss_cons (ps_asg (pv 0) (pg_tup rfl (pgs_cons (pg_name (i := 2) sc_is_kind.nd rfl (.inl rfl)) (pgs_cons (pg_name (i := 3) sc_is_kind.nd rfl (.inl rfl)) (pgs_cons (pg_name (i := 4) sc_is_kind.nd rfl (.inl rfl)) (pgs_cons (pg_name (i := 5) sc_is_kind.nd rfl (.inl rfl)) pgs_nil))))))
      (pss_cons (ps_if (PW.pt (pw_or (pt_not (pt_val (pe_call GN (hr.mono (by omega)) (by rfl) gN kN bN .nil pass0 (pa_cons (pv 2) pa_nil)))) (pw_or (pt_cmpR op_gt (pe_callB call_len_seq (by rfl) ml PySem.boot_len (pa_cons (pv 3) pa_nil)) (pe_glob (v := .int 4) (by rfl) mV ⟨_, rfl⟩) (nomark _)) (pw_or1 (pt_not (pt_val (pe_call GU (hr.mono (by omega)) (by rfl) gU kU bU .nil pass0 (pa_cons (pv 3) pa_nil)))))))) (pss_one (ps_ret pe_bl)) pss_nil)
      (pss_one (ps_ret (pe_and (pe_all (own := [("feature", 6)]) (g := gName 6) hr (by rfl) ma (by decide +kernel) TB rfl rfl sc_is_kind.nd (pi_list (pv 3))
        (blkOk_by (own := [("feature", 6)]) (N := ["kind", "features", "name", "own", "gap", "mute", "feature"]) (sc := defScope s_is_kind) (by decide +kernel)) rfl (by decide +kernel) rfl
        (fun _ _ _ _ _ _ => pg_name (i := 6) sc_is_kind.nd rfl (Or.inl rfl)) (fun _ _ _ _ _ _ => pts_nil)
        (fun _ _ _ _ _ _ => pe_cmp (pc_din (hu _) (pv 6) (pv 1)))) (pe_one (pe_not (pe_and (pv 4) (pe_one (pv 5))))))))), ?_⟩
    refine ⟨_, rfl, a, _, rfl, ha, rfl, _, _, rfl, _, _, rfl, _, _, rfl, _, _, rfl, rfl, ?_⟩
    refine ⟨_, rfl, kd.n, rfl, hk.n, hT, fun H1 s1 => ⟨true, rfl, iteF ?_⟩⟩
    have hl1 := s1.k _ _ nt_lst hl
    refine ⟨_, rfl, l, _, rfl, .inl (.inl (.inl hl1)), _, _, rfl, rfl, _, rfl, ?_⟩
    rw [List.length_map, decide_eq_false (show ¬ ((kd.fs.length : Nat) : Int) > 4 by have := hk.hi; omega)]
    refine iteF ⟨_, rfl, l, kd.fs, rfl, hl1, hk.nd, Nat.le_trans hk.hi (by decide), true, rfl, iteF ?_⟩
    refine ⟨_, rfl, l, rfl, ⟨_, .inl (.inl hl1)⟩, s1.t.g _ hP, fun H2 hTb => ?_⟩
    refine all_it (walk_list (K := K) (a := l) (xs := kd.fs.map V.str)) (fun i HZ => SL T H HZ) (s1.trans (SL.tab hF s1.t hP hTb)) (fun i HZ _ z => .inl (.inl (z.k _ _ nt_lst hl))) (fun i x HZ HZ' hi hP' hY => ?_) (fun HZ hP' => ?_)
    · obtain ⟨rfl, hx⟩ := hY
      rw [List.getElem?_map] at hx
      obtain ⟨y, hy, rfl⟩ := Option.map_eq_some_iff.mp hx
      obtain ⟨f, hf, rfl⟩ := hk.fs y (List.mem_of_getElem? hy)
      obtain ⟨kvs, e1, e2⟩ := hfe.sl hP'
      obtain ⟨l2, e3, _⟩ := e2 f hf
      exact ⟨rfl, tYes_in ⟨_, rfl, _, rfl, fe, _, rfl, .inl ⟨kvs, .inr f.n, .inl e1, rfl, e3.symm⟩, true, rfl, fun _ => hP', fun z => by cases z⟩⟩
    · refine ⟨true, rfl, iteT ⟨_, rfl, kd.g, rfl, ?_⟩⟩
      have gm := hk.gm
      cases hg : kd.g with
      | false => exact iteF ⟨false, rfl, q _ hP'⟩
      | true =>
        rw [hg] at gm
        have gm' : kd.m = false := gm
        refine iteT ⟨_, rfl, kd.m, rfl, ?_⟩
        rw [gm']
        exact q _ hP'
/-! ### is_seam -/
def spIsSeam (K : PySem.W.Frag) (T : Tb) : Sp := fun vs H Q _ => ∃ (v : V) (m : Sm) (N : Addr → Prop) (n : Nat), vs = [v] ∧ Dq K H N n v (smD m) ∧ m.Ok ∧ TbOk T H ∧ ∀ H', SL T H H' → Q (.bl true) H'
theorem ok_isSeam {f c0 pT fT : Addr} {fd fdT : FuncData} {T : Tb} {k : Nat} (F : FunC K "is_seam" "is_seam" s_is_seam f fd c0) (TB : GxR.TabB base mg c0 pT) (hP : pT ∈ T.ps) (hF : T.F ∉ T.ps) (ma : mg "all" = none)
    (kT : PySem.W.keepIn K (.ref fT) = true) (bT : Binds K fdT ["text", "most"] []) (gT : mg "is_text" = some (.ref fT)) (GT : FnOk P w K mg base CX0 (k + 1) fT fdT ["text", "most"] (spIsText T)) :
    FnOk P w K mg base CX0 (k + 5) f fd ["seam"] (spIsSeam K T) := by
  refine F.ok sc_is_seam (fun vs H Q E h => ?_) (fun A outer s H vs Q E hr h => ?_)
  · obtain ⟨v, m, N, n, rfl, _⟩ := h
    rfl
  · obtain ⟨v, m, N, n, rfl, hD, hm, hT, q⟩ := h
    obtain ⟨a, rfl, ha⟩ := sm_inv hD
    refine ⟨_, pss_one (ps_ret (pe_and (pe_cmpR op_ne (pe_ix ix_tup (pv 0) pe_int (fun _ _ => rfl)) pe_str (nomark _)) (pe_one (pe_all (own := [("text", 1)]) (g := gName 1) hr (by rfl) ma (by decide +kernel) TB rfl rfl sc_is_seam.nd (pi_tup (pv 0))
        (blkOk_by (own := [("text", 1)]) (N := ["seam", "text"]) (sc := defScope s_is_seam) (by decide +kernel)) rfl (by decide +kernel) rfl
        (fun _ _ _ _ _ _ => pg_name (i := 1) sc_is_seam.nd rfl (Or.inl rfl)) (fun _ _ _ _ _ _ => pts_nil)
        (fun _ _ _ _ _ _ => pe_call GT (room_gen hr _) (by rfl) gT kT bT .nil pass0 (pa_cons (pv 1) (pa_cons pe_int pa_nil))))))), ?_⟩
    refine ⟨_, rfl, a, _, _, V.str m.l, rfl, rfl, ha, rfl, rfl, _, rfl, ?_⟩
    have ne : ¬ (V.str m.l = V.str "") := fun z => hm.ne (V.str.inj z)
    rw [decide_eq_false ne]
    refine iteT ⟨_, rfl, a, rfl, ⟨_, ha⟩, hT.g _ hP, fun H2 hTb => ?_⟩
    refine all_it (walk_tup (K := K) (a := a) (xs := [.str m.l, .str m.r, .str m.m])) (fun i HZ => SL T H HZ) (SL.tab hF hT hP hTb) (fun i HZ _ z => z.sqT ha) (fun i x HZ HZ' hi hP' hY => ?_) (fun HZ hP' => q _ hP')
    obtain ⟨rfl, hx⟩ := hY
    have : ∃ y, x = .str y ∧ Tx 3 y := by
      match i, hx with
      | 0, hx => exact ⟨m.l, (Option.some.inj hx).symm, hm.l⟩
      | 1, hx => exact ⟨m.r, (Option.some.inj hx).symm, hm.r⟩
      | 2, hx => exact ⟨m.m, (Option.some.inj hx).symm, hm.m⟩
    obtain ⟨y, rfl, hy⟩ := this
    exact ⟨rfl, tYes_in ⟨_, rfl, y, 3, rfl, hy, by decide, hP'.t, fun H3 s3 => ⟨true, rfl, fun _ => hP'.trans s3, fun z => by cases z⟩⟩⟩
end
end Bn

namespace Bn
open PySem PySem.Spec PyProof.Rows L2 BR GX RM GY
theorem kvM_nd {ms : SS} (nd : (ms.map (·.1)).Nodup) : ((kvM ms).map (·.1)).Nodup := by
  rw [List.map_map]
  show (ms.map fun p => (Sum.inr p.1 : Key)).Nodup
  rw [show (ms.map fun p => (Sum.inr p.1 : Key)) = (ms.map (·.1)).map Sum.inr from by rw [List.map_map]; rfl]
  refine List.pairwise_map.mpr (nd.imp ?_)
  intro a b h z
  exact h (Sum.inr.inj z)
theorem kvM_at {ms : SS} {i : Nat} {k : Key} {v : V} (h : (kvM ms)[i]? = some (k, v)) : ∃ p ∈ ms, k = .inr p.1 ∧ v = .str p.2 := by
  rw [List.getElem?_map] at h
  obtain ⟨p, hp, e⟩ := Option.map_eq_some_iff.mp h
  cases e
  exact ⟨p, List.mem_of_getElem? hp, rfl, rfl⟩
section
variable {P : Program} {w : World} {K : PySem.W.Frag} {mg : Str → Option Value} {base : Heap}
/-! ### are_marks: of a kind's list of features, of all features -/
def spMarksL (T : Tb) : Sp := fun vs H Q _ => ∃ (m l fe : Addr) (ms : SS) (own : List Str) (fs : List Ft), vs = [.ref m, .ref l, .ref fe] ∧ H m = some (.dK (kvM ms)) ∧ (ms.map (·.1)).Nodup ∧ H l = some (.lst (own.map V.str)) ∧ FtsD H fe fs ∧ (∀ p ∈ ms, p.1 ∈ own) ∧ MsOk fs ms ∧ TbOk T H ∧ ∀ H', SL T H H' → Q (.bl true) H'
def spMarksD (T : Tb) : Sp := fun vs H Q _ => ∃ (m fe : Addr) (ms : SS) (fs : List Ft), vs = [.ref m, .ref fe, .ref fe] ∧ H m = some (.dK (kvM ms)) ∧ (ms.map (·.1)).Nodup ∧ FtsD H fe fs ∧ MsOk fs ms ∧ TbOk T H ∧ ∀ H', SL T H H' → Q (.bl true) H'
abbrev NMk : List Str := ["marks", "names", "features", "name"]
theorem lock_fts {H : Hp} {m fe : Addr} {kvs : List (Key × V)} {fs : List Ft} {od : Obj} (hm : H m = some (.dK kvs)) (h : FtsD H fe fs) : ∃ kv2, Rd (upd H m (.frz od (.dK kvs))) fe (.dK kv2) ∧ ∀ f ∈ fs, ∃ l, valV kv2 (.inr f.n) = some (.ref l) ∧ (upd H m (.frz od (.dK kvs))) l = some (.lst (f.vs.map V.str)) := by
  obtain ⟨kv2, e1, e2⟩ := h
  refine ⟨kv2, rd_lock e1 hm, fun f hf => ?_⟩
  obtain ⟨l, e3, e4⟩ := e2 f hf
  exact ⟨l, e3, by rw [upd_ne (ne_of e4 hm (by intro z; cases z))]; exact e4⟩
theorem ok_marksL {f c0 pT : Addr} {fd : FuncData} {T : Tb} {k : Nat} (F : FunC K "are_marks" "are_marks" s_are_marks f fd c0) (TB : GxR.TabB base mg c0 pT) (hP : pT ∈ T.ps) (hF : T.F ∉ T.ps) (ma : mg "all" = none) : FnOk P w K mg base CX0 (k + 5) f fd ["marks", "names", "features"] (spMarksL T) := by
  refine F.ok sc_are_marks (fun vs H Q E h => ?_) (fun A outer s H vs Q E hr h => ?_)
  · obtain ⟨m, l, fe, ms, own, fs, rfl, _⟩ := h
    rfl
  · obtain ⟨m, l, fe, ms, own, fs, rfl, hm, nd, hl, hfe, hown, hms, hT, q⟩ := h
    have hu : ∀ env : Env, (_ : Around).units + 1 < cLine := fun env => hu_of (room_gen hr env)
    refine ⟨_, pss_one (ps_ret (pe_lock (pe_all (own := [("name", 3)]) (g := gName 3) hr (by rfl) ma (by decide +kernel) TB rfl rfl sc_are_marks.nd (pi_keys (pv 0))
        (blkOk_by (own := [("name", 3)]) (N := NMk) (sc := defScope s_are_marks) (by decide +kernel)) rfl (by decide +kernel) rfl
        (fun _ _ _ _ _ _ => pg_name (i := 3) sc_are_marks.nd rfl (Or.inl rfl)) (fun _ _ _ _ _ _ => pts_nil)
        (fun _ _ _ _ _ _ => pe_and (pe_cmpR (op_inK (K := K) rfl) (pv 3) (pv 1) (by rfl)) (pe_one (pe_cmpR (op_inK (K := K) rfl) (pe_dget (hu _) (pv 0) (pv 3) (fun _ _ => rfl)) (pe_dget (hu _) (pv 2) (pv 3) (fun _ _ => rfl)) (by rfl))))))), ?_⟩
    refine ⟨m, _, hm, trivial, fun od => ⟨_, rfl, m, od, rfl, .inl ⟨kvM ms, upd_same, (hT.lock hm).g _ hP, fun H2 hTb => ?_⟩⟩⟩
    have hmL : (upd H m (.frz od (.dK (kvM ms)))) m = some (.frz od (.dK (kvM ms))) := upd_same
    obtain ⟨kv2, hfL, hfv⟩ := lock_fts (od := od) hm hfe
    have hlL : (upd H m (.frz od (.dK (kvM ms)))) l = some (.lst (own.map V.str)) := by rw [upd_ne (ne_of hl hm (by intro z; cases z))]; exact hl
    have s0 : SL T (upd H m (.frz od (.dK (kvM ms)))) H2 := SL.tab hF (hT.lock hm) hP hTb
    have fin : ∀ {HX : Hp}, SL T (upd H m (.frz od (.dK (kvM ms)))) HX → HX m = some (.frz od (.dK (kvM ms))) ∧ Q (.bl true) (upd HX m (.dK (kvM ms))) := fun {HX} sX => ⟨sX.k _ _ nt_frz hmL, q _ (SL.unlock hm sX)⟩
    generalize upd H m (.frz od (.dK (kvM ms))) = HL at hmL hfL hfv hlL s0 fin
    refine all_it (walk_keys (d := m) (o := od) (kvs := kvM ms)) (fun i HZ => SL T HL HZ) s0 (fun i HZ _ z => z.k _ _ nt_frz hmL) (fun i x HZ HZ' hi hP' hY => ?_) (fun HZ hP' => fin hP')
    obtain ⟨rfl, kk, v0, hkv, rfl⟩ := hY
    have hval := valV_nd (kvM_nd nd) hkv
    obtain ⟨p, hp, rfl, rfl⟩ := kvM_at hkv
    obtain ⟨g, hg, e1, e2⟩ := hms p hp
    obtain ⟨l2, e3, e4⟩ := hfv g hg
    refine ⟨rfl, tYes_in ⟨_, rfl, _, rfl, l, _, rfl, .inl (.inl (.inl (hP'.k _ _ nt_lst hlL))), rfl, flat_strs _, true, congrArg V.bl (in_strs (hown p hp)), iteT ?_⟩⟩
    refine ⟨_, rfl, _, rfl, m, _, rfl, .inl ⟨kvM ms, .inr p.1, .inr ⟨od, hP'.k _ _ nt_frz hmL⟩, rfl, hval.symm⟩, _, rfl, _, rfl, fe, _, rfl, .inl ⟨kv2, .inr p.1, rd_sl hfL nt_dK hP', rfl, by rw [← e1]; exact e3.symm⟩, l2, _, rfl, .inl (.inl (.inl (hP'.k _ _ nt_lst e4))), rfl, flat_strs _, true, congrArg V.bl (in_strs e2), fun _ => hP', fun z => by cases z⟩
theorem ok_marksD {f c0 pT : Addr} {fd : FuncData} {T : Tb} {k : Nat} (F : FunC K "are_marks" "are_marks" s_are_marks f fd c0) (TB : GxR.TabB base mg c0 pT) (hP : pT ∈ T.ps) (hF : T.F ∉ T.ps) (ma : mg "all" = none) : FnOk P w K mg base CX0 (k + 5) f fd ["marks", "names", "features"] (spMarksD T) := by
  refine F.ok sc_are_marks (fun vs H Q E h => ?_) (fun A outer s H vs Q E hr h => ?_)
  · obtain ⟨m, fe, ms, fs, rfl, _⟩ := h
    rfl
  · obtain ⟨m, fe, ms, fs, rfl, hm, nd, hfe, hms, hT, q⟩ := h
    have hu : ∀ env : Env, (_ : Around).units + 1 < cLine := fun env => hu_of (room_gen hr env)
    refine ⟨_, pss_one (ps_ret (pe_lock (pe_all (own := [("name", 3)]) (g := gName 3) hr (by rfl) ma (by decide +kernel) TB rfl rfl sc_are_marks.nd (pi_keys (pv 0))
        (blkOk_by (own := [("name", 3)]) (N := NMk) (sc := defScope s_are_marks) (by decide +kernel)) rfl (by decide +kernel) rfl
        (fun _ _ _ _ _ _ => pg_name (i := 3) sc_are_marks.nd rfl (Or.inl rfl)) (fun _ _ _ _ _ _ => pts_nil)
        (fun _ _ _ _ _ _ => pe_and (pe_cmp (pc_din (hu _) (pv 3) (pv 1))) (pe_one (pe_cmpR (op_inK (K := K) rfl) (pe_dget (hu _) (pv 0) (pv 3) (fun _ _ => rfl)) (pe_dget (hu _) (pv 2) (pv 3) (fun _ _ => rfl)) (by rfl))))))), ?_⟩
    refine ⟨m, _, hm, trivial, fun od => ⟨_, rfl, m, od, rfl, .inl ⟨kvM ms, upd_same, (hT.lock hm).g _ hP, fun H2 hTb => ?_⟩⟩⟩
    have hmL : (upd H m (.frz od (.dK (kvM ms)))) m = some (.frz od (.dK (kvM ms))) := upd_same
    obtain ⟨kv2, hfL, hfv⟩ := lock_fts (od := od) hm hfe
    have s0 : SL T (upd H m (.frz od (.dK (kvM ms)))) H2 := SL.tab hF (hT.lock hm) hP hTb
    have fin : ∀ {HX : Hp}, SL T (upd H m (.frz od (.dK (kvM ms)))) HX → HX m = some (.frz od (.dK (kvM ms))) ∧ Q (.bl true) (upd HX m (.dK (kvM ms))) := fun {HX} sX => ⟨sX.k _ _ nt_frz hmL, q _ (SL.unlock hm sX)⟩
    generalize upd H m (.frz od (.dK (kvM ms))) = HL at hmL hfL hfv s0 fin
    refine all_it (walk_keys (d := m) (o := od) (kvs := kvM ms)) (fun i HZ => SL T HL HZ) s0 (fun i HZ _ z => z.k _ _ nt_frz hmL) (fun i x HZ HZ' hi hP' hY => ?_) (fun HZ hP' => fin hP')
    obtain ⟨rfl, kk, v0, hkv, rfl⟩ := hY
    have hval := valV_nd (kvM_nd nd) hkv
    obtain ⟨p, hp, rfl, rfl⟩ := kvM_at hkv
    obtain ⟨g, hg, e1, e2⟩ := hms p hp
    obtain ⟨l2, e3, e4⟩ := hfv g hg
    have e5 : some (V.ref l2) = valV kv2 (.inr p.1) := by rw [← e1]; exact e3.symm
    refine ⟨rfl, tYes_in ⟨_, rfl, _, rfl, fe, some (.ref l2), rfl, .inl ⟨kv2, .inr p.1, rd_sl hfL nt_dK hP', rfl, e5⟩, true, rfl, iteT ?_⟩⟩
    refine ⟨_, rfl, _, rfl, m, _, rfl, .inl ⟨kvM ms, .inr p.1, .inr ⟨od, hP'.k _ _ nt_frz hmL⟩, rfl, hval.symm⟩, _, rfl, _, rfl, fe, _, rfl, .inl ⟨kv2, .inr p.1, rd_sl hfL nt_dK hP', rfl, e5⟩, l2, _, rfl, .inl (.inl (.inl (hP'.k _ _ nt_lst e4))), rfl, flat_strs _, true, congrArg V.bl (in_strs e2), fun _ => hP', fun z => by cases z⟩
end
end Bn

namespace Bn
open PySem PySem.Spec PyProof.Rows L2 BR GX RM GY
theorem pt_ifE {X : Cx} {c a b : Expr} {pos : Pos} {tA ta tb : TT} (hc : PT X c tA) (ha : PT X a ta) (hb : PT X b tb) : PT X (.IfExp c a b pos) (fun σ H Q => tA σ H fun k H1 => if k = true then ta σ H1 Q else tb σ H1 Q) := by
  refine ⟨fun pins s σ H Q I h => ?_⟩
  refine PyProof.Rows.isTrue_IfExp (thn (hc.run pins s σ H _ I h) fun d s1 ⟨H1, I1, q1⟩ => ?_)
  cases d with
  | true => exact ha.run pins s1 σ H1 Q I1 q1
  | false => exact hb.run pins s1 σ H1 Q I1 q1
section
variable {P : Program} {w : World} {K : PySem.W.Frag} {mg : Str → Option Value} {base : Heap}
/-! ### is_stem, is_ending -/
def spIsStem (K : PySem.W.Frag) (T : Tb) : Sp := fun vs H Q _ => ∃ (v : V) (fe kd : Addr) (sd : Sd) (fs : List Ft) (ks : List Kd) (N : Addr → Prop) (n : Nat), vs = [v, .ref fe, .ref kd] ∧ Dq K H N n v (sdD sd) ∧ FtsD H fe fs ∧ KdsD K H kd ks ∧ sd.Ok fs ks ∧ TbOk T H ∧ ∀ H', SL T H H' → Q (.bl true) H'
theorem ok_isStem {f fN fR fM : Addr} {fd fdN fdR fdM : FuncData} {T : Tb} {k : Nat} (F : Fun K "is_stem" "is_stem" s_is_stem f fd)
    (kN : PySem.W.keepIn K (.ref fN) = true) (bN : Binds K fdN ["text"] []) (gN : mg "is_name" = some (.ref fN)) (GN : FnOk P w K mg base CX0 (k + 2) fN fdN ["text"] (spIsName T))
    (kR : PySem.W.keepIn K (.ref fR) = true) (bR : Binds K fdR ["number"] []) (gR : mg "is_rank" = some (.ref fR)) (GR : FnOk P w K mg base CX0 (k + 1) fR fdR ["number"] spIsRank)
    (kM : PySem.W.keepIn K (.ref fM) = true) (bM : Binds K fdM ["marks", "names", "features"] []) (gM : mg "are_marks" = some (.ref fM)) (GM : FnOk P w K mg base CX0 (k + 5) fM fdM ["marks", "names", "features"] (spMarksL T)) :
    FnOk P w K mg base CX0 (k + 6) f fd ["stem", "features", "kinds"] (spIsStem K T) := by
  refine F.ok sc_is_stem (fun vs H Q E h => ?_) (fun cdv A outer s H vs Q E hr h => ?_)
  · obtain ⟨v, fe, kd, sd, fs, ks, N, n, rfl, _⟩ := h
    rfl
  · obtain ⟨v, fe, kd, sd, fs, ks, N, n, rfl, hD, hfe, hkd, hs, hT, q⟩ := h
    obtain ⟨a, m, rfl, ha, hm, _, _, nd⟩ := sd_inv hD
    have hu := hu_of hr
    refine ⟨_, pss_cons (ps_asg (pv 0) (pg_tup rfl (pgs_cons (pg_name (i := 3) sc_is_stem.nd rfl (.inl rfl)) (pgs_cons (pg_name (i := 4) sc_is_stem.nd rfl (.inl rfl)) (pgs_cons (pg_name (i := 5) sc_is_stem.nd rfl (.inl rfl)) (pgs_cons (pg_name (i := 6) sc_is_stem.nd rfl (.inl rfl)) (pgs_cons (pg_name (i := 7) sc_is_stem.nd rfl (.inl rfl)) (pgs_cons (pg_name (i := 8) sc_is_stem.nd rfl (.inl rfl)) pgs_nil))))))))
      (pss_cons (ps_if (PW.pt (pw_or (pt_not (pt_val (pe_call GN (hr.mono (by omega)) (by rfl) gN kN bN .nil pass0 (pa_cons (pv 3) pa_nil)))) (pw_or (pt_cmp (pc_dnotin hu (pv 4) (pv 2))) (pw_or (pt_not (pt_val (pe_call GN (hr.mono (by omega)) (by rfl) gN kN bN .nil pass0 (pa_cons (pv 5) pa_nil)))) (pw_or1 (pt_not (pt_val (pe_call GR (hr.mono (by omega)) (by rfl) gR kR bR .nil pass0 (pa_cons (pv 8) pa_nil))))))))) (pss_one (ps_ret pe_bl)) pss_nil)
      (pss_cons (ps_asg (pe_dget hu (pv 2) (pv 4) (fun _ _ => rfl)) (pg_tup rfl (pgs_cons (pg_name (i := 9) sc_is_stem.nd rfl (.inl rfl)) (pgs_cons (pg_name (i := 10) sc_is_stem.nd rfl (.inl rfl)) (pgs_cons (pg_name (i := 11) sc_is_stem.nd rfl (.inl rfl)) (pgs_cons (pg_name (i := 12) sc_is_stem.nd rfl (.inl rfl)) pgs_nil))))))
      (pss_cons (ps_if (pt_not (pt_ifE (pt_val (pv 12)) (pt_cmpR op_eq (pv 6) pe_str (nomark _)) (pt_val (pe_call GN (hr.mono (by omega)) (by rfl) gN kN bN .nil pass0 (pa_cons (pv 6) pa_nil))))) (pss_one (ps_ret pe_bl)) pss_nil)
      (pss_one (ps_ret (pe_call GM hr (by rfl) gM kM bM .nil pass0 (pa_cons (pv 7) (pa_cons (pv 10) (pa_cons (pv 1) pa_nil))))))))), ?_⟩
    refine ⟨_, rfl, a, _, rfl, ha, rfl, _, _, rfl, _, _, rfl, _, _, rfl, _, _, rfl, _, _, rfl, _, _, rfl, rfl, ?_⟩
    refine ⟨_, rfl, sd.x, rfl, hs.x, hT, fun H1 s1 => ⟨true, rfl, iteF ?_⟩⟩
    obtain ⟨kk, hkk, ek, hat, hks⟩ := hs.k
    obtain ⟨kvs1, h1, h2⟩ := hkd.sl s1
    obtain ⟨a1, l1, h3, h4, h5⟩ := h2 kk hkk
    rw [ek] at h3
    refine ⟨_, rfl, _, rfl, kd, some (.ref a1), rfl, .inl ⟨kvs1, .inr sd.k, .inl h1, rfl, h3.symm⟩, false, rfl, iteF ?_⟩
    refine ⟨_, rfl, sd.l, rfl, hs.l, s1.t, fun H2 s2 => ⟨true, rfl, iteF ?_⟩⟩
    refine ⟨_, rfl, sd.r, rfl, hs.r0, hs.r1, true, rfl, iteF ?_⟩
    have s12 := s1.trans s2
    refine ⟨_, rfl, _, rfl, kd, .ref a1, rfl, .inl ⟨kvs1, .inr sd.k, .inl (s2.k _ _ nt_dK h1), rfl, h3.symm⟩, a1, _, rfl, s2.sqT h4, rfl, _, _, rfl, _, _, rfl, _, _, rfl, _, _, rfl, rfl, ?_⟩
    have fin : ∀ {HX : Hp}, SL T H HX → SL T H2 HX → (spMarksL T) [.ref m, .ref l1, .ref fe] HX Q E0 := fun {HX} sX s2X => ⟨m, l1, fe, sd.ms, kk.fs, fs, rfl, sX.k _ _ nt_dK hm, nd, s2X.k _ _ nt_lst (s2.k _ _ nt_lst h5), hfe.sl sX, hks, hs.ms, sX.t, fun H4 s4 => q _ (sX.trans s4)⟩
    refine ⟨_, rfl, kk.m, rfl, ?_⟩
    cases hmu : kk.m with
    | true =>
      rw [hmu] at hat
      have ea : sd.a = "" := hat
      refine iteT ⟨_, rfl, rfl, true, ?_, iteF ⟨_, rfl, _, rfl, _, rfl, fin s12 (SL.refl s12.t)⟩⟩
      rw [ea]
      rfl
    | false =>
      rw [hmu] at hat
      have ea : Nm sd.a := hat
      exact iteF ⟨_, rfl, sd.a, rfl, ea, s12.t, fun H3 s3 => ⟨true, rfl, iteF ⟨_, rfl, _, rfl, _, rfl, fin (s12.trans s3) s3⟩⟩⟩
def spIsEnding (K : PySem.W.Frag) (T : Tb) : Sp := fun vs H Q _ => ∃ (v : V) (fe : Addr) (en : En) (fs : List Ft) (N : Addr → Prop) (n : Nat), vs = [v, .ref fe] ∧ Dq K H N n v (enD en) ∧ FtsD H fe fs ∧ en.Ok fs ∧ TbOk T H ∧ ∀ H', SL T H H' → Q (.bl true) H'
theorem ok_isEnding {f fN fT fR fM : Addr} {fd fdN fdT fdR fdM : FuncData} {T : Tb} {k : Nat} (F : Fun K "is_ending" "is_ending" s_is_ending f fd)
    (kN : PySem.W.keepIn K (.ref fN) = true) (bN : Binds K fdN ["text"] []) (gN : mg "is_name" = some (.ref fN)) (GN : FnOk P w K mg base CX0 (k + 2) fN fdN ["text"] (spIsName T))
    (kT : PySem.W.keepIn K (.ref fT) = true) (bT : Binds K fdT ["text", "most"] []) (gT : mg "is_text" = some (.ref fT)) (GT : FnOk P w K mg base CX0 (k + 1) fT fdT ["text", "most"] (spIsText T))
    (kR : PySem.W.keepIn K (.ref fR) = true) (bR : Binds K fdR ["number"] []) (gR : mg "is_rank" = some (.ref fR)) (GR : FnOk P w K mg base CX0 (k + 1) fR fdR ["number"] spIsRank)
    (kM : PySem.W.keepIn K (.ref fM) = true) (bM : Binds K fdM ["marks", "names", "features"] []) (gM : mg "are_marks" = some (.ref fM)) (GM : FnOk P w K mg base CX0 (k + 5) fM fdM ["marks", "names", "features"] (spMarksD T)) :
    FnOk P w K mg base CX0 (k + 6) f fd ["ending", "features"] (spIsEnding K T) := by
  refine F.ok sc_is_ending (fun vs H Q E h => ?_) (fun cdv A outer s H vs Q E hr h => ?_)
  · obtain ⟨v, fe, en, fs, N, n, rfl, _⟩ := h
    rfl
  · obtain ⟨v, fe, en, fs, N, n, rfl, hD, hfe, hs, hT, q⟩ := h
    obtain ⟨a, m, rfl, ha, hm, _, _, nd⟩ := en_inv hD
    refine ⟨_, pss_cons (ps_asg (pv 0) (pg_tup rfl (pgs_cons (pg_name (i := 2) sc_is_ending.nd rfl (.inl rfl)) (pgs_cons (pg_name (i := 3) sc_is_ending.nd rfl (.inl rfl)) (pgs_cons (pg_name (i := 4) sc_is_ending.nd rfl (.inl rfl)) (pgs_cons (pg_name (i := 5) sc_is_ending.nd rfl (.inl rfl)) pgs_nil))))))
      (pss_one (ps_ret (pe_and (pe_call GN (hr.mono (by omega)) (by rfl) gN kN bN .nil pass0 (pa_cons (pv 2) pa_nil)) (pe_and (pe_call GT (hr.mono (by omega)) (by rfl) gT kT bT .nil pass0 (pa_cons (pv 3) (pa_cons pe_int pa_nil))) (pe_and (pe_call GR (hr.mono (by omega)) (by rfl) gR kR bR .nil pass0 (pa_cons (pv 5) pa_nil)) (pe_one (pe_call GM hr (by rfl) gM kM bM .nil pass0 (pa_cons (pv 4) (pa_cons (pv 1) (pa_cons (pv 1) pa_nil)))))))))), ?_⟩
    refine ⟨_, rfl, a, _, rfl, ha, rfl, _, _, rfl, _, _, rfl, _, _, rfl, _, _, rfl, rfl, ?_⟩
    refine ⟨_, rfl, en.l, rfl, hs.l, hT, fun H1 s1 => ⟨true, rfl, iteT ⟨_, rfl, en.x, 8, rfl, hs.x, by decide, s1.t, fun H2 s2 => ⟨true, rfl, iteT ⟨_, rfl, en.r, rfl, hs.r0, hs.r1, true, rfl, iteT ⟨_, rfl, _, rfl, _, rfl, ?_⟩⟩⟩⟩⟩⟩
    have s12 := s1.trans s2
    exact ⟨m, fe, en.ms, fs, rfl, s12.k _ _ nt_dK hm, nd, hfe.sl s12, hs.ms, s12.t, fun H4 s4 => q _ (s12.trans s4)⟩
end
end Bn

namespace Bn
open PySem PySem.Spec PyProof.Rows L2 BR GX RM GY
theorem valV_none {kvs : List (Key × V)} {k : Key} (h : k ∉ kvs.map (·.1)) : valV kvs k = none := by
  unfold valV
  rw [Option.map_eq_none_iff, List.find?_eq_none]
  intro p hp z
  exact h (List.mem_map.mpr ⟨p, hp, of_decide_eq_true z⟩)
/-- a list's things are sound by what is called: it tells True of each, and stands there still -/
structure Sound (K : PySem.W.Frag) (T : Tb) (H : Hp) (sp : Sp) (St : Hp → Prop) (xs : List V) (named : Bool) (nms : List Str) : Prop where
  st : ∀ HZ, SL T H HZ → St HZ
  ok : ∀ x ∈ xs, ∀ HZ, SL T H HZ → ∀ Q : VK, (∀ H', SL T HZ H' → Q (.bl true) H') → sp [x] HZ Q E0
  nm : named = true → nms.Nodup ∧ ∀ (i : Nat) (x : V), xs[i]? = some x → ∃ (a : Addr) (y : Str) (r : List V), x = .ref a ∧ nms[i]? = some y ∧ SqT K H a (.str y :: r)
section
variable {P : Program} {w : World} {K : PySem.W.Frag} {mg : Str → Option Value} {base : Heap}
abbrev NFu : List Str := ["things", "most", "is_sound", "is_named", "names", "number", "thing"]
theorem fu_body {T : Tb} {k : Nat} {g f l : Addr} {cd : Value} {A : Around} {outer : List Env} {s : Shared} {H : Hp} {sp : Sp} {St : Hp → Prop} {xs : List V} {most : Nat} {named : Bool} {nms : List Str} {Q : VK}
    (me : mg "enumerate" = none) (C : LX.Cal (cxOf CX0 P w K mg base NFu "first_unsound" (defScope s_first_unsound) g cd A outer s H E0) k f sp St) (hr : Room k (A.deeper (envOfC "first_unsound" (defScope s_first_unsound) s.heap.objs.size g cd)))
    (hl : H l = some (.lst xs)) (few : xs.length ≤ most) (hm : most ≤ 1000) (hS : Sound K T H sp St xs named nms) (hT : TbOk T H) (q : ∀ H', SL T H H' → Q (.int (-1)) H') :
    ∃ t, PSs (cxOf CX0 P w K mg base NFu "first_unsound" (defScope s_first_unsound) g cd A outer s H E0).nox (defBody s_first_unsound) t ∧ t { nx := fun _ H' => Q .non H', rt := Q } (L2.start NFu [.ref l, .int (most : Nat), .ref f, .bl named]) H := by
  have hu := hu_of hr
  refine ⟨_, pss_cons (ps_set (i := 4) sc_first_unsound.nd rfl (.inl rfl) pe_dnewK)
    (pss_cons (ps_for PassesOwn.never rfl (pi_enum (by rfl) me (pa_cons (pv 0) pa_nil)) (pg_tup rfl (pgs_cons (pg_name (i := 5) sc_first_unsound.nd rfl (.inl rfl)) (pgs_cons (pg_name (i := 6) sc_first_unsound.nd rfl (.inl rfl)) pgs_nil)))
      (pss_cons (ps_if (PW.pt (pw_or (pt_cmpR op_ge (pv 5) (pv 1) (nomark _)) (pw_or (pt_not (pt_val (LX.pe_callH (i := 2) C hr rfl (.inl rfl) (pa_cons (pv 6) pa_nil)))) (pw_or1 (PW.pt (pw_and (pt_val (pv 3)) (pw_and1 (pt_cmp (pc_din hu (pe_ix ix_tup (pv 6) pe_int (fun _ _ => rfl)) (pv 4)))))))))) (pss_one (ps_ret (pv 5))) pss_nil)
      (pss_one (ps_if (pt_val (pv 3)) (pss_one (ps_dput hu (pv 4) (pe_ix ix_tup (pv 6) pe_int (fun _ _ => rfl)) pe_bl rfl)) pss_nil))))
    (pss_one (ps_ret (pe_un un_neg pe_int)))), ?_⟩
  intro D nD
  refine ⟨_, rfl, l, xs, rfl, .inl (.inl ((same_new nD) _ _ hl)), ?_⟩
  refine for_it (walk_enum (K := K) (a := l) (xs := xs)) (fun i σ HZ => ∃ y5 y6 : Option V, σ = [some (.ref l), some (.int (most : Nat)), some (.ref f), some (.bl named), some (.ref D), y5, y6] ∧ SL T H HZ ∧ ∃ kvs, HZ D = some (.dK kvs) ∧ kvs.length ≤ i ∧ (named = true → kvs.map (·.1) = (nms.take i).map Sum.inr))
    ⟨_, _, rfl, SL.of hT (same_new nD), [], upd_same, Nat.le_refl _, fun _ => by rw [List.take_zero]; rfl⟩ (fun i σ HZ _ z => by obtain ⟨_, _, _, sZ, _⟩ := z; exact .inl (.inl (sZ.k _ _ nt_lst hl))) (fun i x σ HZ HZ' hi hP' hY => ?_) (fun σ HZ hP' => ?_)
  · obtain ⟨T1, x1, x2, rfl, nT1, rfl, e1, e2⟩ := hY
    cases Option.some.inj e1
    obtain ⟨y5, y6, rfl, sZ, kvs, hD, hkl, hkn⟩ := hP'
    have sT : SL T H (upd HZ T1 (.tup [.int (i : Nat), x2])) := sZ.new nT1
    have hT1 : (upd HZ T1 (.tup [.int (i : Nat), x2])) T1 = some (.tup [.int (i : Nat), x2]) := upd_same
    have hDT : (upd HZ T1 (.tup [.int (i : Nat), x2])) D = some (.dK kvs) := (same_new nT1) _ _ hD
    generalize upd HZ T1 (.tup [.int (i : Nat), x2]) = HT at sT hT1 hDT ⊢
    refine ⟨T1, _, rfl, .inl (.inl hT1), rfl, _, _, rfl, _, _, rfl, rfl, ?_⟩
    refine ⟨_, rfl, _, rfl, _, _, rfl, rfl, _, rfl, ?_⟩
    rw [decide_eq_false (show ¬ ((i : Nat) : Int) ≥ (most : Nat) by have : i < xs.length := hi; omega)]
    refine iteF ⟨rfl, hS.st _ sT, _, rfl, hS.st _ sT, hS.ok x2 (List.mem_of_getElem? e2) _ sT _ fun H2 s2 => ⟨true, rfl, iteF ⟨_, rfl, named, rfl, ?_⟩⟩⟩
    have sT2 := sT.trans s2
    have hD2 := s2.k _ _ nt_dK hDT
    cases hn : named with
    | false => exact iteF (iteF ⟨_, rfl, false, rfl, iteF ⟨_, _, rfl, sT2, kvs, hD2, Nat.le_succ_of_le hkl, fun z => by cases z⟩⟩)
    | true =>
      obtain ⟨ndn, hnm⟩ := hS.nm hn
      obtain ⟨a, y, r, rfl, hy, ha⟩ := hnm i x2 e2
      have hkn' := hkn hn
      have off : (Sum.inr y : Key) ∉ kvs.map (·.1) := by
        rw [hkn']
        intro z
        obtain ⟨y', hy', ey⟩ := List.mem_map.mp z
        cases Sum.inr.inj ey
        obtain ⟨j, hj, ej⟩ := List.mem_take_iff_getElem.mp hy'
        obtain ⟨hi2, e3⟩ := List.getElem?_eq_some_iff.mp hy
        exact List.pairwise_iff_getElem.mp (List.nodup_iff_pairwise_ne.mp ndn) j i (by omega) hi2 (by omega) (by rw [ej, e3])
      have ha2 := sT2.sqT ha
      have hat : atI (V.str y :: r) ((0 : Nat) : Int) = some (V.str y) := atI_nat rfl
      refine iteT ⟨_, rfl, a, _, _, V.str y, rfl, rfl, ha2, hat, _, rfl, D, none, rfl, .inl ⟨kvs, .inr y, .inl hD2, rfl, (valV_none off).symm⟩, false, rfl, iteF ⟨_, rfl, true, rfl, iteT ?_⟩⟩
      refine ⟨_, rfl, _, rfl, a, _, _, V.str y, rfl, rfl, ha2, hat, D, _, rfl, DPut.k (k := Sum.inr y) hD2 (small_line (by have : i < xs.length := hi; omega)), ?_⟩
      have nDH : H D = none := nD
      refine ⟨_, _, rfl, sT2.ownD nDH hD2, _, upd_same, ?_, fun _ => ?_⟩
      · have := length_putK kvs (.inr y) (V.bl true)
        omega
      · rw [putK_new off, List.map_append, hkn', List.take_add_one, hy, List.map_append]
        rfl
  · obtain ⟨y5, y6, rfl, sZ, _⟩ := hP'
    exact ⟨_, rfl, q _ sZ⟩
end
end Bn

namespace Bn
open PySem PySem.Spec PyProof.Rows L2 BR GX RM GY
/-! what is never reached -/
def tNo : TE := fun _ _ _ => False
def gNo : TG := fun _ _ _ _ => False
section
variable {X : Cx} {e : Expr}
theorem pe_no : PE X e tNo := ⟨fun _ _ _ _ _ _ h => h.elim⟩
theorem pg_no : PG X e gNo := ⟨fun _ _ _ _ _ _ _ _ _ h => h.elim⟩
end
/-! a lexicon: a tongue of words alone -/
structure Lx where
  fs : List Ft
  ks : List Kd
  ms : List Sm
  ss : List Sd
  es : List En
def lxD (L : Lx) : PyData := .dict [(.str "features", .list (L.fs.map ftD)), (.str "kinds", .list (L.ks.map kdD)), (.str "seams", .list (L.ms.map smD)), (.str "stems", .list (L.ss.map sdD)), (.str "endings", .list (L.es.map enD)), (.str "rules", .list []), (.str "start", .str "s")]
structure Lx.Ok (L : Lx) : Prop where
  fl : L.fs.length ≤ 6
  kl : L.ks.length ≤ 12
  ml : L.ms.length ≤ 12
  sl : L.ss.length ≤ 40
  el : L.es.length ≤ 40
  fn : (L.fs.map (·.n)).Nodup
  kn : (L.ks.map (·.n)).Nodup
  f : ∀ f ∈ L.fs, f.Ok
  k : ∀ k ∈ L.ks, k.Ok L.fs
  m : ∀ m ∈ L.ms, m.Ok
  s : ∀ s ∈ L.ss, s.Ok L.fs L.ks
  e : ∀ e ∈ L.es, e.Ok L.fs
  st : ∃ k ∈ L.ks, k.n = "s" ∧ k.m = false
abbrev lxK (f k m s e r : Addr) : List (Key × V) := [(.inr "features", .ref f), (.inr "kinds", .ref k), (.inr "seams", .ref m), (.inr "stems", .ref s), (.inr "endings", .ref e), (.inr "rules", .ref r), (.inr "start", .str "s")]
/-- its things in memory -/
structure LxAt (K : PySem.W.Frag) (H : Hp) (L : Lx) (N : Addr → Prop) (n : Nat) (a f k m s e r : Addr) (xf xk xm xs xe : List V) : Prop where
  d : H a = some (.dK (lxK f k m s e r))
  hf : H f = some (.lst xf)
  hk : H k = some (.lst xk)
  hm : H m = some (.lst xm)
  hs : H s = some (.lst xs)
  he : H e = some (.lst xe)
  hr : H r = some (.lst [])
  df : DqAll K H N n xf (L.fs.map ftD)
  dk : DqAll K H N n xk (L.ks.map kdD)
  dm : DqAll K H N n xm (L.ms.map smD)
  ds : DqAll K H N n xs (L.ss.map sdD)
  de : DqAll K H N n xe (L.es.map enD)
section
variable {K : PySem.W.Frag} {H H' : Hp} {T : Tb} {L : Lx} {N : Addr → Prop} {n : Nat} {v : V} {a f k m s e r : Addr} {xf xk xm xs xe : List V}
theorem lst_inv {d : List PyData} (h : Dq K H N (n + 1) v (.list d)) : ∃ l xs, v = .ref l ∧ H l = some (.lst xs) ∧ N l ∧ DqAll K H N n xs d := by
  cases h with
  | lst h1 h2 _ h3 => exact ⟨_, _, rfl, h1, h2, h3⟩
theorem lx_inv (h : Dq K H N (n + 2) v (lxD L)) : ∃ (a f k m s e r : Addr) (xf xk xm xs xe : List V), v = .ref a ∧ N a ∧ LxAt K H L (fun b => N b ∧ b ≠ a) n a f k m s e r xf xk xm xs xe := by
  unfold lxD at h
  cases h with
  | dic h1 h2 _ _ h3 =>
    cases h3 with
    | cons af h3 =>
    cases h3 with
    | cons ak h3 =>
    cases h3 with
    | cons am h3 =>
    cases h3 with
    | cons as h3 =>
    cases h3 with
    | cons ae h3 =>
    cases h3 with
    | cons ar h3 =>
    cases h3 with
    | cons ast h3 =>
    cases h3
    cases ast
    obtain ⟨f, xf, rfl, f1, _, f2⟩ := lst_inv af
    obtain ⟨k, xk, rfl, k1, _, k2⟩ := lst_inv ak
    obtain ⟨m, xm, rfl, m1, _, m2⟩ := lst_inv am
    obtain ⟨s, xs, rfl, s1, _, s2⟩ := lst_inv as
    obtain ⟨e, xe, rfl, e1, _, e2⟩ := lst_inv ae
    obtain ⟨r, xr, rfl, r1, _, r2⟩ := lst_inv ar
    cases r2
    exact ⟨_, f, k, m, s, e, r, xf, xk, xm, xs, xe, rfl, h2, ⟨h1, f1, k1, m1, s1, e1, r1, f2, k2, m2, s2, e2⟩⟩
theorem LxAt.sl (h : LxAt K H L N n a f k m s e r xf xk xm xs xe) (S : SL T H H') : LxAt K H' L N n a f k m s e r xf xk xm xs xe :=
  ⟨S.k _ _ nt_dK h.d, S.k _ _ nt_lst h.hf, S.k _ _ nt_lst h.hk, S.k _ _ nt_lst h.hm, S.k _ _ nt_lst h.hs, S.k _ _ nt_lst h.he, S.k _ _ nt_lst h.hr, h.df.sl S, h.dk.sl S, h.dm.sl S, h.ds.sl S, h.de.sl S⟩
theorem lxK_features : valV (lxK f k m s e r) (.inr "features") = some (.ref f) := rfl
theorem lxK_kinds : valV (lxK f k m s e r) (.inr "kinds") = some (.ref k) := rfl
theorem lxK_seams : valV (lxK f k m s e r) (.inr "seams") = some (.ref m) := rfl
theorem lxK_stems : valV (lxK f k m s e r) (.inr "stems") = some (.ref s) := rfl
theorem lxK_endings : valV (lxK f k m s e r) (.inr "endings") = some (.ref e) := rfl
theorem lxK_rules : valV (lxK f k m s e r) (.inr "rules") = some (.ref r) := rfl
theorem lxK_start : valV (lxK f k m s e r) (.inr "start") = some (.str "s") := rfl
theorem get_of {a : Addr} {kvs : List (Key × V)} {z : Str} {v : V} (h : H a = some (.dK kvs)) (e : valV kvs (.inr z) = some v) : DGet H a (.str z) (some v) := .inl ⟨kvs, .inr z, .inl h, rfl, e.symm⟩
end
end Bn

namespace Bn
open PySem PySem.Spec PyProof.Rows L2 BR GX RM GY
section
variable {P : Program} {w : World} {K : PySem.W.Frag} {mg : Str → Option Value} {base : Heap}
/-! ### first_in_ring: of no rules -/
def spRing0 : Sp := fun vs H Q _ => ∃ (l : Addr), vs = [.ref l] ∧ H l = some (.lst []) ∧ ∀ H', Same H H' → Q (.int (-1)) H'
theorem ok_ring0 {f : Addr} {fd : FuncData} {k : Nat} (F : Fun K "first_in_ring" "first_in_ring" s_first_in_ring f fd) (me : mg "enumerate" = none) : FnOk P w K mg base CX0 (k + 1) f fd ["rules"] spRing0 := by
  refine F.ok sc_first_in_ring (fun vs H Q E h => ?_) (fun cdv A outer s H vs Q E hr h => ?_)
  · obtain ⟨l, rfl, _⟩ := h
    rfl
  · obtain ⟨l, rfl, hl, q⟩ := h
    refine ⟨_, pss_cons (ps_setLc (i := 1) (own := [("rule", 5)]) (g := gName 5) (tt := tYes) rfl sc_first_in_ring.nd rfl rfl (sw_true rfl rfl rfl (by decide +kernel)) (pi_list (pv 0))
        (blkOk_by (own := [("rule", 5)]) (N := ["rules", "steps", "number", "origin", "goal", "rule"]) (sc := defScope s_first_in_ring) (by decide +kernel)) (fun _ _ _ _ _ => pg_name (i := 5) sc_first_in_ring.nd rfl (.inl rfl)) (fun _ _ _ _ _ => pts_nil) (fun _ _ _ _ _ => pe_no))
      (pss_cons (ps_for PassesOwn.never rfl (pi_enum (by rfl) me (pa_cons (pv 1) pa_nil)) pg_no pss_never)
      (pss_one (ps_ret (pe_un un_neg pe_int)))), ?_⟩
    refine ⟨_, rfl, l, rfl, ⟨_, .inl (.inl hl)⟩, fun D nD => ?_⟩
    refine lc_it (walk_list (K := K) (a := l) (xs := [])) (fun i HZ => Same H HZ ∧ HZ D = some (.lst [])) ⟨same_new nD, upd_same⟩ (fun i HZ _ z => .inl (.inl (z.1 _ _ hl))) (fun i x HZ HZ' hi _ _ => absurd hi (Nat.not_lt_zero _)) (fun HZ z => ?_)
    obtain ⟨sZ, hD⟩ := z
    refine ⟨_, rfl, D, [], rfl, .inl (.inl hD), ?_⟩
    exact for_it (walk_enum (K := K) (a := D) (xs := [])) (fun i σ HY => HY = HZ) rfl (fun i σ HY _ e => by subst e; exact .inl (.inl hD)) (fun i x σ HY HY' hi _ _ => absurd hi (Nat.not_lt_zero _)) (fun σ HY e => by subst e; exact ⟨_, rfl, q _ sZ⟩)
end
end Bn

namespace Bn
open PySem PySem.Spec PyProof.Rows L2 BR GX RM GY
/-! ### the lambdas of fault_in -/
theorem SL.lam {T : Tb} {H H1 : Hp} (hT : TbOk T H) (hF : T.F ∉ T.ps) (kp : ∀ b o, b ≠ T.F → H b = some o → H1 b = some o) (t : LamX.TabS H1 T.F T.q) : SL T H H1 := by
  obtain ⟨ps0, e0, _, _⟩ := hT.l
  refine ⟨fun x y n e => ?_, fun x p e => ?_, ⟨fun P hP => ?_, t⟩⟩
  · by_cases c : x = T.F
    · rw [c, e0] at e
      cases e
      exact absurd rfl (n ps0)
    · exact kp x y c e
  · by_cases c : x = T.F
    · obtain ⟨ps, e1, _, _⟩ := t
      exact ⟨ps, by rw [c]; exact e1⟩
    · exact ⟨p, kp x _ c e⟩
  · obtain ⟨ps, h1, h2⟩ := hT.g P hP
    exact ⟨ps, kp P _ (fun z => hF (by rw [← z]; exact hP)) h1, h2⟩
def lkE (i : Nat) : Expr := match (defBody s_fault_in).getD 2 (.Pass ⟨0, 0, 0, 0⟩) with
  | .Assign _ (.List es _) _ => (match es.getD i (.Name "" ⟨0, 0, 0, 0⟩) with
    | .Tuple xs _ _ => xs.getD 3 (.Name "" ⟨0, 0, 0, 0⟩)
    | e => e)
  | _ => .Name "" ⟨0, 0, 0, 0⟩
def lkA (i : Nat) : Arguments := match lkE i with
  | .Lambda params _ _ _ => params
  | _ => defArgs s_fault_in
def lkB (i : Nat) : Expr := match lkE i with
  | .Lambda _ body _ _ => body
  | e => e
def lkS (i : Nat) : Scope := match lkE i with
  | .Lambda _ _ scope _ => scope
  | _ => defScope s_fault_in
def lkF (i : Nat) (q : Str) (cells : List (Str × Addr)) (c : Addr) : LX.LF := ⟨q, lkA i, lkB i, lkS i, cloFrom cells (lkS i).names [], c⟩
/-- the lambda's promise: of the one that it is handed and the captured things -/
def spL1 (sp : Sp) (n : Nat) : List (Option V) → Sp := fun ws vs H Q E => ∃ (v : V) (us : List V), vs = [v] ∧ ws = us.map some ∧ us.length = n ∧ sp (v :: us) H Q E
section
variable {P : Program} {w : World} {K : PySem.W.Frag} {mg : Str → Option Value} {base : Heap} {q : Str} {cells : List (Str × Addr)} {c f : Addr}
theorem ok_lam1 {g : Addr} {gd : FuncData} {sp : Sp} (kg : PySem.W.keepIn K (.ref g) = true) (bg : Binds K gd ["kind", "features"] []) (gg : mg "is_kind" = some (.ref g)) (G : FnOk P w K mg base CX0 19 g gd ["kind", "features"] sp) : LX.LOk P w K mg base 20 f (lkF 1 q cells c) ["features"] (spL1 sp 1) := by
  refine LX.lok_of (N := ["kind", "features"]) (ps := ["kind"]) (NdefX.nscope_by (sc := lkS 1) (by decide +kernel)) (fun pm ctv us hl => match us, hl with | [_], _ => rfl) (fun ws vs H Q h => ?_) (fun A outer s H vs ws Q hr h => ?_)
  · obtain ⟨v, us, rfl, _⟩ := h
    rfl
  · obtain ⟨v, us, rfl, rfl, hl, h⟩ := h
    match us, hl with
    | [u], _ => exact ⟨_, pe_call G hr (by rfl) gg kg bg .nil pass0 (pa_cons (pv 0) (pa_cons (pv 1) pa_nil)), _, rfl, _, rfl, h⟩
theorem ok_lam3 {g : Addr} {gd : FuncData} {sp : Sp} (kg : PySem.W.keepIn K (.ref g) = true) (bg : Binds K gd ["stem", "features", "kinds"] []) (gg : mg "is_stem" = some (.ref g)) (G : FnOk P w K mg base CX0 19 g gd ["stem", "features", "kinds"] sp) : LX.LOk P w K mg base 20 f (lkF 3 q cells c) ["features", "kinds"] (spL1 sp 2) := by
  refine LX.lok_of (N := ["stem", "features", "kinds"]) (ps := ["stem"]) (NdefX.nscope_by (sc := lkS 3) (by decide +kernel)) (fun pm ctv us hl => match us, hl with | [_], _ => rfl) (fun ws vs H Q h => ?_) (fun A outer s H vs ws Q hr h => ?_)
  · obtain ⟨v, us, rfl, _⟩ := h
    rfl
  · obtain ⟨v, us, rfl, rfl, hl, h⟩ := h
    match us, hl with
    | [u, u2], _ => exact ⟨_, pe_call G hr (by rfl) gg kg bg .nil pass0 (pa_cons (pv 0) (pa_cons (pv 1) (pa_cons (pv 2) pa_nil))), _, rfl, _, rfl, _, rfl, h⟩
theorem ok_lam4 {g : Addr} {gd : FuncData} {sp : Sp} (kg : PySem.W.keepIn K (.ref g) = true) (bg : Binds K gd ["ending", "features"] []) (gg : mg "is_ending" = some (.ref g)) (G : FnOk P w K mg base CX0 19 g gd ["ending", "features"] sp) : LX.LOk P w K mg base 20 f (lkF 4 q cells c) ["features"] (spL1 sp 1) := by
  refine LX.lok_of (N := ["ending", "features"]) (ps := ["ending"]) (NdefX.nscope_by (sc := lkS 4) (by decide +kernel)) (fun pm ctv us hl => match us, hl with | [_], _ => rfl) (fun ws vs H Q h => ?_) (fun A outer s H vs ws Q hr h => ?_)
  · obtain ⟨v, us, rfl, _⟩ := h
    rfl
  · obtain ⟨v, us, rfl, rfl, hl, h⟩ := h
    match us, hl with
    | [u], _ => exact ⟨_, pe_call G hr (by rfl) gg kg bg .nil pass0 (pa_cons (pv 0) (pa_cons (pv 1) pa_nil)), _, rfl, _, rfl, h⟩
/-- that of the rules -/
theorem ok_lam5 {g : Addr} {gd : FuncData} {sp : Sp} (kg : PySem.W.keepIn K (.ref g) = true) (bg : Binds K gd ["rule", "features", "kinds"] []) (gg : mg "is_rule" = some (.ref g)) (G : FnOk P w K mg base CX0 19 g gd ["rule", "features", "kinds"] sp) : LX.LOk P w K mg base 20 f (lkF 5 q cells c) ["features", "kinds"] (spL1 sp 2) := by
  refine LX.lok_of (N := ["rule", "features", "kinds"]) (ps := ["rule"]) (NdefX.nscope_by (sc := lkS 5) (by decide +kernel)) (fun pm ctv us hl => match us, hl with | [_], _ => rfl) (fun ws vs H Q h => ?_) (fun A outer s H vs ws Q hr h => ?_)
  · obtain ⟨v, us, rfl, _⟩ := h
    rfl
  · obtain ⟨v, us, rfl, rfl, hl, h⟩ := h
    match us, hl with
    | [u, u2], _ => exact ⟨_, pe_call G hr (by rfl) gg kg bg .nil pass0 (pa_cons (pv 0) (pa_cons (pv 1) (pa_cons (pv 2) pa_nil))), _, rfl, _, rfl, _, rfl, h⟩
end
/-! ### what is called for each list -/
section
variable {K : PySem.W.Frag} {T : Tb} {H H' : Hp} {sp : Sp} {St : Hp → Prop} {xs : List V} {named : Bool} {nms : List Str} {N : Addr → Prop} {n : Nat}
theorem Sound.sl (h : Sound K T H sp St xs named nms) (S : SL T H H') : Sound K T H' sp St xs named nms :=
  ⟨fun HZ s => h.st HZ (S.trans s), fun x hx HZ s => h.ok x hx HZ (S.trans s), fun e => ⟨(h.nm e).1, fun i x hi => let ⟨a, y, r, e1, e2, e3⟩ := (h.nm e).2 i x hi; ⟨a, y, r, e1, e2, S.sqT e3⟩⟩⟩
theorem map_at {α β : Type} {f : α → β} {l : List α} {i : Nat} {b : β} (h : (l.map f)[i]? = some b) : ∃ a, l[i]? = some a ∧ f a = b := by
  rw [List.getElem?_map] at h
  exact Option.map_eq_some_iff.mp h
theorem dq_at {α : Type} {f : α → PyData} {l : List α} {i : Nat} {x : V} (h : DqAll K H N n xs (l.map f)) (hi : xs[i]? = some x) : ∃ a, l[i]? = some a ∧ Dq K H N n x (f a) := by
  obtain ⟨d, e1, e2⟩ := h.at hi
  obtain ⟨a, e3, rfl⟩ := map_at e1
  exact ⟨a, e3, e2⟩
theorem dq_mem {α : Type} {f : α → PyData} {l : List α} {x : V} (h : DqAll K H N n xs (l.map f)) (hx : x ∈ xs) : ∃ a ∈ l, Dq K H N n x (f a) := by
  obtain ⟨i, hi⟩ := List.getElem?_of_mem hx
  obtain ⟨a, e1, e2⟩ := dq_at h hi
  exact ⟨a, List.mem_of_getElem? e1, e2⟩
end
def SPfu (X : Cx) (K : PySem.W.Frag) (T : Tb) : L2.St → List V → Hp → VK → Prop := fun σ vs H Q => ∃ (l : Addr) (most : Nat) (f : Addr) (named : Bool) (sp : Sp) (St : Hp → Prop) (xs : List V) (nms : List Str),
  vs = [.ref l, .int (most : Nat), .ref f, .bl named] ∧ LX.CalX X σ 20 f sp St ∧ H l = some (.lst xs) ∧ xs.length ≤ most ∧ most ≤ 1000 ∧ Sound K T H sp St xs named nms ∧ TbOk T H ∧ ∀ H', SL T H H' → Q (.int (-1)) H'
/-- a row of looks -/
def Row (X : Cx) (K : PySem.W.Frag) (T : Tb) (fe kd : Addr) (H : Hp) (x : V) : Prop := ∃ (t l f : Addr) (wd : Str) (most : Nat) (sp : Sp) (St : Hp → Prop) (xs : List V) (nms : List Str),
  x = .ref t ∧ H t = some (.tup [.str wd, .ref l, .int (most : Nat), .ref f]) ∧ (∀ σ : L2.St, NdefX.slotAt σ 1 = some (.ref fe) → NdefX.slotAt σ 2 = some (.ref kd) → LX.CalX X σ 20 f sp St) ∧ H l = some (.lst xs) ∧ xs.length ≤ most ∧ most ≤ 1000 ∧
  Sound K T H sp St xs (inV (.str wd) [.str "feature", .str "kind", .str "rule"]) nms
theorem Row.sl {X : Cx} {K : PySem.W.Frag} {T : Tb} {fe kd : Addr} {H H' : Hp} {x : V} (h : Row X K T fe kd H x) (S : SL T H H') : Row X K T fe kd H' x := by
  obtain ⟨t, l, f, wd, most, sp, St, xs, nms, rfl, h1, h2, h3, h4, h5, h6⟩ := h
  exact ⟨t, l, f, wd, most, sp, St, xs, nms, rfl, S.k _ _ nt_tup h1, h2, S.k _ _ nt_lst h3, h4, h5, h6.sl S⟩
end Bn

namespace Bn
open PySem PySem.Spec PyProof.Rows L2 BR GX RM GY
/-! ### the dicts by names -/
section
variable {K : PySem.W.Frag} {T : Tb} {H H' : Hp} {D : Addr} {N : Addr → Prop} {n : Nat}
/-- of the first i features, as far as it is made -/
def FeI (H : Hp) (D : Addr) (fs : List Ft) : Prop := ∃ ks, H D = some (.dK ks) ∧ ks.map (·.1) = fs.map (fun f => (Sum.inr f.n : Key)) ∧ ∀ f ∈ fs, ∃ l, valV ks (.inr f.n) = some (.ref l) ∧ H l = some (.lst (f.vs.map V.str))
def KdI (K : PySem.W.Frag) (H : Hp) (D : Addr) (fs : List Kd) : Prop := ∃ ks, H D = some (.dK ks) ∧ ks.map (·.1) = fs.map (fun f => (Sum.inr f.n : Key)) ∧ ∀ k ∈ fs, ∃ a l, valV ks (.inr k.n) = some (.ref a) ∧ SqT K H a [.str k.n, .ref l, .bl k.g, .bl k.m] ∧ H l = some (.lst (k.fs.map V.str))
theorem off_take {α : Type} {nm : α → Str} {l : List α} (nd : (l.map nm).Nodup) {i : Nat} {a : α} (h : l[i]? = some a) : (Sum.inr (nm a) : Key) ∉ (l.take i).map (fun f => (Sum.inr (nm f) : Key)) := by
  intro z
  obtain ⟨b, hb, e⟩ := List.mem_map.mp z
  have e' : nm b = nm a := Sum.inr.inj e
  obtain ⟨j, hj, ej⟩ := List.mem_take_iff_getElem.mp hb
  obtain ⟨hi, ei⟩ := List.getElem?_eq_some_iff.mp h
  have := List.pairwise_iff_getElem.mp (List.nodup_iff_pairwise_ne.mp nd) j i (by rw [List.length_map]; omega) (by rw [List.length_map]; exact hi) (by omega)
  rw [List.getElem_map, List.getElem_map, ej, ei] at this
  exact this e'
theorem take_snoc {α : Type} {l : List α} {i : Nat} {a : α} (h : l[i]? = some a) : l.take (i + 1) = l.take i ++ [a] := by
  rw [List.take_add_one, h]
  rfl
theorem feI_put {fs : List Ft} {f : Ft} {l : Addr} {ks : List (Key × V)} (hD : H D = some (.dK ks)) (e1 : ks.map (·.1) = fs.map (fun f => (Sum.inr f.n : Key))) (e2 : ∀ f ∈ fs, ∃ l, valV ks (.inr f.n) = some (.ref l) ∧ H l = some (.lst (f.vs.map V.str)))
    (off : (Sum.inr f.n : Key) ∉ fs.map (fun f => (Sum.inr f.n : Key))) (hl : H l = some (.lst (f.vs.map V.str))) : FeI (upd H D (.dK (putK ks (.inr f.n) (.ref l)))) D (fs ++ [f]) := by
  have nl : ∀ {l2 : Addr} {ys : List V}, H l2 = some (.lst ys) → (upd H D (.dK (putK ks (.inr f.n) (.ref l)))) l2 = some (.lst ys) := fun e => by
    rw [upd_ne (ne_of e hD (by intro z; cases z))]
    exact e
  refine ⟨_, upd_same, ?_, fun g hg => ?_⟩
  · rw [Bn.putK_new (by rw [e1]; exact off), List.map_append, List.map_append, e1]
    rfl
  · rw [valV_put]
    rcases List.mem_append.mp hg with h | h
    · obtain ⟨l2, e3, e4⟩ := e2 g h
      have ne : ¬ (Sum.inr g.n : Key) = .inr f.n := fun z => off (z ▸ List.mem_map.mpr ⟨g, h, rfl⟩)
      rw [if_neg ne]
      exact ⟨l2, e3, nl e4⟩
    · rw [List.mem_singleton.mp h, if_pos rfl]
      exact ⟨l, rfl, nl hl⟩
theorem kdI_put {fs : List Kd} {f : Kd} {a l : Addr} {ks : List (Key × V)} (hD : H D = some (.dK ks)) (e1 : ks.map (·.1) = fs.map (fun f => (Sum.inr f.n : Key))) (e2 : ∀ k ∈ fs, ∃ a l, valV ks (.inr k.n) = some (.ref a) ∧ SqT K H a [.str k.n, .ref l, .bl k.g, .bl k.m] ∧ H l = some (.lst (k.fs.map V.str)))
    (off : (Sum.inr f.n : Key) ∉ fs.map (fun f => (Sum.inr f.n : Key))) (ha : SqT K H a [.str f.n, .ref l, .bl f.g, .bl f.m]) (hl : H l = some (.lst (f.fs.map V.str))) : KdI K (upd H D (.dK (putK ks (.inr f.n) (.ref a)))) D (fs ++ [f]) := by
  have nl : ∀ {l2 : Addr} {ys : List V}, H l2 = some (.lst ys) → (upd H D (.dK (putK ks (.inr f.n) (.ref a)))) l2 = some (.lst ys) := fun e => by
    rw [upd_ne (ne_of e hD (by intro z; cases z))]
    exact e
  refine ⟨_, upd_same, ?_, fun g hg => ?_⟩
  · rw [Bn.putK_new (by rw [e1]; exact off), List.map_append, List.map_append, e1]
    rfl
  · rw [valV_put]
    rcases List.mem_append.mp hg with h | h
    · obtain ⟨a2, l2, e3, e4, e5⟩ := e2 g h
      have ne : ¬ (Sum.inr g.n : Key) = .inr f.n := fun z => off (z ▸ List.mem_map.mpr ⟨g, h, rfl⟩)
      rw [if_neg ne]
      exact ⟨a2, l2, e3, sqT_updD e4 hD, nl e5⟩
    · rw [List.mem_singleton.mp h, if_pos rfl]
      exact ⟨a, l, rfl, sqT_updD ha hD, nl hl⟩
theorem FeI.fts {fs : List Ft} (h : FeI H D fs) : FtsD H D fs := let ⟨ks, e1, _, e3⟩ := h; ⟨ks, e1, e3⟩
theorem KdI.kds {fs : List Kd} (h : KdI K H D fs) : KdsD K H D fs := let ⟨ks, e1, _, e3⟩ := h; ⟨ks, e1, e3⟩
theorem FeI.nil (h : H D = some (.dK [])) : FeI H D [] := ⟨[], h, rfl, fun f hf => by cases hf⟩
theorem KdI.nil (h : H D = some (.dK [])) : KdI K H D [] := ⟨[], h, rfl, fun f hf => by cases hf⟩
/-- one turn of {feature[0]: feature[1] ..} -/
theorem dcF_turn {H0 HZ : Hp} {xf : List V} {fs : List Ft} {i : Nat} {x : V} (nd : (fs.map (·.n)).Nodup) (sZ : SL T H0 HZ) (nD : H0 D = none) (hI : FeI HZ D (fs.take i)) (hd : DqAll K H0 N n xf (fs.map ftD)) (few : fs.length ≤ 1000) (hx : xf[i]? = some x) :
    ∃ (a l : Addr) (f : Ft) (ks : List (Key × V)), x = .ref a ∧ SqT K HZ a [.str f.n, .ref l, .bl f.t] ∧ HZ D = some (.dK ks) ∧ ks.length < sizeLine ∧ SL T H0 (upd HZ D (.dK (putK ks (.inr f.n) (.ref l)))) ∧ FeI (upd HZ D (.dK (putK ks (.inr f.n) (.ref l)))) D (fs.take (i + 1)) := by
  obtain ⟨f, hf, hv⟩ := dq_at hd hx
  obtain ⟨a, l, rfl, h1, h2, _⟩ := ft_inv (hv.sl sZ)
  obtain ⟨ks, e1, e2, e3⟩ := hI
  have hlen : ks.length = (fs.take i).length := by
    have := congrArg List.length e2
    rw [List.length_map, List.length_map] at this
    exact this
  refine ⟨a, l, f, ks, rfl, h1, e1, small_line ?_, sZ.ownD nD e1, ?_⟩
  · rw [hlen, List.length_take]
    obtain ⟨hi, _⟩ := List.getElem?_eq_some_iff.mp hf
    omega
  · rw [take_snoc hf]
    exact feI_put e1 e2 e3 (off_take nd hf) h2
theorem dcK_turn {H0 HZ : Hp} {xf : List V} {fs : List Kd} {i : Nat} {x : V} (nd : (fs.map (·.n)).Nodup) (sZ : SL T H0 HZ) (nD : H0 D = none) (hI : KdI K HZ D (fs.take i)) (hd : DqAll K H0 N n xf (fs.map kdD)) (few : fs.length ≤ 1000) (hx : xf[i]? = some x) :
    ∃ (a l : Addr) (f : Kd) (ks : List (Key × V)), x = .ref a ∧ SqT K HZ a [.str f.n, .ref l, .bl f.g, .bl f.m] ∧ HZ D = some (.dK ks) ∧ ks.length < sizeLine ∧ SL T H0 (upd HZ D (.dK (putK ks (.inr f.n) (.ref a)))) ∧ KdI K (upd HZ D (.dK (putK ks (.inr f.n) (.ref a)))) D (fs.take (i + 1)) := by
  obtain ⟨f, hf, hv⟩ := dq_at hd hx
  obtain ⟨a, l, rfl, h1, h2, _⟩ := kd_inv (hv.sl sZ)
  obtain ⟨ks, e1, e2, e3⟩ := hI
  have hlen : ks.length = (fs.take i).length := by
    have := congrArg List.length e2
    rw [List.length_map, List.length_map] at this
    exact this
  refine ⟨a, l, f, ks, rfl, h1, e1, small_line ?_, sZ.ownD nD e1, ?_⟩
  · rw [hlen, List.length_take]
    obtain ⟨hi, _⟩ := List.getElem?_eq_some_iff.mp hf
    omega
  · rw [take_snoc hf]
    exact kdI_put e1 e2 e3 (off_take nd hf) h1 h2
end
end Bn

namespace Bn
open PySem PySem.Spec PyProof.Rows L2 BR GX RM GY
/-! ### what a draw keeps -/
section
variable {K : PySem.W.Frag} {H H' : Hp} {b a : Addr} {N : Addr → Prop} {n : Nat} {xs : List V} {ds : List PyData}
theorem Kb.sqT (k : Kb b H H') (hb : Bx H b) (h : SqT K H a xs) : SqT K H' a xs := by
  obtain ⟨x, y, z, e⟩ := hb
  rcases h with (h | ⟨o, h⟩) | h
  · exact .inl (.inl (k.k _ _ (ne_of h e (by intro z; cases z)) h))
  · exact .inl (.inr ⟨o, k.k _ _ (ne_of h e (by intro z; cases z)) h⟩)
  · exact .inr h
theorem DqAll.kb (h : DqAll K H N n xs ds) (hb : Bx H b) (k : Kb b H H') (nb : ¬ N b) : DqAll K H' N n xs ds := h.keep (fun _ _ z => k.sqT hb z) (fun c o nc e => k.k c o (fun z => nb (z ▸ nc)) e) (fun _ _ z _ => z)
theorem DqAll.mono {N' : Addr → Prop} (h : DqAll K H N n xs ds) (s : ∀ a, N a → N' a) : DqAll K H N' n xs ds := h.keep (fun _ _ e => e) (fun _ _ _ e => e) (fun _ _ z _ => s _ z)
/-- a list that is no thing of it is changed -/
theorem DqAll.put {ys : List V} {o : HO} (h : DqAll K H N n xs ds) (e : H a = some (.lst ys)) (na : ¬ N a) : DqAll K (upd H a o) N n xs ds := h.keep (fun _ _ z => sqT_updL z e) (fun c o nc e => by rw [upd_ne (show c ≠ a from fun z => na (z ▸ nc))]; exact e) (fun _ _ z _ => z)
theorem Kb.lst {ys : List V} (k : Kb b H H') (e : H a = some (.lst ys)) (na : a ≠ b) : H' a = some (.lst ys) := k.k _ _ na e
theorem Kb.same (k : Kb b H H') {H2 : Hp} (s : Same H' H2) : Kb b H H2 := ⟨fun a o na e => s _ _ (k.k a o na e), k.x.same s⟩
end
/-! ### names -/
def nmB (x : Str) : Bool := !decide (x = "") && decide (x.length ≤ 8) && x.cps.toList.all fun c => lets26.cps.toList.contains c
theorem nm_of {x : Str} (h : nmB x = true) : Nm x := by
  unfold nmB at h
  rw [Bool.and_eq_true, Bool.and_eq_true, Bool.not_eq_true', decide_eq_false_iff_not, decide_eq_true_eq, List.all_eq_true] at h
  exact ⟨h.1.1, h.1.2, fun c hc => by simpa using h.2 c hc⟩
theorem tx_of {x : Str} {n : Nat} (l : x.length ≤ n) (h : LetS x) : Tx n x := ⟨l, h⟩
/-- of some signs alone -/
def Of (z t : Str) : Prop := ∀ c ∈ TL.tl t, c ∈ TL.tl z
theorem Of.lets {z t : Str} (h : Of z t) (hz : LetS z) : LetS t := fun c hc => hz c (h c hc)
theorem lets_abc : LetS "abc" := by
  unfold LetS
  decide +kernel
theorem lets_abcq : LetS "abcq" := by
  unfold LetS
  decide +kernel
theorem mem_joinL : ∀ (ls : List (List Nat)) (c : Nat), c ∈ TL.joinL [] ls → ∃ l ∈ ls, c ∈ l
  | [], c, h => by cases h
  | [p], c, h => ⟨p, List.mem_singleton.mpr rfl, h⟩
  | p :: q :: r, c, h => by
    have h' : c ∈ p ++ ([] ++ TL.joinL [] (q :: r)) := h
    rw [List.nil_append] at h'
    rcases List.mem_append.mp h' with e | e
    · exact ⟨p, List.mem_cons_self .., e⟩
    · obtain ⟨l, hl, hc⟩ := mem_joinL (q :: r) c e
      exact ⟨l, List.mem_cons_of_mem _ hl, hc⟩
theorem len_joinL : ∀ (ls : List (List Nat)), (∀ l ∈ ls, l.length = 1) → (TL.joinL [] ls).length = ls.length
  | [], _ => rfl
  | [p], H => H p (List.mem_singleton.mpr rfl)
  | p :: q :: r, H => by
    show (p ++ ([] ++ TL.joinL [] (q :: r))).length = (p :: q :: r).length
    rw [List.nil_append, List.length_append, len_joinL (q :: r) fun l hl => H l (List.mem_cons_of_mem _ hl), H p (List.mem_cons_self ..)]
    simp only [List.length_cons]
    omega
theorem tl_join0 (e : Str) (he : TL.tl e = []) (ys : List Str) : TL.tl (Txt.join e ys) = TL.joinL [] (ys.map TL.tl) := by
  rw [TL.join_eq, TL.tl_join, he]
theorem sum_ones : ∀ (ys : List Str), (∀ x ∈ ys, x.length = 1) → (ys.map (·.length)).sum = ys.length
  | [], _ => rfl
  | y :: ys, h => by
    rw [List.map_cons, List.sum_cons, sum_ones ys fun x hx => h x (List.mem_cons_of_mem _ hx), h y (List.mem_cons_self ..), List.length_cons, Nat.add_comm]
theorem Dq.off {K : PySem.W.Frag} {H : Hp} {N : Addr → Prop} {n : Nat} {v : V} {d : PyData} {p : Addr} (h : Dq K H N n v d) (np : H p = none) : Dq K H (fun a => N a ∧ a ≠ p) n v d := h.keep (fun _ _ e => e) (fun _ _ _ e => e) fun a o na e => ⟨na, fun z => by rw [z, np] at e; cases e⟩
end Bn

set_option pp.maxSteps 400
namespace Bn
open PySem PySem.Spec PyProof.Rows L2 BR GX RM GY
/-! ### rules as data -/
abbrev Bd := List (Str × List Str)
structure Pt where
  r : Str
  k : Str
  b : Bd
  o : Bool
structure Ru where
  n : Str
  rk : Int
  k : Str
  b : Bd
  ps : List Pt
  gs : List (List (Int × Str))
  st : Nat
  sr : Nat
  ah : List (Nat × Nat)
def bdD (b : Bd) : PyData := .dict (b.map fun p => (.str p.1, strsD p.2))
def ptD (p : Pt) : PyData := .tuple [.str p.r, .str p.k, bdD p.b, .bool p.o]
def grD (g : List (Int × Str)) : PyData := .list (g.map fun q => .tuple [.int q.1, .str q.2])
def ahD (a : List (Nat × Nat)) : PyData := .list (a.map fun p => .tuple [.int (p.1 : Nat), .int (p.2 : Nat)])
def orD (r : Ru) : PyData := .tuple [.int (r.st : Nat), .int (r.sr : Nat), ahD r.ah]
def ruD (r : Ru) : PyData := .tuple [.str r.n, .int r.rk, .str r.k, bdD r.b, .list (r.ps.map ptD), .list (r.gs.map grD), orD r]
theorem okS_lets {x : Str} (h : LetS x) : okS x := fun c hc => by
  have h2 := h c hc
  have : ∀ d ∈ lets26.cps.toList, d < 1114112 := by decide +kernel
  exact this c h2
theorem Nm.ok {x : Str} (h : Nm x) : okS x := okS_lets h.tx.all
/-- one entry of a bundle -/
def BdR (H : Hp) (kv : Key × V) (p : Str × List Str) : Prop := kv.1 = .inr p.1 ∧ ∃ l, kv.2 = .ref l ∧ H l = some (.lst (p.2.map V.str))
structure BdAt (H : Hp) (m : Addr) (kvs : List (Key × V)) (b : Bd) : Prop where
  d : H m = some (.dK kvs)
  r : Paired (BdR H) kvs b
  nd : (kvs.map (·.1)).Nodup
  few : kvs.length ≤ 1000
theorem pairedA_mono {α β : Type} {R S : α → β → Prop} {l : List α} {m : List β} (h : Paired R l m) (f : ∀ a b, R a b → S a b) : Paired S l m := by
  induction h with
  | nil => exact .nil
  | cons x _ ih => exact .cons (f _ _ x) ih
theorem pairedA_at {α β : Type} {R : α → β → Prop} {l : List α} {m : List β} (h : Paired R l m) : ∀ {i : Nat} {x : α}, l[i]? = some x → ∃ y, m[i]? = some y ∧ R x y := by
  induction h with
  | nil => intro i x e; cases i <;> cases e
  | cons x _ ih =>
    intro i y e
    cases i with
    | zero => cases e; exact ⟨_, rfl, x⟩
    | succ i => exact ih e
theorem BdR.keep {H H' : Hp} {kv : Key × V} {p : Str × List Str} (h : BdR H kv p) (hl : ∀ a xs, H a = some (.lst xs) → H' a = some (.lst xs)) : BdR H' kv p := let ⟨e, l, h1, h2⟩ := h; ⟨e, l, h1, hl _ _ h2⟩
section
variable {K : PySem.W.Frag} {H H' : Hp} {N : Addr → Prop} {n : Nat} {v : V}
theorem bd_inv {b : Bd} (h : Dq K H N (n + 1) v (bdD b)) : ∃ m kvs, v = .ref m ∧ N m ∧ BdAt H m kvs b := by
  unfold bdD at h
  cases h with
  | @dic _ _ a kvs es h1 h2 few nd h3 =>
    refine ⟨a, kvs, rfl, h2, h1, ?_, nd, few⟩
    clear h1 few nd
    have aux : ∀ {N : Addr → Prop} {kvs : List (Key × V)} {b : Bd}, DqKv K H N n kvs (b.map fun p => (PyData.str p.1, strsD p.2)) → Paired (BdR H) kvs b := by
      intro N kvs b
      induction b generalizing kvs with
      | nil => intro h; cases h; exact .nil
      | cons p r ih =>
        intro h
        rw [List.map_cons] at h
        cases h with
        | cons h1 h2 =>
          refine .cons ⟨rfl, ?_⟩ (ih h2)
          cases h1 with
          | lst e1 _ _ e3 =>
            rw [dq_strs e3] at e1
            exact ⟨_, rfl, e1⟩
    exact aux h3
theorem pt_inv {p : Pt} (h : Dq K H N (n + 2) v (ptD p)) : ∃ a m kvs, v = .ref a ∧ SqT K H a [.str p.r, .str p.k, .ref m, .bl p.o] ∧ N m ∧ BdAt H m kvs p.b := by
  unfold ptD at h
  cases h with
  | tup h1 _ h2 =>
    cases h2 with
    | cons a b =>
      cases a
      cases b with
      | cons a b =>
        cases a
        cases b with
        | cons a b =>
          obtain ⟨m, kvs, rfl, h3, h4⟩ := bd_inv a
          cases b with
          | cons a b =>
            cases a
            cases b
            exact ⟨_, m, kvs, rfl, h1, h3, h4⟩
end
theorem rdA_same {H H' : Hp} {a : Addr} {v : HO} (h : Rd H a v) (s : Same H H') : Rd H' a v := by
  rcases h with e | ⟨o, e⟩
  · exact .inl (s _ _ e)
  · exact .inr ⟨o, s _ _ e⟩
theorem inV_dec (x : Str) (xs : List Str) : inV (.str x) (xs.map V.str) = decide (x ∈ xs) := by
  by_cases h : x ∈ xs
  · rw [in_strs h, decide_eq_true h]
  · rw [decide_eq_false h]
    unfold inV
    rw [List.any_eq_false]
    intro v hv e
    obtain ⟨y, hy, rfl⟩ := List.mem_map.mp hv
    have e2 : x = y ∨ y = x := by
      simp only [eqV, decide_eq_true_eq] at e
      first
        | exact .inl e
        | exact .inr e
        | exact .inr (eq_of_beq e)
        | exact .inl (eq_of_beq e)
    rcases e2 with e2 | e2
    · exact h (e2 ▸ hy)
    · exact h (e2 ▸ hy)
/-! ### what is sound -/
def BdOk (fs : List Ft) (own : List Str) (b : Bd) : Prop := ∀ p ∈ b, p.1 ∈ own ∧ p.2 ≠ [] ∧ ∃ f ∈ fs, f.n = p.1 ∧ p.2 = f.vs.filter (fun v => decide (v ∈ p.2)) ∧ f.vs.length ≤ 6 ∧ (∀ v ∈ f.vs, okS v)
structure PtOk (fs : List Ft) (ks : List Kd) (p : Pt) : Prop where
  r : p.r = "-" ∨ Nm p.r
  k : ∃ kd ∈ ks, kd.n = p.k ∧ kd.m = decide (p.r = "-") ∧ BdOk fs kd.fs p.b
  o : p.o = true → p.r ≠ "-" ∧ p.r ≠ "fill"
section
variable {P : Program} {w : World} {K : PySem.W.Frag} {mg : Str → Option Value} {base : Heap}
/-! ### is_bundle -/
abbrev NBd : List Str := ["bundle", "own", "features", "name", "value"]
def spIsBundle : Sp := fun vs H Q _ => ∃ (m l fe : Addr) (kvs : List (Key × V)) (b : Bd) (own : List Str) (fs : List Ft), vs = [.ref m, .ref l, .ref fe] ∧ BdAt H m kvs b ∧ H l = some (.lst (own.map V.str)) ∧ FtsD H fe fs ∧ BdOk fs own b ∧ ∀ H', Same H H' → Q (.bl true) H'
theorem ok_isBundle {f : Addr} {fd : FuncData} {k : Nat} (F : Fun K "is_bundle" "is_bundle" s_is_bundle f fd) : FnOk P w K mg base CX0 (k + 1) f fd ["bundle", "own", "features"] spIsBundle := by
  refine F.ok sc_is_bundle (fun vs H Q E h => ?_) (fun cdv A outer s H vs Q E hr h => ?_)
  · obtain ⟨m, l, fe, kvs, b, own, fs, rfl, _⟩ := h
    rfl
  · obtain ⟨m, l, fe, kvs, b, own, fs, rfl, hb, hl, hfe, hok, q⟩ := h
    have hu := hu_of hr
    refine ⟨_, pss_cons (ps_lock (ps_for PassesOwn.never rfl (pi_keys (pv 0)) (pg_name (i := 3) sc_is_bundle.nd rfl (.inr rfl))
        (pss_cons (ps_if (PW.pt (pw_or (pt_cmpR (op_notInK (K := K) rfl) (pv 3) (pv 1) (by rfl)) (pw_or1 (pt_cmpR (op_eqD hr.units) (pe_dget hu (pv 0) (pv 3) (fun _ _ => rfl)) (pe_lst pa_nil) (nomark _))))) (pss_one (ps_ret pe_bl)) pss_nil)
        (pss_one (ps_if (pt_cmpR (op_neD hr.units) (pe_dget hu (pv 0) (pv 3) (fun _ _ => rfl)) (pe_lc (own := [("value", 4)]) (g := gName 4) rfl sc_is_bundle.nd (pi_list (pe_dget hu (pv 2) (pv 3) (fun _ _ => rfl)))
            (blkOk_by (own := [("value", 4)]) (N := NBd) (sc := defScope s_is_bundle) (by decide +kernel)) (fun _ _ _ _ _ => pg_name (i := 4) sc_is_bundle.nd rfl (.inl rfl))
            (fun _ _ _ _ _ => pts_one (pt_cmpR (op_inK (K := K) rfl) (pv 4) (pe_dget hu (pv 0) (pv 3) (fun _ _ => rfl)) (by rfl))) (fun _ _ _ _ _ => pv 4)) (nomark _)) (pss_one (ps_ret pe_bl)) pss_nil)))))
      (pss_one (ps_ret pe_bl)), ?_⟩
    refine ⟨m, _, hb.d, trivial, fun od => ⟨_, rfl, m, od, rfl, .inl ⟨kvs, upd_same, ?_⟩⟩⟩
    have haL : (upd H m (.frz od (.dK kvs))) m = some (.frz od (.dK kvs)) := upd_same
    obtain ⟨kv2, hfL, hfv⟩ := lock_fts (od := od) hb.d hfe
    have hlist : ∀ a xs, H a = some (.lst xs) → (upd H m (.frz od (.dK kvs))) a = some (.lst xs) := fun a xs e => by rw [upd_ne (ne_of e hb.d (by intro z; cases z))]; exact e
    have hlL := hlist _ _ hl
    have hbL := pairedA_mono hb.r fun kv p (hq : BdR H kv p) => hq.keep hlist
    have unl : ∀ {HX : Hp}, Same (upd H m (.frz od (.dK kvs))) HX → Same H (upd HX m (.dK kvs)) := fun sX => Same.unlock hb.d sX
    generalize upd H m (.frz od (.dK kvs)) = HL at haL hfL hfv hlL hbL unl ⊢
    refine for_it (walk_keys (d := m) (o := od) (kvs := kvs)) (fun i σ HZ => (∃ y3 y4, σ = [some (.ref m), some (.ref l), some (.ref fe), y3, y4]) ∧ Same HL HZ) ⟨⟨_, _, rfl⟩, fun _ _ e => e⟩ (fun i σ HZ _ z => z.2 _ _ haL) (fun i x σ HZ HZ' hi hP' hY => ?_) (fun σ HZ hP' => ?_)
    · obtain ⟨rfl, kk, v0, hkv, rfl⟩ := hY
      obtain ⟨⟨y3, y4, rfl⟩, sZ⟩ := hP'
      obtain ⟨p, hp, e, l1, e1, hl1⟩ := pairedA_at hbL hkv
      dsimp only at e e1
      subst e e1
      obtain ⟨o1, o2, f1, hf1, n1, n2, n6, n3⟩ := hok p (List.mem_of_getElem? hp)
      obtain ⟨l2, g1, g2⟩ := hfv f1 hf1
      have hval := (valV_nd hb.nd hkv).symm
      have okp : ∀ z ∈ p.2, okS z := fun z hz => by
        rw [n2] at hz
        exact n3 z (List.mem_filter.mp hz).1
      have hl1Z := sZ _ _ hl1
      refine ⟨_, rfl, _, rfl, l, _, rfl, .inl (.inl (.inl (sZ _ _ hlL))), rfl, flat_strs _, false, congrArg V.bl (show (if true = true then !inV (.str p.1) (own.map V.str) else inV (.str p.1) (own.map V.str)) = false by rw [in_strs o1]; rfl), iteF ?_⟩
      refine ⟨_, rfl, _, rfl, m, _, rfl, .inl ⟨kvs, .inr p.1, .inr ⟨od, sZ _ _ haL⟩, rfl, hval⟩, Nat.zero_le _, fun e1a ne1 => ?_⟩
      have s1 := same_new (o := .lst []) ne1
      refine ⟨_, _, .lst (.inl (.inl (s1 _ _ hl1Z))) (strs_dp _), .lst (.inl (.inl upd_same)) .nil, strs_list_shaped okp, rfl, _, rfl, ?_⟩
      rw [strs_nil]
      generalize upd HZ' e1a (.lst []) = H1 at s1 ⊢
      have hne : p.2.isEmpty = false := by
        cases h2 : p.2 with
        | nil => exact absurd h2 o2
        | cons _ _ => rfl
      rw [hne]
      have s01 := sZ.trans s1
      refine iteF ⟨_, rfl, _, rfl, m, _, rfl, .inl ⟨kvs, .inr p.1, .inr ⟨od, s01 _ _ haL⟩, rfl, hval⟩, _, rfl, _, rfl, fe, _, rfl, .inl ⟨kv2, .inr p.1, rdA_same hfL s01, rfl, by rw [← n1]; exact g1.symm⟩, l2, rfl, ⟨_, .inl (.inl (s01 _ _ g2))⟩, fun D nD => ?_⟩
      refine lc_it (walk_list (K := K) (a := l2) (xs := f1.vs.map V.str)) (fun i HW => Same H1 HW ∧ HW D = some (.lst (((f1.vs.take i).filter (fun v => decide (v ∈ p.2))).map V.str)) ∧ i ≤ f1.vs.length) ⟨same_new nD, upd_same, Nat.zero_le _⟩ (fun i HW _ z => .inl (.inl (z.1 _ _ (s01 _ _ g2)))) (fun i x HW HW' hi hP' hY => ?_) (fun HW hP' => ?_)
      · obtain ⟨e0, hx⟩ := hY
        subst e0
        obtain ⟨sW, hDW, hil⟩ := hP'
        rw [List.getElem?_map] at hx
        obtain ⟨y, hy, rfl⟩ := Option.map_eq_some_iff.mp hx
        have hlt := (List.getElem?_eq_some_iff.mp hy).1
        have htk : (f1.vs.take (i + 1)).filter (fun v => decide (v ∈ p.2)) = (f1.vs.take i).filter (fun v => decide (v ∈ p.2)) ++ (if y ∈ p.2 then [y] else []) := by
          rw [List.take_succ, hy, List.filter_append]
          by_cases h : y ∈ p.2
          · simp [h]
          · simp [h]
        refine ⟨rfl, _, rfl, _, rfl, _, rfl, m, _, rfl, .inl ⟨kvs, .inr p.1, .inr ⟨od, sW _ _ (s01 _ _ haL)⟩, rfl, hval⟩, l1, _, rfl, .inl (.inl (.inl (sW _ _ (s1 _ _ hl1Z)))), rfl, flat_strs _, decide (y ∈ p.2), congrArg V.bl (show (if false = true then !inV (.str y) (p.2.map V.str) else inV (.str y) (p.2.map V.str)) = decide (y ∈ p.2) by rw [inV_dec]; rfl), ?_⟩
        by_cases h : y ∈ p.2
        · rw [decide_eq_true h]
          refine iteT ⟨_, rfl, _, hDW, ?_, Same.own sW nD, ?_, hlt⟩
          · rw [List.length_map]
            have := List.length_filter_le (fun v => decide (v ∈ p.2)) (f1.vs.take i)
            rw [List.length_take] at this
            exact small_line (by omega)
          · rw [upd_same, htk, if_pos h, List.map_append]
            rfl
        · rw [decide_eq_false h]
          refine iteF ⟨sW, ?_, hlt⟩
          rw [htk, if_neg h, List.append_nil]
          exact hDW
      · obtain ⟨sW, hDW, _⟩ := hP'
        rw [List.length_map, List.take_length, ← n2] at hDW
        refine ⟨_, _, .lst (.inl (.inl (sW _ _ (s1 _ _ hl1Z)))) (strs_dp _), .lst (.inl (.inl hDW)) (strs_dp _), strs_list_shaped okp, strs_list_shaped okp, _, rfl, ?_⟩
        rw [SeqAt.eqv_refl _ (SeqAt.canLay_of_shaped (strs_list_shaped okp))]
        exact iteF ⟨⟨_, _, rfl⟩, s01.trans sW⟩
    · obtain ⟨⟨y3, y4, rfl⟩, sZ⟩ := hP'
      exact ⟨sZ _ _ haL, q _ (unl sZ)⟩
end
end Bn

set_option pp.maxSteps 400
namespace Bn
open PySem PySem.Spec PyProof.Rows L2 BR GX RM GY
theorem BdAt.sl {T : Tb} {H H' : Hp} {m : Addr} {kvs : List (Key × V)} {b : Bd} (h : BdAt H m kvs b) (s : SL T H H') : BdAt H' m kvs b := ⟨s.k _ _ nt_dK h.d, pairedA_mono h.r fun kv p (hq : BdR H kv p) => hq.keep fun _ _ e => s.k _ _ nt_lst e, h.nd, h.few⟩
theorem BdAt.same {H H' : Hp} {m : Addr} {kvs : List (Key × V)} {b : Bd} (h : BdAt H m kvs b) (s : Same H H') : BdAt H' m kvs b := ⟨s _ _ h.d, pairedA_mono h.r fun kv p (hq : BdR H kv p) => hq.keep fun _ _ e => s _ _ e, h.nd, h.few⟩
section
variable {P : Program} {w : World} {K : PySem.W.Frag} {mg : Str → Option Value} {base : Heap}
/-! ### is_part -/
def spIsPart (K : PySem.W.Frag) (T : Tb) : Sp := fun vs H Q _ => ∃ (v : V) (fe kd : Addr) (p : Pt) (fs : List Ft) (ks : List Kd) (N : Addr → Prop) (n : Nat), vs = [v, .ref fe, .ref kd] ∧ Dq K H N (n + 2) v (ptD p) ∧ FtsD H fe fs ∧ KdsD K H kd ks ∧ PtOk fs ks p ∧ TbOk T H ∧ ∀ H', SL T H H' → Q (.bl true) H'
theorem ok_isPart {f fN fB : Addr} {fd fdN fdB : FuncData} {T : Tb} {k : Nat} (F : Fun K "is_part" "is_part" s_is_part f fd)
    (kN : PySem.W.keepIn K (.ref fN) = true) (bN : Binds K fdN ["text"] []) (gN : mg "is_name" = some (.ref fN)) (GN : FnOk P w K mg base CX0 (k + 2) fN fdN ["text"] (spIsName T))
    (kB : PySem.W.keepIn K (.ref fB) = true) (bB : Binds K fdB ["bundle", "own", "features"] []) (gB : mg "is_bundle" = some (.ref fB)) (GB : FnOk P w K mg base CX0 (k + 1) fB fdB ["bundle", "own", "features"] spIsBundle) :
    FnOk P w K mg base CX0 (k + 3) f fd ["part", "features", "kinds"] (spIsPart K T) := by
  refine F.ok sc_is_part (fun vs H Q E h => ?_) (fun cdv A outer s H vs Q E hr h => ?_)
  · obtain ⟨v, fe, kd, p, fs, ks, N, n, rfl, _⟩ := h
    rfl
  · obtain ⟨v, fe, kd, p, fs, ks, N, n, rfl, hD, hfe, hkd, hp, hT, q⟩ := h
    have hu := hu_of hr
    refine ⟨_, pss_cons (ps_asg (pv 0) (pg_tup rfl (pgs_cons (pg_name (i := 3) sc_is_part.nd rfl (.inl rfl)) (pgs_cons (pg_name (i := 4) sc_is_part.nd rfl (.inl rfl)) (pgs_cons (pg_name (i := 5) sc_is_part.nd rfl (.inl rfl)) (pgs_cons (pg_name (i := 6) sc_is_part.nd rfl (.inl rfl)) pgs_nil))))))
      (C8.pss_cut (ps_if (PW.pt (pw_or (pt_not (PW.pt (pw_or (pt_cmpR op_eq (pv 3) pe_str (nomark _)) (pw_or1 (pt_val (pe_call GN (hr.mono (by omega)) (by rfl) gN kN bN .nil pass0 (pa_cons (pv 3) pa_nil))))))) (pw_or1 (pt_cmp (pc_dnotin hu (pv 4) (pv 2)))))) (pss_one (ps_ret pe_bl)) pss_nil)
      (pss_cons (ps_asg (pe_dget hu (pv 2) (pv 4) (fun _ _ => rfl)) (pg_tup rfl (pgs_cons (pg_name (i := 7) sc_is_part.nd rfl (.inl rfl)) (pgs_cons (pg_name (i := 8) sc_is_part.nd rfl (.inl rfl)) (pgs_cons (pg_name (i := 9) sc_is_part.nd rfl (.inl rfl)) (pgs_cons (pg_name (i := 10) sc_is_part.nd rfl (.inl rfl)) pgs_nil))))))
      (C8.pss_cut (ps_if (PW.pt (pw_or (pt_cmpR op_ne (pv 10) (pe_cmpR op_eq (pv 3) pe_str (nomark _)) (nomark _)) (pw_or1 (PW.pt (pw_and (pt_val (pv 6)) (pw_and1 (pt_cmpR (op_inK (K := K) rfl) (pv 3) (pe_tup (pa_cons pe_str (pa_cons pe_str pa_nil))) (by rfl)))))))) (pss_one (ps_ret pe_bl)) pss_nil)
      (pss_one (ps_ret (pe_call GB (hr.mono (by omega)) (by rfl) gB kB bB .nil pass0 (pa_cons (pv 5) (pa_cons (pv 8) (pa_cons (pv 1) pa_nil))))))))), ?_⟩
    obtain ⟨a, m, kvs, rfl, ha, _, hb⟩ := pt_inv hD
    obtain ⟨kk, hkk, ek, em, hbo⟩ := hp.k
    refine ⟨_, rfl, a, _, rfl, ha, rfl, _, _, rfl, _, _, rfl, _, _, rfl, _, _, rfl, rfl, ?_⟩
    refine ⟨fun σ HX => σ = [some (.ref a), some (.ref fe), some (.ref kd), some (.str p.r), some (.str p.k), some (.ref m), some (.bl p.o), none, none, none, none] ∧ SL T H HX, ?_, ?_⟩
    · have dn : ∀ {HX : Hp}, SL T H HX → ∃ kv2 ka l2, HX kd = some (.dK kv2) ∧ valV kv2 (.inr p.k) = some (.ref ka) ∧ SqT K HX ka [.str kk.n, .ref l2, .bl kk.g, .bl kk.m] ∧ HX l2 = some (.lst (kk.fs.map V.str)) := fun s => by
        obtain ⟨kv2, e1, e2⟩ := hkd.sl s
        obtain ⟨ka, l2, e3, e4, e5⟩ := e2 kk hkk
        rw [ek] at e3
        exact ⟨kv2, ka, l2, e1, e3, e4, e5⟩
      refine ⟨_, rfl, rfl, decide (V.str p.r = V.str "-"), rfl, ?_⟩
      by_cases h1 : p.r = "-"
      · rw [decide_eq_true (show V.str p.r = V.str "-" by rw [h1])]
        obtain ⟨kv2, ka, l2, e1, e2, _⟩ := dn (SL.refl hT)
        exact iteT ⟨_, rfl, _, rfl, kd, _, rfl, .inl ⟨kv2, .inr p.k, .inl e1, rfl, e2.symm⟩, _, rfl, iteF ⟨rfl, SL.refl hT⟩⟩
      · rw [decide_eq_false (fun z => h1 (V.str.inj z))]
        have hn : Nm p.r := by
          rcases hp.r with z | z
          · exact absurd z h1
          · exact z
        refine iteF ⟨_, rfl, p.r, rfl, hn, hT, fun H1 s1 => ⟨true, rfl, ?_⟩⟩
        obtain ⟨kv2, ka, l2, e1, e2, _⟩ := dn s1
        exact ⟨_, rfl, _, rfl, kd, _, rfl, .inl ⟨kv2, .inr p.k, .inl e1, rfl, e2.symm⟩, _, rfl, iteF ⟨rfl, s1⟩⟩
    · rintro σ HX ⟨rfl, sX⟩
      obtain ⟨kv2, e1, e2⟩ := hkd.sl sX
      obtain ⟨ka, l2, e3, e4, e5⟩ := e2 kk hkk
      rw [ek] at e3
      refine ⟨_, rfl, _, rfl, kd, _, rfl, .inl ⟨kv2, .inr p.k, .inl e1, rfl, e3.symm⟩, ka, _, rfl, e4, rfl, _, _, rfl, _, _, rfl, _, _, rfl, _, _, rfl, rfl, ?_⟩
      refine ⟨fun σ HY => σ = [some (.ref a), some (.ref fe), some (.ref kd), some (.str p.r), some (.str p.k), some (.ref m), some (.bl p.o), some (.str kk.n), some (.ref l2), some (.bl kk.g), some (.bl kk.m)] ∧ SL T HX HY, ?_, ?_⟩
      · refine ⟨_, rfl, _, rfl, rfl, rfl, _, rfl, ?_⟩
        have e7 : (!decide (V.bl kk.m = V.bl (decide (V.str p.r = V.str "-")))) = false := by
          rw [em]
          by_cases h1 : p.r = "-"
          · rw [decide_eq_true h1, decide_eq_true (show V.str p.r = V.str "-" by rw [h1])]
            rfl
          · rw [decide_eq_false h1, decide_eq_false (show ¬ V.str p.r = V.str "-" from fun z => h1 (V.str.inj z))]
            rfl
        rw [e7]
        refine iteF ⟨_, rfl, p.o, rfl, ?_⟩
        have ho := hp.o
        cases hpo : p.o with
        | false => exact iteF (iteF ⟨rfl, SL.refl sX.t⟩)
        | true =>
          obtain ⟨o1, o2⟩ := ho hpo
          refine iteT ⟨_, rfl, (show 2 ≤ sizeLine by decide), fun t nt => ?_⟩
          have hin : inV (.str p.r) [.str "-", .str "fill"] = false := by
            have := inV_dec p.r ["-", "fill"]
            rw [decide_eq_false (by simp [o1, o2])] at this
            exact this
          exact ⟨t, _, rfl, .inr (.inl (.inl upd_same)), rfl, rfl, false, congrArg V.bl (show (if false = true then !inV (.str p.r) [.str "-", .str "fill"] else inV (.str p.r) [.str "-", .str "fill"]) = false from hin), iteF ⟨rfl, SL.of sX.t (same_new nt)⟩⟩
      · rintro σ HY ⟨rfl, sY⟩
        have sXY := sX.trans sY
        exact ⟨_, rfl, _, rfl, _, rfl, m, l2, fe, kvs, p.b, kk.fs, fs, rfl, hb.sl sXY, sY.k _ _ nt_lst e5, hfe.sl sXY, hbo, fun H' s' => q _ (sXY.same s')⟩
end
end Bn

set_option pp.maxSteps 400
namespace Bn
open PySem PySem.Spec PyProof.Rows L2 BR GX RM GY
/-- what the roles must be -/
abbrev rolesOf (ps : List Pt) : List Str := ps.map fun p => p.r
def RolesOk (ks : List Kd) (ps : List Pt) : Prop := ((rolesOf ps).count ("head" : Str) = 1 ∧ (rolesOf ps).count ("host" : Str) = 0 ∧ (rolesOf ps).count ("fill" : Str) = 0) ∨
  ((rolesOf ps).count ("head" : Str) = 0 ∧ (rolesOf ps).count ("host" : Str) = 1 ∧ (rolesOf ps).count ("fill" : Str) = 1 ∧ (rolesOf ps).count ("-" : Str) + 2 = ps.length ∧ (∀ p ∈ ps, p.r = "host" → p.o = true) ∧ ∀ p ∈ ps, p.r = "fill" → ∃ kd ∈ ks, kd.n = p.k ∧ kd.g = true)
theorem first_at {xs : List Str} {x : Str} (h : x ∈ xs) : ∃ j : Nat, xs[j]? = some x ∧ ∀ m < j, xs[m]? ≠ some x := by
  induction xs with
  | nil => cases h
  | cons y r ih =>
    by_cases e : y = x
    · exact ⟨0, by rw [e]; rfl, fun m hm => absurd hm (Nat.not_lt_zero _)⟩
    · obtain ⟨j, h1, h2⟩ := ih ((List.mem_cons.mp h).resolve_left (fun z => e z.symm))
      refine ⟨j + 1, h1, fun m hm => ?_⟩
      cases m with
      | zero => exact fun z => e (Option.some.inj z)
      | succ m => exact h2 m (by omega)
theorem int3_dp {K : PySem.W.Frag} {H : Hp} {t : Addr} {a b c : Int} (h : H t = some (.tup [.int a, .int b, .int c])) : Dp K H (.ref t) (.tuple [.int a, .int b, .int c]) := .tup (.inl (.inl h)) (.cons (.int _) (.cons (.int _) (.cons (.int _) .nil)))
theorem int3_shaped (a b c : Int) : SeqAt.shaped (.tuple [.int a, .int b, .int c]) = true := rfl
section
variable {P : Program} {w : World} {K : PySem.W.Frag} {mg : Str → Option Value} {base : Heap}
/-! ### have_roles -/
abbrev NHr : List Str := ["parts", "kinds", "roles", "leading", "fill", "part"]
def spHaveRoles (K : PySem.W.Frag) : Sp := fun vs H Q _ => ∃ (l kd : Addr) (xs : List V) (ps : List Pt) (ks : List Kd) (N : Addr → Prop) (n : Nat), vs = [.ref l, .ref kd] ∧ H l = some (.lst xs) ∧ DqAll K H N (n + 2) xs (ps.map ptD) ∧ KdsD K H kd ks ∧ RolesOk ks ps ∧ ps.length ≤ 5 ∧ ∀ H', Same H H' → Q (.bl true) H'
theorem ok_haveRoles {f : Addr} {fd : FuncData} {k : Nat} (F : Fun K "have_roles" "have_roles" s_have_roles f fd) (ml : mg "len" = none) : FnOk P w K mg base CX0 (k + 1) f fd ["parts", "kinds"] (spHaveRoles K) := by
  refine F.ok sc_have_roles (fun vs H Q E h => ?_) (fun cdv A outer s H vs Q E hr h => ?_)
  · obtain ⟨l, kd, xs, ps, ks, N, n, rfl, _⟩ := h
    rfl
  · obtain ⟨l, kd, xs, ps, ks, N, n, rfl, hl, hD, hkd, hro, h5, q⟩ := h
    have hu := hu_of hr
    refine ⟨_, pss_cons (ps_setLc (i := 2) (own := [("part", 5)]) (g := gName 5) (tt := tYes) rfl sc_have_roles.nd rfl rfl (sw_true rfl rfl rfl (by decide +kernel)) (pi_list (pv 0))
          (blkOk_by (own := [("part", 5)]) (N := NHr) (sc := defScope s_have_roles) (by decide +kernel)) (fun _ _ _ _ _ => pg_name (i := 5) sc_have_roles.nd rfl (.inl rfl)) (fun _ _ _ _ _ => pts_nil)
          (fun _ _ _ _ _ => pe_ix (ix_tupK (K := K) rfl) (pv 5) pe_int (fun _ _ => rfl)))
      (pss_cons (ps_set (i := 3) sc_have_roles.nd rfl (.inl rfl) (pe_tup (pa_cons (pe_bm PySem.F.plainAttrs_list PySem.F.slot_list_count PySem.F.type_list_count mt_countS (pv 2) (pa_cons pe_str pa_nil)) (pa_cons (pe_bm PySem.F.plainAttrs_list PySem.F.slot_list_count PySem.F.type_list_count mt_countS (pv 2) (pa_cons pe_str pa_nil)) (pa_cons (pe_bm PySem.F.plainAttrs_list PySem.F.slot_list_count PySem.F.type_list_count mt_countS (pv 2) (pa_cons pe_str pa_nil)) pa_nil)))))
      (pss_cons (ps_if (pt_cmpR (op_eqD hr.units) (pv 3) (pe_tup (pa_cons pe_int (pa_cons pe_int (pa_cons pe_int pa_nil)))) (nomark _)) (pss_one (ps_ret pe_bl)) pss_nil)
      (pss_cons (ps_if (PW.pt (pw_or (pt_cmpR (op_neD hr.units) (pv 3) (pe_tup (pa_cons pe_int (pa_cons pe_int (pa_cons pe_int pa_nil)))) (nomark _)) (pw_or1 (pt_cmpR op_ne (pe_bm PySem.F.plainAttrs_list PySem.F.slot_list_count PySem.F.type_list_count mt_countS (pv 2) (pa_cons pe_str pa_nil)) (pe_op op_sub (pe_callB call_len_seq (by rfl) ml PySem.boot_len (pa_cons (pv 2) pa_nil)) pe_int) (nomark _))))) (pss_one (ps_ret pe_bl)) pss_nil)
      (pss_cons (ps_set (i := 4) sc_have_roles.nd rfl (.inl rfl) (pe_ix ix_list (pv 0) (pe_bm PySem.F.plainAttrs_list PySem.F.slot_list_index PySem.F.type_list_index mt_index (pv 2) (pa_cons pe_str pa_nil)) (fun _ _ => rfl)))
      (pss_one (ps_ret (pe_and (pe_ix ix_tup (pe_ix ix_list (pv 0) (pe_bm PySem.F.plainAttrs_list PySem.F.slot_list_index PySem.F.type_list_index mt_index (pv 2) (pa_cons pe_str pa_nil)) (fun _ _ => rfl)) pe_int (fun _ _ => rfl)) (pe_one (pe_ix ix_tup (pe_dget hu (pv 1) (pe_ix ix_tup (pv 4) pe_int (fun _ _ => rfl)) (fun _ _ => rfl)) pe_int (fun _ _ => rfl)))))))))), ?_⟩
    refine ⟨_, rfl, l, rfl, ⟨_, .inl (.inl hl)⟩, fun D nD => ?_⟩
    have hxl : xs.length = ps.length := by rw [hD.len, List.length_map]
    have szl : 4000 ≤ sizeLine := by decide
    refine lc_it (walk_list (K := K) (a := l) (xs := xs)) (fun i HW => Same H HW ∧ HW D = some (.lst ((rolesOf (ps.take i)).map V.str))) ⟨same_new nD, upd_same⟩ (fun i HW _ z => .inl (.inl (z.1 _ _ hl))) (fun i v HW HW' hi hP' hY => ?_) (fun HW hP' => ?_)
    · obtain ⟨e0, hv⟩ := hY
      subst e0
      obtain ⟨sW, hDW⟩ := hP'
      obtain ⟨p, hp, hdq⟩ := dq_at hD hv
      obtain ⟨a, m, kvs, rfl, ha, _, _⟩ := pt_inv hdq
      have htk : ps.take (i + 1) = ps.take i ++ [p] := by rw [List.take_succ, hp]; rfl
      refine ⟨rfl, tYes_in ⟨_, rfl, a, _, _, V.str p.r, rfl, rfl, sqT_of_same sW ha, rfl, _, hDW, ?_, Same.own sW nD, ?_⟩⟩
      · rw [List.length_map, List.length_map, List.length_take]
        exact small_line (by omega)
      · rw [upd_same, htk, show rolesOf (ps.take i ++ [p]) = rolesOf (ps.take i) ++ [p.r] from List.map_append, List.map_append]
        rfl
    obtain ⟨sW, hDW⟩ := hP'
    rw [hxl, List.take_length] at hDW
    have hlW := sW _ _ hl
    have sqD : SqL K HW D ((rolesOf ps).map V.str) := .inl (.inl hDW)
    refine ⟨_, rfl, .inl ⟨rfl, _, sqD⟩, D, _, "head", rfl, rfl, sqD, _, rfl, .inl ⟨rfl, _, sqD⟩, D, _, "host", rfl, rfl, sqD, _, rfl, .inl ⟨rfl, _, sqD⟩, D, _, "fill", rfl, rfl, sqD, (show 3 ≤ sizeLine by decide), fun t nt => ?_⟩
    rcases hro with ⟨c1, c2, c3⟩ | ⟨c1, c2, c3, c4, c5, c6⟩
    · rw [c1, c2, c3]
      have ht : (upd HW t (.tup [.int (1 : Nat), .int (0 : Nat), .int (0 : Nat)])) t = some (.tup [.int 1, .int 0, .int 0]) := upd_same
      have s1 := same_new (o := .tup [.int (1 : Nat), .int (0 : Nat), .int (0 : Nat)]) nt
      generalize upd HW t (.tup [.int (1 : Nat), .int (0 : Nat), .int (0 : Nat)]) = H1 at ht s1 ⊢
      refine ⟨_, rfl, (show 3 ≤ sizeLine by decide), fun t2 nt2 => ?_⟩
      have s2 := same_new (o := .tup [.int 1, .int 0, .int 0]) nt2
      refine ⟨_, _, int3_dp (s2 _ _ ht), int3_dp upd_same, int3_shaped _ _ _, int3_shaped _ _ _, _, rfl, ?_⟩
      exact iteT (q _ ((sW.trans s1).trans s2))
    · rw [c1, c2, c3]
      have ht : (upd HW t (.tup [.int (0 : Nat), .int (1 : Nat), .int (1 : Nat)])) t = some (.tup [.int 0, .int 1, .int 1]) := upd_same
      have s1 := same_new (o := .tup [.int (0 : Nat), .int (1 : Nat), .int (1 : Nat)]) nt
      generalize upd HW t (.tup [.int (0 : Nat), .int (1 : Nat), .int (1 : Nat)]) = H1 at ht s1 ⊢
      refine ⟨_, rfl, (show 3 ≤ sizeLine by decide), fun t2 nt2 => ?_⟩
      have s2 := same_new (o := .tup [.int 1, .int 0, .int 0]) nt2
      refine ⟨_, _, int3_dp (s2 _ _ ht), int3_dp upd_same, int3_shaped _ _ _, int3_shaped _ _ _, _, rfl, iteF ?_⟩
      generalize upd H1 t2 (.tup [.int 1, .int 0, .int 0]) = H2 at s2 ⊢
      refine ⟨_, rfl, (show 3 ≤ sizeLine by decide), fun t3 nt3 => ?_⟩
      have s3 := same_new (o := .tup [.int 0, .int 1, .int 1]) nt3
      refine ⟨_, _, int3_dp (s3 _ _ (s2 _ _ ht)), int3_dp upd_same, int3_shaped _ _ _, int3_shaped _ _ _, _, rfl, iteF ?_⟩
      generalize upd H2 t3 (.tup [.int 0, .int 1, .int 1]) = H3 at s3 ⊢
      have sW3 := (s1.trans s2).trans s3
      have hD3 := sW3 _ _ hDW
      have sq3 : SqL K H3 D ((rolesOf ps).map V.str) := .inl (.inl hD3)
      refine ⟨_, rfl, .inl ⟨rfl, _, sq3⟩, D, _, "-", rfl, rfl, sq3, _, rfl, D, _, rfl, .inl sq3, _, _, rfl, rfl, rfl, _, rfl, ?_⟩
      rw [List.length_map, List.length_map]
      have e4 : (!decide (V.int (((rolesOf ps).count ("-" : Str) : Nat) : Int) = (fun i j => V.int (i - j)) ((ps.length : Nat) : Int) 2)) = false := by
        have : (((rolesOf ps).count ("-" : Str) : Nat) : Int) = ((ps.length : Nat) : Int) - 2 := by omega
        rw [decide_eq_true (show V.int (((rolesOf ps).count ("-" : Str) : Nat) : Int) = (fun i j => V.int (i - j)) ((ps.length : Nat) : Int) 2 from congrArg V.int this)]
        rfl
      rw [e4]
      refine iteF ?_
      have sH3 := sW.trans sW3
      have getr : ∀ {j : Nat} {z : Str}, (rolesOf ps)[j]? = some z → ∃ p a m kvs, ps[j]? = some p ∧ p.r = z ∧ xs[j]? = some (.ref a) ∧ SqT K H3 a [.str p.r, .str p.k, .ref m, .bl p.o] ∧ (∃ b, BdAt H m kvs b) := fun {j z} e => by
        rw [List.getElem?_map] at e
        obtain ⟨p, hp, e2⟩ := Option.map_eq_some_iff.mp e
        have hj := (List.getElem?_eq_some_iff.mp hp).1
        have hxj : xs[j]? = some (xs[j]'(by omega)) := List.getElem?_eq_getElem _
        obtain ⟨p', hp', hdq⟩ := dq_at hD hxj
        rw [hp] at hp'
        cases hp'
        obtain ⟨a, m, kvs, ea, ha, _, hb⟩ := pt_inv hdq
        rw [ea] at hxj
        exact ⟨p, a, m, kvs, hp, e2, hxj, sqT_of_same sH3 ha, p.b, hb⟩
      have inr : ∀ {z : Str}, (rolesOf ps).count z = 1 → ∃ j, (rolesOf ps)[j]? = some z ∧ ∀ m < j, (rolesOf ps)[m]? ≠ some z := fun {z} e => first_at (List.count_pos_iff.mp (by omega))
      obtain ⟨jf, f1, f2⟩ := inr c3
      obtain ⟨jh, g1, g2⟩ := inr c2
      obtain ⟨pf, af, mf, kf, p1, p2, p3, p4, _⟩ := getr f1
      obtain ⟨ph, ah, mh, kh, q1, q2, q3, q4, _⟩ := getr g1
      have hl3 := sW3 _ _ hlW
      have eqs : ∀ z : Str, eqV (.str z) (.str z) = true := fun z => by simp [eqV]
      have nes : ∀ {j : Nat} {z : Str}, (∀ m < j, (rolesOf ps)[m]? ≠ some z) → ∀ (m : Nat) (z' : V), m < j → ((rolesOf ps).map V.str)[m]? = some z' → eqV z' (.str z) = false := fun {j z} h m z' hm e => by
        rw [List.getElem?_map] at e
        obtain ⟨y, hy, rfl⟩ := Option.map_eq_some_iff.mp e
        have ne : ¬ y = z := fun e2 => h m hm (e2 ▸ hy)
        simp [eqV, ne]
      have mapat : ∀ {j : Nat} {z : Str}, (rolesOf ps)[j]? = some z → ((rolesOf ps).map V.str)[j]? = some (.str z) := fun e => by rw [List.getElem?_map, e]; rfl
      refine ⟨_, rfl, _, rfl, .inl ⟨rfl, _, sq3⟩, D, _, .str "fill", jf, .str "fill", rfl, rfl, sq3, rfl, flat_strs _, mapat f1, eqs _, nes f2, l, xs, _, .ref af, rfl, rfl, .inl (.inl hl3), atI_nat p3, ?_⟩
      obtain ⟨kk, hkk, ekk, gk⟩ := c6 pf (List.mem_of_getElem? p1) p2
      obtain ⟨kv2, e1, e2⟩ := hkd
      obtain ⟨ka, l2, e3, e4, _⟩ := e2 kk hkk
      rw [ekk] at e3
      have ho := c5 ph (List.mem_of_getElem? q1) q2
      refine ⟨_, rfl, _, rfl, .inl ⟨rfl, _, sq3⟩, D, _, .str "host", jh, .str "host", rfl, rfl, sq3, rfl, flat_strs _, mapat g1, eqs _, nes g2, l, xs, _, .ref ah, rfl, rfl, .inl (.inl hl3), atI_nat q3, ah, _, _, V.bl ph.o, rfl, rfl, q4, rfl, ph.o, rfl, ?_⟩
      rw [ho]
      refine iteT ⟨_, rfl, _, rfl, af, _, _, V.str pf.k, rfl, rfl, p4, rfl, kd, _, rfl, .inl ⟨kv2, .inr pf.k, .inl (sH3 _ _ e1), rfl, e3.symm⟩, ka, _, _, V.bl kk.g, rfl, rfl, sqT_of_same sH3 e4, rfl, ?_⟩
      rw [gk]
      exact q _ sH3
end
end Bn

set_option pp.maxSteps 400
namespace Bn
open PySem PySem.Spec PyProof.Rows L2 BR GX RM GY
/-! ### an order, as it stands -/
abbrev PaV (q : Nat × Nat) : List V := [.int (q.1 : Nat), .int (q.2 : Nat)]
/-- pairs of parts -/
def PasT (K : PySem.W.Frag) (H : Hp) (as : List V) (A : List (Nat × Nat)) : Prop := Paired (fun v q => ∃ a, v = .ref a ∧ SqT K H a (PaV q)) as A
structure OrAt (K : PySem.W.Frag) (H : Hp) (o al : Addr) (as : List V) (st sr : Nat) (A : List (Nat × Nat)) : Prop where
  o : SqT K H o [.int (st : Nat), .int (sr : Nat), .ref al]
  al : H al = some (.lst as)
  as : PasT K H as A
structure OrOk (m st sr : Nat) (A : List (Nat × Nat)) : Prop where
  st : st ≤ 4
  sr : sr ≤ 99
  ah : ∀ q ∈ A, q.1 ≠ q.2 ∧ q.1 < m ∧ q.2 < m
section
variable {K : PySem.W.Frag} {H H' : Hp} {N : Addr → Prop} {n : Nat} {v : V} {T : Tb}
theorem PasT.sl {as : List V} {A : List (Nat × Nat)} (h : PasT K H as A) (s : SL T H H') : PasT K H' as A := pairedA_mono h fun _ _ ⟨a, e, z⟩ => ⟨a, e, s.sqT z⟩
theorem PasT.same {as : List V} {A : List (Nat × Nat)} (h : PasT K H as A) (s : Same H H') : PasT K H' as A := pairedA_mono h fun _ _ ⟨a, e, z⟩ => ⟨a, e, sqT_of_same s z⟩
theorem OrAt.sl {o al : Addr} {as : List V} {st sr : Nat} {A : List (Nat × Nat)} (h : OrAt K H o al as st sr A) (s : SL T H H') : OrAt K H' o al as st sr A := ⟨s.sqT h.o, s.k _ _ nt_lst h.al, h.as.sl s⟩
theorem OrAt.same {o al : Addr} {as : List V} {st sr : Nat} {A : List (Nat × Nat)} (h : OrAt K H o al as st sr A) (s : Same H H') : OrAt K H' o al as st sr A := ⟨sqT_of_same s h.o, s _ _ h.al, h.as.same s⟩
theorem pas_inv {A : List (Nat × Nat)} : ∀ {as : List V}, DqAll K H N (n + 1) as (A.map fun p => .tuple [.int (p.1 : Nat), .int (p.2 : Nat)]) → PasT K H as A := by
  induction A with
  | nil => intro as h; cases h; exact .nil
  | cons p r ih =>
    intro as h
    rw [List.map_cons] at h
    cases h with
    | cons a b =>
      refine .cons ?_ (ih b)
      cases a with
      | tup h1 _ h2 =>
        cases h2 with
        | cons a b =>
          cases a
          cases b with
          | cons a b =>
            cases a
            cases b
            exact ⟨_, rfl, h1⟩
theorem or_inv {r : Ru} (h : Dq K H N (n + 3) v (orD r)) : ∃ o al as, v = .ref o ∧ OrAt K H o al as r.st r.sr r.ah ∧ N al := by
  unfold orD ahD at h
  cases h with
  | tup h1 _ h2 =>
    cases h2 with
    | cons a b =>
      cases a
      cases b with
      | cons a b =>
        cases a
        cases b with
        | cons a b =>
          cases a with
          | lst e1 e2 _ e3 =>
            cases b
            exact ⟨_, _, _, rfl, ⟨h1, e1, pas_inv e3⟩, e2⟩
end
section
variable {P : Program} {w : World} {K : PySem.W.Frag} {mg : Str → Option Value} {base : Heap}
/-! ### is_order -/
abbrev NOr : List Str := ["order", "many", "stray", "stir", "ahead", "one", "other"]
def spIsOrder (K : PySem.W.Frag) (T : Tb) : Sp := fun vs H Q _ => ∃ (o al : Addr) (as : List V) (m st sr : Nat) (A : List (Nat × Nat)), vs = [.ref o, .int (m : Nat)] ∧ OrAt K H o al as st sr A ∧ OrOk m st sr A ∧ TbOk T H ∧ ∀ H', SL T H H' → Q (.bl true) H'
theorem ok_isOrder {f c0 pT : Addr} {fd : FuncData} {T : Tb} {k : Nat} {t t' : Tok} (F : FunC K "is_order" "is_order" s_is_order f fd c0) (TB : GxR.TabB base mg c0 pT) (hP : pT ∈ T.ps) (hF : T.F ∉ T.ps) (ma : mg "all" = none) (m4 : mg "MOST_STRAY" = some (.int 4 t)) (m9 : mg "MOST_STIR" = some (.int 99 t')) :
    FnOk P w K mg base CX0 (k + 5) f fd ["order", "many"] (spIsOrder K T) := by
  refine F.ok sc_is_order (fun vs H Q E h => ?_) (fun A outer s H vs Q E hr h => ?_)
  · obtain ⟨o, al, as, m, st, sr, A, rfl, _⟩ := h
    rfl
  · obtain ⟨o, al, as, m, st, sr, A', rfl, hO, hok, hT, q⟩ := h
    refine ⟨_, pss_cons (ps_asg (pv 0) (pg_tup rfl (pgs_cons (pg_name (i := 2) sc_is_order.nd rfl (.inl rfl)) (pgs_cons (pg_name (i := 3) sc_is_order.nd rfl (.inl rfl)) (pgs_cons (pg_name (i := 4) sc_is_order.nd rfl (.inl rfl)) pgs_nil)))))
      (pss_cons (ps_if (PW.pt (pw_or (pt_not (pt_chain op_le op_le pe_int (pv 2) (pe_glob (v := .int 4) (by rfl) m4 ⟨_, rfl⟩))) (pw_or1 (pt_not (pt_chain op_le op_le pe_int (pv 3) (pe_glob (v := .int 99) (by rfl) m9 ⟨_, rfl⟩)))))) (pss_one (ps_ret pe_bl)) pss_nil)
      (pss_one (ps_ret (pe_all (own := [("one", 5), ("other", 6)]) hr (by rfl) ma (by decide +kernel) TB rfl rfl sc_is_order.nd (pi_list (pv 4))
        (blkOk_by (own := [("one", 5), ("other", 6)]) (N := NOr) (sc := defScope s_is_order) (by decide +kernel)) rfl (by decide +kernel) rfl
        (fun _ _ _ _ _ _ => pg_tupK (K := K) (n := 2) rfl (pg_tup (n := 2) rfl (pgs_cons (pg_name (i := 5) sc_is_order.nd rfl (Or.inl rfl)) (pgs_cons (pg_name (i := 6) sc_is_order.nd rfl (Or.inl rfl)) pgs_nil)))) (fun _ _ _ _ _ _ => pts_nil)
        (fun _ _ _ _ _ _ => pe_and (pe_cmpR op_ne (pv 5) (pv 6) (nomark _)) (pe_and (pe_chain op_le op_lt pe_int (pv 5) (pv 1)) (pe_one (pe_chain op_le op_lt pe_int (pv 6) (pv 1))))))))), ?_⟩
    refine ⟨_, rfl, o, _, rfl, hO.o, rfl, _, _, rfl, _, _, rfl, _, _, rfl, rfl, ?_⟩
    refine ⟨_, rfl, _, _, rfl, rfl, _, rfl, ?_⟩
    rw [decide_eq_true (show (0 : Int) ≤ (st : Nat) by omega)]
    refine iteT ⟨_, _, rfl, rfl, _, rfl, ?_⟩
    rw [decide_eq_true (show ((st : Nat) : Int) ≤ 4 by have := hok.st; omega)]
    refine iteF ⟨_, rfl, _, _, rfl, rfl, _, rfl, ?_⟩
    rw [decide_eq_true (show (0 : Int) ≤ (sr : Nat) by omega)]
    refine iteT ⟨_, _, rfl, rfl, _, rfl, ?_⟩
    rw [decide_eq_true (show ((sr : Nat) : Int) ≤ 99 by have := hok.sr; omega)]
    refine iteF ⟨_, rfl, al, rfl, ⟨_, .inl (.inl hO.al)⟩, hT.g _ hP, fun H2 hTb => ?_⟩
    refine all_it (walk_list (K := K) (a := al) (xs := as)) (fun i HZ => SL T H HZ) (SL.tab hF hT hP hTb) (fun i HZ _ z => .inl (.inl (z.k _ _ nt_lst hO.al))) (fun i x HZ HZ' hi hP' hY => ?_) (fun HZ hP' => q _ hP')
    obtain ⟨rfl, hx⟩ := hY
    obtain ⟨p, hp, a, rfl, ha⟩ := pairedA_at (hO.as.sl hP') hx
    obtain ⟨n1, n2, n3⟩ := hok.ah p (List.mem_of_getElem? hp)
    refine ⟨a, _, rfl, ha, rfl, _, _, rfl, _, _, rfl, rfl, rfl, tYes_in ?_⟩
    have e1 : (!decide (V.int ((p.1 : Nat) : Int) = V.int ((p.2 : Nat) : Int))) = true := by
      rw [decide_eq_false (fun z => n1 (by have := V.int.inj z; omega))]
      rfl
    refine ⟨_, rfl, _, rfl, ?_⟩
    show rNe (V.int ((p.1 : Nat) : Int)) (V.int ((p.2 : Nat) : Int)) _ _
    refine ⟨rfl, ?_⟩
    rw [e1]
    refine ⟨true, rfl, iteT ?_⟩
    refine ⟨_, rfl, _, _, rfl, rfl, _, rfl, ?_⟩
    rw [decide_eq_true (show (0 : Int) ≤ (p.1 : Nat) by omega)]
    refine iteT ⟨_, rfl, _, _, rfl, rfl, _, rfl, ?_⟩
    rw [decide_eq_true (show ((p.1 : Nat) : Int) < (m : Nat) by omega)]
    refine iteT ⟨_, rfl, _, _, rfl, rfl, _, rfl, ?_⟩
    rw [decide_eq_true (show (0 : Int) ≤ (p.2 : Nat) by omega)]
    refine iteT ⟨_, rfl, _, _, rfl, rfl, _, rfl, ?_⟩
    rw [decide_eq_true (show ((p.2 : Nat) : Int) < (m : Nat) by omega)]
    exact ⟨fun _ => hP', fun z => by cases z⟩
end
end Bn

/-! orders: the mathematics -/
namespace Bn
open PySem PySem.Spec PyProof.Rows L2 BR GX RM GY
theorem paired_mono {α β : Type} {R S : α → β → Prop} {l : List α} {m : List β} (h : Paired R l m) (f : ∀ a b, R a b → S a b) : Paired S l m := by
  induction h with
  | nil => exact .nil
  | cons x _ ih => exact .cons (f _ _ x) ih
theorem paired_snoc {α β : Type} {R : α → β → Prop} {l : List α} {m : List β} {a : α} {b : β} (h : Paired R l m) (x : R a b) : Paired R (l ++ [a]) (m ++ [b]) := by
  induction h with
  | nil => exact .cons x .nil
  | cons y _ ih => exact .cons y ih
theorem paired_mono2 {α β : Type} {R S : α → β → Prop} {l : List α} {m : List β} (h : Paired R l m) : (∀ {b : β} (a : α), a ∈ l → R a b → S a b) → Paired S l m := by
  induction h with
  | nil => exact fun _ => .nil
  | cons x _ ih => exact fun f => .cons (f _ (List.mem_cons_self ..) x) (ih fun a ha r => f a (List.mem_cons_of_mem _ ha) r)
theorem paired_app {α β : Type} {R : α → β → Prop} {l l' : List α} {m m' : List β} (h : Paired R l m) (h' : Paired R l' m') : Paired R (l ++ l') (m ++ m') := by
  induction h with
  | nil => exact h'
  | cons x _ ih => exact .cons x ih
theorem paired_at {α β : Type} {R : α → β → Prop} {l : List α} {m : List β} (h : Paired R l m) : ∀ {i : Nat} {x : α}, l[i]? = some x → ∃ y, m[i]? = some y ∧ R x y := by
  induction h with
  | nil => intro i x e; simp at e
  | cons r _ ih =>
    intro i x e
    cases i with
    | zero =>
      cases Option.some.inj e
      exact ⟨_, rfl, r⟩
    | succ j => exact ih e
abbrev Rw := List Nat
abbrev iv (r : Rw) : List V := r.map fun n => V.int (n : Nat)
def absI (x : Int) : Int := if x < 0 then -x else x
def nearB (st : Int) (n p : Nat) : Bool := decide (absI ((p : Int) - (n : Int)) ≤ st)
def nearF (m : Nat) (st : Int) (n : Nat) : List Nat := (List.range m).filter (nearB st n)
def stepF (vals : List Nat) (r : Rw) : List Rw := (vals.filter fun p => decide (p ∉ r)).map fun p => r ++ [p]
def rowsF (m : Nat) (st : Int) : Nat → List Rw
  | 0 => [[]]
  | k + 1 => (rowsF m st k).flatMap (stepF (nearF m st k))
abbrev Prs := List (Nat × Nat)
def aheadF (A : Prs) (r : Rw) : Bool := A.all fun pr => decide (r.getD pr.1 0 < r.getD pr.2 0)
def plF (m : Nat) (st : Int) (A : Prs) : List Rw := (rowsF m st m).filter (aheadF A)
theorem near_lt {m n : Nat} {st : Int} : ∀ p ∈ nearF m st n, p < m := fun p hp => List.mem_range.mp (List.mem_filter.mp hp).1
theorem near_len (m n : Nat) (st : Int) : (nearF m st n).length ≤ m := Nat.le_trans (List.length_filter_le _ _) (by rw [List.length_range]; exact Nat.le_refl _)
theorem step_len (vals : List Nat) (r : Rw) : (stepF vals r).length ≤ vals.length := by
  unfold stepF
  rw [List.length_map]
  exact List.length_filter_le _ _
theorem flatMap_len {α β : Type} (f : α → List β) (n : Nat) : ∀ (l : List α), (∀ x ∈ l, (f x).length ≤ n) → (l.flatMap f).length ≤ l.length * n
  | [], _ => by simp
  | x :: l, h => by
    rw [List.flatMap_cons, List.length_append, List.length_cons, Nat.add_mul, Nat.one_mul]
    have := flatMap_len f n l fun y hy => h y (List.mem_cons_of_mem _ hy)
    have h1 := h x (List.mem_cons_self ..)
    omega
theorem rows_size (m : Nat) (st : Int) : ∀ k, (rowsF m st k).length ≤ m ^ k
  | 0 => Nat.le_refl _
  | k + 1 => by
    have := flatMap_len (stepF (nearF m st k)) m (rowsF m st k) fun r _ => Nat.le_trans (step_len _ _) (near_len _ _ _)
    exact Nat.le_trans this (Nat.mul_le_mul_right m (rows_size m st k))
theorem rows_in (m : Nat) (st : Int) : ∀ k, ∀ r ∈ rowsF m st k, r.length = k ∧ ∀ p ∈ r, p < m
  | 0 => fun r hr => by
    rw [List.mem_singleton.mp hr]
    exact ⟨rfl, fun p hp => by cases hp⟩
  | k + 1 => fun r hr => by
    obtain ⟨r0, h0, h1⟩ := List.mem_flatMap.mp hr
    obtain ⟨p, hp, e⟩ := List.mem_map.mp h1
    obtain ⟨i1, i2⟩ := rows_in m st k r0 h0
    subst e
    refine ⟨by rw [List.length_append, i1]; rfl, fun q hq => ?_⟩
    rcases List.mem_append.mp hq with z | z
    · exact i2 q z
    · rw [List.mem_singleton.mp z]
      exact near_lt p (List.mem_filter.mp hp).1
theorem pow5 {m k : Nat} (hm : m ≤ 5) (hk : k ≤ 5) : m ^ k ≤ 3125 := Nat.le_trans (Nat.pow_le_pow_left hm k) (Nat.le_trans (Nat.pow_le_pow_right (by decide) hk) (by decide))
theorem line4000 {n : Nat} (h : n ≤ 4000) : n < sizeLine := Nat.lt_of_le_of_lt h (by decide)
theorem take_get {α : Type} {l : List α} {i : Nat} {x : α} (h : l[i]? = some x) : l.take (i + 1) = l.take i ++ [x] := by
  rw [List.take_succ, h]
  rfl
theorem filter_snoc {α : Type} {l : List α} {i : Nat} {x : α} {f : α → Bool} (h : l[i]? = some x) : (l.take (i + 1)).filter f = (l.take i).filter f ++ (if f x = true then [x] else []) := by
  rw [take_get h, List.filter_append]
  congr 1
  by_cases e : f x = true
  · rw [if_pos e, List.filter_cons_of_pos e]
    rfl
  · rw [if_neg e, List.filter_cons_of_neg e]
    rfl
theorem flatMap_snoc {α β : Type} (f : α → List β) (l : List α) (x : α) : (l ++ [x]).flatMap f = l.flatMap f ++ f x := by
  rw [List.flatMap_append]
  simp
theorem inV_int (p : Nat) : ∀ r : Rw, inV (V.int (p : Nat)) (iv r) = decide (p ∈ r)
  | [] => rfl
  | q :: r => by
    have ih := inV_int p r
    have e : inV (V.int (p : Nat)) (iv (q :: r)) = (eqV (V.int (q : Nat)) (V.int (p : Nat)) || inV (V.int (p : Nat)) (iv r)) := by
      unfold inV
      rfl
    rw [e, ih]
    have e2 : eqV (V.int (q : Nat)) (V.int (p : Nat)) = decide (p = q) := by
      unfold eqV
      by_cases h : p = q
      · subst h
        simp
      · have : ¬ (q : Int) = (p : Int) := by omega
        simp [h, this]
    rw [e2]
    by_cases h : p = q
    · simp [h]
    · simp [h]
theorem flat_ints (r : Rw) : (iv r).all flatV = true := by
  induction r with
  | nil => rfl
  | cons a r ih =>
    show (flatV (V.int (a : Nat)) && (iv r).all flatV) = true
    rw [ih]
    rfl
theorem all_snoc {α : Type} {l : List α} {i : Nat} {x : α} {f : α → Bool} (h : l[i]? = some x) : (l.take (i + 1)).all f = ((l.take i).all f && f x) := by
  rw [take_get h, List.all_append]
  simp
theorem all_bad {α : Type} {l : List α} {i : Nat} {x : α} {f : α → Bool} (h : l[i]? = some x) (e : f x = false) : l.all f = false := by
  rw [List.all_eq_false]
  exact ⟨x, List.mem_of_getElem? h, by rw [e]; decide⟩
end Bn

set_option pp.maxSteps 400
namespace Bn
open PySem PySem.Spec PyProof.Rows L2 BR GX RM GY
def lcScope : Stmt → Scope
  | .Return (some (.ListComp _ _ sc _)) _ => sc
  | _ => { kind := .function, names := [], isGenerator := false, isCoroutine := false }
abbrev scAhead : Scope := relabel (lcScope ((defBody s_places_of).getD 4 (.Pass ⟨0, 0, 0, 0⟩))) (envOfC "" (defScope s_places_of) 0 0 .none)
section
variable {P : Program} {w : World} {K : PySem.W.Frag} {mg : Str → Option Value} {base : Heap}
abbrev NP : List Str := ["rule", "many", "stray", "stir", "ahead", "rows", "number", "near", "place", "row", "one", "other"]
/-- rows of whole numbers, as tuples -/
abbrev Tps (H : Hp) (ts : List Addr) (L : List Rw) : Prop := Paired (fun t r => H t = some (.tup (iv r))) ts L
theorem Tps.same {H H' : Hp} {ts : List Addr} {L : List Rw} (h : Tps H ts L) (s : Same H H') : Tps H' ts L := paired_mono h fun _ _ e => s _ _ e
theorem Tps.sl {T : Tb} {H H' : Hp} {ts : List Addr} {L : List Rw} (h : Tps H ts L) (s : SL T H H') : Tps H' ts L := paired_mono h fun _ _ e => s.k _ _ nt_tup e
theorem Tps.updL {H : Hp} {D : Addr} {ts : List Addr} {L : List Rw} {xs : List V} {o : HO} (h : Tps H ts L) (hD : H D = some (.lst xs)) : Tps (upd H D o) ts L := paired_mono h fun _ _ e => by
  rw [upd_ne (ne_of e hD (by intro z; cases z))]
  exact e
def RowsAt (H : Hp) (r : Addr) (L : List Rw) : Prop := ∃ ts, H r = some (.lst (ts.map V.ref)) ∧ Tps H ts L
/-- a rule: m parts, its order's stray, stir and pairs -/
structure RlAt (K : PySem.W.Frag) (H : Hp) (a : Addr) (m : Nat) (st si : Int) (A : Prs) (pl o al : Addr) (ps : List V) (as : List V) (r0 r1 r2 r3 r5 : V) : Prop where
  a : SqT K H a [r0, r1, r2, r3, .ref pl, r5, .ref o]
  pl : H pl = some (.lst ps)
  len : ps.length = m
  o : SqT K H o [.int st, .int si, .ref al]
  al : H al = some (.lst as)
  as : PasT K H as A
theorem RlAt.same {K : PySem.W.Frag} {H H' : Hp} {a : Addr} {m : Nat} {st si : Int} {A : Prs} {pl o al : Addr} {ps : List V} {as : List V} {r0 r1 r2 r3 r5 : V} (h : RlAt K H a m st si A pl o al ps as r0 r1 r2 r3 r5) (s : Same H H') : RlAt K H' a m st si A pl o al ps as r0 r1 r2 r3 r5 :=
  ⟨sqT_of_same s h.a, s _ _ h.pl, h.len, sqT_of_same s h.o, s _ _ h.al, h.as.same s⟩
theorem RlAt.sl {K : PySem.W.Frag} {T : Tb} {H H' : Hp} {a : Addr} {m : Nat} {st si : Int} {A : Prs} {pl o al : Addr} {ps : List V} {as : List V} {r0 r1 r2 r3 r5 : V} (h : RlAt K H a m st si A pl o al ps as r0 r1 r2 r3 r5) (s : SL T H H') : RlAt K H' a m st si A pl o al ps as r0 r1 r2 r3 r5 :=
  ⟨s.sqT h.a, s.k _ _ nt_lst h.pl, h.len, s.sqT h.o, s.k _ _ nt_lst h.al, h.as.sl s⟩
def spPl (K : PySem.W.Frag) (T : Tb) : Sp := fun vs H Q _ => ∃ (a pl o al : Addr) (m : Nat) (st si : Int) (A : Prs) (ps : List V) (as : List V) (r0 r1 r2 r3 r5 : V), vs = [.ref a] ∧ RlAt K H a m st si A pl o al ps as r0 r1 r2 r3 r5 ∧ m ≤ 5 ∧ (∀ pr ∈ A, pr.1 < m ∧ pr.2 < m) ∧ TbOk T H ∧
  ∀ r H', H r = none → SL T H H' → RowsAt H' r (plF m st A) → Q (.ref r) H'
theorem ok_places {f c0 pT : Addr} {fd : FuncData} {T : Tb} {k : Nat} (F : FunC K "places_of" "places_of" s_places_of f fd c0) (TB : GxR.TabB base mg c0 pT) (hP : pT ∈ T.ps) (hF : T.F ∉ T.ps) (ml : mg "len" = none) (mr : mg "range" = none) (mab : mg "abs" = none) (ma : mg "all" = none) : FnOk P w K mg base CX0 (k + 5) f fd ["rule"] (spPl K T) := by
  refine F.ok sc_places_of (fun vs H Q E h => ?_) (fun A outer s H vs Q E hr h => ?_)
  · obtain ⟨a, pl, o, al, m, st, si, A', ps, as, r0, r1, r2, r3, r5, rfl, _⟩ := h
    rfl
  · obtain ⟨a, pl, o, al, m, st, si, A', ps, as, r0, r1, r2, r3, r5, rfl, hR, hm5, hA, hT, q⟩ := h
    refine ⟨_, pss_cons (ps_set (i := 1) sc_places_of.nd rfl (.inl rfl) (pe_callB call_len_seq (by rfl) ml PySem.boot_len (pa_cons (pe_ix ix_tup (pv 0) pe_int (fun _ _ => rfl)) pa_nil)))
      (pss_cons (ps_asg (pe_ix ix_tup (pv 0) pe_int (fun _ _ => rfl)) (pg_tup rfl (pgs_cons (pg_name (i := 2) sc_places_of.nd rfl (.inr rfl)) (pgs_cons (pg_name (i := 3) sc_places_of.nd rfl (.inl rfl)) (pgs_cons (pg_name (i := 4) sc_places_of.nd rfl (.inr rfl)) pgs_nil)))))
      (pss_cons (ps_set (i := 5) sc_places_of.nd rfl (.inl rfl) (pe_lst (pa_cons (pe_tup pa_nil) pa_nil)))
      (pss_cons (ps_for PassesOwn.never rfl (pi_range1 (by rfl) mr (pa_cons (pv 1) pa_nil)) (pg_name (i := 6) sc_places_of.nd rfl (.inr rfl))
        (pss_cons (ps_set (i := 7) sc_places_of.nd rfl (.inr rfl) (pe_lc (own := [("place", 8)]) (g := gName 8) rfl sc_places_of.nd (pi_range1 (by rfl) mr (pa_cons (pv 1) pa_nil))
            (blkOk_by (own := [("place", 8)]) (N := NP) (sc := defScope s_places_of) (by decide +kernel))
            (fun _ _ _ _ _ => pg_name (i := 8) sc_places_of.nd rfl (Or.inl rfl)) (fun _ _ _ _ _ => pts_one (pt_cmpR op_le (pe_callB call_abs (by rfl) mab (by decide +kernel) (pa_cons (pe_op op_sub (pv 8) (pv 6)) pa_nil)) (pv 2) (nomark _))) (fun _ _ _ _ _ => pv 8)))
        (pss_one (ps_setLc2 (i := 5) (own := [("row", 9), ("place", 8)]) (vs1 := [8]) (g := gName 9) (g1 := gName 8) rfl sc_places_of.nd rfl rfl (sw_true rfl rfl rfl (by decide +kernel)) (pi_list (pv 5))
            (blkOk_by (own := [("row", 9), ("place", 8)]) (N := NP) (sc := defScope s_places_of) (by decide +kernel)) (by decide)
            (fun _ _ _ _ _ => pg_name (i := 9) sc_places_of.nd rfl (Or.inl rfl)) (fun _ _ _ _ _ => pts_nil)
            (fun _ _ _ _ _ => pi_listK (K := K) rfl (pv 7)) (fun _ _ _ _ _ => pg_name (i := 8) sc_places_of.nd rfl (Or.inl rfl)) (fun _ _ _ _ _ => pts_one (pt_cmpR (op_notInK (K := K) rfl) (pv 8) (pv 9) (by rfl)))
            (fun _ _ _ _ _ => pe_tup (pa_starK (K := K) rfl (pv 9) (pa_cons (pv 8) pa_nil)))))))
      (pss_one (ps_ret (pe_lc (own := [("row", 9)]) (g := gName 9) rfl sc_places_of.nd (pi_list (pv 5))
            (blkOk_by (own := [("row", 9)]) (N := NP) (sc := defScope s_places_of) (by decide +kernel))
            (fun _ _ _ _ _ => pg_name (i := 9) sc_places_of.nd rfl (Or.inr rfl)) (fun _ _ _ _ _ => pts_one (pt_val (pe_all (own := [("one", 10), ("other", 11)]) hr (by rfl) ma (by decide +kernel) TB rfl rfl sc_places_of.nd (pi_listK (K := K) rfl (pv 4))
              (blkOk_by (own := [("one", 10), ("other", 11)]) (N := NP) (sc := scAhead) (by decide +kernel)) rfl (by decide +kernel) rfl
              (fun _ _ _ _ _ _ => pg_tupK (K := K) (n := 2) rfl (pg_tup (n := 2) rfl (pgs_cons (pg_name (i := 10) sc_places_of.nd rfl (Or.inl rfl)) (pgs_cons (pg_name (i := 11) sc_places_of.nd rfl (Or.inl rfl)) pgs_nil)))) (fun _ _ _ _ _ _ => pts_nil)
              (fun _ _ _ _ _ _ => pe_cmpR op_lt (pe_ix (ix_tupK (K := K) rfl) (pv 9) (pv 10) (fun _ _ => rfl)) (pe_ix (ix_tupK (K := K) rfl) (pv 9) (pv 11) (fun _ _ => rfl)) (nomark _))))) (fun _ _ _ _ _ => pv 9))))))), ?_⟩
    refine ⟨_, rfl, a, _, _, V.ref pl, rfl, rfl, hR.a, rfl, pl, _, rfl, .inl (.inl (.inl hR.pl)), ?_⟩
    rw [hR.len]
    refine ⟨_, rfl, a, _, _, V.ref o, rfl, rfl, hR.a, rfl, o, _, rfl, hR.o, rfl, _, _, rfl, _, _, rfl, _, _, rfl, rfl, ?_⟩
    refine ⟨Nat.zero_le _, fun t nt => ⟨(show 1 ≤ sizeLine by decide), fun r nr => ?_⟩⟩
    have sA : Same H (upd H t (.tup [])) := same_new nt
    have ht : (upd H t (.tup [])) t = some (.tup []) := upd_same
    generalize upd H t (.tup []) = HA at sA ht nr ⊢
    have sB : Same HA (upd HA r (.lst [.ref t])) := same_new nr
    have hr0 : (upd HA r (.lst [.ref t])) r = some (.lst [.ref t]) := upd_same
    have nrH : H r = none := sA.free nr
    generalize upd HA r (.lst [.ref t]) = HB at sB hr0 ⊢
    have sHB : Same H HB := sA.trans sB
    refine ⟨_, rfl, ((m : Nat) : Int), rfl, by omega, by omega, ?_⟩
    rw [Int.toNat_natCast]
    refine for_it (walk_range (lo := 0) (n := m)) (fun i σ HY => ∃ (r : Addr) (y6 y7 y8 y9 y10 y11 : Option V), σ = [some (.ref a), some (.int (m : Nat)), some (.int st), some (.int si), some (.ref al), some (.ref r), y6, y7, y8, y9, y10, y11] ∧ Same HB HY ∧ H r = none ∧ RowsAt HY r (rowsF m st i))
      ⟨r, _, _, _, _, _, _, rfl, Same.refl _, nrH, [t], hr0, .cons (sB _ _ ht) .nil⟩ (fun _ _ _ _ _ => trivial) (fun i x σ HY HY' hi hP' hY => ?_) (fun σ HY hP' => ?_)
    · obtain ⟨rfl, rfl⟩ := hY
      obtain ⟨r, y6, y7, y8, y9, y10, y11, rfl, sY, nr', ts, hr', hts⟩ := hP'
      have hrl : (rowsF m st i).length ≤ 3125 := Nat.le_trans (rows_size m st i) (pow5 hm5 (by omega))
      have htl : ts.length = (rowsF m st i).length := Paired.length hts
      have hcast : (0 : Int) + (i : Nat) = (i : Nat) := Int.zero_add _
      refine ⟨_, rfl, ((m : Nat) : Int), rfl, by omega, by omega, fun D nD => ?_⟩
      rw [Int.toNat_natCast]
      refine lc_range (lo := 0) (n := m) (fun j HZ => Same HY' HZ ∧ HZ D = some (.lst (iv (((List.range m).take j).filter (nearB st i))))) ⟨same_new nD, upd_same⟩ (fun j HZ hj hP' => ?_) (fun HZ hP' => ?_)
      · obtain ⟨sZ, hD⟩ := hP'
        have ej : (List.range m)[j]? = some j := by rw [List.getElem?_range hj]
        have few : (iv (((List.range m).take j).filter (nearB st i))).length < sizeLine := by
          rw [List.length_map]
          refine small1000 (Nat.le_trans (List.length_filter_le _ _) ?_)
          rw [List.length_take]
          omega
        refine ⟨rfl, _, rfl, _, rfl, _, _, rfl, rfl, _, rfl, _, rfl, _, _, rfl, rfl, _, rfl, ?_⟩
        have ec : ∀ x : Int, x = ((j : Int) - (i : Int)) → (decide ((if x < 0 then -x else x) ≤ st)) = nearB st i j := fun x e => by
          subst e
          rfl
        refine ite2 (fun e => ?_) (fun e => ?_)
        · rw [ec _ (by omega)] at e
          refine ⟨_, rfl, _, hD, few, Same.own sZ nD, ?_⟩
          rw [upd_same, filter_snoc ej, if_pos e]
          show some (HO.lst (iv _ ++ [V.int (0 + (j : Nat))])) = some (.lst (iv (_ ++ [j])))
          rw [Int.zero_add, iv, iv, List.map_append]
          rfl
        · rw [ec _ (by omega)] at e
          refine ⟨sZ, ?_⟩
          rw [filter_snoc ej, if_neg e, List.append_nil]
          exact hD
      · obtain ⟨sZ, hD⟩ := hP'
        rw [List.take_of_length_le (by rw [List.length_range]; exact Nat.le_refl _)] at hD
        have hD' : HZ D = some (.lst (iv (nearF m st i))) := hD
        generalize hvals : nearF m st i = vals at hD'
        have hvl : vals.length ≤ 5 := by
          rw [← hvals]
          exact Nat.le_trans (near_len _ _ _) hm5
        generalize hrows : rowsF m st i = rows at hts hrl htl
        have next : rowsF m st (i + 1) = rows.flatMap (stepF vals) := by
          show (rowsF m st i).flatMap (stepF (nearF m st i)) = _
          rw [hrows, hvals]
        have hrZ := sZ _ _ hr'
        have htsZ := hts.same sZ
        refine ⟨_, rfl, r, rfl, ⟨_, .inl (.inl hrZ)⟩, fun D2 nD2 => ?_⟩
        have nD2H : H D2 = none := sHB.free (sY.free (sZ.free nD2))
        refine lc2_it (walk_list (K := K) (a := r) (xs := ts.map V.ref)) (fun i HW => Same HZ HW ∧ ∃ us : List Addr, HW D2 = some (.lst (us.map V.ref)) ∧ Tps HW us ((rows.take i).flatMap (stepF vals))) ⟨same_new nD2, [], upd_same, .nil⟩ (fun j HW _ h => .inl (.inl (h.1 _ _ hrZ))) (fun j x HW HW' hj hP' hY => ?_) (fun HW hP' => ?_)
        · obtain ⟨rfl, hx3⟩ := hY
          obtain ⟨sW, us, hD2, hus⟩ := hP'
          rw [List.getElem?_map] at hx3
          obtain ⟨t1, et1, ex⟩ := Option.map_eq_some_iff.mp hx3
          subst ex
          obtain ⟨row, hrow, ht1⟩ := paired_at htsZ et1
          have hjr : j < rows.length := (List.getElem?_eq_some_iff.mp hrow).1
          have hrin := rows_in m st i row (by rw [hrows]; exact List.mem_of_getElem? hrow)
          refine ⟨rfl, tYes_in ⟨_, rfl, D, rfl, ⟨_, .inl (.inl (sW _ _ hD'))⟩, ?_⟩⟩
          refine in2_it (walk_list (K := K) (a := D) (xs := iv vals)) (fun k HU => Same HZ HU ∧ ∃ us : List Addr, HU D2 = some (.lst (us.map V.ref)) ∧ Tps HU us (((rows.take j).flatMap (stepF vals)) ++ stepF (vals.take k) row)) ⟨sW, us, hD2, by rw [List.take_zero]; show Tps _ us (_ ++ []); rw [List.append_nil]; exact hus⟩ (fun k HU _ h => .inl (.inl (h.1 _ _ hD'))) (fun k x HU HU' hk' hP' hY => ?_) (fun HU hP' => ?_)
          · obtain ⟨rfl, hx4⟩ := hY
            obtain ⟨sU, us, hD2, hus⟩ := hP'
            rw [List.getElem?_map] at hx4
            obtain ⟨v, ev, ex⟩ := Option.map_eq_some_iff.mp hx4
            subst ex
            have hkv : k < vals.length := (List.getElem?_eq_some_iff.mp ev).1
            have hul : us.length < sizeLine := by
              have e := Paired.length hus
              rw [List.length_append] at e
              have e2 := flatMap_len (stepF vals) 5 (rows.take j) fun r _ => Nat.le_trans (step_len vals r) hvl
              have e3 := step_len (vals.take k) row
              rw [List.length_take] at e2 e3
              exact Nat.lt_of_le_of_lt (show us.length ≤ 20000 by omega) (by decide)
            refine ⟨rfl, _, rfl, _, rfl, t1, _, rfl, .inr (.inl (.inl (sU _ _ ht1))), rfl, flat_ints row, _, rfl, ite2 (fun e => ?_) (fun e => ?_)⟩
            · have e' : (!inV (V.int (v : Nat)) (iv row)) = true := e
              rw [inV_int] at e'
              have e2 : decide (v ∉ row) = true := by simpa using e'
              refine ⟨_, rfl, t1, _, rfl, .inl (.inl (.inl (sU _ _ ht1))), _, rfl, ?_, fun p np => ?_⟩
              · rw [List.length_append, List.length_map, hrin.1]
                exact line1000 (by show i + 1 ≤ 1000; omega)
              · have sP : Same HU' (upd HU' p (.tup (iv row ++ [V.int (v : Nat)]))) := same_new np
                have hp : (upd HU' p (.tup (iv row ++ [V.int (v : Nat)]))) p = some (.tup (iv (row ++ [v]))) := by
                  rw [upd_same, iv, iv, List.map_append]
                  rfl
                generalize upd HU' p (.tup (iv row ++ [V.int (v : Nat)])) = HQ at sP hp ⊢
                have hD3 := sP _ _ hD2
                refine ⟨_, hD3, by rw [List.length_map]; exact hul, Same.own (sU.trans sP) nD2, us ++ [p], ?_, ?_⟩
                · rw [upd_same, List.map_append]
                  rfl
                · have e3 : stepF (vals.take (k + 1)) row = stepF (vals.take k) row ++ [row ++ [v]] := by
                    unfold stepF
                    rw [filter_snoc ev, if_pos e2, List.map_append]
                    rfl
                  rw [e3, ← List.append_assoc]
                  exact Tps.updL (paired_snoc (hus.same sP) hp) hD3
            · have e' : ¬ (!inV (V.int (v : Nat)) (iv row)) = true := e
              rw [inV_int] at e'
              have e2 : ¬ decide (v ∉ row) = true := by simpa using e'
              refine ⟨sU, us, hD2, ?_⟩
              have e3 : stepF (vals.take (k + 1)) row = stepF (vals.take k) row := by
                unfold stepF
                rw [filter_snoc ev, if_neg e2, List.append_nil]
              rw [e3]
              exact hus
          · obtain ⟨sU, us, hD2, hus⟩ := hP'
            rw [List.length_map, List.take_length] at hus
            refine ⟨sU, us, hD2, ?_⟩
            rw [take_get hrow, flatMap_snoc]
            exact hus
        · obtain ⟨sW, us, hD2, hus⟩ := hP'
          rw [List.length_map, htl, List.take_length] at hus
          refine ⟨D2, _, _, _, _, _, _, rfl, (sY.trans sZ).trans sW, nD2H, us, hD2, ?_⟩
          rw [next]
          exact hus
    · obtain ⟨r, y6, y7, y8, y9, y10, y11, rfl, sY, nr', ts, hr', hts⟩ := hP'
      have hrl : (rowsF m st m).length ≤ 3125 := Nat.le_trans (rows_size m st m) (pow5 hm5 hm5)
      have htl : ts.length = (rowsF m st m).length := Paired.length hts
      have sHY : Same H HY := sHB.trans sY
      have hTY : TbOk T HY := hT.same sHY
      refine ⟨_, rfl, r, rfl, ⟨_, .inl (.inl hr')⟩, fun D nD => ?_⟩
      have nDH : H D = none := sHY.free nD
      have sD : Same HY (upd HY D (.lst [])) := same_new nD
      refine lc_it (walk_list (K := K) (a := r) (xs := ts.map V.ref)) (fun i HX => SL T HY HX ∧ ∃ us : List Addr, HX D = some (.lst (us.map V.ref)) ∧ Tps HX us (((rowsF m st m).take i).filter (aheadF A'))) ⟨SL.of hTY sD, [], upd_same, .nil⟩ (fun i HX _ h => .inl (.inl (h.1.k _ _ nt_lst hr'))) (fun i x HX HX' hi hP' hY => ?_) (fun HX hP' => ?_)
      · obtain ⟨rfl, hx⟩ := hY
        obtain ⟨sX, us, hD, hus⟩ := hP'
        rw [List.getElem?_map] at hx
        obtain ⟨t1, et1, ex⟩ := Option.map_eq_some_iff.mp hx
        subst ex
        obtain ⟨row, hrow, ht1⟩ := paired_at hts et1
        obtain ⟨rl, rin⟩ := rows_in m st m row (List.mem_of_getElem? hrow)
        refine ⟨rfl, ?_⟩
        have hRX : RlAt K HX' a m st si A' pl o al ps as r0 r1 r2 r3 r5 := (hR.same sHY).sl sX
        refine ⟨_, rfl, al, rfl, ⟨_, .inl (.inl hRX.al)⟩, sX.t.g _ hP, fun H2 hTb => ?_⟩
        have s2 : SL T HX' H2 := SL.tab hF sX.t hP hTb
        have hlenA : as.length = A'.length := Paired.length hR.as
        -- what follows the test
        have fin : ∀ {HZ : Hp} {b : Bool}, SL T HX' HZ → aheadF A' row = b → ∃ k, (V.bl b : V) = .bl k ∧ (if k = true then tVar 9 [some (V.ref a), some (V.int (m : Nat)), some (V.int st), some (V.int si), some (V.ref al), some (V.ref r), y6, y7, y8, some (V.ref t1), y10, y11] HZ (fun y H4 => ∃ acc, H4 D = some (.lst acc) ∧ acc.length < sizeLine ∧ (fun H5 => SL T HY H5 ∧ ∃ us : List Addr, H5 D = some (.lst (us.map V.ref)) ∧ Tps H5 us (((rowsF m st m).take (i + 1)).filter (aheadF A'))) (upd H4 D (.lst (acc ++ [y])))) else (fun H5 => SL T HY H5 ∧ ∃ us : List Addr, H5 D = some (.lst (us.map V.ref)) ∧ Tps H5 us (((rowsF m st m).take (i + 1)).filter (aheadF A'))) HZ) := fun {HZ b} sZ e => by
          refine ⟨b, rfl, ?_⟩
          have hDZ := sZ.k _ _ nt_lst hD
          have husZ := hus.sl sZ
          cases b with
          | true =>
            refine iteT ⟨_, rfl, _, hDZ, ?_, (sX.trans sZ).ownL nD hDZ, us ++ [t1], ?_, ?_⟩
            · rw [List.length_map, Paired.length husZ]
              refine line4000 (Nat.le_trans (List.length_filter_le _ _) ?_)
              rw [List.length_take]
              omega
            · rw [upd_same, List.map_append]
              rfl
            · rw [filter_snoc hrow, if_pos e]
              exact Tps.updL (paired_snoc husZ (sZ.k _ _ nt_tup (sX.k _ _ nt_tup ht1))) hDZ
          | false =>
            refine iteF ⟨sX.trans sZ, us, hDZ, ?_⟩
            rw [filter_snoc hrow, if_neg (by rw [e]; decide), List.append_nil]
            exact husZ
        refine all_it (walk_list (K := K) (a := al) (xs := as)) (fun j HZ => SL T HX' HZ ∧ aheadF (A'.take j) row = true) ⟨s2, rfl⟩ (fun j HZ _ h => .inl (.inl (h.1.k _ _ nt_lst hRX.al))) (fun j x HZ HZ' hj hP' hY => ?_) (fun HZ hP' => ?_)
        · obtain ⟨rfl, hx2⟩ := hY
          obtain ⟨sZ, hin⟩ := hP'
          obtain ⟨pr, hpr, t2, rfl, ht2⟩ := paired_at hRX.as hx2
          obtain ⟨p1, p2⟩ := hA pr (List.mem_of_getElem? hpr)
          have htr := sZ.k _ _ nt_tup (sX.k _ _ nt_tup ht1)
          have g1 : (iv row)[pr.1]? = some (V.int (row.getD pr.1 0 : Nat)) := by
            rw [List.getElem?_map, List.getElem?_eq_getElem (by omega), List.getD_eq_getElem?_getD, List.getElem?_eq_getElem (by omega)]
            rfl
          have g2 : (iv row)[pr.2]? = some (V.int (row.getD pr.2 0 : Nat)) := by
            rw [List.getElem?_map, List.getElem?_eq_getElem (by omega), List.getD_eq_getElem?_getD, List.getElem?_eq_getElem (by omega)]
            rfl
          refine ⟨t2, _, rfl, sZ.sqT ht2, rfl, _, _, rfl, _, _, rfl, rfl, ?_⟩
          refine ⟨rfl, tYes_in ?_⟩
          refine ⟨_, rfl, _, rfl, t1, _, _, _, rfl, rfl, .inl (.inl htr), atI_nat g1, _, rfl, _, rfl, t1, _, _, _, rfl, rfl, .inl (.inl htr), atI_nat g2, _, _, rfl, rfl, _, rfl, fun e => ⟨sZ, ?_⟩, fun e => fin sZ (all_bad hpr ?_)⟩
          · have e' : row.getD pr.1 0 < row.getD pr.2 0 := by
              have := of_decide_eq_true e
              omega
            unfold aheadF at hin ⊢
            rw [all_snoc hpr, hin]
            exact decide_eq_true e'
          · have e' : ¬ row.getD pr.1 0 < row.getD pr.2 0 := fun z => by
              have := of_decide_eq_false e
              omega
            exact decide_eq_false e'
        · obtain ⟨sZ, hin⟩ := hP'
          rw [hlenA, List.take_length] at hin
          exact fin sZ hin
      · obtain ⟨sX, us, hD, hus⟩ := hP'
        rw [List.length_map, htl, List.take_length] at hus
        exact q D HX nDH ((SL.of hT sHY).trans sX) ⟨us, hD, hus⟩
end
end Bn

/-! != of a list and [] -/
namespace PySem.SeqAt
open AutoSeq1 (wpAny_loadPart')
open MeetsSeq MeetsSeq2 MeetsSeq3 SeqRoads2
section
variable {prog : Program} {w : World}
theorem my_listNeLen (l b : Addr) (us vs : Array Value) (n m : Nat) (du dv : Option Addr) (su sv : Array (Option Value)) (hz : us.size ≠ vs.size) :
    MeetsIn prog w (Builtin.«list.__ne__» ⟨[.ref l, .ref b], []⟩) (fun A R s =>
      s.heap.get? l = some { cls := .type "list", dict := du, data := .seq us n, slots := su } ∧ s.heap.get? b = some { cls := .type "list", dict := dv, data := .seq vs m, slots := sv } ∧
      R (.ok (.ret (.bool true))) s) := by
  intro A R s h
  obtain ⟨hp, g, d, tk, os⟩ := s
  obtain ⟨hl, hb, h⟩ := h
  have f3 := AutoSeq1.sub_list_list
  have hn : (us.size != vs.size) = true := by simpa using hz
  wp_walk using wpAny_loadPart' hl, wpAny_loadPart' hb
  exact h
theorem my_rcNeLen {A : Around} {s : Shared} {l b : Addr} {us vs : Array Value} (hl : s.heap.IsList l us) (hb : s.heap.IsList b vs) (hz : us.size ≠ vs.size) (hu : A.units < cLine)
    (E Q : Value → Shared → Prop) (h : Q (.bool true) s) : wpAny (model prog w) A (richCompare .NotEq (.ref l) (.ref b)) Q E s := by
  obtain ⟨⟨c1, du, x1, su⟩, ho, hc, n, hd⟩ := id hl
  obtain ⟨⟨c2, dv, x2, sv⟩, ho2, hc2, m, hd2⟩ := id hb
  simp only at hc hd hc2 hd2
  subst hc hd hc2 hd2
  have ta : s.TypeIs (.ref l) "list" := ⟨_, ho, rfl⟩
  have tb : s.TypeIs (.ref b) "list" := ⟨_, ho2, rfl⟩
  exact wpAny_richCompare_same_room (op := .NotEq) ta tb F.slot_list_ne (call_meetsIn F.slot_list_ne ta F.entry_list_ne (F.args_list_ne_2 _ _) (my_listNeLen l b us vs n m du dv su sv hz)
    ⟨ho, ho2, show Value.bool true ≠ Value.notImplemented ∧ Q (.bool true) s from ⟨(fun x => nomatch x), h⟩⟩) hu
end
end PySem.SeqAt
namespace BR
open PySem PySem.Spec PyProof.Rows L2
section
variable {X : Cx}
/-- a list of anything != [] -/
def rNeE : R2 := fun x y H Q => ∃ a b xs, x = .ref a ∧ y = .ref b ∧ H a = some (.lst xs) ∧ H b = some (.lst []) ∧ Q (.bl (!xs.isEmpty)) H
theorem op_neE (hu : X.A.units + 64 < cLine) : OpR X (compareOp .NotEq) rNeE := by
  intro pins s σ H x y v u Q I rx ry h
  obtain ⟨a, b, xs, rfl, rfl, ha, hb, q⟩ := h
  cases (show v = Value.ref a from rx)
  cases (show u = Value.ref b from ry)
  obtain ⟨us, r1, p1, _⟩ := I.list (.inl (.inl ha))
  obtain ⟨ws, r2, p2, _⟩ := I.list (.inl (.inl hb))
  have e2 : ws.length = 0 := by rw [← r2.length]; rfl
  cases xs with
  | nil =>
    have e1 : us.length = 0 := by rw [← r1.length]; rfl
    refine SeqAt.my_rcNe p1.isList p2.isList (by rw [List.size_toArray, List.size_toArray, e1, e2]) (by omega) (fun j h1 h2 => ?_) _ _ ⟨.bl false, H, I, rfl, q⟩
    rw [List.size_toArray, e1] at h1
    exact absurd h1 (Nat.not_lt_zero _)
  | cons z zs =>
    have e1 : us.length = zs.length + 1 := by rw [← r1.length]; rfl
    exact SeqAt.my_rcNeLen p1.isList p2.isList (by rw [List.size_toArray, List.size_toArray, e1, e2]; omega) (by omega) _ _ ⟨.bl true, H, I, rfl, q⟩
end
end BR

set_option pp.maxSteps 400
namespace Bn
open PySem PySem.Spec PyProof.Rows L2 BR GX RM GY
/-! ### groups, as they stand -/
def PrsT (K : PySem.W.Frag) (H : Hp) (xs : List V) (g : List (Int × Str)) : Prop := Paired (fun v q => ∃ a, v = .ref a ∧ SqT K H a [.int (q : Int × Str).1, .str q.2]) xs g
def GrsAt (K : PySem.W.Frag) (H : Hp) (gs : List V) (G : List (List (Int × Str))) : Prop := Paired (fun v g => ∃ a xs, v = .ref a ∧ H a = some (.lst xs) ∧ PrsT K H xs g) gs G
def OwnsAt (H : Hp) (ls : List V) (owns : List (List Str)) : Prop := Paired (fun v o => ∃ l, v = .ref l ∧ H l = some (.lst (o.map V.str))) ls owns
/-- a rule, as it stands -/
structure RuAt (K : PySem.W.Frag) (H : Hp) (N : Addr → Prop) (n : Nat) (a m pl gl o al : Addr) (kvs : List (Key × V)) (xs gs as : List V) (r : Ru) : Prop where
  a : SqT K H a [.str r.n, .int r.rk, .str r.k, .ref m, .ref pl, .ref gl, .ref o]
  b : BdAt H m kvs r.b
  pl : H pl = some (.lst xs)
  ps : DqAll K H N (n + 2) xs (r.ps.map ptD)
  gl : H gl = some (.lst gs)
  gs : GrsAt K H gs r.gs
  o : OrAt K H o al as r.st r.sr r.ah
section
variable {K : PySem.W.Frag} {H H' : Hp} {N : Addr → Prop} {n : Nat} {v : V} {T : Tb}
theorem PrsT.sl {xs : List V} {g : List (Int × Str)} (h : PrsT K H xs g) (s : SL T H H') : PrsT K H' xs g := pairedA_mono h fun _ _ ⟨a, e, z⟩ => ⟨a, e, s.sqT z⟩
theorem PrsT.same {xs : List V} {g : List (Int × Str)} (h : PrsT K H xs g) (s : Same H H') : PrsT K H' xs g := pairedA_mono h fun _ _ ⟨a, e, z⟩ => ⟨a, e, sqT_of_same s z⟩
theorem GrsAt.sl {gs : List V} {G : List (List (Int × Str))} (h : GrsAt K H gs G) (s : SL T H H') : GrsAt K H' gs G := pairedA_mono h fun _ _ ⟨a, xs, e, z, y⟩ => ⟨a, xs, e, s.k _ _ nt_lst z, y.sl s⟩
theorem GrsAt.same {gs : List V} {G : List (List (Int × Str))} (h : GrsAt K H gs G) (s : Same H H') : GrsAt K H' gs G := pairedA_mono h fun _ _ ⟨a, xs, e, z, y⟩ => ⟨a, xs, e, s _ _ z, y.same s⟩
theorem OwnsAt.sl {ls : List V} {owns : List (List Str)} (h : OwnsAt H ls owns) (s : SL T H H') : OwnsAt H' ls owns := pairedA_mono h fun _ _ ⟨a, e, z⟩ => ⟨a, e, s.k _ _ nt_lst z⟩
theorem OwnsAt.same {ls : List V} {owns : List (List Str)} (h : OwnsAt H ls owns) (s : Same H H') : OwnsAt H' ls owns := pairedA_mono h fun _ _ ⟨a, e, z⟩ => ⟨a, e, s _ _ z⟩
theorem RuAt.sl {a m pl gl o al : Addr} {kvs : List (Key × V)} {xs gs as : List V} {r : Ru} (h : RuAt K H N n a m pl gl o al kvs xs gs as r) (s : SL T H H') : RuAt K H' N n a m pl gl o al kvs xs gs as r :=
  ⟨s.sqT h.a, h.b.sl s, s.k _ _ nt_lst h.pl, DqAll.sl s h.ps, s.k _ _ nt_lst h.gl, h.gs.sl s, h.o.sl s⟩
theorem RuAt.same {a m pl gl o al : Addr} {kvs : List (Key × V)} {xs gs as : List V} {r : Ru} (h : RuAt K H N n a m pl gl o al kvs xs gs as r) (s : Same H H') : RuAt K H' N n a m pl gl o al kvs xs gs as r :=
  ⟨sqT_of_same s h.a, h.b.same s, s _ _ h.pl, h.ps.same s, s _ _ h.gl, h.gs.same s, h.o.same s⟩
theorem prs_inv {g : List (Int × Str)} : ∀ {xs : List V}, DqAll K H N (n + 1) xs (g.map fun q => .tuple [.int q.1, .str q.2]) → PrsT K H xs g := by
  induction g with
  | nil => intro xs h; cases h; exact .nil
  | cons p r ih =>
    intro as h
    rw [List.map_cons] at h
    cases h with
    | cons a b =>
      refine .cons ?_ (ih b)
      cases a with
      | tup h1 _ h2 =>
        cases h2 with
        | cons a b =>
          cases a
          cases b with
          | cons a b =>
            cases a
            cases b
            exact ⟨_, rfl, h1⟩
theorem grs_inv {G : List (List (Int × Str))} : ∀ {gs : List V}, DqAll K H N (n + 2) gs (G.map grD) → GrsAt K H gs G := by
  induction G with
  | nil => intro xs h; cases h; exact .nil
  | cons p r ih =>
    intro as h
    rw [List.map_cons] at h
    cases h with
    | cons a b =>
      refine .cons ?_ (ih b)
      unfold grD at a
      cases a with
      | lst h1 _ _ h2 => exact ⟨_, _, rfl, h1, prs_inv h2⟩
theorem ru_inv {r : Ru} (h : Dq K H N (n + 4) v (ruD r)) : ∃ a m pl gl o al kvs xs gs as, v = .ref a ∧ RuAt K H N n a m pl gl o al kvs xs gs as r := by
  unfold ruD at h
  cases h with
  | tup h1 _ h2 =>
    cases h2 with
    | cons a b =>
      cases a
      cases b with
      | cons a b =>
        cases a
        cases b with
        | cons a b =>
          cases a
          cases b with
          | cons a b =>
            obtain ⟨m, kvs, rfl, _, hb⟩ := bd_inv a
            cases b with
            | cons a b =>
              cases a with
              | lst p1 _ _ p3 =>
                cases b with
                | cons a b =>
                  cases a with
                  | lst g1 _ _ g3 =>
                    cases b with
                    | cons a b =>
                      obtain ⟨o, al, as, rfl, ho, _⟩ := or_inv a
                      cases b
                      exact ⟨_, m, _, _, o, al, kvs, _, _, as, rfl, h1, hb, p1, p3, g1, grs_inv g3, ho⟩
end
/-! ### what is sound -/
def ownsOf (ks : List Kd) (k : Str) : List Str := match ks.find? fun kd => decide (kd.n = k) with
  | some kd => kd.fs
  | none => []
theorem own_at {ks : List Kd} {k : Str} (h : ∃ kd ∈ ks, kd.n = k) : ∃ kd ∈ ks, kd.n = k ∧ ownsOf ks k = kd.fs := by
  obtain ⟨kd, h1, h2⟩ := h
  cases e : ks.find? fun kd => decide (kd.n = k) with
  | none => exact absurd h2 (by simpa using List.find?_eq_none.mp e kd h1)
  | some kd' =>
    refine ⟨kd', List.mem_of_find?_eq_some e, by simpa using List.find?_some e, ?_⟩
    unfold ownsOf
    rw [e]
/-- of each part's kind, and last of the whole's -/
def ownsR (ks : List Kd) (r : Ru) : List (List Str) := (r.ps.map fun p => ownsOf ks p.k) ++ [ownsOf ks r.k]
def GrOk (owns : List (List Str)) (g : List (Int × Str)) : Prop := g ≠ [] ∧ g.Nodup ∧ ∀ q ∈ g, -1 ≤ q.1 ∧ q.1 + 1 < owns.length ∧ q.2 ∈ owns.getD (if q.1 < 0 then owns.length - 1 else q.1.toNat) []
def InGr (G : List (List (Int × Str))) (f : Str) : Prop := ∃ g ∈ G, ((-1, f) : Int × Str) ∈ g ∧ ∃ q ∈ g, 0 ≤ q.1
instance (G : List (List (Int × Str))) (f : Str) : Decidable (InGr G f) := by unfold InGr; infer_instance
structure RuOk (fs : List Ft) (ks : List Kd) (r : Ru) : Prop where
  n : Nm r.n
  r0 : 0 ≤ r.rk
  r9 : r.rk ≤ 999
  k : ∃ kd ∈ ks, kd.n = r.k ∧ kd.m = false ∧ kd.fs = ownsOf ks r.k
  b : BdOk fs (ownsOf ks r.k) r.b
  p1 : 1 ≤ r.ps.length
  p5 : r.ps.length ≤ 5
  ps : ∀ p ∈ r.ps, PtOk fs ks p
  ro : RolesOk ks r.ps
  gs : ∀ g ∈ r.gs, GrOk (ownsR ks r) g
  fs : ∀ f ∈ ownsOf ks r.k, InGr r.gs f ∨ ∃ p ∈ r.b, p.1 = f ∧ p.2.length = 1
  o : OrOk r.ps.length r.st r.sr r.ah
  pl : plF r.ps.length (r.st : Nat) r.ah ≠ []
section
variable {P : Program} {w : World} {K : PySem.W.Frag} {mg : Str → Option Value} {base : Heap}
/-- is_group, in_group_with_part: Gs false where they aren't reached -/
def spIsGroup (K : PySem.W.Frag) (T : Tb) (Gs : Prop) : Sp := fun vs H Q _ => ∃ (g ow : Addr) (xs ls : List V) (gr : List (Int × Str)) (owns : List (List Str)), vs = [.ref g, .ref ow] ∧ H g = some (.lst xs) ∧ PrsT K H xs gr ∧ H ow = some (.lst ls) ∧ OwnsAt H ls owns ∧ GrOk owns gr ∧ Gs ∧ TbOk T H ∧ ∀ H', SL T H H' → Q (.bl true) H'
def spInGroup (K : PySem.W.Frag) (T : Tb) (Gs : Prop) : Sp := fun vs H Q _ => ∃ (gl : Addr) (gs : List V) (G : List (List (Int × Str))) (f : Str), vs = [.str f, .ref gl] ∧ H gl = some (.lst gs) ∧ GrsAt K H gs G ∧ Gs ∧ TbOk T H ∧ ∀ H', SL T H H' → Q (.bl (decide (InGr G f))) H'
end
end Bn

set_option pp.maxSteps 400
namespace Bn
open PySem PySem.Spec PyProof.Rows L2 BR GX RM GY
theorem BdAt.val {H : Hp} {m : Addr} {kvs : List (Key × V)} {b : Bd} {q : Str × List Str} (h : BdAt H m kvs b) (hq : q ∈ b) : ∃ l, valV kvs (.inr q.1) = some (.ref l) ∧ H l = some (.lst (q.2.map V.str)) := by
  obtain ⟨i, hi, e⟩ := List.mem_iff_getElem.mp hq
  have hl := Paired.length h.r
  have hk : kvs[i]? = some (kvs[i]'(by omega)) := List.getElem?_eq_getElem _
  obtain ⟨q', e1, e2, l, e3, e4⟩ := pairedA_at h.r hk
  rw [List.getElem?_eq_getElem hi, e] at e1
  cases e1
  refine ⟨l, ?_, e4⟩
  have := valV_nd h.nd (i := i) (k := .inr q.1) (v := .ref l) (by rw [hk, ← e2, ← e3])
  exact this
section
variable {P : Program} {w : World} {K : PySem.W.Frag} {mg : Str → Option Value} {base : Heap}
/-- len with a letter K -/
def rLenK (K : PySem.W.Frag) : List V → Hp → VK → Prop := fun xs H Q => ∃ p ys, xs = [V.ref p] ∧ (SqL K H p ys ∨ SqT K H p ys) ∧ Q (.int (ys.length : Nat)) H
theorem call_lenK {X : Cx} {K : PySem.W.Frag} (eK : X.K = K) : CallR X (.builtin "len") (rLenK K) := cr_K (r := rLenK) eK call_len_seq
/-! ### is_rule -/
abbrev NRu : List Str := ["rule", "features", "kinds", "name", "rank", "kind", "bundle", "parts", "agrees", "order", "own", "owns", "part", "group", "feature"]
def spIsRule (K : PySem.W.Frag) (T : Tb) (Gs : Prop) : Sp := fun vs H Q _ => ∃ (a fe kd m pl gl o al : Addr) (kvs : List (Key × V)) (xs gs as : List V) (r : Ru) (fs : List Ft) (ks : List Kd) (N : Addr → Prop) (n : Nat), vs = [.ref a, .ref fe, .ref kd] ∧
  RuAt K H N n a m pl gl o al kvs xs gs as r ∧ FtsD H fe fs ∧ KdsD K H kd ks ∧ RuOk fs ks r ∧ (r.gs ≠ [] → Gs) ∧ (ownsOf ks r.k ≠ [] → Gs) ∧ TbOk T H ∧ ∀ H', SL T H H' → Q (.bl true) H'
theorem ok_isRule {f c0 pT fN fR fB fP fH fG fI fO fL : Addr} {fd fdN fdR fdB fdP fdH fdG fdI fdO fdL : FuncData} {T : Tb} {Gs : Prop} {k : Nat} {t : Tok} (F : FunC K "is_rule" "is_rule" s_is_rule f fd c0) (TB : GxR.TabB base mg c0 pT) (hP : pT ∈ T.ps) (hF : T.F ∉ T.ps) (ma : mg "all" = none) (ml : mg "len" = none) (m5 : mg "MOST_PARTS" = some (.int 5 t))
    (kN : PySem.W.keepIn K (.ref fN) = true) (bN : Binds K fdN ["text"] []) (gN : mg "is_name" = some (.ref fN)) (GN : FnOk P w K mg base CX0 (k + 2) fN fdN ["text"] (spIsName T))
    (kR : PySem.W.keepIn K (.ref fR) = true) (bR : Binds K fdR ["number"] []) (gR : mg "is_rank" = some (.ref fR)) (GR : FnOk P w K mg base CX0 (k + 1) fR fdR ["number"] spIsRank)
    (kB : PySem.W.keepIn K (.ref fB) = true) (bB : Binds K fdB ["bundle", "own", "features"] []) (gB : mg "is_bundle" = some (.ref fB)) (GB : FnOk P w K mg base CX0 (k + 1) fB fdB ["bundle", "own", "features"] spIsBundle)
    (kP : PySem.W.keepIn K (.ref fP) = true) (bP : Binds K fdP ["part", "features", "kinds"] []) (gP : mg "is_part" = some (.ref fP)) (GP : FnOk P w K mg base CX0 (k + 3) fP fdP ["part", "features", "kinds"] (spIsPart K T))
    (kH : PySem.W.keepIn K (.ref fH) = true) (bH : Binds K fdH ["parts", "kinds"] []) (gH : mg "have_roles" = some (.ref fH)) (GH : FnOk P w K mg base CX0 (k + 1) fH fdH ["parts", "kinds"] (spHaveRoles K))
    (kG : PySem.W.keepIn K (.ref fG) = true) (bG : Binds K fdG ["group", "owns"] []) (gG : mg "is_group" = some (.ref fG)) (GG : FnOk P w K mg base CX0 (k + 8) fG fdG ["group", "owns"] (spIsGroup K T Gs))
    (kI : PySem.W.keepIn K (.ref fI) = true) (bI : Binds K fdI ["feature", "agrees"] []) (gI : mg "in_group_with_part" = some (.ref fI)) (GI : FnOk P w K mg base CX0 (k + 8) fI fdI ["feature", "agrees"] (spInGroup K T Gs))
    (kO : PySem.W.keepIn K (.ref fO) = true) (bO : Binds K fdO ["order", "many"] []) (gO : mg "is_order" = some (.ref fO)) (GO : FnOk P w K mg base CX0 (k + 5) fO fdO ["order", "many"] (spIsOrder K T))
    (kL : PySem.W.keepIn K (.ref fL) = true) (bL : Binds K fdL ["rule"] []) (gL : mg "places_of" = some (.ref fL)) (GL : FnOk P w K mg base CX0 (k + 5) fL fdL ["rule"] (spPl K T)) :
    FnOk P w K mg base CX0 (k + 13) f fd ["rule", "features", "kinds"] (spIsRule K T Gs) := by
  refine F.ok sc_is_rule (fun vs H Q E h => ?_) (fun A outer s H vs Q E hr h => ?_)
  · obtain ⟨a, fe, kd, m, pl, gl, o, al, kvs, xs, gs, as, r, fs, ks, N, n, rfl, _⟩ := h
    rfl
  · obtain ⟨a, fe, kd, m, pl, gl, o, al, kvs, xs, gs, as, r, fs, ks, N, n, rfl, hR, hfe, hkd, hok, hG, hW, hT, q⟩ := h
    have hu := hu_of hr
    have hu2 : ∀ env : Env, (_ : Around).units + 1 < cLine := fun env => hu_of (room_gen hr env)
    refine ⟨_, pss_cons (ps_asg (pv 0) (pg_tup rfl (pgs_cons (pg_name (i := 3) sc_is_rule.nd rfl (.inl rfl)) (pgs_cons (pg_name (i := 4) sc_is_rule.nd rfl (.inl rfl)) (pgs_cons (pg_name (i := 5) sc_is_rule.nd rfl (.inl rfl)) (pgs_cons (pg_name (i := 6) sc_is_rule.nd rfl (.inr rfl)) (pgs_cons (pg_name (i := 7) sc_is_rule.nd rfl (.inl rfl)) (pgs_cons (pg_name (i := 8) sc_is_rule.nd rfl (.inr rfl)) (pgs_cons (pg_name (i := 9) sc_is_rule.nd rfl (.inl rfl)) pgs_nil)))))))))
      (pss_cons (ps_if (PW.pt (pw_or (pt_not (pt_val (pe_call GN (hr.mono (by omega)) (by rfl) gN kN bN .nil pass0 (pa_cons (pv 3) pa_nil)))) (pw_or (pt_not (pt_val (pe_call GR (hr.mono (by omega)) (by rfl) gR kR bR .nil pass0 (pa_cons (pv 4) pa_nil)))) (pw_or (pt_cmp (pc_dnotin hu (pv 5) (pv 2))) (pw_or1 (pt_val (pe_ix ix_tup (pe_dget hu (pv 2) (pv 5) (fun _ _ => rfl)) pe_int (fun _ _ => rfl)))))))) (pss_one (ps_ret pe_bl)) pss_nil)
      (pss_cons (ps_set (i := 10) sc_is_rule.nd rfl (.inl rfl) (pe_ix ix_tup (pe_dget hu (pv 2) (pv 5) (fun _ _ => rfl)) pe_int (fun _ _ => rfl)))
      (pss_cons (ps_if (PW.pt (pw_or (pt_not (pt_val (pe_call GB (hr.mono (by omega)) (by rfl) gB kB bB .nil pass0 (pa_cons (pv 6) (pa_cons (pv 10) (pa_cons (pv 1) pa_nil)))))) (pw_or1 (pt_not (pt_chain op_le op_le pe_int (pe_callB call_len_seq (by rfl) ml PySem.boot_len (pa_cons (pv 7) pa_nil)) (pe_glob (v := .int 5) (by rfl) m5 ⟨_, rfl⟩)))))) (pss_one (ps_ret pe_bl)) pss_nil)
      (pss_cons (ps_if (PW.pt (pw_or (pt_not (pt_val (pe_all (own := [("part", 12)]) (g := gName 12) hr (by rfl) ma (by decide +kernel) TB rfl rfl sc_is_rule.nd (pi_list (pv 7))
          (blkOk_by (own := [("part", 12)]) (N := NRu) (sc := defScope s_is_rule) (by decide +kernel)) rfl (by decide +kernel) rfl
          (fun _ _ _ _ _ _ => pg_name (i := 12) sc_is_rule.nd rfl (Or.inl rfl)) (fun _ _ _ _ _ _ => pts_nil)
          (fun _ _ _ _ _ _ => pe_call GP ((room_gen hr _).mono (by omega)) (by rfl) gP kP bP .nil pass0 (pa_cons (pv 12) (pa_cons (pv 1) (pa_cons (pv 2) pa_nil))))))) (pw_or1 (pt_not (pt_val (pe_call GH (hr.mono (by omega)) (by rfl) gH kH bH .nil pass0 (pa_cons (pv 7) (pa_cons (pv 2) pa_nil)))))))) (pss_one (ps_ret pe_bl)) pss_nil)
      (pss_cons (ps_set (i := 11) sc_is_rule.nd rfl (.inr rfl) (pe_op op_cat (pe_lc (own := [("part", 12)]) (g := gName 12) rfl sc_is_rule.nd (pi_list (pv 7))
          (blkOk_by (own := [("part", 12)]) (N := NRu) (sc := defScope s_is_rule) (by decide +kernel)) (fun _ _ _ _ _ => pg_name (i := 12) sc_is_rule.nd rfl (.inl rfl)) (fun _ _ _ _ _ => pts_nil)
          (fun _ _ _ _ _ => pe_ix (ix_tupK (K := K) rfl) (pe_dget hu (pv 2) (pe_ix (ix_tupK (K := K) rfl) (pv 12) pe_int (fun _ _ => rfl)) (fun _ _ => rfl)) pe_int (fun _ _ => rfl))) (pe_lst (pa_cons (pv 10) pa_nil))))
      (pss_cons (ps_if (pt_not (pt_val (pe_all (own := [("group", 13)]) (g := gName 13) hr (by rfl) ma (by decide +kernel) TB rfl rfl sc_is_rule.nd (pi_list (pv 8))
          (blkOk_by (own := [("group", 13)]) (N := NRu) (sc := defScope s_is_rule) (by decide +kernel)) rfl (by decide +kernel) rfl
          (fun _ _ _ _ _ _ => pg_name (i := 13) sc_is_rule.nd rfl (Or.inl rfl)) (fun _ _ _ _ _ _ => pts_nil)
          (fun _ _ _ _ _ _ => pe_call GG ((room_gen hr _).mono (by omega)) (by rfl) gG kG bG .nil pass0 (pa_cons (pv 13) (pa_cons (pv 11) pa_nil)))))) (pss_one (ps_ret pe_bl)) pss_nil)
      (pss_cons (ps_if (pt_not (pt_val (pe_all (own := [("feature", 14)]) (g := gName 14) hr (by rfl) ma (by decide +kernel) TB rfl rfl sc_is_rule.nd (pi_list (pv 10))
          (blkOk_by (own := [("feature", 14)]) (N := NRu) (sc := defScope s_is_rule) (by decide +kernel)) rfl (by decide +kernel) rfl
          (fun _ _ _ _ _ _ => pg_name (i := 14) sc_is_rule.nd rfl (Or.inl rfl)) (fun _ _ _ _ _ _ => pts_nil)
          (fun _ _ _ _ _ _ => pe_or (pe_call GI ((room_gen hr _).mono (by omega)) (by rfl) gI kI bI .nil pass0 (pa_cons (pv 14) (pa_cons (pv 8) pa_nil))) (pe_one (pe_cmpR op_eq (pe_callB (call_lenK (K := K) rfl) (by rfl) ml PySem.boot_len (pa_cons (pe_dget2 (hu2 _) (pv 6) (pv 14) (pe_lst pa_nil) ⟨rfl, rfl, rfl, rfl⟩) pa_nil)) pe_int (nomark _))))))) (pss_one (ps_ret pe_bl)) pss_nil)
      (pss_one (ps_ret (pe_and (pe_call GO (hr.mono (by omega)) (by rfl) gO kO bO .nil pass0 (pa_cons (pv 9) (pa_cons (pe_callB call_len_seq (by rfl) ml PySem.boot_len (pa_cons (pv 7) pa_nil)) pa_nil))) (pe_one (pe_cmpR (op_neE hr.units) (pe_call GL (hr.mono (by omega)) (by rfl) gL kL bL .nil pass0 (pa_cons (pv 0) pa_nil)) (pe_lst pa_nil) (nomark _))))))))))))), ?_⟩
    refine ⟨_, rfl, a, _, rfl, hR.a, rfl, _, _, rfl, _, _, rfl, _, _, rfl, _, _, rfl, _, _, rfl, _, _, rfl, _, _, rfl, rfl, ?_⟩
    obtain ⟨kk, hkk, ek, em, eo⟩ := hok.k
    have dn : ∀ {HX : Hp} {z : Str}, SL T H HX → (∃ kd ∈ ks, kd.n = z) → ∃ kv2 ka l2 g3 g4, HX kd = some (.dK kv2) ∧ valV kv2 (.inr z) = some (.ref ka) ∧ SqT K HX ka [.str z, .ref l2, .bl g3, .bl g4] ∧ HX l2 = some (.lst ((ownsOf ks z).map V.str)) := fun {HX z} s hz => by
      obtain ⟨k1, q1, q2, q3⟩ := own_at hz
      obtain ⟨kv2, e1, e2⟩ := hkd.sl s
      obtain ⟨ka, l2, e3, e4, e5⟩ := e2 k1 q1
      rw [q2] at e3 e4
      exact ⟨kv2, ka, l2, _, _, e1, e3, e4, by rw [q3]; exact e5⟩
    refine ⟨_, rfl, r.n, rfl, hok.n, hT, fun H1 s1 => ⟨true, rfl, iteF ?_⟩⟩
    refine ⟨_, rfl, r.rk, rfl, hok.r0, hok.r9, true, rfl, iteF ?_⟩
    obtain ⟨kv2, e10, e2⟩ := id hkd
    obtain ⟨ka, l2, e3, e40, e50⟩ := e2 kk hkk
    rw [ek] at e3
    rw [eo] at e50
    have e1 := s1.k _ _ nt_dK e10
    have e4 := s1.sqT e40
    have e5 := s1.k _ _ nt_lst e50
    refine ⟨_, rfl, _, rfl, kd, _, rfl, .inl ⟨kv2, .inr r.k, .inl e1, rfl, e3.symm⟩, _, rfl, iteF ?_⟩
    refine ⟨_, rfl, _, rfl, kd, _, rfl, .inl ⟨kv2, .inr r.k, .inl e1, rfl, e3.symm⟩, ka, _, _, V.bl kk.m, rfl, rfl, e4, rfl, kk.m, rfl, ?_⟩
    rw [em]
    refine iteF ?_
    refine ⟨_, rfl, _, rfl, kd, _, rfl, .inl ⟨kv2, .inr r.k, .inl e1, rfl, e3.symm⟩, ka, _, _, V.ref l2, rfl, rfl, e4, rfl, ?_⟩
    have hR1 := hR.sl s1
    refine ⟨_, rfl, _, rfl, _, rfl, m, l2, fe, kvs, r.b, ownsOf ks r.k, fs, rfl, hR1.b, e5, hfe.sl s1, hok.b, fun H2 s12 => ⟨true, rfl, iteF ?_⟩⟩
    have s2 := s1.same s12
    have hR2 := hR1.same s12
    have e52 := s12 _ _ e5
    have hxl : xs.length = r.ps.length := by rw [hR.ps.len, List.length_map]
    refine ⟨_, rfl, pl, xs, rfl, .inl (.inl (.inl hR2.pl)), _, _, rfl, rfl, _, rfl, ?_⟩
    rw [hxl, decide_eq_true (show (1 : Int) ≤ (r.ps.length : Nat) by exact_mod_cast hok.p1)]
    refine iteT ⟨_, _, rfl, rfl, _, rfl, ?_⟩
    rw [decide_eq_true (show ((r.ps.length : Nat) : Int) ≤ 5 by exact_mod_cast hok.p5)]
    refine iteF ?_
    refine ⟨_, rfl, pl, rfl, ⟨_, .inl (.inl hR2.pl)⟩, s2.t.g _ hP, fun H3 hTb => ?_⟩
    refine all_it (walk_list (K := K) (a := pl) (xs := xs)) (fun i HZ => SL T H HZ) (s2.trans (SL.tab hF s2.t hP hTb)) (fun i HZ _ z => .inl (.inl (hR.sl z).pl)) (fun i x HZ HZ' hi hP' hY => ?_) (fun H4 s4 => ?_)
    · obtain ⟨rfl, hx⟩ := hY
      have hRZ := hR.sl hP'
      obtain ⟨p, hp, hdq⟩ := dq_at hRZ.ps hx
      exact ⟨rfl, tYes_in ⟨_, rfl, _, rfl, _, rfl, x, fe, kd, p, fs, ks, N, n, rfl, hdq, hfe.sl hP', hkd.sl hP', hok.ps p (List.mem_of_getElem? hp), hP'.t, fun H5 s5 => ⟨true, rfl, fun _ => hP'.trans s5, fun z => by cases z⟩⟩⟩
    clear hR1 hR2 e52 e1 e10 e2 e3 e4 e40 e5 s12 s1
    have hR4 := hR.sl s4
    refine ⟨true, rfl, iteF ⟨_, rfl, _, rfl, pl, kd, xs, r.ps, ks, N, n, rfl, hR4.pl, hR4.ps, hkd.sl s4, hok.ro, hok.p5, fun H5 s45 => ⟨true, rfl, iteF ?_⟩⟩⟩
    have s5 := s4.same s45
    have hR5 := hR.sl s5
    refine ⟨_, rfl, pl, rfl, ⟨_, .inl (.inl hR5.pl)⟩, fun D nD => ?_⟩
    refine lc_it (walk_list (K := K) (a := pl) (xs := xs)) (fun i HW => Same H5 HW ∧ ∃ ls, HW D = some (.lst ls) ∧ OwnsAt H5 ls ((r.ps.take i).map fun p => ownsOf ks p.k)) ⟨same_new nD, [], upd_same, .nil⟩ (fun i HW _ z => .inl (.inl (z.1 _ _ hR5.pl))) (fun i v HW HW' hi hP' hY => ?_) (fun HW hP' => ?_)
    · obtain ⟨e0, hv⟩ := hY
      subst e0
      obtain ⟨sW, ls, hDW, hls⟩ := hP'
      obtain ⟨p, hp, hdq⟩ := dq_at hR5.ps hv
      obtain ⟨a2, m2, kvs2, rfl, ha2, _, _⟩ := pt_inv hdq
      obtain ⟨kd1, q1, q2, _⟩ := (hok.ps p (List.mem_of_getElem? hp)).k
      obtain ⟨kv3, kb, l3, g3, g4, f1, f2, f3, f4⟩ := dn s5 ⟨kd1, q1, q2⟩
      refine ⟨rfl, tYes_in ⟨_, rfl, _, rfl, a2, _, _, V.str p.k, rfl, rfl, sqT_of_same sW ha2, rfl, kd, _, rfl, .inl ⟨kv3, .inr p.k, .inl (sW _ _ f1), rfl, f2.symm⟩, kb, _, _, V.ref l3, rfl, rfl, sqT_of_same sW f3, rfl, _, hDW, ?_, Same.own sW nD, ls ++ [.ref l3], upd_same, ?_⟩⟩
      · rw [Paired.length hls, List.length_map, List.length_take]
        have := hok.p5
        exact small_line (by omega)
      · rw [take_get hp, List.map_append]
        exact paired_snoc hls ⟨l3, rfl, f4⟩
    obtain ⟨sW, ls, hDW, hls⟩ := hP'
    rw [hxl, List.take_length] at hls
    have hls2 : OwnsAt H5 (ls ++ [.ref l2]) (ownsR ks r) := paired_snoc hls ⟨l2, rfl, s5.k _ _ nt_lst e50⟩
    have lsl : ls.length = r.ps.length := by rw [Paired.length hls, List.length_map]
    refine ⟨_, rfl, (show 1 ≤ sizeLine by decide), fun b nb => ?_⟩
    have sb := same_new (o := .lst [.ref l2]) nb
    refine ⟨D, b, ls, [.ref l2], rfl, rfl, sb _ _ hDW, upd_same, ?_, fun p np => ?_⟩
    · have := hok.p5
      rw [lsl]
      exact Nat.le_of_lt (small_line (show r.ps.length + 1 < 1000 by omega))
    have sp := same_new (o := .lst (ls ++ [.ref l2])) np
    have hpo : (upd (upd HW b (.lst [.ref l2])) p (.lst (ls ++ [.ref l2]))) p = some (.lst (ls ++ [.ref l2])) := upd_same
    have sA5 := (sW.trans sb).trans sp
    generalize upd (upd HW b (.lst [.ref l2])) p (.lst (ls ++ [.ref l2])) = HA at sA5 hpo sp ⊢
    clear hR4 hR5 hDW sW sb
    have hlsA := hls2.same sA5
    have s6 := s5.same sA5
    refine ⟨_, rfl, gl, rfl, ⟨_, .inl (.inl (hR.sl s6).gl)⟩, s6.t.g _ hP, fun H6 hTb6 => ?_⟩
    refine all_it (walk_list (K := K) (a := gl) (xs := gs)) (fun i HZ => SL T HA HZ) (SL.tab hF s6.t hP hTb6) (fun i HZ _ z => .inl (.inl (hR.sl (s6.trans z)).gl)) (fun i x HZ HZ' hi hP' hY => ?_) (fun H7 s67 => ?_)
    · obtain ⟨rfl, hx⟩ := hY
      have sZ := s6.trans hP'
      have hRZ := hR.sl sZ
      obtain ⟨g, hg, ga, gx, rfl, hga, hgx⟩ := pairedA_at hRZ.gs hx
      have hgm := List.mem_of_getElem? hg
      exact ⟨rfl, tYes_in ⟨_, rfl, _, rfl, ga, p, gx, _, g, ownsR ks r, rfl, hga, hgx, hP'.k _ _ nt_lst hpo, hlsA.sl hP', hok.gs g hgm, hG (fun z => by rw [z] at hgm; cases hgm), sZ.t, fun H5 s5 => ⟨true, rfl, fun _ => hP'.trans s5, fun z => by cases z⟩⟩⟩
    clear hTb6 H6
    have s7 := s6.trans s67
    refine ⟨true, rfl, iteF ⟨_, rfl, l2, rfl, ⟨_, .inl (.inl (s7.k _ _ nt_lst e50))⟩, s7.t.g _ hP, fun H8 hTb8 => ?_⟩⟩
    refine all_it (walk_list (K := K) (a := l2) (xs := (ownsOf ks r.k).map V.str)) (fun i HZ => SL T H HZ) (s7.trans (SL.tab hF s7.t hP hTb8)) (fun i HZ _ z => .inl (.inl (z.k _ _ nt_lst e50))) (fun i x HZ HZ' hi hP' hY => ?_) (fun H9 s9 => ?_)
    · obtain ⟨rfl, hx⟩ := hY
      rw [List.getElem?_map] at hx
      obtain ⟨y, hy, rfl⟩ := Option.map_eq_some_iff.mp hx
      have hym := List.mem_of_getElem? hy
      have hRZ := hR.sl hP'
      refine ⟨rfl, tYes_in ⟨_, rfl, _, rfl, gl, gs, r.gs, y, rfl, hRZ.gl, hRZ.gs, hW (fun z => by rw [z] at hym; cases hym), hP'.t, fun H10 s10 => ?_⟩⟩
      have sZ := hP'.trans s10
      refine ⟨_, rfl, ?_⟩
      by_cases hin : InGr r.gs y
      · rw [decide_eq_true hin]
        exact iteT ⟨true, rfl, fun _ => sZ, fun z => by cases z⟩
      · rw [decide_eq_false hin]
        obtain ⟨q, hq, rfl, hl⟩ := (hok.fs y hym).resolve_left hin
        have hRB := (hR.sl sZ).b
        refine iteF ⟨_, rfl, m, rfl, .inl ⟨_, .inl hRB.d⟩, _, rfl, Nat.zero_le _, fun e ne => ?_⟩
        obtain ⟨l, hv, hlq⟩ := hRB.val hq
        have sn := same_new (o := .lst []) ne
        refine ⟨some (.ref l), .inl ⟨kvs, .inr q.1, .inl (sn _ _ hRB.d), rfl, hv.symm⟩, l, q.2.map V.str, rfl, .inl (.inl (.inl (sn _ _ hlq))), rfl, _, rfl, fun _ => sZ.same sn, fun z => ?_⟩
        rw [List.length_map, hl] at z
        cases z
    refine ⟨true, rfl, iteF ⟨_, rfl, _, rfl, pl, xs, rfl, .inl (.inl (.inl (hR.sl s9).pl)), ?_⟩⟩
    rw [hxl]
    have hR9 := hR.sl s9
    refine ⟨o, al, as, r.ps.length, r.st, r.sr, r.ah, rfl, hR9.o, hok.o, s9.t, fun H10 s10 => ⟨true, rfl, iteT ?_⟩⟩
    have s10 := s9.trans s10
    have hR10 := hR.sl s10
    refine ⟨_, rfl, a, pl, o, al, r.ps.length, ((r.st : Nat) : Int), ((r.sr : Nat) : Int), r.ah, xs, as, _, _, _, _, _, rfl, ⟨hR10.a, hR10.pl, hxl, hR10.o.o, hR10.o.al, hR10.o.as⟩, hok.p5, fun pr h => (hok.o.ah pr h).2, s10.t, fun rr H11 nr s11 hrows => ?_⟩
    obtain ⟨ts, hts, htp⟩ := hrows
    refine ⟨Nat.zero_le _, fun e ne => ?_⟩
    have sn := same_new (o := .lst []) ne
    refine ⟨rr, e, _, rfl, rfl, sn _ _ hts, upd_same, ?_⟩
    have htl := Paired.length htp
    have hpl := List.length_pos_iff.mpr hok.pl
    have : (!(ts.map V.ref).isEmpty) = true := by
      cases ts with
      | nil => exact absurd htl (by simp only [List.length_nil]; omega)
      | cons _ _ => rfl
    rw [this]
    exact q _ ((s10.trans s11).same sn)
end
end Bn

set_option pp.maxSteps 400
namespace Bn
open PySem PySem.Spec PyProof.Rows L2 BR GX RM GY
/-- the kind of the first part with this role -/
def firstK (ps : List Pt) (z : Str) : Str := match ps.find? fun p => decide (p.r = z) with
  | some p => p.k
  | none => ""
def ledM (ps : List Pt) : Option Str := if ("fill" : Str) ∈ rolesOf ps then some (firstK ps "fill") else if (rolesOf ps).all (fun z => decide (z ∈ (["head", "-"] : List Str))) then some (firstK ps "head") else none
def oV : Option Str → V
  | some x => .str x
  | none => .non
theorem firstK_at {ps : List Pt} {z : Str} {j : Nat} (h : (rolesOf ps)[j]? = some z) (hb : ∀ m < j, (rolesOf ps)[m]? ≠ some z) : ∃ p, ps[j]? = some p ∧ p.r = z ∧ firstK ps z = p.k := by
  induction ps generalizing j with
  | nil => simp at h
  | cons p r ih =>
    cases j with
    | zero =>
      have e : p.r = z := by simpa using h
      refine ⟨p, rfl, e, ?_⟩
      unfold firstK
      rw [List.find?_cons_of_pos (by simpa using e)]
    | succ j =>
      have e : ¬ p.r = z := fun e => hb 0 (by omega) (by simp [e])
      obtain ⟨q, h1, h2, h3⟩ := ih (j := j) (by simpa using h) (fun m hm z => hb (m + 1) (by omega) (by simpa using z))
      refine ⟨q, by simpa using h1, h2, ?_⟩
      rw [← h3]
      unfold firstK
      rw [List.find?_cons_of_neg (by simpa using e)]
section
variable {P : Program} {w : World} {K : PySem.W.Frag} {mg : Str → Option Value} {base : Heap}
/-! ### led_by -/
abbrev NLb : List Str := ["rule", "roles", "part", "role"]
def spLed (K : PySem.W.Frag) (T : Tb) : Sp := fun vs H Q _ => ∃ (a m pl gl o al : Addr) (kvs : List (Key × V)) (xs gs as : List V) (r : Ru) (ks : List Kd) (N : Addr → Prop) (n : Nat), vs = [.ref a] ∧ RuAt K H N n a m pl gl o al kvs xs gs as r ∧ RolesOk ks r.ps ∧ r.ps.length ≤ 5 ∧ TbOk T H ∧ ∀ H', SL T H H' → Q (oV (ledM r.ps)) H'
theorem ok_led {f c0 pT : Addr} {fd : FuncData} {T : Tb} {k : Nat} (F : FunC K "led_by" "led_by" s_led_by f fd c0) (TB : GxR.TabB base mg c0 pT) (hP : pT ∈ T.ps) (hF : T.F ∉ T.ps) (ma : mg "all" = none) :
    FnOk P w K mg base CX0 (k + 5) f fd ["rule"] (spLed K T) := by
  refine F.ok sc_led_by (fun vs H Q E h => ?_) (fun A outer s H vs Q E hr h => ?_)
  · obtain ⟨a, m, pl, gl, o, al, kvs, xs, gs, as, r, ks, N, n, rfl, _⟩ := h
    rfl
  · obtain ⟨a, m, pl, gl, o, al, kvs, xs, gs, as, r, ks, N, n, rfl, hR, hro, h5, hT, q⟩ := h
    have hu := hu_of hr
    refine ⟨_, pss_cons (ps_setLc (i := 1) (own := [("part", 2)]) (g := gName 2) (tt := tYes) rfl sc_led_by.nd rfl rfl (sw_true rfl rfl rfl (by decide +kernel)) (pi_list (pe_ix ix_tup (pv 0) pe_int (fun _ _ => rfl)))
          (blkOk_by (own := [("part", 2)]) (N := NLb) (sc := defScope s_led_by) (by decide +kernel)) (fun _ _ _ _ _ => pg_name (i := 2) sc_led_by.nd rfl (.inl rfl)) (fun _ _ _ _ _ => pts_nil)
          (fun _ _ _ _ _ => pe_ix (ix_tupK (K := K) rfl) (pv 2) pe_int (fun _ _ => rfl)))
      (pss_cons (ps_if (pt_cmpR (op_inK (K := K) rfl) pe_str (pv 1) (by rfl)) (pss_one (ps_ret (pe_ix ix_tup (pe_ix ix_list (pe_ix ix_tup (pv 0) pe_int (fun _ _ => rfl)) (pe_bm PySem.F.plainAttrs_list PySem.F.slot_list_index PySem.F.type_list_index mt_index (pv 1) (pa_cons pe_str pa_nil)) (fun _ _ => rfl)) pe_int (fun _ _ => rfl)))) pss_nil)
      (pss_cons (ps_if (pt_val (pe_all (own := [("role", 3)]) (g := gName 3) hr (by rfl) ma (by decide +kernel) TB rfl rfl sc_led_by.nd (pi_list (pv 1))
          (blkOk_by (own := [("role", 3)]) (N := NLb) (sc := defScope s_led_by) (by decide +kernel)) rfl (by decide +kernel) rfl
          (fun _ _ _ _ _ _ => pg_name (i := 3) sc_led_by.nd rfl (Or.inl rfl)) (fun _ _ _ _ _ _ => pts_nil)
          (fun _ _ _ _ _ _ => pe_cmpR (op_inK (K := K) rfl) (pv 3) (pe_tup (pa_cons pe_str (pa_cons pe_str pa_nil))) (by rfl)))) (pss_one (ps_ret (pe_ix ix_tup (pe_ix ix_list (pe_ix ix_tup (pv 0) pe_int (fun _ _ => rfl)) (pe_bm PySem.F.plainAttrs_list PySem.F.slot_list_index PySem.F.type_list_index mt_index (pv 1) (pa_cons pe_str pa_nil)) (fun _ _ => rfl)) pe_int (fun _ _ => rfl)))) pss_nil)
      (pss_one (ps_ret pe_non)))), ?_⟩
    refine ⟨_, rfl, a, _, _, V.ref pl, rfl, rfl, hR.a, rfl, pl, rfl, ⟨_, .inl (.inl hR.pl)⟩, fun D nD => ?_⟩
    have hxl : xs.length = r.ps.length := by rw [hR.ps.len, List.length_map]
    refine lc_it (walk_list (K := K) (a := pl) (xs := xs)) (fun i HW => Same H HW ∧ HW D = some (.lst ((rolesOf (r.ps.take i)).map V.str))) ⟨same_new nD, upd_same⟩ (fun i HW _ z => .inl (.inl (z.1 _ _ hR.pl))) (fun i v HW HW' hi hP' hY => ?_) (fun HW hP' => ?_)
    · obtain ⟨e0, hv⟩ := hY
      subst e0
      obtain ⟨sW, hDW⟩ := hP'
      obtain ⟨p, hp, hdq⟩ := dq_at hR.ps hv
      obtain ⟨a2, m2, kvs2, rfl, ha2, _, _⟩ := pt_inv hdq
      have htk : r.ps.take (i + 1) = r.ps.take i ++ [p] := by rw [List.take_succ, hp]; rfl
      refine ⟨rfl, tYes_in ⟨_, rfl, a2, _, _, V.str p.r, rfl, rfl, sqT_of_same sW ha2, rfl, _, hDW, ?_, Same.own sW nD, ?_⟩⟩
      · rw [List.length_map, List.length_map, List.length_take]
        exact small_line (by omega)
      · rw [upd_same, htk, show rolesOf (r.ps.take i ++ [p]) = rolesOf (r.ps.take i) ++ [p.r] from List.map_append, List.map_append]
        rfl
    obtain ⟨sW, hDW⟩ := hP'
    rw [hxl, List.take_length] at hDW
    have sL := SL.of hT sW
    have eqs : ∀ z : Str, eqV (.str z) (.str z) = true := fun z => by simp [eqV]
    have nes : ∀ {j : Nat} {z : Str}, (∀ m < j, (rolesOf r.ps)[m]? ≠ some z) → ∀ (m : Nat) (z' : V), m < j → ((rolesOf r.ps).map V.str)[m]? = some z' → eqV z' (.str z) = false := fun {j z} h m z' hm e => by
      rw [List.getElem?_map] at e
      obtain ⟨y, hy, rfl⟩ := Option.map_eq_some_iff.mp e
      have ne : ¬ y = z := fun e2 => h m hm (e2 ▸ hy)
      simp [eqV, ne]
    have getr : ∀ {z : Str}, z ∈ rolesOf r.ps → ∃ (j : Nat) (a2 m2 : Addr) (p : Pt), ((rolesOf r.ps).map V.str)[j]? = some (.str z) ∧ (∀ (m : Nat) (z' : V), m < j → ((rolesOf r.ps).map V.str)[m]? = some z' → eqV z' (.str z) = false) ∧ xs[j]? = some (.ref a2) ∧ SqT K H a2 [.str p.r, .str (firstK r.ps z), .ref m2, .bl p.o] := fun {z} hz => by
      obtain ⟨j, f1, f2⟩ := first_at hz
      obtain ⟨p, g1, g2, g3⟩ := firstK_at f1 f2
      have hj := (List.getElem?_eq_some_iff.mp g1).1
      have hxj : xs[j]? = some (xs[j]'(by omega)) := List.getElem?_eq_getElem _
      obtain ⟨p', hp', hdq⟩ := dq_at hR.ps hxj
      rw [g1] at hp'
      cases hp'
      obtain ⟨a2, m2, _, ea, ha, _, _⟩ := pt_inv hdq
      rw [ea] at hxj
      exact ⟨j, a2, m2, p, by rw [List.getElem?_map, f1]; rfl, nes f2, hxj, by rw [g3]; exact ha⟩
    have sqD : SqL K HW D ((rolesOf r.ps).map V.str) := .inl (.inl hDW)
    refine ⟨_, rfl, D, _, rfl, .inl sqD, rfl, flat_strs _, decide (("fill" : Str) ∈ rolesOf r.ps), congrArg V.bl (show (if false = true then !inV (.str "fill") ((rolesOf r.ps).map V.str) else inV (.str "fill") ((rolesOf r.ps).map V.str)) = decide (("fill" : Str) ∈ rolesOf r.ps) from inV_dec _ _), ?_⟩
    by_cases hf : ("fill" : Str) ∈ rolesOf r.ps
    · rw [decide_eq_true hf]
      obtain ⟨j, a2, m2, p, g1, g2, g3, g4⟩ := getr hf
      have hq := q HW sL
      rw [show ledM r.ps = some (firstK r.ps "fill") by unfold ledM; rw [if_pos hf]] at hq
      exact iteT ⟨_, rfl, a, _, _, V.ref pl, rfl, rfl, sqT_of_same sW hR.a, rfl, _, rfl, .inl ⟨rfl, _, sqD⟩, D, _, .str "fill", j, .str "fill", rfl, rfl, sqD, rfl, flat_strs _, g1, eqs _, g2, pl, xs, _, .ref a2, rfl, rfl, .inl (.inl (sW _ _ hR.pl)), atI_nat g3, a2, _, _, V.str (firstK r.ps "fill"), rfl, rfl, sqT_of_same sW g4, rfl, hq⟩
    · rw [decide_eq_false hf]
      have hl0 : ledM r.ps = if (rolesOf r.ps).all (fun z => decide (z ∈ (["head", "-"] : List Str))) then some (firstK r.ps "head") else none := by unfold ledM; rw [if_neg hf]
      rw [hl0] at q
      clear hl0
      have hhead : ("head" : Str) ∈ rolesOf r.ps := by
        rcases hro with ⟨c1, _⟩ | ⟨_, _, c3, _⟩
        · exact List.count_pos_iff.mp (by omega)
        · exact absurd (List.count_pos_iff.mp (by omega)) hf
      obtain ⟨j, a2, m2, p, g1, g2, g3, g4⟩ := getr hhead
      refine iteF ⟨_, rfl, D, rfl, ⟨_, sqD⟩, sL.t.g _ hP, fun H2 hTb => ?_⟩
      refine all_it (walk_list (K := K) (a := D) (xs := (rolesOf r.ps).map V.str)) (fun i HZ => SL T HW HZ ∧ ((rolesOf r.ps).take i).all (fun z => decide (z ∈ (["head", "-"] : List Str))) = true) ⟨SL.tab hF sL.t hP hTb, rfl⟩ (fun i HZ _ z => .inl (.inl (z.1.k _ _ nt_lst hDW))) (fun i x HZ HZ' hi hP' hY => ?_) (fun HZ hP' => ?_)
      · obtain ⟨rfl, hx⟩ := hY
        rw [List.getElem?_map] at hx
        obtain ⟨y, hy, rfl⟩ := Option.map_eq_some_iff.mp hx
        refine ⟨rfl, tYes_in ⟨_, rfl, (show 2 ≤ sizeLine by decide), fun t nt => ?_⟩⟩
        have sn := hP'.1.same (same_new (o := .tup [.str "head", .str "-"]) nt)
        refine ⟨t, _, rfl, .inr (.inl (.inl upd_same)), rfl, rfl, decide (y ∈ (["head", "-"] : List Str)), congrArg V.bl (show (if false = true then !inV (.str y) [.str "head", .str "-"] else inV (.str y) [.str "head", .str "-"]) = decide (y ∈ (["head", "-"] : List Str)) from inV_dec y ["head", "-"]), fun e => ⟨sn, ?_⟩, fun e => ?_⟩
        · rw [all_snoc hy, hP'.2]
          exact e
        · refine ⟨false, rfl, iteF ?_⟩
          have := q _ (sL.trans sn)
          rw [all_bad hy e, if_neg (by decide)] at this
          exact this
      · obtain ⟨sZ, hal⟩ := hP'
        rw [List.length_map, List.take_length] at hal
        have hq := q HZ (sL.trans sZ)
        rw [if_pos hal] at hq
        have sqZ : SqL K HZ D ((rolesOf r.ps).map V.str) := .inl (.inl (sZ.k _ _ nt_lst hDW))
        have sHZ := sL.trans sZ
        exact ⟨true, rfl, iteT ⟨_, rfl, a, _, _, V.ref pl, rfl, rfl, sHZ.sqT hR.a, rfl, _, rfl, .inl ⟨rfl, _, sqZ⟩, D, _, .str "head", j, .str "head", rfl, rfl, sqZ, rfl, flat_strs _, g1, eqs _, g2, pl, xs, _, .ref a2, rfl, rfl, .inl (.inl (sHZ.k _ _ nt_lst hR.pl)), atI_nat g3, a2, _, _, V.str (firstK r.ps "head"), rfl, rfl, sHZ.sqT g4, rfl, hq⟩⟩
end
end Bn

set_option pp.maxSteps 400
namespace Bn
open PySem PySem.Spec PyProof.Rows L2 BR GX RM GY
/-- the names in their order, each once -/
def woD (xs : List Str) : List Str := xs.foldl (fun acc x => if x ∈ acc then acc else acc ++ [x]) []
theorem woD_snoc (xs : List Str) (x : Str) : woD (xs ++ [x]) = if x ∈ woD xs then woD xs else woD xs ++ [x] := by
  unfold woD
  rw [List.foldl_append]
  rfl
theorem woF_mem : ∀ (xs acc : List Str) (x : Str), x ∈ xs.foldl (fun acc x => if x ∈ acc then acc else acc ++ [x]) acc ↔ x ∈ acc ∨ x ∈ xs
  | [], acc, x => by simp
  | y :: r, acc, x => by
    rw [List.foldl_cons, woF_mem r]
    by_cases h : y ∈ acc
    · rw [if_pos h, List.mem_cons]
      constructor
      · rintro (z | z)
        · exact .inl z
        · exact .inr (.inr z)
      · rintro (z | z | z)
        · exact .inl z
        · exact .inl (z ▸ h)
        · exact .inr z
    · rw [if_neg h, List.mem_append, List.mem_singleton, List.mem_cons, or_assoc]
theorem woD_mem (xs : List Str) (x : Str) : x ∈ woD xs ↔ x ∈ xs := by
  unfold woD
  rw [woF_mem]
  simp
theorem woF_len : ∀ (xs acc : List Str), (xs.foldl (fun acc x => if x ∈ acc then acc else acc ++ [x]) acc).length ≤ acc.length + xs.length
  | [], acc => by simp
  | y :: r, acc => by
    rw [List.foldl_cons]
    have := woF_len r (if y ∈ acc then acc else acc ++ [y])
    by_cases h : y ∈ acc
    · rw [if_pos h] at this ⊢
      simp only [List.length_cons]
      omega
    · rw [if_neg h] at this ⊢
      simp only [List.length_cons, List.length_append, List.length_nil] at this ⊢
      omega
theorem woD_len (xs : List Str) : (woD xs).length ≤ xs.length := by
  have := woF_len xs []
  simpa [woD] using this
theorem woF_nd : ∀ (xs acc : List Str), acc.Nodup → (xs.foldl (fun acc x => if x ∈ acc then acc else acc ++ [x]) acc).Nodup
  | [], acc, h => h
  | y :: r, acc, h => by
    rw [List.foldl_cons]
    refine woF_nd r _ ?_
    by_cases z : y ∈ acc
    · rw [if_pos z]; exact h
    · rw [if_neg z, List.nodup_append]
      refine ⟨h, by simp, fun a ha b hb => ?_⟩
      rw [List.mem_singleton.mp hb]
      exact fun e => z (e ▸ ha)
theorem woD_nd (xs : List Str) : (woD xs).Nodup := woF_nd xs [] List.nodup_nil
def kvW (xs : List Str) : List (Key × V) := xs.map fun x => (.inr x, V.bl true)
theorem kvW_put (ys : List Str) (x : Str) : putK (kvW ys) (.inr x) (.bl true) = kvW (if x ∈ ys then ys else ys ++ [x]) := by
  by_cases h : x ∈ ys
  · rw [if_pos h]
    have hm : (((Sum.inr x : Key), V.bl true) : Key × V) ∈ kvW ys := List.mem_map.mpr ⟨x, h, rfl⟩
    unfold putK
    rw [if_pos (List.any_eq_true.mpr ⟨_, hm, decide_eq_true rfl⟩), kvW, List.map_map]
    refine List.map_congr_left fun y _ => ?_
    show (if (Sum.inr y : Key) = Sum.inr x then ((Sum.inr y : Key), V.bl true) else (Sum.inr y, V.bl true)) = (Sum.inr y, V.bl true)
    split <;> rfl
  · rw [if_neg h, Bn.putK_new]
    · rw [kvW, kvW, List.map_append]
      rfl
    · intro z
      rw [kvW, List.map_map] at z
      obtain ⟨y, hy, e⟩ := List.mem_map.mp z
      exact h (Sum.inr.inj e ▸ hy)
section
variable {P : Program} {w : World} {K : PySem.W.Frag} {mg : Str → Option Value} {base : Heap}
/-! ### without_doubles -/
abbrev NWd : List Str := ["names", "name"]
def spWd : Sp := fun vs H Q _ => ∃ (l : Addr) (xs : List Str), vs = [.ref l] ∧ H l = some (.lst (xs.map V.str)) ∧ xs.length ≤ 1000 ∧ ∀ H' p, Same H H' → H p = none → H' p = some (.lst ((woD xs).map V.str)) → Q (.ref p) H'
theorem ok_wd {f : Addr} {fd : FuncData} {k : Nat} (F : Fun K "without_doubles" "without_doubles" s_without_doubles f fd) (mli : mg "list" = none) : FnOk P w K mg base CX0 (k + 1) f fd ["names"] spWd := by
  refine F.ok sc_without_doubles (fun vs H Q E h => ?_) (fun cdv A outer s H vs Q E hr h => ?_)
  · obtain ⟨l, xs, rfl, _⟩ := h
    rfl
  · obtain ⟨l, xs, rfl, hl, few, q⟩ := h
    have hu := hu_of hr
    refine ⟨_, pss_one (ps_ret (pe_callTy (call_list_dK rfl) (by rfl) mli (by decide +kernel) (pa_cons (pe_dc (own := [("name", 1)]) (g := gName 1) (tt := tYes) rfl sc_without_doubles.nd (pi_list (pv 0))
        (blkOk_by (own := [("name", 1)]) (N := NWd) (sc := defScope s_without_doubles) (by decide +kernel)) (fun _ _ _ _ _ => pg_name (i := 1) sc_without_doubles.nd rfl (.inl rfl)) (fun _ _ _ _ _ => pts_nil) (fun _ _ _ _ _ => pv 1) (fun _ _ _ _ _ => pe_bl)) pa_nil))), ?_⟩
    refine ⟨_, rfl, l, rfl, ⟨_, .inl (.inl hl)⟩, fun D nD => ?_⟩
    refine dc_it (walk_list (K := K) (a := l) (xs := xs.map V.str)) (fun i HZ => Same H HZ ∧ HZ D = some (.dK (kvW (woD (xs.take i))))) ⟨same_new nD, upd_same⟩ (fun i HZ _ z => .inl (.inl (z.1 _ _ hl))) (fun i x HZ HZ' hi hP' hY => ?_) (fun HZ hP' => ?_)
    · obtain ⟨rfl, hx⟩ := hY
      rw [List.getElem?_map] at hx
      obtain ⟨y, hy, rfl⟩ := Option.map_eq_some_iff.mp hx
      obtain ⟨sZ, hD⟩ := hP'
      refine ⟨rfl, tYes_in ⟨_, rfl, _, .inr y, rfl, hD, ?_, Same.own sZ nD, ?_⟩⟩
      · rw [kvW, List.length_map]
        have := woD_len (xs.take i)
        rw [List.length_take] at this
        exact Nat.lt_of_le_of_lt (show _ ≤ 1000 by omega) (by decide)
      · rw [upd_same, take_get hy, woD_snoc, kvW_put]
    · obtain ⟨sZ, hD⟩ := hP'
      rw [List.length_map, List.take_length] at hD
      refine ⟨D, _, rfl, hD, fun p np => q _ p (sZ.trans (same_new np)) (sZ.free np) ?_⟩
      rw [upd_same, kvW, List.map_map]
      rfl
end
end Bn

set_option pp.maxSteps 400
namespace Bn
open PySem PySem.Spec PyProof.Rows L2 BR GX RM GY
/-! ### steps from kind to kind -/
abbrev Stp := Str × Option Str
def outsS (S : List Stp) (x : Str) : List Str := S.filterMap fun q => if q.1 = x then q.2 else none
inductive Reach (S : List Stp) (a : Str) : Str → Prop
  | refl : Reach S a a
  | step {x y : Str} : Reach S a x → (x, some y) ∈ S → Reach S a y
theorem outs_mem {S : List Stp} {x y : Str} : y ∈ outsS S x ↔ (x, some y) ∈ S := by
  unfold outsS
  rw [List.mem_filterMap]
  constructor
  · rintro ⟨⟨a, b⟩, h1, h2⟩
    by_cases e : a = x
    · rw [if_pos e] at h2
      dsimp only at h2
      rw [← e, ← h2]
      exact h1
    · rw [if_neg e] at h2
      cases h2
  · intro h
    exact ⟨_, h, by rw [if_pos rfl]⟩
theorem outs_snoc (S : List Stp) (q : Stp) (x : Str) : outsS (S ++ [q]) x = outsS S x ++ (if q.1 = x then q.2.toList else []) := by
  unfold outsS
  rw [List.filterMap_append]
  congr 1
  by_cases e : q.1 = x
  · rw [if_pos e]
    cases h : q.2 with
    | none => simp [e, h]
    | some y => simp [e, h]
  · rw [if_neg e]
    simp [e]
theorem outs_len (S : List Stp) (x : Str) : (outsS S x).length ≤ S.length := List.length_filterMap_le _ _
theorem woF_pre : ∀ (ys acc : List Str), ∃ zs, ys.foldl (fun acc x => if x ∈ acc then acc else acc ++ [x]) acc = acc ++ zs
  | [], acc => ⟨[], by simp⟩
  | y :: r, acc => by
    rw [List.foldl_cons]
    by_cases h : y ∈ acc
    · rw [if_pos h]; exact woF_pre r acc
    · rw [if_neg h]
      obtain ⟨zs, e⟩ := woF_pre r (acc ++ [y])
      exact ⟨y :: zs, by rw [e, List.append_assoc]; rfl⟩
theorem woF_id : ∀ (ys acc : List Str), (acc ++ ys).Nodup → ys.foldl (fun acc x => if x ∈ acc then acc else acc ++ [x]) acc = acc ++ ys
  | [], acc, _ => by simp
  | y :: r, acc, h => by
    rw [List.foldl_cons]
    have hn : ¬ y ∈ acc := fun z => (List.nodup_append.mp h).2.2 y z y (List.mem_cons_self) rfl
    rw [if_neg hn, woF_id r _ (by rw [List.append_assoc]; exact h), List.append_assoc]
    rfl
theorem woD_pre {R : List Str} (h : R.Nodup) (ys : List Str) : ∃ zs, woD (R ++ ys) = R ++ zs := by
  unfold woD
  rw [List.foldl_append, woF_id R [] (by simpa using h)]
  exact woF_pre ys _
theorem nodup_len : ∀ (l D : List Str), l.Nodup → (∀ x ∈ l, x ∈ D) → l.length ≤ D.length
  | [], _, _, _ => Nat.zero_le _
  | x :: l, D, hn, hs => by
    obtain ⟨h1, h2⟩ := List.nodup_cons.mp hn
    have hx : x ∈ D := hs x List.mem_cons_self
    have ih := nodup_len l (D.erase x) h2 fun y hy => by
      have ne : y ≠ x := fun e => h1 (by rw [← e]; exact hy)
      exact (List.mem_erase_of_ne ne).2 (hs y (List.mem_cons_of_mem _ hy))
    have e := List.length_erase_of_mem hx
    have hp : 0 < D.length := List.length_pos_of_mem hx
    rw [List.length_cons]
    omega
/-- what is reached so far: the first k looked at -/
structure Got (S : List Stp) (g : Str) (k : Nat) (R : List Str) : Prop where
  nd : R.Nodup
  st : g ∈ R
  r : ∀ x ∈ R, Reach S g x
  o : ∀ j x, j < k → R[j]? = some x → ∀ y ∈ outsS S x, y ∈ R
  k : k ≤ R.length
theorem Got.few {S : List Stp} {g : Str} {k : Nat} {R : List Str} (h : Got S g k R) : R.length ≤ S.length + 1 := by
  refine Nat.le_trans (nodup_len R (g :: S.filterMap (·.2)) h.nd fun x hx => ?_) ?_
  · cases h.r x hx with
    | refl => exact List.mem_cons_self
    | step _ h2 => exact List.mem_cons_of_mem _ (List.mem_filterMap.mpr ⟨_, h2, rfl⟩)
  · rw [List.length_cons]
    have := List.length_filterMap_le (fun q : Stp => q.2) S
    omega
theorem Got.zero (S : List Stp) (g : Str) : Got S g 0 [g] := ⟨by simp, by simp, fun x hx => by rw [List.mem_singleton.mp hx]; exact .refl, fun j x hj => absurd hj (Nat.not_lt_zero _), Nat.zero_le _⟩
theorem Got.next {S : List Stp} {g x : Str} {k : Nat} {R : List Str} (h : Got S g k R) (hx : R[k]? = some x) : Got S g (k + 1) (woD (R ++ outsS S x)) := by
  obtain ⟨zs, e⟩ := woD_pre h.nd (outsS S x)
  have hk := (List.getElem?_eq_some_iff.mp hx).1
  have old : ∀ y ∈ R, y ∈ woD (R ++ outsS S x) := fun y hy => (woD_mem _ y).mpr (List.mem_append_left _ hy)
  refine ⟨woD_nd _, old _ h.st, fun y hy => ?_, fun j y hj ey z hz => ?_, ?_⟩
  · rcases List.mem_append.mp ((woD_mem _ y).mp hy) with z | z
    · exact h.r y z
    · exact .step (h.r x (List.mem_of_getElem? hx)) (outs_mem.mp z)
  · rw [e, List.getElem?_append_left (by omega)] at ey
    by_cases ej : j = k
    · rw [ej, hx] at ey
      cases ey
      exact (woD_mem _ z).mpr (List.mem_append_right _ hz)
    · exact old _ (h.o j y (by omega) ey z hz)
  · rw [e, List.length_append]
    omega
theorem Got.all {S : List Stp} {g : Str} {R : List Str} (h : Got S g R.length R) (x : Str) : x ∈ R ↔ Reach S g x := by
  refine ⟨h.r x, fun z => ?_⟩
  induction z with
  | refl => exact h.st
  | step _ h2 ih =>
    obtain ⟨j, hj, e⟩ := List.mem_iff_getElem.mp ih
    exact h.o j _ hj (by rw [List.getElem?_eq_getElem hj, e]) _ (outs_mem.mpr h2)
def StpsAt (K : PySem.W.Frag) (H : Hp) (xs : List V) (S : List Stp) : Prop := Paired (fun v q => ∃ t, v = .ref t ∧ SqT K H t [.str (q : Stp).1, oV q.2]) xs S
theorem StpsAt.same {K : PySem.W.Frag} {H H' : Hp} {xs : List V} {S : List Stp} (h : StpsAt K H xs S) (s : Same H H') : StpsAt K H' xs S := pairedA_mono h fun _ _ ⟨a, e, z⟩ => ⟨a, e, sqT_of_same s z⟩
theorem StpsAt.sl {K : PySem.W.Frag} {T : Tb} {H H' : Hp} {xs : List V} {S : List Stp} (h : StpsAt K H xs S) (s : SL T H H') : StpsAt K H' xs S := pairedA_mono h fun _ _ ⟨a, e, z⟩ => ⟨a, e, s.sqT z⟩
def atOf3 (σ : L2.St) : Nat := match σ[3]? with
  | some (some (V.int i)) => i.toNat
  | _ => 0
section
variable {P : Program} {w : World} {K : PySem.W.Frag} {mg : Str → Option Value} {base : Heap}
/-! ### kinds_led_from -/
abbrev NKl : List Str := ["kind", "steps", "reached", "at", "here", "origin", "goal"]
def spKl (K : PySem.W.Frag) : Sp := fun vs H Q _ => ∃ (g : Str) (sl : Addr) (xs : List V) (S : List Stp), vs = [.str g, .ref sl] ∧ H sl = some (.lst xs) ∧ StpsAt K H xs S ∧ S.length ≤ 100 ∧ ∀ H' r L, Same H H' → H r = none → H' r = some (.lst ((L : List Str).map V.str)) → (∀ x, x ∈ L ↔ Reach S g x) → Q (.ref r) H'
theorem ok_kl {f fW : Addr} {fd fdW : FuncData} {k : Nat} (F : Fun K "kinds_led_from" "kinds_led_from" s_kinds_led_from f fd) (ml : mg "len" = none)
    (kW : PySem.W.keepIn K (.ref fW) = true) (bW : Binds K fdW ["names"] []) (gW : mg "without_doubles" = some (.ref fW)) (GW : FnOk P w K mg base CX0 (k + 1) fW fdW ["names"] spWd) :
    FnOk P w K mg base CX0 (k + 2) f fd ["kind", "steps"] (spKl K) := by
  refine F.ok sc_kinds_led_from (fun vs H Q E h => ?_) (fun cdv A outer s H vs Q E hr h => ?_)
  · obtain ⟨g, sl, xs, S, rfl, _⟩ := h
    rfl
  · obtain ⟨g, sl, xs, S, rfl, hsl, hS, few, q⟩ := h
    have hu := hu_of hr
    refine ⟨_, pss_cons (ps_set (i := 2) sc_kinds_led_from.nd rfl (.inl rfl) (pe_lst (pa_cons (pv 0) pa_nil)))
      (pss_cons (ps_set (i := 3) sc_kinds_led_from.nd rfl (.inl rfl) pe_int)
      (pss_cons (ps_while PassesOwn.never (pt_cmpR op_lt (pv 3) (pe_callB call_len_seq (by rfl) ml PySem.boot_len (pa_cons (pv 2) pa_nil)) (nomark _))
        (pss_cons (ps_set (i := 4) sc_kinds_led_from.nd rfl (.inr rfl) (pe_ix ix_list (pv 2) (pv 3) (fun _ _ => rfl)))
        (pss_cons (ps_expr (pe_bm PySem.F.plainAttrs_list PySem.F.slot_list_extend PySem.F.type_list_extend mt_extend (pv 2) (pa_cons
          (pe_lc (own := [("origin", 5), ("goal", 6)]) rfl sc_kinds_led_from.nd (pi_list (pv 1))
            (blkOk_by (own := [("origin", 5), ("goal", 6)]) (N := NKl) (sc := defScope s_kinds_led_from) (by decide +kernel))
            (fun _ _ _ _ _ => pg_tupK (K := K) (n := 2) rfl (pg_tup (n := 2) rfl (pgs_cons (pg_name (i := 5) sc_kinds_led_from.nd rfl (Or.inl rfl)) (pgs_cons (pg_name (i := 6) sc_kinds_led_from.nd rfl (Or.inl rfl)) pgs_nil))))
            (fun _ _ _ _ _ => pts_one (PW.pt (pw_and (pt_cmpR op_eq (pv 5) (pv 4) (nomark _)) (pw_and1 (pt_cmpR op_notN (pv 6) pe_non (nomark _))))))
            (fun _ _ _ _ _ => pv 6)) pa_nil)))
        (pss_cons (ps_set (i := 2) sc_kinds_led_from.nd rfl (.inl rfl) (pe_call GW (hr.mono (by omega)) (by rfl) gW kW bW .nil pass0 (pa_cons (pv 2) pa_nil)))
        (pss_one (ps_aug (i := 3) sc_kinds_led_from.nd rfl (.inl rfl) pe_int ip_add))))))
      (pss_one (ps_ret (pv 2))))), ?_⟩
    refine ⟨_, rfl, (show 1 ≤ sizeLine by decide), fun r nr => ?_⟩
    have sB := same_new (o := .lst [.str g]) nr
    have hr0 : (upd H r (.lst [.str g])) r = some (.lst [.str g]) := upd_same
    generalize upd H r (.lst [.str g]) = HB at sB hr0 ⊢
    refine while_by (fun σ HY => ∃ (y4 y5 y6 : Option V) (k : Nat) (r : Addr) (R : List Str), σ = [some (.str g), some (.ref sl), some (.ref r), some (.int (k : Nat)), y4, y5, y6] ∧ Same H HY ∧ H r = none ∧ HY r = some (.lst (R.map V.str)) ∧ Got S g k R) (fun σ _ => S.length + 2 - atOf3 σ) ?_ (fun σ HY hP => ?_) ?mono
    · exact ⟨_, _, _, 0, r, [g], rfl, sB, nr, hr0, Got.zero S g⟩
    · obtain ⟨y4, y5, y6, k, r, R, rfl, sY, nr', hr', hG⟩ := hP
      refine ⟨_, rfl, _, rfl, r, _, rfl, .inl (.inl (.inl hr')), _, _, rfl, rfl, _, rfl, ite2 (fun e => ?_) (fun e => ?_)⟩
      · have e' := of_decide_eq_true e
        rw [List.length_map] at e'
        have hkl : k < R.length := by omega
        have et : R[k]? = some R[k] := List.getElem?_eq_getElem hkl
        generalize R[k] = x at et
        have hfew := hG.few
        refine ⟨_, rfl, _, rfl, r, _, _, V.str x, rfl, rfl, .inl (.inl hr'), atI_nat (by rw [List.getElem?_map, et]; rfl), ?_⟩
        have hslY := sY _ _ hsl
        refine ⟨_, rfl, .inl ⟨rfl, _, .inl (.inl hr')⟩, _, rfl, sl, rfl, ⟨_, .inl (.inl hslY)⟩, fun D nD => ?_⟩
        refine lc_it (walk_list (K := K) (a := sl) (xs := xs)) (fun i HX => Same HY HX ∧ HX D = some (.lst ((outsS (S.take i) x).map V.str))) ⟨same_new nD, upd_same⟩ (fun i HX _ z => .inl (.inl (z.1 _ _ hslY))) (fun i v HX HX' hi hP' hY => ?_) (fun HX hP' => ?_)
        · obtain ⟨rfl, hx⟩ := hY
          obtain ⟨sX, hD⟩ := hP'
          obtain ⟨p, hp, t, rfl, ht⟩ := pairedA_at (hS.same (sY.trans sX)) hx
          refine ⟨t, _, rfl, ht, rfl, _, _, rfl, _, _, rfl, rfl, rfl, ?_⟩
          have htk : outsS (S.take (i + 1)) x = outsS (S.take i) x ++ (if p.1 = x then p.2.toList else []) := by rw [take_get hp, outs_snoc]
          refine ⟨_, rfl, _, rfl, rfl, decide (V.str p.1 = V.str x), rfl, ?_⟩
          by_cases h : p.1 = x
          · rw [decide_eq_true (show V.str p.1 = V.str x by rw [h])]
            rw [if_pos h] at htk
            refine iteT ⟨_, rfl, rfl, _, rfl, ?_⟩
            cases h2 : p.2 with
            | none =>
              rw [h2] at htk
              exact iteF ⟨sX, by rw [htk]; simpa using hD⟩
            | some y =>
              rw [h2] at htk
              refine iteT ⟨_, rfl, _, hD, ?_, Same.own sX nD, ?_⟩
              · rw [List.length_map]
                have := outs_len (S.take i) x
                rw [List.length_take] at this
                exact small_line (by omega)
              · rw [upd_same, htk, List.map_append]
                rfl
          · rw [decide_eq_false (fun z => h (V.str.inj z))]
            rw [if_neg h, List.append_nil] at htk
            exact iteF (iteF ⟨sX, by rw [htk]; exact hD⟩)
        · obtain ⟨sX, hD⟩ := hP'
          have hxl : xs.length = S.length := Paired.length hS
          rw [hxl, List.take_length] at hD
          have hol := outs_len S x
          refine ⟨r, D, _, _, rfl, rfl, sX _ _ hr', hD, ?_, ?_⟩
          · rw [List.length_map, List.length_map]
            exact Nat.le_of_lt (small_line (show R.length + (outsS S x).length < 1000 by omega))
          have sE : Same H (upd HX r (.lst (R.map V.str ++ (outsS S x).map V.str))) := Same.own (sY.trans sX) nr'
          have hE : (upd HX r (.lst (R.map V.str ++ (outsS S x).map V.str))) r = some (.lst ((R ++ outsS S x).map V.str)) := by rw [upd_same, List.map_append]
          generalize upd HX r (.lst (R.map V.str ++ (outsS S x).map V.str)) = HE at sE hE ⊢
          refine ⟨_, rfl, r, R ++ outsS S x, rfl, hE, ?_, fun H2 p s2 np hp2 => ?_⟩
          · rw [List.length_append]
            omega
          refine ⟨_, rfl, _, _, rfl, rfl, ⟨_, _, _, k + 1, p, woD (R ++ outsS S x), rfl, sE.trans s2, sE.free np, hp2, hG.next et⟩, ?_⟩
          show S.length + 2 - (((k : Nat) : Int) + 1).toNat < S.length + 2 - ((k : Nat) : Int).toNat
          omega
      · have e' : ¬ _ := fun z => e (decide_eq_true z)
        rw [List.length_map] at e'
        have hk := hG.k
        have hkd : k = R.length := by omega
        rw [hkd] at hG
        exact ⟨_, rfl, q HY r R sY nr' hr' hG.all⟩
    · intro σ HY Q1 Q2 hq h
      obtain ⟨v1, hv1, v2, hv2, a, zs, e, hs, i, j, e1, e2, k, hk, h5⟩ := h
      exact ⟨v1, hv1, v2, hv2, a, zs, e, hs, i, j, e1, e2, k, hk, hq _ _ h5⟩
end
end Bn

set_option pp.maxSteps 400
namespace Bn
open PySem PySem.Spec PyProof.Rows L2 BR GX RM GY
def stpsM (rs : List Ru) : List Stp := rs.map fun r => (r.k, ledM r.ps)
def RingAt (S : List Stp) (i : Nat) : Prop := ∃ o g, S[i]? = some (o, some g) ∧ Reach S g o
/-- what first_in_ring tells -/
def RingIs (S : List Stp) (z : Int) : Prop := (z = -1 ∧ ∀ i, ¬ RingAt S i) ∨ ∃ i : Nat, z = (i : Nat) ∧ RingAt S i ∧ ∀ j < i, ¬ RingAt S j
def RuIn (K : PySem.W.Frag) (H : Hp) (N : Addr → Prop) (n : Nat) (v : V) (r : Ru) : Prop := ∃ (a m pl gl o al : Addr) (kvs : List (Key × V)) (xs gs as : List V), v = .ref a ∧ RuAt K H N n a m pl gl o al kvs xs gs as r
def RusAt (K : PySem.W.Frag) (H : Hp) (N : Addr → Prop) (n : Nat) (vs : List V) (rs : List Ru) : Prop := Paired (RuIn K H N n) vs rs
section
variable {K : PySem.W.Frag} {H H' : Hp} {N : Addr → Prop} {n : Nat} {T : Tb} {v : V} {r : Ru}
theorem RuIn.sl (h : RuIn K H N n v r) (s : SL T H H') : RuIn K H' N n v r := by
  obtain ⟨a, m, pl, gl, o, al, kvs, xs, gs, as, e, h⟩ := h
  exact ⟨a, m, pl, gl, o, al, kvs, xs, gs, as, e, h.sl s⟩
theorem RuIn.same (h : RuIn K H N n v r) (s : Same H H') : RuIn K H' N n v r := by
  obtain ⟨a, m, pl, gl, o, al, kvs, xs, gs, as, e, h⟩ := h
  exact ⟨a, m, pl, gl, o, al, kvs, xs, gs, as, e, h.same s⟩
theorem RusAt.sl {vs : List V} {rs : List Ru} (h : RusAt K H N n vs rs) (s : SL T H H') : RusAt K H' N n vs rs := pairedA_mono h fun _ _ z => z.sl s
theorem RusAt.same {vs : List V} {rs : List Ru} (h : RusAt K H N n vs rs) (s : Same H H') : RusAt K H' N n vs rs := pairedA_mono h fun _ _ z => z.same s
theorem rus_inv {rs : List Ru} : ∀ {vs : List V}, DqAll K H N (n + 4) vs (rs.map ruD) → RusAt K H N n vs rs := by
  induction rs with
  | nil => intro vs h; cases h; exact .nil
  | cons p r ih =>
    intro vs h
    rw [List.map_cons] at h
    cases h with
    | cons a b => exact .cons (ru_inv a) (ih b)
end
theorem StpsAt.snoc {K : PySem.W.Frag} {H : Hp} {xs : List V} {S : List Stp} {t : Addr} {q : Stp} (h : StpsAt K H xs S) (ht : SqT K H t [.str q.1, oV q.2]) : StpsAt K H (xs ++ [.ref t]) (S ++ [q]) := paired_snoc h ⟨t, rfl, ht⟩
theorem StpsAt.updL {K : PySem.W.Frag} {H : Hp} {D : Addr} {o : HO} {xs ys : List V} {S : List Stp} (h : StpsAt K H xs S) (e : H D = some (.lst ys)) : StpsAt K (upd H D o) xs S := pairedA_mono h fun _ _ ⟨t, e2, z⟩ => ⟨t, e2, sqT_updL z e⟩
section
variable {P : Program} {w : World} {K : PySem.W.Frag} {mg : Str → Option Value} {base : Heap}
/-! ### first_in_ring -/
abbrev NFr : List Str := ["rules", "steps", "number", "origin", "goal", "rule"]
def spRing (K : PySem.W.Frag) (T : Tb) : Sp := fun vs H Q _ => ∃ (l : Addr) (xs : List V) (rs : List Ru) (ks : List Kd) (N : Addr → Prop) (n : Nat), vs = [.ref l] ∧ H l = some (.lst xs) ∧ RusAt K H N n xs rs ∧ (∀ r ∈ rs, RolesOk ks r.ps ∧ r.ps.length ≤ 5) ∧ rs.length ≤ 30 ∧ TbOk T H ∧ ∀ H' z, SL T H H' → RingIs (stpsM rs) z → Q (.int z) H'
theorem ok_ring {f fL fK : Addr} {fd fdL fdK : FuncData} {T : Tb} {k : Nat} (F : Fun K "first_in_ring" "first_in_ring" s_first_in_ring f fd) (me : mg "enumerate" = none)
    (kL : PySem.W.keepIn K (.ref fL) = true) (bL : Binds K fdL ["rule"] []) (gL : mg "led_by" = some (.ref fL)) (GL : FnOk P w K mg base CX0 (k + 5) fL fdL ["rule"] (spLed K T))
    (kK : PySem.W.keepIn K (.ref fK) = true) (bK : Binds K fdK ["kind", "steps"] []) (gK : mg "kinds_led_from" = some (.ref fK)) (GK : FnOk P w K mg base CX0 (k + 2) fK fdK ["kind", "steps"] (spKl K)) :
    FnOk P w K mg base CX0 (k + 6) f fd ["rules"] (spRing K T) := by
  refine F.ok sc_first_in_ring (fun vs H Q E h => ?_) (fun cdv A outer s H vs Q E hr h => ?_)
  · obtain ⟨l, xs, rs, ks, N, n, rfl, _⟩ := h
    rfl
  · obtain ⟨l, xs, rs, ks, N, n, rfl, hl, hR, hro, few, hT, q⟩ := h
    refine ⟨_, pss_cons (ps_setLc (i := 1) (own := [("rule", 5)]) (g := gName 5) (tt := tYes) rfl sc_first_in_ring.nd rfl rfl (sw_true rfl rfl rfl (by decide +kernel)) (pi_list (pv 0))
        (blkOk_by (own := [("rule", 5)]) (N := NFr) (sc := defScope s_first_in_ring) (by decide +kernel)) (fun _ _ _ _ _ => pg_name (i := 5) sc_first_in_ring.nd rfl (.inl rfl)) (fun _ _ _ _ _ => pts_nil)
        (fun _ _ _ _ _ => pe_tup (pa_cons (pe_ix (ix_tupK (K := K) rfl) (pv 5) pe_int (fun _ _ => rfl)) (pa_cons (pe_call GL (hr.mono (by omega)) (by rfl) gL kL bL .nil pass0 (pa_cons (pv 5) pa_nil)) pa_nil))))
      (pss_cons (ps_for PassesOwn.never rfl (pi_enum (by rfl) me (pa_cons (pv 1) pa_nil)) (pg_tup rfl (pgs_cons (pg_name (i := 2) sc_first_in_ring.nd rfl (.inl rfl)) (pgs_cons (pg_tup rfl (pgs_cons (pg_name (i := 3) sc_first_in_ring.nd rfl (.inl rfl)) (pgs_cons (pg_name (i := 4) sc_first_in_ring.nd rfl (.inl rfl)) pgs_nil))) pgs_nil)))
        (pss_one (ps_if (PW.pt (pw_and (pt_cmpR op_notN (pv 4) pe_non (nomark _)) (pw_and1 (pt_cmpR (op_inK (K := K) rfl) (pv 3) (pe_call GK (hr.mono (by omega)) (by rfl) gK kK bK .nil pass0 (pa_cons (pv 4) (pa_cons (pv 1) pa_nil))) (by rfl))))) (pss_one (ps_ret (pv 2))) pss_nil)))
      (pss_one (ps_ret (pe_un un_neg pe_int)))), ?_⟩
    have hxl : xs.length = rs.length := Paired.length hR
    refine ⟨_, rfl, l, rfl, ⟨_, .inl (.inl hl)⟩, fun D nD => ?_⟩
    refine lc_it (walk_list (K := K) (a := l) (xs := xs)) (fun i HW => SL T H HW ∧ ∃ ts, HW D = some (.lst ts) ∧ StpsAt K HW ts (stpsM (rs.take i))) ⟨SL.of hT (same_new nD), [], upd_same, .nil⟩ (fun i HW _ z => .inl (.inl (z.1.k _ _ nt_lst hl))) (fun i v HW HW' hi hP' hY => ?_) (fun HW hP' => ?_)
    · obtain ⟨rfl, hv⟩ := hY
      obtain ⟨sW, ts, hDW, hts⟩ := hP'
      obtain ⟨r, hr', a, m, pl, gl, o, al, kvs, xr, gs, as, rfl, hRu⟩ := pairedA_at (hR.sl sW) hv
      obtain ⟨ro, r5⟩ := hro r (List.mem_of_getElem? hr')
      refine ⟨rfl, tYes_in ⟨_, rfl, a, _, _, V.str r.k, rfl, rfl, hRu.a, rfl, _, rfl, a, m, pl, gl, o, al, kvs, xr, gs, as, r, ks, N, n, rfl, hRu, ro, r5, sW.t, fun H2 s2 => ⟨(show 2 ≤ sizeLine by decide), fun t nt => ?_⟩⟩⟩
      have sn := same_new (o := .tup [.str r.k, oV (ledM r.ps)]) nt
      have s3 := s2.same sn
      have hD3 := s3.k _ _ nt_lst hDW
      refine ⟨_, hD3, ?_, (sW.trans s3).ownL nD hD3, ts ++ [.ref t], upd_same, ?_⟩
      · rw [Paired.length hts]
        show ((rs.take i).map _).length < _
        rw [List.length_map, List.length_take]
        exact small_line (by omega)
      · rw [take_get hr', show stpsM (rs.take i ++ [r]) = stpsM (rs.take i) ++ [(r.k, ledM r.ps)] from List.map_append]
        exact StpsAt.updL ((hts.sl s3).snoc (.inl (.inl upd_same))) hD3
    · obtain ⟨sW, ts, hDW, hts⟩ := hP'
      rw [hxl, List.take_length] at hts
      clear hl
      have hsl : (stpsM rs).length ≤ 30 := by rw [show (stpsM rs).length = rs.length from List.length_map ..]; exact few
      generalize stpsM rs = S at hts q hsl
      have hlen : ts.length = S.length := Paired.length hts
      have hneg : (∀ i, ¬ RingAt S i) → RingIs S (-1) := fun h => .inl ⟨rfl, h⟩
      refine ⟨_, rfl, D, ts, rfl, .inl (.inl hDW), ?_⟩
      refine for_it (walk_enum (K := K) (a := D) (xs := ts)) (fun i σ HZ => ∃ y2 y3 y4 y5 : Option V, σ = [some (.ref l), some (.ref D), y2, y3, y4, y5] ∧ SL T HW HZ ∧ ∀ j < i, ¬ RingAt S j) ⟨_, _, _, _, rfl, SL.refl sW.t, fun j h => absurd h (Nat.not_lt_zero _)⟩ (fun i σ HZ _ z => by obtain ⟨_, _, _, _, _, sZ, _⟩ := z; exact .inl (.inl (sZ.k _ _ nt_lst hDW))) (fun i x σ HZ HZ' hi hP' hY => ?_) (fun σ HZ hP' => ?_)
      · obtain ⟨T1, x1, x2, rfl, nT1, rfl, e1, e2⟩ := hY
        cases Option.some.inj e1
        obtain ⟨y2, y3, y4, y5, rfl, sZ, hno⟩ := hP'
        obtain ⟨⟨og, gg⟩, hq, t, rfl, ht⟩ := pairedA_at (hts.sl sZ) e2
        have sT := sZ.new (o := .tup [.int (i : Nat), .ref t]) nT1
        have ht2 := sqT_of_same (same_new (o := .tup [.int (i : Nat), .ref t]) nT1) ht
        have hT1 : (upd HZ T1 (.tup [.int (i : Nat), .ref t])) T1 = some (.tup [.int (i : Nat), .ref t]) := upd_same
        generalize upd HZ T1 (.tup [.int (i : Nat), .ref t]) = HT at sT hT1 ht2 ⊢
        refine ⟨T1, _, rfl, .inl (.inl hT1), rfl, _, _, rfl, _, _, rfl, t, _, rfl, ht2, rfl, _, _, rfl, _, _, rfl, rfl, rfl, ?_⟩
        have step : ¬ RingAt S i → ∀ j < i + 1, ¬ RingAt S j := fun h j hj => by
          by_cases e : j = i
          · rw [e]; exact h
          · exact hno j (by omega)
        cases gg with
        | none =>
          refine ⟨_, rfl, rfl, _, rfl, iteF (iteF ⟨_, _, _, _, rfl, sT, step fun ⟨o, g, e, _⟩ => ?_⟩)⟩
          rw [hq] at e
          cases e
        | some g =>
          refine ⟨_, rfl, rfl, _, rfl, iteT ⟨_, rfl, _, rfl, _, rfl, g, D, ts, S, rfl, sT.k _ _ nt_lst hDW, hts.sl sT, by omega, fun H2 r L s2 nr hr2 hL => ?_⟩⟩
          have sE := sT.same s2
          refine ⟨r, _, rfl, .inl (.inl (.inl hr2)), rfl, flat_strs _, decide (og ∈ L), congrArg V.bl (show (if false = true then !inV (.str og) (L.map V.str) else inV (.str og) (L.map V.str)) = decide (og ∈ L) from inV_dec _ _), ?_⟩
          by_cases h : og ∈ L
          · rw [decide_eq_true h]
            exact iteT ⟨_, rfl, q H2 _ (sW.trans sE) (.inr ⟨i, rfl, ⟨og, g, hq, (hL og).mp h⟩, hno⟩)⟩
          · rw [decide_eq_false h]
            refine iteF ⟨_, _, _, _, rfl, sE, step fun ⟨o, g', e, hre⟩ => ?_⟩
            rw [hq] at e
            cases e
            exact h ((hL og).mpr hre)
      · obtain ⟨y2, y3, y4, y5, rfl, sZ, hno⟩ := hP'
        refine ⟨_, rfl, q HZ _ (sW.trans sZ) (hneg fun i hR => ?_)⟩
        obtain ⟨o, g, e, _⟩ := id hR
        have := (List.getElem?_eq_some_iff.mp e).1
        exact hno i (by omega) hR
end
end Bn

set_option pp.maxSteps 400
namespace Bn
open PySem PySem.Spec PyProof.Rows L2 BR GX RM GY
/-! a tongue as data, its dict in any order -/
structure Tn where
  fs : List Ft
  ks : List Kd
  ms : List Sm
  ss : List Sd
  es : List En
  rs : List Ru
  st : Str
structure Tn.Ok (L : Tn) : Prop where
  fl : L.fs.length ≤ 6
  kl : L.ks.length ≤ 12
  ml : L.ms.length ≤ 12
  sl : L.ss.length ≤ 40
  el : L.es.length ≤ 40
  rl : L.rs.length ≤ 30
  fn : (L.fs.map (·.n)).Nodup
  kn : (L.ks.map (·.n)).Nodup
  rn : (L.rs.map (·.n)).Nodup
  f : ∀ f ∈ L.fs, f.Ok
  k : ∀ k ∈ L.ks, k.Ok L.fs
  m : ∀ m ∈ L.ms, m.Ok
  s : ∀ s ∈ L.ss, s.Ok L.fs L.ks
  e : ∀ e ∈ L.es, e.Ok L.fs
  r : ∀ r ∈ L.rs, RuOk L.fs L.ks r
  st : ∃ k ∈ L.ks, k.n = L.st ∧ k.m = false
/-- is_group, in_group_with_part are reached -/
def Tn.Gs (L : Tn) (Gs : Prop) : Prop := ∀ r ∈ L.rs, (r.gs ≠ [] → Gs) ∧ (ownsOf L.ks r.k ≠ [] → Gs)
structure Told (es : List (PyData × PyData)) (L : Tn) : Prop where
  f : (.str "features", .list (L.fs.map ftD)) ∈ es
  k : (.str "kinds", .list (L.ks.map kdD)) ∈ es
  m : (.str "seams", .list (L.ms.map smD)) ∈ es
  s : (.str "stems", .list (L.ss.map sdD)) ∈ es
  e : (.str "endings", .list (L.es.map enD)) ∈ es
  r : (.str "rules", .list (L.rs.map ruD)) ∈ es
  st : (.str "start", .str L.st) ∈ es
/-- its things in memory -/
structure TnAt (K : PySem.W.Frag) (H : Hp) (L : Tn) (N : Addr → Prop) (n : Nat) (a f k m s e r : Addr) (kvs : List (Key × V)) (xf xk xm xs xe xr : List V) : Prop where
  d : H a = some (.dK kvs)
  vf : valV kvs (.inr "features") = some (.ref f)
  vk : valV kvs (.inr "kinds") = some (.ref k)
  vm : valV kvs (.inr "seams") = some (.ref m)
  vs : valV kvs (.inr "stems") = some (.ref s)
  ve : valV kvs (.inr "endings") = some (.ref e)
  vr : valV kvs (.inr "rules") = some (.ref r)
  vst : valV kvs (.inr "start") = some (.str L.st)
  hf : H f = some (.lst xf)
  hk : H k = some (.lst xk)
  hm : H m = some (.lst xm)
  hs : H s = some (.lst xs)
  he : H e = some (.lst xe)
  hr : H r = some (.lst xr)
  df : DqAll K H N (n + 4) xf (L.fs.map ftD)
  dk : DqAll K H N (n + 4) xk (L.ks.map kdD)
  dm : DqAll K H N (n + 4) xm (L.ms.map smD)
  ds : DqAll K H N (n + 4) xs (L.ss.map sdD)
  de : DqAll K H N (n + 4) xe (L.es.map enD)
  dr : DqAll K H N (n + 4) xr (L.rs.map ruD)
section
variable {K : PySem.W.Frag} {H H' : Hp} {T : Tb} {L : Tn} {N : Addr → Prop} {n : Nat} {v : V} {a f k m s e r : Addr} {kvs : List (Key × V)} {xf xk xm xs xe xr : List V} {es : List (PyData × PyData)}
theorem kv_mem {z : Str} {d : PyData} (h : DqKv K H N n kvs es) (m : (PyData.str z, d) ∈ es) : ∃ (v : V) (i : Nat), kvs[i]? = some ((.inr z : Key), v) ∧ Dq K H N n v d := by
  induction es generalizing kvs with
  | nil => cases m
  | cons p r ih =>
    cases h with
    | cons h1 h2 =>
      rcases List.mem_cons.mp m with e | e
      · cases e
        exact ⟨_, 0, rfl, h1⟩
      · obtain ⟨v, i, e1, e2⟩ := ih h2 e
        exact ⟨v, i + 1, e1, e2⟩
theorem kv_at {z : Str} {d : PyData} (h : DqKv K H N n kvs es) (nd : (kvs.map (·.1)).Nodup) (m : (PyData.str z, d) ∈ es) : ∃ v, valV kvs (.inr z) = some v ∧ Dq K H N n v d := by
  obtain ⟨v, i, e1, e2⟩ := kv_mem h m
  exact ⟨v, valV_nd nd e1, e2⟩
theorem tn_inv (t : Told es L) (h : Dq K H N (n + 6) v (.dict es)) : ∃ (a f k m s e r : Addr) (kvs : List (Key × V)) (xf xk xm xs xe xr : List V), v = .ref a ∧ N a ∧ TnAt K H L (fun b => N b ∧ b ≠ a) n a f k m s e r kvs xf xk xm xs xe xr := by
  cases h with
  | dic h1 h2 _ nd h3 =>
    obtain ⟨f, vf, f0⟩ := kv_at h3 nd t.f
    obtain ⟨k, vk, k0⟩ := kv_at h3 nd t.k
    obtain ⟨m, vm, m0⟩ := kv_at h3 nd t.m
    obtain ⟨s, vs, s0⟩ := kv_at h3 nd t.s
    obtain ⟨e, ve, e0⟩ := kv_at h3 nd t.e
    obtain ⟨r, vr, r0⟩ := kv_at h3 nd t.r
    obtain ⟨st, vst, st0⟩ := kv_at h3 nd t.st
    cases st0
    obtain ⟨f, xf, rfl, f1, _, f2⟩ := lst_inv f0
    obtain ⟨k, xk, rfl, k1, _, k2⟩ := lst_inv k0
    obtain ⟨m, xm, rfl, m1, _, m2⟩ := lst_inv m0
    obtain ⟨s, xs, rfl, s1, _, s2⟩ := lst_inv s0
    obtain ⟨e, xe, rfl, e1, _, e2⟩ := lst_inv e0
    obtain ⟨r, xr, rfl, r1, _, r2⟩ := lst_inv r0
    exact ⟨_, f, k, m, s, e, r, _, xf, xk, xm, xs, xe, xr, rfl, h2, ⟨h1, vf, vk, vm, vs, ve, vr, vst, f1, k1, m1, s1, e1, r1, f2, k2, m2, s2, e2, r2⟩⟩
theorem TnAt.sl (h : TnAt K H L N n a f k m s e r kvs xf xk xm xs xe xr) (S : SL T H H') : TnAt K H' L N n a f k m s e r kvs xf xk xm xs xe xr :=
  ⟨S.k _ _ nt_dK h.d, h.vf, h.vk, h.vm, h.vs, h.ve, h.vr, h.vst, S.k _ _ nt_lst h.hf, S.k _ _ nt_lst h.hk, S.k _ _ nt_lst h.hm, S.k _ _ nt_lst h.hs, S.k _ _ nt_lst h.he, S.k _ _ nt_lst h.hr, h.df.sl S, h.dk.sl S, h.dm.sl S, h.ds.sl S, h.de.sl S, h.dr.sl S⟩
end
end Bn

set_option pp.maxSteps 400
namespace Bn
open PySem PySem.Spec PyProof.Rows L2 BR GX RM GY
section
variable {P : Program} {w : World} {K : PySem.W.Frag} {mg : Str → Option Value} {base : Heap}
/-! ### fault_in -/
abbrev NFi : List Str := ["told", "features", "kinds", "looks", "word", "things", "most", "is_sound", "number", "feature", "kind"]
def spFault (K : PySem.W.Frag) (T : Tb) (Gs : Prop) : Sp := fun vs H Q _ => ∃ (v : V) (L : Tn) (es : List (PyData × PyData)) (N : Addr → Prop) (n : Nat), vs = [v] ∧ Told es L ∧ Dq K H N (n + 6) v (.dict es) ∧ L.Ok ∧ L.Gs Gs ∧ TbOk T H ∧
  ∀ H', SL T H H' → ((∀ i, ¬ RingAt (stpsM L.rs) i) → Q .non H') ∧ ∀ (i : Nat) (t : Addr), RingAt (stpsM L.rs) i → (∀ j < i, ¬ RingAt (stpsM L.rs) j) → H' t = some (.tup [.str "ring", .int (i : Nat)]) → Q (.ref t) H'
theorem caught1 : ∀ y ∈ (lkS 1).names, y.2 = .free → (defScope s_fault_in).names.lookup y.1 = some .cell ∨ (defScope s_fault_in).names.lookup y.1 = some .free := by decide +kernel
theorem caught3 : ∀ y ∈ (lkS 3).names, y.2 = .free → (defScope s_fault_in).names.lookup y.1 = some .cell ∨ (defScope s_fault_in).names.lookup y.1 = some .free := by decide +kernel
theorem caught4 : ∀ y ∈ (lkS 4).names, y.2 = .free → (defScope s_fault_in).names.lookup y.1 = some .cell ∨ (defScope s_fault_in).names.lookup y.1 = some .free := by decide +kernel
theorem caught5 : ∀ y ∈ (lkS 5).names, y.2 = .free → (defScope s_fault_in).names.lookup y.1 = some .cell ∨ (defScope s_fault_in).names.lookup y.1 = some .free := by decide +kernel
theorem slot1 {σ : L2.St} {j : Nat} {a : Addr} (h : NdefX.slotAt σ j = some (.ref a)) : NdefX.slotAt σ j = some (.ref a) := h
theorem snd_all {T : Tb} {H : Hp} {sp : Sp} {St : Hp → Prop} {xs : List V} {nms : List Str} (st : ∀ HZ, SL T H HZ → St HZ) (ok : ∀ x ∈ xs, ∀ HZ, SL T H HZ → ∀ Q : VK, (∀ H', SL T HZ H' → Q (.bl true) H') → sp [x] HZ Q E0) : Sound K T H sp St xs false nms := ⟨st, ok, fun e => by cases e⟩
theorem cal1 {X : Cx} {i : Nat} {sp : Sp} {f c : Addr} {q : Str} {fe : Addr} {σ : L2.St} (hX : X.env.scope = defScope s_fault_in) (hN : X.N = NFi) (hc : ∀ y ∈ (lkS i).names, y.2 = .free → (defScope s_fault_in).names.lookup y.1 = some .cell ∨ (defScope s_fault_in).names.lookup y.1 = some .free) (hfr : ∀ y ∈ (["features"] : List Str), (y, NameKind.free) ∈ (lkS i).names)
    (G : LX.LOk X.prog X.w X.K X.mg X.base 20 f (lkF i q X.env.cells c) ["features"] (spL1 sp 1)) (h1 : NdefX.slotAt σ 1 = some (.ref fe)) :
    LX.CalX X σ 20 f (fun vs H Q E => ∃ v, vs = [v] ∧ sp [v, .ref fe] H Q E) (fun HX => HX f = some (LX.LamO f (lkF i q X.env.cells c)) ∧ HX c = some (LamX.CodeO c q)) := by
  refine .inr ⟨lkF i q X.env.cells c, ["features"], [1], spL1 sp 1, G, fun ok => NdefX.Caps.made (scope := lkS i) ok (by rw [hX]; exact hc) hfr (by rw [hN]; rfl), fun HX st => st, fun vs HX Q h => ?_⟩
  obtain ⟨v, rfl, h⟩ := h
  exact ⟨v, [.ref fe], rfl, by rw [List.map_cons, h1]; rfl, rfl, h⟩
theorem cal2 {X : Cx} {i : Nat} {sp : Sp} {f c : Addr} {q : Str} {fe kd : Addr} {σ : L2.St} (hX : X.env.scope = defScope s_fault_in) (hN : X.N = NFi) (hc : ∀ y ∈ (lkS i).names, y.2 = .free → (defScope s_fault_in).names.lookup y.1 = some .cell ∨ (defScope s_fault_in).names.lookup y.1 = some .free) (hfr : ∀ y ∈ (["features", "kinds"] : List Str), (y, NameKind.free) ∈ (lkS i).names)
    (G : LX.LOk X.prog X.w X.K X.mg X.base 20 f (lkF i q X.env.cells c) ["features", "kinds"] (spL1 sp 2)) (h1 : NdefX.slotAt σ 1 = some (.ref fe)) (h2 : NdefX.slotAt σ 2 = some (.ref kd)) :
    LX.CalX X σ 20 f (fun vs H Q E => ∃ v, vs = [v] ∧ sp [v, .ref fe, .ref kd] H Q E) (fun HX => HX f = some (LX.LamO f (lkF i q X.env.cells c)) ∧ HX c = some (LamX.CodeO c q)) := by
  refine .inr ⟨lkF i q X.env.cells c, ["features", "kinds"], [1, 2], spL1 sp 2, G, fun ok => NdefX.Caps.made (scope := lkS i) ok (by rw [hX]; exact hc) hfr (by rw [hN]; rfl), fun HX st => st, fun vs HX Q h => ?_⟩
  obtain ⟨v, rfl, h⟩ := h
  exact ⟨v, [.ref fe, .ref kd], rfl, by rw [List.map_cons, List.map_cons, h1, h2]; rfl, rfl, h⟩
theorem free1 : ∀ y ∈ (["features"] : List Str), (y, NameKind.free) ∈ (lkS 1).names := by decide +kernel
theorem free3 : ∀ y ∈ (["features", "kinds"] : List Str), (y, NameKind.free) ∈ (lkS 3).names := by decide +kernel
theorem free4 : ∀ y ∈ (["features"] : List Str), (y, NameKind.free) ∈ (lkS 4).names := by decide +kernel
theorem free5 : ∀ y ∈ (["features", "kinds"] : List Str), (y, NameKind.free) ∈ (lkS 5).names := by decide +kernel
theorem row_mk {X : Cx} {K : PySem.W.Frag} {T : Tb} {fe kd : Addr} {HB : Hp} {t l f : Addr} {wd : Str} {most : Nat} {sp : Sp} {St : Hp → Prop} {xs : List V} {nms : List Str} (ht : HB t = some (.tup [.str wd, .ref l, .int (most : Nat), .ref f])) (C : ∀ σ : L2.St, NdefX.slotAt σ 1 = some (.ref fe) → NdefX.slotAt σ 2 = some (.ref kd) → LX.CalX X σ 20 f sp St)
    (hl : HB l = some (.lst xs)) (few : xs.length ≤ most) (hm : most ≤ 1000) (S : Sound K T HB sp St xs (inV (.str wd) [.str "feature", .str "kind", .str "rule"]) nms) : Row X K T fe kd HB (.ref t) := ⟨t, l, f, wd, most, sp, St, xs, nms, rfl, ht, C, hl, few, hm, S⟩
theorem snd_f {K : PySem.W.Frag} {T : Tb} {HB : Hp} {xs : List V} {fs : List Ft} {N : Addr → Prop} {n : Nat} {b : Bool} (h : DqAll K HB N n xs (fs.map ftD)) (ok : ∀ f ∈ fs, f.Ok) (nd : (fs.map (·.n)).Nodup) : Sound K T HB (spIsFeature K T) (fun _ => True) xs b (fs.map (·.n)) :=
  ⟨fun _ _ => trivial, fun x hx HZ s Q q => by
    obtain ⟨g, hg, hv⟩ := dq_mem h hx
    exact ⟨x, g, _, _, rfl, hv.sl s, ok g hg, s.t, q⟩, fun _ => ⟨nd, fun i x hi => by
    obtain ⟨g, hg, hv⟩ := dq_at h hi
    obtain ⟨a1, l1, rfl, h1, _, _⟩ := ft_inv hv
    exact ⟨a1, g.n, _, rfl, by rw [List.getElem?_map, hg]; rfl, h1⟩⟩⟩
theorem snd_k {K : PySem.W.Frag} {T : Tb} {HB : Hp} {xs : List V} {fs : List Ft} {ks : List Kd} {N : Addr → Prop} {n : Nat} {b : Bool} {fe f c : Addr} {F : LX.LF} {q : Str} (h : DqAll K HB N n xs (ks.map kdD)) (ok : ∀ k ∈ ks, k.Ok fs) (nd : (ks.map (·.n)).Nodup) (hfe : FtsD HB fe fs) (hf : HB f = some (LX.LamO f F)) (hc : HB c = some (LamX.CodeO c q)) :
    Sound K T HB (fun vs H Q E => ∃ v, vs = [v] ∧ spIsKind K T [v, .ref fe] H Q E) (fun HX => HX f = some (LX.LamO f F) ∧ HX c = some (LamX.CodeO c q)) xs b (ks.map (·.n)) :=
  ⟨fun _ s => ⟨s.k _ _ LX.nt_lamO hf, s.k _ _ nt_code hc⟩, fun x hx HZ s Q q => by
    obtain ⟨g, hg, hv⟩ := dq_mem h hx
    exact ⟨x, rfl, x, fe, g, fs, _, _, rfl, hv.sl s, hfe.sl s, ok g hg, s.t, q⟩, fun _ => ⟨nd, fun i x hi => by
    obtain ⟨g, hg, hv⟩ := dq_at h hi
    obtain ⟨a1, l1, rfl, h1, _, _⟩ := kd_inv hv
    exact ⟨a1, g.n, _, rfl, by rw [List.getElem?_map, hg]; rfl, h1⟩⟩⟩
theorem snd_m {K : PySem.W.Frag} {T : Tb} {HB : Hp} {xs : List V} {ms : List Sm} {N : Addr → Prop} {n : Nat} (h : DqAll K HB N n xs (ms.map smD)) (ok : ∀ m ∈ ms, m.Ok) : Sound K T HB (spIsSeam K T) (fun _ => True) xs false [] :=
  snd_all (fun _ _ => trivial) fun x hx HZ s Q q => by
    obtain ⟨g, hg, hv⟩ := dq_mem h hx
    exact ⟨x, g, _, _, rfl, hv.sl s, ok g hg, s.t, q⟩
theorem snd_s {K : PySem.W.Frag} {T : Tb} {HB : Hp} {xs : List V} {fs : List Ft} {ks : List Kd} {ss : List Sd} {N : Addr → Prop} {n : Nat} {fe kd f c : Addr} {F : LX.LF} {q : Str} (h : DqAll K HB N n xs (ss.map sdD)) (ok : ∀ k ∈ ss, k.Ok fs ks) (hfe : FtsD HB fe fs) (hkd : KdsD K HB kd ks) (hf : HB f = some (LX.LamO f F)) (hc : HB c = some (LamX.CodeO c q)) :
    Sound K T HB (fun vs H Q E => ∃ v, vs = [v] ∧ spIsStem K T [v, .ref fe, .ref kd] H Q E) (fun HX => HX f = some (LX.LamO f F) ∧ HX c = some (LamX.CodeO c q)) xs false [] :=
  snd_all (fun _ s => ⟨s.k _ _ LX.nt_lamO hf, s.k _ _ nt_code hc⟩) fun x hx HZ s Q q => by
    obtain ⟨g, hg, hv⟩ := dq_mem h hx
    exact ⟨x, rfl, x, fe, kd, g, fs, ks, _, _, rfl, hv.sl s, hfe.sl s, hkd.sl s, ok g hg, s.t, q⟩
theorem snd_e {K : PySem.W.Frag} {T : Tb} {HB : Hp} {xs : List V} {fs : List Ft} {es : List En} {N : Addr → Prop} {n : Nat} {fe f c : Addr} {F : LX.LF} {q : Str} (h : DqAll K HB N n xs (es.map enD)) (ok : ∀ k ∈ es, k.Ok fs) (hfe : FtsD HB fe fs) (hf : HB f = some (LX.LamO f F)) (hc : HB c = some (LamX.CodeO c q)) :
    Sound K T HB (fun vs H Q E => ∃ v, vs = [v] ∧ spIsEnding K T [v, .ref fe] H Q E) (fun HX => HX f = some (LX.LamO f F) ∧ HX c = some (LamX.CodeO c q)) xs false [] :=
  snd_all (fun _ s => ⟨s.k _ _ LX.nt_lamO hf, s.k _ _ nt_code hc⟩) fun x hx HZ s Q q => by
    obtain ⟨g, hg, hv⟩ := dq_mem h hx
    exact ⟨x, rfl, x, fe, g, fs, _, _, rfl, hv.sl s, hfe.sl s, ok g hg, s.t, q⟩
theorem snd_r {K : PySem.W.Frag} {T : Tb} {HB : Hp} {Gs : Prop} {xs : List V} {fs : List Ft} {ks : List Kd} {rs : List Ru} {N : Addr → Prop} {n : Nat} {fe kd f c : Addr} {F : LX.LF} {q : Str} {b : Bool} (h : DqAll K HB N (n + 4) xs (rs.map ruD)) (ok : ∀ r ∈ rs, RuOk fs ks r) (nd : (rs.map (·.n)).Nodup) (hG : ∀ r ∈ rs, (r.gs ≠ [] → Gs) ∧ (ownsOf ks r.k ≠ [] → Gs)) (hfe : FtsD HB fe fs) (hkd : KdsD K HB kd ks) (hf : HB f = some (LX.LamO f F)) (hc : HB c = some (LamX.CodeO c q)) :
    Sound K T HB (fun vs H Q E => ∃ v, vs = [v] ∧ spIsRule K T Gs [v, .ref fe, .ref kd] H Q E) (fun HX => HX f = some (LX.LamO f F) ∧ HX c = some (LamX.CodeO c q)) xs b (rs.map (·.n)) :=
  ⟨fun _ s => ⟨s.k _ _ LX.nt_lamO hf, s.k _ _ nt_code hc⟩, fun x hx HZ s Q q => by
    obtain ⟨g, hg, hv⟩ := dq_mem h hx
    obtain ⟨a, m, pl, gl, o, al, kvs, ys, gs, as, rfl, hR⟩ := ru_inv (hv.sl s)
    exact ⟨_, rfl, a, fe, kd, m, pl, gl, o, al, kvs, ys, gs, as, g, fs, ks, _, _, rfl, hR, hfe.sl s, hkd.sl s, ok g hg, (hG g hg).1, (hG g hg).2, s.t, q⟩, fun _ => ⟨nd, fun i x hi => by
    obtain ⟨g, hg, hv⟩ := dq_at h hi
    obtain ⟨a, m, pl, gl, o, al, kvs, ys, gs, as, rfl, hR⟩ := ru_inv hv
    exact ⟨a, g.n, _, rfl, by rw [List.getElem?_map, hg]; rfl, hR.a⟩⟩⟩
abbrev XF (P : Program) (w : World) (K : PySem.W.Frag) (mg : Str → Option Value) (base : Heap) (f c0 : Addr) (A : Around) (outer : List Env) (s : Shared) (H : Hp) (E : XK) : Cx := (cxOf CX0 P w K mg base NFi "fault_in" (defScope s_fault_in) f (.ref c0) A outer s H E).nox
abbrev lamQ : Str := "fault_in.<locals>.<lambda>"
theorem ok_fault {f c0 fF fK fM fS fE fR fu fr : Addr} {fd fdF fdK fdM fdS fdE fdR fdu fdr : FuncData} {T : Tb} {Gs : Prop} (F : FunC K "fault_in" "fault_in" s_fault_in f fd c0) (TB : LamX.TabB base mg c0 T.F) (hF : T.F ∉ T.ps) (hq : T.q = "fault_in.<locals>.<lambda>") (me : mg "enumerate" = none)
    (kF : PySem.W.keepIn K (.ref fF) = true) (bF : Binds K fdF ["feature"] []) (gF : mg "is_feature" = some (.ref fF)) (GF : FnOk P w K mg base CX0 20 fF fdF ["feature"] (spIsFeature K T))
    (kK : PySem.W.keepIn K (.ref fK) = true) (bK : Binds K fdK ["kind", "features"] []) (gK : mg "is_kind" = some (.ref fK)) (GK : FnOk P w K mg base CX0 19 fK fdK ["kind", "features"] (spIsKind K T))
    (kM : PySem.W.keepIn K (.ref fM) = true) (bM : Binds K fdM ["seam"] []) (gM : mg "is_seam" = some (.ref fM)) (GM : FnOk P w K mg base CX0 20 fM fdM ["seam"] (spIsSeam K T))
    (kS : PySem.W.keepIn K (.ref fS) = true) (bS : Binds K fdS ["stem", "features", "kinds"] []) (gS : mg "is_stem" = some (.ref fS)) (GS : FnOk P w K mg base CX0 19 fS fdS ["stem", "features", "kinds"] (spIsStem K T))
    (kE : PySem.W.keepIn K (.ref fE) = true) (bE : Binds K fdE ["ending", "features"] []) (gE : mg "is_ending" = some (.ref fE)) (GE : FnOk P w K mg base CX0 19 fE fdE ["ending", "features"] (spIsEnding K T))
    (kR : PySem.W.keepIn K (.ref fR) = true) (bR : Binds K fdR ["rule", "features", "kinds"] []) (gR : mg "is_rule" = some (.ref fR)) (GR : FnOk P w K mg base CX0 19 fR fdR ["rule", "features", "kinds"] (spIsRule K T Gs))
    (Fu : Fun K "first_unsound" "first_unsound" s_first_unsound fu fdu) (bu : Binds K fdu ["things", "most", "is_sound", "is_named"] []) (gu : mg "first_unsound" = some (.ref fu))
    (kr : PySem.W.keepIn K (.ref fr) = true) (br : Binds K fdr ["rules"] []) (gr : mg "first_in_ring" = some (.ref fr)) (Gr : FnOk P w K mg base CX0 21 fr fdr ["rules"] (spRing K T)) :
    FnOk P w K mg base CX0 22 f fd ["told"] (spFault K T Gs) := by
  refine F.ok sc_fault_in (fun vs H Q E h => ?_) (fun A outer s H vs Q E hr h => ?_)
  · obtain ⟨v, L, es, N, n, rfl, _⟩ := h
    rfl
  · obtain ⟨v, L, es, N, n, rfl, hTold, hD, hL, hGs, hT, q⟩ := h
    obtain ⟨a, xf, xk, xm, xs, xe, xr, kvs0, vf, vk, vm, wS, ve, vr, rfl, _, LA⟩ := tn_inv hTold hD
    have hu := hu_of hr
    refine ⟨_, pss_cons (ps_set (i := 1) sc_fault_in.nd rfl (.inr rfl) (pe_dc (own := [("feature", 9)]) (g := gName 9) (tt := tYes) rfl sc_fault_in.nd (pi_list (pe_dget hu (pv 0) pe_str (fun _ _ => rfl)))
          (blkOk_by (own := [("feature", 9)]) (N := NFi) (sc := defScope s_fault_in) (by decide +kernel)) (fun _ _ _ _ _ => pg_name (i := 9) sc_fault_in.nd rfl (.inl rfl)) (fun _ _ _ _ _ => pts_nil)
          (fun _ _ _ _ _ => pe_ix (ix_tupK (K := K) rfl) (pv 9) pe_int (fun _ _ => rfl)) (fun _ _ _ _ _ => pe_ix (ix_tupK (K := K) rfl) (pv 9) pe_int (fun _ _ => rfl))))
      (pss_cons (ps_set (i := 2) sc_fault_in.nd rfl (.inr rfl) (pe_dc (own := [("kind", 10)]) (g := gName 10) (tt := tYes) rfl sc_fault_in.nd (pi_list (pe_dget hu (pv 0) pe_str (fun _ _ => rfl)))
          (blkOk_by (own := [("kind", 10)]) (N := NFi) (sc := defScope s_fault_in) (by decide +kernel)) (fun _ _ _ _ _ => pg_name (i := 10) sc_fault_in.nd rfl (.inl rfl)) (fun _ _ _ _ _ => pts_nil)
          (fun _ _ _ _ _ => pe_ix (ix_tupK (K := K) rfl) (pv 10) pe_int (fun _ _ => rfl)) (fun _ _ _ _ _ => pv 10)))
      (pss_cons (ps_set (i := 3) sc_fault_in.nd rfl (.inl rfl) (pe_lst
          (pa_cons (pe_tup (pa_cons pe_str (pa_cons (pe_dget hu (pv 0) pe_str (fun _ _ => rfl)) (pa_cons pe_int (pa_cons (pe_glob (v := .ref fF) (by rfl) gF rfl) pa_nil)))))
          (pa_cons (pe_tup (pa_cons pe_str (pa_cons (pe_dget hu (pv 0) pe_str (fun _ _ => rfl)) (pa_cons pe_int (pa_cons (LX.pe_lam TB rfl rfl caught1) pa_nil)))))
          (pa_cons (pe_tup (pa_cons pe_str (pa_cons (pe_dget hu (pv 0) pe_str (fun _ _ => rfl)) (pa_cons pe_int (pa_cons (pe_glob (v := .ref fM) (by rfl) gM rfl) pa_nil)))))
          (pa_cons (pe_tup (pa_cons pe_str (pa_cons (pe_dget hu (pv 0) pe_str (fun _ _ => rfl)) (pa_cons pe_int (pa_cons (LX.pe_lam TB rfl rfl caught3) pa_nil)))))
          (pa_cons (pe_tup (pa_cons pe_str (pa_cons (pe_dget hu (pv 0) pe_str (fun _ _ => rfl)) (pa_cons pe_int (pa_cons (LX.pe_lam TB rfl rfl caught4) pa_nil)))))
          (pa_cons (pe_tup (pa_cons pe_str (pa_cons (pe_dget hu (pv 0) pe_str (fun _ _ => rfl)) (pa_cons pe_int (pa_cons (LX.pe_lam TB rfl rfl caught5) pa_nil)))))
          pa_nil))))))))
      (pss_cons (ps_for PassesOwn.never rfl (pi_list (pv 3)) (pg_tup rfl (pgs_cons (pg_name (i := 4) sc_fault_in.nd rfl (.inl rfl)) (pgs_cons (pg_name (i := 5) sc_fault_in.nd rfl (.inl rfl)) (pgs_cons (pg_name (i := 6) sc_fault_in.nd rfl (.inl rfl)) (pgs_cons (pg_name (i := 7) sc_fault_in.nd rfl (.inl rfl)) pgs_nil)))))
        (pss_cons (ps_set (i := 8) sc_fault_in.nd rfl (.inl rfl) (LX.pe_callV (k := 20) Fu sc_first_unsound bu (by rfl) gu (hr.mono (by decide)) (SPfu _ K T) (fun pins σ s H vs Q I h => by
            obtain ⟨l, most, f1, named, sp, St, ys, nms, rfl, C, hl, few, hm, hS, hT1, q1⟩ := h
            exact ⟨rfl, fun cd room => fu_body me (LX.cal_of I C) room hl few hm hS hT1 q1⟩) (pa_cons (pv 5) (pa_cons (pv 6) (pa_cons (pv 7) (pa_cons (pe_cmpR op_in_seq (pv 4) (pe_tup (pa_cons pe_str (pa_cons pe_str (pa_cons pe_str pa_nil)))) (by rfl)) pa_nil))))))
        (pss_one (ps_if (pt_cmpR op_ge (pv 8) pe_int (nomark _)) pss_never pss_nil))))
      (pss_cons (ps_if (PW.pt (pw_or (pt_cmp (pc_dnotin hu (pe_dget hu (pv 0) pe_str (fun _ _ => rfl)) (pv 2))) (pw_or1 (pt_val (pe_ix ix_tup (pe_dget hu (pv 2) (pe_dget hu (pv 0) pe_str (fun _ _ => rfl)) (fun _ _ => rfl)) pe_int (fun _ _ => rfl)))))) pss_never pss_nil)
      (pss_cons (ps_set (i := 8) sc_fault_in.nd rfl (.inl rfl) (pe_call Gr (hr.mono (by decide)) (by rfl) gr kr br .nil pass0 (pa_cons (pe_dget hu (pv 0) pe_str (fun _ _ => rfl)) pa_nil)))
      (pss_one (ps_ret (pe_ifExp (pt_cmpR op_ge (pv 8) pe_int (nomark _)) (pe_tup (pa_cons pe_str (pa_cons (pv 8) pa_nil))) pe_non)))))))), ?_⟩
    have e1 : L.fs.take vf.length = L.fs := by rw [LA.df.len, List.length_map, List.take_length]
    have e2 : L.ks.take vk.length = L.ks := by rw [LA.dk.len, List.length_map, List.take_length]
    have bf := hL.fl
    have bk := hL.kl
    refine ⟨_, rfl, a, _, rfl, get_of LA.d LA.vf, xf, rfl, ⟨_, .inl (.inl LA.hf)⟩, fun D nD => ?_⟩
    refine dc_it (walk_list (K := K) (a := xf) (xs := vf)) (fun i HZ => SL T H HZ ∧ FeI HZ D (L.fs.take i)) ⟨SL.of hT (same_new nD), FeI.nil upd_same⟩ (fun i HZ _ z => .inl (.inl (z.1.k _ _ nt_lst LA.hf))) (fun i x HZ HZ' hi hP' hY => ?_) (fun H1 hP' => ?_)
    · obtain ⟨rfl, hx⟩ := hY
      obtain ⟨a1, l1, f1, ks, rfl, h1, h2, h3, h4, h5⟩ := dcF_turn hL.fn hP'.1 nD hP'.2 LA.df (by omega) hx
      exact ⟨rfl, tYes_in ⟨_, rfl, a1, _, _, V.str f1.n, rfl, rfl, h1, rfl, _, rfl, a1, _, _, V.ref l1, rfl, rfl, h1, rfl, ks, .inr f1.n, rfl, h2, h3, h4, h5⟩⟩
    obtain ⟨s1, hfe⟩ := hP'
    rw [e1] at hfe
    have LB := LA.sl s1
    refine ⟨_, rfl, a, _, rfl, get_of LB.d LB.vk, xk, rfl, ⟨_, .inl (.inl LB.hk)⟩, fun D2 nD2 => ?_⟩
    refine dc_it (walk_list (K := K) (a := xk) (xs := vk)) (fun i HZ => SL T H1 HZ ∧ KdI K HZ D2 (L.ks.take i)) ⟨SL.of s1.t (same_new nD2), KdI.nil upd_same⟩ (fun i HZ _ z => .inl (.inl (z.1.k _ _ nt_lst LB.hk))) (fun i x HZ HZ' hi hP' hY => ?_) (fun H2 hP' => ?_)
    · obtain ⟨rfl, hx⟩ := hY
      obtain ⟨a1, l1, f1, ks, rfl, h1, h2, h3, h4, h5⟩ := dcK_turn hL.kn hP'.1 nD2 hP'.2 LB.dk (by omega) hx
      exact ⟨rfl, tYes_in ⟨_, rfl, a1, _, _, V.str f1.n, rfl, rfl, h1, rfl, _, rfl, ks, .inr f1.n, rfl, h2, h3, h4, h5⟩⟩
    obtain ⟨s2, hkd⟩ := hP'
    rw [e2] at hkd
    have LC := LB.sl s2
    have hfe2 := hfe.fts.sl s2
    have hkd2 := hkd.kds
    refine ⟨_, rfl, a, _, rfl, get_of LC.d LC.vf, (show 4 ≤ sizeLine by decide), fun t0 n0 => ?_⟩
    have s3 := SL.of s2.t (same_new (o := .tup [.str "feature", .ref xf, .int 6, .ref fF]) n0)
    have h0 : (upd H2 t0 (.tup [.str "feature", .ref xf, .int 6, .ref fF])) t0 = _ := upd_same
    generalize upd H2 t0 (.tup [.str "feature", .ref xf, .int 6, .ref fF]) = H3 at s3 h0 ⊢
    have L3 := LC.sl s3
    have tq : ∀ {HX : Hp}, TbOk T HX → LamX.TabS HX T.F "fault_in.<locals>.<lambda>" := fun {HX} t => by
      rw [← hq]
      exact t.l
    have tp : ∀ {HX : Hp}, LamX.TabS HX T.F "fault_in.<locals>.<lambda>" → LamX.TabS HX T.F T.q := fun {HX} t => by
      rw [hq]
      exact t
    refine ⟨_, rfl, a, _, rfl, get_of L3.d L3.vk, tq s3.t, fun f1 c1 H4 kp4 tb4 nf4 hf4 hc4 => ⟨(show 4 ≤ sizeLine by decide), fun t1 n1 => ?_⟩⟩
    have s4 := SL.lam s3.t hF kp4 (tp tb4)
    have s5 := SL.of s4.t (same_new (o := .tup [.str "kind", .ref xk, .int 12, .ref f1]) n1)
    have h1 : (upd H4 t1 (.tup [.str "kind", .ref xk, .int 12, .ref f1])) t1 = _ := upd_same
    generalize upd H4 t1 (.tup [.str "kind", .ref xk, .int 12, .ref f1]) = H5 at s5 h1 ⊢
    have L5 := (L3.sl s4).sl s5
    refine ⟨_, rfl, a, _, rfl, get_of L5.d L5.vm, (show 4 ≤ sizeLine by decide), fun t2 n2 => ?_⟩
    have s6 := SL.of s5.t (same_new (o := .tup [.str "seam", .ref xm, .int 12, .ref fM]) n2)
    have h2 : (upd H5 t2 (.tup [.str "seam", .ref xm, .int 12, .ref fM])) t2 = _ := upd_same
    generalize upd H5 t2 (.tup [.str "seam", .ref xm, .int 12, .ref fM]) = H6 at s6 h2 ⊢
    have L6 := L5.sl s6
    refine ⟨_, rfl, a, _, rfl, get_of L6.d L6.vs, tq s6.t, fun f3 c3 H7 kp7 tb7 nf7 hf7 hc7 => ⟨(show 4 ≤ sizeLine by decide), fun t3 n3 => ?_⟩⟩
    have s7 := SL.lam s6.t hF kp7 (tp tb7)
    have s8 := SL.of s7.t (same_new (o := .tup [.str "stem", .ref xs, .int 40, .ref f3]) n3)
    have h3 : (upd H7 t3 (.tup [.str "stem", .ref xs, .int 40, .ref f3])) t3 = _ := upd_same
    generalize upd H7 t3 (.tup [.str "stem", .ref xs, .int 40, .ref f3]) = H8 at s8 h3 ⊢
    have L8 := (L6.sl s7).sl s8
    refine ⟨_, rfl, a, _, rfl, get_of L8.d L8.ve, tq s8.t, fun f4 c4 H9 kp9 tb9 nf9 hf9 hc9 => ⟨(show 4 ≤ sizeLine by decide), fun t4 n4 => ?_⟩⟩
    have s9 := SL.lam s8.t hF kp9 (tp tb9)
    have s10 := SL.of s9.t (same_new (o := .tup [.str "ending", .ref xe, .int 40, .ref f4]) n4)
    have h4 : (upd H9 t4 (.tup [.str "ending", .ref xe, .int 40, .ref f4])) t4 = _ := upd_same
    generalize upd H9 t4 (.tup [.str "ending", .ref xe, .int 40, .ref f4]) = H10 at s10 h4 ⊢
    have L10 := (L8.sl s9).sl s10
    refine ⟨_, rfl, a, _, rfl, get_of L10.d L10.vr, tq s10.t, fun f5 c5 H11 kp11 tb11 nf11 hf11 hc11 => ⟨(show 4 ≤ sizeLine by decide), fun t5 n5 => ?_⟩⟩
    have s11 := SL.lam s10.t hF kp11 (tp tb11)
    have s12 := SL.of s11.t (same_new (o := .tup [.str "rule", .ref xr, .int 30, .ref f5]) n5)
    have h5 : (upd H11 t5 (.tup [.str "rule", .ref xr, .int 30, .ref f5])) t5 = _ := upd_same
    generalize upd H11 t5 (.tup [.str "rule", .ref xr, .int 30, .ref f5]) = H12 at s12 h5 ⊢
    have L12 := (L10.sl s11).sl s12
    refine ⟨(show 6 ≤ sizeLine by decide), fun lk nlk => ?_⟩
    have s13 := SL.of s12.t (same_new (o := .lst [.ref t0, .ref t1, .ref t2, .ref t3, .ref t4, .ref t5]) nlk)
    have hlk : (upd H12 lk (.lst [.ref t0, .ref t1, .ref t2, .ref t3, .ref t4, .ref t5])) lk = _ := upd_same
    generalize upd H12 lk (.lst [.ref t0, .ref t1, .ref t2, .ref t3, .ref t4, .ref t5]) = HB at s13 hlk ⊢
    have LX13 := L12.sl s13
    -- from each heap to the last
    have z12 := s13
    have z11 := s12.trans z12
    have z10 := s11.trans z11
    have z9 := s10.trans z10
    have z8 := s9.trans z9
    have z7 := s8.trans z8
    have z6 := s7.trans z7
    have z5 := s6.trans z6
    have z4 := s5.trans z5
    have z3 := s4.trans z4
    have z2 := s3.trans z3
    have zA := (s1.trans s2).trans z2
    have hfeB := hfe2.sl z2
    have hkdB := hkd2.sl z2
    have bm := hL.ml
    have bs := hL.sl
    have be := hL.el
    have lf : vf.length ≤ 6 := by rw [LA.df.len, List.length_map]; exact bf
    have lkk : vk.length ≤ 12 := by rw [LA.dk.len, List.length_map]; exact bk
    have lm : vm.length ≤ 12 := by rw [LA.dm.len, List.length_map]; exact bm
    have lS : wS.length ≤ 40 := by rw [LA.ds.len, List.length_map]; exact bs
    have lE : ve.length ≤ 40 := by rw [LA.de.len, List.length_map]; exact be
    have lR : vr.length ≤ 30 := by rw [LA.dr.len, List.length_map]; exact hL.rl
    have g4 : H4 f1 = some (LX.LamO f1 (lkF 1 lamQ (XF P w K mg base f c0 A outer s H E).env.cells c1)) := hf4
    have g7 : H7 f3 = some (LX.LamO f3 (lkF 3 lamQ (XF P w K mg base f c0 A outer s H E).env.cells c3)) := hf7
    have g9 : H9 f4 = some (LX.LamO f4 (lkF 4 lamQ (XF P w K mg base f c0 A outer s H E).env.cells c4)) := hf9
    have g11 : H11 f5 = some (LX.LamO f5 (lkF 5 lamQ (XF P w K mg base f c0 A outer s H E).env.cells c5)) := hf11
    have k4 : H4 c1 = some (LamX.CodeO c1 lamQ) := hc4
    have k7 : H7 c3 = some (LamX.CodeO c3 lamQ) := hc7
    have k9 : H9 c4 = some (LamX.CodeO c4 lamQ) := hc9
    have k11 : H11 c5 = some (LamX.CodeO c5 lamQ) := hc11
    have r0 : Row (XF P w K mg base f c0 A outer s H E) K T D D2 HB (.ref t0) := row_mk (z3.k _ _ nt_tup h0) (fun σ _ _ => .inl ⟨fdF, ["feature"], GF, kF, bF⟩) LX13.hf lf (by decide) (snd_f LX13.df hL.f hL.fn)
    have r1 : Row (XF P w K mg base f c0 A outer s H E) K T D D2 HB (.ref t1) := row_mk (z5.k _ _ nt_tup h1) (fun σ e _ => cal1 rfl rfl caught1 free1 (ok_lam1 kK bK gK GK) e) LX13.hk lkk (by decide) (snd_k LX13.dk hL.k hL.kn hfeB (z4.k _ _ LX.nt_lamO g4) (z4.k _ _ nt_code k4))
    have r2 : Row (XF P w K mg base f c0 A outer s H E) K T D D2 HB (.ref t2) := row_mk (z6.k _ _ nt_tup h2) (fun σ _ _ => .inl ⟨fdM, ["seam"], GM, kM, bM⟩) LX13.hm lm (by decide) (snd_m LX13.dm hL.m)
    have r3 : Row (XF P w K mg base f c0 A outer s H E) K T D D2 HB (.ref t3) := row_mk (z8.k _ _ nt_tup h3) (fun σ e e' => cal2 rfl rfl caught3 free3 (ok_lam3 kS bS gS GS) e e') LX13.hs lS (by decide) (snd_s LX13.ds hL.s hfeB hkdB (z7.k _ _ LX.nt_lamO g7) (z7.k _ _ nt_code k7))
    have r4 : Row (XF P w K mg base f c0 A outer s H E) K T D D2 HB (.ref t4) := row_mk (z10.k _ _ nt_tup h4) (fun σ e _ => cal1 rfl rfl caught4 free4 (ok_lam4 kE bE gE GE) e) LX13.he lE (by decide) (snd_e LX13.de hL.e hfeB (z9.k _ _ LX.nt_lamO g9) (z9.k _ _ nt_code k9))
    have r5 : Row (XF P w K mg base f c0 A outer s H E) K T D D2 HB (.ref t5) := row_mk (z12.k _ _ nt_tup h5) (fun σ e e' => cal2 rfl rfl caught5 free5 (ok_lam5 kR bR gR GR) e e') LX13.hr lR (by decide) (snd_r LX13.dr hL.r hL.rn hGs hfeB hkdB (z11.k _ _ LX.nt_lamO g11) (z11.k _ _ nt_code k11))
    have rows : ∀ (i : Nat) (x : V), ([.ref t0, .ref t1, .ref t2, .ref t3, .ref t4, .ref t5] : List V)[i]? = some x → Row (XF P w K mg base f c0 A outer s H E) K T D D2 HB x := fun i x hx => by
      match i, hx with
      | 0, hx => cases hx; exact r0
      | 1, hx => cases hx; exact r1
      | 2, hx => cases hx; exact r2
      | 3, hx => cases hx; exact r3
      | 4, hx => cases hx; exact r4
      | 5, hx => cases hx; exact r5
    refine ⟨_, rfl, lk, rfl, ⟨_, .inl (.inl hlk)⟩, ?_⟩
    refine for_it (walk_list (K := K) (a := lk) (xs := [.ref t0, .ref t1, .ref t2, .ref t3, .ref t4, .ref t5])) (fun i σ HZ => (∃ y4 y5 y6 y7 y8 : Option V, σ = [some (.ref a), some (.ref D), some (.ref D2), some (.ref lk), y4, y5, y6, y7, y8, none, none]) ∧ SL T HB HZ)
      ⟨⟨_, _, _, _, _, rfl⟩, SL.refl s13.t⟩ (fun i σ HZ _ z => .inl (.inl (z.2.k _ _ nt_lst hlk))) (fun i x σ HZ HZ' hi hP' hY => ?_) (fun σ HZ hP' => ?_)
    · obtain ⟨rfl, hx⟩ := hY
      obtain ⟨⟨y4, y5, y6, y7, y8, rfl⟩, sZ⟩ := hP'
      obtain ⟨t, l, g, wd, most, sp, St, ys, nms, rfl, j1, j2, j3, j4, j5, j6⟩ := (rows i x hx).sl sZ
      refine ⟨t, _, rfl, .inl (.inl j1), rfl, _, _, rfl, _, _, rfl, _, _, rfl, _, _, rfl, rfl, ?_⟩
      refine ⟨_, rfl, _, rfl, _, rfl, _, rfl, (show 3 ≤ sizeLine by decide), fun u nu => ?_⟩
      have s1' := SL.of sZ.t (same_new (o := .tup [.str "feature", .str "kind", .str "rule"]) nu)
      have hu' : (upd HZ' u (.tup [.str "feature", .str "kind", .str "rule"])) u = some (.tup [.str "feature", .str "kind", .str "rule"]) := upd_same
      generalize upd HZ' u (.tup [.str "feature", .str "kind", .str "rule"]) = HY at s1' hu' ⊢
      refine ⟨u, _, rfl, .inr (.inl (.inl hu')), rfl, rfl, ?_⟩
      refine ⟨l, most, g, _, sp, St, ys, nms, rfl, j2 _ rfl rfl, s1'.k _ _ nt_lst j3, j4, j5, j6.sl s1', s1'.t, fun HX sX => ?_⟩
      exact ⟨_, rfl, _, _, rfl, rfl, _, rfl, iteF ⟨⟨_, _, _, _, _, rfl⟩, (sZ.trans s1').trans sX⟩⟩
    · obtain ⟨⟨y4, y5, y6, y7, y8, rfl⟩, sZ⟩ := hP'
      have LZ := LX13.sl sZ
      have hkZ := hkdB.sl sZ
      obtain ⟨kvs, e3, e4⟩ := hkZ
      obtain ⟨k0, hk0, ek0, em0⟩ := hL.st
      obtain ⟨ka, kl, e5, e6, e7⟩ := e4 k0 hk0
      rw [ek0] at e5
      refine ⟨_, rfl, a, _, rfl, get_of LZ.d LZ.vst, _, rfl, D2, _, rfl, get_of e3 e5, false, rfl, iteF ?_⟩
      refine ⟨_, rfl, _, rfl, a, _, rfl, get_of LZ.d LZ.vst, D2, _, rfl, get_of e3 e5, ka, _, _, V.bl k0.m, rfl, rfl, e6, rfl, k0.m, rfl, ?_⟩
      rw [em0]
      refine iteF ⟨_, rfl, a, _, rfl, get_of LZ.d LZ.vr, xr, vr, L.rs, L.ks, _, n, rfl, LZ.hr, rus_inv LZ.dr, fun r hr => ⟨(hL.r r hr).ro, (hL.r r hr).p5⟩, hL.rl, sZ.t, fun HX z sX hz => ?_⟩
      have sAll := (zA.trans sZ).trans sX
      refine ⟨_, rfl, _, _, rfl, rfl, _, rfl, ?_⟩
      rcases hz with ⟨rfl, hno⟩ | ⟨i, rfl, hri, hno⟩
      · exact iteF ((q _ sAll).1 hno)
      · rw [decide_eq_true (show ((i : Nat) : Int) ≥ 0 by omega)]
        refine iteT ⟨_, rfl, (show 2 ≤ sizeLine by decide), fun t nt => ?_⟩
        exact (q _ (sAll.new nt)).2 i t hri hno upd_same
end
end Bn

set_option pp.maxSteps 400
namespace Bn
open PySem PySem.Spec PyProof.Rows L2 BR GX RM GY
theorem nt_ins {C dx : Addr} {fs : List (Str × V)} : NT (.ins C dx fs) := fun _ z => by cases z
theorem ncI {C dx : Addr} {fs : List (Str × V)} : ∀ c q, HO.ins C dx fs ≠ LamX.CodeO c q := fun _ _ z => by
  unfold LamX.CodeO at z
  cases z
theorem SL.ownI {T : Tb} {H H' : Hp} {p : Addr} {o : HO} {C dx : Addr} {fs : List (Str × V)} (s : SL T H H') (n : H p = none) (e : H' p = some (.ins C dx fs)) : SL T H (upd H' p o) := s.own n e nt_ins ncI
section
variable {K : PySem.W.Frag} {H H' : Hp}
mutual
theorem Dq.kp (hl : ∀ a xs, H a = some (.lst xs) → H' a = some (.lst xs)) (hd : ∀ a kvs, H a = some (.dK kvs) → H' a = some (.dK kvs)) (ht : ∀ a xs, SqT K H a xs → SqT K H' a xs) : ∀ {N : Addr → Prop} {n : Nat} {v : V} {d : PyData}, Dq K H N n v d → Dq K H' N n v d
  | _, _, _, _, .non => .non
  | _, _, _, _, .bl b => .bl b
  | _, _, _, _, .int i => .int i
  | _, _, _, _, .str x => .str x
  | _, _, _, _, .lst h m l h2 => .lst (hl _ _ h) m l (DqAll.kp hl hd ht h2)
  | _, _, _, _, .tup h l h2 => .tup (ht _ _ h) l (DqAll.kp hl hd ht h2)
  | _, _, _, _, .dic h m l nd h2 => .dic (hd _ _ h) m l nd (DqKv.kp hl hd ht h2)
theorem DqAll.kp (hl : ∀ a xs, H a = some (.lst xs) → H' a = some (.lst xs)) (hd : ∀ a kvs, H a = some (.dK kvs) → H' a = some (.dK kvs)) (ht : ∀ a xs, SqT K H a xs → SqT K H' a xs) : ∀ {N : Addr → Prop} {n : Nat} {vs : List V} {ds : List PyData}, DqAll K H N n vs ds → DqAll K H' N n vs ds
  | _, _, _, _, .nil => .nil
  | _, _, _, _, .cons h1 h2 => .cons (Dq.kp hl hd ht h1) (DqAll.kp hl hd ht h2)
theorem DqKv.kp (hl : ∀ a xs, H a = some (.lst xs) → H' a = some (.lst xs)) (hd : ∀ a kvs, H a = some (.dK kvs) → H' a = some (.dK kvs)) (ht : ∀ a xs, SqT K H a xs → SqT K H' a xs) : ∀ {N : Addr → Prop} {n : Nat} {kvs : List (Key × V)} {es : List (PyData × PyData)}, DqKv K H N n kvs es → DqKv K H' N n kvs es
  | _, _, _, _, .nil => .nil
  | _, _, _, _, .cons h1 h2 => .cons (Dq.kp hl hd ht h1) (DqKv.kp hl hd ht h2)
end
variable {p C dx : Addr} {fs : List (Str × V)} {o : HO}
theorem sqT_updI {a : Addr} {xs : List V} (h : SqT K H a xs) (e : H p = some (.ins C dx fs)) : SqT K (upd H p o) a xs := by
  rcases h with (h | ⟨ob, h⟩) | h
  · exact .inl (.inl (by rw [upd_ne (ne_of h e (by intro z; cases z))]; exact h))
  · exact .inl (.inr ⟨ob, by rw [upd_ne (ne_of h e (by intro z; cases z))]; exact h⟩)
  · exact .inr h
theorem lst_updI {a : Addr} {xs : List V} (h : H a = some (.lst xs)) (e : H p = some (.ins C dx fs)) : (upd H p o) a = some (.lst xs) := by
  rw [upd_ne (ne_of h e (by intro z; cases z))]
  exact h
theorem dK_updI {a : Addr} {xs : List (Key × V)} (h : H a = some (.dK xs)) (e : H p = some (.ins C dx fs)) : (upd H p o) a = some (.dK xs) := by
  rw [upd_ne (ne_of h e (by intro z; cases z))]
  exact h
theorem Dq.updI {N : Addr → Prop} {n : Nat} {v : V} {d : PyData} (h : Dq K H N n v d) (e : H p = some (.ins C dx fs)) : Dq K (upd H p o) N n v d := h.kp (fun _ _ z => lst_updI z e) (fun _ _ z => dK_updI z e) (fun _ _ z => sqT_updI z e)
theorem KdsD.updI {kd : Addr} {ks : List Kd} (h : KdsD K H kd ks) (e : H p = some (.ins C dx fs)) : KdsD K (upd H p o) kd ks := by
  obtain ⟨kvs, h1, h2⟩ := h
  exact ⟨kvs, dK_updI h1 e, fun k hk => let ⟨a, l, e1, e2, e3⟩ := h2 k hk; ⟨a, l, e1, sqT_updI e2 e, lst_updI e3 e⟩⟩
end
/-- a Tongue's attributes, in the order in which they are stored -/
def tgF (o f k p c : V) : List (Str × V) := [("own", o), ("feature_named", f), ("kind_named", k), ("placings", p), ("kept", c)]
theorem tgF_eq (o f k p c : V) : putF "kept" c (putF "placings" p (putF "kind_named" k (putF "feature_named" f (putF "own" o [])))) = tgF o f k p c := by
  simp only [putF, tgF]
  rfl
theorem tgF_own (o f k p c : V) : (tgF o f k p c).lookup ("own" : Str) = some o := rfl
theorem tgF_kn (o f k p c : V) : (tgF o f k p c).lookup ("kind_named" : Str) = some k := rfl
theorem tgF_kept (o f k p c : V) : (tgF o f k p c).lookup ("kept" : Str) = some c := rfl
theorem own1 (o : V) : (putF "own" o []).lookup ("own" : Str) = some o := rfl
theorem own2 (o f : V) : (putF "feature_named" f (putF "own" o [])).lookup ("own" : Str) = some o := rfl
theorem own3 (o f k : V) : (putF "kind_named" k (putF "feature_named" f (putF "own" o []))).lookup ("own" : Str) = some o := rfl
/-- what is asked of the class -/
structure TgC (K : PySem.W.Frag) (C : Addr) : Prop where
  cl : Cls K C
  nO : NoAttr K C "own"
  nF : NoAttr K C "feature_named"
  nK : NoAttr K C "kind_named"
  nP : NoAttr K C "placings"
  nC : NoAttr K C "kept"
/-- the dict of kinds by names, it and the lists within among M -/
def KdJ (K : PySem.W.Frag) (M : Addr → Prop) (H : Hp) (D : Addr) (fs : List Kd) : Prop := ∃ ks, H D = some (.dK ks) ∧ ks.map (·.1) = fs.map (fun f => (Sum.inr f.n : Key)) ∧ ∀ k ∈ fs, ∃ a l, valV ks (.inr k.n) = some (.ref a) ∧ SqT K H a [.str k.n, .ref l, .bl k.g, .bl k.m] ∧ H l = some (.lst (k.fs.map V.str)) ∧ M l
def KdsN (K : PySem.W.Frag) (M : Addr → Prop) (H : Hp) (kd : Addr) (ks : List Kd) : Prop := M kd ∧ ∃ kvs, H kd = some (.dK kvs) ∧ ∀ k ∈ ks, ∃ a l, valV kvs (.inr k.n) = some (.ref a) ∧ SqT K H a [.str k.n, .ref l, .bl k.g, .bl k.m] ∧ H l = some (.lst (k.fs.map V.str)) ∧ M l
theorem KdJ.nil {K : PySem.W.Frag} {M : Addr → Prop} {H : Hp} {D : Addr} (h : H D = some (.dK [])) : KdJ K M H D [] := ⟨[], h, rfl, fun f hf => by cases hf⟩
theorem KdJ.kds {K : PySem.W.Frag} {M : Addr → Prop} {H : Hp} {D : Addr} {fs : List Kd} (m : M D) (h : KdJ K M H D fs) : KdsN K M H D fs := let ⟨ks, e1, _, e3⟩ := h; ⟨m, ks, e1, e3⟩
theorem KdsN.kds {K : PySem.W.Frag} {M : Addr → Prop} {H : Hp} {D : Addr} {fs : List Kd} (h : KdsN K M H D fs) : KdsD K H D fs := let ⟨_, ks, e1, e3⟩ := h; ⟨ks, e1, fun k hk => let ⟨a, l, x1, x2, x3, _⟩ := e3 k hk; ⟨a, l, x1, x2, x3⟩⟩
theorem KdsN.kp {K : PySem.W.Frag} {M : Addr → Prop} {H H' : Hp} {D : Addr} {fs : List Kd} (h : KdsN K M H D fs) (hl : ∀ a xs, M a → H a = some (.lst xs) → H' a = some (.lst xs)) (hd : ∀ kvs, H D = some (.dK kvs) → H' D = some (.dK kvs)) (ht : ∀ a xs, SqT K H a xs → SqT K H' a xs) : KdsN K M H' D fs :=
  let ⟨m, ks, e1, e3⟩ := h; ⟨m, ks, hd _ e1, fun k hk => let ⟨a, l, x1, x2, x3, x4⟩ := e3 k hk; ⟨a, l, x1, ht _ _ x2, hl _ _ x4 x3, x4⟩⟩
theorem KdsN.sl {T : Tb} {K : PySem.W.Frag} {M : Addr → Prop} {H H' : Hp} {D : Addr} {fs : List Kd} (h : KdsN K M H D fs) (s : SL T H H') : KdsN K M H' D fs := h.kp (fun _ _ _ e => s.k _ _ nt_lst e) (fun _ e => s.k _ _ nt_dK e) (fun _ _ e => s.sqT e)
theorem KdsN.updI {K : PySem.W.Frag} {M : Addr → Prop} {H : Hp} {D p C dx : Addr} {fs : List (Str × V)} {o : HO} {ks : List Kd} (h : KdsN K M H D ks) (e : H p = some (.ins C dx fs)) : KdsN K M (upd H p o) D ks := h.kp (fun _ _ _ z => lst_updI z e) (fun _ z => dK_updI z e) (fun _ _ z => sqT_updI z e)
theorem kdJ_put {K : PySem.W.Frag} {M : Addr → Prop} {H : Hp} {D : Addr} {fs : List Kd} {f : Kd} {a l : Addr} {ks : List (Key × V)} (hD : H D = some (.dK ks)) (e1 : ks.map (·.1) = fs.map (fun f => (Sum.inr f.n : Key))) (e2 : ∀ k ∈ fs, ∃ a l, valV ks (.inr k.n) = some (.ref a) ∧ SqT K H a [.str k.n, .ref l, .bl k.g, .bl k.m] ∧ H l = some (.lst (k.fs.map V.str)) ∧ M l)
    (off : (Sum.inr f.n : Key) ∉ fs.map (fun f => (Sum.inr f.n : Key))) (ha : SqT K H a [.str f.n, .ref l, .bl f.g, .bl f.m]) (hl : H l = some (.lst (f.fs.map V.str))) (ml : M l) : KdJ K M (upd H D (.dK (putK ks (.inr f.n) (.ref a)))) D (fs ++ [f]) := by
  have nl : ∀ {l2 : Addr} {ys : List V}, H l2 = some (.lst ys) → (upd H D (.dK (putK ks (.inr f.n) (.ref a)))) l2 = some (.lst ys) := fun e => by
    rw [upd_ne (ne_of e hD (by intro z; cases z))]
    exact e
  refine ⟨_, upd_same, ?_, fun g hg => ?_⟩
  · rw [Bn.putK_new (by rw [e1]; exact off), List.map_append, List.map_append, e1]
    rfl
  · rw [valV_put]
    rcases List.mem_append.mp hg with h | h
    · obtain ⟨a2, l2, e3, e4, e5, e6⟩ := e2 g h
      have ne : ¬ (Sum.inr g.n : Key) = .inr f.n := fun z => off (z ▸ List.mem_map.mpr ⟨g, h, rfl⟩)
      rw [if_neg ne]
      exact ⟨a2, l2, e3, sqT_updD e4 hD, nl e5, e6⟩
    · rw [List.mem_singleton.mp h, if_pos rfl]
      exact ⟨a, l, rfl, sqT_updD ha hD, nl hl, ml⟩
theorem dcJ_turn {T : Tb} {K : PySem.W.Frag} {N M : Addr → Prop} {n : Nat} {D : Addr} {H0 HZ : Hp} {xf : List V} {fs : List Kd} {i : Nat} {x : V} (sub : ∀ b, N b → M b) (nd : (fs.map (·.n)).Nodup) (sZ : SL T H0 HZ) (nD : H0 D = none) (hI : KdJ K M HZ D (fs.take i)) (hd : DqAll K H0 N n xf (fs.map kdD)) (few : fs.length ≤ 1000) (hx : xf[i]? = some x) :
    ∃ (a l : Addr) (f : Kd) (ks : List (Key × V)), x = .ref a ∧ SqT K HZ a [.str f.n, .ref l, .bl f.g, .bl f.m] ∧ HZ D = some (.dK ks) ∧ ks.length < sizeLine ∧ SL T H0 (upd HZ D (.dK (putK ks (.inr f.n) (.ref a)))) ∧ KdJ K M (upd HZ D (.dK (putK ks (.inr f.n) (.ref a)))) D (fs.take (i + 1)) := by
  obtain ⟨f, hf, hv⟩ := dq_at hd hx
  obtain ⟨a, l, rfl, h1, h2, h3⟩ := kd_inv (hv.sl sZ)
  obtain ⟨ks, e1, e2, e3⟩ := hI
  have hlen : ks.length = (fs.take i).length := by
    have := congrArg List.length e2
    rw [List.length_map, List.length_map] at this
    exact this
  refine ⟨a, l, f, ks, rfl, h1, e1, small_line ?_, sZ.ownD nD e1, ?_⟩
  · rw [hlen, List.length_take]
    obtain ⟨hi, _⟩ := List.getElem?_eq_some_iff.mp hf
    omega
  · rw [take_snoc hf]
    exact kdJ_put e1 e2 e3 (off_take nd hf) h1 h2 (sub _ h3)
/-- each rule's orders: lists among M -/
def PlsR (M : Addr → Prop) (H : Hp) (v : V) (R : List Rw) : Prop := ∃ r, v = .ref r ∧ M r ∧ RowsAt H r R
def PlsJ (M : Addr → Prop) (H : Hp) (D : Addr) (Rs : List (List Rw)) : Prop := ∃ xs, H D = some (.lst xs) ∧ Paired (PlsR M H) xs Rs
def plsM (rs : List Ru) : List (List Rw) := rs.map fun r => plF r.ps.length (r.st : Nat) r.ah
theorem RowsAt.kp {H H' : Hp} {r : Addr} {R : List Rw} (h : RowsAt H r R) (hl : ∀ xs, H r = some (.lst xs) → H' r = some (.lst xs)) (ht : ∀ a xs, H a = some (.tup xs) → H' a = some (.tup xs)) : RowsAt H' r R := let ⟨ts, e, z⟩ := h; ⟨ts, hl _ e, paired_mono z fun _ _ e => ht _ _ e⟩
theorem PlsR.sl {M : Addr → Prop} {T : Tb} {H H' : Hp} {v : V} {R : List Rw} (h : PlsR M H v R) (s : SL T H H') : PlsR M H' v R := let ⟨r, e, m, z⟩ := h; ⟨r, e, m, z.kp (fun _ e => s.k _ _ nt_lst e) (fun _ _ e => s.k _ _ nt_tup e)⟩
theorem PlsJ.sl {M : Addr → Prop} {T : Tb} {H H' : Hp} {D : Addr} {Rs : List (List Rw)} (h : PlsJ M H D Rs) (s : SL T H H') : PlsJ M H' D Rs := let ⟨xs, e, z⟩ := h; ⟨xs, s.k _ _ nt_lst e, paired_mono z fun _ _ e => e.sl s⟩
theorem tup_updI {H : Hp} {p C dx a : Addr} {fs : List (Str × V)} {o : HO} {xs : List V} (h : H a = some (.tup xs)) (e : H p = some (.ins C dx fs)) : (upd H p o) a = some (.tup xs) := by
  rw [upd_ne (ne_of h e (by intro z; cases z))]
  exact h
theorem PlsJ.updI {M : Addr → Prop} {H : Hp} {D p C dx : Addr} {fs : List (Str × V)} {o : HO} {Rs : List (List Rw)} (h : PlsJ M H D Rs) (e : H p = some (.ins C dx fs)) : PlsJ M (upd H p o) D Rs := let ⟨xs, e1, z⟩ := h; ⟨xs, lst_updI e1 e, paired_mono z fun _ _ ⟨r, e2, m, z⟩ => ⟨r, e2, m, z.kp (fun _ e3 => lst_updI e3 e) (fun _ _ e3 => tup_updI e3 e)⟩⟩
/-- a Tongue at p, what it keeps at c: kvs; all of its lists and dicts that matter are among N -/
def TnS (C : Addr) (K : PySem.W.Frag) (N : Addr → Prop) (H : Hp) (p c : Addr) (es : List (PyData × PyData)) (L : Tn) (kvs : List (Key × V)) : Prop := ∃ (dx o fd kd pl : Addr), H p = some (.ins C dx (tgF (.ref o) (.ref fd) (.ref kd) (.ref pl) (.ref c))) ∧ Told es L ∧ Dq K H (fun b => N b ∧ b ≠ c) 7 (.ref o) (.dict es) ∧ KdsN K N H kd L.ks ∧ kd ≠ c ∧ H c = some (.dK kvs) ∧ N pl ∧ PlsJ N H pl (plsM L.rs)
theorem TnS.sl {C : Addr} {K : PySem.W.Frag} {N : Addr → Prop} {T : Tb} {H H' : Hp} {p c : Addr} {es : List (PyData × PyData)} {L : Tn} {kvs : List (Key × V)} (h : TnS C K N H p c es L kvs) (s : SL T H H') : TnS C K N H' p c es L kvs := by
  obtain ⟨dx, o, fd, kd, pl, h1, h2, h3, h4, h5, h6, h7, h8⟩ := h
  exact ⟨dx, o, fd, kd, pl, s.k _ _ nt_ins h1, h2, h3.sl s, h4.sl s, h5, s.k _ _ nt_dK h6, h7, h8.sl s⟩
section
variable {P : Program} {w : World} {K : PySem.W.Frag} {mg : Str → Option Value} {base : Heap}
abbrev NIn : List Str := ["self", "told", "why", "feature", "kind", "rule"]
def spInitX (K : PySem.W.Frag) (T : Tb) (C CB : Addr) (Gs : Prop) : Sp := fun vs H Q E => ∃ (p dx : Addr) (v : V) (H0 : Hp) (es : List (PyData × PyData)) (L : Tn) (N : Addr → Prop), vs = [.ref p, v] ∧ H p = some (.ins C dx []) ∧ H0 p = none ∧ SL T H0 H ∧ Told es L ∧ Dq K H N 7 v (.dict es) ∧ L.Ok ∧ L.Gs Gs ∧
  ((∀ i, ¬ RingAt (stpsM L.rs) i) → ∀ (c : Addr) (H' : Hp), SL T H0 H' → H0 c = none → TnS C K (fun b => H0 b = none) H' p c es L [] → Q .non H') ∧
  ∀ (i : Nat) (d t : Addr) (H' : Hp), RingAt (stpsM L.rs) i → (∀ j < i, ¬ RingAt (stpsM L.rs) j) → SL T H0 H' → H' d = some (.xd [("why", .ref t)]) → H' t = some (.tup [.str "ring", .int (i : Nat)]) → E (.ref CB) (some d) H'
theorem ring_lt {rs : List Ru} {i : Nat} (h : RingAt (stpsM rs) i) (l : rs.length ≤ 30) : i < 30 := by
  obtain ⟨o, g, e, _⟩ := h
  have := (List.getElem?_eq_some_iff.mp e).1
  unfold stpsM at this
  rw [List.length_map] at this
  omega
theorem ok_initX {f fc ff fl C CB fB : Addr} {fd fdc fdf fdl fdB : FuncData} {T : Tb} {Gs : Prop} (F : Fun K "__init__" "Tongue.__init__" s_init f fd) (TC : TgC K C)
    (OB : OexC K CB) (iB : PySem.W.findIn K (.ref CB) "__init__" = some (some (.ref fB))) (tB : PySem.W.typeIn K (.ref fB) = some (.type "function")) (mB : mg "BadTongue" = some (.ref CB)) (bB : Binds K fdB ["self", "why"] []) (GB : FnOk P w K mg base CX0 5 fB fdB ["self", "why"] (EXS.spXi K CB "why"))
    (kc : PySem.W.keepIn K (.ref fc) = true) (bc : Binds K fdc ["thing"] []) (gc : mg "copied" = some (.ref fc)) (Gc : FnOk P w K mg base CX0 48 fc fdc ["thing"] (spCopied K T 7))
    (kf : PySem.W.keepIn K (.ref ff) = true) (bf : Binds K fdf ["told"] []) (gf : mg "fault_in" = some (.ref ff)) (Gf : FnOk P w K mg base CX0 22 ff fdf ["told"] (spFault K T Gs))
    (kl : PySem.W.keepIn K (.ref fl) = true) (bl : Binds K fdl ["rule"] []) (gl : mg "places_of" = some (.ref fl)) (Gl : FnOk P w K mg base CX0 22 fl fdl ["rule"] (spPl K T)) :
    FnOk P w K mg base (L2.CX P w) 49 f fd ["self", "told"] (spInitX K T C CB Gs) := by
  refine F.okX sc_init (fun vs H Q E h => ?_) (fun cdv A outer s H vs Q E hr h => ?_)
  · obtain ⟨p, dx, v, H0, es, L, N, rfl, _⟩ := h
    rfl
  · obtain ⟨p, dx, v, H0, es, L, N, rfl, hp, n0, s0, hTo, hD, hL, hGs, q, qE⟩ := h
    have hu := hu_of hr
    refine ⟨_, pss_cons (ps_fld (pv 0) (pe_call Gc hr (by rfl) gc kc bc .nil pass0 (pa_cons (pv 1) pa_nil)) rfl)
      (pss_cons (ps_set (i := 2) sc_init.nd rfl (.inl rfl) (pe_call Gf (hr.mono (by decide)) (by rfl) gf kf bf .nil pass0 (pa_cons (pe_fld (pv 0) rfl) pa_nil)))
      (pss_cons (ps_if (pt_cmpR op_notN (pv 2) pe_non (nomark _)) (pss_one (ps_raise rfl (takes_of rfl rfl rfl rfl) (pmk_oex OB iB tB GB (hr.mono (by decide)) bB .nil pass0 (by rfl) mB (pa_cons (pv 2) pa_nil)))) pss_nil)
      (pss_cons (ps_fld (pv 0) (pe_dc (own := [("feature", 3)]) (g := gName 3) (tt := tYes) rfl sc_init.nd (pi_list (pe_dget hu (pe_fld (pv 0) rfl) pe_str (fun _ _ => rfl)))
          (blkOk_by (own := [("feature", 3)]) (N := NIn) (sc := defScope s_init) (by decide +kernel)) (fun _ _ _ _ _ => pg_name (i := 3) sc_init.nd rfl (.inl rfl)) (fun _ _ _ _ _ => pts_nil)
          (fun _ _ _ _ _ => pe_ix (ix_tupK (K := K) rfl) (pv 3) pe_int (fun _ _ => rfl)) (fun _ _ _ _ _ => pv 3)) rfl)
      (pss_cons (ps_fld (pv 0) (pe_dc (own := [("kind", 4)]) (g := gName 4) (tt := tYes) rfl sc_init.nd (pi_list (pe_dget hu (pe_fld (pv 0) rfl) pe_str (fun _ _ => rfl)))
          (blkOk_by (own := [("kind", 4)]) (N := NIn) (sc := defScope s_init) (by decide +kernel)) (fun _ _ _ _ _ => pg_name (i := 4) sc_init.nd rfl (.inl rfl)) (fun _ _ _ _ _ => pts_nil)
          (fun _ _ _ _ _ => pe_ix (ix_tupK (K := K) rfl) (pv 4) pe_int (fun _ _ => rfl)) (fun _ _ _ _ _ => pv 4)) rfl)
      (pss_cons (ps_fld (pv 0) (pe_lc (own := [("rule", 5)]) (g := gName 5) (tt := tYes) rfl sc_init.nd (pi_list (pe_dget hu (pe_fld (pv 0) rfl) pe_str (fun _ _ => rfl)))
          (blkOk_by (own := [("rule", 5)]) (N := NIn) (sc := defScope s_init) (by decide +kernel)) (fun _ _ _ _ _ => pg_name (i := 5) sc_init.nd rfl (.inl rfl)) (fun _ _ _ _ _ => pts_nil)
          (fun _ _ _ _ _ => pe_call Gl (hr.mono (by decide)) (by rfl) gl kl bl .nil pass0 (pa_cons (pv 5) pa_nil))) rfl)
      (pss_one (ps_fld (pv 0) pe_dnewK rfl))))))), ?_⟩
    refine ⟨_, rfl, v, .dict es, N, rfl, hD, s0.t, fun v1 H1 s1 hv1 => ?_⟩
    have hp1 := s1.k _ _ nt_ins hp
    refine ⟨_, rfl, p, C, dx, _, rfl, hp1, TC.cl, TC.nO, (show 0 < 1000 by decide), ?_⟩
    have sA : SL T H0 (upd H1 p (.ins C dx (putF "own" v1 []))) := (s0.trans s1).ownI n0 hp1
    have hA : Dq K (upd H1 p (.ins C dx (putF "own" v1 []))) (fun b => H0 b = none) 7 v1 (.dict es) := (hv1.mono fun b nb => s0.free nb).updI hp1
    have pA : (upd H1 p (.ins C dx (putF "own" v1 []))) p = some (.ins C dx (putF "own" v1 [])) := upd_same
    generalize upd H1 p (.ins C dx (putF "own" v1 [])) = HA at sA hA pA ⊢
    refine ⟨_, rfl, p, C, dx, _, _, rfl, pA, TC.cl, TC.nO, own1 _, v1, L, es, _, 1, rfl, hTo, hA, hL, hGs, sA.t, fun H2 s2 => ⟨fun hno => ?_, fun i t hri hle ht => ?_⟩⟩
    rotate_left
    · refine ⟨_, rfl, rfl, _, rfl, iteT ⟨_, rfl, (show 1 ≤ 1000 by decide), fun a na => ⟨a, .ref t, rfl, upd_same, .inr ⟨t, [.str "ring", .int (i : Nat)], rfl, .inl (.inl (by rw [upd_ne (ne_of_none ht na)]; exact ht)), (show 2 ≤ 1000 by decide), fun y hy => ?_⟩, fun d nd ndx => ?_⟩⟩⟩
      · rcases List.mem_cons.mp hy with e | hy
        · exact .inr ⟨"ring", e, by decide +kernel, by decide +kernel⟩
        · refine .inl ⟨(i : Nat), List.mem_singleton.mp hy, ?_⟩
          have h30 : i < 30 := ring_lt hri hL.rl
          omega
      have nd2 : H2 d = none := by rw [upd_ne ndx] at nd; exact nd
      have sR : Same H2 (upd (del (upd (upd (upd H2 a (exo a CB none)) d (exd d [("why", V.ref t)])) a (exo a CB (some d))) a) d (.xd [("why", V.ref t)])) := fun b o e => by
        have n1 : b ≠ a := ne_of_none e na
        have n2 : b ≠ d := ne_of_none e nd2
        rw [upd_ne n2, del_ne n1, upd_ne n1, upd_ne n2, upd_ne n1]
        exact e
      refine ⟨rfl, d, [("why", .ref t)], upd_same, by rw [upd_ne ndx, upd_same], nd2, ?_⟩
      exact qE i d t _ hri hle ((sA.trans s2).same sR) upd_same (sR _ _ ht)
    refine ⟨_, rfl, rfl, _, rfl, iteF ?_⟩
    have sB := sA.trans s2
    have hB := hA.sl s2
    have pB := s2.k _ _ nt_ins pA
    obtain ⟨a, xf, xk, xm, xs, xe, xr, kvs0, vf, vk, vm, wS, ve, vr, rfl, _, LA⟩ := tn_inv (n := 1) hTo hB
    have e2 : L.ks.take vk.length = L.ks := by rw [LA.dk.len, List.length_map, List.take_length]
    have bf := hL.fl
    have bk := hL.kl
    have lf : vf.length ≤ 6 := by rw [LA.df.len, List.length_map]; exact bf
    -- feature_named
    refine ⟨_, rfl, p, C, dx, _, _, rfl, pB, TC.cl, TC.nO, own1 _, a, _, rfl, get_of LA.d LA.vf, xf, rfl, ⟨_, .inl (.inl LA.hf)⟩, fun D nD => ?_⟩
    refine dc_it (walk_list (K := K) (a := xf) (xs := vf)) (fun i HZ => SL T H2 HZ ∧ ∃ ks, HZ D = some (.dK ks) ∧ ks.length ≤ i) ⟨SL.of s2.t (same_new nD), [], upd_same, Nat.le_refl _⟩ (fun i HZ _ z => .inl (.inl (z.1.k _ _ nt_lst LA.hf))) (fun i x HZ HZ' hi hP' hY => ?_) (fun H3 hP' => ?_)
    · obtain ⟨rfl, hx⟩ := hY
      obtain ⟨sZ, ks, hDk, hkl⟩ := hP'
      obtain ⟨f1, hf1, hv⟩ := dq_at LA.df hx
      obtain ⟨a1, l1, rfl, h1, _, _⟩ := ft_inv (hv.sl sZ)
      refine ⟨rfl, tYes_in ⟨_, rfl, a1, _, _, V.str f1.n, rfl, rfl, h1, rfl, _, rfl, ks, .inr f1.n, rfl, hDk, small_line (by have : i < vf.length := hi; omega), sZ.ownD nD hDk, _, upd_same, ?_⟩⟩
      have := length_putK ks (.inr f1.n) (V.ref a1)
      omega
    obtain ⟨s3, ks3, hD3, _⟩ := hP'
    have pC := s3.k _ _ nt_ins pB
    refine ⟨_, rfl, p, C, dx, _, rfl, pC, TC.cl, TC.nF, (show 1 < 1000 by decide), ?_⟩
    have sC : SL T H0 (upd H3 p (.ins C dx (putF "feature_named" (.ref D) (putF "own" (.ref a) [])))) := (sB.trans s3).ownI n0 pC
    have hC : Dq K (upd H3 p (.ins C dx (putF "feature_named" (.ref D) (putF "own" (.ref a) [])))) (fun b => H0 b = none) 7 (.ref a) (.dict es) := (hB.sl s3).updI pC
    have qC : (upd H3 p (.ins C dx (putF "feature_named" (.ref D) (putF "own" (.ref a) [])))) p = some (.ins C dx (putF "feature_named" (.ref D) (putF "own" (.ref a) []))) := upd_same
    generalize upd H3 p (.ins C dx (putF "feature_named" (.ref D) (putF "own" (.ref a) []))) = H4 at sC hC qC ⊢
    -- kind_named
    obtain ⟨a', xf, xk, xm, xs, xe, xr, kvs1, vf', vk', vm, wS, ve, vr, ea, _, LA4⟩ := tn_inv (n := 1) hTo hC
    cases ea
    have e2' : L.ks.take vk'.length = L.ks := by rw [LA4.dk.len, List.length_map, List.take_length]
    refine ⟨_, rfl, p, C, dx, _, _, rfl, qC, TC.cl, TC.nO, own2 _ _, a, _, rfl, get_of LA4.d LA4.vk, xk, rfl, ⟨_, .inl (.inl LA4.hk)⟩, fun D2 nD2 => ?_⟩
    refine dc_it (walk_list (K := K) (a := xk) (xs := vk')) (fun i HZ => SL T H4 HZ ∧ KdJ K (fun b => H0 b = none) HZ D2 (L.ks.take i)) ⟨SL.of sC.t (same_new nD2), KdJ.nil upd_same⟩ (fun i HZ _ z => .inl (.inl (z.1.k _ _ nt_lst LA4.hk))) (fun i x HZ HZ' hi hP' hY => ?_) (fun H5 hP' => ?_)
    · obtain ⟨rfl, hx⟩ := hY
      obtain ⟨a1, l1, f1, ks, rfl, h1, h2, h3, h4, h5⟩ := dcJ_turn (M := fun b => H0 b = none) (fun _ z => z.1) hL.kn hP'.1 nD2 hP'.2 LA4.dk (by omega) hx
      exact ⟨rfl, tYes_in ⟨_, rfl, a1, _, _, V.str f1.n, rfl, rfl, h1, rfl, _, rfl, ks, .inr f1.n, rfl, h2, h3, h4, h5⟩⟩
    obtain ⟨s5, hkd⟩ := hP'
    rw [e2'] at hkd
    have pD := s5.k _ _ nt_ins qC
    refine ⟨_, rfl, p, C, dx, _, rfl, pD, TC.cl, TC.nK, (show 2 < 1000 by decide), ?_⟩
    have sE : SL T H0 (upd H5 p (.ins C dx (putF "kind_named" (.ref D2) (putF "feature_named" (.ref D) (putF "own" (.ref a) []))))) := (sC.trans s5).ownI n0 pD
    have hE : Dq K (upd H5 p (.ins C dx (putF "kind_named" (.ref D2) (putF "feature_named" (.ref D) (putF "own" (.ref a) []))))) (fun b => H0 b = none) 7 (.ref a) (.dict es) := (hC.sl s5).updI pD
    have kE : KdsN K (fun b => H0 b = none) (upd H5 p (.ins C dx (putF "kind_named" (.ref D2) (putF "feature_named" (.ref D) (putF "own" (.ref a) []))))) D2 L.ks := (hkd.kds (sC.free nD2)).updI pD
    have qE : (upd H5 p (.ins C dx (putF "kind_named" (.ref D2) (putF "feature_named" (.ref D) (putF "own" (.ref a) []))))) p = some (.ins C dx (putF "kind_named" (.ref D2) (putF "feature_named" (.ref D) (putF "own" (.ref a) [])))) := upd_same
    generalize upd H5 p (.ins C dx (putF "kind_named" (.ref D2) (putF "feature_named" (.ref D) (putF "own" (.ref a) [])))) = H6 at sE hE kE qE ⊢
    -- placings
    obtain ⟨a', xf, xk, xm, xs, xe, xr, kvs2, vf', vk', vm, wS, ve, vr, ea, _, LA6⟩ := tn_inv (n := 1) hTo hE
    cases ea
    refine ⟨_, rfl, p, C, dx, _, _, rfl, qE, TC.cl, TC.nO, own3 _ _ _, a, _, rfl, get_of LA6.d LA6.vr, xr, rfl, ⟨_, .inl (.inl LA6.hr)⟩, fun D3 nD3 => ?_⟩
    have hvr : vr.length = L.rs.length := by rw [LA6.dr.len, List.length_map]
    refine lc_it (walk_list (K := K) (a := xr) (xs := vr)) (fun i HZ => SL T H6 HZ ∧ PlsJ (fun b => H0 b = none ∧ b ≠ D3) HZ D3 (plsM (L.rs.take i))) ⟨SL.of sE.t (same_new nD3), [], upd_same, .nil⟩ (fun i HZ _ z => .inl (.inl (z.1.k _ _ nt_lst LA6.hr))) (fun i x HZ HZ' hi hP' hY => ?_) (fun H7 hP' => ?_)
    · obtain ⟨rfl, hx⟩ := hY
      obtain ⟨sZ, ys, hDy, hys⟩ := hP'
      obtain ⟨r, hr, ar, m, pl, gl, o, al, kvr, xs', gs, as, rfl, hR⟩ := pairedA_at (rus_inv (LA6.sl sZ).dr) hx
      have hok := hL.r r (List.mem_of_getElem? hr)
      have hxl : xs'.length = r.ps.length := by rw [hR.ps.len, List.length_map]
      refine ⟨rfl, tYes_in ⟨_, rfl, ar, pl, o, al, r.ps.length, ((r.st : Nat) : Int), ((r.sr : Nat) : Int), r.ah, xs', as, _, _, _, _, _, rfl, ⟨hR.a, hR.pl, hxl, hR.o.o, hR.o.al, hR.o.as⟩, hok.p5, fun pr h => (hok.o.ah pr h).2, sZ.t, fun rr H11 nr s11 hrows => ?_⟩⟩
      have hD11 := s11.k _ _ nt_lst hDy
      refine ⟨_, hD11, ?_, (sZ.trans s11).ownL nD3 hD11, ys ++ [.ref rr], upd_same, ?_⟩
      · rw [Paired.length hys]
        show ((L.rs.take i).map _).length < _
        rw [List.length_map, List.length_take]
        have := hL.rl
        exact small_line (by omega)
      · rw [take_get hr, show plsM (L.rs.take i ++ [r]) = plsM (L.rs.take i) ++ [plF r.ps.length (r.st : Nat) r.ah] from List.map_append]
        have nrr : rr ≠ D3 := fun z => by rw [z, hDy] at nr; cases nr
        have upT : ∀ {a : Addr} {zs : List V}, H11 a = some (.tup zs) → (upd H11 D3 (.lst (ys ++ [.ref rr]))) a = some (.tup zs) := fun e => by
          rw [upd_ne (ne_of e hD11 (by intro z; cases z))]
          exact e
        have upL : ∀ {r0 : Addr} {zs : List V}, r0 ≠ D3 → H11 r0 = some (.lst zs) → (upd H11 D3 (.lst (ys ++ [.ref rr]))) r0 = some (.lst zs) := fun n e => by
          rw [upd_ne n]
          exact e
        have rrn : H0 rr = none := sE.free (sZ.free nr)
        exact paired_snoc (paired_mono hys fun _ _ ⟨r0, e0, m0, z0⟩ => ⟨r0, e0, m0, z0.kp (fun _ e => upL m0.2 (s11.k _ _ nt_lst e)) (fun _ _ e => upT (s11.k _ _ nt_tup e))⟩) ⟨rr, rfl, ⟨rrn, nrr⟩, hrows.kp (fun _ e => upL nrr e) (fun _ _ e => upT e)⟩
    obtain ⟨s7, hpl⟩ := hP'
    rw [hvr, List.take_length] at hpl
    have hpl : PlsJ (fun b => H0 b = none) H7 D3 (plsM L.rs) := let ⟨xs, e, z⟩ := hpl; ⟨xs, e, paired_mono z fun _ _ ⟨r, e, m, z⟩ => ⟨r, e, m.1, z⟩⟩
    have nD30 : H0 D3 = none := sE.free nD3
    have pF := s7.k _ _ nt_ins qE
    refine ⟨_, rfl, p, C, dx, _, rfl, pF, TC.cl, TC.nP, (show 3 < 1000 by decide), ?_⟩
    have sG : SL T H0 (upd H7 p (.ins C dx (putF "placings" (.ref D3) (putF "kind_named" (.ref D2) (putF "feature_named" (.ref D) (putF "own" (.ref a) [])))))) := (sE.trans s7).ownI n0 pF
    have hG : Dq K (upd H7 p (.ins C dx (putF "placings" (.ref D3) (putF "kind_named" (.ref D2) (putF "feature_named" (.ref D) (putF "own" (.ref a) [])))))) (fun b => H0 b = none) 7 (.ref a) (.dict es) := (hE.sl s7).updI pF
    have kG : KdsN K (fun b => H0 b = none) (upd H7 p (.ins C dx (putF "placings" (.ref D3) (putF "kind_named" (.ref D2) (putF "feature_named" (.ref D) (putF "own" (.ref a) [])))))) D2 L.ks := (kE.sl s7).updI pF
    have plG : PlsJ (fun b => H0 b = none) (upd H7 p (.ins C dx (putF "placings" (.ref D3) (putF "kind_named" (.ref D2) (putF "feature_named" (.ref D) (putF "own" (.ref a) [])))))) D3 (plsM L.rs) := hpl.updI pF
    have qG : (upd H7 p (.ins C dx (putF "placings" (.ref D3) (putF "kind_named" (.ref D2) (putF "feature_named" (.ref D) (putF "own" (.ref a) [])))))) p = some (.ins C dx (putF "placings" (.ref D3) (putF "kind_named" (.ref D2) (putF "feature_named" (.ref D) (putF "own" (.ref a) []))))) := upd_same
    generalize upd H7 p (.ins C dx (putF "placings" (.ref D3) (putF "kind_named" (.ref D2) (putF "feature_named" (.ref D) (putF "own" (.ref a) []))))) = H8 at sG hG kG plG qG ⊢
    -- kept
    intro d nd
    have hO8 := hG.off nd
    have nkd : D2 ≠ d := by
      obtain ⟨_, kv2, e1, _⟩ := kG
      exact ne_of_none e1 nd
    have zd : H0 d = none := sG.free nd
    have pH : (upd H8 d (.dK [])) p = _ := same_new nd _ _ qG
    have s8 := SL.of sG.t (same_new (o := .dK []) nd)
    have hd8 : (upd H8 d (.dK [])) d = some (.dK []) := upd_same
    generalize upd H8 d (.dK []) = H9 at pH s8 hd8 ⊢
    refine ⟨_, rfl, p, C, dx, _, rfl, pH, TC.cl, TC.nC, (show 4 < 1000 by decide), ?_⟩
    refine q hno d _ ((sG.trans s8).ownI n0 pH) zd ⟨dx, a, D, D2, D3, ?_, hTo, (hO8.sl s8).updI pH, (kG.sl s8).updI pH, nkd, dK_updI hd8 pH, nD30, (plG.sl s8).updI pH⟩
    rw [tgF_eq]
    exact upd_same
end
end Bn

set_option pp.maxSteps 400
/-! ways from kind to kind: the mathematics of a table of steps gone on -/
namespace Bn
open PySem PySem.Spec PyProof.Rows L2 BR GX RM GY
def WalkS (S : List Stp) : Str → List Str → Prop
  | _, [] => True
  | a, b :: r => (a, some b) ∈ S ∧ WalkS S b r
theorem walk_split {S : List Stp} {v : Str} {r : List Str} : ∀ {p : List Str} {a : Str}, WalkS S a (p ++ v :: r) ↔ WalkS S a (p ++ [v]) ∧ WalkS S v r
  | [], a => by
    show _ ∧ _ ↔ (_ ∧ True) ∧ _
    simp
  | b :: p, a => by
    show _ ∧ WalkS S b (p ++ v :: r) ↔ (_ ∧ WalkS S b (p ++ [v])) ∧ _
    rw [walk_split (p := p), and_assoc]
theorem dup_split : ∀ {l : List Str}, ¬ l.Nodup → ∃ p v q r, l = p ++ v :: (q ++ v :: r)
  | [], h => absurd List.nodup_nil h
  | a :: l, h => by
    by_cases ha : a ∈ l
    · obtain ⟨q, r, e⟩ := List.append_of_mem ha
      exact ⟨[], a, q, r, by rw [e]; rfl⟩
    · have hl : ¬ l.Nodup := fun z => h (List.nodup_cons.mpr ⟨ha, z⟩)
      obtain ⟨p, v, q, r, e⟩ := dup_split hl
      exact ⟨a :: p, v, q, r, by rw [e]; rfl⟩
/-- a way without doubles -/
theorem walk_short {S : List Stp} {a x : Str} : ∀ (n : Nat) (l : List Str), l.length ≤ n → WalkS S a l → l.getLast? = some x → ∃ l', WalkS S a l' ∧ l'.getLast? = some x ∧ l'.Nodup
  | 0, l, hl, hw, hx => by
    cases l with
    | nil => cases hx
    | cons _ _ => simp at hl
  | n + 1, l, hl, hw, hx => by
    by_cases hn : l.Nodup
    · exact ⟨l, hw, hx, hn⟩
    · obtain ⟨p, v, q, r, e⟩ := dup_split hn
      subst e
      obtain ⟨w1, w2⟩ := walk_split.mp hw
      obtain ⟨_, w3⟩ := walk_split.mp w2
      refine walk_short n (p ++ v :: r) ?_ (walk_split.mpr ⟨w1, w3⟩) ?_
      · simp only [List.length_append, List.length_cons] at hl ⊢
        omega
      · rw [← hx]
        simp [List.getLast?_append, List.getLast?_cons]
theorem walk_in {S : List Stp} {W : List Str} (hW : ∀ a b, (a, some b) ∈ S → b ∈ W) : ∀ {l : List Str} {a : Str}, WalkS S a l → ∀ x ∈ l, x ∈ W
  | [], _, _, x, h => by cases h
  | b :: r, a, h, x, hx => by
    rcases List.mem_cons.mp hx with z | z
    · rw [z]; exact hW a b h.1
    · exact walk_in hW h.2 x z
theorem walk_few {S : List Stp} {W : List Str} {a x : Str} {l : List Str} (hW : ∀ a b, (a, some b) ∈ S → b ∈ W) (hw : WalkS S a l) (hx : l.getLast? = some x) : ∃ l', WalkS S a l' ∧ l'.getLast? = some x ∧ l'.length ≤ W.length := by
  obtain ⟨l', h1, h2, h3⟩ := walk_short l.length l (Nat.le_refl _) hw hx
  exact ⟨l', h1, h2, nodup_len l' W h3 (walk_in hW h1)⟩
theorem walk_snoc {S : List Stp} {x y : Str} (h : (x, some y) ∈ S) : ∀ {l : List Str} {a : Str}, WalkS S a l → (l.getLast? = some x ∨ (l = [] ∧ a = x)) → WalkS S a (l ++ [y])
  | [], a, _, hx => by
    rcases hx with z | ⟨_, z⟩
    · cases z
    · rw [z]; exact ⟨h, trivial⟩
  | b :: r, a, hw, hx => by
    refine ⟨hw.1, walk_snoc h hw.2 ?_⟩
    rcases hx with z | ⟨z, _⟩
    · cases r with
      | nil => exact .inr ⟨rfl, by simpa using z⟩
      | cons c r => exact .inl (by simpa [List.getLast?_cons_cons] using z)
    · cases z
theorem reach_walk {S : List Stp} {a x : Str} : Reach S a x ↔ a = x ∨ ∃ l, WalkS S a l ∧ l.getLast? = some x := by
  constructor
  · intro h
    induction h with
    | refl => exact .inl rfl
    | @step x y _ h2 ih =>
      refine .inr ?_
      rcases ih with z | ⟨l, w1, w2⟩
      · exact ⟨[y], by rw [z]; exact ⟨h2, trivial⟩, rfl⟩
      · exact ⟨l ++ [y], walk_snoc h2 w1 (.inl w2), by simp⟩
  · rintro (z | ⟨l, w1, w2⟩)
    · rw [z]; exact .refl
    · have gen : ∀ (l : List Str) (b : Str), Reach S a b → WalkS S b l → l.getLast? = some x → Reach S a x := by
        intro l
        induction l with
        | nil => intro b _ _ e; cases e
        | cons c r ih =>
          intro b hb hw e
          have hc := Reach.step hb hw.1
          cases r with
          | nil =>
            have : c = x := by simpa using e
            exact this ▸ hc
          | cons d r => exact ih c hc hw.2 (by simpa [List.getLast?_cons_cons] using e)
      exact gen l a .refl w1 w2
/-! ### the law's table gone on -/
/-- a table: whom each kind reaches so far -/
abbrev Tbl := Str → Str → Prop
/-- t passes -/
inductive Passes (S : List Stp) : Nat → Tbl → Tbl → Prop
  | zero {R : Tbl} : Passes S 0 R R
  | next {t : Nat} {R R' R'' : Tbl} : Passes S t R R' → (∀ a x, R' a x → R'' a x) → (∀ a b x, (a, some b) ∈ S → R' a b → R' b x → R'' a x) → Passes S (t + 1) R R''
theorem Passes.all {S : List Stp} {R0 : Tbl} (h0 : ∀ a b, (a, some b) ∈ S → R0 a b) {t : Nat} {R : Tbl} (h : Passes S t R0 R) : (∀ a b, (a, some b) ∈ S → R a b) ∧ ∀ a l x, WalkS S a l → l.getLast? = some x → l.length ≤ t + 1 → R a x := by
  induction h with
  | zero =>
    refine ⟨h0, fun a l x hw hx hl => ?_⟩
    match l, hw, hx, hl with
    | [b], hw, hx, _ =>
      have : b = x := by simpa using hx
      exact this ▸ h0 a b hw.1
    | _ :: _ :: _, _, _, hl => simp at hl
  | next _ up go ih =>
    obtain ⟨i1, i2⟩ := ih h0
    refine ⟨fun a b h => up _ _ (i1 a b h), fun a l x hw hx hl => ?_⟩
    match l, hw, hx, hl with
    | [b], hw, hx, _ =>
      have : b = x := by simpa using hx
      exact this ▸ up _ _ (i1 a b hw.1)
    | b :: c :: r, hw, hx, hl =>
      refine go a b x hw.1 (i1 a b hw.1) (i2 b (c :: r) x hw.2 (by simpa [List.getLast?_cons_cons] using hx) ?_)
      simp only [List.length_cons] at hl ⊢
      omega
/-- as many passes as kinds: all that is reached -/
theorem Passes.full {S : List Stp} {R0 R : Tbl} {W : List Str} (hW : ∀ a b, (a, some b) ∈ S → b ∈ W) (h0 : ∀ a b, (a, some b) ∈ S → R0 a b) (h : Passes S W.length R0 R) {a x : Str} {l : List Str} (hw : WalkS S a l) (hx : l.getLast? = some x) : R a x := by
  obtain ⟨l', w1, w2, w3⟩ := walk_few hW hw hx
  exact (h.all h0).2 a l' x w1 w2 (by omega)
end Bn

set_option pp.maxSteps 400
/-! k20's rules are sound, but for rings -/
namespace Bn
open PySem PySem.Spec PyProof.Rows L2 BR GX RM GY
def kds20 (ns : List Str) : List Kd := (ns.map fun n => ⟨n, [], true, false⟩) ++ [⟨"m", [], false, true⟩]
abbrev hd20 (k : Str) (o : Bool) : Pt := ⟨"head", k, [], o⟩
abbrev fl20 (k : Str) : Pt := ⟨"fill", k, [], false⟩
abbrev ho20 (k : Str) : Pt := ⟨"host", k, [], true⟩
abbrev of20 (k : Str) (o : Bool) : Pt := ⟨"of", k, [], o⟩
abbrev mu20 : Pt := ⟨"-", "m", [], false⟩
/-- the parts of a drawn rule -/
inductive Ps20 (a b : Str) : List Pt → Prop
  | h1 : Ps20 a b [hd20 a true]
  | h2 : Ps20 a b [hd20 a true, mu20]
  | h3 : Ps20 a b [mu20, hd20 a true, mu20]
  | f1 : Ps20 a b [fl20 a, ho20 b]
  | f2 : Ps20 a b [ho20 b, mu20, fl20 a]
  | o1 (z : Bool) : Ps20 a b [hd20 a true, of20 b z]
  | o2 (z : Bool) : Ps20 a b [of20 b z, mu20, hd20 a true]
  | o3 (z : Bool) : Ps20 a b [of20 b z, hd20 a true, of20 b z]
  | c1 : Ps20 a b [hd20 a false]
  | c2 : Ps20 a b [hd20 a false, of20 b false]
theorem nm20 (x : Str) (h : x = "head" ∨ x = "fill" ∨ x = "host" ∨ x = "of") : Nm x := by
  rcases h with rfl | rfl | rfl | rfl
  all_goals exact ⟨by decide +kernel, by decide +kernel, by unfold LetS; decide +kernel⟩
theorem pt20 {ns : List Str} {a b : Str} {ps : List Pt} (ha : a ∈ ns) (hb : b ∈ ns) (h : Ps20 a b ps) : ∀ p ∈ ps, PtOk [] (kds20 ns) p := by
  have bd : ∀ own, BdOk [] own [] := fun own p hp => by cases hp
  have hk : ∀ k ∈ ns, ∀ r : Str, r ≠ "-" → ∃ kd ∈ kds20 ns, kd.n = k ∧ kd.m = decide (r = "-") ∧ BdOk [] kd.fs [] := fun k hk r hr => ⟨⟨k, [], true, false⟩, List.mem_append_left _ (List.mem_map.mpr ⟨k, hk, rfl⟩), rfl, (decide_eq_false hr).symm, bd _⟩
  have n1 : ("head" : Str) ≠ "-" := by decide +kernel
  have n2 : ("head" : Str) ≠ "fill" := by decide +kernel
  have n3 : ("fill" : Str) ≠ "-" := by decide +kernel
  have n4 : ("host" : Str) ≠ "-" := by decide +kernel
  have n5 : ("host" : Str) ≠ "fill" := by decide +kernel
  have n6 : ("of" : Str) ≠ "-" := by decide +kernel
  have n7 : ("of" : Str) ≠ "fill" := by decide +kernel
  have h1 : ∀ k ∈ ns, ∀ z, PtOk [] (kds20 ns) (hd20 k z) := fun k hk' z => ⟨.inr (nm20 _ (.inl rfl)), hk k hk' _ n1, fun _ => ⟨n1, n2⟩⟩
  have h2 : ∀ k ∈ ns, PtOk [] (kds20 ns) (fl20 k) := fun k hk' => ⟨.inr (nm20 _ (.inr (.inl rfl))), hk k hk' _ n3, fun z => by cases z⟩
  have h3 : ∀ k ∈ ns, PtOk [] (kds20 ns) (ho20 k) := fun k hk' => ⟨.inr (nm20 _ (.inr (.inr (.inl rfl)))), hk k hk' _ n4, fun _ => ⟨n4, n5⟩⟩
  have h4 : ∀ k ∈ ns, ∀ z, PtOk [] (kds20 ns) (of20 k z) := fun k hk' z => ⟨.inr (nm20 _ (.inr (.inr (.inr rfl)))), hk k hk' _ n6, fun _ => ⟨n6, n7⟩⟩
  have h5 : PtOk [] (kds20 ns) mu20 := ⟨.inl rfl, ⟨⟨"m", [], false, true⟩, List.mem_append_right _ (List.mem_singleton.mpr rfl), rfl, (decide_eq_true rfl).symm, bd _⟩, fun z => by cases z⟩
  have a1 := h1 a ha
  have a2 := h2 a ha
  have b3 := h3 b hb
  have b4 := h4 b hb
  cases h <;> intro p hp <;> simp only [List.mem_cons, List.not_mem_nil, or_false] at hp
  · rw [hp]; exact a1 _
  · rcases hp with e | e <;> rw [e]
    · exact a1 _
    · exact h5
  · rcases hp with e | e | e <;> rw [e]
    · exact h5
    · exact a1 _
    · exact h5
  · rcases hp with e | e <;> rw [e]
    · exact a2
    · exact b3
  · rcases hp with e | e | e <;> rw [e]
    · exact b3
    · exact h5
    · exact a2
  · rcases hp with e | e <;> rw [e]
    · exact a1 _
    · exact b4 _
  · rcases hp with e | e | e <;> rw [e]
    · exact b4 _
    · exact h5
    · exact a1 _
  · rcases hp with e | e | e <;> rw [e]
    · exact b4 _
    · exact a1 _
    · exact b4 _
  · rw [hp]; exact a1 _
  · rcases hp with e | e <;> rw [e]
    · exact a1 _
    · exact b4 _
theorem ro_h {ks : List Kd} {ps : List Pt} (l : List Str) (e : rolesOf ps = l) (h : l.count ("head" : Str) = 1 ∧ l.count ("host" : Str) = 0 ∧ l.count ("fill" : Str) = 0) : RolesOk ks ps := .inl (by rw [e]; exact h)
theorem ro_f {ns : List Str} {ps : List Pt} (l : List Str) (e : rolesOf ps = l) (h : l.count ("head" : Str) = 0 ∧ l.count ("host" : Str) = 1 ∧ l.count ("fill" : Str) = 1 ∧ l.count ("-" : Str) + 2 = l.length) (h2 : ∀ p ∈ ps, p.r = "host" → p.o = true) (h3 : ∀ p ∈ ps, p.r = "fill" → p.k ∈ ns) : RolesOk (kds20 ns) ps := by
  refine .inr ⟨by rw [e]; exact h.1, by rw [e]; exact h.2.1, by rw [e]; exact h.2.2.1, ?_, h2, fun p hp z => ⟨⟨p.k, [], true, false⟩, List.mem_append_left _ (List.mem_map.mpr ⟨_, h3 p hp z, rfl⟩), rfl, rfl⟩⟩
  rw [e, h.2.2.2, ← e, List.length_map]
theorem ro20 {ns : List Str} {a b : Str} {ps : List Pt} (ha : a ∈ ns) (h : Ps20 a b ps) : RolesOk (kds20 ns) ps := by
  have n1 : ¬ ("fill" : Str) = "host" := by decide +kernel
  have n2 : ¬ ("-" : Str) = "host" := by decide +kernel
  have n3 : ¬ ("host" : Str) = "fill" := by decide +kernel
  have n4 : ¬ ("-" : Str) = "fill" := by decide +kernel
  cases h
  · exact ro_h ["head"] rfl (by decide +kernel)
  · exact ro_h ["head", "-"] rfl (by decide +kernel)
  · exact ro_h ["-", "head", "-"] rfl (by decide +kernel)
  · refine ro_f ["fill", "host"] rfl (by decide +kernel) (fun p hp z => ?_) (fun p hp z => ?_) <;> simp only [List.mem_cons, List.not_mem_nil, or_false] at hp <;> rcases hp with e | e <;> rw [e] at z ⊢
    · exact absurd z n1
    · exact ha
    · exact absurd z n3
  · refine ro_f ["host", "-", "fill"] rfl (by decide +kernel) (fun p hp z => ?_) (fun p hp z => ?_) <;> simp only [List.mem_cons, List.not_mem_nil, or_false] at hp <;> rcases hp with e | e | e <;> rw [e] at z ⊢
    · exact absurd z n2
    · exact absurd z n1
    · exact absurd z n3
    · exact absurd z n4
    · exact ha
  · exact ro_h ["head", "of"] rfl (by decide +kernel)
  · exact ro_h ["of", "-", "head"] rfl (by decide +kernel)
  · exact ro_h ["of", "head", "of"] rfl (by decide +kernel)
  · exact ro_h ["head"] rfl (by decide +kernel)
  · exact ro_h ["head", "of"] rfl (by decide +kernel)
theorem led_f {ps : List Pt} (l : List Str) (e : rolesOf ps = l) (h : ("fill" : Str) ∈ l) : ledM ps = some (firstK ps "fill") := by unfold ledM; rw [e, if_pos h]
theorem led_h {ps : List Pt} (l : List Str) (e : rolesOf ps = l) (h : ¬ ("fill" : Str) ∈ l) (h2 : l.all (fun z => decide (z ∈ (["head", "-"] : List Str))) = true) : ledM ps = some (firstK ps "head") := by unfold ledM; rw [e, if_neg h, if_pos h2]
theorem led_n {ps : List Pt} (l : List Str) (e : rolesOf ps = l) (h : ¬ ("fill" : Str) ∈ l) (h2 : ¬ l.all (fun z => decide (z ∈ (["head", "-"] : List Str))) = true) : ledM ps = none := by unfold ledM; rw [e, if_neg h, if_neg h2]
/-- to which kind it leads -/
theorem led20 {a b : Str} {ps : List Pt} (h : Ps20 a b ps) : ledM ps = if ("of" : Str) ∈ rolesOf ps then none else some a := by
  cases h
  · rw [led_h ["head"] rfl (by decide +kernel) (by decide +kernel), show rolesOf [hd20 a true] = (["head"] : List Str) from rfl, if_neg (by decide +kernel)]; rfl
  · rw [led_h ["head", "-"] rfl (by decide +kernel) (by decide +kernel), show rolesOf [hd20 a true, mu20] = (["head", "-"] : List Str) from rfl, if_neg (by decide +kernel)]; rfl
  · rw [led_h ["-", "head", "-"] rfl (by decide +kernel) (by decide +kernel), show rolesOf [mu20, hd20 a true, mu20] = (["-", "head", "-"] : List Str) from rfl, if_neg (by decide +kernel)]; rfl
  · rw [led_f ["fill", "host"] rfl (by decide +kernel), show rolesOf [fl20 a, ho20 b] = (["fill", "host"] : List Str) from rfl, if_neg (by decide +kernel)]; rfl
  · rw [led_f ["host", "-", "fill"] rfl (by decide +kernel), show rolesOf [ho20 b, mu20, fl20 a] = (["host", "-", "fill"] : List Str) from rfl, if_neg (by decide +kernel)]; rfl
  · rename_i z
    rw [led_n ["head", "of"] rfl (by decide +kernel) (by decide +kernel), show rolesOf [hd20 a true, of20 b z] = (["head", "of"] : List Str) from rfl, if_pos (by decide +kernel)]
  · rename_i z
    rw [led_n ["of", "-", "head"] rfl (by decide +kernel) (by decide +kernel), show rolesOf [of20 b z, mu20, hd20 a true] = (["of", "-", "head"] : List Str) from rfl, if_pos (by decide +kernel)]
  · rename_i z
    rw [led_n ["of", "head", "of"] rfl (by decide +kernel) (by decide +kernel), show rolesOf [of20 b z, hd20 a true, of20 b z] = (["of", "head", "of"] : List Str) from rfl, if_pos (by decide +kernel)]
  · rw [led_h ["head"] rfl (by decide +kernel) (by decide +kernel), show rolesOf [hd20 a false] = (["head"] : List Str) from rfl, if_neg (by decide +kernel)]; rfl
  · rw [led_n ["head", "of"] rfl (by decide +kernel) (by decide +kernel), show rolesOf [hd20 a false, of20 b false] = (["head", "of"] : List Str) from rfl, if_pos (by decide +kernel)]
theorem len20 {a b : Str} {ps : List Pt} (h : Ps20 a b ps) : 1 ≤ ps.length ∧ ps.length ≤ 3 := by
  cases h <;> exact ⟨by simp, by simp⟩
theorem own20 {ns : List Str} {k : Str} : ownsOf (kds20 ns) k = [] := by
  unfold ownsOf
  cases e : (kds20 ns).find? fun kd => decide (kd.n = k) with
  | none => rfl
  | some kd =>
    rcases List.mem_append.mp (List.mem_of_find?_eq_some e) with h | h
    · obtain ⟨n, _, rfl⟩ := List.mem_map.mp h
      rfl
    · rw [List.mem_singleton.mp h]
theorem pl20 : ∀ m : Nat, 1 ≤ m → m ≤ 3 → plF m ((1 : Nat) : Int) [] ≠ []
  | 0, h, _ => absurd h (by decide)
  | 1, _, _ => by decide +kernel
  | 2, _, _ => by decide +kernel
  | 3, _, _ => by decide +kernel
  | n + 4, _, h => absurd h (by omega)
/-- a drawn rule is sound -/
theorem ru20 {ns : List Str} {n k a b : Str} {i : Nat} {ps : List Pt} (hn : Nm n) (hi : i ≤ 999) (hk : k ∈ ns) (ha : a ∈ ns) (hb : b ∈ ns) (h : Ps20 a b ps) : RuOk [] (kds20 ns) ⟨n, (i : Nat), k, [], ps, [], 1, 0, []⟩ where
  n := hn
  r0 := Int.natCast_nonneg _
  r9 := by
    show ((i : Nat) : Int) ≤ 999
    omega
  k := ⟨⟨k, [], true, false⟩, List.mem_append_left _ (List.mem_map.mpr ⟨k, hk, rfl⟩), rfl, rfl, own20.symm⟩
  b := fun p hp => by cases hp
  p1 := (len20 h).1
  p5 := Nat.le_trans (len20 h).2 (by decide)
  ps := pt20 ha hb h
  ro := ro20 ha h
  gs := fun g hg => by cases hg
  fs := fun f hf => by rw [own20] at hf; cases hf
  o := ⟨show 1 ≤ 4 by decide, show 0 ≤ 99 by decide, fun q hq => by cases hq⟩
  pl := pl20 _ (len20 h).1 (len20 h).2
end Bn

set_option pp.maxSteps 400
/-! k20's tongue is sound, but for rings -/
namespace Bn
open PySem PySem.Spec PyProof.Rows L2 BR GX RM GY
def t20 (ns : List Str) (rs : List Ru) (st : Str) : Tn := ⟨[], kds20 ns, [], [], [], rs, st⟩
def es20 (ns : List Str) (rs : List Ru) (st : Str) : List (PyData × PyData) := [(.str "features", .list []), (.str "kinds", .list ((kds20 ns).map kdD)), (.str "seams", .list []), (.str "stems", .list []), (.str "endings", .list []), (.str "rules", .list (rs.map ruD)), (.str "start", .str st)]
theorem told20 (ns : List Str) (rs : List Ru) (st : Str) : Told (es20 ns rs st) (t20 ns rs st) where
  f := List.mem_cons_self
  k := List.mem_cons_of_mem _ List.mem_cons_self
  m := List.mem_cons_of_mem _ (List.mem_cons_of_mem _ List.mem_cons_self)
  s := List.mem_cons_of_mem _ (List.mem_cons_of_mem _ (List.mem_cons_of_mem _ List.mem_cons_self))
  e := List.mem_cons_of_mem _ (List.mem_cons_of_mem _ (List.mem_cons_of_mem _ (List.mem_cons_of_mem _ List.mem_cons_self)))
  r := List.mem_cons_of_mem _ (List.mem_cons_of_mem _ (List.mem_cons_of_mem _ (List.mem_cons_of_mem _ (List.mem_cons_of_mem _ List.mem_cons_self))))
  st := List.mem_cons_of_mem _ (List.mem_cons_of_mem _ (List.mem_cons_of_mem _ (List.mem_cons_of_mem _ (List.mem_cons_of_mem _ (List.mem_cons_of_mem _ List.mem_cons_self)))))
/-- the names of k20's kinds -/
structure Ns20 (ns : List Str) : Prop where
  nd : ns.Nodup
  nm : ∀ n ∈ ns, Nm n
  m : ("m" : Str) ∉ ns
  few : ns.length ≤ 11
theorem ok20 {ns : List Str} {rs : List Ru} {st : Str} (hn : Ns20 ns) (hst : st ∈ ns) (rl : rs.length ≤ 30) (rn : (rs.map (·.n)).Nodup) (hr : ∀ r ∈ rs, RuOk [] (kds20 ns) r) : (t20 ns rs st).Ok where
  fl := Nat.zero_le _
  kl := by
    show ((ns.map _) ++ [_]).length ≤ 12
    rw [List.length_append, List.length_map, List.length_singleton]
    have := hn.few
    omega
  ml := Nat.zero_le _
  sl := Nat.zero_le _
  el := Nat.zero_le _
  rl := rl
  fn := List.nodup_nil
  kn := by
    show (((ns.map fun n => (⟨n, [], true, false⟩ : Kd)) ++ [(⟨"m", [], false, true⟩ : Kd)]).map (fun k : Kd => k.n)).Nodup
    rw [List.map_append, List.map_map, show (ns.map ((fun k : Kd => k.n) ∘ fun n => (⟨n, [], true, false⟩ : Kd))) = ns from List.map_id ns, List.nodup_append]
    refine ⟨hn.nd, by simp, fun a ha b hb e => ?_⟩
    have e2 : b = "m" := by simpa using hb
    exact hn.m (e2 ▸ e ▸ ha)
  rn := rn
  f := fun f hf => by cases hf
  k := fun k hk => by
    rcases List.mem_append.mp hk with h | h
    · obtain ⟨n, hn', rfl⟩ := List.mem_map.mp h
      exact ⟨hn.nm n hn', Nat.zero_le _, List.nodup_nil, fun x hx => (by cases hx), rfl⟩
    · rw [List.mem_singleton.mp h]
      exact ⟨⟨by decide +kernel, by decide +kernel, by unfold LetS; decide +kernel⟩, Nat.zero_le _, List.nodup_nil, fun x hx => (by cases hx), rfl⟩
  m := fun f hf => by cases hf
  s := fun f hf => by cases hf
  e := fun f hf => by cases hf
  r := hr
  st := ⟨⟨st, [], true, false⟩, List.mem_append_left _ (List.mem_map.mpr ⟨st, hst, rfl⟩), rfl, rfl⟩
theorem gs20 {ns : List Str} {rs : List Ru} {st : Str} (h : ∀ r ∈ rs, r.gs = []) : (t20 ns rs st).Gs False := fun r hr => ⟨fun z => absurd (h r hr) z, fun z => absurd own20 z⟩
end Bn

set_option pp.maxSteps 400
/-! the law's table against the rings -/
namespace Bn
open PySem PySem.Spec PyProof.Rows L2 BR GX RM GY
/-- led on by one step or more -/
def WalkR (S : List Stp) (a x : Str) : Prop := ∃ l, WalkS S a l ∧ l.getLast? = some x
theorem WalkR.one {S : List Stp} {a b : Str} (h : (a, some b) ∈ S) : WalkR S a b := ⟨[b], ⟨h, trivial⟩, rfl⟩
theorem walk_app {S : List Stp} {b : Str} {m : List Str} (hm : WalkS S b m) : ∀ {l : List Str} {a : Str}, WalkS S a l → l.getLast? = some b → WalkS S a (l ++ m)
  | [], _, _, e => by cases e
  | [c], a, hw, e => by
    have : c = b := by simpa using e
    exact ⟨hw.1, this ▸ hm⟩
  | c :: d :: r, a, hw, e => ⟨hw.1, walk_app hm hw.2 (by simpa [List.getLast?_cons_cons] using e)⟩
theorem WalkR.trans {S : List Stp} {a b c : Str} (h : WalkR S a b) (k : WalkR S b c) : WalkR S a c := by
  obtain ⟨l, h1, h2⟩ := h
  obtain ⟨m, k1, k2⟩ := k
  refine ⟨l ++ m, walk_app k1 h1 h2, ?_⟩
  rw [List.getLast?_append, k2]
  rfl
theorem ring20 {S : List Stp} {R : Tbl} (h : ∀ a x, R a x ↔ WalkR S a x) (i : Nat) : RingAt S i ↔ ∃ o g, S[i]? = some (o, some g) ∧ (g = o ∨ R g o) := by
  constructor
  · rintro ⟨o, g, e, z⟩
    exact ⟨o, g, e, (reach_walk.mp z).imp id fun z => (h g o).mpr z⟩
  · rintro ⟨o, g, e, z⟩
    exact ⟨o, g, e, reach_walk.mpr (z.imp id fun z => (h g o).mp z)⟩
/-- after as many passes as there are kinds the table is just what is reached -/
theorem table20 {S : List Stp} {R0 R : Tbl} {W : List Str} (hW : ∀ a b, (a, some b) ∈ S → b ∈ W) (h0 : ∀ a b, (a, some b) ∈ S → R0 a b) (h : Passes S W.length R0 R) (hs : ∀ a x, R a x → WalkR S a x) (a x : Str) : R a x ↔ WalkR S a x :=
  ⟨hs a x, fun ⟨_, h1, h2⟩ => h.full hW h0 h1 h2⟩
end Bn

set_option pp.maxSteps 400
/-! k20's table of what is reached, in memory -/
namespace Bn
open PySem PySem.Spec PyProof.Rows L2 BR GX RM GY
def kvR (W : List Str) (dd : Str → Addr) : List (Key × V) := W.map fun k => ((Sum.inr k : Key), V.ref (dd k))
theorem kvR_val (W : List Str) (dd : Str → Addr) (k : Str) : valV (kvR W dd) (.inr k) = if k ∈ W then some (.ref (dd k)) else none := by
  induction W with
  | nil => rfl
  | cons x r ih =>
    unfold valV kvR at ih ⊢
    rw [List.map_cons, List.find?_cons]
    by_cases h : x = k
    · subst h
      rw [if_pos List.mem_cons_self]
      simp
    · have h1 : decide ((Sum.inr x : Key) = Sum.inr k) = false := decide_eq_false fun z => h (Sum.inr.inj z)
      simp only [h1]
      rw [ih]
      by_cases hr : k ∈ r
      · rw [if_pos hr, if_pos (List.mem_cons_of_mem _ hr)]
      · rw [if_neg hr, if_neg fun z => (List.mem_cons.mp z).elim (fun e => h e.symm) hr]
theorem kvW_val (W : List Str) (k : Str) : valV (kvW W) (.inr k) = if k ∈ W then some (.bl true) else none := by
  induction W with
  | nil => rfl
  | cons x r ih =>
    unfold valV kvW at ih ⊢
    rw [List.map_cons, List.find?_cons]
    by_cases h : x = k
    · subst h
      rw [if_pos List.mem_cons_self]
      simp
    · have h1 : decide ((Sum.inr x : Key) = Sum.inr k) = false := decide_eq_false fun z => h (Sum.inr.inj z)
      simp only [h1]
      rw [ih]
      by_cases hr : k ∈ r
      · rw [if_pos hr, if_pos (List.mem_cons_of_mem _ hr)]
      · rw [if_neg hr, if_neg fun z => (List.mem_cons.mp z).elim (fun e => h e.symm) hr]
/-- one more, each once -/
def woA (xs ys : List Str) : List Str := ys.foldl (fun acc x => if x ∈ acc then acc else acc ++ [x]) xs
theorem woA_mem (xs ys : List Str) (x : Str) : x ∈ woA xs ys ↔ x ∈ xs ∨ x ∈ ys := woF_mem ys xs x
theorem woA_nd {xs : List Str} (ys : List Str) (h : xs.Nodup) : (woA xs ys).Nodup := woF_nd ys xs h
theorem kvW_merge (ys : List Str) : ∀ xs : List Str, mergeK (kvW xs) (kvW ys) = kvW (woA xs ys) := by
  induction ys with
  | nil => intro xs; rfl
  | cons y r ih =>
    intro xs
    show mergeK (putK (kvW xs) (.inr y) (.bl true)) (kvW r) = kvW (woA (if y ∈ xs then xs else xs ++ [y]) r)
    rw [kvW_put, ih]
theorem kvW_len (xs : List Str) : (kvW xs).length = xs.length := by unfold kvW; rw [List.length_map]
theorem kvR_len (W : List Str) (dd : Str → Addr) : (kvR W dd).length = W.length := by unfold kvR; rw [List.length_map]
structure RcS (H0 H : Hp) (r : Addr) (ob : HO) (W : List Str) (T : Str → List Str) (dd : Str → Addr) : Prop where
  d : H r = some ob
  nr : H0 r = none
  sm : Same H0 H
  nd : W.Nodup
  ats : ∀ k ∈ W, H (dd k) = some (.dK (kvW (T k)))
  ne : ∀ k ∈ W, dd k ≠ r
  nw : ∀ k ∈ W, H0 (dd k) = none
  inj : ∀ k ∈ W, ∀ k' ∈ W, dd k = dd k' → k = k'
  tn : ∀ k, (T k).Nodup
section
variable {H0 H H' : Hp} {r : Addr} {ob : HO} {W : List Str} {T : Str → List Str} {dd : Str → Addr}
theorem RcS.same (h : RcS H0 H r ob W T dd) (s : Same H H') : RcS H0 H' r ob W T dd := ⟨s _ _ h.d, h.nr, h.sm.trans s, h.nd, fun k hk => s _ _ (h.ats k hk), h.ne, h.nw, h.inj, h.tn⟩
theorem RcS.lk (h : RcS H0 H r ob W T dd) (o : HO) : RcS H0 (upd H r o) r o W T dd := ⟨upd_same, h.nr, fun a u e => by
  rw [upd_ne (ne_of_none e h.nr)]
  exact h.sm _ _ e, h.nd, fun k hk => by
  rw [upd_ne (h.ne k hk)]
  exact h.ats k hk, h.ne, h.nw, h.inj, h.tn⟩
/-- a kind more -/
theorem RcS.more {k : Str} {d : Addr} (h : RcS H0 H r (.dK (kvR W dd)) W T dd) (hk : k ∉ W) (hT : T k = []) (hd : H d = some (.dK [])) (nd : H0 d = none) (ner : d ≠ r) (off : ∀ a ∈ W, dd a ≠ d) :
    RcS H0 (upd H r (.dK (putK (kvR W dd) (.inr k) (.ref d)))) r (.dK (kvR (W ++ [k]) fun a => if a = k then d else dd a)) (W ++ [k]) T (fun a => if a = k then d else dd a) := by
  have nk : ∀ a ∈ W, a ≠ k := fun a ha e => hk (e ▸ ha)
  have e1 : kvR (W ++ [k]) (fun a => if a = k then d else dd a) = putK (kvR W dd) (.inr k) (.ref d) := by
    rw [Bn.putK_new]
    · unfold kvR
      rw [List.map_append]
      congr 1
      · exact List.map_congr_left fun a ha => by simp only [if_neg (nk a ha)]
      · simp
    · intro z
      obtain ⟨p, hp, e⟩ := List.mem_map.mp z
      obtain ⟨a, ha, rfl⟩ := List.mem_map.mp hp
      exact hk (Sum.inr.inj e ▸ ha)
  have cs : ∀ a ∈ W ++ [k], (a ∈ W ∧ a ≠ k) ∨ a = k := fun a ha => by
    rcases List.mem_append.mp ha with z | z
    · exact .inl ⟨z, nk a z⟩
    · exact .inr (List.mem_singleton.mp z)
  refine ⟨by rw [upd_same, e1], h.nr, fun a u e => by rw [upd_ne (ne_of_none e h.nr)]; exact h.sm _ _ e, ?_, fun a ha => ?_, fun a ha => ?_, fun a ha => ?_, fun a ha a' ha' e => ?_, h.tn⟩
  · rw [List.nodup_append]
    refine ⟨h.nd, by simp, fun a ha b hb e => ?_⟩
    exact nk a ha (e.trans (List.mem_singleton.mp hb))
  · rcases cs a ha with ⟨z, n⟩ | z
    · simp only [if_neg n]
      rw [upd_ne (h.ne a z)]
      exact h.ats a z
    · simp only [if_pos z]
      rw [upd_ne ner, z, hT]
      exact hd
  · rcases cs a ha with ⟨z, n⟩ | z
    · simp only [if_neg n]
      exact h.ne a z
    · simp only [if_pos z]
      exact ner
  · rcases cs a ha with ⟨z, n⟩ | z
    · simp only [if_neg n]
      exact h.nw a z
    · simp only [if_pos z]
      exact nd
  · rcases cs a ha with ⟨z, n⟩ | z <;> rcases cs a' ha' with ⟨z', n'⟩ | z'
    · simp only [if_neg n, if_neg n'] at e
      exact h.inj a z a' z' e
    · simp only [if_neg n, if_pos z'] at e
      exact absurd e (off a z)
    · simp only [if_pos z, if_neg n'] at e
      exact absurd e.symm (off a' z')
    · rw [z, z']
/-- what one kind reaches -/
theorem RcS.set {k : Str} {ys : List Str} (h : RcS H0 H r ob W T dd) (hk : k ∈ W) (hy : ys.Nodup) : RcS H0 (upd H (dd k) (.dK (kvW ys))) r ob W (fun a => if a = k then ys else T a) dd := by
  refine ⟨by rw [upd_ne (Ne.symm (h.ne k hk))]; exact h.d, h.nr, fun a u e => by rw [upd_ne (ne_of_none e (h.nw k hk))]; exact h.sm _ _ e, h.nd, fun a ha => ?_, h.ne, h.nw, h.inj, fun a => ?_⟩
  · by_cases e : a = k
    · rw [e, upd_same, if_pos rfl]
    · rw [upd_ne fun z => e (h.inj a ha k hk z), if_neg e]
      exact h.ats a ha
  · by_cases e : a = k
    · simp only [if_pos e]
      exact hy
    · simp only [if_neg e]
      exact h.tn a
theorem RcS.get (h : RcS H0 H r (.dK (kvR W dd)) W T dd) {k : Str} (hk : k ∈ W) : valV (kvR W dd) (.inr k) = some (.ref (dd k)) := by rw [kvR_val, if_pos hk]
end
/-- all names of the steps -/
def allN (S : List Stp) : List Str := S.map (·.1) ++ S.filterMap (·.2)
theorem allN_len (S : List Stp) : (allN S).length ≤ 2 * S.length := by
  unfold allN
  rw [List.length_append, List.length_map]
  have := List.length_filterMap_le (fun q : Stp => q.2) S
  omega
theorem allN_1 {S : List Stp} {a : Str} {g : Option Str} (h : (a, g) ∈ S) : a ∈ allN S := List.mem_append_left _ (List.mem_map.mpr ⟨_, h, rfl⟩)
theorem allN_2 {S : List Stp} {a x : Str} (h : (a, some x) ∈ S) : x ∈ allN S := List.mem_append_right _ (List.mem_filterMap.mpr ⟨_, h, rfl⟩)
/-- after the first i steps -/
structure Ph1 (S : List Stp) (i : Nat) (W : List Str) (T : Str → List Str) : Prop where
  w : ∀ a ∈ W, a ∈ allN S
  t : ∀ a x, x ∈ T a ↔ (a, some x) ∈ S.take i
  o : ∀ a g, (a, g) ∈ S.take i → a ∈ W
  b : ∀ a x, (a, some x) ∈ S.take i → x ∈ W
theorem ph1_zero (S : List Stp) : Ph1 S 0 [] fun _ => [] := ⟨fun a h => (by cases h), fun a x => ⟨fun h => (by cases h), fun h => (by simp at h)⟩, fun a g h => (by simp at h), fun a x h => (by simp at h)⟩
/-- while the table goes on: what it knows, all of it right -/
structure Ph2 (S : List Stp) (W : List Str) (T : Str → List Str) : Prop where
  s : ∀ a x, (a, some x) ∈ S → x ∈ T a
  r : ∀ a x, x ∈ T a → WalkR S a x
  w : ∀ a x, x ∈ T a → x ∈ W
  a : ∀ a x, (a, some x) ∈ S → a ∈ W
theorem ph1_ph2 {S : List Stp} {W : List Str} {T : Str → List Str} (h : Ph1 S S.length W T) : Ph2 S W T := by
  have t : ∀ a x, x ∈ T a ↔ (a, some x) ∈ S := fun a x => by rw [h.t, List.take_length]
  refine ⟨fun a x z => (t a x).mpr z, fun a x z => WalkR.one ((t a x).mp z), fun a x z => h.b a x (by rw [List.take_length]; exact (t a x).mp z), fun a x z => h.o a _ (by rw [List.take_length]; exact z)⟩
theorem Ph2.add {S : List Stp} {W : List Str} {T : Str → List Str} (h : Ph2 S W T) {k b : Str} (hb : b ∈ T k) : Ph2 S W (fun a => if a = k then woA (T k) (T b) else T a) := by
  refine ⟨fun a x z => ?_, fun a x z => ?_, fun a x z => ?_, h.a⟩
  · by_cases e : a = k
    · simp only [if_pos e]
      exact (woA_mem _ _ _).mpr (.inl (e ▸ h.s a x z))
    · simp only [if_neg e]
      exact h.s a x z
  · by_cases e : a = k
    · simp only [if_pos e] at z
      rcases (woA_mem _ _ _).mp z with y | y
      · exact e ▸ h.r k x y
      · exact e ▸ (h.r k b hb).trans (h.r b x y)
    · simp only [if_neg e] at z
      exact h.r a x z
  · by_cases e : a = k
    · simp only [if_pos e] at z
      rcases (woA_mem _ _ _).mp z with y | y
      · exact h.w k x y
      · exact h.w b x y
    · simp only [if_neg e] at z
      exact h.w a x z
end Bn

set_option pp.maxSteps 400
namespace Bn
open PySem PySem.Spec PyProof.Rows L2 BR GX RM GY
section
variable {K : PySem.W.Frag} {H H' : Hp} {b a : Addr} {N : Addr → Prop} {n : Nat} {v : V} {d : PyData}
theorem Dq.kb (h : Dq K H N n v d) (hb : Bx H b) (k : Kb b H H') (nb : ¬ N b) : Dq K H' N n v d := h.keep (fun _ _ z => k.sqT hb z) (fun c o nc e => k.k c o (fun z => nb (z ▸ nc)) e) (fun _ _ z _ => z)
/-- a part without a bundle, laid anew -/
theorem pt_new {r k : Str} {o : Bool} {d t : Addr} (nd : H d = none) (nt : (upd H d (.dK [])) t = none) (hN : N d) : Same H (upd (upd H d (.dK [])) t (.tup [.str r, .str k, .ref d, .bl o])) ∧ Dq K (upd (upd H d (.dK [])) t (.tup [.str r, .str k, .ref d, .bl o])) N 2 (.ref t) (ptD ⟨r, k, [], o⟩) := by
  have s1 := same_new (o := .dK []) nd
  have s2 := same_new (o := .tup [.str r, .str k, .ref d, .bl o]) nt
  refine ⟨s1.trans s2, .tup (.inl (.inl upd_same)) (show 4 ≤ 1000 by decide) (.cons (.str _) (.cons (.str _) (.cons ?_ (.cons (.bl _) .nil))))⟩
  exact .dic (s2 _ _ upd_same) hN (Nat.zero_le _) List.nodup_nil .nil
/-- a list of things, laid anew -/
theorem ls_new {l : Addr} {xs : List V} {ds : List PyData} (h : DqAll K H N n xs ds) (nl : H l = none) (hN : N l) (few : xs.length ≤ 1000) : Dq K (upd H l (.lst xs)) N (n + 1) (.ref l) (.list ds) := .lst upd_same hN few (h.same (same_new nl))
end
theorem Kb.nw {b p : Addr} {H H' : Hp} {o : HO} (k : Kb b H H') (n : H' p = none) : Kb b H (upd H' p o) := k.trans (Kb.new k.x n)
theorem str_ix {ns : List Str} {n : Nat} (h : n < ns.length) : (ns.map V.str)[n]? = some (.str (ns[n]'h)) := by rw [List.getElem?_map, List.getElem?_eq_getElem h]; rfl
section
variable {P : Program} {w : World} {K : PySem.W.Frag} {mg : Str → Option Value} {base : Heap}
theorem led_so {a b : Str} {ps : List Pt} (h : Ps20 a b ps) (l : List Str) (e : rolesOf ps = l) (n : ¬ ("of" : Str) ∈ l) : oV (ledM ps) = .str a := by rw [led20 h, e, if_neg n]; rfl
theorem led_no {a b : Str} {ps : List Pt} (h : Ps20 a b ps) (l : List Str) (e : rolesOf ps = l) (n : ("of" : Str) ∈ l) : oV (ledM ps) = .non := by rw [led20 h, e, if_pos n]; rfl
/-! ### parts_drawn -/
def spPd (K : PySem.W.Frag) : Sp := fun vs H Q _ => ∃ (b l : Addr) (ns : List Str), vs = [.ref b, .ref l] ∧ Bx H b ∧ l ≠ b ∧ H l = some (.lst (ns.map V.str)) ∧ 1 ≤ ns.length ∧ ns.length ≤ 100 ∧
  ∀ (t pl : Addr) (a c : Str) (ps : List Pt) H', Kb b H H' → H' t = some (.tup [.ref pl, oV (ledM ps)]) → Dq K H' (fun x => H x = none) 3 (.ref pl) (.list (ps.map ptD)) → Ps20 a c ps → a ∈ ns → c ∈ ns → Q (.ref t) H'
theorem ok_pd {f fT : Addr} {fd fdT : FuncData} (F : Fun K "_law_parts_drawn" "_law_parts_drawn" s_l_parts_drawn f fd)
    (kT : PySem.W.keepIn K (.ref fT) = true) (bT : Binds K fdT ["_law_box_here", "_law_many"] []) (gT : mg "_law_take" = some (.ref fT)) (GT : FnOk P w K mg base CX0 2 fT fdT ["_law_box_here", "_law_many"] spTake)
    (ml : mg "len" = none) : FnOk P w K mg base CX0 3 f fd ["_law_box_here", "_law_names"] (spPd K) := by
  refine F.ok sc_l_parts_drawn (fun vs H Q E h => ?_) (fun cdv A outer s H vs Q E hr h => ?_)
  · obtain ⟨b, l, ns, rfl, _⟩ := h
    rfl
  · obtain ⟨b, l, ns, rfl, hb, nlb, hl, n1, n100, q⟩ := h
    refine ⟨_, pss_cons (ps_set (i := 2) sc_l_parts_drawn.nd rfl (.inl rfl) (pe_ix ix_list (pv 1) (pe_call GT hr (by rfl) gT kT bT .nil pass0 (pa_cons (pv 0) (pa_cons (pe_callB call_len_seq (by rfl) ml PySem.boot_len (pa_cons (pv 1) pa_nil)) pa_nil))) (fun _ _ => rfl)))
      (pss_cons (ps_set (i := 3) sc_l_parts_drawn.nd rfl (.inl rfl) (pe_ix ix_list (pv 1) (pe_call GT hr (by rfl) gT kT bT .nil pass0 (pa_cons (pv 0) (pa_cons (pe_callB call_len_seq (by rfl) ml PySem.boot_len (pa_cons (pv 1) pa_nil)) pa_nil))) (fun _ _ => rfl)))
      (pss_cons (ps_asg (pe_lst (pa_cons (pe_tup (pa_cons pe_str (pa_cons (pv 2) (pa_cons pe_dnewK (pa_cons pe_bl pa_nil))))) (pa_cons (pe_tup (pa_cons pe_str (pa_cons (pv 2) (pa_cons pe_dnewK (pa_cons pe_bl pa_nil))))) (pa_cons (pe_tup (pa_cons pe_str (pa_cons pe_str (pa_cons pe_dnewK (pa_cons pe_bl pa_nil))))) pa_nil))))
          (pg_unl rfl (pgs_cons (pg_name (i := 4) sc_l_parts_drawn.nd rfl (.inl rfl)) (pgs_cons (pg_name (i := 5) sc_l_parts_drawn.nd rfl (.inl rfl)) (pgs_cons (pg_name (i := 6) sc_l_parts_drawn.nd rfl (.inl rfl)) pgs_nil)))))
      (pss_cons (ps_set (i := 7) sc_l_parts_drawn.nd rfl (.inl rfl) (pe_call GT hr (by rfl) gT kT bT .nil pass0 (pa_cons (pv 0) (pa_cons pe_int pa_nil))))
      (pss_cons (ps_if (pt_cmpR op_lt (pv 7) pe_int (nomark _)) (pss_one (ps_ret (pe_tup (pa_cons (pe_ix ix_list (pe_lst (pa_cons (pe_lst (pa_cons (pv 4) pa_nil)) (pa_cons (pe_lst (pa_cons (pv 4) (pa_cons (pv 6) pa_nil))) (pa_cons (pe_lst (pa_cons (pv 6) (pa_cons (pv 4) (pa_cons (pv 6) pa_nil)))) pa_nil)))) (pv 7) (fun _ _ => rfl)) (pa_cons (pv 2) pa_nil))))) pss_nil)
      (pss_cons (ps_if (pt_cmpR op_lt (pv 7) pe_int (nomark _)) (pss_one (ps_ret (pe_tup (pa_cons (pe_ix ix_list (pe_lst (pa_cons (pe_lst (pa_cons (pv 5) (pa_cons (pe_tup (pa_cons pe_str (pa_cons (pv 3) (pa_cons pe_dnewK (pa_cons pe_bl pa_nil))))) pa_nil))) (pa_cons (pe_lst (pa_cons (pe_tup (pa_cons pe_str (pa_cons (pv 3) (pa_cons pe_dnewK (pa_cons pe_bl pa_nil))))) (pa_cons (pv 6) (pa_cons (pv 5) pa_nil)))) pa_nil))) (pe_op op_sub (pv 7) pe_int) (fun _ _ => rfl)) (pa_cons (pv 2) pa_nil))))) pss_nil)
      (pss_cons (ps_set (i := 8) sc_l_parts_drawn.nd rfl (.inl rfl) (pe_tup (pa_cons pe_str (pa_cons (pv 3) (pa_cons pe_dnewK (pa_cons (pe_cmpR op_eq (pe_call GT hr (by rfl) gT kT bT .nil pass0 (pa_cons (pv 0) (pa_cons pe_int pa_nil))) pe_int (nomark _)) pa_nil))))))
      (pss_one (ps_ret (pe_tup (pa_cons (pe_ix ix_list (pe_lst (pa_cons (pe_lst (pa_cons (pv 4) (pa_cons (pv 8) pa_nil))) (pa_cons (pe_lst (pa_cons (pv 8) (pa_cons (pv 6) (pa_cons (pv 4) pa_nil)))) (pa_cons (pe_lst (pa_cons (pv 8) (pa_cons (pv 4) (pa_cons (pv 8) pa_nil)))) pa_nil)))) (pe_op op_sub (pv 7) pe_int) (fun _ _ => rfl)) (pa_cons pe_non pa_nil))))))))))), ?_⟩
    have nNb : ¬ (H b = none) := fun z => by
      obtain ⟨_, _, _, e⟩ := hb
      rw [z] at e
      cases e
    refine ⟨_, rfl, _, rfl, _, rfl, l, _, rfl, .inl (.inl (.inl hl)), b, _, rfl, hb, by rw [List.length_map]; omega, by rw [List.length_map]; omega, fun n H1 hn k1 => ?_⟩
    rw [List.length_map] at hn
    have l1 := k1.lst hl nlb
    have hn' : n < ns.length := by omega
    refine ⟨l, _, _, _, rfl, rfl, .inl (.inl l1), atI_nat (str_ix hn'), ?_⟩
    have m1 : ns[n] ∈ ns := List.getElem_mem _
    generalize ns[n] = one at m1 ⊢
    refine ⟨_, rfl, _, rfl, _, rfl, l, _, rfl, .inl (.inl (.inl l1)), b, _, rfl, k1.x, by rw [List.length_map]; omega, by rw [List.length_map]; omega, fun n2 H2 hn2 k2 => ?_⟩
    rw [List.length_map] at hn2
    have l2 := k2.lst l1 nlb
    have hn2' : n2 < ns.length := by omega
    refine ⟨l, _, _, _, rfl, rfl, .inl (.inl l2), atI_nat (str_ix hn2'), ?_⟩
    have m2 : ns[n2] ∈ ns := List.getElem_mem _
    generalize ns[n2] = other at m2 ⊢
    have kk2 := k1.trans k2
    -- the three
    refine ⟨_, rfl, fun d1 nd1 => ⟨(show 4 ≤ sizeLine by decide), fun t1 nt1 => ?_⟩⟩
    obtain ⟨s1, q1⟩ := pt_new (K := K) (N := fun x => H x = none) (r := "head") (k := one) (o := true) nd1 nt1 (kk2.free nd1)
    have kk3 := kk2.same s1
    generalize upd (upd H2 d1 (.dK [])) t1 (.tup [.str "head", .str one, .ref d1, .bl true]) = H3 at s1 q1 kk3 ⊢
    refine ⟨_, rfl, fun d2 nd2 => ⟨(show 4 ≤ sizeLine by decide), fun t2 nt2 => ?_⟩⟩
    obtain ⟨s2, q2⟩ := pt_new (K := K) (N := fun x => H x = none) (r := "fill") (k := one) (o := false) nd2 nt2 (kk3.free nd2)
    have q1 := q1.same s2
    have kk4 := kk3.same s2
    generalize upd (upd H3 d2 (.dK [])) t2 (.tup [.str "fill", .str one, .ref d2, .bl false]) = H4 at s2 q1 q2 kk4 ⊢
    refine fun d3 nd3 => ⟨(show 4 ≤ sizeLine by decide), fun t3 nt3 => ?_⟩
    obtain ⟨s3, q3⟩ := pt_new (K := K) (N := fun x => H x = none) (r := "-") (k := "m") (o := false) nd3 nt3 (kk4.free nd3)
    have q1 := q1.same s3
    have q2 := q2.same s3
    have kk5 := kk4.same s3
    generalize upd (upd H4 d3 (.dK [])) t3 (.tup [.str "-", .str "m", .ref d3, .bl false]) = H5 at s3 q1 q2 q3 kk5 ⊢
    refine ⟨(show 3 ≤ sizeLine by decide), fun ll nll => ?_⟩
    have s4 := same_new (o := .lst [.ref t1, .ref t2, .ref t3]) nll
    have q1 := q1.same s4
    have q2 := q2.same s4
    have q3 := q3.same s4
    have kk6 := kk5.same s4
    have hll : (upd H5 ll (.lst [.ref t1, .ref t2, .ref t3])) ll = some (.lst [.ref t1, .ref t2, .ref t3]) := upd_same
    generalize upd H5 ll (.lst [.ref t1, .ref t2, .ref t3]) = H6 at q1 q2 q3 kk6 hll ⊢
    refine ⟨ll, _, rfl, .inl (.inl hll), rfl, _, _, rfl, _, _, rfl, _, _, rfl, rfl, ?_⟩
    refine ⟨_, rfl, b, 8, rfl, kk6.x, by decide, by decide, fun wy H7 hw k7 => ?_⟩
    have q1 := q1.kb kk6.x k7 nNb
    have q2 := q2.kb kk6.x k7 nNb
    have q3 := q3.kb kk6.x k7 nNb
    have kk7 := kk6.trans k7
    refine ⟨_, rfl, _, _, rfl, rfl, _, rfl, ite2 (fun e => ?_) (fun e => ?_)⟩
    · have e := of_decide_eq_true e
      refine ⟨_, rfl, (show 1 ≤ sizeLine by decide), fun a1 na1 => ?_⟩
      have w1 := ls_new (n := 2) (.cons q1 .nil) na1 (kk7.free na1) (show 1 ≤ 1000 by decide)
      have u1 := same_new (o := .lst [.ref t1]) na1
      have kk8 := kk7.same u1
      have q1 := q1.same u1
      have q3 := q3.same u1
      generalize upd H7 a1 (.lst [.ref t1]) = H8 at w1 kk8 q1 q3 ⊢
      refine ⟨_, rfl, _, rfl, (show 2 ≤ sizeLine by decide), fun a2 na2 => ?_⟩
      have w2 := ls_new (n := 2) (.cons q1 (.cons q3 .nil)) na2 (kk8.free na2) (show 2 ≤ 1000 by decide)
      have u2 := same_new (o := .lst [.ref t1, .ref t3]) na2
      have kk9 := kk8.same u2
      have q1 := q1.same u2
      have q3 := q3.same u2
      have w1 := w1.same u2
      generalize upd H8 a2 (.lst [.ref t1, .ref t3]) = H9 at w1 w2 kk9 q1 q3 ⊢
      refine ⟨_, rfl, _, rfl, _, rfl, (show 3 ≤ sizeLine by decide), fun a3 na3 => ?_⟩
      have w3 := ls_new (n := 2) (.cons q3 (.cons q1 (.cons q3 .nil))) na3 (kk9.free na3) (show 3 ≤ 1000 by decide)
      have u3 := same_new (o := .lst [.ref t3, .ref t1, .ref t3]) na3
      have kk10 := kk9.same u3
      have w1 := w1.same u3
      have w2 := w2.same u3
      generalize upd H9 a3 (.lst [.ref t3, .ref t1, .ref t3]) = H10 at w1 w2 w3 kk10 ⊢
      refine ⟨(show 3 ≤ sizeLine by decide), fun a4 na4 => ?_⟩
      have u4 := same_new (o := .lst [.ref a1, .ref a2, .ref a3]) na4
      have kk11 := kk10.same u4
      have w1 := w1.same u4
      have w2 := w2.same u4
      have w3 := w3.same u4
      have h4 : (upd H10 a4 (.lst [.ref a1, .ref a2, .ref a3])) a4 = some (.lst [.ref a1, .ref a2, .ref a3]) := upd_same
      generalize upd H10 a4 (.lst [.ref a1, .ref a2, .ref a3]) = H11 at w1 w2 w3 kk11 h4 ⊢
      have fin : ∀ (pl : Addr) (ps : List Pt), Dq K H11 (fun x => H x = none) 3 (.ref pl) (.list (ps.map ptD)) → Ps20 one other ps → oV (ledM ps) = .str one → ∀ t, H11 t = none → Q (.ref t) (upd H11 t (.tup [.ref pl, .str one])) := fun pl ps hD hP hl t nt => by
        have u := same_new (o := .tup [.ref pl, .str one]) nt
        exact q t pl one other ps _ (kk11.same u) (by rw [hl]; exact upd_same) (hD.same u) hP m1 m2
      match wy, hw, e with
      | 0, _, _ => exact ⟨_, rfl, a4, _, _, .ref a1, rfl, rfl, .inl (.inl h4), rfl, _, rfl, (show 2 ≤ sizeLine by decide), fin a1 [hd20 one true] w1 .h1 (led_so (b := other) .h1 ["head"] rfl (by decide +kernel))⟩
      | 1, _, _ => exact ⟨_, rfl, a4, _, _, .ref a2, rfl, rfl, .inl (.inl h4), rfl, _, rfl, (show 2 ≤ sizeLine by decide), fin a2 [hd20 one true, mu20] w2 .h2 (led_so (b := other) .h2 ["head", "-"] rfl (by decide +kernel))⟩
      | 2, _, _ => exact ⟨_, rfl, a4, _, _, .ref a3, rfl, rfl, .inl (.inl h4), rfl, _, rfl, (show 2 ≤ sizeLine by decide), fin a3 [mu20, hd20 one true, mu20] w3 .h3 (led_so (b := other) .h3 ["-", "head", "-"] rfl (by decide +kernel))⟩
      | n + 3, _, e => exact absurd e (by omega)
    have e3 : 3 ≤ wy := by
      have : ¬ ((wy : Nat) : Int) < 3 := fun z => e (decide_eq_true z)
      omega
    refine ⟨_, rfl, _, _, rfl, rfl, _, rfl, ite2 (fun e => ?_) (fun e => ?_)⟩
    · have e := of_decide_eq_true e
      refine ⟨_, rfl, _, rfl, fun d4 nd4 => ⟨(show 4 ≤ sizeLine by decide), fun t4 nt4 => ?_⟩⟩
      obtain ⟨s5, q4⟩ := pt_new (K := K) (N := fun x => H x = none) (r := "host") (k := other) (o := true) nd4 nt4 (kk7.free nd4)
      have q2 := q2.same s5
      have q3 := q3.same s5
      have kk8 := kk7.same s5
      generalize upd (upd H7 d4 (.dK [])) t4 (.tup [.str "host", .str other, .ref d4, .bl true]) = H8 at q2 q3 q4 kk8 ⊢
      refine ⟨(show 2 ≤ sizeLine by decide), fun a1 na1 => ?_⟩
      have w1 := ls_new (n := 2) (.cons q2 (.cons q4 .nil)) na1 (kk8.free na1) (show 2 ≤ 1000 by decide)
      have u1 := same_new (o := .lst [.ref t2, .ref t4]) na1
      have kk9 := kk8.same u1
      have q2 := q2.same u1
      have q3 := q3.same u1
      generalize upd H8 a1 (.lst [.ref t2, .ref t4]) = H9 at w1 kk9 q2 q3 ⊢
      refine ⟨_, rfl, fun d5 nd5 => ⟨(show 4 ≤ sizeLine by decide), fun t5 nt5 => ?_⟩⟩
      obtain ⟨s6, q5⟩ := pt_new (K := K) (N := fun x => H x = none) (r := "host") (k := other) (o := true) nd5 nt5 (kk9.free nd5)
      have q2 := q2.same s6
      have q3 := q3.same s6
      have w1 := w1.same s6
      have kk10 := kk9.same s6
      generalize upd (upd H9 d5 (.dK [])) t5 (.tup [.str "host", .str other, .ref d5, .bl true]) = H10 at q2 q3 q5 w1 kk10 ⊢
      refine ⟨_, rfl, _, rfl, (show 3 ≤ sizeLine by decide), fun a2 na2 => ?_⟩
      have w2 := ls_new (n := 2) (.cons q5 (.cons q3 (.cons q2 .nil))) na2 (kk10.free na2) (show 3 ≤ 1000 by decide)
      have u2 := same_new (o := .lst [.ref t5, .ref t3, .ref t2]) na2
      have kk11 := kk10.same u2
      have w1 := w1.same u2
      generalize upd H10 a2 (.lst [.ref t5, .ref t3, .ref t2]) = H11 at w1 w2 kk11 ⊢
      refine ⟨(show 2 ≤ sizeLine by decide), fun a4 na4 => ?_⟩
      have u4 := same_new (o := .lst [.ref a1, .ref a2]) na4
      have kk12 := kk11.same u4
      have w1 := w1.same u4
      have w2 := w2.same u4
      have h4 : (upd H11 a4 (.lst [.ref a1, .ref a2])) a4 = some (.lst [.ref a1, .ref a2]) := upd_same
      generalize upd H11 a4 (.lst [.ref a1, .ref a2]) = H12 at w1 w2 kk12 h4 ⊢
      have fin : ∀ (pl : Addr) (ps : List Pt), Dq K H12 (fun x => H x = none) 3 (.ref pl) (.list (ps.map ptD)) → Ps20 one other ps → oV (ledM ps) = .str one → ∀ t, H12 t = none → Q (.ref t) (upd H12 t (.tup [.ref pl, .str one])) := fun pl ps hD hP hl t nt => by
        have u := same_new (o := .tup [.ref pl, .str one]) nt
        exact q t pl one other ps _ (kk12.same u) (by rw [hl]; exact upd_same) (hD.same u) hP m1 m2
      match wy, hw, e, e3 with
      | 3, _, _, _ => exact ⟨_, rfl, _, _, rfl, rfl, a4, _, _, .ref a1, rfl, rfl, .inl (.inl h4), rfl, _, rfl, (show 2 ≤ sizeLine by decide), fin a1 [fl20 one, ho20 other] w1 .f1 (led_so (b := other) .f1 ["fill", "host"] rfl (by decide +kernel))⟩
      | 4, _, _, _ => exact ⟨_, rfl, _, _, rfl, rfl, a4, _, _, .ref a2, rfl, rfl, .inl (.inl h4), rfl, _, rfl, (show 2 ≤ sizeLine by decide), fin a2 [ho20 other, mu20, fl20 one] w2 .f2 (led_so (b := other) .f2 ["host", "-", "fill"] rfl (by decide +kernel))⟩
      | n + 5, _, e, _ => exact absurd e (by omega)
    have e5 : 5 ≤ wy := by
      have : ¬ ((wy : Nat) : Int) < 5 := fun z => e (decide_eq_true z)
      omega
    refine ⟨_, rfl, fun d4 nd4 => ?_⟩
    have s5 := same_new (o := .dK []) nd4
    have q1 := q1.same s5
    have q3 := q3.same s5
    have kk8 := kk7.same s5
    have hd4 : (upd H7 d4 (.dK [])) d4 = some (.dK []) := upd_same
    have nd4b : d4 ≠ b := (kk7.x.ne nd4).symm
    have fd4 := kk7.free nd4
    generalize upd H7 d4 (.dK []) = H8 at q1 q3 kk8 hd4 ⊢
    refine ⟨_, rfl, b, 2, rfl, kk8.x, by decide, by decide, fun zz H9 hz k9 => ?_⟩
    have q1 := q1.kb kk8.x k9 nNb
    have q3 := q3.kb kk8.x k9 nNb
    have hd9 := k9.k _ _ nd4b hd4
    have kk9 := kk8.trans k9
    refine ⟨rfl, (show 4 ≤ sizeLine by decide), fun t4 nt4 => ?_⟩
    generalize decide (V.int ((zz : Nat) : Int) = V.int 1) = zb
    have s6 := same_new (o := .tup [.str "of", .str other, .ref d4, .bl zb]) nt4
    have q4 : Dq K (upd H9 t4 (.tup [.str "of", .str other, .ref d4, .bl zb])) (fun x => H x = none) 2 (.ref t4) (ptD (of20 other zb)) := .tup (.inl (.inl upd_same)) (show 4 ≤ 1000 by decide) (.cons (.str _) (.cons (.str _) (.cons (.dic (s6 _ _ hd9) fd4 (Nat.zero_le _) List.nodup_nil .nil) (.cons (.bl _) .nil))))
    have q1 := q1.same s6
    have q3 := q3.same s6
    have kk10 := kk9.same s6
    generalize upd H9 t4 (.tup [.str "of", .str other, .ref d4, .bl zb]) = H10 at q1 q3 q4 kk10 ⊢
    refine ⟨_, rfl, _, rfl, (show 2 ≤ sizeLine by decide), fun a1 na1 => ?_⟩
    have w1 := ls_new (n := 2) (.cons q1 (.cons q4 .nil)) na1 (kk10.free na1) (show 2 ≤ 1000 by decide)
    have u1 := same_new (o := .lst [.ref t1, .ref t4]) na1
    have kk11 := kk10.same u1
    have q1 := q1.same u1
    have q3 := q3.same u1
    have q4 := q4.same u1
    generalize upd H10 a1 (.lst [.ref t1, .ref t4]) = H11 at w1 kk11 q1 q3 q4 ⊢
    refine ⟨_, rfl, _, rfl, _, rfl, (show 3 ≤ sizeLine by decide), fun a2 na2 => ?_⟩
    have w2 := ls_new (n := 2) (.cons q4 (.cons q3 (.cons q1 .nil))) na2 (kk11.free na2) (show 3 ≤ 1000 by decide)
    have u2 := same_new (o := .lst [.ref t4, .ref t3, .ref t1]) na2
    have kk12 := kk11.same u2
    have q1 := q1.same u2
    have q4 := q4.same u2
    have w1 := w1.same u2
    generalize upd H11 a2 (.lst [.ref t4, .ref t3, .ref t1]) = H12 at w1 w2 kk12 q1 q4 ⊢
    refine ⟨_, rfl, _, rfl, _, rfl, (show 3 ≤ sizeLine by decide), fun a3 na3 => ?_⟩
    have w3 := ls_new (n := 2) (.cons q4 (.cons q1 (.cons q4 .nil))) na3 (kk12.free na3) (show 3 ≤ 1000 by decide)
    have u3 := same_new (o := .lst [.ref t4, .ref t1, .ref t4]) na3
    have kk13 := kk12.same u3
    have w1 := w1.same u3
    have w2 := w2.same u3
    generalize upd H12 a3 (.lst [.ref t4, .ref t1, .ref t4]) = H13 at w1 w2 w3 kk13 ⊢
    refine ⟨(show 3 ≤ sizeLine by decide), fun a4 na4 => ?_⟩
    have u4 := same_new (o := .lst [.ref a1, .ref a2, .ref a3]) na4
    have kk14 := kk13.same u4
    have w1 := w1.same u4
    have w2 := w2.same u4
    have w3 := w3.same u4
    have h4 : (upd H13 a4 (.lst [.ref a1, .ref a2, .ref a3])) a4 = some (.lst [.ref a1, .ref a2, .ref a3]) := upd_same
    generalize upd H13 a4 (.lst [.ref a1, .ref a2, .ref a3]) = H14 at w1 w2 w3 kk14 h4 ⊢
    have fin : ∀ (pl : Addr) (ps : List Pt), Dq K H14 (fun x => H x = none) 3 (.ref pl) (.list (ps.map ptD)) → Ps20 one other ps → oV (ledM ps) = .non → ∀ t, H14 t = none → Q (.ref t) (upd H14 t (.tup [.ref pl, .non])) := fun pl ps hD hP hl t nt => by
      have u := same_new (o := .tup [.ref pl, .non]) nt
      exact q t pl one other ps _ (kk14.same u) (by rw [hl]; exact upd_same) (hD.same u) hP m1 m2
    match wy, hw, e5 with
    | 5, _, _ => exact ⟨_, rfl, _, _, rfl, rfl, a4, _, _, .ref a1, rfl, rfl, .inl (.inl h4), rfl, (show 2 ≤ sizeLine by decide), fin a1 [hd20 one true, of20 other zb] w1 (.o1 zb) (led_no (b := other) (.o1 zb) ["head", "of"] rfl (by decide +kernel))⟩
    | 6, _, _ => exact ⟨_, rfl, _, _, rfl, rfl, a4, _, _, .ref a2, rfl, rfl, .inl (.inl h4), rfl, (show 2 ≤ sizeLine by decide), fin a2 [of20 other zb, mu20, hd20 one true] w2 (.o2 zb) (led_no (b := other) (.o2 zb) ["of", "-", "head"] rfl (by decide +kernel))⟩
    | 7, _, _ => exact ⟨_, rfl, _, _, rfl, rfl, a4, _, _, .ref a3, rfl, rfl, .inl (.inl h4), rfl, (show 2 ≤ sizeLine by decide), fin a3 [of20 other zb, hd20 one true, of20 other zb] w3 (.o3 zb) (led_no (b := other) (.o3 zb) ["of", "head", "of"] rfl (by decide +kernel))⟩
    | n + 8, hw, _ => exact absurd hw (by omega)
end
end Bn

set_option pp.maxSteps 400
namespace Bn
open PySem PySem.Spec PyProof.Rows L2 BR GX RM GY
theorem atI_z {xs : List V} {z : Int} {n : Nat} {v : V} (e : z = (n : Nat)) (h : xs[n]? = some v) : atI xs z = some v := by
  rw [e]
  exact atI_nat h
/-! ### the rules' names -/
def sgn (z : Str) (i : Nat) : Str := ⟨#[z.cps.getD i 0]⟩
def rnm (k : Nat) : Str := (("r" : Str) ++ sgn "abcdefghij" (k % 10)) ++ sgn "abc" (k / 10)
theorem rnm_nm : ∀ k : Fin 30, nmB (rnm k) = true := by decide +kernel
theorem rnm_nd : ((List.range 30).map rnm).Nodup := by decide +kernel
theorem rnm_take {n : Nat} (h : n ≤ 30) : ((List.range n).map rnm).Nodup := by
  have e : List.range n = (List.range 30).take n := by rw [List.take_range, Nat.min_eq_left h]
  rw [e, List.map_take]
  exact rnm_nd.sublist (List.take_sublist _ _)
theorem rnm_len (k : Nat) : (("r" : Str) ++ sgn "abcdefghij" (k % 10)).length = 2 := by
  have e : (("r" : Str) ++ sgn "abcdefghij" (k % 10)).length = ("r" : Str).length + (sgn "abcdefghij" (k % 10)).length := strLen_append _ _
  rw [e]
  rfl
theorem rnm_len2 (k : Nat) : (rnm k).length = 3 := by
  have e : (rnm k).length = (("r" : Str) ++ sgn "abcdefghij" (k % 10)).length + (sgn "abc" (k / 10)).length := strLen_append _ _
  rw [e, rnm_len]
  rfl
theorem sgn_at {z : Str} {i : Nat} (h : i < z.cps.size) : z.cps[i]? = some (z.cps.getD i 0) := by
  rw [Array.getElem?_eq_getElem h]
  congr 1
  simp [Array.getD, h]
/-- the k-th rule -/
abbrev rul (k : Nat) (kd : Str) (ps : List Pt) : Ru := ⟨rnm k, ((k : Nat) : Int), kd, [], ps, [], 1, 0, []⟩
/-- rules as they were drawn -/
structure RsOk (ns : List Str) (rs : List Ru) : Prop where
  ok : ∀ r ∈ rs, RuOk [] (kds20 ns) r
  gs : ∀ r ∈ rs, r.gs = []
  nm : rs.map (·.n) = (List.range rs.length).map rnm
theorem RsOk.snoc {ns : List Str} {rs : List Ru} {kd a c : Str} {ps : List Pt} (h : RsOk ns rs) (few : rs.length < 30) (hk : kd ∈ ns) (ha : a ∈ ns) (hc : c ∈ ns) (hp : Ps20 a c ps) : RsOk ns (rs ++ [rul rs.length kd ps]) := by
  have nmk : Nm (rnm rs.length) := nm_of (rnm_nm ⟨rs.length, few⟩)
  refine ⟨fun r hr => ?_, fun r hr => ?_, ?_⟩
  · rcases List.mem_append.mp hr with z | z
    · exact h.ok r z
    · rw [List.mem_singleton.mp z]
      exact ru20 nmk (by omega) hk ha hc hp
  · rcases List.mem_append.mp hr with z | z
    · exact h.gs r z
    · rw [List.mem_singleton.mp z]
  · rw [List.map_append, h.nm, List.length_append, List.length_singleton, List.range_succ, List.map_append]
    rfl
section
variable {P : Program} {w : World} {K : PySem.W.Frag} {mg : Str → Option Value} {base : Heap}
/-! ### rules_drawn -/
def spRd (K : PySem.W.Frag) : Sp := fun vs H Q _ => ∃ (b l : Addr) (ns : List Str), vs = [.ref b, .ref l] ∧ Bx H b ∧ l ≠ b ∧ H l = some (.lst (ns.map V.str)) ∧ 2 ≤ ns.length ∧ ns.length ≤ 11 ∧
  ∀ (t rl sl : Addr) (xs : List V) (rs : List Ru) H', Kb b H H' → H' t = some (.tup [.ref rl, .ref sl]) → Dq K H' (fun x => H x = none) 6 (.ref rl) (.list (rs.map ruD)) → H' sl = some (.lst xs) → H sl = none → StpsAt K H' xs (stpsM rs) → rs.length ≤ 30 → RsOk ns rs → Q (.ref t) H'
/-- what stands while they are drawn -/
structure RdI (K : PySem.W.Frag) (H0 : Hp) (b l rl sl : Addr) (ns : List Str) (H : Hp) (rs : List Ru) : Prop where
  k : Kb b H0 H
  nr : H0 rl = none
  ns' : H0 sl = none
  ne : rl ≠ sl
  r : ∃ vs, H rl = some (.lst vs) ∧ DqAll K H (fun x => H0 x = none ∧ x ≠ rl ∧ x ≠ sl) 5 vs (rs.map ruD)
  s : ∃ xs, H sl = some (.lst xs) ∧ StpsAt K H xs (stpsM rs)
  o : RsOk ns rs
theorem StpsAt.kb {H H' : Hp} {b : Addr} {xs : List V} {S : List Stp} (h : StpsAt K H xs S) (hb : Bx H b) (k : Kb b H H') : StpsAt K H' xs S := pairedA_mono h fun _ _ ⟨t, e, z⟩ => ⟨t, e, k.sqT hb z⟩
theorem RdI.kb {H0 H H' : Hp} {b l rl sl : Addr} {ns : List Str} {rs : List Ru} (h : RdI K H0 b l rl sl ns H rs) (hb0 : Bx H0 b) (k : Kb b H H') : RdI K H0 b l rl sl ns H' rs := by
  have nb : ¬ (H0 b = none ∧ b ≠ rl ∧ b ≠ sl) := fun z => by
    obtain ⟨_, _, _, e⟩ := hb0
    rw [z.1] at e
    cases e
  have nrb : rl ≠ b := (hb0.ne h.nr).symm
  have nsb : sl ≠ b := (hb0.ne h.ns').symm
  obtain ⟨vs, e1, e2⟩ := h.r
  obtain ⟨xs, e3, e4⟩ := h.s
  exact ⟨h.k.trans k, h.nr, h.ns', h.ne, ⟨vs, k.lst e1 nrb, e2.kb h.k.x k nb⟩, ⟨xs, k.lst e3 nsb, e4.kb h.k.x k⟩, h.o⟩
theorem RdI.same {H0 H H' : Hp} {b l rl sl : Addr} {ns : List Str} {rs : List Ru} (h : RdI K H0 b l rl sl ns H rs) (hb0 : Bx H0 b) (s : Same H H') : RdI K H0 b l rl sl ns H' rs := h.kb hb0 ((Kb.refl h.k.x).same s)
theorem ok_rd {f fT fP : Addr} {fd fdT fdP : FuncData} (F : Fun K "_law_rules_drawn" "_law_rules_drawn" s_l_rules_drawn f fd)
    (kT : PySem.W.keepIn K (.ref fT) = true) (bT : Binds K fdT ["_law_box_here", "_law_many"] []) (gT : mg "_law_take" = some (.ref fT)) (GT : FnOk P w K mg base CX0 2 fT fdT ["_law_box_here", "_law_many"] spTake)
    (kP : PySem.W.keepIn K (.ref fP) = true) (bP : Binds K fdP ["_law_box_here", "_law_names"] []) (gP : mg "_law_parts_drawn" = some (.ref fP)) (GP : FnOk P w K mg base CX0 3 fP fdP ["_law_box_here", "_law_names"] (spPd K))
    (ml : mg "len" = none) (mr : mg "range" = none) (mx : mg "max" = none) : FnOk P w K mg base CX0 4 f fd ["_law_box_here", "_law_names"] (spRd K) := by
  refine F.ok sc_l_rules_drawn (fun vs H Q E h => ?_) (fun cdv A outer s H vs Q E hr h => ?_)
  · obtain ⟨b, l, ns, rfl, _⟩ := h
    rfl
  · obtain ⟨b, l, ns, rfl, hb, nlb, hl, n2, n11, q⟩ := h
    have hr2 : Room 2 _ := hr.mono (by decide)
    refine ⟨_, pss_cons (ps_set (i := 2) sc_l_rules_drawn.nd rfl (.inl rfl) (pe_lst pa_nil))
      (pss_cons (ps_set (i := 3) sc_l_rules_drawn.nd rfl (.inl rfl) (pe_lst pa_nil))
      (pss_cons (ps_set (i := 4) sc_l_rules_drawn.nd rfl (.inl rfl) (pe_op op_add pe_int (pe_ix ix_list (pe_lst
          (pa_cons (pe_call GT hr2 (by rfl) gT kT bT .nil pass0 (pa_cons (pv 0) (pa_cons pe_int pa_nil)))
          (pa_cons (pe_call GT hr2 (by rfl) gT kT bT .nil pass0 (pa_cons (pv 0) (pa_cons pe_int pa_nil)))
          (pa_cons (pe_call GT hr2 (by rfl) gT kT bT .nil pass0 (pa_cons (pv 0) (pa_cons pe_int pa_nil))) pa_nil))))
          (pe_call GT hr2 (by rfl) gT kT bT .nil pass0 (pa_cons (pv 0) (pa_cons pe_int pa_nil))) (fun _ _ => rfl))))
      (pss_cons (ps_set (i := 5) sc_l_rules_drawn.nd rfl (.inl rfl) (pe_cmpR op_eq (pe_call GT hr2 (by rfl) gT kT bT .nil pass0 (pa_cons (pv 0) (pa_cons pe_int pa_nil))) pe_int (nomark _)))
      (C8.pss_cut (ps_if (pt_val (pv 5)) (pss_one (ps_set (i := 4) sc_l_rules_drawn.nd rfl (.inl rfl) (pe_callB (call_max2 rfl) (by rfl) mx (by decide +kernel) (pa_cons (pv 4) (pa_cons (pe_op op_sub (pe_op op_add (pe_callB call_len_seq (by rfl) ml PySem.boot_len (pa_cons (pv 1) pa_nil)) (pe_call GT hr2 (by rfl) gT kT bT .nil pass0 (pa_cons (pv 0) (pa_cons pe_int pa_nil)))) pe_int) pa_nil))))) pss_nil)
      (pss_cons (ps_for PassesOwn.never rfl (pi_range1 (by rfl) mr (pa_cons (pv 4) pa_nil)) (pg_name (i := 6) sc_l_rules_drawn.nd rfl (.inl rfl))
        (pss_cons (ps_set (i := 7) sc_l_rules_drawn.nd rfl (.inl rfl) (pe_ix ix_list (pv 1) (pe_call GT hr2 (by rfl) gT kT bT .nil pass0 (pa_cons (pv 0) (pa_cons (pe_callB call_len_seq (by rfl) ml PySem.boot_len (pa_cons (pv 1) pa_nil)) pa_nil))) (fun _ _ => rfl)))
        (pss_cons (ps_asg (pe_call GP hr (by rfl) gP kP bP .nil pass0 (pa_cons (pv 0) (pa_cons (pv 1) pa_nil))) (pg_tup rfl (pgs_cons (pg_name (i := 8) sc_l_rules_drawn.nd rfl (.inl rfl)) (pgs_cons (pg_name (i := 9) sc_l_rules_drawn.nd rfl (.inl rfl)) pgs_nil))))
        (C8.pss_cut (ps_if (pt_val (pv 5))
          (pss_cons (ps_par (i := 7) (j := 9) rfl sc_l_rules_drawn.nd rfl rfl (by decide) rfl rfl (pa_cons (pe_ix ix_list (pv 1) (pe_op op_modN (pv 6) (pe_callB call_len_seq (by rfl) ml PySem.boot_len (pa_cons (pv 1) pa_nil))) (fun _ _ => rfl)) (pa_cons (pe_ix ix_list (pv 1) (pe_op op_modN (pe_op op_add (pv 6) pe_int) (pe_callB call_len_seq (by rfl) ml PySem.boot_len (pa_cons (pv 1) pa_nil))) (fun _ _ => rfl)) pa_nil)) (by rfl))
          (pss_cons (ps_set (i := 8) sc_l_rules_drawn.nd rfl (.inl rfl) (pe_lst (pa_cons (pe_tup (pa_cons pe_str (pa_cons (pv 9) (pa_cons pe_dnewK (pa_cons pe_bl pa_nil))))) pa_nil)))
          (pss_one (ps_if (PW.pt (pw_and (pt_cmpR op_eq (pv 6) (pe_op op_sub (pe_callB call_len_seq (by rfl) ml PySem.boot_len (pa_cons (pv 1) pa_nil)) pe_int) (nomark _)) (pw_and1 (pt_cmpR op_eq (pe_call GT hr2 (by rfl) gT kT bT .nil pass0 (pa_cons (pv 0) (pa_cons pe_int pa_nil))) pe_int (nomark _)))))
            (pss_cons (ps_expr (pe_bm PySem.F.plainAttrs_list PySem.F.slot_list_append PySem.F.type_list_append mt_append (pv 8) (pa_cons (pe_tup (pa_cons pe_str (pa_cons (pv 7) (pa_cons pe_dnewK (pa_cons pe_bl pa_nil))))) pa_nil)))
            (pss_one (ps_set (i := 9) sc_l_rules_drawn.nd rfl (.inl rfl) pe_non))) pss_nil)))) pss_nil)
        (pss_cons (ps_expr (pe_bm PySem.F.plainAttrs_list PySem.F.slot_list_append PySem.F.type_list_append mt_append (pv 2) (pa_cons (pe_tup
            (pa_cons (pe_op op_add_str (pe_op op_add_str pe_str (pe_item_str pe_str (pe_op op_mod (pv 6) pe_int) (fun _ _ => rfl))) (pe_item_str pe_str (pe_op op_fdiv (pv 6) pe_int) (fun _ _ => rfl)))
            (pa_cons (pv 6) (pa_cons (pv 7) (pa_cons pe_dnewK (pa_cons (pv 8) (pa_cons (pe_lst pa_nil) (pa_cons (pe_tup (pa_cons pe_int (pa_cons pe_int (pa_cons (pe_lst pa_nil) pa_nil)))) pa_nil)))))))) pa_nil)))
        (pss_one (ps_expr (pe_bm PySem.F.plainAttrs_list PySem.F.slot_list_append PySem.F.type_list_append mt_append (pv 3) (pa_cons (pe_tup (pa_cons (pv 7) (pa_cons (pv 9) pa_nil))) pa_nil)))))))))
      (pss_one (ps_ret (pe_tup (pa_cons (pv 2) (pa_cons (pv 3) pa_nil)))))))))), ?_⟩
    have nrb : ∀ {x : Addr} {HX : Hp}, Kb b H HX → HX x = none → x ≠ b := fun k n => (k.x.ne n).symm
    refine ⟨Nat.zero_le _, fun rl nrl => ⟨Nat.zero_le _, fun sl nsl => ?_⟩⟩
    have s1 := same_new (o := .lst []) nrl
    have s2 := same_new (o := .lst []) nsl
    have hrl2 : (upd (upd H rl (.lst [])) sl (.lst [])) rl = some (.lst []) := s2 _ _ upd_same
    have hsl2 : (upd (upd H rl (.lst [])) sl (.lst [])) sl = some (.lst []) := upd_same
    have hne : rl ≠ sl := ne_of_none (show (upd H rl (.lst [])) rl = some (.lst []) from upd_same) nsl
    have nsl0 : H sl = none := by rw [upd_ne hne.symm] at nsl; exact nsl
    have k2 : Kb b H (upd (upd H rl (.lst [])) sl (.lst [])) := (Kb.refl hb).same (s1.trans s2)
    have I2 : RdI K H b l rl sl ns (upd (upd H rl (.lst [])) sl (.lst [])) [] := ⟨k2, nrl, nsl0, hne, ⟨[], hrl2, .nil⟩, ⟨[], hsl2, .nil⟩, ⟨fun r hr => (by cases hr), fun r hr => (by cases hr), rfl⟩⟩
    generalize upd (upd H rl (.lst [])) sl (.lst []) = H2 at k2 I2 ⊢
    refine ⟨_, rfl, b, 6, rfl, k2.x, by decide, by decide, fun m1 H3 h1 k3 => ?_⟩
    have I3 := I2.kb hb k3
    refine ⟨_, rfl, b, 12, rfl, I3.k.x, by decide, by decide, fun m2 H4 h2 k4 => ?_⟩
    have I4 := I3.kb hb k4
    refine ⟨_, rfl, b, 30, rfl, I4.k.x, by decide, by decide, fun m3 H5 h3 k5 => ?_⟩
    have I5 := I4.kb hb k5
    refine ⟨(show 3 ≤ sizeLine by decide), fun D nD => ?_⟩
    have nDb := nrb I5.k nD
    have I6 := I5.same hb (same_new (o := .lst [.int (m1 : Nat), .int (m2 : Nat), .int (m3 : Nat)]) nD)
    have hD6 : (upd H5 D (.lst [.int (m1 : Nat), .int (m2 : Nat), .int (m3 : Nat)])) D = some (.lst [.int (m1 : Nat), .int (m2 : Nat), .int (m3 : Nat)]) := upd_same
    generalize upd H5 D (.lst [.int (m1 : Nat), .int (m2 : Nat), .int (m3 : Nat)]) = H6 at I6 hD6 ⊢
    refine ⟨_, rfl, b, 3, rfl, I6.k.x, by decide, by decide, fun m4 H7 h4 k7 => ?_⟩
    have I7 := I6.kb hb k7
    have hD7 := k7.lst hD6 nDb
    obtain ⟨M, hM, hat⟩ : ∃ M : Nat, M < 30 ∧ ([.int (m1 : Nat), .int (m2 : Nat), .int (m3 : Nat)] : List V)[m4]? = some (.int (M : Nat)) := by
      match m4, h4 with
      | 0, _ => exact ⟨m1, by omega, rfl⟩
      | 1, _ => exact ⟨m2, by omega, rfl⟩
      | 2, _ => exact ⟨m3, by omega, rfl⟩
      | n + 3, h => exact absurd h (by omega)
    refine ⟨D, _, _, .int (M : Nat), rfl, rfl, .inl (.inl hD7), atI_nat hat, _, _, rfl, rfl, ?_⟩
    refine ⟨_, rfl, b, 3, rfl, I7.k.x, by decide, by decide, fun m5 H8 h5 k8 => ⟨rfl, ?_⟩⟩
    have I8 := I7.kb hb k8
    generalize decide (V.int ((m5 : Nat) : Int) = V.int 0) = c
    refine ⟨fun σ' HX => ∃ M : Nat, 1 ≤ M ∧ M ≤ 30 ∧ σ' = [some (.ref b), some (.ref l), some (.ref rl), some (.ref sl), some (.int (M : Nat)), some (.bl c), none, none, none, none] ∧ RdI K H b l rl sl ns HX [], ?_, ?_⟩
    · have e1 : V.int (1 + ((M : Nat) : Int)) = V.int ((M + 1 : Nat) : Int) := by rw [Int.add_comm]; rfl
      cases c with
      | false =>
        refine ⟨_, rfl, false, rfl, iteF ⟨M + 1, by omega, by omega, ?_, I8⟩⟩
        show [some (V.ref b), some (.ref l), some (.ref rl), some (.ref sl), some (.int (1 + ((M : Nat) : Int))), some (.bl false), none, none, none, none] = _
        rw [e1]
      | true =>
        refine ⟨_, rfl, true, rfl, iteT ⟨_, rfl, _, rfl, l, _, rfl, .inl (.inl (.inl (I8.k.lst hl nlb))), _, rfl, b, 3, rfl, I8.k.x, by decide, by decide, fun m8 H9 h8 k9 => ?_⟩⟩
        rw [List.length_map]
        refine ⟨_, _, rfl, rfl, _, _, rfl, rfl, _, _, rfl, ?_⟩
        have I9 := I8.kb hb k9
        by_cases z : ((ns.length : Nat) : Int) + ((m8 : Nat) : Int) - 1 > 1 + ((M : Nat) : Int)
        · refine ⟨ns.length + m8 - 1, by omega, by omega, ?_, I9⟩
          show [some (V.ref b), some (.ref l), some (.ref rl), some (.ref sl), some (.int (if ((ns.length : Nat) : Int) + ((m8 : Nat) : Int) - 1 > 1 + ((M : Nat) : Int) then ((ns.length : Nat) : Int) + ((m8 : Nat) : Int) - 1 else 1 + ((M : Nat) : Int))), some (.bl true), none, none, none, none] = _
          rw [if_pos z, show ((ns.length : Nat) : Int) + ((m8 : Nat) : Int) - 1 = ((ns.length + m8 - 1 : Nat) : Int) by omega]
        · refine ⟨M + 1, by omega, by omega, ?_, I9⟩
          show [some (V.ref b), some (.ref l), some (.ref rl), some (.ref sl), some (.int (if ((ns.length : Nat) : Int) + ((m8 : Nat) : Int) - 1 > 1 + ((M : Nat) : Int) then ((ns.length : Nat) : Int) + ((m8 : Nat) : Int) - 1 else 1 + ((M : Nat) : Int))), some (.bl true), none, none, none, none] = _
          rw [if_neg z, e1]
    rintro σ' HX ⟨M2, hM1, hM30, rfl, IX⟩
    refine ⟨_, rfl, (M2 : Nat), rfl, by omega, by omega, ?_⟩
    rw [Int.toNat_natCast]
    refine for_it (walk_range (lo := 0) (n := M2)) (fun i σ HY => ∃ (y6 y7 y8 y9 : Option V) (rs : List Ru), σ = [some (.ref b), some (.ref l), some (.ref rl), some (.ref sl), some (.int (M2 : Nat)), some (.bl c), y6, y7, y8, y9] ∧ RdI K H b l rl sl ns HY rs ∧ rs.length = i)
      ⟨_, _, _, _, [], rfl, IX, rfl⟩ (fun _ _ _ _ _ => trivial) (fun i x σ HY HY' hi hP' hY => ?_) (fun σ HY hP' => ?_)
    · obtain ⟨e0, ex⟩ := hY
      subst e0
      have ex := ex.trans (congrArg V.int (Int.zero_add _))
      subst ex
      obtain ⟨y6, y7, y8, y9, rs, rfl, IY, hrs⟩ := hP'
      have hi30 : i < 30 := by have : i < M2 := hi; omega
      have lY := IY.k.lst hl nlb
      refine ⟨_, rfl, _, rfl, _, rfl, l, _, rfl, .inl (.inl (.inl lY)), b, _, rfl, IY.k.x, by rw [List.length_map]; omega, by rw [List.length_map]; omega, fun n1 H1 hn1 k1 => ?_⟩
      rw [List.length_map] at hn1
      have I1 := IY.kb hb k1
      have l1 := I1.k.lst hl nlb
      have hn1' : n1 < ns.length := by omega
      refine ⟨l, _, _, _, rfl, rfl, .inl (.inl l1), atI_nat (str_ix hn1'), ?_⟩
      have mk : ns[n1] ∈ ns := List.getElem_mem _
      generalize ns[n1] = kd0 at mk ⊢
      refine ⟨_, rfl, _, rfl, b, l, ns, rfl, I1.k.x, nlb, l1, by omega, by omega, fun t pl a c2 ps H3 k3 ht3 hD3 hP ha hc => ?_⟩
      have I3 := I1.kb hb k3
      have hrlH : ∀ {HX : Hp} {rs : List Ru}, RdI K H b l rl sl ns HX rs → ∀ x, HX x = none → H x = none ∧ x ≠ rl ∧ x ≠ sl := fun {HX rs} I x n => by
        obtain ⟨vs, e1, _⟩ := I.r
        obtain ⟨xs, e2, _⟩ := I.s
        exact ⟨I.k.free n, (fun z => by rw [z, e1] at n; cases n), (fun z => by rw [z, e2] at n; cases n)⟩
      have hD3 := hD3.mono (N' := fun x => H x = none ∧ x ≠ rl ∧ x ≠ sl) (hrlH I1)
      refine ⟨t, _, rfl, .inl (.inl ht3), rfl, _, _, rfl, _, _, rfl, rfl, ?_⟩
      refine ⟨fun σ' HX => ∃ (kd a c2 : Str) (ps : List Pt) (pl : Addr), σ' = [some (.ref b), some (.ref l), some (.ref rl), some (.ref sl), some (.int (M2 : Nat)), some (.bl c), some (.int (i : Nat)), some (.str kd), some (.ref pl), some (oV (ledM ps))] ∧ RdI K H b l rl sl ns HX rs ∧ kd ∈ ns ∧ a ∈ ns ∧ c2 ∈ ns ∧ Ps20 a c2 ps ∧ Dq K HX (fun x => H x = none ∧ x ≠ rl ∧ x ≠ sl) 3 (.ref pl) (.list (ps.map ptD)), ?_, ?_⟩
      · cases c with
        | false => exact ⟨_, rfl, false, rfl, iteF ⟨kd0, a, c2, ps, pl, rfl, I3, mk, ha, hc, hP, hD3⟩⟩
        | true =>
          have l3 := I3.k.lst hl nlb
          have hL : (ns.map V.str).length = ns.length := List.length_map ..
          have hi1 : i % ns.length < ns.length := Nat.mod_lt _ (by omega)
          have hi2 : (i + 1) % ns.length < ns.length := Nat.mod_lt _ (by omega)
          have ix : ∀ m : Nat, atI (ns.map V.str) (((m : Nat) : Int).fmod (((ns.map V.str).length : Nat) : Int)) = some (.str (ns[m % ns.length]'(Nat.mod_lt _ (by omega)))) := fun m => by
            refine atI_z (n := m % ns.length) ?_ (str_ix _)
            rw [hL, Int.fmod_eq_emod_of_nonneg _ (Int.natCast_nonneg _)]
            exact (Int.natCast_emod m ns.length).symm
          refine ⟨_, rfl, true, rfl, iteT ⟨_, rfl, _, rfl, _, rfl, l, _, rfl, .inl (.inl (.inl l3)), _, _, rfl, rfl, by rw [hL]; omega, l, _, _, _, rfl, rfl, .inl (.inl l3), ix i, ?_⟩⟩
          refine ⟨_, rfl, _, rfl, _, _, rfl, rfl, _, rfl, l, _, rfl, .inl (.inl (.inl l3)), _, _, rfl, rfl, by rw [hL]; omega, l, _, _, _, rfl, rfl, .inl (.inl l3), ix (i + 1), ?_⟩
          have ma : ns[i % ns.length] ∈ ns := List.getElem_mem _
          have mb : ns[(i + 1) % ns.length] ∈ ns := List.getElem_mem _
          generalize ns[i % ns.length] = ka at ma ⊢
          generalize ns[(i + 1) % ns.length] = kb at mb ⊢
          refine ⟨_, _, rfl, _, rfl, fun d nd => ⟨(show 4 ≤ sizeLine by decide), fun t1 nt1 => ?_⟩⟩
          obtain ⟨s4, q4⟩ := pt_new (K := K) (N := fun x => H x = none ∧ x ≠ rl ∧ x ≠ sl) (r := "head") (k := kb) (o := false) nd nt1 (hrlH I3 d nd)
          have k4 := (Kb.refl I3.k.x).same s4
          generalize upd (upd H3 d (.dK [])) t1 (.tup [.str "head", .str kb, .ref d, .bl false]) = H4 at s4 q4 k4 ⊢
          refine ⟨(show 1 ≤ sizeLine by decide), fun p np => ?_⟩
          have I4 := I3.kb hb k4
          have zp := hrlH I4 p np
          have np3 : H3 p = none := k4.free np
          have npb : p ≠ b := nrb I4.k np
          have q4 := q4.off np
          have q5 := q4.same (same_new (o := .lst [.ref t1]) np)
          have k5 : Kb b H3 (upd H4 p (.lst [.ref t1])) := k4.nw np
          have hp5 : (upd H4 p (.lst [.ref t1])) p = some (.lst [.ref t1]) := upd_same
          generalize upd H4 p (.lst [.ref t1]) = H5 at q5 k5 hp5 ⊢
          have one : RdI K H b l rl sl ns H5 rs := I3.kb hb k5
          have lst1 : ∀ {HZ : Hp}, Kb b H5 HZ → HZ p = some (.lst [.ref t1]) → Dq K HZ (fun x => H x = none ∧ x ≠ rl ∧ x ≠ sl) 3 (.ref p) (.list ([hd20 kb false].map ptD)) := fun k e => by
            have nb : ¬ ((H b = none ∧ b ≠ rl ∧ b ≠ sl) ∧ b ≠ p) := fun z => by
              obtain ⟨_, _, _, e⟩ := hb
              rw [z.1.1] at e
              cases e
            exact .lst e zp (show 1 ≤ 1000 by decide) (.cons ((q5.kb k5.x k nb).mono fun x z => z.1) .nil)
          have fin1 : ∀ {HZ : Hp}, Kb b H5 HZ → ∃ (kd a c2 : Str) (ps : List Pt) (pl : Addr), [some (V.ref b), some (.ref l), some (.ref rl), some (.ref sl), some (.int (M2 : Nat)), some (.bl true), some (.int (i : Nat)), some (.str ka), some (.ref p), some (.str kb)] = [some (V.ref b), some (.ref l), some (.ref rl), some (.ref sl), some (.int (M2 : Nat)), some (.bl true), some (.int (i : Nat)), some (.str kd), some (.ref pl), some (oV (ledM ps))] ∧ RdI K H b l rl sl ns HZ rs ∧ kd ∈ ns ∧ a ∈ ns ∧ c2 ∈ ns ∧ Ps20 a c2 ps ∧ Dq K HZ (fun x => H x = none ∧ x ≠ rl ∧ x ≠ sl) 3 (.ref pl) (.list (ps.map ptD)) := fun {HZ} k => by
            refine ⟨ka, kb, kb, [hd20 kb false], p, ?_, one.kb hb k, ma, mb, mb, .c1, lst1 k (k.lst hp5 npb)⟩
            rw [led_so (b := kb) .c1 ["head"] rfl (by decide +kernel)]
          have l5 := one.k.lst hl nlb
          refine ⟨_, rfl, _, rfl, l, _, rfl, .inl (.inl (.inl l5)), _, _, rfl, rfl, rfl, _, rfl, ite2 (fun e => ?_) (fun e => iteF (fin1 (Kb.refl one.k.x)))⟩
          refine ⟨_, rfl, b, 2, rfl, one.k.x, by decide, by decide, fun m6 H6 h6 k6 => ⟨rfl, _, rfl, ?_⟩⟩
          refine ite2 (fun e => ?_) (fun e => fin1 k6)
          have I6 := one.kb hb k6
          have hp6 := k6.lst hp5 npb
          refine ⟨_, rfl, .inl ⟨rfl, _, .inl (.inl hp6)⟩, _, rfl, fun d2 nd2 => ⟨(show 4 ≤ sizeLine by decide), fun t2 nt2 => ?_⟩⟩
          have nbp : ¬ ((H b = none ∧ b ≠ rl ∧ b ≠ sl) ∧ b ≠ p) := fun z => by
            obtain ⟨_, _, _, e⟩ := hb
            rw [z.1.1] at e
            cases e
          have q6 := q5.kb k5.x k6 nbp
          obtain ⟨s7, q7⟩ := pt_new (K := K) (N := fun x => (H x = none ∧ x ≠ rl ∧ x ≠ sl) ∧ x ≠ p) (r := "of") (k := ka) (o := false) nd2 nt2 ⟨hrlH I6 d2 nd2, fun z => by rw [z, hp6] at nd2; cases nd2⟩
          have q6 := q6.same s7
          have k7 : Kb b H3 (upd (upd H6 d2 (.dK [])) t2 (.tup [.str "of", .str ka, .ref d2, .bl false])) := (k5.trans k6).same s7
          have hp7 := s7 _ _ hp6
          generalize upd (upd H6 d2 (.dK [])) t2 (.tup [.str "of", .str ka, .ref d2, .bl false]) = H7 at q6 q7 k7 hp7 ⊢
          have items : DqAll K H7 (fun x => (H x = none ∧ x ≠ rl ∧ x ≠ sl) ∧ x ≠ p) 2 [.ref t1, .ref t2] ([hd20 kb false, of20 ka false].map ptD) := .cons q6 (.cons q7 .nil)
          have items := items.put (o := .lst [.ref t1, .ref t2]) hp7 fun z => z.2 rfl
          refine ⟨p, _, _, rfl, rfl, hp7, (show 1 < sizeLine by decide), ka, kb, ka, [hd20 kb false, of20 ka false], p, ?_, I3.kb hb (k7.own np3 npb), ma, mb, ma, .c2, .lst upd_same zp (show 2 ≤ 1000 by decide) (items.mono fun x z => z.1)⟩
          rw [led_no (b := ka) .c2 ["head", "of"] rfl (by decide +kernel)]
          rfl
      rintro σ' HX ⟨kd, a, c2, ps, pl, rfl, IX, mk, ha, hc, hP, hD⟩
      have nE := hrlH IX
      obtain ⟨vs, e1, e2⟩ := IX.r
      obtain ⟨xs, e3, e4⟩ := IX.s
      have lv : vs.length = i := by rw [e2.len, List.length_map, hrs]
      have lx : xs.length = i := by rw [Paired.length e4]; exact (List.length_map ..).trans hrs
      have c10 : i % 10 < ("abcdefghij" : Str).cps.size := Nat.lt_of_lt_of_le (Nat.mod_lt i (by decide)) (by decide)
      have c3 : i / 10 < ("abc" : Str).cps.size := Nat.lt_of_lt_of_le (show i / 10 < 3 by omega) (by decide)
      have t10 : (((i : Nat) : Int) % 10).toNat = i % 10 := by omega
      have t3 : (((i : Nat) : Int) / 10).toNat = i / 10 := by omega
      have l10 : ("abcdefghij" : Str).length = 10 := by decide +kernel
      have l3' : ("abc" : Str).length = 3 := by decide +kernel
      refine ⟨_, rfl, .inl ⟨rfl, _, .inl (.inl e1)⟩, ?_⟩
      refine ⟨_, rfl, _, _, rfl, rfl, (by show (0 : Int) < 10; decide), "abcdefghij", _, ("abcdefghij" : Str).cps.getD (i % 10) 0, rfl, rfl, by omega, by omega, by rw [l10]; omega, by rw [t10]; exact sgn_at c10, _, _, rfl, rfl, Nat.le_trans (Nat.le_of_eq (rnm_len i)) (by decide), ?_⟩
      refine ⟨_, rfl, _, _, rfl, rfl, ⟨by decide, by decide⟩, "abc", _, ("abc" : Str).cps.getD (i / 10) 0, rfl, rfl, by omega, by omega, by rw [l3']; omega, by rw [t3]; exact sgn_at c3, _, _, rfl, rfl, Nat.le_trans (Nat.le_of_eq (rnm_len2 i)) (by decide), ?_⟩
      rw [show (("r" : Str) ++ (⟨#[("abcdefghij" : Str).cps.getD (i % 10) 0]⟩ : Str)) ++ (⟨#[("abc" : Str).cps.getD (i / 10) 0]⟩ : Str) = rnm i from rfl]
      refine ⟨_, rfl, _, rfl, fun d nd => ⟨_, rfl, Nat.zero_le _, fun g ng => ⟨Nat.zero_le _, fun al nal => ⟨(show 3 ≤ sizeLine by decide), fun o no => ⟨(show 7 ≤ sizeLine by decide), fun t nt => ?_⟩⟩⟩⟩⟩
      have u1 := same_new (o := .dK []) nd
      have u2 := same_new (o := .lst []) ng
      have u3 := same_new (o := .lst []) nal
      have u4 := same_new (o := .tup [.int 1, .int 0, .ref al]) no
      have u5 := same_new (o := .tup [.str (rnm i), .int ((i : Nat) : Int), .str kd, .ref d, .ref pl, .ref g, .ref o]) nt
      have hd : (upd HX d (.dK [])) d = some (.dK []) := upd_same
      have hg : (upd (upd HX d (.dK [])) g (.lst [])) g = some (.lst []) := upd_same
      have hal : (upd (upd (upd HX d (.dK [])) g (.lst [])) al (.lst [])) al = some (.lst []) := upd_same
      have ho : (upd (upd (upd (upd HX d (.dK [])) g (.lst [])) al (.lst [])) o (.tup [.int 1, .int 0, .ref al])) o = some (.tup [.int 1, .int 0, .ref al]) := upd_same
      have v4 := u4.trans u5
      have v3 := u3.trans v4
      have v2 := u2.trans v3
      have vA := u1.trans v2
      have ng0 := u1.free ng
      have nal0 := u1.free (u2.free nal)
      have ht : (upd (upd (upd (upd (upd HX d (.dK [])) g (.lst [])) al (.lst [])) o (.tup [.int 1, .int 0, .ref al])) t (.tup [.str (rnm i), .int ((i : Nat) : Int), .str kd, .ref d, .ref pl, .ref g, .ref o])) t = some (.tup [.str (rnm i), .int ((i : Nat) : Int), .str kd, .ref d, .ref pl, .ref g, .ref o]) := upd_same
      have nt0 := u1.free (u2.free (u3.free (u4.free nt)))
      have rD : Dq K (upd (upd (upd (upd (upd HX d (.dK [])) g (.lst [])) al (.lst [])) o (.tup [.int 1, .int 0, .ref al])) t (.tup [.str (rnm i), .int ((i : Nat) : Int), .str kd, .ref d, .ref pl, .ref g, .ref o])) (fun x => H x = none ∧ x ≠ rl ∧ x ≠ sl) 5 (.ref t) (ruD (rul i kd ps)) :=
        .tup (.inl (.inl ht)) (show 7 ≤ 1000 by decide) (.cons (.str _) (.cons (.int _) (.cons (.str _) (.cons (.dic (n := 3) (v2 _ _ hd) (nE d nd) (Nat.zero_le _) List.nodup_nil .nil) (.cons ((hD.same vA).up (by decide)) (.cons (.lst (n := 3) (v3 _ _ hg) (nE g ng0) (Nat.zero_le _) .nil)
          (.cons (.tup (n := 3) (.inl (.inl (u5 _ _ ho))) (show 3 ≤ 1000 by decide) (.cons (.int _) (.cons (.int _) (.cons (.lst (n := 2) (v4 _ _ hal) (nE al nal0) (Nat.zero_le _) .nil) .nil)))) .nil)))))))
      have hrl := vA _ _ e1
      have hsl := vA _ _ e3
      have e2 := e2.same vA
      have e4 := e4.same vA
      have kA : Kb b H _ := IX.k.same vA
      show ∃ (l : Addr) (xs : List V) (y : V), _ = _ ∧ _
      generalize upd (upd (upd (upd (upd HX d (.dK [])) g (.lst [])) al (.lst [])) o (.tup [.int 1, .int 0, .ref al])) t (.tup [.str (rnm i), .int ((i : Nat) : Int), .str kd, .ref d, .ref pl, .ref g, .ref o]) = HR at rD hrl hsl e2 e4 kA ⊢
      have nrb' : rl ≠ b := (hb.ne nrl).symm
      have nsb' : sl ≠ b := (hb.ne nsl0).symm
      refine ⟨rl, _, _, rfl, rfl, hrl, by rw [lv]; exact small_line (by omega), ?_⟩
      have all1 := (e2.app (.cons rD .nil)).put (o := .lst (vs ++ [.ref t])) hrl fun z => z.2.1 rfl
      have hrl2 : (upd HR rl (.lst (vs ++ [.ref t]))) rl = some (.lst (vs ++ [.ref t])) := upd_same
      have hsl2 : (upd HR rl (.lst (vs ++ [.ref t]))) sl = some (.lst xs) := by rw [upd_ne hne.symm]; exact hsl
      have kB := kA.own (o := .lst (vs ++ [.ref t])) nrl nrb'
      have e4 := e4.updL (o := .lst (vs ++ [.ref t])) hrl
      generalize upd HR rl (.lst (vs ++ [.ref t])) = HS at all1 hrl2 hsl2 kB e4 ⊢
      refine ⟨_, rfl, .inl ⟨rfl, _, .inl (.inl hsl2)⟩, _, rfl, _, rfl, (show 2 ≤ sizeLine by decide), fun t2 nt2 => ?_⟩
      have u6 := same_new (o := .tup [.str kd, oV (ledM ps)]) nt2
      have ht2 : (upd HS t2 (.tup [.str kd, oV (ledM ps)])) t2 = some (.tup [.str kd, oV (ledM ps)]) := upd_same
      have all2 := all1.same u6
      have hrl3 := u6 _ _ hrl2
      have hsl3 := u6 _ _ hsl2
      have kC := kB.same u6
      have e4 := e4.same u6
      generalize upd HS t2 (.tup [.str kd, oV (ledM ps)]) = HT at ht2 all2 hrl3 hsl3 kC e4 ⊢
      refine ⟨sl, _, _, rfl, rfl, hsl3, by rw [lx]; exact small_line (by omega), _, _, _, _, rs ++ [rul rs.length kd ps], rfl, ⟨kC.own nsl0 nsb', nrl, nsl0, hne, ⟨_, by rw [upd_ne hne]; exact hrl3, ?_⟩, ⟨_, upd_same, ?_⟩, IX.o.snoc (by omega) mk ha hc hP⟩, by rw [List.length_append, hrs]; rfl⟩
      · rw [List.map_append, hrs]
        exact all2.put hsl3 fun z => z.2.2 rfl
      · rw [show stpsM (rs ++ [rul rs.length kd ps]) = stpsM rs ++ [(kd, ledM ps)] from List.map_append]
        exact StpsAt.updL (e4.snoc (.inl (.inl ht2))) hsl3
    · obtain ⟨y6, y7, y8, y9, rs, rfl, IY, hrs⟩ := hP'
      obtain ⟨vs, e1, e2⟩ := IY.r
      obtain ⟨xs, e3, e4⟩ := IY.s
      refine ⟨_, rfl, _, rfl, (show 2 ≤ sizeLine by decide), fun t nt => ?_⟩
      have sn := same_new (o := .tup [.ref rl, .ref sl]) nt
      have lv : vs.length ≤ 1000 := by rw [e2.len, List.length_map]; omega
      exact q t rl sl xs rs _ (IY.k.same sn) upd_same (.lst (sn _ _ e1) IY.nr lv ((e2.same sn).mono fun x z => z.1)) (sn _ _ e3) IY.ns' (e4.same sn) (by omega) IY.o
end
end Bn

set_option pp.maxSteps 400
namespace Bn
open PySem PySem.Spec PyProof.Rows L2 BR GX RM GY
theorem rc_setd {H0 H1 : Hp} {r a2 : Addr} {W : List Str} {T : Str → List Str} {dd : Str → Addr} {Q : Hp → Prop} {a : Str} {d : Addr} (hS : RcS H0 H1 r (.dK (kvR W dd)) W T dd) (nd : H1 d = none) (hT : a ∉ W → T a = [])
    (go : ∀ HX W' dd', RcS H0 HX r (.dK (kvR W' dd')) W' T dd' → a ∈ W' → (∀ c ∈ W, c ∈ W') → (∀ c ∈ W', c ∈ W ∨ c = a) → Q HX) :
    (∀ v, valV (kvR W dd) (.inr a) = some v → Q (upd H1 d (.dK []))) ∧ (valV (kvR W dd) (.inr a) = none → Q (upd (upd H1 d (.dK [])) r (.dK (putK (kvR W dd) (.inr a) (.ref d))))) := by
  have h1 := hS.same (same_new (o := .dK []) nd)
  have nd0 : H0 d = none := by
    cases e : H0 d with
    | none => rfl
    | some o =>
      rw [hS.sm _ _ e] at nd
      cases nd
  refine ⟨fun v hv => ?_, fun hv => ?_⟩
  · have ha : a ∈ W := by
      rw [kvR_val] at hv
      by_cases z : a ∈ W
      · exact z
      · rw [if_neg z] at hv
        cases hv
    exact go _ W dd h1 ha (fun c hc => hc) fun c hc => .inl hc
  · have ha : a ∉ W := fun z => by
      rw [kvR_val, if_pos z] at hv
      cases hv
    have ner : d ≠ r := fun z => by rw [z, hS.d] at nd; cases nd
    refine go _ _ _ (h1.more ha (hT ha) upd_same nd0 ner fun c hc z => ?_) (List.mem_append_right _ (List.mem_singleton.mpr rfl)) (fun c hc => List.mem_append_left _ hc) fun c hc => (List.mem_append.mp hc).imp id List.mem_singleton.mp
    rw [← z, hS.ats c hc] at nd
    cases nd
/-- why a tongue is refused: its ring, or none -/
def RgIs (S : List Stp) : Option Nat → Prop
  | none => ∀ i, ¬ RingAt S i
  | some i => RingAt S i ∧ ∀ j < i, ¬ RingAt S j
def rgV : Option Nat → List V
  | none => []
  | some i => [.str "ring", .int (i : Nat)]
section
variable {P : Program} {w : World} {K : PySem.W.Frag} {mg : Str → Option Value} {base : Heap}
/-! ### due -/
def spDue (K : PySem.W.Frag) : Sp := fun vs H Q _ => ∃ (l : Addr) (xs : List V) (S : List Stp), vs = [.ref l] ∧ H l = some (.lst xs) ∧ StpsAt K H xs S ∧ S.length ≤ 30 ∧ ∀ H' p z, Same H H' → RgIs S z → H' p = some (.tup (rgV z)) → Q (.ref p) H'
theorem ok_due {f : Addr} {fd : FuncData} (F : Fun K "_law_due" "_law_due" s_l_due f fd) (me : mg "enumerate" = none) (mr : mg "range" = none) (ml : mg "len" = none) (mli : mg "list" = none) : FnOk P w K mg base CX0 1 f fd ["_law_steps"] (spDue K) := by
  refine F.ok sc_l_due (fun vs H Q E h => ?_) (fun cdv A outer s H vs Q E hr h => ?_)
  · obtain ⟨l, xs, S, rfl, _⟩ := h
    rfl
  · obtain ⟨l, xs, S, rfl, hl, hSt, few, q⟩ := h
    have hu := hu_of hr
    refine ⟨_, pss_cons (ps_set (i := 1) sc_l_due.nd rfl (.inl rfl) pe_dnewK)
      (pss_cons (ps_for PassesOwn.never rfl (pi_list (pv 0)) (pg_tup rfl (pgs_cons (pg_name (i := 2) sc_l_due.nd rfl (.inl rfl)) (pgs_cons (pg_name (i := 3) sc_l_due.nd rfl (.inl rfl)) pgs_nil)))
        (C8.pss_cut (ps_expr (pe_dsetd (pv 1) (pv 2) pe_dnewK ⟨rfl, rfl, rfl, rfl⟩))
        (pss_one (ps_if (pt_cmpR op_notN (pv 3) pe_non (nomark _)) (pss_cons (ps_dput hu (pe_dget hu (pv 1) (pv 2) (fun _ _ => rfl)) (pv 3) pe_bl rfl) (pss_one (ps_expr (pe_dsetd (pv 1) (pv 3) pe_dnewK ⟨rfl, rfl, rfl, rfl⟩)))) pss_nil))))
      (pss_cons (ps_for PassesOwn.never rfl (pi_range1 (by rfl) mr (pa_cons (pe_callB call_lenD (by rfl) ml PySem.boot_len (pa_cons (pv 1) pa_nil)) pa_nil)) (pg_name (i := 4) sc_l_due.nd rfl (.inl rfl))
        (pss_one (ps_lock (ps_for PassesOwn.never rfl (pi_keys (pv 1)) (pg_name (i := 2) sc_l_due.nd rfl (.inl rfl))
          (pss_one (ps_for PassesOwn.never rfl (pi_list (pe_callTy (call_list_dK rfl) (by rfl) mli (by decide +kernel) (pa_cons (pe_dget hu (pv 1) (pv 2) (fun _ _ => rfl)) pa_nil))) (pg_name (i := 5) sc_l_due.nd rfl (.inl rfl))
            (pss_one (ps_expr (pe_bm PySem.F.plainAttrs_dict PySem.F.slot_dict_update PySem.F.type_dict_update BX.mt_updS (pe_dget hu (pv 1) (pv 2) (fun _ _ => rfl)) (pa_cons (pe_dget hu (pv 1) (pv 5) (fun _ _ => rfl)) pa_nil))))))))))
      (pss_cons (ps_for PassesOwn.never rfl (pi_enum (by rfl) me (pa_cons (pv 0) pa_nil)) (pg_tup rfl (pgs_cons (pg_name (i := 6) sc_l_due.nd rfl (.inl rfl)) (pgs_cons (pg_tup rfl (pgs_cons (pg_name (i := 2) sc_l_due.nd rfl (.inl rfl)) (pgs_cons (pg_name (i := 3) sc_l_due.nd rfl (.inl rfl)) pgs_nil))) pgs_nil)))
        (pss_one (ps_if (PW.pt (pw_and (pt_cmpR op_notN (pv 3) pe_non (nomark _)) (pw_and1 (PW.pt (pw_or (pt_cmpR op_eq (pv 3) (pv 2) (nomark _)) (pw_or1 (pt_cmp (pc_din hu (pv 2) (pe_dget hu (pv 1) (pv 3) (fun _ _ => rfl))))))))))
          (pss_one (ps_ret (pe_tup (pa_cons pe_str (pa_cons (pv 6) pa_nil))))) pss_nil)))
      (pss_one (ps_ret (pe_tup pa_nil)))))), ?_⟩
    intro r nr
    have s0 := same_new (o := .dK []) nr
    have c0 : RcS H (upd H r (.dK [])) r (.dK (kvR [] fun _ => 0)) [] (fun _ => []) (fun _ => 0) := ⟨upd_same, nr, s0, List.nodup_nil, fun k hk => (by cases hk), fun k hk => (by cases hk), fun k hk => (by cases hk), fun k hk => (by cases hk), fun k => List.nodup_nil⟩
    have hxl : xs.length = S.length := Paired.length hSt
    refine ⟨_, rfl, l, rfl, ⟨_, .inl (.inl (s0 _ _ hl))⟩, ?_⟩
    refine for_it (walk_list (K := K) (a := l) (xs := xs)) (fun i σ HY => ∃ (y2 y3 y4 y5 y6 : Option V) (W : List Str) (T : Str → List Str) (dd : Str → Addr), σ = [some (.ref l), some (.ref r), y2, y3, y4, y5, y6] ∧ RcS H HY r (.dK (kvR W dd)) W T dd ∧ Ph1 S i W T)
      ⟨_, _, _, _, _, _, _, _, rfl, c0, ph1_zero S⟩ (fun i σ HY _ z => by obtain ⟨_, _, _, _, _, _, _, _, _, z, _⟩ := z; exact .inl (.inl (z.sm _ _ hl))) (fun i x σ HY HY' hi hP' hY => ?_) (fun σ HY hP' => ?_)
    · obtain ⟨rfl, hx⟩ := hY
      obtain ⟨y2, y3, y4, y5, y6, W, T, dd, rfl, hS, h1⟩ := hP'
      obtain ⟨⟨a, g⟩, hq, t, rfl, ht⟩ := pairedA_at (hSt.same hS.sm) hx
      have wl : W.length ≤ 60 := by
        have e1 := nodup_len W _ hS.nd h1.w
        have e2 := allN_len S
        omega
      have hT0 : ∀ c, c ∉ W → T c = [] := fun c hc => by
        cases e : T c with
        | nil => rfl
        | cons y r =>
          have : y ∈ T c := by rw [e]; exact List.mem_cons_self
          exact absurd (h1.o _ _ ((h1.t _ _).mp this)) hc
      have hmem : (a, g) ∈ S := List.mem_of_getElem? hq
      refine ⟨t, _, rfl, ht, rfl, _, _, rfl, _, _, rfl, rfl, ?_⟩
      refine ⟨fun σ' HX => ∃ (W' : List Str) (dd' : Str → Addr), σ' = [some (.ref l), some (.ref r), some (.str a), some (oV g), y4, y5, y6] ∧ RcS H HX r (.dK (kvR W' dd')) W' T dd' ∧ a ∈ W' ∧ (∀ c ∈ W, c ∈ W') ∧ ∀ c ∈ W', c ∈ W ∨ c = a, ?_, ?_⟩
      · refine ⟨_, rfl, r, rfl, .inl ⟨_, .inl hS.d⟩, _, rfl, fun d nd => ⟨kvR W dd, .inr a, (hS.same (same_new nd)).d, rfl, by rw [kvR_len]; exact small_line (by omega), ?_⟩⟩
        exact rc_setd (a2 := r) (Q := fun HX => ∃ (W' : List Str) (dd' : Str → Addr), _ ∧ RcS H HX r (.dK (kvR W' dd')) W' T dd' ∧ a ∈ W' ∧ (∀ c ∈ W, c ∈ W') ∧ ∀ c ∈ W', c ∈ W ∨ c = a) hS nd (hT0 a) fun HX W' dd' z1 z2 z3 z4 => ⟨W', dd', rfl, z1, z2, z3, z4⟩
      rintro σ' HX ⟨W1, dd1, rfl, hS1, ha1, sub1, cs1⟩
      have tk : S.take (i + 1) = S.take i ++ [(a, g)] := take_get hq
      have w1 : ∀ c ∈ W1, c ∈ allN S := fun c hc => (cs1 c hc).elim (h1.w c) fun e => e ▸ allN_1 hmem
      have wl1 : W1.length ≤ 60 := by
        have e1 := nodup_len W1 _ hS1.nd w1
        have e2 := allN_len S
        omega
      cases g with
      | none =>
        refine ⟨_, rfl, rfl, _, rfl, iteF ⟨_, _, _, _, _, W1, T, dd1, rfl, hS1, w1, fun c x => ?_, fun c g hc => ?_, fun c x hc => ?_⟩⟩
        · rw [h1.t, tk, List.mem_append]
          exact ⟨.inl, fun z => z.elim id fun z => by have := List.mem_singleton.mp z; cases this⟩
        · rw [tk] at hc
          rcases List.mem_append.mp hc with z | z
          · exact sub1 _ (h1.o _ _ z)
          · cases List.mem_singleton.mp z
            exact ha1
        · rw [tk] at hc
          rcases List.mem_append.mp hc with z | z
          · exact sub1 _ (h1.b _ _ z)
          · have := List.mem_singleton.mp z
            cases this
      | some x =>
        have tl : (T a).length ≤ 60 := by
          have e1 := nodup_len (T a) _ (hS.tn a) fun c hc => allN_2 (List.mem_of_mem_take ((h1.t a c).mp hc))
          have e2 := allN_len S
          omega
        refine ⟨_, rfl, rfl, _, rfl, iteT ⟨_, rfl, _, rfl, r, _, rfl, get_of hS1.d (hS1.get ha1), _, rfl, dd1 a, _, rfl, DPut.k (k := Sum.inr x) (hS1.ats a ha1) (by rw [kvW_len]; exact small_line (by omega)), ?_⟩⟩
        rw [kvW_put]
        have hS2 := hS1.set ha1 (ys := if x ∈ T a then T a else T a ++ [x]) (by
          by_cases z : x ∈ T a
          · rw [if_pos z]; exact hS.tn a
          · rw [if_neg z, List.nodup_append]
            exact ⟨hS.tn a, by simp, fun c hc d hd e => z (by rw [← List.mem_singleton.mp hd, ← e]; exact hc)⟩)
        generalize upd HX (dd1 a) (.dK (kvW (if x ∈ T a then T a else T a ++ [x]))) = HX2 at hS2 ⊢
        have hT2 : ∀ c, c ∉ W1 → (if c = a then (if x ∈ T a then T a else T a ++ [x]) else T c) = [] := fun c hc => by
          rw [if_neg (show ¬ c = a from fun e => hc (e ▸ ha1))]
          exact hT0 c fun z => hc (sub1 c z)
        refine ⟨_, rfl, r, rfl, .inl ⟨_, .inl hS2.d⟩, _, rfl, fun d nd => ⟨kvR W1 dd1, .inr x, (hS2.same (same_new nd)).d, rfl, by rw [kvR_len]; exact small_line (by omega), ?_⟩⟩
        refine rc_setd (a2 := r) (Q := fun HX => ∃ (u2 u3 u4 u5 u6 : Option V) (W : List Str) (T : Str → List Str) (dd : Str → Addr), [some (V.ref l), some (V.ref r), some (V.str a), some (V.str x), y4, y5, y6] = [some (V.ref l), some (V.ref r), u2, u3, u4, u5, u6] ∧ RcS H HX r (.dK (kvR W dd)) W T dd ∧ Ph1 S (i + 1) W T) hS2 nd (hT2 x) fun HX W2 dd2 z1 z2 z3 z4 => ⟨_, _, _, _, _, W2, _, dd2, rfl, z1, fun c hc => ?_, fun c y => ?_, fun c g hc => ?_, fun c y hc => ?_⟩
        · exact (z4 c hc).elim (w1 c) fun e => e ▸ allN_2 hmem
        · have key : y ∈ (if x ∈ T a then T a else T a ++ [x]) ↔ y ∈ T a ∨ y = x := by
            by_cases z : x ∈ T a
            · rw [if_pos z]
              exact ⟨.inl, fun w => w.elim id fun e => e ▸ z⟩
            · rw [if_neg z, List.mem_append, List.mem_singleton]
          rw [tk, List.mem_append, List.mem_singleton, ← h1.t]
          by_cases e : c = a
          · simp only [if_pos e]
            rw [key, e]
            exact ⟨fun w => w.imp id fun e => by rw [e], fun w => w.imp id fun e => by cases e; rfl⟩
          · simp only [if_neg e]
            exact ⟨.inl, fun w => w.elim id fun z => by cases z; exact absurd rfl e⟩
        · rw [tk] at hc
          rcases List.mem_append.mp hc with z | z
          · exact z3 _ (sub1 _ (h1.o _ _ z))
          · cases List.mem_singleton.mp z
            exact z3 _ ha1
        · rw [tk] at hc
          rcases List.mem_append.mp hc with z | z
          · exact z3 _ (sub1 _ (h1.b _ _ z))
          · cases List.mem_singleton.mp z
            exact z2
    obtain ⟨y2, y3, y4, y5, y6, W, T0, dd, rfl, hS, h1⟩ := hP'
    rw [hxl] at h1
    have hW : ∀ a b, (a, some b) ∈ S → b ∈ W := fun a b z => h1.b a b (by rw [List.take_length]; exact z)
    have hw := h1.w
    have h2 := ph1_ph2 h1
    have h2s := h2.s
    clear h1
    have bnd : ∀ {L : List Str}, L.Nodup → (∀ c ∈ L, c ∈ W) → L.length ≤ 60 := fun n s => by
      have e1 := nodup_len _ _ n fun c hc => hw c (s c hc)
      have e2 := allN_len S
      omega
    have wl := bnd hS.nd fun c hc => hc
    have kl := kvR_len W dd
    refine ⟨_, rfl, r, _, rfl, hS.d, ((kvR W dd).length : Nat), rfl, by omega, by omega, ?_⟩
    rw [Int.toNat_natCast, kl]
    refine for_it (walk_range (lo := 0) (n := W.length)) (fun i σ HY => ∃ (y2 y3 y4 y5 y6 : Option V) (T : Str → List Str), σ = [some (.ref l), some (.ref r), y2, y3, y4, y5, y6] ∧ RcS H HY r (.dK (kvR W dd)) W T dd ∧ Ph2 S W T ∧ Passes S i (fun a x => x ∈ T0 a) (fun a x => x ∈ T a))
      ⟨_, _, _, _, _, T0, rfl, hS, h2, .zero⟩ (fun _ _ _ _ _ => trivial) (fun i x σ HY HY' hi hP' hY => ?_) (fun σ HY hP' => ?_)
    · obtain ⟨e0, rfl⟩ := hY
      subst e0
      obtain ⟨z2, z3, z4, z5, z6, T, rfl, hT, p2, pp⟩ := hP'
      refine ⟨r, _, hT.d, trivial, fun od => ⟨_, rfl, r, od, rfl, .inl ⟨kvR W dd, upd_same, ?_⟩⟩⟩
      have hT1 := hT.lk (.frz od (.dK (kvR W dd)))
      generalize upd HY' r (.frz od (.dK (kvR W dd))) = HL at hT1 ⊢
      refine for_it (walk_keys (d := r) (o := od) (kvs := kvR W dd)) (fun m σ HZ => ∃ (y2 y3 y4 y5 y6 : Option V) (T' : Str → List Str), σ = [some (.ref l), some (.ref r), y2, y3, y4, y5, y6] ∧ RcS H HZ r (.frz od (.dK (kvR W dd))) W T' dd ∧ Ph2 S W T' ∧ (∀ a x, x ∈ T a → x ∈ T' a) ∧ ∀ a ∈ W.take m, ∀ b, (a, some b) ∈ S → ∀ x, x ∈ T b → x ∈ T' a)
        ⟨_, _, _, _, _, T, rfl, hT1, p2, fun _ _ z => z, fun a ha => by simp at ha⟩ (fun m σ HZ _ z => by obtain ⟨_, _, _, _, _, _, _, z, _⟩ := z; exact z.d) (fun m x σ HZ HZ' hm hP' hY => ?_) (fun σ HZ hP' => ?_)
      · obtain ⟨rfl, kk, v0, hkv, rfl⟩ := hY
        obtain ⟨x2, x3, x4, x5, x6, T', rfl, hS', p2', up, done⟩ := hP'
        unfold kvR at hkv
        rw [List.getElem?_map] at hkv
        obtain ⟨k, hk, ek⟩ := Option.map_eq_some_iff.mp hkv
        cases ek
        have hkW := List.mem_of_getElem? hk
        have gt : ∀ {HQ : Hp} {TQ : Str → List Str} {b : Str}, RcS H HQ r (.frz od (.dK (kvR W dd))) W TQ dd → b ∈ W → DGet HQ r (.str b) (some (.ref (dd b))) := fun {HQ TQ b} h hb => .inl ⟨kvR W dd, .inr b, .inr ⟨od, h.d⟩, rfl, by rw [kvR_val, if_pos hb]⟩
        refine ⟨_, rfl, _, rfl, r, _, rfl, gt hS' hkW, dd k, _, rfl, hS'.ats k hkW, fun ll nll => ?_⟩
        have s1 := same_new (o := .lst ((kvW (T' k)).map fun kv => kV kv.1)) nll
        have ell : (kvW (T' k)).map (fun kv => kV kv.1) = (T' k).map V.str := by
          unfold kvW
          rw [List.map_map]
          rfl
        have hll : (upd HZ' ll (.lst ((kvW (T' k)).map fun kv => kV kv.1))) ll = some (.lst ((T' k).map V.str)) := by rw [upd_same, ell]
        have hS1 := hS'.same s1
        generalize upd HZ' ll (.lst ((kvW (T' k)).map fun kv => kV kv.1)) = HU at hS1 hll ⊢
        refine ⟨ll, rfl, ⟨_, .inl (.inl hll)⟩, ?_⟩
        refine for_it (walk_list (K := K) (a := ll) (xs := (T' k).map V.str)) (fun j σ HV => ∃ (y4 y5 y6 y3 : Option V) (T2 : Str → List Str), σ = [some (.ref l), some (.ref r), some (.str k), y3, y4, y5, y6] ∧ RcS H HV r (.frz od (.dK (kvR W dd))) W T2 dd ∧ Ph2 S W T2 ∧ (∀ a x, x ∈ T' a → x ∈ T2 a) ∧ HV ll = some (.lst ((T' k).map V.str)) ∧ ∀ b ∈ (T' k).take j, ∀ x, x ∈ T' b → x ∈ T2 k)
          ⟨_, _, _, _, T', rfl, hS1, p2', fun _ _ z => z, hll, fun b hb => by simp at hb⟩ (fun j σ HV _ z => by obtain ⟨_, _, _, _, _, _, _, _, _, z, _⟩ := z; exact .inl (.inl z)) (fun j x σ HV HV' hj hP' hY => ?_) (fun σ HV hP' => ?_)
        · obtain ⟨rfl, hx⟩ := hY
          rw [List.getElem?_map] at hx
          obtain ⟨b, hb, rfl⟩ := Option.map_eq_some_iff.mp hx
          obtain ⟨w4, w5, w6, w3, T2, rfl, hS2, p22, up2, hl2, done2⟩ := hP'
          have hbT := List.mem_of_getElem? hb
          have hbW : b ∈ W := p2'.w k b hbT
          have tk2 : (T' k).take (j + 1) = (T' k).take j ++ [b] := take_get hb
          have nlk : ll ≠ dd k := ne_of hl2 (hS2.ats k hkW) (by intro z; cases z)
          refine ⟨_, rfl, _, rfl, r, _, rfl, gt hS2 hkW, .inr (.inr (.inl ⟨rfl, .inl ⟨_, hS2.ats k hkW⟩⟩)), _, rfl, _, rfl, r, _, rfl, gt hS2 hbW, ?_⟩
          by_cases ekb : b = k
          · subst ekb
            refine .inl ⟨dd b, _, rfl, rfl, hS2.ats b hkW, _, _, _, _, T2, rfl, hS2, p22, up2, hl2, fun c hc x hx => ?_⟩
            rw [tk2] at hc
            rcases List.mem_append.mp hc with z | z
            · exact done2 c z x hx
            · rw [List.mem_singleton.mp z] at hx
              exact up2 _ _ hx
          · have nkb : dd k ≠ dd b := fun z => ekb (hS2.inj b hbW k hkW z.symm)
            have hlen : (kvW (T2 k)).length + (kvW (T2 b)).length ≤ sizeLine := by
              rw [kvW_len, kvW_len]
              have e1 := bnd (hS2.tn k) (p22.w k)
              have e2 := bnd (hS2.tn b) (p22.w b)
              exact Nat.le_of_lt (small_line (by omega))
            refine .inr ⟨dd k, dd b, _, _, rfl, rfl, nkb, hS2.ats k hkW, hS2.ats b hbW, hlen, ?_⟩
            rw [kvW_merge]
            refine ⟨_, _, _, _, _, rfl, hS2.set hkW (woA_nd _ (hS2.tn k)), p22.add (up2 k b hbT), fun a x z => ?_, by rw [upd_ne nlk]; exact hl2, fun c hc x hx => ?_⟩
            · by_cases e : a = k
              · simp only [if_pos e]
                exact (woA_mem _ _ _).mpr (.inl (e ▸ up2 a x z))
              · simp only [if_neg e]
                exact up2 a x z
            · rw [if_pos rfl]
              rw [tk2] at hc
              rcases List.mem_append.mp hc with z | z
              · exact (woA_mem _ _ _).mpr (.inl (done2 c z x hx))
              · rw [List.mem_singleton.mp z] at hx
                exact (woA_mem _ _ _).mpr (.inr (up2 _ _ hx))
        · obtain ⟨w4, w5, w6, w3, T2, rfl, hS2, p22, up2, hl2, done2⟩ := hP'
          rw [List.length_map, List.take_length] at done2
          refine ⟨_, _, _, _, _, T2, rfl, hS2, p22, fun a x z => up2 _ _ (up _ _ z), fun a ha b hab x hx => ?_⟩
          rw [take_get hk] at ha
          rcases List.mem_append.mp ha with z | z
          · exact up2 _ _ (done a z b hab x hx)
          · rw [List.mem_singleton.mp z] at hab ⊢
            exact done2 b (p2'.s _ _ hab) x (up _ _ hx)
      · obtain ⟨x2, x3, x4, x5, x6, T', rfl, hS', p2', up, done⟩ := hP'
        rw [kl, List.take_length] at done
        exact ⟨hS'.d, _, _, _, _, _, T', rfl, hS'.lk _, p2', .next pp up fun a b x hab _ hx => done a (p2'.a a b hab) b hab x hx⟩
    obtain ⟨y2', y3', y4', y5', y6', T, rfl, hT, p2, pp⟩ := hP'
    have tbl : ∀ a x, x ∈ T a ↔ WalkR S a x := fun a x => table20 (R := fun a x => x ∈ T a) hW h2s pp p2.r a x
    have rg : ∀ i, RingAt S i ↔ ∃ o g, S[i]? = some (o, some g) ∧ (g = o ∨ o ∈ T g) := ring20 (R := fun a x => x ∈ T a) tbl
    refine ⟨_, rfl, l, xs, rfl, .inl (.inl (hT.sm _ _ hl)), ?_⟩
    refine for_it (walk_enum (K := K) (a := l) (xs := xs)) (fun i σ HZ => ∃ (y2 y3 y4 y5 y6 : Option V), σ = [some (.ref l), some (.ref r), y2, y3, y4, y5, y6] ∧ RcS H HZ r (.dK (kvR W dd)) W T dd ∧ ∀ j < i, ¬ RingAt S j)
      ⟨_, _, _, _, _, rfl, hT, fun j h => absurd h (Nat.not_lt_zero _)⟩ (fun i σ HZ _ z => by obtain ⟨_, _, _, _, _, _, z, _⟩ := z; exact .inl (.inl (z.sm _ _ hl))) (fun i x σ HZ HZ' hi hP' hY => ?_) (fun σ HZ hP' => ?_)
    · obtain ⟨T1, x1, x2, rfl, nT1, rfl, e1, e2⟩ := hY
      cases Option.some.inj e1
      obtain ⟨u2, u3, u4, u5, u6, rfl, hZ, hno⟩ := hP'
      obtain ⟨⟨og, gg⟩, hq, t, rfl, ht⟩ := pairedA_at (hSt.same hZ.sm) e2
      have sT := same_new (o := .tup [.int (i : Nat), .ref t]) nT1
      have ht2 := sqT_of_same sT ht
      have hT1 : (upd HZ T1 (.tup [.int (i : Nat), .ref t])) T1 = some (.tup [.int (i : Nat), .ref t]) := upd_same
      have hZ2 := hZ.same sT
      generalize upd HZ T1 (.tup [.int (i : Nat), .ref t]) = HT at hZ2 hT1 ht2 ⊢
      refine ⟨T1, _, rfl, .inl (.inl hT1), rfl, _, _, rfl, _, _, rfl, t, _, rfl, ht2, rfl, _, _, rfl, _, _, rfl, rfl, rfl, ?_⟩
      have step : ¬ RingAt S i → ∀ j < i + 1, ¬ RingAt S j := fun h j hj => by
        by_cases e : j = i
        · rw [e]; exact h
        · exact hno j (by omega)
      cases gg with
      | none =>
        refine ⟨_, rfl, rfl, _, rfl, iteF (iteF ⟨_, _, _, _, _, rfl, hZ2, step fun ⟨o, g, e, _⟩ => ?_⟩)⟩
        rw [hq] at e
        cases e
      | some g =>
        have hgW : g ∈ W := hW og g (List.mem_of_getElem? hq)
        have fin : RingAt S i → ∀ HX, HX = HT → ∀ p, HX p = none → Q (.ref p) (upd HX p (.tup [.str "ring", .int (i : Nat)])) := fun hri HX e p np => by
          subst e
          exact q _ p (some i) (hZ2.sm.trans (same_new np)) ⟨hri, hno⟩ upd_same
        have isr : RingAt S i ↔ (g = og ∨ og ∈ T g) := by
          rw [rg]
          constructor
          · rintro ⟨o, g', e, z⟩
            rw [hq] at e
            cases e
            exact z
          · exact fun z => ⟨og, g, hq, z⟩
        refine ⟨_, rfl, rfl, _, rfl, iteT ⟨_, rfl, _, rfl, rfl, _, rfl, ite2 (fun e => ?_) (fun e => ?_)⟩⟩
        · have e := V.str.inj (of_decide_eq_true e)
          exact iteT ⟨_, rfl, (show 2 ≤ sizeLine by decide), fun p np => fin (isr.mpr (.inl e)) _ rfl p np⟩
        · have e : ¬ g = og := fun z => e (decide_eq_true (congrArg V.str z))
          refine ⟨_, rfl, _, rfl, _, rfl, r, _, rfl, get_of hZ2.d (hZ2.get hgW), dd g, _, rfl, DGet.k (k := Sum.inr og) (hZ2.ats g hgW), _, rfl, ?_⟩
          rw [kvW_val]
          by_cases hog : og ∈ T g
          · rw [if_pos hog]
            exact iteT ⟨_, rfl, (show 2 ≤ sizeLine by decide), fun p np => fin (isr.mpr (.inr hog)) _ rfl p np⟩
          · rw [if_neg hog]
            exact iteF ⟨_, _, _, _, _, rfl, hZ2, step fun z => (isr.mp z).elim e hog⟩
    · obtain ⟨u2, u3, u4, u5, u6, rfl, hZ, hno⟩ := hP'
      refine ⟨Nat.zero_le _, fun p np => q _ p none (hZ.sm.trans (same_new np)) (fun i hR => ?_) upd_same⟩
      obtain ⟨o, g, e, _⟩ := id hR
      have := (List.getElem?_eq_some_iff.mp e).1
      exact hno i (by omega) hR
end
end Bn

set_option pp.maxSteps 400
namespace Bn
open PySem PySem.Spec PyProof.Rows L2 BR GX RM GY
theorem sc_why2 : FnScope ["_law_told", "_law_caught", "e", "_law_refused"] ["_law_told"] (defScope s_l_why) := ⟨rfl, rfl, rfl, by decide +kernel, rfl, by decide +kernel, by decide +kernel⟩
section
variable {P : Program} {w : World} {K : PySem.W.Frag} {mg : Str → Option Value} {base : Heap}
/-! ### why -/
/-- what is said of the classes of refusals: CB is BadTongue, CS SpeechError, CR BadRow, CT BadTree -/
structure ExCls (K : PySem.W.Frag) (CB CS CR CT : Addr) : Prop where
  em : PySem.W.exmOne K (.ref CB) (.ref CS) = some true
  ec : ExcC K CB
  xf : XfC K CB
  no : PySem.W.findIn K (.ref CB) "why" = some none
  k1 : PySem.W.kitOne K (.ref CB) (.ref CB) = some true
  k2 : PySem.W.kitOne K (.ref CB) (.type "ValueError") = some true
  k3 : PySem.W.kitAny K (.ref CB) [.ref CR, .ref CT] = some false
def spWhy (K : PySem.W.Frag) (T : Tb) (Gs : Prop) : Sp := fun vs H Q _ => ∃ (v : V) (es : List (PyData × PyData)) (L : Tn) (N : Addr → Prop), vs = [v] ∧ Told es L ∧ Dq K H N 7 v (.dict es) ∧ L.Ok ∧ L.Gs Gs ∧ TbOk T H ∧
  ∀ H' p z, SL T H H' → RgIs (stpsM L.rs) z → H' p = some (.tup (rgV z)) → Q (.ref p) H'
theorem ok_why {f C fI CB CS CR CT : Addr} {fd fdI : FuncData} {T : Tb} {Gs : Prop} (F : Fun K "_law_why" "_law_why" s_l_why f fd) (M : Mk K C fI) (mC : mg "Tongue" = some (.ref C)) (X : ExCls K CB CS CR CT)
    (bI : Binds K fdI ["self", "told"] []) (GI : FnOk P w K mg base (L2.CX P w) 49 fI fdI ["self", "told"] (spInitX K T C CB Gs))
    (mB : mg "BadTongue" = some (.ref CB)) (mS : mg "SpeechError" = some (.ref CS)) (mR : mg "BadRow" = some (.ref CR)) (mT : mg "BadTree" = some (.ref CT)) (mi : mg "isinstance" = none) (mV : mg "ValueError" = none) :
    FnOk P w K mg base CX0 51 f fd ["_law_told"] (spWhy K T Gs) := by
  refine F.ok sc_why2 (fun vs H Q E h => ?_) (fun cdv A outer s H vs Q E hr h => ?_)
  · obtain ⟨v, es, L, N, rfl, _⟩ := h
    rfl
  · obtain ⟨v, es, L, N, rfl, hTo, hD, hL, hGs, hT, q⟩ := h
    refine ⟨_, pss_cons (ps_set (i := 1) sc_why2.nd rfl (.inl rfl) pe_non)
      (C8.pss_cut (EXS.ps_try_kp (i := 2) (c := .ref CS) (Wout := fun _ _ _ _ => False) rfl rfl sc_why2.nd rfl rfl rfl rfl ⟨by rfl, by decide, .inl mS⟩ takes0 (fun W pn xe tk _ => pss_one (ps_expr (EXS.pe_makeS M GI hr (by rfl) mC bI .nil (fun σ => passAt tk σ) (pa_cons (pv 0) pa_nil))))
          (fun a oe cls d pn _ _ => pss_one (ps_set (i := 1) sc_why2.nd rfl (.inl rfl) (pv 2))))
      (pss_cons (ps_if (pt_cmpR op_isN (pv 1) pe_non (nomark _)) (pss_one (ps_ret (pe_tup pa_nil))) pss_nil)
      (pss_cons (ps_set (i := 3) sc_why2.nd rfl (.inl rfl) (pe_and (pe_callB EXS.call_isX (by rfl) mi (by decide +kernel) (pa_cons (pv 1) (pa_cons (pe_glob (v := .ref CB) (by rfl) mB rfl) pa_nil)))
          (pe_one (pe_callB EXS.call_isX (by rfl) mi (by decide +kernel) (pa_cons (pv 1) (pa_cons (pe_bltn (v := .ty "ValueError") (by rfl) mV (by decide +kernel) rfl) pa_nil))))))
      (pss_cons (ps_if (PW.pt (pw_or (pt_not (pt_val (pv 3))) (pw_or1 (pt_val (pe_callB EXS.call_isXT (by rfl) mi (by decide +kernel) (pa_cons (pv 1) (pa_cons (pe_tup (pa_cons (pe_glob (v := .ref CR) (by rfl) mR rfl) (pa_cons (pe_glob (v := .ref CT) (by rfl) mT rfl) pa_nil))) pa_nil))))))) pss_never pss_nil)
      (pss_one (ps_ret (EXS.pe_xk (pv 1)))))))), ?_⟩
    refine ⟨fun σ' HX => SL T H HX ∧ ((σ' = [some v, some .non, none, none] ∧ ∀ i, ¬ RingAt (stpsM L.rs) i) ∨ ∃ (a d t : Addr) (i : Nat), σ' = [some v, some (.ref a), none, none] ∧ HX a = some (EXS.ExK (.ref CB) (some d) a) ∧ HX d = some (.xd [("why", .ref t)]) ∧ HX t = some (.tup [.str "ring", .int (i : Nat)]) ∧ RingAt (stpsM L.rs) i ∧ ∀ j < i, ¬ RingAt (stpsM L.rs) j), ?_, ?_⟩
    · refine ⟨_, rfl, fun x dx nx ndx nex => ?_⟩
      have sN : Same H (upd H dx (.own x)) := same_new ndx
      have nx' : (upd H dx (.own x)) x = none := by rw [upd_ne (Ne.symm nex)]; exact nx
      have sN2 : Same H (upd (upd H dx (.own x)) x (.ins C dx [])) := sN.trans (same_new nx')
      refine ⟨x, dx, v, H, es, L, N, rfl, upd_same, nx, SL.of hT sN2, hTo, hD.same sN2, hL, hGs, fun hno c H1 s1 _ _ => ⟨rfl, s1, .inl ⟨rfl, hno⟩⟩, fun i d t H1 hri hle s1 hd ht => ?_⟩
      refine ⟨true, X.em, fun _ a na => ⟨_, rfl, s1.new na, .inr ⟨a, d, t, i, rfl, upd_same, ?_, ?_, hri, hle⟩⟩, fun z => by cases z⟩
      · rw [upd_ne (ne_of_none hd na)]
        exact hd
      · rw [upd_ne (ne_of_none ht na)]
        exact ht
    rintro σ' HX ⟨sX, ⟨rfl, hno⟩ | ⟨a, d, t, i, rfl, ha, hd, ht, hri, hle⟩⟩
    · exact ⟨_, rfl, rfl, _, rfl, iteT ⟨Nat.zero_le _, fun p np => q _ p none (sX.new np) hno upd_same⟩⟩
    · refine ⟨_, rfl, rfl, _, rfl, iteF ?_⟩
      refine ⟨_, rfl, a, d, CB, _, .ref CB, .ref CB, true, rfl, ha, hd, X.ec, .own _, X.k1, true, rfl, iteT ⟨_, rfl, a, d, CB, _, .ty "ValueError", .type "ValueError", true, rfl, ha, hd, X.ec, .ty _, X.k2, ?_⟩⟩
      refine ⟨_, rfl, true, rfl, iteF ⟨_, rfl, (show 2 ≤ sizeLine by decide), fun tp ntp => ?_⟩⟩
      have sT := same_new (o := .tup [.ref CR, .ref CT]) ntp
      refine ⟨a, d, CB, tp, _, [.ref CR, .ref CT], [.ref CR, .ref CT], false, rfl, sT _ _ ha, sT _ _ hd, X.ec, upd_same, .cons (.own _) (.cons (.own _) .nil), X.k3, false, rfl, iteF ?_⟩
      exact ⟨_, rfl, a, d, CB, _, _, rfl, sT _ _ ha, sT _ _ hd, X.xf, X.no, rfl, q _ t (some i) (sX.same sT) ⟨hri, hle⟩ (sT _ _ ht)⟩
end
end Bn

set_option pp.maxSteps 400
namespace Bn
open PySem PySem.Spec PyProof.Rows L2 BR GX RM GY
theorem SL.kb {T : Tb} {H H1 H2 : Hp} {b : Addr} (s : SL T H H1) (nb : H b = none) (hb : Bx H1 b) (k : Kb b H1 H2) : SL T H H2 := by
  have hn : ∀ {x : Addr} {o : HO}, H x = some o → x ≠ b := fun e z => by rw [z, nb] at e; cases e
  obtain ⟨u1, u2, u3, eb⟩ := hb
  refine ⟨fun x y n e => k.k _ _ (hn e) (s.k _ _ n e), fun x p e => ?_, ⟨fun P hP => ?_, ?_⟩⟩
  · obtain ⟨p', e'⟩ := s.q _ _ e
    exact ⟨p', k.k _ _ (hn e) e'⟩
  · obtain ⟨ps, h1, h2⟩ := s.t.g P hP
    exact ⟨ps, k.k _ _ (ne_of h1 eb (by intro z; cases z)) h1, h2⟩
  · obtain ⟨ps, e1, e2, e3⟩ := s.t.l
    refine ⟨ps, k.k _ _ (ne_of e1 eb (by intro z; cases z)) e1, e2, fun pos cv h => ?_⟩
    obtain ⟨c, h1, h2⟩ := e3 pos cv h
    exact ⟨c, h1, k.k _ _ (ne_of h2 eb fun z => (ncL c T.q) (by rw [← z])) h2⟩
theorem Dq.putD {K : PySem.W.Frag} {H : Hp} {N : Addr → Prop} {n : Nat} {v : V} {d : PyData} {p : Addr} {kvs : List (Key × V)} {o : HO} (h : Dq K H N n v d) (e : H p = some (.dK kvs)) (na : ¬ N p) : Dq K (upd H p o) N n v d := h.keep (fun _ _ z => sqT_updD z e) (fun c o nc e => by rw [upd_ne (show c ≠ p from fun z => na (z ▸ nc))]; exact e) (fun _ _ z _ => z)
/-- the kinds' names -/
def nsA : List Str := (List.range 11).map fun i => ("k" : Str) ++ sgn "abcdefghijk" i
theorem nsA_len : nsA.length = 11 := by decide +kernel
theorem nsA_nd : nsA.Nodup := by decide +kernel
theorem nsA_nm : nsA.all nmB = true := by decide +kernel
theorem nsA_m : ("m" : Str) ∉ nsA := by decide +kernel
theorem ns20_take (m : Nat) : Ns20 (nsA.take m) := ⟨nsA_nd.sublist (List.take_sublist _ _), fun n hn => nm_of (List.all_eq_true.mp nsA_nm _ (List.mem_of_mem_take hn)), fun z => nsA_m (List.mem_of_mem_take z), by rw [List.length_take, nsA_len]; omega⟩
theorem cutV_take' (xs : List V) (k : Nat) : cutV xs none (some (k : Int)) = xs.take k := by
  unfold cutV
  rw [HT.sIx_nat, HT.sIx_none, List.drop_zero, Nat.sub_zero]
  by_cases h : k ≤ xs.length
  · rw [Nat.min_eq_left h]
  · rw [Nat.min_eq_right (by omega), List.take_of_length_le (Nat.le_refl _), List.take_of_length_le (by omega)]
theorem rgIs_one {S : List Stp} {z z' : Option Nat} (h : RgIs S z) (h' : RgIs S z') : z = z' := by
  cases z with
  | none =>
    cases z' with
    | none => rfl
    | some i => exact absurd h'.1 (h i)
  | some i =>
    cases z' with
    | none => exact absurd h.1 (h' i)
    | some j =>
      by_cases e : i = j
      · rw [e]
      · by_cases l : i < j
        · exact absurd h.1 (h'.2 i l)
        · exact absurd h'.1 (h.2 j (by omega))
def rgD : Option Nat → PyData
  | none => .tuple []
  | some i => .tuple [.str "ring", .int (i : Nat)]
theorem rg_dp {K : PySem.W.Frag} {H : Hp} {p : Addr} {z : Option Nat} (h : H p = some (.tup (rgV z))) : Dp K H (.ref p) (rgD z) := by
  cases z with
  | none => exact .tup (.inl (.inl h)) .nil
  | some i => exact .tup (.inl (.inl h)) (.cons (.str _) (.cons (.int _) .nil))
theorem rg_shaped (z : Option Nat) : SeqAt.shaped (rgD z) = true := by
  cases z with
  | none => rfl
  | some i =>
    unfold rgD SeqAt.shaped
    simp [PyData.canLay0, PyData.canLayAll0, PyData.depth, PyData.depthAll]
    decide +kernel
section
variable {P : Program} {w : World} {K : PySem.W.Frag} {mg : Str → Option Value} {base : Heap}
abbrev NRi : List Str := ["_law_box_here", "_law_names", "_law_rules", "_law_steps", "_law_kinds", "_law_told", "_law_letter", "_law_name"]
/-! ### right -/
def spRi (K : PySem.W.Frag) (T : Tb) : Sp := fun vs H Q _ => ∃ (b : Addr) (H0 : Hp), vs = [.ref b] ∧ Bx H b ∧ SL T H0 H ∧ H0 b = none ∧ ∀ H', SL T H0 H' → Q (.bl true) H'
theorem ok_ri {f fT fR fW fD : Addr} {fd fdT fdR fdW fdD : FuncData} {T : Tb} (F : Fun K "_law_right" "_law_right" s_l_right f fd)
    (kT : PySem.W.keepIn K (.ref fT) = true) (bT : Binds K fdT ["_law_box_here", "_law_many"] []) (gT : mg "_law_take" = some (.ref fT)) (GT : FnOk P w K mg base CX0 2 fT fdT ["_law_box_here", "_law_many"] spTake)
    (kR : PySem.W.keepIn K (.ref fR) = true) (bR : Binds K fdR ["_law_box_here", "_law_names"] []) (gR : mg "_law_rules_drawn" = some (.ref fR)) (GR : FnOk P w K mg base CX0 4 fR fdR ["_law_box_here", "_law_names"] (spRd K))
    (kW : PySem.W.keepIn K (.ref fW) = true) (bW : Binds K fdW ["_law_told"] []) (gW : mg "_law_why" = some (.ref fW)) (GW : FnOk P w K mg base CX0 51 fW fdW ["_law_told"] (spWhy K T False))
    (kD : PySem.W.keepIn K (.ref fD) = true) (bD : Binds K fdD ["_law_steps"] []) (gD : mg "_law_due" = some (.ref fD)) (GD : FnOk P w K mg base CX0 1 fD fdD ["_law_steps"] (spDue K))
    (ml : mg "len" = none) (mi : mg "int" = none) : FnOk P w K mg base CX0 52 f fd ["_law_box_here"] (spRi K T) := by
  refine F.ok sc_l_right (fun vs H Q E h => ?_) (fun cdv A outer s H vs Q E hr h => ?_)
  · obtain ⟨b, H0, rfl, _⟩ := h
    rfl
  · obtain ⟨b, H0, rfl, hb, s0, zb, q⟩ := h
    have hu := hu_of hr
    have hr2 : Room 2 _ := hr.mono (by decide)
    refine ⟨_, pss_cons (ps_setLc (i := 1) (own := [("_law_letter", 6)]) (g := gName 6) (tt := tYes) rfl sc_l_right.nd rfl rfl (sw_true rfl rfl rfl (by decide +kernel)) (pi_str pe_str)
          (blkOk_by (own := [("_law_letter", 6)]) (N := NRi) (sc := defScope s_l_right) (by decide +kernel)) (fun _ _ _ _ _ => pg_name (i := 6) sc_l_right.nd rfl (.inl rfl)) (fun _ _ _ _ _ => pts_nil)
          (fun _ _ _ _ _ => pe_op op_add_str pe_str (pv 6)))
      (pss_cons (ps_set (i := 1) sc_l_right.nd rfl (.inl rfl) (pe_slice sl_list (pv 1) po_none (po_some (pe_op op_add (pe_ix ix_list (pe_lst (pa_cons pe_int (pa_cons pe_int pa_nil))) (pe_callTy call_int1 (by rfl) mi (by decide +kernel) (pa_cons (pe_cmpR op_eq (pe_call GT hr2 (by rfl) gT kT bT .nil pass0 (pa_cons (pv 0) (pa_cons pe_int pa_nil))) pe_int (nomark _)) pa_nil)) (fun _ _ => rfl))
          (pe_call GT hr2 (by rfl) gT kT bT .nil pass0 (pa_cons (pv 0) (pa_cons pe_int pa_nil)))))))
      (pss_cons (ps_asg (pe_call GR (hr.mono (by decide)) (by rfl) gR kR bR .nil pass0 (pa_cons (pv 0) (pa_cons (pv 1) pa_nil))) (pg_tup rfl (pgs_cons (pg_name (i := 2) sc_l_right.nd rfl (.inl rfl)) (pgs_cons (pg_name (i := 3) sc_l_right.nd rfl (.inl rfl)) pgs_nil))))
      (pss_cons (ps_set (i := 4) sc_l_right.nd rfl (.inl rfl) (pe_op op_cat (pe_lc (own := [("_law_name", 7)]) (g := gName 7) (tt := tYes) rfl sc_l_right.nd (pi_list (pv 1))
          (blkOk_by (own := [("_law_name", 7)]) (N := NRi) (sc := defScope s_l_right) (by decide +kernel)) (fun _ _ _ _ _ => pg_name (i := 7) sc_l_right.nd rfl (.inl rfl)) (fun _ _ _ _ _ => pts_nil)
          (fun _ _ _ _ _ => pe_tup (pa_cons (pv 7) (pa_cons (pe_lst pa_nil) (pa_cons pe_bl (pa_cons pe_bl pa_nil)))))) (pe_lst (pa_cons (pe_tup (pa_cons pe_str (pa_cons (pe_lst pa_nil) (pa_cons pe_bl (pa_cons pe_bl pa_nil))))) pa_nil))))
      (pss_cons (ps_set (i := 5) sc_l_right.nd rfl (.inl rfl) (pe_disp (pps_cons pe_str (pe_lst pa_nil) (pps_cons pe_str (pv 4) (pps_cons pe_str (pe_lst pa_nil) (pps_cons pe_str (pe_lst pa_nil) (pps_cons pe_str (pe_lst pa_nil) (pps_cons pe_str (pv 2) pps_nil)))))) rfl rfl (by simp) (by decide)))
      (pss_cons (ps_dput hu (pv 5) pe_str (pe_ix ix_list (pv 1) (pe_call GT hr2 (by rfl) gT kT bT .nil pass0 (pa_cons (pv 0) (pa_cons (pe_callB call_len_seq (by rfl) ml PySem.boot_len (pa_cons (pv 1) pa_nil)) pa_nil))) (fun _ _ => rfl)) rfl)
      (pss_one (ps_ret (pe_cmpR (op_eqD hr.units) (pe_call GW (hr.mono (by decide)) (by rfl) gW kW bW .nil pass0 (pa_cons (pv 5) pa_nil)) (pe_call GD (hr.mono (by decide)) (by rfl) gD kD bD .nil pass0 (pa_cons (pv 3) pa_nil)) (nomark _))))))))), ?_⟩
    have z11 : ("abcdefghijk" : Str).cps.size = 11 := by decide +kernel
    -- the names
    refine ⟨_, rfl, fun D nD => ?_⟩
    refine lc_it (walk_str (z := "abcdefghijk")) (fun i HW => Same H HW ∧ i ≤ 11 ∧ HW D = some (.lst ((nsA.take i).map V.str))) ⟨same_new nD, Nat.zero_le _, upd_same⟩ (fun _ _ _ _ => trivial) (fun i x HW HW' hi hP' hY => ?_) (fun H1 hP' => ?_)
    · obtain ⟨rfl, c, hc, rfl⟩ := hY
      obtain ⟨sW, hi11, hDW⟩ := hP'
      have hi' : i < 11 := by have : i < ("abcdefghijk" : Str).cps.size := hi; omega
      have ec : c = ("abcdefghijk" : Str).cps.getD i 0 := by
        have := sgn_at (z := "abcdefghijk") (i := i) (by omega)
        rw [hc] at this
        exact Option.some.inj this
      have hat : nsA[i]? = some (("k" : Str) ++ sgn "abcdefghijk" i) := by
        unfold nsA
        rw [List.getElem?_map, List.getElem?_range hi']
        rfl
      refine ⟨rfl, tYes_in ⟨_, rfl, _, _, rfl, rfl, ?_, _, hDW, ?_, Same.own sW nD, by omega, ?_⟩⟩
      · have e0 : (("k" : Str) ++ (⟨#[c]⟩ : Str)).length = ("k" : Str).length + (⟨#[c]⟩ : Str).length := strLen_append _ _
        exact Nat.le_trans (Nat.le_of_eq (e0.trans (show _ = 2 from rfl))) (show 2 ≤ sizeLine by decide)
      · rw [List.length_map, List.length_take]
        exact small_line (by omega)
      · rw [upd_same, take_get hat, List.map_append, ec]
        rfl
    obtain ⟨s1, _, hD1⟩ := hP'
    rw [z11, List.take_of_length_le (Nat.le_of_eq nsA_len)] at hD1
    have hb1 := hb.same s1
    have s01 := s0.same s1
    -- how many
    refine ⟨_, rfl, (show 2 ≤ sizeLine by decide), fun tw ntw => ?_⟩
    have hb2 := hb1.same (same_new (o := .lst [.int 2, .int 7]) ntw)
    have s02 := s01.new (o := .lst [.int 2, .int 7]) ntw
    have htw : (upd H1 tw (.lst [.int 2, .int 7])) tw = some (.lst [.int 2, .int 7]) := upd_same
    have hD2 := same_new (o := .lst [.int 2, .int 7]) ntw _ _ hD1
    have ntwb : tw ≠ b := (hb1.ne ntw).symm
    have nDb : D ≠ b := (hb.ne nD).symm
    generalize upd H1 tw (.lst [.int 2, .int 7]) = H2 at hb2 s02 htw hD2 ⊢
    refine ⟨_, rfl, b, 6, rfl, hb2, by decide, by decide, fun m1 H3 hm1 k3 => ⟨rfl, .inr ⟨_, rfl, ?_⟩⟩⟩
    have s03 := s02.kb zb hb2 k3
    have htw3 := k3.lst htw ntwb
    have hD3 := k3.lst hD2 nDb
    generalize decide (V.int ((m1 : Nat) : Int) = V.int 0) = c
    obtain ⟨w0, hw0, hat0⟩ : ∃ w0 : Nat, (w0 = 2 ∨ w0 = 7) ∧ atI ([.int 2, .int 7] : List V) (if c = true then 1 else 0) = some (.int (w0 : Nat)) := by
      cases c with
      | false => exact ⟨2, .inl rfl, rfl⟩
      | true => exact ⟨7, .inr rfl, rfl⟩
    refine ⟨tw, _, _, _, rfl, rfl, .inl (.inl htw3), hat0, ?_⟩
    refine ⟨_, rfl, b, 5, rfl, k3.x, by decide, by decide, fun m2 H4 hm2 k4 => ⟨_, _, rfl, rfl, ?_⟩⟩
    have s04 := s03.kb zb k3.x k4
    have hD4 := k4.lst hD3 nDb
    refine ⟨_, rfl, D, _, rfl, .inl (.inl hD4), fun nl nnl => ?_⟩
    have eM : ((w0 : Nat) : Int) + ((m2 : Nat) : Int) = ((w0 + m2 : Nat) : Int) := by omega
    rw [eM, cutV_take', ← List.map_take]
    have hM2 : 2 ≤ w0 + m2 := by omega
    have hM11 : w0 + m2 ≤ 11 := by omega
    have Nn := ns20_take (w0 + m2)
    have lN : (nsA.take (w0 + m2)).length = w0 + m2 := by rw [List.length_take, nsA_len]; omega
    generalize nsA.take (w0 + m2) = ns at Nn lN ⊢
    have s5 := same_new (o := .lst (ns.map V.str)) nnl
    have s05 := s04.same s5
    have hb5 := k4.x.same s5
    have hn5 : (upd H4 nl (.lst (ns.map V.str))) nl = some (.lst (ns.map V.str)) := upd_same
    have nnlb : nl ≠ b := (k4.x.ne nnl).symm
    generalize upd H4 nl (.lst (ns.map V.str)) = H5 at s05 hb5 hn5 ⊢
    -- the rules
    refine ⟨_, rfl, _, rfl, b, nl, ns, rfl, hb5, nnlb, hn5, by omega, by omega, fun t rl sl xs rs H6 k6 ht6 hR6 hs6 nsl hSt6 lrs oRs => ?_⟩
    have s06 := s05.kb zb hb5 k6
    have hn6 := k6.lst hn5 nnlb
    refine ⟨t, _, rfl, .inl (.inl ht6), rfl, _, _, rfl, _, _, rfl, rfl, ?_⟩
    -- the kinds
    refine ⟨_, rfl, nl, rfl, ⟨_, .inl (.inl hn6)⟩, fun D7 nD7 => ?_⟩
    refine lc_it (walk_list (K := K) (a := nl) (xs := ns.map V.str)) (fun i HW => Same H6 HW ∧ ∃ ks, HW D7 = some (.lst ks) ∧ DqAll K HW (fun x => x ≠ b ∧ x ≠ D7) 3 ks ((ns.take i).map fun n => kdD ⟨n, [], true, false⟩)) ⟨same_new nD7, [], upd_same, .nil⟩ (fun i HW _ z => .inl (.inl (z.1 _ _ hn6))) (fun i x HW HW' hi hP' hY => ?_) (fun H7 hP' => ?_)
    · obtain ⟨rfl, hx⟩ := hY
      rw [List.getElem?_map] at hx
      obtain ⟨y, hy, rfl⟩ := Option.map_eq_some_iff.mp hx
      obtain ⟨sW, ks, hDW, hks⟩ := hP'
      refine ⟨rfl, tYes_in ⟨_, rfl, Nat.zero_le _, fun e0 ne0 => ⟨(show 4 ≤ sizeLine by decide), fun t7 nt7 => ?_⟩⟩⟩
      have u1 := same_new (o := .lst []) ne0
      have u2 := same_new (o := .tup [.str y, .ref e0, .bl true, .bl false]) nt7
      have u12 := u1.trans u2
      have he0 : (upd HW' e0 (.lst [])) e0 = some (.lst []) := upd_same
      have hD' := u12 _ _ hDW
      have ne : e0 ≠ b ∧ e0 ≠ D7 := ⟨((k6.x.same sW).ne ne0).symm, fun z => by rw [z, hDW] at ne0; cases ne0⟩
      have one : Dq K (upd (upd HW' e0 (.lst [])) t7 (.tup [.str y, .ref e0, .bl true, .bl false])) (fun x => x ≠ b ∧ x ≠ D7) 3 (.ref t7) (kdD ⟨y, [], true, false⟩) := .tup (.inl (.inl upd_same)) (show 4 ≤ 1000 by decide) (.cons (.str _) (.cons (.lst (n := 1) (u2 _ _ he0) ne (Nat.zero_le _) .nil) (.cons (.bl _) (.cons (.bl _) .nil))))
      refine ⟨_, hD', ?_, fun a o e => ?_, _, upd_same, ?_⟩
      · rw [hks.len, List.length_map, List.length_take]
        exact small_line (by omega)
      · rw [upd_ne (ne_of_none e nD7)]
        exact u12 _ _ (sW _ _ e)
      · rw [take_get hy, List.map_append]
        exact ((hks.same u12).app (.cons one .nil)).put hD' fun z => z.2 rfl
    obtain ⟨s7, ks, hD7, hks⟩ := hP'
    rw [List.length_map, List.take_length] at hks
    have s07 := s06.same s7
    refine ⟨Nat.zero_le _, fun e0 ne0 => ⟨(show 4 ≤ sizeLine by decide), fun t7 nt7 => ⟨(show 1 ≤ sizeLine by decide), fun l7 nl7 => ?_⟩⟩⟩
    have u1 := same_new (o := .lst []) ne0
    have u2 := same_new (o := .tup [.str "m", .ref e0, .bl false, .bl true]) nt7
    have u3 := same_new (o := .lst [.ref t7]) nl7
    have u23 := u2.trans u3
    have u13 := u1.trans u23
    have he0 : (upd H7 e0 (.lst [])) e0 = some (.lst []) := upd_same
    have ht7 : (upd (upd H7 e0 (.lst [])) t7 (.tup [.str "m", .ref e0, .bl false, .bl true])) t7 = some (.tup [.str "m", .ref e0, .bl false, .bl true]) := upd_same
    have one : Dq K (upd (upd (upd H7 e0 (.lst [])) t7 (.tup [.str "m", .ref e0, .bl false, .bl true])) l7 (.lst [.ref t7])) (fun x => x ≠ b) 3 (.ref t7) (kdD ⟨"m", [], false, true⟩) := .tup (.inl (.inl (u3 _ _ ht7))) (show 4 ≤ 1000 by decide) (.cons (.str _) (.cons (.lst (n := 1) (u23 _ _ he0) (((k6.x.same s7).ne ne0).symm) (Nat.zero_le _) .nil) (.cons (.bl _) (.cons (.bl _) .nil))))
    have hks := (hks.same u13).mono (N' := fun x => x ≠ b) fun _ z => z.1
    have hD8 := u13 _ _ hD7
    have hl8 : (upd (upd (upd H7 e0 (.lst [])) t7 (.tup [.str "m", .ref e0, .bl false, .bl true])) l7 (.lst [.ref t7])) l7 = some (.lst [.ref t7]) := upd_same
    have s08 := s07.same u13
    have kk8 := (k6.same s7).same u13
    generalize upd (upd (upd H7 e0 (.lst [])) t7 (.tup [.str "m", .ref e0, .bl false, .bl true])) l7 (.lst [.ref t7]) = H8 at one hks hD8 hl8 s08 kk8 u13 ⊢
    have lks : ks.length = ns.length := by rw [hks.len, List.length_map]
    refine ⟨_, _, _, _, rfl, rfl, hD8, hl8, ?_, fun kl nkl => ?_⟩
    · exact Nat.le_of_lt (small_line (by rw [lks]; show ns.length + 1 < 1000; omega))
    have s9 := same_new (o := .lst (ks ++ [.ref t7])) nkl
    have kD : Dq K (upd H8 kl (.lst (ks ++ [.ref t7]))) (fun x => x ≠ b) 4 (.ref kl) (.list ((kds20 ns).map kdD)) := by
      have e : (kds20 ns).map kdD = (ns.map fun n => kdD ⟨n, [], true, false⟩) ++ [kdD ⟨"m", [], false, true⟩] := by
        unfold kds20
        rw [List.map_append, List.map_map]
        rfl
      rw [e]
      exact .lst upd_same ((kk8.x.ne nkl).symm) (by rw [List.length_append, lks]; show ns.length + 1 ≤ 1000; omega) ((hks.app (.cons one .nil)).same s9)
    have s09 := s08.same s9
    have kk9 := kk8.same s9
    have m69 := (s7.trans u13).trans s9
    have hR9 := (hR6.same m69).mono (N' := fun x => x ≠ b) fun x z => (hb5.ne z).symm
    have hs9 := m69 _ _ hs6
    have hSt9 := hSt6.same m69
    have hn9 := m69 _ _ hn6
    clear m69
    generalize upd H8 kl (.lst (ks ++ [.ref t7])) = H9 at kD s09 kk9 hR9 hs9 hSt9 hn9 ⊢
    -- the told dict
    intro p np
    have npb : p ≠ b := (kk9.x.ne np).symm
    have zp : H0 p = none := s09.free np
    have p0 := same_new (o := .dK []) np
    have hp0 : (upd H9 p (.dK [])) p = some (.dK []) := upd_same
    have kD := (kD.off np).same p0
    have rD := (hR9.off np).same p0
    have hs9 := p0 _ _ hs9
    have hSt9 := hSt9.same p0
    have hn9 := p0 _ _ hn9
    have s010 := s09.same p0
    have kk10 := kk9.same p0
    generalize upd H9 p (.dK []) = HA at hp0 kD rD hs9 hSt9 hn9 s010 kk10 ⊢
    refine ⟨Nat.zero_le _, fun l1 nl1 => ⟨_, rfl, Nat.zero_le _, fun l2 nl2 => ⟨Nat.zero_le _, fun l3 nl3 => ⟨Nat.zero_le _, fun l4 nl4 => ?_⟩⟩⟩⟩
    have q1 := same_new (o := .lst []) nl1
    have q2 := same_new (o := .lst []) nl2
    have q3 := same_new (o := .lst []) nl3
    have q4 := same_new (o := .lst []) nl4
    have q34 := q3.trans q4
    have q24 := q2.trans q34
    have q14 := q1.trans q24
    have mt : ∀ {x : Addr} {HX HY : Hp}, HX x = none → HX p = some (.dK []) → Bx HX b → Same (upd HX x (.lst [])) HY → Dq K HY (fun x => x ≠ b ∧ x ≠ p) 6 (.ref x) (.list []) := fun n e hx s => .lst (s _ _ upd_same) ⟨(hx.ne n).symm, fun z => by rw [z, e] at n; cases n⟩ (Nat.zero_le _) .nil
    have d1 := mt nl1 hp0 kk10.x q24
    have d2 := mt nl2 (q1 _ _ hp0) (kk10.same q1).x q34
    have d3 := mt nl3 ((q1.trans q2) _ _ hp0) (kk10.same (q1.trans q2)).x q4
    have d4 := mt nl4 ((q1.trans (q2.trans q3)) _ _ hp0) (kk10.same (q1.trans (q2.trans q3))).x (fun _ _ e => e)
    have kD := kD.same q14
    have rD := rD.same q14
    have hs9 := q14 _ _ hs9
    have hSt9 := hSt9.same q14
    have hn9 := q14 _ _ hn9
    have hp1 := q14 _ _ hp0
    have s011 := s010.same q14
    have kk11 := kk10.same q14
    generalize upd (upd (upd (upd HA l1 (.lst [])) l2 (.lst [])) l3 (.lst [])) l4 (.lst []) = HB at d1 d2 d3 d4 kD rD hs9 hSt9 hn9 hp1 s011 kk11 ⊢
    refine ⟨_, rfl, hp1, [(.inr "features", .ref l1), (.inr "kinds", .ref kl), (.inr "seams", .ref l2), (.inr "stems", .ref l3), (.inr "endings", .ref l4), (.inr "rules", .ref rl)], rfl, (show 6 ≤ 15 by decide), ?_⟩
    have nNp : ∀ {A : Prop}, ¬ (A ∧ p ≠ p) := fun z => z.2 rfl
    have hp2 : (upd HB p (.dK (mergeK [] [(.inr "features", .ref l1), (.inr "kinds", .ref kl), (.inr "seams", .ref l2), (.inr "stems", .ref l3), (.inr "endings", .ref l4), (.inr "rules", .ref rl)]))) p = some (.dK [(.inr "features", .ref l1), (.inr "kinds", .ref kl), (.inr "seams", .ref l2), (.inr "stems", .ref l3), (.inr "endings", .ref l4), (.inr "rules", .ref rl)]) := upd_same
    have g : ∀ {n : Nat} {v : V} {d : PyData}, Dq K HB (fun x => x ≠ b ∧ x ≠ p) n v d → Dq K (upd HB p (.dK (mergeK [] [(.inr "features", .ref l1), (.inr "kinds", .ref kl), (.inr "seams", .ref l2), (.inr "stems", .ref l3), (.inr "endings", .ref l4), (.inr "rules", .ref rl)]))) (fun x => x ≠ b ∧ x ≠ p) n v d := fun h => h.putD hp1 nNp
    have d1 := g d1
    have d2 := g d2
    have d3 := g d3
    have d4 := g d4
    have kD := g kD
    have rD := g rD
    have s012 := s011.ownD (o := .dK (mergeK [] [(.inr "features", .ref l1), (.inr "kinds", .ref kl), (.inr "seams", .ref l2), (.inr "stems", .ref l3), (.inr "endings", .ref l4), (.inr "rules", .ref rl)])) zp hp1
    have hs9 : (upd HB p (.dK (mergeK [] [(.inr "features", .ref l1), (.inr "kinds", .ref kl), (.inr "seams", .ref l2), (.inr "stems", .ref l3), (.inr "endings", .ref l4), (.inr "rules", .ref rl)]))) sl = some (.lst xs) := by rw [upd_ne (ne_of hs9 hp1 (by intro z; cases z))]; exact hs9
    have hn9 : (upd HB p (.dK (mergeK [] [(.inr "features", .ref l1), (.inr "kinds", .ref kl), (.inr "seams", .ref l2), (.inr "stems", .ref l3), (.inr "endings", .ref l4), (.inr "rules", .ref rl)]))) nl = some (.lst (ns.map V.str)) := by rw [upd_ne (ne_of hn9 hp1 (by intro z; cases z))]; exact hn9
    have updSt : ∀ {HX : Hp} {kvs : List (Key × V)} {o : HO}, StpsAt K HX xs (stpsM rs) → HX p = some (.dK kvs) → StpsAt K (upd HX p o) xs (stpsM rs) := fun h e => pairedA_mono h fun _ _ ⟨t, e2, z⟩ => ⟨t, e2, sqT_updD z e⟩
    have hSt9 := updSt (o := .dK (mergeK [] [(.inr "features", .ref l1), (.inr "kinds", .ref kl), (.inr "seams", .ref l2), (.inr "stems", .ref l3), (.inr "endings", .ref l4), (.inr "rules", .ref rl)])) hSt9 hp1
    have hb12 : Bx (upd HB p (.dK (mergeK [] [(.inr "features", .ref l1), (.inr "kinds", .ref kl), (.inr "seams", .ref l2), (.inr "stems", .ref l3), (.inr "endings", .ref l4), (.inr "rules", .ref rl)]))) b := by
      obtain ⟨x1, x2, x3, e⟩ := kk11.x
      exact ⟨x1, x2, x3, by rw [upd_ne npb.symm]; exact e⟩
    generalize upd HB p (.dK (mergeK [] [(.inr "features", .ref l1), (.inr "kinds", .ref kl), (.inr "seams", .ref l2), (.inr "stems", .ref l3), (.inr "endings", .ref l4), (.inr "rules", .ref rl)])) = HC at d1 d2 d3 d4 kD rD hs9 hSt9 hn9 hp2 s012 hb12 ⊢
    -- the start
    refine ⟨_, rfl, _, rfl, _, rfl, nl, _, rfl, .inl (.inl (.inl hn9)), b, _, rfl, hb12, by rw [List.length_map]; omega, by rw [List.length_map]; omega, fun m9 HD hm9 k9 => ?_⟩
    rw [List.length_map] at hm9
    have hm9' : m9 < ns.length := by omega
    have nslb : sl ≠ b := (hb5.ne nsl).symm
    have hn9 := k9.lst hn9 nnlb
    refine ⟨nl, _, _, _, rfl, rfl, .inl (.inl hn9), atI_nat (str_ix hm9'), ?_⟩
    have mst : ns[m9] ∈ ns := List.getElem_mem _
    generalize ns[m9] = st at mst ⊢
    have nNb : ¬ (b ≠ b ∧ b ≠ p) := fun z => z.1 rfl
    have hp3 := k9.k _ _ npb hp2
    have hs9 := k9.lst hs9 nslb
    have hSt9 := hSt9.kb hb12 k9
    have s013 := s012.kb zb hb12 k9
    have d1 := d1.kb hb12 k9 nNb
    have d2 := d2.kb hb12 k9 nNb
    have d3 := d3.kb hb12 k9 nNb
    have d4 := d4.kb hb12 k9 nNb
    have kD := kD.kb hb12 k9 nNb
    have rD := rD.kb hb12 k9 nNb
    refine ⟨_, rfl, p, _, rfl, DPut.k (k := Sum.inr "start") hp3 (show 6 < sizeLine by decide), ?_⟩
    have g : ∀ {n : Nat} {v : V} {d : PyData}, Dq K HD (fun x => x ≠ b ∧ x ≠ p) n v d → Dq K (upd HD p (.dK (putK [(.inr "features", .ref l1), (.inr "kinds", .ref kl), (.inr "seams", .ref l2), (.inr "stems", .ref l3), (.inr "endings", .ref l4), (.inr "rules", .ref rl)] (Sum.inr "start") (.str st)))) (fun x => x ≠ b ∧ x ≠ p) n v d := fun h => h.putD hp3 nNp
    have tD : Dq K (upd HD p (.dK (putK [(.inr "features", .ref l1), (.inr "kinds", .ref kl), (.inr "seams", .ref l2), (.inr "stems", .ref l3), (.inr "endings", .ref l4), (.inr "rules", .ref rl)] (Sum.inr "start") (.str st)))) (fun x => x ≠ b) 7 (.ref p) (.dict (es20 ns rs st)) :=
      .dic (kvs := [(.inr "features", .ref l1), (.inr "kinds", .ref kl), (.inr "seams", .ref l2), (.inr "stems", .ref l3), (.inr "endings", .ref l4), (.inr "rules", .ref rl), (.inr "start", .str st)]) upd_same npb (show 7 ≤ 1000 by decide) (by show ([.inr "features", .inr "kinds", .inr "seams", .inr "stems", .inr "endings", .inr "rules", .inr "start"] : List Key).Nodup; decide +kernel)
        (.cons (g d1) (.cons (g (kD.up (by decide))) (.cons (g d2) (.cons (g d3) (.cons (g d4) (.cons (g rD) (.cons (.str _) .nil)))))))
    have s014 := s013.ownD (o := .dK (putK [(.inr "features", .ref l1), (.inr "kinds", .ref kl), (.inr "seams", .ref l2), (.inr "stems", .ref l3), (.inr "endings", .ref l4), (.inr "rules", .ref rl)] (Sum.inr "start") (.str st))) zp hp3
    have hs9 : (upd HD p (.dK (putK [(.inr "features", .ref l1), (.inr "kinds", .ref kl), (.inr "seams", .ref l2), (.inr "stems", .ref l3), (.inr "endings", .ref l4), (.inr "rules", .ref rl)] (Sum.inr "start") (.str st)))) sl = some (.lst xs) := by rw [upd_ne (ne_of hs9 hp3 (by intro z; cases z))]; exact hs9
    have hSt9 := updSt (o := .dK (putK [(.inr "features", .ref l1), (.inr "kinds", .ref kl), (.inr "seams", .ref l2), (.inr "stems", .ref l3), (.inr "endings", .ref l4), (.inr "rules", .ref rl)] (Sum.inr "start") (.str st))) hSt9 hp3
    generalize upd HD p (.dK (putK [(.inr "features", .ref l1), (.inr "kinds", .ref kl), (.inr "seams", .ref l2), (.inr "stems", .ref l3), (.inr "endings", .ref l4), (.inr "rules", .ref rl)] (Sum.inr "start") (.str st))) = HE at tD s014 hs9 hSt9 ⊢
    -- asked
    have rn : (rs.map (·.n)).Nodup := by rw [oRs.nm]; exact rnm_take lrs
    refine ⟨_, rfl, .ref p, es20 ns rs st, t20 ns rs st, _, rfl, told20 ns rs st, tD, ok20 Nn mst lrs rn oRs.ok, gs20 oRs.gs, s014.t, fun HF p1 z1 sF hz1 hp1' => ?_⟩
    refine ⟨_, rfl, sl, xs, stpsM rs, rfl, sF.k _ _ nt_lst hs9, hSt9.sl sF, by rw [show (stpsM rs).length = rs.length from List.length_map ..]; exact lrs, fun HG p2 z2 sG hz2 hp2' => ?_⟩
    have ez : z2 = z1 := rgIs_one hz2 hz1
    subst ez
    refine ⟨_, _, rg_dp (sG _ _ hp1'), rg_dp hp2', rg_shaped z2, rg_shaped z2, ?_⟩
    rw [SeqAt.eqv_refl _ (SeqAt.canLay_of_shaped (rg_shaped z2))]
    exact q _ ((s014.trans sF).same sG)
end
end Bn

set_option pp.maxSteps 400
namespace Bn
open PySem PySem.Spec PyProof.Rows L2 BR GX RM GY
section
variable {P : Program} {w : World} {K : PySem.W.Frag} {mg : Str → Option Value} {base : Heap}
theorem SL.seqL {T : Tb} {K : PySem.W.Frag} {H H' : Hp} {a : Addr} {xs : List V} (s : SL T H H') (h : SqL K H a xs) : SqL K H' a xs := by
  rcases h with (h | ⟨o, h⟩) | h
  · exact .inl (.inl (s.k _ _ nt_lst h))
  · exact .inl (.inr ⟨o, s.k _ _ nt_frz h⟩)
  · exact .inr h
def spLaw (K : PySem.W.Frag) (T : Tb) : Sp := fun vs H Q _ => ∃ (a : Addr) (ns : List Int), vs = [.ref a] ∧ SqL K H a (ns.map V.int) ∧ ns.length ≤ 63 ∧ TbOk T H ∧ ∀ H', Q (.bl true) H'
theorem ok_law {f fB fR : Addr} {fd fdB fdR : FuncData} {T : Tb} (F : Fun K "law" "law" s_law f fd)
    (kB : PySem.W.keepIn K (.ref fB) = true) (bB : Binds K fdB ["_law_script", "_law_k"] []) (gB : mg "_law_box" = some (.ref fB)) (GB : FnOk P w K mg base CX0 2 fB fdB ["_law_script", "_law_k"] (spBox K))
    (kR : PySem.W.keepIn K (.ref fR) = true) (bR : Binds K fdR ["_law_box_here"] []) (gR : mg "_law_right" = some (.ref fR)) (GR : FnOk P w K mg base CX0 52 fR fdR ["_law_box_here"] (spRi K T))
    (mr : mg "range" = none) (mmn : mg "min" = none) (mmx : mg "max" = none) (ml : mg "len" = none) : FnOk P w K mg base CX0 53 f fd ["_law_script"] (spLaw K T) := by
  refine F.ok sc_law (fun vs H Q E h => ?_) (fun cdv A outer s H vs Q E hr h => ?_)
  · obtain ⟨a, ns, rfl, _⟩ := h
    rfl
  · obtain ⟨a, ns, rfl, hS, hl, hT, q⟩ := h
    refine ⟨_, pss_cons (ps_for PassesOwn.never rfl (pi_range1 (by rfl) mr (pa_cons (pe_callB (call_max2 rfl) (by rfl) mmx (by decide +kernel) (pa_cons pe_int (pa_cons (pe_callB (call_min2 rfl) (by rfl) mmn (by decide +kernel) (pa_cons (pe_callB call_len_seq (by rfl) ml PySem.boot_len (pa_cons (pv 0) pa_nil)) (pa_cons pe_int pa_nil))) pa_nil))) pa_nil)) (pg_name (i := 1) sc_law.nd rfl (.inl rfl))
        (pss_one (ps_if (pt_not (pt_val (pe_call GR hr (by rfl) gR kR bR .nil pass0 (pa_cons (pe_call GB (hr.mono (by decide)) (by rfl) gB kB bB .nil pass0 (pa_cons (pv 0) (pa_cons (pv 1) pa_nil))) pa_nil)))) (pss_one (ps_ret pe_bl)) pss_nil)))
      (pss_one (ps_ret pe_bl)), ?_⟩
    refine ⟨_, rfl, a, _, rfl, .inl hS, _, _, rfl, _, _, rfl, ?_⟩
    rw [List.length_map]
    have hR : ∃ R : Nat, R ≤ 24 ∧ (if (if (24 : Int) < ((ns.length : Nat) : Int) then 24 else ((ns.length : Nat) : Int)) > 4 then (if (24 : Int) < ((ns.length : Nat) : Int) then 24 else ((ns.length : Nat) : Int)) else 4) = ((R : Nat) : Int) := by
      by_cases h1 : (24 : Int) < ((ns.length : Nat) : Int)
      · exact ⟨24, by decide, by rw [if_pos h1]; rfl⟩
      · rw [if_neg h1]
        by_cases h2 : ((ns.length : Nat) : Int) > 4
        · exact ⟨ns.length, by omega, by rw [if_pos h2]⟩
        · exact ⟨4, by decide, by rw [if_neg h2]; rfl⟩
    obtain ⟨R, R24, eR⟩ := hR
    rw [eR]
    refine ⟨_, rfl, by omega, by omega, ?_⟩
    rw [Int.toNat_natCast]
    refine for_it (walk_range (lo := 0) (n := R)) (fun i σ HY => (∃ y1 : Option V, σ = [some (.ref a), y1]) ∧ SL T H HY) ⟨⟨_, rfl⟩, SL.refl hT⟩ (fun _ _ _ _ _ => trivial) (fun i x σ HY HY' hi hP' hY => ?_) (fun σ HY hP' => q _)
    obtain ⟨rfl, rfl⟩ := hY
    obtain ⟨⟨y1, rfl⟩, sY⟩ := hP'
    refine ⟨_, rfl, _, rfl, a, ns, i, congrArg (fun z => [V.ref a, V.int z]) (Int.zero_add _), sY.seqL hS, fun b HB nb sb hb => ?_⟩
    refine ⟨b, HY', rfl, hb, SL.of sY.t sb, nb, fun H' s' => ⟨true, rfl, iteF ⟨⟨_, rfl⟩, sY.trans s'⟩⟩⟩
end
end Bn

namespace Bn
open PySem PySem.Spec PyProof.Rows L2 BR GX RM GY PySem.W
abbrev s_bt : Stmt := inClass (topS 2) 0
section
variable {P : Program} {w : World} {K : PySem.W.Frag} {mg : Str → Option Value} {base : Heap}
theorem ok_groupNo {f : Addr} {fd : FuncData} {T : Tb} {k : Nat} (F : Fun K "is_group" "is_group" s_is_group f fd) : FnOk P w K mg base CX0 (k + 1) f fd ["group", "owns"] (spIsGroup K T False) := by
  refine F.ok sc_is_group (fun vs H Q E h => ?_) (fun cdv A outer s H vs Q E hr h => ?_)
  · obtain ⟨g, ow, xs, ls, gr, owns, rfl, _⟩ := h
    rfl
  · obtain ⟨g, ow, xs, ls, gr, owns, rfl, _, _, _, _, _, z, _⟩ := h
    exact z.elim
theorem ok_inGroupNo {f : Addr} {fd : FuncData} {T : Tb} {k : Nat} (F : Fun K "in_group_with_part" "in_group_with_part" s_in_group_with_part f fd) : FnOk P w K mg base CX0 (k + 1) f fd ["feature", "agrees"] (spInGroup K T False) := by
  refine F.ok sc_in_group_with_part (fun vs H Q E h => ?_) (fun cdv A outer s H vs Q E hr h => ?_)
  · obtain ⟨gl, gs, gr, f, rfl, _⟩ := h
    rfl
  · obtain ⟨gl, gs, gr, f, rfl, _, _, z, _⟩ := h
    exact z.elim
end
/-! ### tables: where they stand in the written part -/
def tabPtr (K : PySem.W.Frag) (cd : Value) : Option Addr := match cd with
  | .ref c => (match K.lookup c with
      | some ⟨_, _, .fields vs, _⟩ => (match vs.toList.drop 11 with | .ref P :: _ => some P | _ => none)
      | _ => none)
  | _ => none
theorem tabOfP {q : Program} {K : PySem.W.Frag} {mg : Str → Option Value} {h : Heap} {x : Str} {f : Addr} {params : Arguments} {body : List Stmt} {scope : Scope} {dV kV doc pm cd ct oc : Value} {an od : Option Addr} {osl : Array (Option Value)} {qual name : Str}
    (X : K.In h) (T : TabsTop q mg h) (hx : ((recsOf q).any fun e => e.name == x) = true) (hm : mg x = some (.ref f)) (lk : K.lookup f = some ⟨oc, od, .func (PySem.W.fnOf name qual params body scope dV kV doc pm an cd ct), osl⟩) (ht : tabFree K cd = true) :
    ∃ c P, TabOf K cd h c P ∧ tabPtr K cd = some P := by
  obtain ⟨dL, hmem, hn1⟩ := List.any_eq_true.mp hx
  have hn2 : dL.name = x := beq_iff_eq.mp hn1
  obtain ⟨a', o', fd', c', P', h1, h2, h3, h4, h5, h6⟩ := T dL hmem
  rw [hn2, hm] at h1
  cases h1
  have g1 := X _ _ lk
  rw [g1] at h2
  cases h2
  have h3' : Data.func (PySem.W.fnOf name qual params body scope dV kV doc pm an cd ct) = .func fd' := h3
  cases h3'
  have h4' : cd = .ref c' := h4
  subst h4'
  have key : K.lookup P' = none ∧ tabPtr K (.ref c') = some P' := by
    obtain ⟨⟨oc', vc, e1, _, e3, e4⟩, _⟩ := id h6
    unfold tabFree at ht
    dsimp only at ht
    split at ht
    · rename_i vs sl hk
      have g2 := X _ _ hk
      rw [g2] at e1
      cases e1
      have e3' : Data.fields vs = .fields vc := e3
      cases e3'
      split at ht
      · rename_i P2 r hd
        have e5 : vc.toList[11]? = some (.ref P2) := by
          have : (vc.toList.drop 11)[0]? = some (.ref P2) := by rw [hd]; rfl
          rw [List.getElem?_drop] at this
          exact this
        rw [Array.getElem?_toList, e4] at e5
        cases e5
        refine ⟨Option.isNone_iff_eq_none.mp ht, ?_⟩
        unfold tabPtr
        dsimp only
        rw [hk]
        dsimp only
        rw [hd]
      · cases ht
    · cases ht
  exact ⟨c', P', ⟨rfl, h6.2, key.1, .of h5 h6⟩, key.2⟩

theorem all_mk {q : Program} {l : PySem.W.OpenLaw} {w : World} {K : PySem.W.Frag} {h : Heap} {mg : Str → Option Value} {fa CC f1 f2 f3 f4 f5 f6 f7 f8 f9 f10 f11 f12 f13 f14 f15 f16 f17 f18 f19 f20 f21 f22 f23 f24 f25 f26 f27 f28 f29 f30 f31 f32 f33 f34 f35 f36 : Addr} (X : K.In h) (G : h.Ns mainGlobals mg) (hfa : mg "law" = some (.ref fa)) (T : TabsTop q mg h)
    {od1 an1 od2 an2 od3 an3 od4 an4 od5 an5 od6 an6 od7 an7 od8 an8 od9 an9 od10 an10 od11 an11 od12 an12 od13 an13 od14 an14 od15 an15 od16 an16 od17 an17 od18 an18 od19 an19 od20 an20 od21 an21 od22 an22 od23 an23 od24 an24 od25 an25 od26 an26 od27 an27 od28 an28 od29 an29 od30 an30 od31 an31 od32 an32 od33 an33 od34 an34 od35 an35 od36 an36 : Option Addr} {sl1 sl2 sl3 sl4 sl5 sl6 sl7 sl8 sl9 sl10 sl11 sl12 sl13 sl14 sl15 sl16 sl17 sl18 sl19 sl20 sl21 sl22 sl23 sl24 sl25 sl26 sl27 sl28 sl29 sl30 sl31 sl32 sl33 sl34 sl35 sl36 : Array (Option Value)} {oc1 kV1 dc1 pm1 cd1 ct1 oc2 kV2 dc2 pm2 cd2 ct2 oc3 kV3 dc3 pm3 cd3 ct3 oc4 kV4 dc4 pm4 cd4 ct4 oc5 kV5 dc5 pm5 cd5 ct5 oc6 kV6 dc6 pm6 cd6 ct6 oc7 kV7 dc7 pm7 cd7 ct7 oc8 kV8 dc8 pm8 cd8 ct8 oc9 kV9 dc9 pm9 cd9 ct9 oc10 kV10 dc10 pm10 cd10 ct10 oc11 kV11 dc11 pm11 cd11 ct11 oc12 kV12 dc12 pm12 cd12 ct12 oc13 kV13 dc13 pm13 cd13 ct13 oc14 kV14 dc14 pm14 cd14 ct14 oc15 kV15 dc15 pm15 cd15 ct15 oc16 kV16 dc16 pm16 cd16 ct16 oc17 kV17 dc17 pm17 cd17 ct17 oc18 kV18 dc18 pm18 cd18 ct18 oc19 kV19 dc19 pm19 cd19 ct19 oc20 kV20 dc20 pm20 cd20 ct20 oc21 kV21 dc21 pm21 cd21 ct21 oc22 kV22 dc22 pm22 cd22 ct22 oc23 kV23 dc23 pm23 cd23 ct23 oc24 kV24 dc24 pm24 cd24 ct24 oc25 kV25 dc25 pm25 cd25 ct25 oc26 kV26 dc26 pm26 cd26 ct26 oc27 kV27 dc27 pm27 cd27 ct27 oc28 kV28 dc28 pm28 cd28 ct28 oc29 kV29 dc29 pm29 cd29 ct29 oc30 kV30 dc30 pm30 cd30 ct30 oc31 kV31 dc31 pm31 cd31 ct31 oc32 kV32 dc32 pm32 cd32 ct32 oc33 kV33 dc33 pm33 cd33 ct33 oc34 kV34 dc34 pm34 cd34 ct34 oc35 kV35 dc35 pm35 cd35 ct35 oc36 kV36 dc36 pm36 cd36 ct36 : Value} {tk1 tk2 tk3 tk4 tk5 tk6 tk7 : Tok}
    (a1 : PySem.W.nsIn K mainGlobals "places_of" = some (some (.ref f1))) (l1 : K.lookup f1 = some ⟨oc1, od1, .func (PySem.W.fnOf "places_of" "places_of" (defArgs s_places_of) (defBody s_places_of) (defScope s_places_of) .none kV1 dc1 pm1 an1 cd1 ct1), sl1⟩) (c1 : PySem.W.codeIn K cd1 "places_of" = true) (k1 : PySem.W.keepIn K (.ref f1) = true)
    (a2 : PySem.W.nsIn K mainGlobals "is_text" = some (some (.ref f2))) (l2 : K.lookup f2 = some ⟨oc2, od2, .func (PySem.W.fnOf "is_text" "is_text" (defArgs s_is_text) (defBody s_is_text) (defScope s_is_text) .none kV2 dc2 pm2 an2 cd2 ct2), sl2⟩) (c2 : PySem.W.codeIn K cd2 "is_text" = true) (k2 : PySem.W.keepIn K (.ref f2) = true)
    (a3 : PySem.W.nsIn K mainGlobals "is_name" = some (some (.ref f3))) (l3 : K.lookup f3 = some ⟨oc3, od3, .func (PySem.W.fnOf "is_name" "is_name" (defArgs s_is_name) (defBody s_is_name) (defScope s_is_name) .none kV3 dc3 pm3 an3 cd3 ct3), sl3⟩) (c3 : PySem.W.codeIn K cd3 "is_name" = true) (k3 : PySem.W.keepIn K (.ref f3) = true)
    (a4 : PySem.W.nsIn K mainGlobals "is_rank" = some (some (.ref f4))) (l4 : K.lookup f4 = some ⟨oc4, od4, .func (PySem.W.fnOf "is_rank" "is_rank" (defArgs s_is_rank) (defBody s_is_rank) (defScope s_is_rank) .none kV4 dc4 pm4 an4 cd4 ct4), sl4⟩) (c4 : PySem.W.codeIn K cd4 "is_rank" = true) (k4 : PySem.W.keepIn K (.ref f4) = true)
    (a5 : PySem.W.nsIn K mainGlobals "are_unlike" = some (some (.ref f5))) (l5 : K.lookup f5 = some ⟨oc5, od5, .func (PySem.W.fnOf "are_unlike" "are_unlike" (defArgs s_are_unlike) (defBody s_are_unlike) (defScope s_are_unlike) .none kV5 dc5 pm5 an5 cd5 ct5), sl5⟩) (c5 : PySem.W.codeIn K cd5 "are_unlike" = true) (k5 : PySem.W.keepIn K (.ref f5) = true)
    (a6 : PySem.W.nsIn K mainGlobals "is_feature" = some (some (.ref f6))) (l6 : K.lookup f6 = some ⟨oc6, od6, .func (PySem.W.fnOf "is_feature" "is_feature" (defArgs s_is_feature) (defBody s_is_feature) (defScope s_is_feature) .none kV6 dc6 pm6 an6 cd6 ct6), sl6⟩) (c6 : PySem.W.codeIn K cd6 "is_feature" = true) (k6 : PySem.W.keepIn K (.ref f6) = true)
    (a7 : PySem.W.nsIn K mainGlobals "is_kind" = some (some (.ref f7))) (l7 : K.lookup f7 = some ⟨oc7, od7, .func (PySem.W.fnOf "is_kind" "is_kind" (defArgs s_is_kind) (defBody s_is_kind) (defScope s_is_kind) .none kV7 dc7 pm7 an7 cd7 ct7), sl7⟩) (c7 : PySem.W.codeIn K cd7 "is_kind" = true) (k7 : PySem.W.keepIn K (.ref f7) = true)
    (a8 : PySem.W.nsIn K mainGlobals "is_seam" = some (some (.ref f8))) (l8 : K.lookup f8 = some ⟨oc8, od8, .func (PySem.W.fnOf "is_seam" "is_seam" (defArgs s_is_seam) (defBody s_is_seam) (defScope s_is_seam) .none kV8 dc8 pm8 an8 cd8 ct8), sl8⟩) (c8 : PySem.W.codeIn K cd8 "is_seam" = true) (k8 : PySem.W.keepIn K (.ref f8) = true)
    (a9 : PySem.W.nsIn K mainGlobals "are_marks" = some (some (.ref f9))) (l9 : K.lookup f9 = some ⟨oc9, od9, .func (PySem.W.fnOf "are_marks" "are_marks" (defArgs s_are_marks) (defBody s_are_marks) (defScope s_are_marks) .none kV9 dc9 pm9 an9 cd9 ct9), sl9⟩) (c9 : PySem.W.codeIn K cd9 "are_marks" = true) (k9 : PySem.W.keepIn K (.ref f9) = true)
    (a10 : PySem.W.nsIn K mainGlobals "is_stem" = some (some (.ref f10))) (l10 : K.lookup f10 = some ⟨oc10, od10, .func (PySem.W.fnOf "is_stem" "is_stem" (defArgs s_is_stem) (defBody s_is_stem) (defScope s_is_stem) .none kV10 dc10 pm10 an10 cd10 ct10), sl10⟩) (c10 : PySem.W.codeIn K cd10 "is_stem" = true) (k10 : PySem.W.keepIn K (.ref f10) = true)
    (a11 : PySem.W.nsIn K mainGlobals "is_ending" = some (some (.ref f11))) (l11 : K.lookup f11 = some ⟨oc11, od11, .func (PySem.W.fnOf "is_ending" "is_ending" (defArgs s_is_ending) (defBody s_is_ending) (defScope s_is_ending) .none kV11 dc11 pm11 an11 cd11 ct11), sl11⟩) (c11 : PySem.W.codeIn K cd11 "is_ending" = true) (k11 : PySem.W.keepIn K (.ref f11) = true)
    (a12 : PySem.W.nsIn K mainGlobals "is_bundle" = some (some (.ref f12))) (l12 : K.lookup f12 = some ⟨oc12, od12, .func (PySem.W.fnOf "is_bundle" "is_bundle" (defArgs s_is_bundle) (defBody s_is_bundle) (defScope s_is_bundle) .none kV12 dc12 pm12 an12 cd12 ct12), sl12⟩) (c12 : PySem.W.codeIn K cd12 "is_bundle" = true) (k12 : PySem.W.keepIn K (.ref f12) = true)
    (a13 : PySem.W.nsIn K mainGlobals "is_part" = some (some (.ref f13))) (l13 : K.lookup f13 = some ⟨oc13, od13, .func (PySem.W.fnOf "is_part" "is_part" (defArgs s_is_part) (defBody s_is_part) (defScope s_is_part) .none kV13 dc13 pm13 an13 cd13 ct13), sl13⟩) (c13 : PySem.W.codeIn K cd13 "is_part" = true) (k13 : PySem.W.keepIn K (.ref f13) = true)
    (a14 : PySem.W.nsIn K mainGlobals "have_roles" = some (some (.ref f14))) (l14 : K.lookup f14 = some ⟨oc14, od14, .func (PySem.W.fnOf "have_roles" "have_roles" (defArgs s_have_roles) (defBody s_have_roles) (defScope s_have_roles) .none kV14 dc14 pm14 an14 cd14 ct14), sl14⟩) (c14 : PySem.W.codeIn K cd14 "have_roles" = true) (k14 : PySem.W.keepIn K (.ref f14) = true)
    (a15 : PySem.W.nsIn K mainGlobals "is_group" = some (some (.ref f15))) (l15 : K.lookup f15 = some ⟨oc15, od15, .func (PySem.W.fnOf "is_group" "is_group" (defArgs s_is_group) (defBody s_is_group) (defScope s_is_group) .none kV15 dc15 pm15 an15 cd15 ct15), sl15⟩) (c15 : PySem.W.codeIn K cd15 "is_group" = true) (k15 : PySem.W.keepIn K (.ref f15) = true)
    (a16 : PySem.W.nsIn K mainGlobals "in_group_with_part" = some (some (.ref f16))) (l16 : K.lookup f16 = some ⟨oc16, od16, .func (PySem.W.fnOf "in_group_with_part" "in_group_with_part" (defArgs s_in_group_with_part) (defBody s_in_group_with_part) (defScope s_in_group_with_part) .none kV16 dc16 pm16 an16 cd16 ct16), sl16⟩) (c16 : PySem.W.codeIn K cd16 "in_group_with_part" = true) (k16 : PySem.W.keepIn K (.ref f16) = true)
    (a17 : PySem.W.nsIn K mainGlobals "is_order" = some (some (.ref f17))) (l17 : K.lookup f17 = some ⟨oc17, od17, .func (PySem.W.fnOf "is_order" "is_order" (defArgs s_is_order) (defBody s_is_order) (defScope s_is_order) .none kV17 dc17 pm17 an17 cd17 ct17), sl17⟩) (c17 : PySem.W.codeIn K cd17 "is_order" = true) (k17 : PySem.W.keepIn K (.ref f17) = true)
    (a18 : PySem.W.nsIn K mainGlobals "is_rule" = some (some (.ref f18))) (l18 : K.lookup f18 = some ⟨oc18, od18, .func (PySem.W.fnOf "is_rule" "is_rule" (defArgs s_is_rule) (defBody s_is_rule) (defScope s_is_rule) .none kV18 dc18 pm18 an18 cd18 ct18), sl18⟩) (c18 : PySem.W.codeIn K cd18 "is_rule" = true) (k18 : PySem.W.keepIn K (.ref f18) = true)
    (a19 : PySem.W.nsIn K mainGlobals "copied" = some (some (.ref f19))) (l19 : K.lookup f19 = some ⟨oc19, od19, .func (PySem.W.fnOf "copied" "copied" (defArgs s_copied) (defBody s_copied) (defScope s_copied) .none kV19 dc19 pm19 an19 cd19 ct19), sl19⟩) (c19 : PySem.W.codeIn K cd19 "copied" = true) (k19 : PySem.W.keepIn K (.ref f19) = true)
    (a20 : PySem.W.nsIn K mainGlobals "fault_in" = some (some (.ref f20))) (l20 : K.lookup f20 = some ⟨oc20, od20, .func (PySem.W.fnOf "fault_in" "fault_in" (defArgs s_fault_in) (defBody s_fault_in) (defScope s_fault_in) .none kV20 dc20 pm20 an20 cd20 ct20), sl20⟩) (c20 : PySem.W.codeIn K cd20 "fault_in" = true) (k20 : PySem.W.keepIn K (.ref f20) = true)
    (a21 : PySem.W.nsIn K mainGlobals "first_unsound" = some (some (.ref f21))) (l21 : K.lookup f21 = some ⟨oc21, od21, .func (PySem.W.fnOf "first_unsound" "first_unsound" (defArgs s_first_unsound) (defBody s_first_unsound) (defScope s_first_unsound) .none kV21 dc21 pm21 an21 cd21 ct21), sl21⟩) (c21 : PySem.W.codeIn K cd21 "first_unsound" = true) (k21 : PySem.W.keepIn K (.ref f21) = true)
    (a22 : PySem.W.nsIn K mainGlobals "led_by" = some (some (.ref f22))) (l22 : K.lookup f22 = some ⟨oc22, od22, .func (PySem.W.fnOf "led_by" "led_by" (defArgs s_led_by) (defBody s_led_by) (defScope s_led_by) .none kV22 dc22 pm22 an22 cd22 ct22), sl22⟩) (c22 : PySem.W.codeIn K cd22 "led_by" = true) (k22 : PySem.W.keepIn K (.ref f22) = true)
    (a23 : PySem.W.nsIn K mainGlobals "first_in_ring" = some (some (.ref f23))) (l23 : K.lookup f23 = some ⟨oc23, od23, .func (PySem.W.fnOf "first_in_ring" "first_in_ring" (defArgs s_first_in_ring) (defBody s_first_in_ring) (defScope s_first_in_ring) .none kV23 dc23 pm23 an23 cd23 ct23), sl23⟩) (c23 : PySem.W.codeIn K cd23 "first_in_ring" = true) (k23 : PySem.W.keepIn K (.ref f23) = true)
    (a24 : PySem.W.nsIn K mainGlobals "kinds_led_from" = some (some (.ref f24))) (l24 : K.lookup f24 = some ⟨oc24, od24, .func (PySem.W.fnOf "kinds_led_from" "kinds_led_from" (defArgs s_kinds_led_from) (defBody s_kinds_led_from) (defScope s_kinds_led_from) .none kV24 dc24 pm24 an24 cd24 ct24), sl24⟩) (c24 : PySem.W.codeIn K cd24 "kinds_led_from" = true) (k24 : PySem.W.keepIn K (.ref f24) = true)
    (a25 : PySem.W.nsIn K mainGlobals "without_doubles" = some (some (.ref f25))) (l25 : K.lookup f25 = some ⟨oc25, od25, .func (PySem.W.fnOf "without_doubles" "without_doubles" (defArgs s_without_doubles) (defBody s_without_doubles) (defScope s_without_doubles) .none kV25 dc25 pm25 an25 cd25 ct25), sl25⟩) (c25 : PySem.W.codeIn K cd25 "without_doubles" = true) (k25 : PySem.W.keepIn K (.ref f25) = true)
    (a26 : PySem.W.nsIn K mainGlobals "_law_cell_at" = some (some (.ref f26))) (l26 : K.lookup f26 = some ⟨oc26, od26, .func (PySem.W.fnOf "_law_cell_at" "_law_cell_at" (defArgs s_l_cell_at) (defBody s_l_cell_at) (defScope s_l_cell_at) .none kV26 dc26 pm26 an26 cd26 ct26), sl26⟩) (c26 : PySem.W.codeIn K cd26 "_law_cell_at" = true) (k26 : PySem.W.keepIn K (.ref f26) = true)
    (a27 : PySem.W.nsIn K mainGlobals "_law_mixed" = some (some (.ref f27))) (l27 : K.lookup f27 = some ⟨oc27, od27, .func (PySem.W.fnOf "_law_mixed" "_law_mixed" (defArgs s_l_mixed) (defBody s_l_mixed) (defScope s_l_mixed) .none kV27 dc27 pm27 an27 cd27 ct27), sl27⟩) (c27 : PySem.W.codeIn K cd27 "_law_mixed" = true) (k27 : PySem.W.keepIn K (.ref f27) = true)
    (a28 : PySem.W.nsIn K mainGlobals "_law_box" = some (some (.ref f28))) (l28 : K.lookup f28 = some ⟨oc28, od28, .func (PySem.W.fnOf "_law_box" "_law_box" (defArgs s_l_box) (defBody s_l_box) (defScope s_l_box) .none kV28 dc28 pm28 an28 cd28 ct28), sl28⟩) (c28 : PySem.W.codeIn K cd28 "_law_box" = true) (k28 : PySem.W.keepIn K (.ref f28) = true)
    (a29 : PySem.W.nsIn K mainGlobals "_law_take" = some (some (.ref f29))) (l29 : K.lookup f29 = some ⟨oc29, od29, .func (PySem.W.fnOf "_law_take" "_law_take" (defArgs s_l_take) (defBody s_l_take) (defScope s_l_take) .none kV29 dc29 pm29 an29 cd29 ct29), sl29⟩) (c29 : PySem.W.codeIn K cd29 "_law_take" = true) (k29 : PySem.W.keepIn K (.ref f29) = true)
    (a30 : PySem.W.nsIn K mainGlobals "_law_why" = some (some (.ref f30))) (l30 : K.lookup f30 = some ⟨oc30, od30, .func (PySem.W.fnOf "_law_why" "_law_why" (defArgs s_l_why) (defBody s_l_why) (defScope s_l_why) .none kV30 dc30 pm30 an30 cd30 ct30), sl30⟩) (c30 : PySem.W.codeIn K cd30 "_law_why" = true) (k30 : PySem.W.keepIn K (.ref f30) = true)
    (a31 : PySem.W.nsIn K mainGlobals "_law_parts_drawn" = some (some (.ref f31))) (l31 : K.lookup f31 = some ⟨oc31, od31, .func (PySem.W.fnOf "_law_parts_drawn" "_law_parts_drawn" (defArgs s_l_parts_drawn) (defBody s_l_parts_drawn) (defScope s_l_parts_drawn) .none kV31 dc31 pm31 an31 cd31 ct31), sl31⟩) (c31 : PySem.W.codeIn K cd31 "_law_parts_drawn" = true) (k31 : PySem.W.keepIn K (.ref f31) = true)
    (a32 : PySem.W.nsIn K mainGlobals "_law_rules_drawn" = some (some (.ref f32))) (l32 : K.lookup f32 = some ⟨oc32, od32, .func (PySem.W.fnOf "_law_rules_drawn" "_law_rules_drawn" (defArgs s_l_rules_drawn) (defBody s_l_rules_drawn) (defScope s_l_rules_drawn) .none kV32 dc32 pm32 an32 cd32 ct32), sl32⟩) (c32 : PySem.W.codeIn K cd32 "_law_rules_drawn" = true) (k32 : PySem.W.keepIn K (.ref f32) = true)
    (a33 : PySem.W.nsIn K mainGlobals "_law_due" = some (some (.ref f33))) (l33 : K.lookup f33 = some ⟨oc33, od33, .func (PySem.W.fnOf "_law_due" "_law_due" (defArgs s_l_due) (defBody s_l_due) (defScope s_l_due) .none kV33 dc33 pm33 an33 cd33 ct33), sl33⟩) (c33 : PySem.W.codeIn K cd33 "_law_due" = true) (k33 : PySem.W.keepIn K (.ref f33) = true)
    (a34 : PySem.W.nsIn K mainGlobals "_law_right" = some (some (.ref f34))) (l34 : K.lookup f34 = some ⟨oc34, od34, .func (PySem.W.fnOf "_law_right" "_law_right" (defArgs s_l_right) (defBody s_l_right) (defScope s_l_right) .none kV34 dc34 pm34 an34 cd34 ct34), sl34⟩) (c34 : PySem.W.codeIn K cd34 "_law_right" = true) (k34 : PySem.W.keepIn K (.ref f34) = true)
    (a35 : PySem.W.nsIn K mainGlobals "law" = some (some (.ref f35))) (l35 : K.lookup f35 = some ⟨oc35, od35, .func (PySem.W.fnOf "law" "law" (defArgs s_law) (defBody s_law) (defScope s_law) .none kV35 dc35 pm35 an35 cd35 ct35), sl35⟩) (c35 : PySem.W.codeIn K cd35 "law" = true) (k35 : PySem.W.keepIn K (.ref f35) = true)
    (aC : PySem.W.nsIn K mainGlobals "Tongue" = some (some (.ref CC))) (a36 : PySem.W.findIn K (.ref CC) "__init__" = some (some (.ref f36))) (i36 : PySem.W.isFn K (.ref f36) = true) (l36 : K.lookup f36 = some ⟨oc36, od36, .func (PySem.W.fnOf "__init__" "Tongue.__init__" (defArgs s_init) (defBody s_init) (defScope s_init) .none kV36 dc36 pm36 an36 cd36 ct36), sl36⟩) (c36 : PySem.W.codeIn K cd36 "Tongue.__init__" = true) (k36 : PySem.W.keepIn K (.ref f36) = true)
    (pg : PySem.W.plainGet K CC Str.empty = true) (hd : PySem.W.hasDictIn K CC = true) (po : PySem.W.plainOver K CC = true) (sa : PySem.W.findIn K (.ref CC) "__setattr__" = some (some (.builtin "object.__setattr__"))) (mk : PySem.W.makesIn K CC = true) (kc : PySem.W.keepIn K (.ref CC) = true)
    (n1 : PySem.W.findIn K (.ref CC) "own" = some none) (n2 : PySem.W.findIn K (.ref CC) "feature_named" = some none) (n3 : PySem.W.findIn K (.ref CC) "kind_named" = some none) (n4 : PySem.W.findIn K (.ref CC) "placings" = some none) (n5 : PySem.W.findIn K (.ref CC) "kept" = some none)
    (e1 : PySem.W.nsIn K mainGlobals "LETTERS" = some (some (.str lets26 tk1)))
    (e2 : PySem.W.nsIn K mainGlobals "MOST_VALUES" = some (some (.int 6 tk2)))
    (e3 : PySem.W.nsIn K mainGlobals "MOST_FEATURES_OF_A_KIND" = some (some (.int 4 tk3)))
    (e4 : PySem.W.nsIn K mainGlobals "MOST_PARTS" = some (some (.int 5 tk4)))
    (e5 : PySem.W.nsIn K mainGlobals "MOST_RANK" = some (some (.int 999 tk5)))
    (e6 : PySem.W.nsIn K mainGlobals "MOST_STRAY" = some (some (.int 4 tk6)))
    (e7 : PySem.W.nsIn K mainGlobals "MOST_STIR" = some (some (.int 99 tk7)))
    (t1 : tabFree K cd1 = true) (r1 : ((recsOf q).any fun e => e.name == ("places_of" : Str)) = true)
    (t2 : tabFree K cd2 = true) (r2 : ((recsOf q).any fun e => e.name == ("is_text" : Str)) = true)
    (t6 : tabFree K cd6 = true) (r6 : ((recsOf q).any fun e => e.name == ("is_feature" : Str)) = true)
    (t7 : tabFree K cd7 = true) (r7 : ((recsOf q).any fun e => e.name == ("is_kind" : Str)) = true)
    (t8 : tabFree K cd8 = true) (r8 : ((recsOf q).any fun e => e.name == ("is_seam" : Str)) = true)
    (t9 : tabFree K cd9 = true) (r9 : ((recsOf q).any fun e => e.name == ("are_marks" : Str)) = true)
    (t17 : tabFree K cd17 = true) (r17 : ((recsOf q).any fun e => e.name == ("is_order" : Str)) = true)
    (t18 : tabFree K cd18 = true) (r18 : ((recsOf q).any fun e => e.name == ("is_rule" : Str)) = true)
    (t19 : tabFree K cd19 = true) (r19 : ((recsOf q).any fun e => e.name == ("copied" : Str)) = true)
    (t22 : tabFree K cd22 = true) (r22 : ((recsOf q).any fun e => e.name == ("led_by" : Str)) = true)
    (t20 : tabFree K cd20 = true) (r20 : ((recsOf q).any fun e => e.name == ("fault_in" : Str)) = true)
    (df : ([cd1, cd2, cd6, cd7, cd8, cd9, cd17, cd18, cd19, cd22].all fun c => !decide (tabPtr K c = tabPtr K cd20)) = true)
    {CB CS CR CT fB cdaB ccB xN : Addr} {xn xq fileB : Str} {xbs xsub : List Value} {xsn : List Str} {xab : Bool} {xcol : Option Bool} {xdd xod xan xod1 xod2 : Option Addr} {y0 y1 y2 y3 y5 : Option Value} {xoc xkV xdc xpm xct xo1 xo2 : Value} {xsl xsl1 xsl2 : Array (Option Value)} {xvs_ : Array Value} {xtf : Tok}
    (x1 : PySem.W.nsIn K mainGlobals "BadTongue" = some (some (.ref CB)))
    (x2 : PySem.W.nsIn K mainGlobals "SpeechError" = some (some (.ref CS)))
    (x3 : PySem.W.nsIn K mainGlobals "BadRow" = some (some (.ref CR)))
    (x4 : PySem.W.nsIn K mainGlobals "BadTree" = some (some (.ref CT)))
    (xL : K.lookup CB = some (excClassObj xn xq CB xN xbs [.ref CS, .type "ValueError", .type "Exception", .type "BaseException", .type "object"] true xsn xsub xab xcol xdd y0 y1 y2 y3 y5 "ValueError.__new__"))
    (xsa : PySem.W.findIn K (.ref CB) "__setattr__" = some (some (.builtin "object.__setattr__")))
    (xga : PySem.W.findIn K (.ref CB) "__getattribute__" = some (some (.builtin "BaseException.__getattribute__")))
    (xgg : PySem.W.findIn K (.ref CB) "__getattr__" = some none)
    (xcl : PySem.W.findIn K (.ref CB) "__class__" = some (some (.builtin "object.__class__")))
    (xwn : PySem.W.findIn K (.ref CB) "why" = some none)
    (xin : PySem.W.findIn K (.ref CB) "__init__" = some (some (.ref fB)))
    (xty : PySem.W.typeIn K (.ref fB) = some (.type "function"))
    (xe : PySem.W.subIn K (.ref CB) (.type "BaseException") = some true)
    (xv : PySem.W.subIn K (.ref CB) (.type "ValueError") = some true)
    (xt : PySem.W.typeIn K (.ref CB) = some (.type "type"))
    (xk : PySem.W.keepIn K (.ref CB) = true)
    (xh : PySem.W.hasDictIn K CB = true)
    (xm : PySem.W.mroIn K CB (.ref CB) = some true)
    (xmo : PySem.W.mroIn K CB (.type "object") = some true)
    (xsp : PySem.W.specialIn K (.builtin "object.__class__") "__get__" = some (some (.builtin "getset_descriptor.__get__")))
    (xtk : PySem.W.takesIn K (.builtin "object.__class__") = some true)
    (xse : PySem.W.subIn K (.ref CS) (.type "BaseException") = some true)
    (xsh : PySem.W.hasDictIn K CS = true)
    (xst2 : PySem.W.typeIn K (.ref CS) = some (.type "type"))
    (xsb : PySem.W.subIn K (.ref CB) (.ref CS) = some true)
    (xst : PySem.W.nsIn K cStatics "thirdparty.any" = some none)
    (xlf : K.lookup fB = some ⟨xoc, xod, .func (PySem.W.fnX "__init__" "BadTongue.__init__" (defArgs s_bt) (defBody s_bt) (defScope s_bt) [("__class__", ccB)] .none xkV xdc xpm xan (.ref cdaB) xct), xsl⟩)
    (xcd : PySem.W.codeIn K (.ref cdaB) "BadTongue.__init__" = true)
    (xlc : K.lookup cdaB = some ⟨xo1, xod1, .fields xvs_, xsl1⟩)
    (xcc : K.lookup ccB = some ⟨xo2, xod2, .cell (some (.ref CB)), xsl2⟩)
    (xkf : PySem.W.keepIn K (.ref fB) = true)
    (xvs : xvs_[2]? = some (.str fileB xtf))
    (xfl : ((l.prog.main.file : Str) == fileB) = true)
    (xtop : (l.prog.main.scope.names.lookup ("super" : Str)).isSome = false)
    (xsu : PySem.W.ks_superIn K CB CB "__init__" = some (some (.builtin "ValueError.__init__")))
    (xk1 : PySem.W.kitOne K (.ref CB) (.ref CB) = some true)
    (xk2 : PySem.W.kitOne K (.ref CB) (.type "ValueError") = some true)
    (xk3 : PySem.W.kitAny K (.ref CB) [.ref CR, .ref CT] = some false)
    (z1 : PySem.W.nsIn K mainGlobals "len" = some none) (z2 : PySem.W.nsIn K mainGlobals "abs" = some none) (z3 : PySem.W.nsIn K mainGlobals "int" = some none) (z4 : PySem.W.nsIn K mainGlobals "list" = some none) (z5 : PySem.W.nsIn K mainGlobals "range" = some none) (z6 : PySem.W.nsIn K mainGlobals "all" = some none) (z7 : PySem.W.nsIn K mainGlobals "set" = some none) (z8 : PySem.W.nsIn K mainGlobals "enumerate" = some none) (z9 : PySem.W.nsIn K mainGlobals "isinstance" = some none) (z10 : PySem.W.nsIn K mainGlobals "dict" = some none) (z11 : PySem.W.nsIn K mainGlobals "tuple" = some none) (z12 : PySem.W.nsIn K mainGlobals "min" = some none) (z13 : PySem.W.nsIn K mainGlobals "max" = some none) (z14 : PySem.W.nsIn K mainGlobals "super" = some none) (z15 : PySem.W.nsIn K mainGlobals "ValueError" = some none) :
    LamX.LawAtS l w K CX0 53 63 "_law_script" mg fa h := by
  have e := hfa.symm.trans (PySem.W.mg_of X G a35)
  cases e
  obtain ⟨C1, P1, ⟨ec1, et1, en1, eh1⟩, ep1⟩ := tabOfP X T r1 (PySem.W.mg_of X G a1) l1 t1
  obtain ⟨C2, P2, ⟨ec2, et2, en2, eh2⟩, ep2⟩ := tabOfP X T r2 (PySem.W.mg_of X G a2) l2 t2
  obtain ⟨C6, P6, ⟨ec6, et6, en6, eh6⟩, ep6⟩ := tabOfP X T r6 (PySem.W.mg_of X G a6) l6 t6
  obtain ⟨C7, P7, ⟨ec7, et7, en7, eh7⟩, ep7⟩ := tabOfP X T r7 (PySem.W.mg_of X G a7) l7 t7
  obtain ⟨C8, P8, ⟨ec8, et8, en8, eh8⟩, ep8⟩ := tabOfP X T r8 (PySem.W.mg_of X G a8) l8 t8
  obtain ⟨C9, P9, ⟨ec9, et9, en9, eh9⟩, ep9⟩ := tabOfP X T r9 (PySem.W.mg_of X G a9) l9 t9
  obtain ⟨C17, P17, ⟨ec17, et17, en17, eh17⟩, ep17⟩ := tabOfP X T r17 (PySem.W.mg_of X G a17) l17 t17
  obtain ⟨C18, P18, ⟨ec18, et18, en18, eh18⟩, ep18⟩ := tabOfP X T r18 (PySem.W.mg_of X G a18) l18 t18
  obtain ⟨C19, P19, ⟨ec19, et19, en19, eh19⟩, ep19⟩ := tabOfP X T r19 (PySem.W.mg_of X G a19) l19 t19
  obtain ⟨C22, P22, ⟨ec22, et22, en22, eh22⟩, ep22⟩ := tabOfP X T r22 (PySem.W.mg_of X G a22) l22 t22
  obtain ⟨C20, P20, ⟨ec20, et20, en20, eh20⟩, ep20⟩ := tabOfP X T r20 (PySem.W.mg_of X G a20) l20 t20
  have np1 : P20 ≠ P1 := fun z => by
    have := List.all_eq_true.mp df cd1 (by simp)
    rw [ep1, ep20, z] at this
    simp at this
  have np2 : P20 ≠ P2 := fun z => by
    have := List.all_eq_true.mp df cd2 (by simp)
    rw [ep2, ep20, z] at this
    simp at this
  have np6 : P20 ≠ P6 := fun z => by
    have := List.all_eq_true.mp df cd6 (by simp)
    rw [ep6, ep20, z] at this
    simp at this
  have np7 : P20 ≠ P7 := fun z => by
    have := List.all_eq_true.mp df cd7 (by simp)
    rw [ep7, ep20, z] at this
    simp at this
  have np8 : P20 ≠ P8 := fun z => by
    have := List.all_eq_true.mp df cd8 (by simp)
    rw [ep8, ep20, z] at this
    simp at this
  have np9 : P20 ≠ P9 := fun z => by
    have := List.all_eq_true.mp df cd9 (by simp)
    rw [ep9, ep20, z] at this
    simp at this
  have np17 : P20 ≠ P17 := fun z => by
    have := List.all_eq_true.mp df cd17 (by simp)
    rw [ep17, ep20, z] at this
    simp at this
  have np18 : P20 ≠ P18 := fun z => by
    have := List.all_eq_true.mp df cd18 (by simp)
    rw [ep18, ep20, z] at this
    simp at this
  have np19 : P20 ≠ P19 := fun z => by
    have := List.all_eq_true.mp df cd19 (by simp)
    rw [ep19, ep20, z] at this
    simp at this
  have np22 : P20 ≠ P22 := fun z => by
    have := List.all_eq_true.mp df cd22 (by simp)
    rw [ep22, ep20, z] at this
    simp at this
  subst ec1
  subst ec2
  subst ec6
  subst ec7
  subst ec8
  subst ec9
  subst ec17
  subst ec18
  subst ec19
  subst ec22
  subst ec20
  have F1 := fun_mk (st := s_places_of) l1 c1 k1
  have FC1 : FunC K "places_of" "places_of" s_places_of f1 _ C1 := ⟨⟨_, _, _, _, _, _, _, _, rfl, l1, c1⟩, k1⟩
  have b1 := F1.binds (ps := ["rule"]) fun _ _ _ _ _ _ us hl => match us, hl with | [_], _ => rfl
  have g1 := PySem.W.mg_of X G a1
  have F2 := fun_mk (st := s_is_text) l2 c2 k2
  have FC2 : FunC K "is_text" "is_text" s_is_text f2 _ C2 := ⟨⟨_, _, _, _, _, _, _, _, rfl, l2, c2⟩, k2⟩
  have b2 := F2.binds (ps := ["text", "most"]) fun _ _ _ _ _ _ us hl => match us, hl with | [_, _], _ => rfl
  have g2 := PySem.W.mg_of X G a2
  have F3 := fun_mk (st := s_is_name) l3 c3 k3
  have b3 := F3.binds (ps := ["text"]) fun _ _ _ _ _ _ us hl => match us, hl with | [_], _ => rfl
  have g3 := PySem.W.mg_of X G a3
  have F4 := fun_mk (st := s_is_rank) l4 c4 k4
  have b4 := F4.binds (ps := ["number"]) fun _ _ _ _ _ _ us hl => match us, hl with | [_], _ => rfl
  have g4 := PySem.W.mg_of X G a4
  have F5 := fun_mk (st := s_are_unlike) l5 c5 k5
  have b5 := F5.binds (ps := ["things"]) fun _ _ _ _ _ _ us hl => match us, hl with | [_], _ => rfl
  have g5 := PySem.W.mg_of X G a5
  have F6 := fun_mk (st := s_is_feature) l6 c6 k6
  have FC6 : FunC K "is_feature" "is_feature" s_is_feature f6 _ C6 := ⟨⟨_, _, _, _, _, _, _, _, rfl, l6, c6⟩, k6⟩
  have b6 := F6.binds (ps := ["feature"]) fun _ _ _ _ _ _ us hl => match us, hl with | [_], _ => rfl
  have g6 := PySem.W.mg_of X G a6
  have F7 := fun_mk (st := s_is_kind) l7 c7 k7
  have FC7 : FunC K "is_kind" "is_kind" s_is_kind f7 _ C7 := ⟨⟨_, _, _, _, _, _, _, _, rfl, l7, c7⟩, k7⟩
  have b7 := F7.binds (ps := ["kind", "features"]) fun _ _ _ _ _ _ us hl => match us, hl with | [_, _], _ => rfl
  have g7 := PySem.W.mg_of X G a7
  have F8 := fun_mk (st := s_is_seam) l8 c8 k8
  have FC8 : FunC K "is_seam" "is_seam" s_is_seam f8 _ C8 := ⟨⟨_, _, _, _, _, _, _, _, rfl, l8, c8⟩, k8⟩
  have b8 := F8.binds (ps := ["seam"]) fun _ _ _ _ _ _ us hl => match us, hl with | [_], _ => rfl
  have g8 := PySem.W.mg_of X G a8
  have F9 := fun_mk (st := s_are_marks) l9 c9 k9
  have FC9 : FunC K "are_marks" "are_marks" s_are_marks f9 _ C9 := ⟨⟨_, _, _, _, _, _, _, _, rfl, l9, c9⟩, k9⟩
  have b9 := F9.binds (ps := ["marks", "names", "features"]) fun _ _ _ _ _ _ us hl => match us, hl with | [_, _, _], _ => rfl
  have g9 := PySem.W.mg_of X G a9
  have F10 := fun_mk (st := s_is_stem) l10 c10 k10
  have b10 := F10.binds (ps := ["stem", "features", "kinds"]) fun _ _ _ _ _ _ us hl => match us, hl with | [_, _, _], _ => rfl
  have g10 := PySem.W.mg_of X G a10
  have F11 := fun_mk (st := s_is_ending) l11 c11 k11
  have b11 := F11.binds (ps := ["ending", "features"]) fun _ _ _ _ _ _ us hl => match us, hl with | [_, _], _ => rfl
  have g11 := PySem.W.mg_of X G a11
  have F12 := fun_mk (st := s_is_bundle) l12 c12 k12
  have b12 := F12.binds (ps := ["bundle", "own", "features"]) fun _ _ _ _ _ _ us hl => match us, hl with | [_, _, _], _ => rfl
  have g12 := PySem.W.mg_of X G a12
  have F13 := fun_mk (st := s_is_part) l13 c13 k13
  have b13 := F13.binds (ps := ["part", "features", "kinds"]) fun _ _ _ _ _ _ us hl => match us, hl with | [_, _, _], _ => rfl
  have g13 := PySem.W.mg_of X G a13
  have F14 := fun_mk (st := s_have_roles) l14 c14 k14
  have b14 := F14.binds (ps := ["parts", "kinds"]) fun _ _ _ _ _ _ us hl => match us, hl with | [_, _], _ => rfl
  have g14 := PySem.W.mg_of X G a14
  have F15 := fun_mk (st := s_is_group) l15 c15 k15
  have b15 := F15.binds (ps := ["group", "owns"]) fun _ _ _ _ _ _ us hl => match us, hl with | [_, _], _ => rfl
  have g15 := PySem.W.mg_of X G a15
  have F16 := fun_mk (st := s_in_group_with_part) l16 c16 k16
  have b16 := F16.binds (ps := ["feature", "agrees"]) fun _ _ _ _ _ _ us hl => match us, hl with | [_, _], _ => rfl
  have g16 := PySem.W.mg_of X G a16
  have F17 := fun_mk (st := s_is_order) l17 c17 k17
  have FC17 : FunC K "is_order" "is_order" s_is_order f17 _ C17 := ⟨⟨_, _, _, _, _, _, _, _, rfl, l17, c17⟩, k17⟩
  have b17 := F17.binds (ps := ["order", "many"]) fun _ _ _ _ _ _ us hl => match us, hl with | [_, _], _ => rfl
  have g17 := PySem.W.mg_of X G a17
  have F18 := fun_mk (st := s_is_rule) l18 c18 k18
  have FC18 : FunC K "is_rule" "is_rule" s_is_rule f18 _ C18 := ⟨⟨_, _, _, _, _, _, _, _, rfl, l18, c18⟩, k18⟩
  have b18 := F18.binds (ps := ["rule", "features", "kinds"]) fun _ _ _ _ _ _ us hl => match us, hl with | [_, _, _], _ => rfl
  have g18 := PySem.W.mg_of X G a18
  have F19 := fun_mk (st := s_copied) l19 c19 k19
  have FC19 : FunC K "copied" "copied" s_copied f19 _ C19 := ⟨⟨_, _, _, _, _, _, _, _, rfl, l19, c19⟩, k19⟩
  have b19 := F19.binds (ps := ["thing"]) fun _ _ _ _ _ _ us hl => match us, hl with | [_], _ => rfl
  have g19 := PySem.W.mg_of X G a19
  have F20 := fun_mk (st := s_fault_in) l20 c20 k20
  have FC20 : FunC K "fault_in" "fault_in" s_fault_in f20 _ C20 := ⟨⟨_, _, _, _, _, _, _, _, rfl, l20, c20⟩, k20⟩
  have b20 := F20.binds (ps := ["told"]) fun _ _ _ _ _ _ us hl => match us, hl with | [_], _ => rfl
  have g20 := PySem.W.mg_of X G a20
  have F21 := fun_mk (st := s_first_unsound) l21 c21 k21
  have b21 := F21.binds (ps := ["things", "most", "is_sound", "is_named"]) fun _ _ _ _ _ _ us hl => match us, hl with | [_, _, _, _], _ => rfl
  have g21 := PySem.W.mg_of X G a21
  have F22 := fun_mk (st := s_led_by) l22 c22 k22
  have FC22 : FunC K "led_by" "led_by" s_led_by f22 _ C22 := ⟨⟨_, _, _, _, _, _, _, _, rfl, l22, c22⟩, k22⟩
  have b22 := F22.binds (ps := ["rule"]) fun _ _ _ _ _ _ us hl => match us, hl with | [_], _ => rfl
  have g22 := PySem.W.mg_of X G a22
  have F23 := fun_mk (st := s_first_in_ring) l23 c23 k23
  have b23 := F23.binds (ps := ["rules"]) fun _ _ _ _ _ _ us hl => match us, hl with | [_], _ => rfl
  have g23 := PySem.W.mg_of X G a23
  have F24 := fun_mk (st := s_kinds_led_from) l24 c24 k24
  have b24 := F24.binds (ps := ["kind", "steps"]) fun _ _ _ _ _ _ us hl => match us, hl with | [_, _], _ => rfl
  have g24 := PySem.W.mg_of X G a24
  have F25 := fun_mk (st := s_without_doubles) l25 c25 k25
  have b25 := F25.binds (ps := ["names"]) fun _ _ _ _ _ _ us hl => match us, hl with | [_], _ => rfl
  have g25 := PySem.W.mg_of X G a25
  have F26 := fun_mk (st := s_l_cell_at) l26 c26 k26
  have b26 := F26.binds (ps := ["_law_script", "_law_k"]) fun _ _ _ _ _ _ us hl => match us, hl with | [_, _], _ => rfl
  have g26 := PySem.W.mg_of X G a26
  have F27 := fun_mk (st := s_l_mixed) l27 c27 k27
  have b27 := F27.binds (ps := ["_law_number", "_law_k"]) fun _ _ _ _ _ _ us hl => match us, hl with | [_, _], _ => rfl
  have g27 := PySem.W.mg_of X G a27
  have F28 := fun_mk (st := s_l_box) l28 c28 k28
  have b28 := F28.binds (ps := ["_law_script", "_law_k"]) fun _ _ _ _ _ _ us hl => match us, hl with | [_, _], _ => rfl
  have g28 := PySem.W.mg_of X G a28
  have F29 := fun_mk (st := s_l_take) l29 c29 k29
  have b29 := F29.binds (ps := ["_law_box_here", "_law_many"]) fun _ _ _ _ _ _ us hl => match us, hl with | [_, _], _ => rfl
  have g29 := PySem.W.mg_of X G a29
  have F30 := fun_mk (st := s_l_why) l30 c30 k30
  have b30 := F30.binds (ps := ["_law_told"]) fun _ _ _ _ _ _ us hl => match us, hl with | [_], _ => rfl
  have g30 := PySem.W.mg_of X G a30
  have F31 := fun_mk (st := s_l_parts_drawn) l31 c31 k31
  have b31 := F31.binds (ps := ["_law_box_here", "_law_names"]) fun _ _ _ _ _ _ us hl => match us, hl with | [_, _], _ => rfl
  have g31 := PySem.W.mg_of X G a31
  have F32 := fun_mk (st := s_l_rules_drawn) l32 c32 k32
  have b32 := F32.binds (ps := ["_law_box_here", "_law_names"]) fun _ _ _ _ _ _ us hl => match us, hl with | [_, _], _ => rfl
  have g32 := PySem.W.mg_of X G a32
  have F33 := fun_mk (st := s_l_due) l33 c33 k33
  have b33 := F33.binds (ps := ["_law_steps"]) fun _ _ _ _ _ _ us hl => match us, hl with | [_], _ => rfl
  have g33 := PySem.W.mg_of X G a33
  have F34 := fun_mk (st := s_l_right) l34 c34 k34
  have b34 := F34.binds (ps := ["_law_box_here"]) fun _ _ _ _ _ _ us hl => match us, hl with | [_], _ => rfl
  have g34 := PySem.W.mg_of X G a34
  have F35 := fun_mk (st := s_law) l35 c35 k35
  have F36 := fun_mk (st := s_init) l36 c36 k36
  have b36 := F36.binds (ps := ["self", "told"]) fun _ _ _ _ _ _ us hl => match us, hl with | [_, _], _ => rfl
  have mC := PySem.W.mg_of X G aC
  have m_LETTERS := PySem.W.mg_of X G e1
  have m_MOST_VALUES := PySem.W.mg_of X G e2
  have m_MOST_FEATURES_OF_A_KIND := PySem.W.mg_of X G e3
  have m_MOST_PARTS := PySem.W.mg_of X G e4
  have m_MOST_RANK := PySem.W.mg_of X G e5
  have m_MOST_STRAY := PySem.W.mg_of X G e6
  have m_MOST_STIR := PySem.W.mg_of X G e7
  have m_len := PySem.W.mg_none_of X G z1
  have m_abs := PySem.W.mg_none_of X G z2
  have m_int := PySem.W.mg_none_of X G z3
  have m_list := PySem.W.mg_none_of X G z4
  have m_range := PySem.W.mg_none_of X G z5
  have m_all := PySem.W.mg_none_of X G z6
  have m_set := PySem.W.mg_none_of X G z7
  have m_enumerate := PySem.W.mg_none_of X G z8
  have m_isinstance := PySem.W.mg_none_of X G z9
  have m_dict := PySem.W.mg_none_of X G z10
  have m_tuple := PySem.W.mg_none_of X G z11
  have m_min := PySem.W.mg_none_of X G z12
  have m_max := PySem.W.mg_none_of X G z13
  have m_super := PySem.W.mg_none_of X G z14
  have m_ValueError := PySem.W.mg_none_of X G z15
  have hT1 : ∀ p ∈ [(C1, P1), (C2, P2), (C6, P6), (C7, P7), (C8, P8), (C9, P9), (C17, P17), (C18, P18), (C19, P19), (C22, P22), (C20, P20)], h.get? p.2 = some { cls := .none, data := .fields #[] } := fun p hp => by
    rcases List.mem_cons.mp hp with rfl | hp
    · exact et1
    rcases List.mem_cons.mp hp with rfl | hp
    · exact et2
    rcases List.mem_cons.mp hp with rfl | hp
    · exact et6
    rcases List.mem_cons.mp hp with rfl | hp
    · exact et7
    rcases List.mem_cons.mp hp with rfl | hp
    · exact et8
    rcases List.mem_cons.mp hp with rfl | hp
    · exact et9
    rcases List.mem_cons.mp hp with rfl | hp
    · exact et17
    rcases List.mem_cons.mp hp with rfl | hp
    · exact et18
    rcases List.mem_cons.mp hp with rfl | hp
    · exact et19
    rcases List.mem_cons.mp hp with rfl | hp
    · exact et22
    rw [List.mem_singleton.mp hp]
    exact et20

  have hT2 : ∀ p ∈ [(C1, P1), (C2, P2), (C6, P6), (C7, P7), (C8, P8), (C9, P9), (C17, P17), (C18, P18), (C19, P19), (C22, P22), (C20, P20)], K.lookup p.2 = none := fun p hp => by
    rcases List.mem_cons.mp hp with rfl | hp
    · exact en1
    rcases List.mem_cons.mp hp with rfl | hp
    · exact en2
    rcases List.mem_cons.mp hp with rfl | hp
    · exact en6
    rcases List.mem_cons.mp hp with rfl | hp
    · exact en7
    rcases List.mem_cons.mp hp with rfl | hp
    · exact en8
    rcases List.mem_cons.mp hp with rfl | hp
    · exact en9
    rcases List.mem_cons.mp hp with rfl | hp
    · exact en17
    rcases List.mem_cons.mp hp with rfl | hp
    · exact en18
    rcases List.mem_cons.mp hp with rfl | hp
    · exact en19
    rcases List.mem_cons.mp hp with rfl | hp
    · exact en22
    rw [List.mem_singleton.mp hp]
    exact en20

  have hT3 : ∀ p ∈ [(C1, P1), (C2, P2), (C6, P6), (C7, P7), (C8, P8), (C9, P9), (C17, P17), (C18, P18), (C19, P19), (C22, P22), (C20, P20)], PySem.W.CodeHd h p.1 p.2 := fun p hp => by
    rcases List.mem_cons.mp hp with rfl | hp
    · exact eh1
    rcases List.mem_cons.mp hp with rfl | hp
    · exact eh2
    rcases List.mem_cons.mp hp with rfl | hp
    · exact eh6
    rcases List.mem_cons.mp hp with rfl | hp
    · exact eh7
    rcases List.mem_cons.mp hp with rfl | hp
    · exact eh8
    rcases List.mem_cons.mp hp with rfl | hp
    · exact eh9
    rcases List.mem_cons.mp hp with rfl | hp
    · exact eh17
    rcases List.mem_cons.mp hp with rfl | hp
    · exact eh18
    rcases List.mem_cons.mp hp with rfl | hp
    · exact eh19
    rcases List.mem_cons.mp hp with rfl | hp
    · exact eh22
    rw [List.mem_singleton.mp hp]
    exact eh20

  have hF : P20 ∉ [P1, P2, P6, P7, P8, P9, P17, P18, P19, P22] := fun hp => by
    rcases List.mem_cons.mp hp with z | hp
    · exact np1 z
    rcases List.mem_cons.mp hp with z | hp
    · exact np2 z
    rcases List.mem_cons.mp hp with z | hp
    · exact np6 z
    rcases List.mem_cons.mp hp with z | hp
    · exact np7 z
    rcases List.mem_cons.mp hp with z | hp
    · exact np8 z
    rcases List.mem_cons.mp hp with z | hp
    · exact np9 z
    rcases List.mem_cons.mp hp with z | hp
    · exact np17 z
    rcases List.mem_cons.mp hp with z | hp
    · exact np18 z
    rcases List.mem_cons.mp hp with z | hp
    · exact np19 z
    exact np22 (List.mem_singleton.mp hp)
  refine ⟨PySem.W.fnOf "law" "law" (defArgs s_law) (defBody s_law) (defScope s_law) .none kV35 dc35 pm35 an35 cd35 ct35, [(C1, P1), (C2, P2), (C6, P6), (C7, P7), (C8, P8), (C9, P9), (C17, P17), (C18, P18), (C19, P19), (C22, P22), (C20, P20)], spLaw K (⟨[P1, P2, P6, P7, P8, P9, P17, P18, P19, P22], P20, lamQ⟩ : Tb), hT1, hT2, hT3, fun s v => .of_eq rfl, fun H a ns hl _ hT hS => ⟨a, ns, rfl, hS, hl, ⟨fun P hP => ?_, LamX.TabS.nil (hT (C20, P20) (by simp))⟩, fun _ => rfl⟩, fun base _ _ TB => ?_⟩
  · have hP : P ∈ [P1, P2, P6, P7, P8, P9, P17, P18, P19, P22] := hP
    rcases List.mem_cons.mp hP with e | hP
    · rw [e]
      exact ⟨#[], hT (C1, P1) (by simp), trivial⟩
    rcases List.mem_cons.mp hP with e | hP
    · rw [e]
      exact ⟨#[], hT (C2, P2) (by simp), trivial⟩
    rcases List.mem_cons.mp hP with e | hP
    · rw [e]
      exact ⟨#[], hT (C6, P6) (by simp), trivial⟩
    rcases List.mem_cons.mp hP with e | hP
    · rw [e]
      exact ⟨#[], hT (C7, P7) (by simp), trivial⟩
    rcases List.mem_cons.mp hP with e | hP
    · rw [e]
      exact ⟨#[], hT (C8, P8) (by simp), trivial⟩
    rcases List.mem_cons.mp hP with e | hP
    · rw [e]
      exact ⟨#[], hT (C9, P9) (by simp), trivial⟩
    rcases List.mem_cons.mp hP with e | hP
    · rw [e]
      exact ⟨#[], hT (C17, P17) (by simp), trivial⟩
    rcases List.mem_cons.mp hP with e | hP
    · rw [e]
      exact ⟨#[], hT (C18, P18) (by simp), trivial⟩
    rcases List.mem_cons.mp hP with e | hP
    · rw [e]
      exact ⟨#[], hT (C19, P19) (by simp), trivial⟩
    rw [List.mem_singleton.mp hP]
    exact ⟨#[], hT (C22, P22) (by simp), trivial⟩
  have TB1 := tabB_of (TB (C1, P1) (by simp))
  have hP1 : P1 ∈ [P1, P2, P6, P7, P8, P9, P17, P18, P19, P22] := by simp
  have TB2 := tabB_of (TB (C2, P2) (by simp))
  have hP2 : P2 ∈ [P1, P2, P6, P7, P8, P9, P17, P18, P19, P22] := by simp
  have TB6 := tabB_of (TB (C6, P6) (by simp))
  have hP6 : P6 ∈ [P1, P2, P6, P7, P8, P9, P17, P18, P19, P22] := by simp
  have TB7 := tabB_of (TB (C7, P7) (by simp))
  have hP7 : P7 ∈ [P1, P2, P6, P7, P8, P9, P17, P18, P19, P22] := by simp
  have TB8 := tabB_of (TB (C8, P8) (by simp))
  have hP8 : P8 ∈ [P1, P2, P6, P7, P8, P9, P17, P18, P19, P22] := by simp
  have TB9 := tabB_of (TB (C9, P9) (by simp))
  have hP9 : P9 ∈ [P1, P2, P6, P7, P8, P9, P17, P18, P19, P22] := by simp
  have TB17 := tabB_of (TB (C17, P17) (by simp))
  have hP17 : P17 ∈ [P1, P2, P6, P7, P8, P9, P17, P18, P19, P22] := by simp
  have TB18 := tabB_of (TB (C18, P18) (by simp))
  have hP18 : P18 ∈ [P1, P2, P6, P7, P8, P9, P17, P18, P19, P22] := by simp
  have TB19 := tabB_of (TB (C19, P19) (by simp))
  have hP19 : P19 ∈ [P1, P2, P6, P7, P8, P9, P17, P18, P19, P22] := by simp
  have TB22 := tabB_of (TB (C22, P22) (by simp))
  have hP22 : P22 ∈ [P1, P2, P6, P7, P8, P9, P17, P18, P19, P22] := by simp
  have TB20 := TB (C20, P20) (by simp)
  have TC : TgC K CC := ⟨⟨pg, hd, po, sa⟩, n1, n2, n3, n4, n5⟩
  have M : Mk K CC f36 := ⟨mk, a36, i36, kc⟩
  have GC : FnOk l.prog w K mg base CX0 1 f26 _ ["_law_script", "_law_k"] (spCell K) := ok_cell F26 m_len
  have GM : FnOk l.prog w K mg base CX0 1 f27 _ ["_law_number", "_law_k"] (spMixed) := ok_mixed F27
  have GB := ok_box F28 F26.kp b26 g26 GC F27.kp b27 g27 GM m_abs m_int
  have GT := ok_take F29 F27.kp b27 g27 GM
  have GTx : ∀ k, FnOk l.prog w K mg base CX0 (k + 1) f2 _ ["text", "most"] (spIsText (⟨[P1, P2, P6, P7, P8, P9, P17, P18, P19, P22], P20, lamQ⟩ : Tb)) := fun k => ok_isText (k := k) FC2 TB2 hP2 hF m_len m_all m_LETTERS
  have GNm : ∀ k, FnOk l.prog w K mg base CX0 (k + 2) f3 _ ["text"] (spIsName (⟨[P1, P2, P6, P7, P8, P9, P17, P18, P19, P22], P20, lamQ⟩ : Tb)) := fun k => ok_isName F3 F2.kp b2 g2 (GTx k)
  have GRk : ∀ k, FnOk l.prog w K mg base CX0 (k + 1) f4 _ ["number"] spIsRank := fun k => ok_isRank F4 m_MOST_RANK
  have GUn : ∀ k, FnOk l.prog w K mg base CX0 (k + 1) f5 _ ["things"] (spUnlike K) := fun k => ok_unlike F5 m_len m_set
  have GFe : FnOk l.prog w K mg base CX0 20 f6 _ ["feature"] (spIsFeature K (⟨[P1, P2, P6, P7, P8, P9, P17, P18, P19, P22], P20, lamQ⟩ : Tb)) := ok_isFeature (k := 14) FC6 TB6 hP6 hF m_len m_all m_MOST_VALUES F3.kp b3 g3 (GNm 14) F5.kp b5 g5 (GUn 14)
  have GKi : FnOk l.prog w K mg base CX0 19 f7 _ ["kind", "features"] (spIsKind K (⟨[P1, P2, P6, P7, P8, P9, P17, P18, P19, P22], P20, lamQ⟩ : Tb)) := ok_isKind (k := 13) FC7 TB7 hP7 hF m_len m_all m_MOST_FEATURES_OF_A_KIND F3.kp b3 g3 (GNm 13) F5.kp b5 g5 (GUn 13)
  have GSe : FnOk l.prog w K mg base CX0 20 f8 _ ["seam"] (spIsSeam K (⟨[P1, P2, P6, P7, P8, P9, P17, P18, P19, P22], P20, lamQ⟩ : Tb)) := ok_isSeam (k := 15) FC8 TB8 hP8 hF m_all F2.kp b2 g2 (GTx 15)
  have GML : FnOk l.prog w K mg base CX0 18 f9 _ ["marks", "names", "features"] (spMarksL (⟨[P1, P2, P6, P7, P8, P9, P17, P18, P19, P22], P20, lamQ⟩ : Tb)) := ok_marksL (k := 13) FC9 TB9 hP9 hF m_all
  have GMD : FnOk l.prog w K mg base CX0 18 f9 _ ["marks", "names", "features"] (spMarksD (⟨[P1, P2, P6, P7, P8, P9, P17, P18, P19, P22], P20, lamQ⟩ : Tb)) := ok_marksD (k := 13) FC9 TB9 hP9 hF m_all
  have GSt : FnOk l.prog w K mg base CX0 19 f10 _ ["stem", "features", "kinds"] (spIsStem K (⟨[P1, P2, P6, P7, P8, P9, P17, P18, P19, P22], P20, lamQ⟩ : Tb)) := ok_isStem (k := 13) F10 F3.kp b3 g3 (GNm 13) F4.kp b4 g4 (GRk 13) F9.kp b9 g9 GML
  have GEn : FnOk l.prog w K mg base CX0 19 f11 _ ["ending", "features"] (spIsEnding K (⟨[P1, P2, P6, P7, P8, P9, P17, P18, P19, P22], P20, lamQ⟩ : Tb)) := ok_isEnding (k := 13) F11 F3.kp b3 g3 (GNm 13) F2.kp b2 g2 (GTx 13) F4.kp b4 g4 (GRk 13) F9.kp b9 g9 GMD
  have GBu : FnOk l.prog w K mg base CX0 7 f12 _ ["bundle", "own", "features"] (spIsBundle) := ok_isBundle (k := 6) F12
  have GPa : FnOk l.prog w K mg base CX0 9 f13 _ ["part", "features", "kinds"] (spIsPart K (⟨[P1, P2, P6, P7, P8, P9, P17, P18, P19, P22], P20, lamQ⟩ : Tb)) := ok_isPart (k := 6) F13 F3.kp b3 g3 (GNm 6) F12.kp b12 g12 GBu
  have GHr : FnOk l.prog w K mg base CX0 7 f14 _ ["parts", "kinds"] (spHaveRoles K) := ok_haveRoles (k := 6) F14 m_len
  have GGr : FnOk l.prog w K mg base CX0 14 f15 _ ["group", "owns"] (spIsGroup K (⟨[P1, P2, P6, P7, P8, P9, P17, P18, P19, P22], P20, lamQ⟩ : Tb) False) := ok_groupNo F15
  have GIg : FnOk l.prog w K mg base CX0 14 f16 _ ["feature", "agrees"] (spInGroup K (⟨[P1, P2, P6, P7, P8, P9, P17, P18, P19, P22], P20, lamQ⟩ : Tb) False) := ok_inGroupNo F16
  have GOr : FnOk l.prog w K mg base CX0 11 f17 _ ["order", "many"] (spIsOrder K (⟨[P1, P2, P6, P7, P8, P9, P17, P18, P19, P22], P20, lamQ⟩ : Tb)) := ok_isOrder (k := 6) FC17 TB17 hP17 hF m_all m_MOST_STRAY m_MOST_STIR
  have GPl : ∀ k, FnOk l.prog w K mg base CX0 (k + 5) f1 _ ["rule"] (spPl K (⟨[P1, P2, P6, P7, P8, P9, P17, P18, P19, P22], P20, lamQ⟩ : Tb)) := fun k => ok_places (k := k) FC1 TB1 hP1 hF m_len m_range m_abs m_all
  have GRu : FnOk l.prog w K mg base CX0 19 f18 _ ["rule", "features", "kinds"] (spIsRule K (⟨[P1, P2, P6, P7, P8, P9, P17, P18, P19, P22], P20, lamQ⟩ : Tb) False) := ok_isRule (k := 6) FC18 TB18 hP18 hF m_all m_len m_MOST_PARTS F3.kp b3 g3 (GNm 6) F4.kp b4 g4 (GRk 6) F12.kp b12 g12 GBu F13.kp b13 g13 GPa F14.kp b14 g14 GHr F15.kp b15 g15 GGr F16.kp b16 g16 GIg F17.kp b17 g17 GOr F1.kp b1 g1 (GPl 6)
  have GCo : FnOk l.prog w K mg base CX0 48 f19 _ ["thing"] (spCopied K (⟨[P1, P2, P6, P7, P8, P9, P17, P18, P19, P22], P20, lamQ⟩ : Tb) 7) := ok_copied FC19 TB19 hP19 hF b19 g19 m_isinstance m_dict m_list m_tuple 7
  have GLe : FnOk l.prog w K mg base CX0 20 f22 _ ["rule"] (spLed K (⟨[P1, P2, P6, P7, P8, P9, P17, P18, P19, P22], P20, lamQ⟩ : Tb)) := ok_led (k := 15) FC22 TB22 hP22 hF m_all
  have GWd : FnOk l.prog w K mg base CX0 16 f25 _ ["names"] (spWd) := ok_wd (k := 15) F25 m_list
  have GKl : FnOk l.prog w K mg base CX0 17 f24 _ ["kind", "steps"] (spKl K) := ok_kl (k := 15) F24 m_len F25.kp b25 g25 GWd
  have GRi : FnOk l.prog w K mg base CX0 21 f23 _ ["rules"] (spRing K (⟨[P1, P2, P6, P7, P8, P9, P17, P18, P19, P22], P20, lamQ⟩ : Tb)) := ok_ring (k := 15) F23 m_enumerate F22.kp b22 g22 GLe F24.kp b24 g24 GKl
  have GFa : FnOk l.prog w K mg base CX0 22 f20 _ ["told"] (spFault K (⟨[P1, P2, P6, P7, P8, P9, P17, P18, P19, P22], P20, lamQ⟩ : Tb) False) := ok_fault FC20 TB20 hF rfl m_enumerate F6.kp b6 g6 GFe F7.kp b7 g7 GKi F8.kp b8 g8 GSe F10.kp b10 g10 GSt F11.kp b11 g11 GEn F18.kp b18 g18 GRu F21 b21 g21 F23.kp b23 g23 GRi
  have OX : OexC K CB := ⟨⟨xn, xq, xN, xbs, _, xsn, xsub, xab, xcol, xdd, y0, y1, y2, y3, y5, xL, rfl⟩, xsa, xe, xt, xk⟩
  have m_CB := PySem.W.mg_of X G x1
  have m_CS := PySem.W.mg_of X G x2
  have m_CR := PySem.W.mg_of X G x3
  have m_CT := PySem.W.mg_of X G x4
  have SF : EXS.SupF l.prog K CB "BadTongue.__init__" s_bt fB (PySem.W.fnX "__init__" "BadTongue.__init__" (defArgs s_bt) (defBody s_bt) (defScope s_bt) [("__class__", ccB)] .none xkV xdc xpm xan (.ref cdaB) xct) := ⟨⟨_, _, _, _, _, _, _, _, _, cdaB, ccB, _, _, _, _, _, _, _, fileB, _, rfl, xlf, xcd, xlc, xvs, xfl, xcc⟩, xkf⟩
  have SC : EXS.SupC K CB := ⟨OX, xsu, xv, xm, xst⟩
  have bX : Binds K (PySem.W.fnX "__init__" "BadTongue.__init__" (defArgs s_bt) (defBody s_bt) (defScope s_bt) [("__class__", ccB)] .none xkV xdc xpm xan (.ref cdaB) xct) ["self", "why"] [] := .all fun us hl => match us, hl with | [_, _], _ => rfl
  have GX : FnOk l.prog w K mg base CX0 5 fB _ ["self", "why"] (EXS.spXi K CB "why") := EXS.ok_xi (k := 4) (yn := "why") SF SC (NdefX.nscope_by (by decide +kernel)) rfl (by decide +kernel) rfl (fun _ _ _ _ => ⟨_, rfl⟩) ⟨_, rfl, rfl⟩ rfl rfl xtop m_super xwn
  have XC : ExCls K CB CS CR CT := ⟨exm_ref (C := CS) xse xsh xst2 xsb, ⟨xga, xgg, xe, xh, xcl, xsp, xtk, xmo⟩, ⟨xga, xgg, xe, xh⟩, xwn, xk1, xk2, xk3⟩
  have GIn : FnOk l.prog w K mg base (L2.CX l.prog w) 49 f36 _ ["self", "told"] (spInitX K (⟨[P1, P2, P6, P7, P8, P9, P17, P18, P19, P22], P20, lamQ⟩ : Tb) CC CB False) := ok_initX F36 TC OX xin xty m_CB bX GX F19.kp b19 g19 GCo F20.kp b20 g20 GFa F1.kp b1 g1 (GPl 17)
  have GWh : FnOk l.prog w K mg base CX0 51 f30 _ ["_law_told"] (spWhy K (⟨[P1, P2, P6, P7, P8, P9, P17, P18, P19, P22], P20, lamQ⟩ : Tb) False) := ok_why F30 M mC XC b36 GIn m_CB m_CS m_CR m_CT m_isinstance m_ValueError
  have GPd : FnOk l.prog w K mg base CX0 3 f31 _ ["_law_box_here", "_law_names"] (spPd K) := ok_pd F31 F29.kp b29 g29 GT m_len
  have GRd : FnOk l.prog w K mg base CX0 4 f32 _ ["_law_box_here", "_law_names"] (spRd K) := ok_rd F32 F29.kp b29 g29 GT F31.kp b31 g31 GPd m_len m_range m_max
  have GDu : FnOk l.prog w K mg base CX0 1 f33 _ ["_law_steps"] (spDue K) := ok_due F33 m_enumerate m_range m_len m_list
  have GRg : FnOk l.prog w K mg base CX0 52 f34 _ ["_law_box_here"] (spRi K (⟨[P1, P2, P6, P7, P8, P9, P17, P18, P19, P22], P20, lamQ⟩ : Tb)) := ok_ri F34 F29.kp b29 g29 GT F32.kp b32 g32 GRd F30.kp b30 g30 GWh F33.kp b33 g33 GDu m_len m_int
  exact ok_law F35 F28.kp b28 g28 GB F34.kp b34 g34 GRg m_range m_min m_max m_len
end Bn
open PySem PySem.W PyProof.Rows
set_option maxHeartbeats 0 in
theorem PySem.Challenge.cw_speechloom_k20_rings_holds : PySem.Challenge.rw_speechloom_k20_rings.Holds := by
  w_on; o_law; k_head; (case hw => w_witness2)
  k_fill
  refine GX.walk_ofTabs (l := PySem.Challenge.rw_speechloom_k20_rings) (n := 63) (k := 53) (x := "_law_script") (CX := fun _ => L2.CX0) rfl (by decide) rfl ⟨rfl, by decide, by decide⟩ (fun w h Y => PySem.W.km_in_of Y) ?F (fun _ _ _ _ _ h => h)
  case F =>
    intro w mg fa h KX G hmg T
    refine' Bn.all_mk KX G hmg T ?a1 ?l1 ?c1 ?k1 ?a2 ?l2 ?c2 ?k2 ?a3 ?l3 ?c3 ?k3 ?a4 ?l4 ?c4 ?k4 ?a5 ?l5 ?c5 ?k5 ?a6 ?l6 ?c6 ?k6 ?a7 ?l7 ?c7 ?k7 ?a8 ?l8 ?c8 ?k8 ?a9 ?l9 ?c9 ?k9 ?a10 ?l10 ?c10 ?k10 ?a11 ?l11 ?c11 ?k11 ?a12 ?l12 ?c12 ?k12 ?a13 ?l13 ?c13 ?k13 ?a14 ?l14 ?c14 ?k14 ?a15 ?l15 ?c15 ?k15 ?a16 ?l16 ?c16 ?k16 ?a17 ?l17 ?c17 ?k17 ?a18 ?l18 ?c18 ?k18 ?a19 ?l19 ?c19 ?k19 ?a20 ?l20 ?c20 ?k20 ?a21 ?l21 ?c21 ?k21 ?a22 ?l22 ?c22 ?k22 ?a23 ?l23 ?c23 ?k23 ?a24 ?l24 ?c24 ?k24 ?a25 ?l25 ?c25 ?k25 ?a26 ?l26 ?c26 ?k26 ?a27 ?l27 ?c27 ?k27 ?a28 ?l28 ?c28 ?k28 ?a29 ?l29 ?c29 ?k29 ?a30 ?l30 ?c30 ?k30 ?a31 ?l31 ?c31 ?k31 ?a32 ?l32 ?c32 ?k32 ?a33 ?l33 ?c33 ?k33 ?a34 ?l34 ?c34 ?k34 ?a35 ?l35 ?c35 ?k35 ?aC ?a36 ?i36 ?l36 ?c36 ?k36 ?pg ?hd ?po ?sa ?mk ?kc ?n1 ?n2 ?n3 ?n4 ?n5 ?e1 ?e2 ?e3 ?e4 ?e5 ?e6 ?e7 ?t1 ?r1 ?t2 ?r2 ?t6 ?r6 ?t7 ?r7 ?t8 ?r8 ?t9 ?r9 ?t17 ?r17 ?t18 ?r18 ?t19 ?r19 ?t22 ?r22 ?t20 ?r20 ?df ?x1 ?x2 ?x3 ?x4 ?xL ?xsa ?xga ?xgg ?xcl ?xwn ?xin ?xty ?xe ?xv ?xt ?xk ?xh ?xm ?xmo ?xsp ?xtk ?xse ?xsh ?xst2 ?xsb ?xst ?xlf ?xcd ?xlc ?xcc ?xkf ?xvs ?xfl ?xtop ?xsu ?xk1 ?xk2 ?xk3 ?z1 ?z2 ?z3 ?z4 ?z5 ?z6 ?z7 ?z8 ?z9 ?z10 ?z11 ?z12 ?z13 ?z14 ?z15
    (case a1 => k_is); (case l1 => k_is); (case c1 => k_is); (case k1 => k_is); (case a2 => k_is); (case l2 => k_is); (case c2 => k_is); (case k2 => k_is); (case a3 => k_is); (case l3 => k_is); (case c3 => k_is); (case k3 => k_is); (case a4 => k_is); (case l4 => k_is); (case c4 => k_is); (case k4 => k_is); (case a5 => k_is); (case l5 => k_is); (case c5 => k_is); (case k5 => k_is); (case a6 => k_is); (case l6 => k_is); (case c6 => k_is); (case k6 => k_is); (case a7 => k_is); (case l7 => k_is); (case c7 => k_is); (case k7 => k_is); (case a8 => k_is); (case l8 => k_is); (case c8 => k_is); (case k8 => k_is); (case a9 => k_is); (case l9 => k_is); (case c9 => k_is); (case k9 => k_is); (case a10 => k_is); (case l10 => k_is); (case c10 => k_is); (case k10 => k_is); (case a11 => k_is); (case l11 => k_is); (case c11 => k_is); (case k11 => k_is); (case a12 => k_is); (case l12 => k_is); (case c12 => k_is); (case k12 => k_is); (case a13 => k_is); (case l13 => k_is); (case c13 => k_is); (case k13 => k_is); (case a14 => k_is); (case l14 => k_is); (case c14 => k_is); (case k14 => k_is); (case a15 => k_is); (case l15 => k_is); (case c15 => k_is); (case k15 => k_is); (case a16 => k_is); (case l16 => k_is); (case c16 => k_is); (case k16 => k_is); (case a17 => k_is); (case l17 => k_is); (case c17 => k_is); (case k17 => k_is); (case a18 => k_is); (case l18 => k_is); (case c18 => k_is); (case k18 => k_is); (case a19 => k_is); (case l19 => k_is); (case c19 => k_is); (case k19 => k_is); (case a20 => k_is); (case l20 => k_is); (case c20 => k_is); (case k20 => k_is); (case a21 => k_is); (case l21 => k_is); (case c21 => k_is); (case k21 => k_is); (case a22 => k_is); (case l22 => k_is); (case c22 => k_is); (case k22 => k_is); (case a23 => k_is); (case l23 => k_is); (case c23 => k_is); (case k23 => k_is); (case a24 => k_is); (case l24 => k_is); (case c24 => k_is); (case k24 => k_is); (case a25 => k_is); (case l25 => k_is); (case c25 => k_is); (case k25 => k_is); (case a26 => k_is); (case l26 => k_is); (case c26 => k_is); (case k26 => k_is); (case a27 => k_is); (case l27 => k_is); (case c27 => k_is); (case k27 => k_is); (case a28 => k_is); (case l28 => k_is); (case c28 => k_is); (case k28 => k_is); (case a29 => k_is); (case l29 => k_is); (case c29 => k_is); (case k29 => k_is); (case a30 => k_is); (case l30 => k_is); (case c30 => k_is); (case k30 => k_is); (case a31 => k_is); (case l31 => k_is); (case c31 => k_is); (case k31 => k_is); (case a32 => k_is); (case l32 => k_is); (case c32 => k_is); (case k32 => k_is); (case a33 => k_is); (case l33 => k_is); (case c33 => k_is); (case k33 => k_is); (case a34 => k_is); (case l34 => k_is); (case c34 => k_is); (case k34 => k_is); (case a35 => k_is); (case l35 => k_is); (case c35 => k_is); (case k35 => k_is); (case aC => k_is); (case a36 => k_is); (case i36 => k_is); (case l36 => k_is); (case c36 => k_is); (case k36 => k_is); (case pg => k_is); (case hd => k_is); (case po => k_is); (case sa => k_is); (case mk => k_is); (case kc => k_is); (case n1 => k_is); (case n2 => k_is); (case n3 => k_is); (case n4 => k_is); (case n5 => k_is); (case e1 => k_is); (case e2 => k_is); (case e3 => k_is); (case e4 => k_is); (case e5 => k_is); (case e6 => k_is); (case e7 => k_is); (case z1 => k_is); (case z2 => k_is); (case z3 => k_is); (case z4 => k_is); (case z5 => k_is); (case z6 => k_is); (case z7 => k_is); (case z8 => k_is); (case z9 => k_is); (case z10 => k_is); (case z11 => k_is); (case z12 => k_is); (case z13 => k_is); (case z14 => k_is); (case z15 => k_is)
    case x1 => k_is
    case x2 => k_is
    case x3 => k_is
    case x4 => k_is
    case xL => k_is
    case xsa => k_is
    case xga => k_is
    case xgg => k_is
    case xcl => k_is
    case xwn => k_is
    case xin => k_is
    case xty => k_is
    case xe => k_is
    case xv => k_is
    case xt => k_is
    case xk => k_is
    case xh => k_is
    case xm => k_is
    case xmo => k_is
    case xsp => k_is
    case xtk => k_is
    case xse => k_is
    case xsh => k_is
    case xst2 => k_is
    case xsb => k_is
    case xst => k_is
    case xlf => k_is
    case xcd => k_is
    case xlc => k_is
    case xcc => k_is
    case xkf => k_is
    case xvs => rfl
    case xfl => kernel_rfl
    case xtop => kernel_rfl
    case xsu => kernel_rfl
    case xk1 => kernel_rfl
    case xk2 => kernel_rfl
    case xk3 => kernel_rfl
    case t1 => kernel_rfl
    case t2 => kernel_rfl
    case t6 => kernel_rfl
    case t7 => kernel_rfl
    case t8 => kernel_rfl
    case t9 => kernel_rfl
    case t17 => kernel_rfl
    case t18 => kernel_rfl
    case t19 => kernel_rfl
    case t22 => kernel_rfl
    case t20 => kernel_rfl
    case df => kernel_rfl
    case r1 => decide +kernel
    case r2 => decide +kernel
    case r6 => decide +kernel
    case r7 => decide +kernel
    case r8 => decide +kernel
    case r9 => decide +kernel
    case r17 => decide +kernel
    case r18 => decide +kernel
    case r19 => decide +kernel
    case r22 => decide +kernel
    case r20 => decide +kernel
