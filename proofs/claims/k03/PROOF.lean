import PyProof.Rows.All
import Wide.All
import OpenK.AllK
import Wide.FinOn
import HandS.ForMost
import HandS.IsInst
import HandS.Codes
import HandS.Conv
import HandS.Star
import HandS.DeepEq
import HandS.ListEq
import HandS.SetFor
import HandS.Flow
import KE.KDictSum
import HandS.Rev
import HandS.RevTup
import KE.KDictList
import HandS.Walk
import PySem.Challenge.RW_speechloom_k03_all_joined
set_option Elab.async false
set_option linter.all false
set_option maxRecDepth 100000
set_option maxHeartbeats 4000000
/-! rules of my own over the hand layer -/
namespace PySem.SeqAt
open AutoSeq1 (wpAny_loadPart')
open MeetsSeq MeetsSeq2 MeetsSeq3 SeqRoads2
section
variable {prog : Program} {w : World}
theorem my_neLoop (l b : Addr) (us vs : Array Value) (n m : Nat) (du dv : Option Addr) (su sv : Array (Option Value)) (hz : us.size = vs.size) (k : Nat) : ∀ i : Nat, us.size - i = k →
    MeetsIn prog w (Builtin.«list.__eq__.loop» ⟨[.ref l, .ref b, rawInt i, rawInt 3], []⟩) (fun A R s =>
      s.heap.get? l = some { cls := .type "list", dict := du, data := .seq us n, slots := su } ∧ s.heap.get? b = some { cls := .type "list", dict := dv, data := .seq vs m, slots := sv } ∧
      (∀ j (p : j < us.size) (q : j < vs.size), EqP prog w A.in1 s us[j] vs[j] true) ∧ R (.ok (.ret (.bool false))) s) := by
  induction k with
  | zero =>
    intro i hk A R s h
    obtain ⟨hp, g, d, tk, os⟩ := s
    obtain ⟨hl, hb, he, h⟩ := h
    wp_walk using wpAny_loadPart' hl, wpAny_loadPart' hb
    have e1 : us[((i : Nat) : Int).toNat]? = none := by simp; omega
    have e2 : vs[((i : Nat) : Int).toNat]? = none := by simp; omega
    rw [e1, e2]
    wp_walk using wpAny_loadPart' hl, wpAny_loadPart' hb
    show R (.ok (.ret (.bool (us.size != vs.size)))) _
    rw [hz]
    simpa using h
  | succ k ih =>
    intro i hk A R s h
    obtain ⟨hp, g, d, tk, os⟩ := s
    obtain ⟨hl, hb, he, h⟩ := h
    wp_walk using wpAny_loadPart' hl, wpAny_loadPart' hb
    have p1 : i < us.size := by omega
    have p2 : i < vs.size := by omega
    have e1 : us[((i : Nat) : Int).toNat]? = some us[i] := by simp [p1]
    have e2 : vs[((i : Nat) : Int).toNat]? = some vs[i] := by simp [p2]
    have ec : ((i : Int) + 1) = ((i + 1 : Nat) : Int) := by push_cast; rfl
    rw [e1, e2]
    refine wpAny_bind (he i p1 p2 _ _ ?_)
    wp_walk
    rw [ec]
    exact ⟨plainId_quiet plain_eq_loop _, codeAny_builtin entry_eq_loop (by
      rw [Around.under_plainId plain_eq_loop _]
      exact ih (i + 1) (by omega) A R _ ⟨hl, hb, he, h⟩)⟩
theorem my_listNe (l b : Addr) (us vs : Array Value) (n m : Nat) (du dv : Option Addr) (su sv : Array (Option Value)) (hz : us.size = vs.size) :
    MeetsIn prog w (Builtin.«list.__ne__» ⟨[.ref l, .ref b], []⟩) (fun A R s =>
      s.heap.get? l = some { cls := .type "list", dict := du, data := .seq us n, slots := su } ∧ s.heap.get? b = some { cls := .type "list", dict := dv, data := .seq vs m, slots := sv } ∧
      (∀ j (p : j < us.size) (q : j < vs.size), EqP prog w A.in1 s us[j] vs[j] true) ∧ R (.ok (.ret (.bool false))) s) := by
  intro A R s h
  obtain ⟨hp, g, d, tk, os⟩ := s
  obtain ⟨hl, hb, he, h⟩ := h
  have f3 := AutoSeq1.sub_list_list
  have hn : ¬ (us.size != vs.size) = true := by simp [hz]
  wp_walk using wpAny_loadPart' hl, wpAny_loadPart' hb
  exact ⟨plainId_quiet plain_eq_loop _, codeAny_builtin entry_eq_loop (by
    rw [Around.under_plainId plain_eq_loop _]
    exact my_neLoop l b us vs n m du dv su sv hz _ 0 rfl A R _ ⟨hl, hb, he, h⟩)⟩
theorem my_rcNe {A : Around} {s : Shared} {l b : Addr} {us vs : Array Value} (hl : s.heap.IsList l us) (hb : s.heap.IsList b vs) (hz : us.size = vs.size) (hu : A.units < cLine)
    (he : ∀ j (p : j < us.size) (q : j < vs.size), EqP prog w A.in1 s us[j] vs[j] true) (E Q : Value → Shared → Prop) (h : Q (.bool false) s) : wpAny (model prog w) A (richCompare .NotEq (.ref l) (.ref b)) Q E s := by
  obtain ⟨⟨c1, du, x1, su⟩, ho, hc, n, hd⟩ := id hl
  obtain ⟨⟨c2, dv, x2, sv⟩, ho2, hc2, m, hd2⟩ := id hb
  simp only at hc hd hc2 hd2
  subst hc hd hc2 hd2
  have ta : s.TypeIs (.ref l) "list" := ⟨_, ho, rfl⟩
  have tb : s.TypeIs (.ref b) "list" := ⟨_, ho2, rfl⟩
  exact wpAny_richCompare_same_room (op := .NotEq) ta tb F.slot_list_ne (call_meetsIn F.slot_list_ne ta F.entry_list_ne (F.args_list_ne_2 _ _) (my_listNe l b us vs n m du dv su sv hz)
    ⟨ho, ho2, he, show Value.bool false ≠ Value.notImplemented ∧ Q (.bool false) s from ⟨(fun x => nomatch x), h⟩⟩) hu
end
end PySem.SeqAt
namespace BR
open PySem PySem.Spec PyProof.Rows L2
section
variable {X : Cx}
/-- two lists that are equal to the bottom: a != b is False -/
def rNeV (K : PySem.W.Frag) : R2 := fun x y H Q => ∃ a b xs ys n, x = .ref a ∧ y = .ref b ∧ SqL K H a xs ∧ SqL K H b ys ∧ n ≤ 60 ∧ Paired (EqV K H n) xs ys ∧ Q (.bl false) H
theorem op_neV (hu : X.A.units + 64 < cLine) : OpR X (compareOp .NotEq) (rNeV X.K) := by
  intro pins s σ H x y v u Q I rx ry h
  obtain ⟨a, b, xs, ys, n, rfl, rfl, ha, hb, hn, hp, q⟩ := h
  cases (show v = Value.ref a from rx)
  cases (show u = Value.ref b from ry)
  obtain ⟨us, r1, p1, _⟩ := I.list ha
  obtain ⟨ws, r2, p2, _⟩ := I.list hb
  have hz : us.toArray.size = ws.toArray.size := by
    rw [List.size_toArray, List.size_toArray, ← r1.length, ← r2.length]
    exact Paired.length hp
  refine SeqAt.my_rcNe p1.isList p2.isList hz (by omega) (fun j h1 h2 => ?_) _ _ ⟨.bl false, H, I, rfl, q⟩
  have k := items_run (eqV_run I n X.A.in1 (by show X.A.units + 1 + n < cLine; omega)) hp r1 r2 j (by simpa using h1) (by simpa using h2)
  simpa using k
/-! *d in a display: the keys of a dict -/
theorem star_dK {pins : List (Addr × Obj)} {σ : L2.St} {H : Hp} {s : Shared} {p : Addr} {kvs : List (Key × V)} {E : Value → Shared → Prop} {Q : List Value → Shared → Prop} (hc : X.calm = true) (I : Inv X pins σ H s) (hk : H p = some (.dK kvs))
    (hQ : ∀ us s', Inv X pins σ H s' → Vals (kvs.map fun kv => kV kv.1) us → Q us s') : PySem.W.StarOf (model X.prog X.w) X.A E (.ref p) Q s := by
  obtain ⟨z, lo, vs, rk, hd⟩ := (show ObjOk X.prog X.w H s.heap p (.dK kvs) from I.hok p _ hk)
  obtain ⟨ep, hat⟩ := hd.dictAt
  have hl : kvs.length = vs.length := Paired.length rk
  have hT : s.TypeIs (.ref p) "dict" := hd.typeIs
  have zz : wpAny (model X.prog X.w) X.A (collect (.ref p)) Q E s := by
    refine PySem.W.kdu_collect (PySem.W.kdl_dict (knd := mixKind X.prog X.w) (kvs := vs) (ep := ep) lo) (I.ok.hd hc) hat (by rw [← hl]; exact z) fun h' tk acc hkeep hacc => ?_
    refine hQ acc.toList _ (I.kept (t' := tk) hkeep) ?_
    have el : acc.toList.length = acc.size := by simp
    refine vals_of_at (by rw [List.length_map, el, hacc.1, hl]) fun j x w h1 h2 => ?_
    obtain ⟨k, y, hky, hi⟩ := hacc.2 j w (by rw [← Array.getElem?_toList]; exact h2)
    have e1 : (kvs.map (·.1))[j]? = some k := by
      rw [KV.keys rk, List.getElem?_map, hky] <;> rfl
    have e2 : (kvs.map fun kv => kV kv.1)[j]? = some (kV k) := by
      have e3 : (kvs.map fun kv => kV kv.1) = (kvs.map (·.1)).map kV := by rw [List.map_map] <;> rfl
      rw [e3, List.getElem?_map, e1] <;> rfl
    rw [e2] at h1
    cases h1
    exact keyIs_rel hi
  unfold PySem.W.StarOf notIterableAtAll
  exact wpAny_bind (wpAny_specialOf hT PySem.F.slot_dict_iter.lookup (wpAny_pure ⟨rfl, zz⟩))
def tStarD (te : TE) (t : TA) : TA := fun σ H Q => te σ H fun x H1 => ∃ p kvs, x = V.ref p ∧ H1 p = some (.dK kvs) ∧ t σ H1 fun ys H2 => Q ((kvs.map fun kv => kV kv.1) ++ ys) H2
theorem pa_starD {e : Expr} {es : List Expr} {te : TE} {t : TA} {p : Pos} (hc : X.calm = true) (he : PE X e te) (hr : PA X es t) (hs : starEach (.Starred e p :: es) X.env = (true, eval e X.env) :: starEach es X.env := by rfl) : PA X (.Starred e p :: es) (tStarD te t) := by
  refine ⟨fun pos pins s σ H Q I h => ?_⟩
  refine PySem.W.items_star (thn (he.run pins s σ H _ I h) fun v s1 ⟨y, H1, I1, ry, a, kvs, ey, hx, q⟩ => ?_) hs
  subst ey
  obtain rfl : v = Value.ref a := ry
  refine star_dK hc I1 hx fun us s2 I2 rv => ?_
  exact thn (hr.run pos pins s2 σ H1 _ I2 q) fun ws s3 ⟨vs, H3, I3, r3, q3⟩ => ⟨_ ++ vs, H3, I3, rv.append r3, q3⟩
/-! rules whose reading names the written part, said with a letter for it (for the block of a comprehension) -/
theorem call_listK {K : PySem.W.Frag} (e : X.K = K) : CallR X (.type "list") (fun xs H Q => ∃ p ys, xs = [.ref p] ∧ (SqL K H p ys ∨ SqT K H p ys) ∧ ∀ l, H l = none → Q (.ref l) (upd H l (.lst ys))) := by
  subst e
  exact call_list_of
theorem op_inK {K : PySem.W.Frag} (e : X.K = K) : OpR X (compareOp .In) (rIn K false) := by
  subst e
  exact op_in_seq
theorem pt_truthK {K : PySem.W.Frag} {a : Expr} {ta : TE} (e : X.K = K) (ha : PE X a ta) (he : ∀ whole, isTrue a X.env whole = (do let v ← whole; standAt a.pos; holding [v] (truthy v))) :
    PT X a (fun σ H Q => ta σ H fun x H' => ∃ k, TruV K x H' k ∧ Q k H') := by
  subst e
  exact pt_truth ha he
theorem call_isiX {K : PySem.W.Frag} (e : X.K = K) : CallR X (.builtin "isinstance") (rIsi K) := by
  subst e
  exact call_isi
theorem pe_bmK {K : PySem.W.Frag} {o e : Expr} {es : List Expr} {to : TE} {t : TA} {name : Str} {apos cpos : Pos} {T id : String} {r : V → List V → Hp → VK → Prop} (eK : X.K = K)
    (pa : PlainAttrs T) (slot : Slot T name id) (hty : typeOf (.builtin id) = pure (.type "method_descriptor")) (hm : MtR X id r) (ho : PE X o to) (ha : PA X (e :: es) t)
    (h1 : attributeBase o name X.env (eval o X.env) = eval o X.env := by rfl)
    (h2 : ((backTo cpos (starEach (e :: es) X.env)).all (fun x => !x.1) && (backToKw cpos (keywordEach [] X.env)).all (fun x => x.1.isSome) && decide ((e :: es).length + ([] : List Keyword).length + (if ([] : List Keyword).isEmpty then 0 else 1) < 30)) = true := by rfl)
    (h3 : (apos.endLine == cpos.line) = true := by rfl) (h4 : starEach (e :: es) X.env = (false, eval e X.env) :: starEach es X.env := by rfl) (h5 : (backTo cpos (starEach es X.env)).any (·.1) = false := by rfl) :
    PE X (.Call (.Attribute o name apos) (e :: es) [] cpos) (tBM K T r to t) := by
  subst eK
  exact pe_bm pa slot hty hm ho ha h1 h2 h3 h4 h5
/-! list.count of a text in a list of texts -/
def eqsT (z : Str) : Value → Bool
  | .str y _ => y == z
  | _ => false
theorem eqsT_count {z : Str} : ∀ {ss : List Str} {us : List Value}, Vals (ss.map V.str) us → us.countP (eqsT z) = ss.count z
  | [], _, r => by cases r; rfl
  | y :: ss, _, r => by
    cases r with
    | cons h t =>
      obtain ⟨k, rfl⟩ := h
      rw [List.countP_cons, List.count_cons, eqsT_count t]
      rfl
theorem eqsT_at {A : Around} {s : Shared} {z : Str} {t : Tok} : ∀ {ss : List Str} {us : List Value}, Vals (ss.map V.str) us → ∀ y ∈ us, SeqAt.EqAt A s y (.str z t) (eqsT z y)
  | [], _, r, y, hy => by cases r; cases hy
  | x :: ss, _, r, y, hy => by
    cases r with
    | cons h q =>
      obtain ⟨k, rfl⟩ := h
      rcases List.mem_cons.mp hy with rfl | e
      · exact SeqAt.EqAt.str_str _ _ _ _
      · exact eqsT_at q y e
theorem mt_countS : MtR X "list.count" (fun x vs H Q => ∃ (p : Addr) (ss : List Str) (z : Str), x = .ref p ∧ vs = [.str z] ∧ SqL X.K H p (ss.map V.str) ∧ Q (.int (ss.count z : Nat)) H) := by
  intro pins s σ H x xs v us Q I rx rxs h
  obtain ⟨p, ss, z, rfl, rfl, hs, q⟩ := h
  cases rx
  obtain ⟨u, rfl, ru⟩ := rxs.one
  obtain ⟨t, rfl⟩ := ru
  obtain ⟨its, rv, ⟨⟨c1, dd, x1, sl⟩, n, ho, hc, hdn, hd⟩, hlen⟩ := I.list hs
  simp only at hc hd
  subst hc hd
  refine call_meets PySem.F.slot_list_count ⟨_, ho, rfl⟩ PySem.F.entry_list_count (PySem.F.args_list_count_2 _ _)
    (SeqAt.list_countAt p its.toArray n dd sl (.str z t) (eqsT z)) ⟨ho, fun y hy => eqsT_at rv y (by simpa using hy), ?_⟩
  have ec : its.toArray.toList.countP (eqsT z) = ss.count z := eqsT_count rv
  refine ⟨.int (ss.count z : Nat), H, I.tok _, ⟨s.toks, ?_⟩, q⟩
  show Value.int ((its.toArray.toList.countP (eqsT z) : Nat) : Int) s.toks = Value.int ((ss.count z : Nat) : Int) s.toks
  rw [ec]
theorem mt_countK {K : PySem.W.Frag} (e : X.K = K) : MtR X "list.count" (fun x vs H Q => ∃ (p : Addr) (ss : List Str) (z : Str), x = .ref p ∧ vs = [.str z] ∧ SqL K H p (ss.map V.str) ∧ Q (.int (ss.count z : Nat)) H) := by
  subst e
  exact mt_countS
end
end BR

/-! list(reversed(a list)) -/
namespace RT
open PySem PySem.Spec PyProof.Rows
section
variable {prog : Program} {w : World} {A : Around} {E : Value → Shared → Prop} {s : Shared}
theorem my_extend {it l S : Addr} {its : Array Value} {c₀ : Nat} {R : Result → Shared → Prop} (hh : A.handled = none) (hit : s.heap.IsRevIter it l ((its.size : Int) - 1)) (hl : s.heap.IsList l its) (hne : l ≠ it) (hn : its.size ≤ sizeLine)
    (hSi : S ≠ it) (hSl : S ≠ l) (hS : s.heap.get? S = some { cls := .type "list", data := .seq #[] c₀ })
    (hR : ∀ (h' : Heap) (tk : Nat) (acc : Array Value) (c' : Nat), (∀ b o, b ≠ S → b ≠ it → s.heap.get? b = some o → h'.get? b = some o) → h'.get? S = some { cls := .type "list", dict := none, data := .seq acc c', slots := #[] } → ItemsOf (fun i v => its[its.size - 1 - i]? = some v) acc its.size → R (.ok (.ret .none)) { s with heap := h', toks := tk }) :
    wpAny (model prog w) A.in1 (Builtin.List.listExtendWith (.ref S) (.ref it) .none) (fun fin s' => match fin with | .done f => R (.ok f) s' | .again c' => c'.quiet = true ∧ codeAny (model prog w) A c' R s') (fun e s' => R (.error e) s') s := by
  have W := (Walks.listRev (prog := prog) (w := w) (A := A.in1) hh it l hne its).toS
  have hSf : S ∉ [it, l] := by simp only [List.mem_cons, List.not_mem_nil, or_false, not_or]; exact ⟨hSi, hSl⟩
  have hT : s.TypeIs (.ref it) "list_reverseiterator" := Heap.IsRevIter.typeIs hit
  have h1 : Builtin.List.listSameRef (.ref S) (.ref it) = false := by simp [Builtin.List.listSameRef, hSi]
  unfold Builtin.List.listExtendWith
  refine wpAny_bind (wpAny_typeOf hT ?_)
  rw [if_neg (by rw [h1]; decide)]
  refine wpAny_bind (wpAny_pyIter_revIter hit ?_)
  refine wpAny_bind (wpAny_holding ?_)
  unfold Builtin.List.listLengthHint
  refine wpAny_bind (wpAny_specialOf hT nolen_lri ?_)
  show wpAny _ A.in1 (specialOf (Value.ref it) (Str.ofString "__length_hint__") >>= _) _ _ _
  refine wpAny_bind (wpAny_specialOf hT hint_lri ?_)
  generalize hid : ("list_reverseiterator.__length_hint__" : String) = id0
  wp_delta
  rw [show splitId id0 = some ("list_reverseiterator", "__length_hint__") from by subst hid; decide +kernel]
  subst hid
  refine wpAny_bind (wpAny_isInstance (b := true) hT (by rw [isSubtype_type]; kernel_rfl) ?_)
  refine wpAny_pure ?_
  rw [if_neg (by decide)]
  have e0 : ((its.size : Nat) : Int) - 1 - ((0 : Nat) : Int) = (its.size : Int) - 1 := by omega
  refine wpAny_pure ⟨plainId_quiet F.plain_extend_loop _, codeAny_extend_loopS W hn S hSf .none its.size 0 _ #[] c₀ rfl (Nat.zero_le _) ⟨Nat.zero_le _, by rw [e0]; exact hit, hl⟩ hS (ItemsOf.nil _) fun s' acc' c' hm hS' hacc => ?_⟩
  rw [Moved.eq_with hm]
  refine hR s'.heap s'.toks acc' c' (fun b o hb hb2 e => hm.heap b o (fun hmem => ?_) e) hS' hacc
  rcases List.mem_cons.mp hmem with e' | hmem
  · exact hb e'
  · exact hb2 (List.mem_singleton.mp hmem)
theorem my_listRev {it l : Addr} {its : Array Value} {Q : Value → Shared → Prop} (hh : A.handled = none) (hit : s.heap.IsRevIter it l ((its.size : Int) - 1)) (hl : s.heap.IsList l its) (hne : l ≠ it) (hn : its.size ≤ sizeLine)
    (hQ : ∀ (h' : Heap) (tk : Nat) (acc : Array Value) (c' : Nat), (∀ b o, b ≠ it → s.heap.get? b = some o → h'.get? b = some o) → h'.get? s.heap.objs.size = some { cls := .type "list", dict := none, data := .seq acc c', slots := #[] } → ItemsOf (fun i v => its[its.size - 1 - i]? = some v) acc its.size → Q (.ref s.heap.objs.size) { s with heap := h', toks := tk }) :
    wpAny (model prog w) A (call (.type "list") [.ref it]) Q E s := by
  refine PySem.callType_codes (Q₁ := fun obj s₁ => obj = .ref s.heap.objs.size ∧ s₁ = { s with heap := s.heap.push { cls := .type "list", data := .seq #[] } }) PySem.F.called_list (PySem.F.typeCall_list_1 _) PySem.F.entry_list_init (code_list_new _ ⟨rfl, rfl⟩) fun obj s₁ h₁ => ?_
  obtain ⟨rfl, rfl⟩ := h₁
  obtain ⟨oi, hoi, _⟩ := id hit
  obtain ⟨ol, hol, _⟩ := id hl
  have hSi : s.heap.objs.size ≠ it := Nat.ne_of_gt (Heap.lt_size hoi)
  have hSl : s.heap.objs.size ≠ l := Nat.ne_of_gt (Heap.lt_size hol)
  have hS : (s.heap.push { cls := .type "list", data := .seq #[] }).get? s.heap.objs.size = some { cls := .type "list", data := .seq #[] } := Heap.get?_push_size _ rfl
  refine ⟨⟨_, hS, rfl⟩, PySem.F.args_list_init_2 _ _, ?_⟩
  show wpAny _ A.in1.in1 (do let old ← Builtin.List.listItems (.ref s.heap.objs.size); Builtin.List.listUpdate (.ref s.heap.objs.size) (fun _ => #[]); letGo old.toList.reverse; Builtin.List.listExtendWith (.ref s.heap.objs.size) (.ref it) .none) _ _ _
  refine wpAny_bind ?_
  unfold Builtin.List.listItems
  refine wpAny_bind (wpAny_seqItems hS rfl (wpAny_pure ?_))
  show wpAny _ _ (updateSeq s.heap.objs.size (fun _ => #[]) >>= fun _ => letGo (#[] : Array Value).toList.reverse >>= fun _ => Builtin.List.listExtendWith (.ref s.heap.objs.size) (.ref it) .none) _ _ _
  refine wpAny_bind (wpAny_updateSeq hS rfl ?_)
  have hS2 := Heap.get?_update_self (Obj.mapSeq (fun _ => (#[] : Array Value))) hS rfl
  have oth : ∀ b o, b ≠ s.heap.objs.size → s.heap.get? b = some o → ((s.heap.push { cls := .type "list", data := .seq #[] }).update s.heap.objs.size (Obj.mapSeq (fun _ => (#[] : Array Value)))).get? b = some o :=
    fun b o hb e => (Heap.get?_update_other _ _ (Ne.symm hb)).trans (Heap.get?_push_of_some _ e)
  refine wpAny_bind (wpAny_letGo ?_)
  refine my_extend (A := A.in1) hh (hit.at fun o e => oth _ _ hSi.symm e) ?_ hne hn hSi hSl hS2 (fun h' tk acc c' hk hS' hacc => ?_)
  · obtain ⟨o, h1, h2, h3⟩ := hl
    exact ⟨o, oth _ _ hSl.symm h1, h2, h3⟩
  · exact ⟨rfl, hQ h' tk acc c' (fun b o hb e => hk b o (Nat.ne_of_lt (Heap.lt_size e)) hb (oth b o (Nat.ne_of_lt (Heap.lt_size e)) e)) hS' hacc⟩
end
end RT
namespace BR
open PySem PySem.Spec PyProof.Rows L2 RT
section
variable {X : Cx}
def tLstRev (K : PySem.W.Frag) (te : TE) : TE := fun σ H Q => te σ H fun v H1 => ∃ (a : Addr) (xs : List V), v = .ref a ∧ SqL K H1 a xs ∧ ∀ q, H1 q = none → Q (.ref q) (upd H1 q (.lst xs.reverse))
theorem pe_listRev {e : Expr} {te : TE} {p p2 pos pos2 : Pos} (hc : X.calm = true) (hg : Gl X "list") (hm : X.mg "list" = none) (hg2 : Gl X "reversed") (hm2 : X.mg "reversed" = none) (he : PE X e te)
    (hs : starEach [e] X.env = (false, eval e X.env) :: starEach [] X.env := by rfl)
    (hs2 : starEach [.Call (.Name "reversed" p2) [e] [] pos2] X.env = (false, eval (.Call (.Name "reversed" p2) [e] [] pos2) X.env) :: starEach [] X.env := by rfl) :
    PE X (.Call (.Name "list" p) [.Call (.Name "reversed" p2) [e] [] pos2] [] pos) (tLstRev X.K te) := by
  refine ⟨fun pins s σ H Q I h => ?_⟩
  refine Call_ (ld_blt I hg hm PyProof.Rows.boot_list (PyProof.Rows.callWith_type1 (args_cons (Call_ (ld_blt I hg2 hm2 PyProof.Rows.boot_reversed (PyProof.Rows.callWith_type1 (args_cons (thn (he.run pins s σ H _ I h) fun u s1 ⟨v, H1, I1, r1, q1⟩ => args_nil ?_) hs) hs rfl))) hs2) hs2 rfl))
  obtain ⟨a, xs, ev, hq, q⟩ := q1
  subst ev
  obtain rfl : u = Value.ref a := r1
  obtain ⟨its, rv, p', hz⟩ := I1.list hq
  refine call_reversed_list p'.isList (args_nil ?_)
  have k0 : ∀ b o, s1.heap.get? b = some o → (s1.heap.push (revObj a ((its.toArray.size : Int) - 1))).get? b = some o := fun b o e => Heap.get?_push_of_some _ e
  have I2 : Inv X pins σ H1 { s1 with heap := s1.heap.push (revObj a ((its.toArray.size : Int) - 1)) } := I1.kept (t' := s1.toks) k0
  obtain ⟨f0, f1, f2, f3, f4, f5⟩ := I1.fpOk (H' := H1) (b := s1.heap.objs.size) (Nat.le_refl _) (I1.hok.fresh (Nat.le_refl _))
  have hl := p'.isList
  obtain ⟨ol, hol, _⟩ := id hl
  have hne : a ≠ s1.heap.objs.size := Nat.ne_of_lt (Heap.lt_size hol)
  have hn : its.toArray.size ≤ sizeLine := by rw [List.size_toArray, ← rv.length]; exact hz
  refine my_listRev (s := { s1 with heap := s1.heap.push (revObj a ((its.toArray.size : Int) - 1)) }) (I1.ok.hd hc) ⟨_, Heap.get?_push_size _ rfl, rfl, rfl⟩ (hl.push _) hne hn fun h' tk acc c' hk hS hi => ?_
  refine ⟨.ref _, upd H1 (s1.heap.push (revObj a ((its.toArray.size : Int) - 1))).objs.size (.lst xs.reverse), I2.turnedNew (ch := [s1.heap.objs.size]) (t' := tk) (fun b o hb e => hk b o (fun z => hb (List.mem_singleton.mpr z)) e) (fun b hb => ?_) (Nat.le_refl _)
    (show ObjOk X.prog X.w _ _ _ (.lst xs.reverse) from ⟨by rw [List.length_reverse]; exact hz, acc.toList, c', vals_rev rv hi, by rw [Array.toArray_toList]; exact hS⟩), rfl, q _ (I2.hok.fresh (Nat.le_refl _))⟩
  rw [List.mem_singleton.mp hb]
  exact I1.fpOk (Nat.le_refl _) (I1.hok.fresh (Nat.le_refl _))
end
end BR

namespace Bn
open PySem PySem.Spec PyProof.Rows L2 BR
/-! ### heaps -/
def Kp (b : Addr) (H H' : Hp) : Prop := ∀ a o, a ≠ b → H a = some o → H' a = some o
theorem Kp.refl (b : Addr) (H : Hp) : Kp b H H := fun _ _ _ h => h
theorem Kp.trans {b : Addr} {H H1 H2 : Hp} (x : Kp b H H1) (y : Kp b H1 H2) : Kp b H H2 := fun a o n h => y a o n (x a o n h)
theorem Kp.put {b : Addr} {H : Hp} {o : HO} : Kp b H (upd H b o) := fun a x n h => by
  rw [upd_ne n]
  exact h
theorem Kp.new {b p : Addr} {H : Hp} {o : HO} (h : H p = none) : Kp b H (upd H p o) := fun a x n e => by
  rw [upd_ne (ne_of_none e h)]
  exact e
theorem same_new {H : Hp} {p : Addr} {o : HO} (h : H p = none) : Same H (upd H p o) := fun b x e => by
  rw [upd_ne (ne_of_none e h)]
  exact e
theorem Kp.of_same {b : Addr} {H H' : Hp} (h : Same H H') : Kp b H H' := fun a o _ e => h a o e
theorem Same.kp {b : Addr} {H0 H H' : Hp} (s : Same H0 H) (n : H0 b = none) (k : Kp b H H') : Same H0 H' := fun a o e => k a o (ne_of_none e n) (s a o e)
/-- what is new is changed -/
theorem Same.own {p : Addr} {H0 H : Hp} {o : HO} (s : Same H0 H) (n : H0 p = none) : Same H0 (upd H p o) := fun a x e => by
  rw [upd_ne (ne_of_none e n)]
  exact s a x e
def Bx (H : Hp) (b : Addr) : Prop := ∃ x y z t : Int, H b = some (.lst [.int x, .int y, .int z, .int t])
theorem Bx.same {H H' : Hp} {b : Addr} (h : Bx H b) (s : Same H H') : Bx H' b := by
  obtain ⟨x, y, z, t, e⟩ := h
  exact ⟨x, y, z, t, s _ _ e⟩
theorem Bx.ne {H : Hp} {b p : Addr} (h : Bx H b) (n : H p = none) : b ≠ p := by
  obtain ⟨x, y, z, t, e⟩ := h
  exact ne_of_none e n
structure Kb (b : Addr) (H H' : Hp) : Prop where
  k : Kp b H H'
  x : Bx H' b
theorem Kb.refl {b : Addr} {H : Hp} (h : Bx H b) : Kb b H H := ⟨Kp.refl b H, h⟩
theorem Kb.trans {b : Addr} {H H1 H2 : Hp} (p : Kb b H H1) (q : Kb b H1 H2) : Kb b H H2 := ⟨p.k.trans q.k, q.x⟩
theorem Kb.new {b p : Addr} {H : Hp} {o : HO} (hb : Bx H b) (h : H p = none) : Kb b H (upd H p o) := ⟨Kp.new h, hb.same (same_new h)⟩
theorem Kb.free {b a : Addr} {H H' : Hp} (p : Kb b H H') (h : H' a = none) : H a = none := by
  cases e : H a with
  | none => rfl
  | some o =>
    by_cases q : a = b
    · subst q
      obtain ⟨x, y, z, t, e2⟩ := p.x
      rw [e2] at h
      cases h
    · rw [p.k a o q e] at h
      cases h
theorem Kb.own {b p : Addr} {H H' : Hp} {o : HO} (q : Kb b H H') (h : H p = none) (n : p ≠ b) : Kb b H (upd H' p o) := ⟨fun a x na e => by
  rw [upd_ne (ne_of_none e h)]
  exact q.k a x na e, by
  obtain ⟨x, y, z, t, e2⟩ := q.x
  exact ⟨x, y, z, t, by rw [upd_ne n.symm]; exact e2⟩⟩
theorem line1000 {n : Nat} (h : n ≤ 1000) : n ≤ sizeLine := Nat.le_of_lt (small1000 h)
theorem tYes_in {σ : L2.St} {H : Hp} {f g : Hp → Prop} (h : f H) : tYes σ H fun b H3 => if b = true then f H3 else g H3 := by
  show (if true = true then f H else g H)
  exact iteT h
def lenAt (H : Hp) (l : Addr) : Nat := match H l with
  | some (.lst xs) => xs.length
  | _ => 0
theorem lenAt_of {H : Hp} {l : Addr} {xs : List V} (h : H l = some (.lst xs)) : lenAt H l = xs.length := by
  unfold lenAt
  rw [h]
theorem ne_bx {H : Hp} {b p : Addr} {o : HO} (hb : Bx H b) (h : H p = some o) (hn : ∀ x y z t : Int, o ≠ .lst [.int x, .int y, .int z, .int t]) : p ≠ b := fun e => by
  obtain ⟨x, y, z, t, e2⟩ := hb
  rw [e, e2] at h
  exact hn x y z t (Option.some.inj h).symm
/-! ### texts -/
def okS (x : Str) : Prop := ∀ c ∈ TL.tl x, c < 0x110000
theorem okS_iff (x : Str) : PyData.strOk x = true ↔ okS x := by
  unfold PyData.strOk okS TL.tl
  rw [← Array.all_toList, List.all_eq_true]
  exact ⟨fun h c hc => of_decide_eq_true (h c hc), fun h c hc => decide_eq_true (h c hc)⟩
theorem strs_shaped : ∀ (vs : List Str), (∀ x ∈ vs, okS x) → PyData.canLayAll0 (vs.map PyData.str) = true ∧ PyData.depthAll (vs.map PyData.str) = 0
  | [], _ => ⟨rfl, rfl⟩
  | v :: vs, h => by
    obtain ⟨a, b⟩ := strs_shaped vs fun x hx => h x (List.mem_cons_of_mem _ hx)
    refine ⟨?_, ?_⟩
    · show (PyData.strOk v && PyData.canLayAll0 (vs.map PyData.str)) = true
      rw [a, (okS_iff v).mpr (h v (List.mem_cons_self ..))]
      rfl
    · show max 0 (PyData.depthAll (vs.map PyData.str)) = 0
      rw [b]
      rfl
theorem strs_list_shaped {vs : List Str} (h : ∀ x ∈ vs, okS x) : SeqAt.shaped (.list (vs.map PyData.str)) = true := by
  obtain ⟨a, b⟩ := strs_shaped vs h
  show (PyData.canLayAll0 (vs.map PyData.str) && decide (PyData.depthAll (vs.map PyData.str) + 1 ≤ 64)) = true
  rw [a, b]
  rfl
theorem strs_dp {K : PySem.W.Frag} {H : Hp} : ∀ (vs : List Str), DpAll K H (vs.map V.str) (vs.map PyData.str)
  | [] => .nil
  | v :: vs => .cons (.str v) (strs_dp vs)
theorem strs_nil (vs : List Str) : PyData.eqv (.list (vs.map PyData.str)) (.list []) = vs.isEmpty := by
  cases vs with
  | nil => rfl
  | cons v r => rfl
theorem strs_all {ws : List Str} : ∀ {ys : List V}, (∀ y ∈ ys, y ∈ ws.map V.str) → ∃ vs : List Str, ys = vs.map V.str ∧ ∀ v ∈ vs, v ∈ ws
  | [], _ => ⟨[], rfl, fun v hv => by cases hv⟩
  | y :: ys, h => by
    obtain ⟨vs, e, hv⟩ := strs_all (ys := ys) fun z hz => h z (List.mem_cons_of_mem _ hz)
    obtain ⟨x, hx, ex⟩ := List.mem_map.mp (h y (List.mem_cons_self ..))
    refine ⟨x :: vs, ?_, fun v hv' => ?_⟩
    · rw [List.map_cons, ex, e]
    · rcases List.mem_cons.mp hv' with rfl | q
      · exact hx
      · exact hv v q
theorem map_str_inj : ∀ {vs ws : List Str}, vs.map V.str = ws.map V.str → vs = ws
  | [], [], _ => rfl
  | [], _ :: _, h => by cases h
  | _ :: _, [], h => by cases h
  | v :: vs, w :: ws, h => by
    rw [List.map_cons, List.map_cons] at h
    injection h with h1 h2
    rw [V.str.inj h1, map_str_inj h2]
theorem strs_ne_ints {vs : List Str} (h : 1 ≤ vs.length) : ∀ x y z t : Int, HO.lst (vs.map V.str) ≠ .lst [.int x, .int y, .int z, .int t] := fun x y z t e => by
  cases vs with
  | nil => exact absurd h (by decide)
  | cons v r =>
    injection e with e1
    rw [List.map_cons] at e1
    injection e1 with e2 _
    cases e2
/-! ### features -/
structure FtD where
  n : Str
  vs : List Str
  t : Bool
def FtB (d : FtD) : Prop := 1 ≤ d.vs.length ∧ d.vs.length ≤ 6 ∧ okS d.n ∧ ∀ x ∈ d.vs, okS x
def Ft (H : Hp) (v : V) : Prop := ∃ p l d, v = .ref p ∧ H p = some (.tup [.str d.n, .ref l, .bl d.t]) ∧ H l = some (.lst (d.vs.map V.str)) ∧ FtB d
theorem Ft.kp {b : Addr} {H H' : Hp} {v : V} (h : Ft H v) (hb : Bx H b) (k : Kp b H H') : Ft H' v := by
  obtain ⟨p, l, d, rfl, e1, e2, hB⟩ := h
  exact ⟨p, l, d, rfl, k _ _ (ne_bx hb e1 (fun _ _ _ _ z => by cases z)) e1, k _ _ (ne_bx hb e2 (strs_ne_ints hB.1)) e2, hB⟩
theorem Ft.same {H H' : Hp} {v : V} (h : Ft H v) (s : Same H H') : Ft H' v := by
  obtain ⟨p, l, d, rfl, e1, e2, hB⟩ := h
  exact ⟨p, l, d, rfl, s _ _ e1, s _ _ e2, hB⟩
def NameOf (H : Hp) (v : V) (n : Str) : Prop := ∃ p l t, v = .ref p ∧ H p = some (.tup [.str n, .ref l, .bl t])
/-! ### bundles -/
abbrev BD := List (Str × List Str)
inductive Ents (H : Hp) : List (Key × V) → BD → Prop
  | nil : Ents H [] []
  | cons {l : Addr} {n : Str} {vs : List Str} {kvs : List (Key × V)} {b : BD} : H l = some (.lst (vs.map V.str)) → Ents H kvs b → Ents H ((.inr n, .ref l) :: kvs) ((n, vs) :: b)
theorem Ents.mono {H H' : Hp} {kvs : List (Key × V)} {b : BD} (h : Ents H kvs b) (s : ∀ l xs, H l = some (.lst xs) → (∃ n, (n, V.ref l) ∈ kvs) → H' l = some (.lst xs)) : Ents H' kvs b := by
  induction h with
  | nil => exact .nil
  | cons e _ ih => exact .cons (s _ _ e ⟨_, List.mem_cons_self ..⟩) (ih fun l xs h ⟨n, hm⟩ => s l xs h ⟨n, List.mem_cons_of_mem _ hm⟩)
theorem Ents.same {H H' : Hp} {kvs : List (Key × V)} {b : BD} (h : Ents H kvs b) (s : Same H H') : Ents H' kvs b := h.mono fun l xs e _ => s _ _ e
theorem Ents.length {H : Hp} {kvs : List (Key × V)} {b : BD} (h : Ents H kvs b) : kvs.length = b.length := by
  induction h with
  | nil => rfl
  | cons _ _ ih => simp [ih]
theorem Ents.keys {H : Hp} {kvs : List (Key × V)} {b : BD} (h : Ents H kvs b) : kvs.map (·.1) = b.map fun e => Sum.inr e.1 := by
  induction h with
  | nil => rfl
  | cons _ _ ih => rw [List.map_cons, List.map_cons, ih]
theorem Ents.get {H : Hp} {kvs : List (Key × V)} {b : BD} (h : Ents H kvs b) : ∀ {i : Nat} {k : Key} {v : V}, kvs[i]? = some (k, v) → ∃ n l vs, k = .inr n ∧ v = .ref l ∧ H l = some (.lst (vs.map V.str)) ∧ b[i]? = some (n, vs) := by
  induction h with
  | nil => intro i k v e; simp at e
  | cons hl _ ih =>
    intro i k v e
    cases i with
    | zero =>
      have e' := Option.some.inj e
      cases e'
      exact ⟨_, _, _, rfl, rfl, hl, rfl⟩
    | succ j => exact ih e
theorem Ents.app {H : Hp} {kvs ls : List (Key × V)} {b c : BD} (h : Ents H kvs b) (k : Ents H ls c) : Ents H (kvs ++ ls) (b ++ c) := by
  induction h with
  | nil => exact k
  | cons e _ ih => exact .cons e ih
/-- the values of a name, or none -/
def at? (b : BD) (n : Str) : Option (List Str) := (b.find? fun e => decide (e.1 = n)).map (·.2)
theorem at?_nil (n : Str) : at? [] n = none := rfl
theorem at?_cons (e : Str × List Str) (b : BD) (n : Str) : at? (e :: b) n = if e.1 = n then some e.2 else at? b n := by
  unfold at?
  rw [List.find?_cons]
  by_cases h : e.1 = n
  · rw [if_pos h, decide_eq_true h]
    rfl
  · rw [if_neg h, decide_eq_false h]
theorem Ents.val {H : Hp} {kvs : List (Key × V)} {b : BD} (h : Ents H kvs b) (n : Str) : (at? b n = none ∧ valV kvs (.inr n) = none) ∨ ∃ l vs, at? b n = some vs ∧ valV kvs (.inr n) = some (.ref l) ∧ H l = some (.lst (vs.map V.str)) ∧ (Sum.inr n, V.ref l) ∈ kvs := by
  induction h with
  | nil => exact .inl ⟨rfl, rfl⟩
  | @cons l m vs kvs b e _ ih =>
    by_cases q : m = n
    · subst q
      exact .inr ⟨l, vs, by rw [at?_cons, if_pos rfl], valV_pos rfl, e, List.mem_cons_self ..⟩
    · have q2 : ¬ (Sum.inr m : Key) = Sum.inr n := fun z => q (Sum.inr.inj z)
      rcases ih with ⟨h1, h2⟩ | ⟨l', vs', h1, h2, h3, h4⟩
      · exact .inl ⟨by rw [at?_cons, if_neg q]; exact h1, by rw [valV_neg q2]; exact h2⟩
      · exact .inr ⟨l', vs', by rw [at?_cons, if_neg q]; exact h1, by rw [valV_neg q2]; exact h2, h3, List.mem_cons_of_mem _ h4⟩
theorem at?_none_iff (b : BD) (n : Str) : at? b n = none ↔ n ∉ b.map (·.1) := by
  induction b with
  | nil => exact ⟨fun _ h => (nomatch h), fun _ => rfl⟩
  | cons e b ih =>
    rw [at?_cons, List.map_cons, List.mem_cons]
    by_cases h : e.1 = n
    · rw [if_pos h]
      exact ⟨fun z => by (cases z), fun z => absurd (Or.inl h.symm) z⟩
    · rw [if_neg h, ih]
      exact ⟨fun z q => q.elim (fun y => h y.symm) z, fun z y => z (.inr y)⟩
/-- a bundle's dict: names unlike, lists of one to twenty texts -/
def BdB (b : BD) : Prop := (b.map (·.1)).Nodup ∧ b.length ≤ 200 ∧ ∀ e ∈ b, okS e.1 ∧ 1 ≤ e.2.length ∧ e.2.length ≤ 20 ∧ ∀ x ∈ e.2, okS x
def Bd (H : Hp) (a : Addr) (b : BD) : Prop := ∃ kvs, H a = some (.dK kvs) ∧ Ents H kvs b ∧ BdB b
theorem Bd.same {H H' : Hp} {a : Addr} {b : BD} (h : Bd H a b) (s : Same H H') : Bd H' a b := by
  obtain ⟨kvs, e, x, y⟩ := h
  exact ⟨kvs, s _ _ e, x.same s, y⟩
theorem Ents.vals {H : Hp} {kvs : List (Key × V)} {b : BD} (h : Ents H kvs b) : ∀ {n : Key} {l : Addr}, (n, V.ref l) ∈ kvs → ∃ e ∈ b, H l = some (.lst (e.2.map V.str)) := by
  induction h with
  | nil => intro n l hm; cases hm
  | @cons l' m vs kvs b e _ ih =>
    intro n l hm
    rcases List.mem_cons.mp hm with q | q
    · cases q
      exact ⟨_, List.mem_cons_self .., e⟩
    · obtain ⟨x, hx, hl⟩ := ih q
      exact ⟨x, List.mem_cons_of_mem _ hx, hl⟩
theorem Bd.kp {b : Addr} {H H' : Hp} {a : Addr} {d : BD} (h : Bd H a d) (hb : Bx H b) (k : Kp b H H') : Bd H' a d := by
  obtain ⟨kvs, e, x, y⟩ := h
  refine ⟨kvs, k _ _ (ne_bx hb e (fun _ _ _ _ z => by cases z)) e, x.mono fun l xs hl ⟨n, hm⟩ => k _ _ ?_ hl, y⟩
  obtain ⟨e', he', hl'⟩ := x.vals hm
  exact ne_bx hb hl' (strs_ne_ints (y.2.2 e' he').2.1)
theorem rd_lock {H : Hp} {a d : Addr} {u v : HO} {o : Obj} (ha : H a = some v) (hd : H d = some u) : Rd (upd H d (.frz o u)) a v := by
  by_cases e : a = d
  · subst e
    rw [ha] at hd
    cases hd
    exact .inr ⟨o, upd_same⟩
  · exact .inl (by rw [upd_ne e]; exact ha)
theorem unlock {H : Hp} {d : Addr} {u : HO} {o : Obj} (hd : H d = some u) : upd (upd H d (.frz o u)) d u = H := by
  funext x
  by_cases e : x = d
  · subst e
    rw [upd_same, hd]
  · rw [upd_ne e, upd_ne e]
end Bn

namespace Bn
open PySem PySem.Spec PyProof.Rows L2
def topS (i : Nat) : Stmt := PySem.Challenge.pw_speechloom_k03_all_joined.main.body.getD i (.Pass ⟨0, 0, 0, 0⟩)
abbrev s_joined : Stmt := topS 1
theorem sc_joined : FnScope ["one", "other", "both", "name", "values"] ["one", "other"] (defScope s_joined) := ⟨rfl, rfl, rfl, by decide +kernel, rfl, by decide +kernel, by decide +kernel⟩
abbrev s_joined_all : Stmt := topS 2
theorem sc_joined_all : FnScope ["bundles", "whole", "bundle"] ["bundles"] (defScope s_joined_all) := ⟨rfl, rfl, rfl, by decide +kernel, rfl, by decide +kernel, by decide +kernel⟩
abbrev s_names_in_either : Stmt := topS 3
theorem sc_names_in_either : FnScope ["one", "other", "name"] ["one", "other"] (defScope s_names_in_either) := ⟨rfl, rfl, rfl, by decide +kernel, rfl, by decide +kernel, by decide +kernel⟩
abbrev s_values_left : Stmt := topS 4
theorem sc_values_left : FnScope ["one", "other", "name", "value"] ["one", "other", "name"] (defScope s_values_left) := ⟨rfl, rfl, rfl, by decide +kernel, rfl, by decide +kernel, by decide +kernel⟩
abbrev s_l_cell : Stmt := topS 6
theorem sc_l_cell : FnScope ["_law_script", "_law_k"] ["_law_script", "_law_k"] (defScope s_l_cell) := ⟨rfl, rfl, rfl, by decide +kernel, rfl, by decide +kernel, by decide +kernel⟩
abbrev s_l_mixed : Stmt := topS 7
theorem sc_l_mixed : FnScope ["_law_number", "_law_k", "_law_once", "_law_twice"] ["_law_number", "_law_k"] (defScope s_l_mixed) := ⟨rfl, rfl, rfl, by decide +kernel, rfl, by decide +kernel, by decide +kernel⟩
abbrev s_l_box : Stmt := topS 8
theorem sc_l_box : FnScope ["_law_cell_here", "_law_k"] ["_law_cell_here", "_law_k"] (defScope s_l_box) := ⟨rfl, rfl, rfl, by decide +kernel, rfl, by decide +kernel, by decide +kernel⟩
abbrev s_l_take : Stmt := topS 9
theorem sc_l_take : FnScope ["_law_box_here", "_law_many", "_law_found"] ["_law_box_here", "_law_many"] (defScope s_l_take) := ⟨rfl, rfl, rfl, by decide +kernel, rfl, by decide +kernel, by decide +kernel⟩
abbrev s_l_some : Stmt := topS 10
theorem sc_l_some : FnScope ["_law_box_here", "_law_words", "_law_many", "_law_left", "_law_found"] ["_law_box_here", "_law_words", "_law_many"] (defScope s_l_some) := ⟨rfl, rfl, rfl, by decide +kernel, rfl, by decide +kernel, by decide +kernel⟩
abbrev s_l_names : Stmt := topS 11
theorem sc_l_names : FnScope ["_law_box_here", "_law_many", "_law_some_here"] ["_law_box_here", "_law_many"] (defScope s_l_names) := ⟨rfl, rfl, rfl, by decide +kernel, rfl, by decide +kernel, by decide +kernel⟩
abbrev s_l_features : Stmt := topS 12
theorem sc_l_features : FnScope ["_law_box_here", "_law_some_here", "_law_found", "_law_name", "_law_values"] ["_law_box_here"] (defScope s_l_features) := ⟨rfl, rfl, rfl, by decide +kernel, rfl, by decide +kernel, by decide +kernel⟩
abbrev s_l_bundle : Stmt := topS 13
theorem sc_l_bundle : FnScope ["_law_box_here", "_law_features_here", "_law_bundle_here", "_law_name", "_law_values", "_law_told", "_law_how", "_law_keep", "_law_value"] ["_law_box_here", "_law_features_here"] (defScope s_l_bundle) := ⟨rfl, rfl, rfl, by decide +kernel, rfl, by decide +kernel, by decide +kernel⟩
abbrev s_l_own : Stmt := topS 14
theorem sc_l_own : FnScope ["_law_bundle_here", "_law_name"] ["_law_bundle_here"] (defScope s_l_own) := ⟨rfl, rfl, rfl, by decide +kernel, rfl, by decide +kernel, by decide +kernel⟩
abbrev s_l_is : Stmt := topS 15
theorem sc_l_is : FnScope ["_law_found", "_law_due", "_law_name"] ["_law_found", "_law_due"] (defScope s_l_is) := ⟨rfl, rfl, rfl, by decide +kernel, rfl, by decide +kernel, by decide +kernel⟩
abbrev s_l_joined : Stmt := topS 16
theorem sc_l_joined : FnScope ["_law_one", "_law_other", "_law_made", "_law_name", "_law_title", "_law_value"] ["_law_one", "_law_other"] (defScope s_l_joined) := ⟨rfl, rfl, rfl, by decide +kernel, rfl, by decide +kernel, by decide +kernel⟩
abbrev s_l_keeping : Stmt := topS 17
theorem sc_l_keeping : FnScope ["_law_box_here", "_law_bundle_here", "_law_kept", "_law_made", "_law_name", "_law_values", "_law_value"] ["_law_box_here", "_law_bundle_here", "_law_kept"] (defScope s_l_keeping) := ⟨rfl, rfl, rfl, by decide +kernel, rfl, by decide +kernel, by decide +kernel⟩
abbrev s_l_all : Stmt := topS 18
theorem sc_l_all : FnScope ["_law_bundles", "_law_made", "_law_bundle_here"] ["_law_bundles"] (defScope s_l_all) := ⟨rfl, rfl, rfl, by decide +kernel, rfl, by decide +kernel, by decide +kernel⟩
abbrev s_l_right : Stmt := topS 19
theorem sc_l_right : FnScope ["_law_bundles", "_law_handed", "_law_due", "_law_turn", "_law_found", "_law_name", "_law_bundle_here"] ["_law_bundles"] (defScope s_l_right) := ⟨rfl, rfl, rfl, by decide +kernel, rfl, by decide +kernel, by decide +kernel⟩
abbrev s_law : Stmt := topS 20
theorem sc_law : FnScope ["_law_script", "_law_k", "_law_cell_here", "_law_box_here", "_law_features_here", "_law_bundles", "_law_kept", "_law_some_here", "_law_turn", "_law_name", "_law_values", "_law_told", "_law_bundle_here"] ["_law_script"] (defScope s_law) := ⟨rfl, rfl, rfl, by decide +kernel, rfl, by decide +kernel, by decide +kernel⟩
end Bn

namespace Bn
open PySem PySem.Spec PyProof.Rows L2 BR
section
variable {P : Program} {w : World} {K : PySem.W.Frag} {mg : Str → Option Value} {base : Heap}
/-! ### mixed -/
def spMixed : Sp := fun vs H Q _ => ∃ (n k : Int), vs = [.int n, .int k] ∧ ∀ m : Int, Q (.int m) H
theorem ok_mixed {f : Addr} {fd : FuncData} {k : Nat} (F : Fun K "_law_mixed" "_law_mixed" s_l_mixed f fd) : FnOk P w K mg base CX0 (k + 1) f fd ["_law_number", "_law_k"] spMixed := by
  refine F.ok sc_l_mixed (fun vs H Q E h => ?_) (fun cdv A outer s H vs Q E hr h => ?_)
  · obtain ⟨n, k, rfl, _⟩ := h
    rfl
  · obtain ⟨n, k, rfl, q⟩ := h
    refine ⟨_, pss_cons (ps_set (i := 2) sc_l_mixed.nd rfl (.inl rfl) (pe_op op_mod (pe_op op_mul (pe_op op_add (pe_op op_add (pe_op op_mod (pv 0) pe_int) (pe_op op_mul pe_int (pv 1))) pe_int) pe_int) pe_int))
      (pss_cons (ps_set (i := 3) sc_l_mixed.nd rfl (.inl rfl) (pe_op op_mod (pe_op op_mul (pv 2) (pe_op op_add (pe_op op_add (pe_op op_mod (pv 2) pe_int) (pv 1)) pe_int)) pe_int))
      (pss_one (ps_ret (pe_op op_mod (pe_op op_add (pe_op op_mul (pv 3) pe_int) (pv 2)) pe_int)))), ?_⟩
    refine ⟨_, rfl, _, _, rfl, rfl, (by show (0 : Int) < 2147483629; decide), _, rfl, _, _, rfl, rfl, .inl ⟨by decide, by decide⟩, _, _, rfl, rfl, _, _, rfl, rfl, _, _, rfl, rfl, .inr ⟨by decide, by decide⟩, _, _, rfl, rfl, (by show (0 : Int) < 2147483647; decide), ?_⟩
    generalize (n % 2147483629 + 7919 * k + 11) * 48271 = y
    have y0 := Int.emod_nonneg y (show (2147483647 : Int) ≠ 0 by decide)
    have y1 := Int.emod_lt_of_pos y (show (0 : Int) < 2147483647 by decide)
    refine ⟨_, rfl, _, rfl, _, _, rfl, rfl, (by show (0 : Int) < 1009; decide), _, rfl, _, _, rfl, rfl, _, _, rfl, rfl, _, _, rfl, rfl, .inl ⟨by omega, by omega⟩, _, _, rfl, rfl, (by show (0 : Int) < 998244353; decide), ?_⟩
    exact ⟨_, rfl, _, _, rfl, rfl, .inr ⟨by decide, by decide⟩, _, rfl, _, _, rfl, rfl, _, _, rfl, rfl, (by show (0 : Int) < 2147483629; decide), q _⟩
theorem bit_lo (b : Bool) : -(2 ^ 64) < (if b = true then (1 : Int) else 0) := by cases b <;> decide
theorem bit_hi (b : Bool) : (if b = true then (1 : Int) else 0) < 2 ^ 64 := by cases b <;> decide
/-! ### box -/
def spBox : Sp := fun vs H Q _ => ∃ (c k : Int), vs = [.int c, .int k] ∧ ∀ p H', H p = none → Same H H' → Bx H' p → Q (.ref p) H'
theorem ok_box {f : Addr} {fd : FuncData} {k : Nat} (F : Fun K "_law_box" "_law_box" s_l_box f fd) (ma : mg "abs" = none) (mi : mg "int" = none) : FnOk P w K mg base CX0 (k + 1) f fd ["_law_cell_here", "_law_k"] spBox := by
  refine F.ok sc_l_box (fun vs H Q E h => ?_) (fun cdv A outer s H vs Q E hr h => ?_)
  · obtain ⟨c, k, rfl, _⟩ := h
    rfl
  · obtain ⟨c, k, rfl, q⟩ := h
    refine ⟨_, pss_one (ps_ret (pe_lst (pa_cons (pe_op op_mul (pe_callB call_abs (by rfl) ma (by decide +kernel) (pa_cons (pv 0) pa_nil)) (pe_callTy call_int1 (by rfl) mi (by decide +kernel) (pa_cons (pe_cmpR op_ge (pe_callB call_abs (by rfl) ma (by decide +kernel) (pa_cons (pv 0) pa_nil)) (pe_op op_pow pe_int pe_int) (nomark _)) pa_nil)))
        (pa_cons (pv 0) (pa_cons (pv 1) (pa_cons pe_int pa_nil)))))), ?_⟩
    refine ⟨_, rfl, _, rfl, _, rfl, _, rfl, _, _, rfl, rfl, ⟨by decide, by decide, by decide⟩, _, _, rfl, rfl, .inr ⟨_, rfl, _, _, rfl, rfl, .inr ⟨bit_lo _, bit_hi _⟩, _, rfl, _, rfl, (show 4 ≤ sizeLine by decide), fun p np => ?_⟩⟩
    exact q p _ np (same_new np) ⟨_, _, _, _, upd_same⟩
/-! ### take -/
def spTake : Sp := fun vs H Q _ => ∃ (b : Addr) (m : Int), vs = [.ref b, .int m] ∧ Bx H b ∧ 0 < m ∧ m < 1073741824 ∧ ∀ (n : Int) H', 0 ≤ n → n < m → Kb b H H' → Q (.int n) H'
theorem ok_take {f fM : Addr} {fd fdM : FuncData} (F : Fun K "_law_take" "_law_take" s_l_take f fd)
    (FM : Fun K "_law_mixed" "_law_mixed" s_l_mixed fM fdM) (bM : Binds K fdM ["_law_number", "_law_k"] []) (gM : mg "_law_mixed" = some (.ref fM)) (md : mg "divmod" = none) : FnOk P w K mg base CX0 2 f fd ["_law_box_here", "_law_many"] spTake := by
  have GM : FnOk P w K mg base CX0 1 fM fdM ["_law_number", "_law_k"] spMixed := ok_mixed FM
  refine F.ok sc_l_take (fun vs H Q E h => ?_) (fun cdv A outer s H vs Q E hr h => ?_)
  · obtain ⟨b, m, rfl, _⟩ := h
    rfl
  · obtain ⟨b, m, rfl, ⟨x, y, z, t, hb⟩, m0, m1, q⟩ := h
    refine ⟨_, pss_cons (ps_asg (pe_op op_add (pe_ix ix_list (pv 0) pe_int (fun _ _ => rfl)) pe_int) (pg_sub (pv 0) pe_int set_list))
      (pss_cons (ps_if (pt_cmpR op_gt (pe_ix ix_list (pv 0) pe_int (fun _ _ => rfl)) pe_int (nomark _))
        (pss_cons (ps_asg (pe_callB call_divmod (by rfl) md (by decide +kernel) (pa_cons (pe_ix ix_list (pv 0) pe_int (fun _ _ => rfl)) (pa_cons (pv 1) pa_nil))) (pg_tup rfl (pgs_cons (pg_sub (pv 0) pe_int set_list) (pgs_cons (pg_name (i := 2) sc_l_take.nd rfl (.inl rfl)) pgs_nil))))
        (pss_one (ps_ret (pv 2)))) pss_nil)
      (pss_one (ps_ret (pe_op op_mod (pe_op op_fdiv (pe_call GM hr (by rfl) gM FM.kp bM .nil pass0 (pa_cons (pe_call GM hr (by rfl) gM FM.kp bM .nil pass0 (pa_cons (pe_ix ix_list (pv 0) pe_int (fun _ _ => rfl)) (pa_cons (pe_ix ix_list (pv 0) pe_int (fun _ _ => rfl)) pa_nil))) (pa_cons (pe_op op_add (pe_ix ix_list (pv 0) pe_int (fun _ _ => rfl)) (pe_ix ix_list (pv 0) pe_int (fun _ _ => rfl))) pa_nil))) pe_int) (pv 1))))), ?_⟩
    refine ⟨_, rfl, b, _, _, .int t, rfl, rfl, .inl (.inl hb), rfl, _, _, rfl, rfl, _, rfl, b, _, _, 3, rfl, rfl, hb, rfl, ?_⟩
    have hL : SqL K (upd H b (.lst [.int x, .int y, .int z, .int (t + 1)])) b [.int x, .int y, .int z, .int (t + 1)] := .inl (.inl upd_same)
    refine ⟨_, rfl, b, _, _, .int x, rfl, rfl, hL, rfl, _, _, rfl, rfl, _, rfl, ite2 (fun e => ?_) (fun e => ?_)⟩
    · refine ⟨_, rfl, b, _, _, .int x, rfl, rfl, hL, rfl, _, rfl, _, _, rfl, ⟨m0, m1⟩, fun p np => ?_⟩
      have nbp : b ≠ p := fun e => by
        rw [← e, upd_same] at np
        cases np
      have hb2 : (upd (upd H b (.lst [.int x, .int y, .int z, .int (t + 1)])) p (.tup [.int (x / m), .int (x % m)])) b = some (.lst [.int x, .int y, .int z, .int (t + 1)]) := by
        rw [upd_ne nbp, upd_same]
      refine ⟨p, _, rfl, .inl (.inl upd_same), rfl, _, _, rfl, _, rfl, b, _, _, 0, rfl, rfl, hb2, rfl, _, _, rfl, rfl, ?_⟩
      refine ⟨_, rfl, ?_⟩
      refine q _ _ (Int.emod_nonneg x (by omega)) (Int.emod_lt_of_pos x m0) ⟨fun a o n h => ?_, ⟨_, _, _, _, upd_same⟩⟩
      have ea : (upd H b (.lst [.int x, .int y, .int z, .int (t + 1)])) a = some o := by
        rw [upd_ne n]
        exact h
      rw [upd_ne n, upd_ne (ne_of_none ea np)]
      exact ea
    · refine ⟨_, rfl, b, _, _, .int y, rfl, rfl, hL, rfl, _, rfl, b, _, _, .int (t + 1), rfl, rfl, hL, rfl, _, _, rfl, fun n1 => ?_⟩
      refine ⟨_, rfl, b, _, _, .int z, rfl, rfl, hL, rfl, _, rfl, b, _, _, .int (t + 1), rfl, rfl, hL, rfl, _, _, rfl, rfl, _, _, rfl, fun n2 => ?_⟩
      refine ⟨_, _, rfl, rfl, ⟨by show (0 : Int) < 7; decide, by show (7 : Int) < 1073741824; decide⟩, _, rfl, _, _, rfl, rfl, m0, ?_⟩
      exact q _ _ (Int.emod_nonneg _ (by omega)) (Int.emod_lt_of_pos _ m0) ⟨Kp.put, ⟨_, _, _, _, upd_same⟩⟩
/-! ### some -/
def spSome (K : PySem.W.Frag) : Sp := fun vs H Q _ => ∃ (b r : Addr) (xs : List V) (m : Nat), vs = [.ref b, .ref r, .int m] ∧ Bx H b ∧ SqL K H r xs ∧ m ≤ xs.length ∧ xs.length ≤ 100 ∧ ∀ (p : Addr) (ys : List V) H', H p = none → Kb b H H' → H' p = some (.lst ys) → ys.length = m → (∀ y ∈ ys, y ∈ xs) → Q (.ref p) H'
theorem ok_some {f fT : Addr} {fd fdT : FuncData} (F : Fun K "_law_some" "_law_some" s_l_some f fd)
    (kT : PySem.W.keepIn K (.ref fT) = true) (bT : Binds K fdT ["_law_box_here", "_law_many"] []) (gT : mg "_law_take" = some (.ref fT)) (GT : FnOk P w K mg base CX0 2 fT fdT ["_law_box_here", "_law_many"] spTake)
    (ml : mg "len" = none) (mli : mg "list" = none) : FnOk P w K mg base CX0 3 f fd ["_law_box_here", "_law_words", "_law_many"] (spSome K) := by
  refine F.ok sc_l_some (fun vs H Q E h => ?_) (fun cdv A outer s H vs Q E hr h => ?_)
  · obtain ⟨b, r, xs, m, rfl, _⟩ := h
    rfl
  · obtain ⟨b, r, xs, m, rfl, hb, hS, hmx, hlen, q⟩ := h
    refine ⟨_, pss_cons (ps_set (i := 3) sc_l_some.nd rfl (.inl rfl) (pe_callTy call_list_of (by rfl) mli (by decide +kernel) (pa_cons (pv 1) pa_nil)))
      (pss_cons (ps_set (i := 4) sc_l_some.nd rfl (.inl rfl) (pe_lst pa_nil))
      (pss_cons (ps_while PassesOwn.never (pt_cmpR op_lt (pe_callB call_len_seq (by rfl) ml PySem.boot_len (pa_cons (pv 4) pa_nil)) (pv 2) (nomark _))
        (pss_one (ps_expr (pe_bm PySem.F.plainAttrs_list PySem.F.slot_list_append PySem.F.type_list_append mt_append (pv 4) (pa_cons
          (pe_bm PySem.F.plainAttrs_list PySem.F.slot_list_pop PySem.F.type_list_pop mt_popAt (pv 3) (pa_cons (pe_call GT hr (by rfl) gT kT bT .nil pass0 (pa_cons (pv 0) (pa_cons (pe_callB call_len_seq (by rfl) ml PySem.boot_len (pa_cons (pv 3) pa_nil)) pa_nil))) pa_nil)) pa_nil)))))
      (pss_one (ps_ret (pv 4))))), ?_⟩
    refine ⟨_, rfl, r, xs, rfl, .inl hS, fun l nl => ?_⟩
    refine ⟨Nat.zero_le _, fun d nd => ?_⟩
    have nlb : l ≠ b := (hb.ne nl).symm
    have hb1 : Bx (upd H l (.lst xs)) b := hb.same (same_new nl)
    have ndb : d ≠ b := (hb1.ne nd).symm
    have ndl : d ≠ l := fun e => by
      rw [e, upd_same] at nd
      cases nd
    have nd0 : H d = none := by
      rw [upd_ne ndl] at nd
      exact nd
    refine while_by (fun σ H' => ∃ xs' ys, σ = [some (.ref b), some (.ref r), some (.int m), some (.ref l), some (.ref d)] ∧ Kb b H H' ∧ H' l = some (.lst xs') ∧ H' d = some (.lst ys) ∧ xs'.length + ys.length = xs.length ∧ ys.length ≤ m ∧ (∀ y ∈ xs', y ∈ xs) ∧ ∀ y ∈ ys, y ∈ xs) (fun _ H' => lenAt H' l) ?_ (fun σ H' hP => ?_) (fun σ H' Q1 Q2 hq h => ?_)
    · refine ⟨xs, [], rfl, ((Kb.refl hb).own nl nlb).own nd0 ndb, ?_, upd_same, by simp, Nat.zero_le _, fun y hy => hy, fun y hy => by cases hy⟩
      rw [upd_ne ndl.symm, upd_same]
    · obtain ⟨xs', ys, rfl, kb, hl, hd, hle, hym, hx, hy⟩ := hP
      refine ⟨_, rfl, d, ys, rfl, .inl (.inl (.inl hd)), _, rfl, _, _, rfl, rfl, _, rfl, ite2 (fun e => ?_) (fun e => ?_)⟩
      · have e0 : (ys.length : Int) < (m : Int) := of_decide_eq_true e
        refine ⟨_, rfl, .inl ⟨rfl, _, .inl (.inl hd)⟩, _, rfl, .inl ⟨rfl, _, .inl (.inl hl)⟩, _, rfl, _, rfl, l, _, rfl, .inl (.inl (.inl hl)), b, _, rfl, kb.x, by omega, by omega, fun n H2 n0 n1 k2 => ?_⟩
        have hl2 : H2 l = some (.lst xs') := k2.k _ _ nlb hl
        have hd2 : H2 d = some (.lst ys) := k2.k _ _ ndb hd
        have hn : n.toNat < xs'.length := by omega
        refine ⟨l, xs', n, n.toNat, xs'[n.toNat], rfl, rfl, hl2, by omega, by omega, PySem.seqIndex_of n0 (by omega), List.getElem?_eq_getElem hn, ?_⟩
        have hd3 : (upd H2 l (.lst (xs'.eraseIdx n.toNat))) d = some (.lst ys) := by
          rw [upd_ne ndl]
          exact hd2
        refine ⟨d, ys, _, rfl, rfl, hd3, small1000 (by omega), ⟨xs'.eraseIdx n.toNat, ys ++ [xs'[n.toNat]], rfl, ((kb.trans k2).own nl nlb).own nd0 ndb, ?_, upd_same, ?_, ?_, fun y hy' => hx y (List.mem_of_mem_eraseIdx hy'), fun y hy' => ?_⟩, ?_⟩
        · rw [upd_ne ndl.symm, upd_same]
        · rw [List.length_eraseIdx_of_lt hn, List.length_append]
          show xs'.length - 1 + (ys.length + 1) = xs.length
          omega
        · rw [List.length_append]
          show ys.length + 1 ≤ m
          omega
        · rcases List.mem_append.mp hy' with q1 | q1
          · exact hy y q1
          · rw [List.mem_singleton.mp q1]
            exact hx _ (List.getElem_mem hn)
        · rw [lenAt_of hl, lenAt_of (xs := xs'.eraseIdx n.toNat) (by rw [upd_ne ndl.symm, upd_same]), List.length_eraseIdx_of_lt hn]
          omega
      · have e0 : ¬ (ys.length : Int) < (m : Int) := fun z => e (decide_eq_true z)
        exact ⟨_, rfl, q d ys _ nd0 kb hd (by omega) hy⟩
    · obtain ⟨v, hv, a, zs, e, hs, w', hw, i, j, e1, e2, k, hk, h5⟩ := h
      exact ⟨v, hv, a, zs, e, hs, w', hw, i, j, e1, e2, k, hk, hq _ _ h5⟩
end
end Bn

namespace Bn
open PySem PySem.Spec PyProof.Rows L2 BR
def names12 : List Str := ["a", "ab", "abc", "b", "case", "num", "z", "zz", "person", "aa", "quantity", "zzzzzzzz"]
def words12 : List Str := ["a", "b", "sg", "pl", "s", "sgs", "nom", "first", "aa", "pluralis", "x", "num"]
theorem names12_ok : ∀ x ∈ names12, okS x := fun x hx => (okS_iff x).mp ((List.all_eq_true.mp (show names12.all PyData.strOk = true by decide +kernel)) x hx)
theorem words12_ok : ∀ x ∈ words12, okS x := fun x hx => (okS_iff x).mp ((List.all_eq_true.mp (show words12.all PyData.strOk = true by decide +kernel)) x hx)
section
variable {P : Program} {w : World} {K : PySem.W.Frag} {mg : Str → Option Value} {base : Heap}
/-! ### names -/
def spNames : Sp := fun vs H Q _ => ∃ (b : Addr) (m : Nat), vs = [.ref b, .int m] ∧ Bx H b ∧ m ≤ 12 ∧ ∀ (p : Addr) (ns : List Str) H', H p = none → Kb b H H' → H' p = some (.lst (ns.map V.str)) → ns.length = m → (∀ x ∈ ns, okS x) → Q (.ref p) H'
theorem ok_names {f fS : Addr} {fd fdS : FuncData} (F : Fun K "_law_names" "_law_names" s_l_names f fd)
    (kS : PySem.W.keepIn K (.ref fS) = true) (bS : Binds K fdS ["_law_box_here", "_law_words", "_law_many"] []) (gS : mg "_law_some" = some (.ref fS)) (GS : FnOk P w K mg base CX0 3 fS fdS ["_law_box_here", "_law_words", "_law_many"] (spSome K)) : FnOk P w K mg base CX0 4 f fd ["_law_box_here", "_law_many"] spNames := by
  refine F.ok sc_l_names (fun vs H Q E h => ?_) (fun cdv A outer s H vs Q E hr h => ?_)
  · obtain ⟨b, m, rfl, _⟩ := h
    rfl
  · obtain ⟨b, m, rfl, hb, hm, q⟩ := h
    refine ⟨_, pss_cons (ps_set (i := 2) sc_l_names.nd rfl (.inl rfl) (pe_lst (pa_cons pe_str (pa_cons pe_str (pa_cons pe_str (pa_cons pe_str (pa_cons pe_str (pa_cons pe_str (pa_cons pe_str (pa_cons pe_str (pa_cons pe_str (pa_cons pe_str (pa_cons pe_str (pa_cons pe_str pa_nil)))))))))))))) (pss_one (ps_ret (pe_call GS hr (by rfl) gS kS bS .nil pass0 (pa_cons (pv 0) (pa_cons (pv 2) (pa_cons (pv 1) pa_nil)))))), ?_⟩
    refine ⟨(show 12 ≤ sizeLine by decide), fun l nl => ?_⟩
    have hl : (upd H l (.lst (names12.map V.str))) l = some (.lst (names12.map V.str)) := upd_same
    refine ⟨_, rfl, _, rfl, _, rfl, b, l, names12.map V.str, m, rfl, hb.same (same_new nl), .inl (.inl hl), by rw [List.length_map]; exact hm, by rw [List.length_map]; decide, fun p ys H' np k' hp hy hm' => ?_⟩
    obtain ⟨ns, rfl, hn⟩ := strs_all hm'
    rw [List.length_map] at hy
    exact q p ns H' ((Kb.new hb nl).free np) ((Kb.new hb nl).trans k') hp hy fun x hx => names12_ok x (hn x hx)
theorem pick2 (a b : Int) (k : Bool) : atI [V.int a, V.int b] (if k = true then 1 else 0) = some (V.int (if k = true then b else a)) := by cases k <;> rfl
theorem pick3 (a b c n : Int) (h0 : 0 ≤ n) (h1 : n < 3) : ∃ m : Int, atI [V.int a, V.int b, V.int c] n = some (V.int m) ∧ (m = a ∨ m = b ∨ m = c) := by
  have e : n = 0 ∨ n = 1 ∨ n = 2 := by omega
  rcases e with rfl | rfl | rfl
  · exact ⟨a, rfl, .inl rfl⟩
  · exact ⟨b, rfl, .inr (.inl rfl)⟩
  · exact ⟨c, rfl, .inr (.inr rfl)⟩
/-! ### features -/
def spFeatures : Sp := fun vs H Q _ => ∃ (b : Addr), vs = [.ref b] ∧ Bx H b ∧ ∀ (p : Addr) (ys : List V) H', H p = none → Kb b H H' → H' p = some (.lst ys) → ys.length ≤ 6 → (∀ y ∈ ys, Ft H' y) → Q (.ref p) H'
theorem ok_features {f fT fS fN : Addr} {fd fdT fdS fdN : FuncData} (F : Fun K "_law_features" "_law_features" s_l_features f fd)
    (kT : PySem.W.keepIn K (.ref fT) = true) (bT : Binds K fdT ["_law_box_here", "_law_many"] []) (gT : mg "_law_take" = some (.ref fT)) (GT : FnOk P w K mg base CX0 2 fT fdT ["_law_box_here", "_law_many"] spTake)
    (kS : PySem.W.keepIn K (.ref fS) = true) (bS : Binds K fdS ["_law_box_here", "_law_words", "_law_many"] []) (gS : mg "_law_some" = some (.ref fS)) (GS : FnOk P w K mg base CX0 3 fS fdS ["_law_box_here", "_law_words", "_law_many"] (spSome K))
    (kN : PySem.W.keepIn K (.ref fN) = true) (bN : Binds K fdN ["_law_box_here", "_law_many"] []) (gN : mg "_law_names" = some (.ref fN)) (GN : FnOk P w K mg base CX0 4 fN fdN ["_law_box_here", "_law_many"] spNames)
    (mi : mg "int" = none) : FnOk P w K mg base CX0 5 f fd ["_law_box_here"] spFeatures := by
  refine F.ok sc_l_features (fun vs H Q E h => ?_) (fun cdv A outer s H vs Q E hr h => ?_)
  · obtain ⟨b, rfl, _⟩ := h
    rfl
  · obtain ⟨b, rfl, hb, q⟩ := h
    refine ⟨_, pss_cons (ps_set (i := 1) sc_l_features.nd rfl (.inl rfl) (pe_lst (pa_cons pe_str (pa_cons pe_str (pa_cons pe_str (pa_cons pe_str (pa_cons pe_str (pa_cons pe_str (pa_cons pe_str (pa_cons pe_str (pa_cons pe_str (pa_cons pe_str (pa_cons pe_str (pa_cons pe_str pa_nil))))))))))))))
      (pss_cons (ps_set (i := 2) sc_l_features.nd rfl (.inl rfl) (pe_lst pa_nil))
      (pss_cons (ps_for PassesOwn.never rfl (pi_list (pe_call GN hr (by rfl) gN kN bN .nil pass0 (pa_cons (pv 0) (pa_cons (pe_ix ix_list (pe_lst (pa_cons (pe_call GT (hr.mono (by decide)) (by rfl) gT kT bT .nil pass0 (pa_cons (pv 0) (pa_cons pe_int pa_nil))) (pa_cons pe_int pa_nil))) (pe_callTy call_int1 (by rfl) mi (by decide +kernel) (pa_cons (pe_cmpR op_eq (pe_call GT (hr.mono (by decide)) (by rfl) gT kT bT .nil pass0 (pa_cons (pv 0) (pa_cons pe_int pa_nil))) pe_int (nomark _)) pa_nil)) (fun _ _ => rfl)) pa_nil)))) (pg_name (i := 3) sc_l_features.nd rfl (.inl rfl))
        (pss_cons (ps_set (i := 4) sc_l_features.nd rfl (.inl rfl) (pe_call GS (hr.mono (by decide)) (by rfl) gS kS bS .nil pass0 (pa_cons (pv 0) (pa_cons (pv 1) (pa_cons (pe_ix ix_list (pe_lst (pa_cons (pe_op op_add pe_int (pe_call GT (hr.mono (by decide)) (by rfl) gT kT bT .nil pass0 (pa_cons (pv 0) (pa_cons pe_int pa_nil)))) (pa_cons pe_int (pa_cons pe_int pa_nil)))) (pe_call GT (hr.mono (by decide)) (by rfl) gT kT bT .nil pass0 (pa_cons (pv 0) (pa_cons pe_int pa_nil))) (fun _ _ => rfl)) pa_nil)))))
        (pss_one (ps_expr (pe_bm PySem.F.plainAttrs_list PySem.F.slot_list_append PySem.F.type_list_append mt_append (pv 2) (pa_cons (pe_tup (pa_cons (pv 3) (pa_cons (pv 4) (pa_cons (pe_cmpR op_eq (pe_call GT (hr.mono (by decide)) (by rfl) gT kT bT .nil pass0 (pa_cons (pv 0) (pa_cons pe_int pa_nil))) pe_int (nomark _)) pa_nil)))) pa_nil))))))
      (pss_one (ps_ret (pv 2))))), ?_⟩
    -- some_here, found
    refine ⟨(show 12 ≤ sizeLine by decide), fun l nl => ?_⟩
    have hl0 : (upd H l (.lst (words12.map V.str))) l = some (.lst (words12.map V.str)) := upd_same
    have k1 : Kb b H (upd H l (.lst (words12.map V.str))) := Kb.new hb nl
    show _ ∧ _
    refine ⟨Nat.zero_le _, fun d nd => ?_⟩
    have nd' : (upd H l (.lst (words12.map V.str))) d = none := nd
    have nlb : l ≠ b := (hb.ne nl).symm
    have ndb : d ≠ b := (k1.x.ne nd').symm
    have ndH : H d = none := k1.free nd'
    have ndl : d ≠ l := fun e => by
      rw [e, hl0] at nd'
      cases nd'
    have k2 : Kb b H (upd (upd H l (.lst (words12.map V.str))) d (.lst [])) := k1.trans (Kb.new k1.x nd')
    have hd2 : (upd (upd H l (.lst (words12.map V.str))) d (.lst [])) d = some (.lst []) := upd_same
    have hl2 : (upd (upd H l (.lst (words12.map V.str))) d (.lst [])) l = some (.lst (words12.map V.str)) := by
      rw [upd_ne ndl.symm]
      exact hl0
    -- names(box, ..)
    refine ⟨_, rfl, _, rfl, b, 7, rfl, k2.x, by decide, by decide, fun n1 H3 n10 n11 k3 => ⟨(show 2 ≤ sizeLine by decide), fun p np => ?_⟩⟩
    have k4 := (k2.trans k3).trans (Kb.new (o := .lst [.int n1, .int 6]) k3.x np)
    have npb : p ≠ b := (k3.x.ne np).symm
    refine ⟨_, rfl, b, 3, rfl, k4.x, by decide, by decide, fun n2 H5 n20 n21 k5 => ⟨rfl, .inr ⟨_, rfl, p, _, _, _, rfl, rfl, .inl (.inl (k5.k _ _ npb upd_same)), pick2 n1 6 _, ?_⟩⟩⟩
    obtain ⟨m, em, hm⟩ : ∃ m : Nat, (if decide (V.int n2 = V.int 0) = true then (6 : Int) else n1) = (m : Int) ∧ m ≤ 6 := by
      by_cases c : decide (V.int n2 = V.int 0) = true
      · rw [if_pos c]
        exact ⟨6, rfl, Nat.le_refl _⟩
      · rw [if_neg c]
        exact ⟨n1.toNat, by omega, by omega⟩
    rw [em]
    have k6 := k4.trans k5
    have hd6 : H5 d = some (.lst []) := k5.k _ _ ndb (Kp.new (o := .lst [.int n1, .int 6]) np _ _ ndb (k3.k _ _ ndb hd2))
    have hl6 : H5 l = some (.lst (words12.map V.str)) := k5.k _ _ nlb (Kp.new (o := .lst [.int n1, .int 6]) np _ _ nlb (k3.k _ _ nlb hl2))
    refine ⟨b, m, rfl, k6.x, by omega, fun ln ns H7 nln k7 hln hns okn => ?_⟩
    have nlnb : ln ≠ b := (k6.x.ne nln).symm
    have nlnd : ln ≠ d := (ne_of_none hd6 nln).symm
    have k8 := k6.trans k7
    refine ⟨ln, rfl, ⟨_, .inl (.inl hln)⟩, for_list (K := K) (a := ln) (xs := ns.map V.str) (fun i σ H' => ∃ y3 y4, σ = [some (.ref b), some (.ref l), some (.ref d), y3, y4] ∧ Kb b H H' ∧ H' ln = some (.lst (ns.map V.str)) ∧ H' l = some (.lst (words12.map V.str)) ∧ ∃ ys, H' d = some (.lst ys) ∧ ys.length = i ∧ ∀ y ∈ ys, Ft H' y)
      ⟨none, none, rfl, k8, hln, k7.k _ _ nlb hl6, [], k7.k _ _ ndb hd6, rfl, fun y hy => by cases hy⟩ (fun i σ H' _ h => ?_) (fun i x σ H' hx hP => ?_) (fun σ H' hP => ?_)⟩
    · obtain ⟨_, _, _, _, h, _⟩ := h
      exact .inl (.inl h)
    · obtain ⟨y3, y4, rfl, kb, hn', hw', ys, hd', hyl, hy⟩ := hP
      rw [List.getElem?_map] at hx
      obtain ⟨n, en, ex⟩ := Option.map_eq_some_iff.mp hx
      subst ex
      have nmem : n ∈ ns := List.mem_of_getElem? en
      have hil : i < ns.length := (List.getElem?_eq_some_iff.mp en).1
      refine ⟨_, rfl, _, rfl, _, rfl, b, 6, rfl, kb.x, by decide, by decide, fun a1 HA a10 a11 kA => ⟨_, _, rfl, rfl, (show 3 ≤ sizeLine by decide), fun p2 np2 => ?_⟩⟩
      have kB := kA.trans (Kb.new (o := .lst [.int (1 + a1), .int 6, .int 2]) kA.x np2)
      have np2b : p2 ≠ b := (kA.x.ne np2).symm
      refine ⟨_, rfl, b, 3, rfl, kB.x, by decide, by decide, fun a2 HC a20 a21 kC => ?_⟩
      obtain ⟨m2, em2, hm2⟩ := pick3 (1 + a1) 6 2 a2 a20 a21
      obtain ⟨m3, rfl⟩ : ∃ m3 : Nat, m2 = (m3 : Int) := ⟨m2.toNat, by omega⟩
      have kD := kB.trans kC
      refine ⟨p2, _, a2, _, rfl, rfl, .inl (.inl (kC.k _ _ np2b upd_same)), em2, b, l, words12.map V.str, m3, rfl, kD.x, .inl (.inl (kD.k _ _ nlb hw')), ?_, by rw [List.length_map]; decide, fun pv ws HE npv kE hpv hwl hwm => ?_⟩
      · rw [List.length_map]
        show m3 ≤ 12
        omega
      obtain ⟨us, rfl, hus⟩ := strs_all hwm
      rw [List.length_map] at hwl
      have kF := kD.trans kE
      have npvb : pv ≠ b := (kD.x.ne npv).symm
      -- found.append(..)
      refine ⟨_, rfl, .inl ⟨rfl, _, .inl (.inl (kF.k _ _ ndb hd'))⟩, _, rfl, _, rfl, _, rfl, b, 2, rfl, kF.x, by decide, by decide, fun a3 HG a30 a31 kG => ⟨rfl, (show 3 ≤ sizeLine by decide), fun pt npt => ?_⟩⟩
      have kH := kF.trans kG
      have smt : Same HG (upd HG pt (.tup [.str n, .ref pv, .bl (decide (V.int a3 = V.int 1))])) := same_new npt
      have hdG := kH.k _ _ ndb hd'
      refine ⟨d, ys, _, rfl, rfl, smt _ _ hdG, small1000 (by omega), _, _, rfl, ((kb.trans kH).trans (Kb.new kH.x npt)).own ndH ndb, ?_, ?_, ys ++ [.ref pt], upd_same, by rw [List.length_append, hyl]; rfl, fun y hy' => ?_⟩
      · rw [upd_ne nlnd]
        exact smt _ _ (kH.k _ _ nlnb hn')
      · rw [upd_ne ndl.symm]
        exact smt _ _ (kH.k _ _ nlb hw')
      · have keep : ∀ {v : V}, Ft (upd HG pt (.tup [.str n, .ref pv, .bl (decide (V.int a3 = V.int 1))])) v → Ft (upd (upd HG pt (.tup [.str n, .ref pv, .bl (decide (V.int a3 = V.int 1))])) d (.lst (ys ++ [.ref pt]))) v := by
          intro v hv
          obtain ⟨p', l', dd, rfl, e1, e2, hB⟩ := hv
          refine ⟨p', l', dd, rfl, ?_, ?_, hB⟩
          · rw [upd_ne (ne_of e1 (smt _ _ hdG) (by intro z; cases z))]
            exact e1
          · have : l' ≠ d := fun z => by
              subst z
              rw [smt _ _ hdG] at e2
              have e3 := HO.lst.inj (Option.some.inj e2)
              cases hv2 : dd.vs with
              | nil => exact absurd hB.1 (by rw [hv2]; decide)
              | cons v0 r0 =>
                rw [hv2] at e3
                cases hys : ys with
                | nil => rw [hys] at e3; cases e3
                | cons y0 yr =>
                  rw [hys] at e3
                  injection e3 with e4 _
                  obtain ⟨q1, q2, q3, q4, _⟩ := hy y0 (by rw [hys]; exact List.mem_cons_self ..)
                  rw [q4] at e4
                  cases e4
            rw [upd_ne this]
            exact e2
        rcases List.mem_append.mp hy' with q1 | q1
        · exact keep (((hy y q1).kp kb.x kH.k).same smt)
        · rw [List.mem_singleton.mp q1]
          exact keep ⟨pt, pv, ⟨n, us, _⟩, rfl, upd_same, smt _ _ (kG.k _ _ npvb hpv), by show 1 ≤ us.length; omega, by show us.length ≤ 6; omega, okn n nmem, fun x hx => words12_ok x (hus x hx)⟩
    · obtain ⟨y3, y4, rfl, kb, _, _, ys, hd', hyl, hy⟩ := hP
      rw [List.length_map] at hyl
      exact ⟨_, rfl, q d ys _ ndH kb hd' (by omega) hy⟩
end
end Bn

namespace Bn
open PySem PySem.Spec PyProof.Rows L2 BR
/-! ### a bundle's entry put -/
def putB (b : BD) (n : Str) (vs : List Str) : BD := if (b.any fun e => decide (e.1 = n)) = true then b.map (fun e => if e.1 = n then (e.1, vs) else e) else b ++ [(n, vs)]
theorem Ents.any {H : Hp} {kvs : List (Key × V)} {b : BD} (h : Ents H kvs b) (n : Str) : (kvs.any fun kv => decide (kv.1 = Sum.inr n)) = b.any fun e => decide (e.1 = n) := by
  induction h with
  | nil => rfl
  | @cons l m vs kvs b e _ ih =>
    rw [List.any_cons, List.any_cons, ih]
    congr 1
    by_cases q : m = n
    · rw [decide_eq_true q, decide_eq_true (by rw [q])]
    · rw [decide_eq_false q, decide_eq_false (fun z => q (Sum.inr.inj z))]
theorem Ents.repl {H : Hp} {kvs : List (Key × V)} {b : BD} (h : Ents H kvs b) {n : Str} {l : Addr} {vs : List Str} (hl : H l = some (.lst (vs.map V.str))) :
    Ents H (kvs.map fun kv => if kv.1 = Sum.inr n then (kv.1, V.ref l) else kv) (b.map fun e => if e.1 = n then (e.1, vs) else e) := by
  induction h with
  | nil => exact .nil
  | @cons l' m ws kvs b e _ ih =>
    rw [List.map_cons, List.map_cons]
    by_cases q : m = n
    · subst q
      rw [if_pos rfl, if_pos rfl]
      exact .cons hl ih
    · rw [if_neg (fun z => q (Sum.inr.inj z)), if_neg q]
      exact .cons e ih
theorem Ents.put {H : Hp} {kvs : List (Key × V)} {b : BD} (h : Ents H kvs b) {n : Str} {l : Addr} {vs : List Str} (hl : H l = some (.lst (vs.map V.str))) : Ents H (putK kvs (.inr n) (.ref l)) (putB b n vs) := by
  unfold putK putB
  rw [h.any n]
  by_cases q : (b.any fun e => decide (e.1 = n)) = true
  · rw [if_pos q, if_pos q]
    exact h.repl hl
  · rw [if_neg q, if_neg q]
    exact h.app (.cons hl .nil)
theorem putB_len (b : BD) (n : Str) (vs : List Str) : (putB b n vs).length ≤ b.length + 1 := by
  unfold putB
  split
  · rw [List.length_map]
    omega
  · rw [List.length_append]
    exact Nat.le_refl _
theorem repl_keys (n : Str) (vs : List Str) : ∀ b : BD, (b.map fun e => if e.1 = n then (e.1, vs) else e).map (·.1) = b.map (·.1)
  | [] => rfl
  | e :: b => by
    rw [List.map_cons, List.map_cons, List.map_cons, repl_keys n vs b]
    congr 1
    by_cases q : e.1 = n
    · rw [if_pos q]
    · rw [if_neg q]
theorem putB_keys (b : BD) (n : Str) (vs : List Str) (h : (b.map (·.1)).Nodup) : ((putB b n vs).map (·.1)).Nodup := by
  unfold putB
  by_cases q : (b.any fun e => decide (e.1 = n)) = true
  · rw [if_pos q, repl_keys]
    exact h
  · rw [if_neg q, List.map_append]
    refine nd_snoc h fun m => q ?_
    obtain ⟨e, he, en⟩ := List.mem_map.mp m
    exact List.any_eq_true.mpr ⟨e, he, decide_eq_true en⟩
theorem putB_all {p : Str × List Str → Prop} {b : BD} {n : Str} {vs : List Str} (h : ∀ e ∈ b, p e) (hn : p (n, vs)) : ∀ e ∈ putB b n vs, p e := by
  intro e he
  unfold putB at he
  by_cases q : (b.any fun e => decide (e.1 = n)) = true
  · rw [if_pos q] at he
    obtain ⟨x, hx, ex⟩ := List.mem_map.mp he
    by_cases c : x.1 = n
    · rw [if_pos c] at ex
      rw [← ex, c]
      exact hn
    · rw [if_neg c] at ex
      rw [← ex]
      exact h x hx
  · rw [if_neg q] at he
    rcases List.mem_append.mp he with z | z
    · exact h e z
    · rw [List.mem_singleton.mp z]
      exact hn
theorem Ents.upd_dict {H : Hp} {kvs : List (Key × V)} {b : BD} (h : Ents H kvs b) {a : Addr} {ls ms : List (Key × V)} (ha : H a = some (.dK ls)) : Ents (upd H a (.dK ms)) kvs b :=
  h.mono fun l xs e _ => by
    rw [upd_ne (ne_of e ha (by intro z; cases z))]
    exact e
section
variable {P : Program} {w : World} {K : PySem.W.Frag} {mg : Str → Option Value} {base : Heap}
/-! ### bundle -/
def spBundle (K : PySem.W.Frag) : Sp := fun vs H Q _ => ∃ (b a : Addr) (xs : List V), vs = [.ref b, .ref a] ∧ Bx H b ∧ SqL K H a xs ∧ xs.length ≤ 6 ∧ (∀ v ∈ xs, Ft H v) ∧ ∀ (p : Addr) (d : BD) H', H p = none → Kb b H H' → Bd H' p d → d.length ≤ 6 → (∀ e ∈ d, ∃ v ∈ xs, NameOf H v e.1) → Q (.ref p) H'
theorem ok_bundle {f fT fS : Addr} {fd fdT fdS : FuncData} (F : Fun K "_law_bundle" "_law_bundle" s_l_bundle f fd)
    (kT : PySem.W.keepIn K (.ref fT) = true) (bT : Binds K fdT ["_law_box_here", "_law_many"] []) (gT : mg "_law_take" = some (.ref fT)) (GT : FnOk P w K mg base CX0 2 fT fdT ["_law_box_here", "_law_many"] spTake)
    (kS : PySem.W.keepIn K (.ref fS) = true) (bS : Binds K fdS ["_law_box_here", "_law_words", "_law_many"] []) (gS : mg "_law_some" = some (.ref fS)) (GS : FnOk P w K mg base CX0 3 fS fdS ["_law_box_here", "_law_words", "_law_many"] (spSome K))
    (ml : mg "len" = none) : FnOk P w K mg base CX0 4 f fd ["_law_box_here", "_law_features_here"] (spBundle K) := by
  refine F.ok sc_l_bundle (fun vs H Q E h => ?_) (fun cdv A outer s H vs Q E hr h => ?_)
  · obtain ⟨b, a, xs, rfl, _⟩ := h
    rfl
  · obtain ⟨b, a, xs, rfl, hb, hS, hxl, hF, q⟩ := h
    refine ⟨_, pss_cons (ps_set (i := 2) sc_l_bundle.nd rfl (.inl rfl) pe_dnewK)
      (pss_cons (ps_for PassesOwn.never rfl (pi_list (pe_call GS hr (by rfl) gS kS bS .nil pass0 (pa_cons (pv 0) (pa_cons (pv 1) (pa_cons (pe_callB call_len_seq (by rfl) ml PySem.boot_len (pa_cons (pv 1) pa_nil)) pa_nil)))))
          (pg_tup rfl (pgs_cons (pg_name (i := 3) sc_l_bundle.nd rfl (.inl rfl)) (pgs_cons (pg_name (i := 4) sc_l_bundle.nd rfl (.inl rfl)) (pgs_cons (pg_name (i := 5) sc_l_bundle.nd rfl (.inl rfl)) pgs_nil))))
        (pss_cons (ps_set (i := 6) sc_l_bundle.nd rfl (.inl rfl) (pe_call GT (hr.mono (by decide)) (by rfl) gT kT bT .nil pass0 (pa_cons (pv 0) (pa_cons pe_int pa_nil))))
        (pss_cons (ps_setLc (i := 7) (own := [("_law_value", 8)]) (g := gName 8) rfl sc_l_bundle.nd rfl rfl (sw_true rfl rfl rfl (by decide +kernel)) (pi_list (pv 4))
            (blkOk_by (own := [("_law_value", 8)]) (N := ["_law_box_here", "_law_features_here", "_law_bundle_here", "_law_name", "_law_values", "_law_told", "_law_how", "_law_keep", "_law_value"]) (sc := defScope s_l_bundle) (by decide +kernel))
            (fun _ _ _ _ _ => pg_name (i := 8) sc_l_bundle.nd rfl (Or.inl rfl)) (fun _ _ _ _ _ => pts_one (pt_cmpR op_gt (pe_call GT (hr.mono (by decide)) (by rfl) gT kT bT .nil pass0 (pa_cons (pv 0) (pa_cons pe_int pa_nil))) pe_int (nomark _))) (fun _ _ _ _ _ => pv 8))
        (C8.pss_cut (ps_if (pt_cmpR op_eq (pv 6) pe_int (nomark _)) (pss_one (ps_set (i := 7) sc_l_bundle.nd rfl (.inl rfl) (pe_lst (pa_cons (pe_ix ix_list (pv 4) (pe_call GT (hr.mono (by decide)) (by rfl) gT kT bT .nil pass0 (pa_cons (pv 0) (pa_cons (pe_callB call_len_seq (by rfl) ml PySem.boot_len (pa_cons (pv 4) pa_nil)) pa_nil))) (fun _ _ => rfl)) pa_nil)))) pss_nil)
        (pss_one (ps_if (PW.pt (pw_and (pt_cmpR op_gt (pv 6) pe_int (nomark _)) (pw_and1 (pt_cmpR (op_neD hr.units) (pv 7) (pe_lst pa_nil) (nomark _)))))
          (pss_one (ps_dput (hu_of hr) (pv 2) (pv 3) (pv 7) rfl)) pss_nil))))))
      (pss_one (ps_ret (pv 2)))), ?_⟩
    intro d nd
    have k1 : Kb b H (upd H d (.dK [])) := Kb.new hb nd
    have ndb : d ≠ b := (hb.ne nd).symm
    have hS1 : SqL K (upd H d (.dK [])) a xs := (same_new nd).seq hS
    refine ⟨_, rfl, _, rfl, _, rfl, a, xs, rfl, .inl hS1, b, a, xs, xs.length, rfl, k1.x, hS1, Nat.le_refl _, by omega, fun p ys H2 np k2 hp hyl hym => ?_⟩
    have npb : p ≠ b := (k1.x.ne np).symm
    have hd2 : H2 d = some (.dK []) := k2.k _ _ ndb upd_same
    have npd : p ≠ d := (ne_of_none (upd_same (H := H) (a := d) (o := .dK [])) np).symm
    refine ⟨p, rfl, ⟨_, .inl (.inl hp)⟩, for_list (K := K) (a := p) (xs := ys) (fun i σ H' => ∃ y3 y4 y5 y6 y7 y8, σ = [some (.ref b), some (.ref a), some (.ref d), y3, y4, y5, y6, y7, y8] ∧ Kb b H H' ∧ H' p = some (.lst ys) ∧ ∃ kvs bd, H' d = some (.dK kvs) ∧ Ents H' kvs bd ∧ (bd.map (·.1)).Nodup ∧ bd.length ≤ i ∧ (∀ e ∈ bd, okS e.1 ∧ 1 ≤ e.2.length ∧ e.2.length ≤ 20 ∧ ∀ x ∈ e.2, okS x) ∧ ∀ e ∈ bd, ∃ v ∈ xs, NameOf H v e.1)
      ⟨none, none, none, none, none, none, rfl, k1.trans k2, hp, [], [], hd2, .nil, List.nodup_nil, Nat.le_refl _, (fun e he => nomatch he), (fun e he => nomatch he)⟩ (fun i σ H' _ h => ?_) (fun i x σ H' hx hP => ?_) (fun σ H' hP => ?_)⟩
    · obtain ⟨_, _, _, _, _, _, _, _, h, _⟩ := h
      exact .inl (.inl h)
    · obtain ⟨y3, y4, y5, y6, y7, y8, rfl, kb, hp', kvs, bd, hd', hE, hN, hbl, hB', hNm⟩ := hP
      have hil : i < ys.length := (List.getElem?_eq_some_iff.mp hx).1
      obtain ⟨pt, lv, dd, rfl, f1, f2, hB⟩ := hF x (hym x (List.mem_of_getElem? hx))
      have hxm := hym _ (List.mem_of_getElem? hx)
      have hnm : NameOf H (.ref pt) dd.n := ⟨pt, lv, dd.t, rfl, f1⟩
      have e1 := kb.k _ _ (ne_bx hb f1 (fun _ _ _ _ z => by cases z)) f1
      have e2 := kb.k _ _ (ne_bx hb f2 (strs_ne_ints hB.1)) f2
      have nlb : lv ≠ b := ne_bx kb.x e2 (strs_ne_ints hB.1)
      refine ⟨pt, _, rfl, .inl (.inl e1), rfl, _, _, rfl, _, _, rfl, _, _, rfl, rfl, ?_⟩
      refine ⟨_, rfl, b, 5, rfl, kb.x, by decide, by decide, fun h1 HA h10 h11 kA => ?_⟩
      have e2A := kA.k _ _ nlb e2
      refine ⟨_, rfl, lv, rfl, ⟨_, .inl (.inl e2A)⟩, fun D nD => lc_list (K := K) (a := lv) (xs := dd.vs.map V.str) (fun j HX => Kb b HA HX ∧ ∃ ks : List Str, HX D = some (.lst (ks.map V.str)) ∧ ks.length ≤ j ∧ ∀ x ∈ ks, okS x) ⟨Kb.new kA.x nD, [], upd_same, Nat.le_refl _, fun x hx => by cases hx⟩ (fun j HX _ h => .inl (.inl (h.1.k _ _ nlb e2A))) (fun j x HX hxj hP => ?_) (fun HX hP => ?_)⟩
      · obtain ⟨kX, ks, hD, hkl, hko⟩ := hP
        have nDb : D ≠ b := (kA.x.ne nD).symm
        rw [List.getElem?_map] at hxj
        obtain ⟨v, ev, ex⟩ := Option.map_eq_some_iff.mp hxj
        subst ex
        have hvo : okS v := hB.2.2.2 v (List.mem_of_getElem? ev)
        have hjl : j < dd.vs.length := (List.getElem?_eq_some_iff.mp ev).1
        have hvl := hB.2.1
        refine ⟨rfl, _, rfl, b, 3, rfl, kX.x, by decide, by decide, fun n HB n0 n1 kB => ⟨_, _, rfl, rfl, _, rfl, ite2 (fun e => ?_) (fun e => ?_)⟩⟩
        · refine ⟨_, rfl, ks.map V.str, kB.k _ _ nDb hD, by rw [List.length_map]; exact small1000 (by omega), (kX.trans kB).own nD nDb, ks ++ [v], ?_, by rw [List.length_append]; show ks.length + 1 ≤ j + 1; omega, fun x hx' => ?_⟩
          · rw [upd_same, List.map_append]
            rfl
          · rcases List.mem_append.mp hx' with z | z
            · exact hko x z
            · rw [List.mem_singleton.mp z]
              exact hvo
        · exact ⟨kX.trans kB, ks, kB.k _ _ nDb hD, by omega, hko⟩
      · obtain ⟨kX, ks, hD, hkl, hko⟩ := hP
        rw [List.length_map] at hkl
        have hvl := hB.2.1
        have hv1 := hB.1
        refine ⟨fun σ' HM => ∃ (D' : Addr) (ks : List Str), σ' = [some (.ref b), some (.ref a), some (.ref d), some (.str dd.n), some (.ref lv), some (.bl dd.t), some (.int h1), some (.ref D'), y8] ∧ Kb b HA HM ∧ HM D' = some (.lst (ks.map V.str)) ∧ ks.length ≤ 6 ∧ ∀ x ∈ ks, okS x, ?_, fun σ' HM hM => ?_⟩
        · refine ⟨_, rfl, rfl, _, rfl, ite2 (fun e => ?_) (fun e => ⟨D, ks, rfl, kX, hD, by omega, hko⟩)⟩
          have e2X := kX.k _ _ nlb e2A
          refine ⟨_, rfl, _, rfl, _, rfl, lv, _, rfl, .inl (.inl (.inl e2X)), b, _, rfl, kX.x, by rw [List.length_map]; omega, by rw [List.length_map]; omega, fun n HB n0 n1 kB => ?_⟩
          rw [List.length_map] at n1
          have gl : (dd.vs.map V.str)[n.toNat]? = some (V.str dd.vs[n.toNat]) := by
            rw [List.getElem?_map, List.getElem?_eq_getElem (by omega)]
            rfl
          refine ⟨lv, _, n, _, rfl, rfl, .inl (.inl (kB.k _ _ nlb e2X)), at_of (j := n.toNat) (by omega) gl, (show 1 ≤ sizeLine by decide), fun D2 nD2 => ?_⟩
          refine ⟨D2, [dd.vs[n.toNat]], rfl, (kX.trans kB).trans (Kb.new kB.x nD2), upd_same, (show 1 ≤ 6 by decide), fun x hx' => ?_⟩
          rw [List.mem_singleton.mp hx']
          exact hB.2.2.2 _ (List.getElem_mem _)
        · obtain ⟨D', ks', rfl, kM, hD', hkl', hko'⟩ := hM
          have KM := kA.trans kM
          have hdM : HM d = some (.dK kvs) := KM.k _ _ ndb hd'
          have hpM : HM p = some (.lst ys) := KM.k _ _ npb hp'
          have hEM : Ents HM kvs bd := hE.mono fun l zs hl ⟨n, hm⟩ => by
            obtain ⟨e', he', hl'⟩ := hE.vals hm
            exact KM.k _ _ (ne_bx kb.x hl' (strs_ne_ints (hB' e' he').2.1)) hl
          have stay : ∀ {HZ : Hp}, Same HM HZ → Bx HZ b → ∃ z3 z4 z5 z6 z7 z8, [some (V.ref b), some (.ref a), some (.ref d), some (.str dd.n), some (.ref lv), some (.bl dd.t), some (.int h1), some (.ref D'), y8] = [some (.ref b), some (.ref a), some (.ref d), z3, z4, z5, z6, z7, z8] ∧ Kb b H HZ ∧ HZ p = some (.lst ys) ∧ ∃ kvs bd, HZ d = some (.dK kvs) ∧ Ents HZ kvs bd ∧ (bd.map (·.1)).Nodup ∧ bd.length ≤ i + 1 ∧ (∀ e ∈ bd, okS e.1 ∧ 1 ≤ e.2.length ∧ e.2.length ≤ 20 ∧ ∀ x ∈ e.2, okS x) ∧ ∀ e ∈ bd, ∃ v ∈ xs, NameOf H v e.1 := by
            intro HZ sm hbz
            exact ⟨_, _, _, _, _, _, rfl, (kb.trans KM).trans ⟨Kp.of_same sm, hbz⟩, sm _ _ hpM, kvs, bd, sm _ _ hdM, hEM.same sm, hN, by omega, hB', hNm⟩
          refine ⟨_, rfl, _, _, rfl, rfl, _, rfl, ite2 (fun c => ?_) (fun c => iteF (stay (Same.refl _) KM.x))⟩
          · refine ⟨_, rfl, Nat.zero_le _, fun p1 np1 => ?_⟩
            have sm : Same HM (upd HM p1 (.lst [])) := same_new np1
            refine ⟨_, _, .lst (.inl (.inl (sm _ _ hD'))) (strs_dp ks'), .lst (.inl (.inl upd_same)) .nil, strs_list_shaped hko', rfl, _, rfl, ?_⟩
            rw [strs_nil]
            by_cases hks : ks'.isEmpty = true
            · rw [hks]
              exact iteF (stay sm (KM.x.same sm))
            · have hkf : ks'.isEmpty = false := Bool.eq_false_iff.mpr hks
              rw [hkf]
              have hlen : 1 ≤ ks'.length := by
                cases hq : ks' with
                | nil => rw [hq] at hkf; cases hkf
                | cons k0 kr => exact Nat.succ_le_succ (Nat.zero_le _)
              have hE1 := hEM.same sm
              have hd1 := sm _ _ hdM
              have pl := putB_len bd dd.n ks'
              refine iteT ⟨_, rfl, _, rfl, _, rfl, d, _, rfl, DPut.k (k := .inr dd.n) hd1 (by rw [hEM.length]; exact small1000 (by omega)), ?_⟩
              refine ⟨_, _, _, _, _, _, rfl, (kb.trans (KM.trans (Kb.new KM.x np1))).own nd ndb, ?_, _, putB bd dd.n ks', upd_same, (hE1.put (sm _ _ hD')).upd_dict hd1, putB_keys _ _ _ hN, by omega, putB_all hB' ⟨hB.2.2.1, hlen, by show ks'.length ≤ 20; omega, hko'⟩, putB_all hNm ⟨_, hxm, hnm⟩⟩
              rw [upd_ne npd]
              exact sm _ _ hpM
    · obtain ⟨y3, y4, y5, y6, y7, y8, rfl, kb, hp', kvs, bd, hd', hE, hN, hbl, hB', hNm⟩ := hP
      exact ⟨_, rfl, q d bd _ nd kb ⟨kvs, hd', hE, hN, by omega, hB'⟩ (by omega) hNm⟩
end
end Bn

namespace Bn
open PySem PySem.Spec PyProof.Rows L2 BR
theorem Rd.same {H H' : Hp} {a : Addr} {u : HO} (h : Rd H a u) (s : Same H H') : Rd H' a u := by
  rcases h with h | ⟨o, h⟩
  · exact .inl (s _ _ h)
  · exact .inr ⟨o, s _ _ h⟩
theorem valV_get : ∀ {kvs : List (Key × V)} {i : Nat} {k : Key} {v : V}, (kvs.map (·.1)).Nodup → kvs[i]? = some (k, v) → valV kvs k = some v
  | [], i, k, v, _, h => by simp at h
  | p :: r, 0, k, v, _, h => by
    have e := Option.some.inj h
    subst e
    exact valV_pos rfl
  | p :: r, i + 1, k, v, hn, h => by
    obtain ⟨h1, h2⟩ := List.nodup_cons.mp hn
    have h' : r[i]? = some (k, v) := h
    have hm : k ∈ r.map (·.1) := List.mem_map.mpr ⟨(k, v), List.mem_of_getElem? h', rfl⟩
    rw [valV_neg (fun e => h1 (by rw [show (fun x : Key × V => x.fst) p = k from e]; exact hm))]
    exact valV_get h2 h'
theorem keys_nodup {b : BD} (h : (b.map (·.1)).Nodup) : (b.map fun e => (Sum.inr e.1 : Key)).Nodup := by
  have e : (b.map fun e => (Sum.inr e.1 : Key)) = (b.map (·.1)).map Sum.inr := by
    rw [List.map_map]
    rfl
  rw [e]
  exact List.Pairwise.map Sum.inr (fun a b h z => h (Sum.inr.inj z)) h
theorem merge_new : ∀ (more acc : List (Key × V)), ((acc ++ more).map (·.1)).Nodup → mergeK acc more = acc ++ more
  | [], acc, _ => by rw [List.append_nil]; rfl
  | kv :: r, acc, h => by
    have hn : valV acc kv.1 = none := by
      cases e : valV acc kv.1 with
      | none => rfl
      | some v =>
        have hm := valV_in e
        rw [List.map_append, List.map_cons] at h
        exact absurd rfl ((List.pairwise_append.mp h).2.2 kv.1 hm kv.1 (List.mem_cons_self ..))
    show mergeK (putK acc kv.1 kv.2) r = acc ++ kv :: r
    rw [putK_new kv.2 hn, merge_new r (acc ++ [(kv.1, kv.2)]) (by rw [List.append_assoc]; exact h), List.append_assoc]
    rfl
theorem take_get {α : Type} {l : List α} {i : Nat} {x : α} (h : l[i]? = some x) : l.take (i + 1) = l.take i ++ [x] := by
  rw [List.take_add_one, h]
  rfl
theorem strs_ne_refs {vs : List Str} {ps : List Addr} (h : 1 ≤ vs.length) : vs.map V.str ≠ ps.map V.ref := fun e => by
  cases vs with
  | nil => exact absurd h (by decide)
  | cons v r =>
    cases ps with
    | nil => cases e
    | cons p q =>
      rw [List.map_cons, List.map_cons] at e
      injection e with e1 _
      cases e1
theorem paired_mono {α β : Type} {R S : α → β → Prop} {l : List α} {m : List β} (h : Paired R l m) (f : ∀ a b, R a b → S a b) : Paired S l m := by
  induction h with
  | nil => exact .nil
  | cons x _ ih => exact .cons (f _ _ x) ih
theorem paired_snoc {α β : Type} {R : α → β → Prop} {l : List α} {m : List β} {a : α} {b : β} (h : Paired R l m) (x : R a b) : Paired R (l ++ [a]) (m ++ [b]) := by
  induction h with
  | nil => exact .cons x .nil
  | cons y _ ih => exact .cons y ih
theorem Bd.len {H : Hp} {a : Addr} {d : BD} (h : Bd H a d) : d.length ≤ 200 := by
  obtain ⟨_, _, _, _, h, _⟩ := h
  exact h
section
variable {P : Program} {w : World} {K : PySem.W.Frag} {mg : Str → Option Value} {base : Heap}
/-! ### own -/
def spOwn : Sp := fun vs H Q _ => ∃ (a : Addr) (d : BD), vs = [.ref a] ∧ Bd H a d ∧ ∀ (p : Addr) H', H p = none → Same H H' → Bd H' p d → Q (.ref p) H'
theorem ok_own {f : Addr} {fd : FuncData} {k : Nat} (F : Fun K "_law_own" "_law_own" s_l_own f fd) (md : mg "dict" = none) (mli : mg "list" = none) : FnOk P w K mg base CX0 (k + 1) f fd ["_law_bundle_here"] spOwn := by
  refine F.ok sc_l_own (fun vs H Q E h => ?_) (fun cdv A outer s H vs Q E hr h => ?_)
  · obtain ⟨a, d, rfl, _⟩ := h
    rfl
  · obtain ⟨a, bd, rfl, ⟨kvs, ha, hE, hN, hL, hB⟩, q⟩ := h
    refine ⟨_, pss_one (ps_ret (pe_callTy (call_dictP rfl) (by rfl) md (by decide +kernel) (pa_cons (pe_lock (pe_lc (own := [("_law_name", 1)]) (g := gName 1) (tt := tYes) rfl sc_l_own.nd (pi_keys (pv 0))
      (blkOk_by (own := [("_law_name", 1)]) (N := ["_law_bundle_here", "_law_name"]) (sc := defScope s_l_own) (by decide +kernel))
      (fun _ _ _ _ _ => pg_name (i := 1) sc_l_own.nd rfl (Or.inl rfl)) (fun _ _ _ _ _ => pts_nil)
      (fun _ _ _ _ _ => pe_tup (pa_cons (pv 1) (pa_cons (pe_callTy (T := "list") (call_listK (K := K) rfl) (by rfl) mli (by decide +kernel) (pa_cons (pe_dget (hu_of hr) (pv 0) (pv 1) (fun _ _ => rfl)) pa_nil)) pa_nil))))) pa_nil))), ?_⟩
    have hkn : (kvs.map (·.1)).Nodup := by
      rw [hE.keys]
      exact keys_nodup hN
    have hkl := hE.length
    refine ⟨a, _, ha, trivial, fun od => ⟨_, rfl, a, od, rfl, .inl ⟨kvs, upd_same, fun D nD => ?_⟩⟩⟩
    have nDa : D ≠ a := fun e => by
      rw [e, upd_same] at nD
      cases nD
    have hEL : Ents (upd H a (.frz od (.dK kvs))) kvs bd := hE.mono fun l xs e _ => by
      rw [upd_ne (ne_of e ha (by intro z; cases z))]
      exact e
    have haL : (upd H a (.frz od (.dK kvs))) a = some (.frz od (.dK kvs)) := upd_same
    refine lc_it (walk_keys (d := a) (o := od) (kvs := kvs)) (fun i HX => Same (upd H a (.frz od (.dK kvs))) HX ∧ ∃ (ps : List Addr) (kvs' : List (Key × V)), HX D = some (.lst (ps.map V.ref)) ∧ Paired (fun p kv => HX p = some (.tup [kV kv.1, kv.2])) ps kvs' ∧ Ents HX kvs' (bd.take i) ∧ ps.length = i)
      ⟨same_new nD, [], [], upd_same, .nil, .nil, rfl⟩ (fun i HX _ h => h.1 _ _ haL) (fun i x HX HX' hi hP hY => ?_) (fun HX hP => ?_)
    · obtain ⟨rfl, k, v, hkv, rfl⟩ := hY
      obtain ⟨sL, ps, kvs', hD, hp, hE', hpl⟩ := hP
      obtain ⟨n, l, vs, rfl, rfl, hl, hbi⟩ := hEL.get hkv
      have hv1 : 1 ≤ vs.length := (hB _ (List.mem_of_getElem? hbi)).2.1
      refine ⟨rfl, tYes_in ?_⟩
      refine ⟨_, rfl, _, rfl, _, rfl, a, _, rfl, .inl ⟨kvs, .inr n, .inr ⟨od, sL _ _ haL⟩, rfl, (valV_get hkn hkv).symm⟩, l, _, rfl, .inl (.inl (.inl (sL _ _ hl))), fun l' nl' => ⟨(show 2 ≤ sizeLine by decide), fun pt npt => ?_⟩⟩
      have s1 : Same HX' (upd HX' l' (.lst (vs.map V.str))) := same_new nl'
      have s2 := s1.trans (same_new (o := .tup [.str n, .ref l']) npt)
      have hD2 := s2 _ _ hD
      have hl2 : (upd (upd HX' l' (.lst (vs.map V.str))) pt (.tup [.str n, .ref l'])) l' = some (.lst (vs.map V.str)) := same_new npt _ _ upd_same
      refine ⟨ps.map V.ref, hD2, by rw [List.length_map]; exact small1000 (by omega), Same.own (sL.trans s2) nD, ps ++ [pt], kvs' ++ [(.inr n, .ref l')], ?_, ?_, ?_, by rw [List.length_append, hpl]; rfl⟩
      · rw [upd_same, List.map_append]
        rfl
      · refine paired_mono (paired_snoc (R := fun p (kv : Key × V) => (upd (upd HX' l' (.lst (vs.map V.str))) pt (.tup [.str n, .ref l'])) p = some (.tup [kV kv.1, kv.2])) (paired_mono hp fun p kv e => s2 _ _ e) (b := (.inr n, .ref l')) upd_same) fun p kv e => ?_
        rw [upd_ne (ne_of e hD2 (by intro z; cases z))]
        exact e
      · rw [take_get hbi]
        refine ((hE'.same s2).app (.cons hl2 .nil)).mono fun l0 xs e ⟨nm, hm⟩ => ?_
        rw [upd_ne fun z => ?_]
        · exact e
        · obtain ⟨e', he', hl'⟩ := ((hE'.same s2).app (.cons hl2 .nil)).vals hm
          rw [← take_get hbi] at he'
          rw [z, hD2] at hl'
          exact strs_ne_refs (hB e' (List.mem_of_mem_take he')).2.1 (HO.lst.inj (Option.some.inj hl')).symm
    · obtain ⟨sL, ps, kvs', hD, hp, hE', hpl⟩ := hP
      rw [hkl, List.take_length] at hE'
      have haX := sL _ _ haL
      have sU : Same H (upd HX a (.dK kvs)) := fun x o e => by
        by_cases c : x = a
        · subst c
          rw [upd_same, ← ha]
          exact e
        · rw [upd_ne c]
          exact sL _ _ (by rw [upd_ne c]; exact e)
      have hEU : Ents (upd HX a (.dK kvs)) kvs' bd := hE'.mono fun l xs e _ => by
        rw [upd_ne (ne_of e haX (by intro z; cases z))]
        exact e
      refine ⟨haX, D, ps, kvs', rfl, .inl (.inl (by rw [upd_ne nDa]; exact hD)), paired_mono hp fun p kv e => .inl (.inl (by rw [upd_ne (ne_of e haX (by intro z; cases z))]; exact e)), fun p np => ?_⟩
      have hkn' : (kvs'.map (·.1)).Nodup := by
        rw [hE'.keys]
        exact keys_nodup hN
      have em : mergeK [] kvs' = kvs' := merge_new kvs' [] hkn'
      rw [em]
      exact q p _ (sU.free np) (sU.trans (same_new np)) ⟨kvs', upd_same, hEU.same (same_new np), hN, hL, hB⟩
end
end Bn

namespace Bn
open PySem PySem.Spec PyProof.Rows L2 BR
/-! ### the mathematics -/
def namesF (b c : BD) : List Str := b.map (·.1) ++ (c.map (·.1)).filter fun n => (at? b n).isNone
def leftF (b c : BD) (n : Str) : List Str := match at? b n, at? c n with
  | none, none => []
  | none, some w => w
  | some v, none => v
  | some v, some w => v.filter fun x => decide (x ∈ w)
def entsF (b c : BD) : BD := (namesF b c).map fun n => (n, leftF b c n)
def joinedF (b c : BD) : Option BD := if ((entsF b c).any fun e => e.2.isEmpty) = true then none else some (entsF b c)
theorem Ents.knames {H : Hp} {kvs : List (Key × V)} {b : BD} (h : Ents H kvs b) : (kvs.map fun kv => kV kv.1) = (b.map (·.1)).map V.str := by
  induction h with
  | nil => rfl
  | cons _ _ ih =>
    rw [List.map_cons, List.map_cons, List.map_cons, ih]
    rfl
theorem Ents.frz {H : Hp} {kvs : List (Key × V)} {b : BD} (h : Ents H kvs b) {a : Addr} {ls : List (Key × V)} {o : Obj} {u : HO} (ha : H a = some (.dK ls)) : Ents (upd H a (.frz o u)) kvs b := h.mono fun l xs e _ => by
  rw [upd_ne (ne_of e ha (by intro z; cases z))]
  exact e
theorem Ents.val_isNone {H : Hp} {kvs : List (Key × V)} {b : BD} (h : Ents H kvs b) (n : Str) : (!(valV kvs (.inr n)).isSome) = (at? b n).isNone := by
  rcases h.val n with ⟨h1, h2⟩ | ⟨l, vs, h1, h2, _⟩
  · rw [h1, h2]
    rfl
  · rw [h1, h2]
    rfl
theorem Same.unlock {H HX : Hp} {a : Addr} {u : HO} {o : Obj} (ha : H a = some u) (s : Same (upd H a (.frz o u)) HX) : Same H (upd HX a u) := fun x y e => by
  by_cases c : x = a
  · subst c
    rw [upd_same, ← ha]
    exact e
  · rw [upd_ne c]
    exact s _ _ (by rw [upd_ne c]; exact e)
theorem inV_str (x : Str) : ∀ ws : List Str, inV (.str x) (ws.map V.str) = decide (x ∈ ws)
  | [] => rfl
  | y :: ws => by
    have ih := inV_str x ws
    unfold inV at ih ⊢
    rw [List.map_cons, List.any_cons, ih]
    show ((y == x) || decide (x ∈ ws)) = decide (x ∈ y :: ws)
    rw [Bool.eq_iff_iff, Bool.or_eq_true, beq_iff_eq, decide_eq_true_eq, decide_eq_true_eq, List.mem_cons]
    exact ⟨fun h => h.imp Eq.symm id, fun h => h.imp Eq.symm id⟩
theorem flat_strs (ws : List Str) : (ws.map V.str).all flatV = true := List.all_eq_true.mpr fun x hx => by
  obtain ⟨y, _, rfl⟩ := List.mem_map.mp hx
  rfl
section
variable {P : Program} {w : World} {K : PySem.W.Frag} {mg : Str → Option Value} {base : Heap}
/-! ### names_in_either -/
def spNamesE : Sp := fun vs H Q _ => ∃ (a c : Addr) (b d : BD), vs = [.ref a, .ref c] ∧ Bd H a b ∧ Bd H c d ∧ ∀ (p : Addr) H', H p = none → Same H H' → H' p = some (.lst ((namesF b d).map V.str)) → Q (.ref p) H'
theorem ok_namesE {f : Addr} {fd : FuncData} {k : Nat} (F : Fun K "names_in_either" "names_in_either" s_names_in_either f fd) : FnOk P w K mg base CX0 (k + 1) f fd ["one", "other"] spNamesE := by
  refine F.ok sc_names_in_either (fun vs H Q E h => ?_) (fun cdv A outer s H vs Q E hr h => ?_)
  · obtain ⟨a, c, b, d, rfl, _⟩ := h
    rfl
  · obtain ⟨a, c, b, d, rfl, hA, hC, q⟩ := h
    have la := hA.len
    have lc := hC.len
    obtain ⟨ka, ha, hEa, hNa, hLa, hBa⟩ := hA
    obtain ⟨kc, hc, hEc, hNc, hLc, hBc⟩ := hC
    refine ⟨_, pss_one (ps_ret (pe_lst (pa_starD rfl (pv 0) (StX.pa_star (pe_lock (pe_lc (own := [("name", 2)]) (g := gName 2) rfl sc_names_in_either.nd (pi_keys (pv 1))
      (blkOk_by (own := [("name", 2)]) (N := ["one", "other", "name"]) (sc := defScope s_names_in_either) (by decide +kernel))
      (fun _ _ _ _ _ => pg_name (i := 2) sc_names_in_either.nd rfl (Or.inl rfl)) (fun _ _ _ _ _ => pts_one (pt_cmp (pc_dnotin (hu_of hr) (pv 2) (pv 0))))
      (fun _ _ _ _ _ => pv 2))) pa_nil)))), ?_⟩
    refine ⟨_, rfl, a, ka, rfl, ha, c, _, hc, trivial, fun od => ⟨_, rfl, c, od, rfl, .inl ⟨kc, upd_same, fun D nD => ?_⟩⟩⟩
    have hcL : (upd H c (.frz od (.dK kc))) c = some (.frz od (.dK kc)) := upd_same
    have haL : Rd (upd H c (.frz od (.dK kc))) a (.dK ka) := rd_lock ha hc
    have hEcL := hEc.frz (o := od) (u := .dK kc) hc
    have nDc : D ≠ c := fun e => by
      rw [e, upd_same] at nD
      cases nD
    refine lc_it (walk_keys (d := c) (o := od) (kvs := kc)) (fun i HX => Same (upd H c (.frz od (.dK kc))) HX ∧ HX D = some (.lst (((((d.take i).map (·.1)).filter fun n => (at? b n).isNone)).map V.str)))
      ⟨same_new nD, upd_same⟩ (fun i HX _ h => h.1 _ _ hcL) (fun i x HX HX' hi hP hY => ?_) (fun HX hP => ?_)
    · obtain ⟨rfl, kk, v, hkv, rfl⟩ := hY
      obtain ⟨sL, hD⟩ := hP
      obtain ⟨n, l, vs, rfl, rfl, hl, hbi⟩ := hEcL.get hkv
      refine ⟨rfl, _, rfl, _, rfl, a, _, rfl, .inl ⟨ka, .inr n, Rd.same haL sL, rfl, rfl⟩, _, rfl, ?_⟩
      rw [hEa.val_isNone n]
      have et : ((d.take (i + 1)).map (·.1)).filter (fun n => (at? b n).isNone) = ((d.take i).map (·.1)).filter (fun n => (at? b n).isNone) ++ [n].filter fun n => (at? b n).isNone := by
        rw [take_get hbi, List.map_append, List.filter_append]
        rfl
      cases e : (at? b n).isNone with
      | true =>
        refine iteT ⟨_, rfl, _, hD, ?_, Same.own sL nD, ?_⟩
        · rw [List.length_map]
          refine small1000 (Nat.le_trans (List.length_filter_le _ _) ?_)
          rw [List.length_map, List.length_take]
          omega
        · rw [upd_same, et, List.filter_cons_of_pos (p := fun n => (at? b n).isNone) e, List.map_append]
          rfl
      | false =>
        refine iteF ⟨sL, ?_⟩
        rw [et, List.filter_cons_of_neg (p := fun n => (at? b n).isNone) (by show ¬ (at? b n).isNone = true; rw [e]; decide), hD]
        rw [List.filter_nil, List.append_nil]
    · obtain ⟨sL, hD⟩ := hP
      have hkl := hEc.length
      rw [hkl, List.take_length] at hD
      have sU := Same.unlock hc sL
      refine ⟨sL _ _ hcL, D, _, rfl, .inr (.inl (.inl (by rw [upd_ne nDc]; exact hD))), ?_, fun p np => ?_⟩
      · rw [List.append_nil, List.length_append, List.length_map, List.length_map]
        have := List.length_filter_le (fun n => (at? b n).isNone) (d.map (·.1))
        rw [List.length_map] at this
        have := hEa.length
        exact line1000 (by omega)
      · refine q p _ (sU.free np) (sU.trans (same_new np)) ?_
        rw [upd_same, hEa.knames, List.append_nil, ← List.map_append]
        rfl
/-! ### values_left -/
def spLeft : Sp := fun vs H Q _ => ∃ (a c : Addr) (b d : BD) (n : Str), vs = [.ref a, .ref c, .str n] ∧ Bd H a b ∧ Bd H c d ∧ (at? b n ≠ none ∨ at? d n ≠ none) ∧ ∀ (p : Addr) H', H p = none → Same H H' → H' p = some (.lst ((leftF b d n).map V.str)) → Q (.ref p) H'
theorem filter_snoc {α : Type} {p : α → Bool} {l : List α} {i : Nat} {x : α} (h : l[i]? = some x) : (l.take (i + 1)).filter p = (l.take i).filter p ++ if p x = true then [x] else [] := by
  rw [take_get h, List.filter_append]
  congr 1
  by_cases c : p x = true
  · rw [if_pos c, List.filter_cons_of_pos c, List.filter_nil]
  · rw [if_neg c, List.filter_cons_of_neg c, List.filter_nil]
theorem ok_left {f : Addr} {fd : FuncData} {k : Nat} (F : Fun K "values_left" "values_left" s_values_left f fd) (mli : mg "list" = none) : FnOk P w K mg base CX0 (k + 1) f fd ["one", "other", "name"] spLeft := by
  refine F.ok sc_values_left (fun vs H Q E h => ?_) (fun cdv A outer s H vs Q E hr h => ?_)
  · obtain ⟨a, c, b, d, n, rfl, _⟩ := h
    rfl
  · obtain ⟨a, c, b, d, n, rfl, ⟨ka, ha, hEa, hNa, hLa, hBa⟩, ⟨kc, hc, hEc, hNc, hLc, hBc⟩, hn, q⟩ := h
    refine ⟨_, pss_cons (ps_if (pt_cmp (pc_dnotin (hu_of hr) (pv 2) (pv 0))) (pss_one (ps_ret (pe_callTy call_list_of (by rfl) mli (by decide +kernel) (pa_cons (pe_dget (hu_of hr) (pv 1) (pv 2) (fun _ _ => rfl)) pa_nil)))) pss_nil)
      (pss_cons (ps_if (pt_cmp (pc_dnotin (hu_of hr) (pv 2) (pv 1))) (pss_one (ps_ret (pe_callTy call_list_of (by rfl) mli (by decide +kernel) (pa_cons (pe_dget (hu_of hr) (pv 0) (pv 2) (fun _ _ => rfl)) pa_nil)))) pss_nil)
      (pss_one (ps_ret (pe_lc (own := [("value", 3)]) (g := gName 3) rfl sc_values_left.nd (pi_list (pe_dget (hu_of hr) (pv 0) (pv 2) (fun _ _ => rfl)))
        (blkOk_by (own := [("value", 3)]) (N := ["one", "other", "name", "value"]) (sc := defScope s_values_left) (by decide +kernel))
        (fun _ _ _ _ _ => pg_name (i := 3) sc_values_left.nd rfl (Or.inl rfl)) (fun _ _ _ _ _ => pts_one (pt_cmpR (op_inK (K := K) rfl) (pv 3) (pe_dget (hu_of hr) (pv 1) (pv 2) (fun _ _ => rfl)) (by rfl)))
        (fun _ _ _ _ _ => pv 3))))), ?_⟩
    refine ⟨_, rfl, _, rfl, a, _, rfl, DGet.k (k := .inr n) ha, _, rfl, ?_⟩
    rcases hEa.val n with ⟨a1, a2⟩ | ⟨la, va, a1, a2, a3, a4⟩
    · rw [a2]
      rcases hEc.val n with ⟨c1, c2⟩ | ⟨lc, vc, c1, c2, c3, c4⟩
      · exact absurd hn (by rw [a1, c1]; exact fun z => z.elim (fun y => y rfl) (fun y => y rfl))
      · have el : leftF b d n = vc := by
          unfold leftF
          rw [a1, c1]
        rw [el] at q
        refine iteT ⟨_, rfl, _, rfl, c, _, rfl, by rw [← c2]; exact DGet.k (k := .inr n) hc, lc, _, rfl, .inl (.inl (.inl c3)), fun p np => ?_⟩
        exact q p _ np (same_new np) upd_same
    · rw [a2]
      refine iteF ⟨_, rfl, _, rfl, c, _, rfl, DGet.k (k := .inr n) hc, _, rfl, ?_⟩
      rcases hEc.val n with ⟨c1, c2⟩ | ⟨lc, vc, c1, c2, c3, c4⟩
      · rw [c2]
        have el : leftF b d n = va := by
          unfold leftF
          rw [a1, c1]
        rw [el] at q
        refine iteT ⟨_, rfl, _, rfl, a, _, rfl, by rw [← a2]; exact DGet.k (k := .inr n) ha, la, _, rfl, .inl (.inl (.inl a3)), fun p np => ?_⟩
        exact q p _ np (same_new np) upd_same
      · rw [c2]
        have el : leftF b d n = va.filter fun x => decide (x ∈ vc) := by
          unfold leftF
          rw [a1, c1]
        rw [el] at q
        refine iteF ⟨_, rfl, _, rfl, a, _, rfl, by rw [← a2]; exact DGet.k (k := .inr n) ha, la, rfl, ⟨_, .inl (.inl a3)⟩, fun D nD => ?_⟩
        have hva : va.length ≤ 20 := by
          obtain ⟨e', he', hl'⟩ := hEa.vals a4
          rw [a3] at hl'
          have := map_str_inj (HO.lst.inj (Option.some.inj hl'))
          rw [this]
          exact (hBa e' he').2.2.1
        refine lc_list (K := K) (a := la) (xs := va.map V.str) (fun i HX => Same H HX ∧ HX D = some (.lst (((va.take i).filter fun x => decide (x ∈ vc)).map V.str))) ⟨same_new nD, upd_same⟩ (fun i HX _ h => .inl (.inl (h.1 _ _ a3))) (fun i x HX hx hP => ?_) (fun HX hP => ?_)
        · obtain ⟨sL, hD⟩ := hP
          rw [List.getElem?_map] at hx
          obtain ⟨y, ey, ex⟩ := Option.map_eq_some_iff.mp hx
          subst ex
          refine ⟨rfl, _, rfl, _, rfl, _, rfl, c, _, rfl, by rw [← c2]; exact DGet.k (k := .inr n) (sL _ _ hc), lc, _, rfl, .inl (.inl (.inl (sL _ _ c3))), rfl, flat_strs vc, _, rfl, ?_⟩
          show if inV (V.str y) (vc.map V.str) = true then _ else _
          rw [inV_str]
          by_cases e : y ∈ vc
          · rw [decide_eq_true e]
            refine iteT ⟨_, rfl, _, hD, ?_, Same.own sL nD, ?_⟩
            · rw [List.length_map]
              refine small1000 (Nat.le_trans (List.length_filter_le _ _) ?_)
              rw [List.length_take]
              omega
            · rw [upd_same, filter_snoc ey, if_pos (decide_eq_true e), List.map_append]
              rfl
          · rw [decide_eq_false e]
            refine iteF ⟨sL, ?_⟩
            rw [filter_snoc ey, if_neg (by rw [decide_eq_false e]; decide), List.append_nil]
            exact hD
        · obtain ⟨sL, hD⟩ := hP
          rw [List.length_map, List.take_length] at hD
          exact q D HX nD sL hD
end
end Bn

namespace Bn
open PySem PySem.Spec PyProof.Rows L2 BR
/-! ### facts of what is joined -/
theorem at?_mem {b : BD} {n : Str} {v : List Str} (h : at? b n = some v) : (n, v) ∈ b := by
  induction b with
  | nil => cases h
  | cons e b ih =>
    rw [at?_cons] at h
    by_cases c : e.1 = n
    · rw [if_pos c] at h
      have h2 := Option.some.inj h
      rw [← c, ← h2]
      exact List.mem_cons_self ..
    · rw [if_neg c] at h
      exact List.mem_cons_of_mem _ (ih h)
theorem at?_of_name {b : BD} {n : Str} (h : n ∈ b.map (·.1)) : at? b n ≠ none := fun e => (at?_none_iff b n).mp e h
theorem namesF_some {b c : BD} {n : Str} (h : n ∈ namesF b c) : at? b n ≠ none ∨ at? c n ≠ none := by
  rcases List.mem_append.mp h with q | q
  · exact .inl (at?_of_name q)
  · exact .inr (at?_of_name (List.mem_filter.mp q).1)
theorem namesF_nodup {b c : BD} (hb : (b.map (·.1)).Nodup) (hc : (c.map (·.1)).Nodup) : (namesF b c).Nodup := by
  refine List.pairwise_append.mpr ⟨hb, List.Pairwise.filter _ hc, fun x hx y hy e => ?_⟩
  subst e
  have h1 := (List.mem_filter.mp hy).2
  exact at?_of_name hx (Option.isNone_iff_eq_none.mp h1)
theorem namesF_len (b c : BD) : (namesF b c).length ≤ b.length + c.length := by
  unfold namesF
  rw [List.length_append, List.length_map]
  have h := List.length_filter_le (fun n => (at? b n).isNone) (c.map (·.1))
  rw [List.length_map] at h
  omega
theorem entsF_names (b c : BD) : (entsF b c).map (·.1) = namesF b c := by
  unfold entsF
  rw [List.map_map]
  exact List.map_id' _
def valOk (e : Str × List Str) : Prop := okS e.1 ∧ 1 ≤ e.2.length ∧ e.2.length ≤ 20 ∧ ∀ x ∈ e.2, okS x
theorem leftF_ok {b c : BD} (hb : ∀ e ∈ b, valOk e) (hc : ∀ e ∈ c, valOk e) (n : Str) : (leftF b c n).length ≤ 20 ∧ ∀ x ∈ leftF b c n, okS x := by
  unfold leftF
  cases e1 : at? b n with
  | none =>
    cases e2 : at? c n with
    | none => exact ⟨Nat.zero_le _, fun x hx => by cases hx⟩
    | some w => exact ⟨(hc _ (at?_mem e2)).2.2.1, (hc _ (at?_mem e2)).2.2.2⟩
  | some v =>
    cases e2 : at? c n with
    | none => exact ⟨(hb _ (at?_mem e1)).2.2.1, (hb _ (at?_mem e1)).2.2.2⟩
    | some w => exact ⟨Nat.le_trans (List.length_filter_le _ _) (hb _ (at?_mem e1)).2.2.1, fun x hx => (hb _ (at?_mem e1)).2.2.2 x (List.mem_filter.mp hx).1⟩
theorem namesF_ok {b c : BD} (hb : ∀ e ∈ b, valOk e) (hc : ∀ e ∈ c, valOk e) {n : Str} (h : n ∈ namesF b c) : okS n := by
  rcases List.mem_append.mp h with q | q
  · obtain ⟨e, he, rfl⟩ := List.mem_map.mp q
    exact (hb e he).1
  · obtain ⟨e, he, rfl⟩ := List.mem_map.mp (List.mem_filter.mp q).1
    exact (hc e he).1
theorem entsF_bdb {b c : BD} (hb : BdB b) (hc : BdB c) (hl : b.length + c.length ≤ 200) (hne : ∀ e ∈ entsF b c, e.2.isEmpty = false) : BdB (entsF b c) := by
  refine ⟨by rw [entsF_names]; exact namesF_nodup hb.1 hc.1, ?_, fun e he => ?_⟩
  · have := namesF_len b c
    have e : (entsF b c).length = (namesF b c).length := List.length_map _
    omega
  · have h1 := hne e he
    obtain ⟨n, hn, rfl⟩ := List.mem_map.mp he
    obtain ⟨h2, h3⟩ := leftF_ok hb.2.2 hc.2.2 n
    refine ⟨namesF_ok hb.2.2 hc.2.2 hn, ?_, h2, h3⟩
    cases e : leftF b c n with
    | nil => rw [show (n, leftF b c n).2 = leftF b c n from rfl, e] at h1; cases h1
    | cons x r => exact Nat.succ_le_succ (Nat.zero_le _)
theorem joinedF_none {b c : BD} {n : Str} (hn : n ∈ namesF b c) (h : leftF b c n = []) : joinedF b c = none := by
  unfold joinedF
  rw [if_pos]
  exact List.any_eq_true.mpr ⟨(n, leftF b c n), List.mem_map.mpr ⟨n, hn, rfl⟩, by show (leftF b c n).isEmpty = true; rw [h]; rfl⟩
theorem joinedF_some {b c : BD} (h : ∀ e ∈ entsF b c, e.2.isEmpty = false) : joinedF b c = some (entsF b c) := by
  unfold joinedF
  rw [if_neg]
  intro z
  obtain ⟨e, he, e2⟩ := List.any_eq_true.mp z
  rw [h e he] at e2
  cases e2
theorem entsF_get {b c : BD} {i : Nat} {n : Str} (h : (namesF b c)[i]? = some n) : (entsF b c)[i]? = some (n, leftF b c n) := by
  unfold entsF
  rw [List.getElem?_map, h]
  rfl
theorem nodup_get {l : List Str} {i : Nat} {n : Str} (hn : l.Nodup) (h : l[i]? = some n) : n ∉ l.take i := fun hm => by
  obtain ⟨j, hj⟩ := List.getElem?_of_mem hm
  obtain ⟨hlt, _⟩ := List.getElem?_eq_some_iff.mp hj
  rw [List.length_take] at hlt
  have hj2 : l[j]? = some n := by
    rw [List.getElem?_take_of_lt (by omega)] at hj
    exact hj
  have := nd_ix hn hj2 h
  omega
theorem Ents.nokey {H : Hp} {kvs : List (Key × V)} {b : BD} (h : Ents H kvs b) {n : Str} (hn : n ∉ b.map (·.1)) : valV kvs (.inr n) = none := by
  rcases h.val n with ⟨_, h2⟩ | ⟨l, vs, h1, _⟩
  · exact h2
  · rw [(at?_none_iff b n).mpr hn] at h1
    cases h1
section
variable {P : Program} {w : World} {K : PySem.W.Frag} {mg : Str → Option Value} {base : Heap}
def spJoined : Sp := fun vs H Q _ => ∃ (a c : Addr) (b d : BD), vs = [.ref a, .ref c] ∧ Bd H a b ∧ Bd H c d ∧ b.length + d.length ≤ 200 ∧ (joinedF b d = none → ∀ H', Same H H' → Q .non H') ∧
  ∀ es, joinedF b d = some es → ∀ (p : Addr) (kvs : List (Key × V)) H', H p = none → Same H H' → H' p = some (.dK kvs) → Ents H' kvs es → BdB es → (∀ n l, (n, V.ref l) ∈ kvs → H l = none) → Q (.ref p) H'
theorem ok_joined {f fN fL : Addr} {fd fdN fdL : FuncData} {k : Nat} (F : Fun K "joined" "joined" s_joined f fd)
    (kN : PySem.W.keepIn K (.ref fN) = true) (bN : Binds K fdN ["one", "other"] []) (gN : mg "names_in_either" = some (.ref fN)) (GN : FnOk P w K mg base CX0 (k + 1) fN fdN ["one", "other"] spNamesE)
    (kL : PySem.W.keepIn K (.ref fL) = true) (bL : Binds K fdL ["one", "other", "name"] []) (gL : mg "values_left" = some (.ref fL)) (GL : FnOk P w K mg base CX0 (k + 1) fL fdL ["one", "other", "name"] spLeft) :
    FnOk P w K mg base CX0 (k + 2) f fd ["one", "other"] spJoined := by
  refine F.ok sc_joined (fun vs H Q E h => ?_) (fun cdv A outer s H vs Q E hr h => ?_)
  · obtain ⟨a, c, b, d, rfl, _⟩ := h
    rfl
  · obtain ⟨a, c, b, d, rfl, hA, hC, hbd, qN, qS⟩ := h
    refine ⟨_, pss_cons (ps_set (i := 2) sc_joined.nd rfl (.inl rfl) pe_dnewK)
      (pss_cons (ps_for PassesOwn.never rfl (pi_list (pe_call GN hr (by rfl) gN kN bN .nil pass0 (pa_cons (pv 0) (pa_cons (pv 1) pa_nil)))) (pg_name (i := 3) sc_joined.nd rfl (.inl rfl))
        (pss_cons (ps_set (i := 4) sc_joined.nd rfl (.inl rfl) (pe_call GL hr (by rfl) gL kL bL .nil pass0 (pa_cons (pv 0) (pa_cons (pv 1) (pa_cons (pv 3) pa_nil)))))
        (pss_cons (ps_if (pt_not (pt_truth (pv 4) (by intro _; rfl))) (pss_one (ps_ret pe_non)) pss_nil)
        (pss_one (ps_dput (hu_of hr) (pv 2) (pv 3) (pv 4) rfl)))))
      (pss_one (ps_ret (pv 2)))), ?_⟩
    intro d0 nd0
    have s1 : Same H (upd H d0 (.dK [])) := same_new nd0
    refine ⟨_, rfl, _, rfl, a, c, b, d, rfl, hA.same s1, hC.same s1, fun ln H2 nln s2 hln => ?_⟩
    have s02 := s1.trans s2
    have hd2 : H2 d0 = some (.dK []) := s2 _ _ upd_same
    have bb : BdB b := by obtain ⟨_, _, _, z⟩ := hA; exact z
    have bc : BdB d := by obtain ⟨_, _, _, z⟩ := hC; exact z
    have nn := namesF_nodup bb.1 bc.1
    have nlen := namesF_len b d
    have nlnH : H ln = none := s1.free nln
    have nld : ln ≠ d0 := (ne_of_none (upd_same (H := H) (a := d0) (o := .dK [])) nln).symm
    refine ⟨ln, rfl, ⟨_, .inl (.inl hln)⟩, for_list (K := K) (a := ln) (xs := (namesF b d).map V.str) (fun i σ H' => ∃ y3 y4, σ = [some (.ref a), some (.ref c), some (.ref d0), y3, y4] ∧ Same H H' ∧ H' ln = some (.lst ((namesF b d).map V.str)) ∧ ∃ kvs, H' d0 = some (.dK kvs) ∧ Ents H' kvs ((entsF b d).take i) ∧ (∀ n l, (n, V.ref l) ∈ kvs → H l = none) ∧ ∀ e ∈ (entsF b d).take i, e.2.isEmpty = false)
      ⟨none, none, rfl, s02, hln, [], hd2, .nil, (fun n l hm => nomatch hm), (fun e he => nomatch he)⟩ (fun i σ H' _ h => ?_) (fun i x σ H' hx hP => ?_) (fun σ H' hP => ?_)⟩
    · obtain ⟨_, _, _, _, h, _⟩ := h
      exact .inl (.inl h)
    · obtain ⟨y3, y4, rfl, sH, hl', kvs, hd', hE, hfr, hne⟩ := hP
      rw [List.getElem?_map] at hx
      obtain ⟨n, en, ex⟩ := Option.map_eq_some_iff.mp hx
      subst ex
      have hmem : n ∈ namesF b d := List.mem_of_getElem? en
      have hil : i < (namesF b d).length := (List.getElem?_eq_some_iff.mp en).1
      refine ⟨_, rfl, _, rfl, _, rfl, a, c, b, d, n, rfl, hA.same sH, hC.same sH, namesF_some hmem, fun p HA np sA hp => ?_⟩
      refine ⟨_, rfl, _, .inl ⟨_, .inl (.inl hp), rfl⟩, ?_⟩
      rw [show ((leftF b d n).map V.str).isEmpty = (leftF b d n).isEmpty from List.isEmpty_map]
      cases he : (leftF b d n).isEmpty with
      | true =>
        refine iteT ?_
        exact qN (joinedF_none hmem (List.isEmpty_iff.mp he)) _ (sH.trans sA)
      | false =>
        have hnew : n ∉ ((entsF b d).take i).map (·.1) := by
          rw [List.map_take, entsF_names]
          exact nodup_get nn en
        have hdA := sA _ _ hd'
        have hEA := hE.same sA
        have hk := hEA.nokey hnew
        refine iteF ⟨_, rfl, _, rfl, _, rfl, d0, _, rfl, DPut.k (k := .inr n) hdA ?_, ?_⟩
        · rw [hEA.length, List.length_take]
          exact small1000 (by omega)
        · rw [putK_new _ hk]
          refine ⟨_, _, rfl, Same.own (sH.trans sA) nd0, ?_, _, upd_same, ?_, fun m l hm => ?_, fun e hm => ?_⟩
          · rw [upd_ne nld]
            exact sA _ _ hl'
          · rw [take_get (entsF_get en)]
            exact (hEA.app (.cons hp .nil)).upd_dict hdA
          · rcases List.mem_append.mp hm with z | z
            · exact hfr m l z
            · have z2 := List.mem_singleton.mp z
              injection z2 with _ z3
              rw [V.ref.inj z3]
              exact sH.free np
          · rw [take_get (entsF_get en)] at hm
            rcases List.mem_append.mp hm with z | z
            · exact hne e z
            · rw [List.mem_singleton.mp z]
              exact he
    · obtain ⟨y3, y4, rfl, sH, hl', kvs, hd', hE, hfr, hne⟩ := hP
      have el : ((namesF b d).map V.str).length = (entsF b d).length := by
        unfold entsF
        rw [List.length_map, List.length_map]
      rw [el, List.take_length] at hE hne
      exact ⟨_, rfl, qS _ (joinedF_some hne) d0 kvs _ nd0 sH hd' hE (entsF_bdb bb bc hbd hne) hfr⟩
end
end Bn

namespace Bn
open PySem PySem.Spec PyProof.Rows L2 BR
theorem count_pos (x : Str) (ws : List Str) : decide ((0 : Int) < ((ws.count x : Nat) : Int)) = decide (x ∈ ws) := by
  rw [Bool.eq_iff_iff, decide_eq_true_eq, decide_eq_true_eq]
  constructor
  · intro h
    exact List.count_pos_iff.mp (by omega)
  · intro h
    have := List.count_pos_iff.mpr h
    omega
section
variable {P : Program} {w : World} {K : PySem.W.Frag} {mg : Str → Option Value} {base : Heap}
theorem ok_ljoined {f : Addr} {fd : FuncData} {k : Nat} (F : Fun K "_law_joined" "_law_joined" s_l_joined f fd) (mli : mg "list" = none) : FnOk P w K mg base CX0 (k + 1) f fd ["_law_one", "_law_other"] spJoined := by
  refine F.ok sc_l_joined (fun vs H Q E h => ?_) (fun cdv A outer s H vs Q E hr h => ?_)
  · obtain ⟨a, c, b, d, rfl, _⟩ := h
    rfl
  · obtain ⟨a, c, b, d, rfl, hA, hC, hbd, qN, qS⟩ := h
    refine ⟨_, pss_cons (ps_set (i := 2) sc_l_joined.nd rfl (.inl rfl) pe_dnewK)
      (pss_cons (ps_for PassesOwn.never rfl (pi_list (pe_op op_cat (pe_callTy (call_list_dK rfl) (by rfl) mli (by decide +kernel) (pa_cons (pv 0) pa_nil)) (pe_lock (pe_lc (own := [("_law_title", 4)]) (g := gName 4) rfl sc_l_joined.nd (pi_keys (pv 1))
          (blkOk_by (own := [("_law_title", 4)]) (N := ["_law_one", "_law_other", "_law_made", "_law_name", "_law_title", "_law_value"]) (sc := defScope s_l_joined) (by decide +kernel))
          (fun _ _ _ _ _ => pg_name (i := 4) sc_l_joined.nd rfl (Or.inl rfl)) (fun _ _ _ _ _ => pts_one (pt_cmp (pc_dnotin (hu_of hr) (pv 4) (pv 0)))) (fun _ _ _ _ _ => pv 4))))) (pg_name (i := 3) sc_l_joined.nd rfl (.inr rfl))
        (C8.pss_cut (ps_if (PW.pt (pw_and (pt_cmp (pc_din (hu_of hr) (pv 3) (pv 0))) (pw_and1 (pt_cmp (pc_din (hu_of hr) (pv 3) (pv 1))))))
          (pss_one (ps_dput (hu_of hr) (pv 2) (pv 3) (pe_lc (own := [("_law_value", 5)]) (g := gName 5) rfl sc_l_joined.nd (pi_list (pe_dget (hu_of hr) (pv 0) (pv 3) (fun _ _ => rfl)))
            (blkOk_by (own := [("_law_value", 5)]) (N := ["_law_one", "_law_other", "_law_made", "_law_name", "_law_title", "_law_value"]) (sc := defScope s_l_joined) (by decide +kernel))
            (fun _ _ _ _ _ => pg_name (i := 5) sc_l_joined.nd rfl (Or.inl rfl)) (fun _ _ _ _ _ => pts_one (pt_cmpR op_gt (pe_bmK (K := K) rfl PySem.F.plainAttrs_list PySem.F.slot_list_count PySem.F.type_list_count (mt_countK (K := K) rfl) (pe_dget (hu_of hr) (pv 1) (pv 3) (fun _ _ => rfl)) (pa_cons (pv 5) pa_nil)) pe_int (nomark _))) (fun _ _ _ _ _ => pv 5)) rfl))
          (pss_one (ps_dput (hu_of hr) (pv 2) (pv 3) (pe_callTy call_list_of (by rfl) mli (by decide +kernel) (pa_cons (pe_dget2 (hu_of hr) (pv 0) (pv 3) (pe_dget1 (hu_of hr) (pv 1) (pv 3) ⟨rfl, rfl, rfl, rfl⟩) ⟨rfl, rfl, rfl, rfl⟩) pa_nil)) rfl)))
        (pss_one (ps_if (pt_cmpR (op_eqD hr.units) (pe_dget (hu_of hr) (pv 2) (pv 3) (fun _ _ => rfl)) (pe_lst pa_nil) (nomark _)) (pss_one (ps_ret pe_non)) pss_nil))))
      (pss_one (ps_ret (pv 2)))), ?_⟩
    have bb : BdB b := by obtain ⟨_, _, _, z⟩ := hA; exact z
    have bc : BdB d := by obtain ⟨_, _, _, z⟩ := hC; exact z
    have nn := namesF_nodup bb.1 bc.1
    have nlen := namesF_len b d
    intro d0 nd0
    have s1 : Same H (upd H d0 (.dK [])) := same_new nd0
    have hA1 := hA.same s1
    have hC1 := hC.same s1
    have hd1 : (upd H d0 (.dK [])) d0 = some (.dK []) := upd_same
    generalize upd H d0 (.dK []) = H1 at s1 hA1 hC1 hd1 ⊢
    obtain ⟨ka, ha, hEa, hNa, hLa, hBa⟩ := hA1
    obtain ⟨kc, hc, hEc, hNc, hLc, hBc⟩ := hC1
    refine ⟨_, rfl, a, ka, rfl, ha, fun l1 nl1 => ?_⟩
    have s2 : Same H1 (upd H1 l1 (.lst (ka.map fun kv => kV kv.1))) := same_new nl1
    have hl1 : (upd H1 l1 (.lst (ka.map fun kv => kV kv.1))) l1 = some (.lst (ka.map fun kv => kV kv.1)) := upd_same
    generalize upd H1 l1 (.lst (ka.map fun kv => kV kv.1)) = H2 at s2 hl1 ⊢
    have hc2 := s2 _ _ hc
    have ha2 := s2 _ _ ha
    have hEc2 := hEc.same s2
    have hEa2 := hEa.same s2
    refine ⟨c, _, hc2, trivial, fun od => ⟨_, rfl, c, od, rfl, .inl ⟨kc, upd_same, fun D nD => ?_⟩⟩⟩
    have hcL : (upd H2 c (.frz od (.dK kc))) c = some (.frz od (.dK kc)) := upd_same
    have haL : Rd (upd H2 c (.frz od (.dK kc))) a (.dK ka) := rd_lock ha2 hc2
    have hEcL := hEc2.frz (o := od) (u := .dK kc) hc2
    have nDc : D ≠ c := fun e => by
      rw [e, upd_same] at nD
      cases nD
    refine lc_it (walk_keys (d := c) (o := od) (kvs := kc)) (fun i HX => Same (upd H2 c (.frz od (.dK kc))) HX ∧ HX D = some (.lst (((((d.take i).map (·.1)).filter fun n => (at? b n).isNone)).map V.str)))
      ⟨same_new nD, upd_same⟩ (fun i HX _ h => h.1 _ _ hcL) (fun i x HX HX' hi hP hY => ?_) (fun HX hP => ?_)
    · obtain ⟨rfl, kk, v, hkv, rfl⟩ := hY
      obtain ⟨sL, hD⟩ := hP
      obtain ⟨n, l, vs, rfl, rfl, hl, hbi⟩ := hEcL.get hkv
      refine ⟨rfl, _, rfl, _, rfl, a, _, rfl, .inl ⟨ka, .inr n, Rd.same haL sL, rfl, rfl⟩, _, rfl, ?_⟩
      rw [hEa.val_isNone n]
      have et : ((d.take (i + 1)).map (·.1)).filter (fun n => (at? b n).isNone) = ((d.take i).map (·.1)).filter (fun n => (at? b n).isNone) ++ [n].filter fun n => (at? b n).isNone := by
        rw [take_get hbi, List.map_append, List.filter_append]
        rfl
      cases e : (at? b n).isNone with
      | true =>
        refine iteT ⟨_, rfl, _, hD, ?_, Same.own sL nD, ?_⟩
        · rw [List.length_map]
          refine small1000 (Nat.le_trans (List.length_filter_le _ _) ?_)
          rw [List.length_map, List.length_take]
          omega
        · rw [upd_same, et, List.filter_cons_of_pos (p := fun n => (at? b n).isNone) e, List.map_append]
          rfl
      | false =>
        refine iteF ⟨sL, ?_⟩
        rw [et, List.filter_cons_of_neg (p := fun n => (at? b n).isNone) (by show ¬ (at? b n).isNone = true; rw [e]; decide), hD]
        rw [List.filter_nil, List.append_nil]
    · obtain ⟨sL, hD⟩ := hP
      have hkl := hEc.length
      rw [hkl, List.take_length] at hD
      have sU := Same.unlock hc2 sL
      have hD' : (upd HX c (.dK kc)) D = some (.lst (((d.map (·.1)).filter fun n => (at? b n).isNone).map V.str)) := by
        rw [upd_ne nDc]
        exact hD
      refine ⟨sL _ _ hcL, l1, D, _, _, rfl, rfl, sU _ _ hl1, hD', ?_, fun ln nln => ?_⟩
      · rw [List.length_map, List.length_map, hEa.length]
        have := List.length_filter_le (fun n => (at? b n).isNone) (d.map (·.1))
        rw [List.length_map] at this
        exact line1000 (by omega)
      rw [hEa.knames, ← List.map_append]
      show ∃ _, _
      have hlnE : (upd (upd HX c (.dK kc)) ln (.lst ((namesF b d).map V.str))) ln = some (.lst ((namesF b d).map V.str)) := upd_same
      have s12 : Same H1 (upd HX c (.dK kc)) := s2.trans sU
      have s13 : Same H1 (upd (upd HX c (.dK kc)) ln (.lst ((namesF b d).map V.str))) := s12.trans (same_new nln)
      have nld : ln ≠ d0 := (ne_of_none (s12 _ _ hd1) nln).symm
      refine ⟨ln, rfl, ⟨_, .inl (.inl hlnE)⟩, for_list (K := K) (a := ln) (xs := (namesF b d).map V.str) (fun i σ H' => ∃ y3 y4 y5, σ = [some (.ref a), some (.ref c), some (.ref d0), y3, y4, y5] ∧ Same H H' ∧ H' ln = some (.lst ((namesF b d).map V.str)) ∧ ∃ kvs, H' d0 = some (.dK kvs) ∧ Ents H' kvs ((entsF b d).take i) ∧ (∀ n l, (n, V.ref l) ∈ kvs → H l = none) ∧ ∀ e ∈ (entsF b d).take i, e.2.isEmpty = false)
        ⟨_, _, _, rfl, s1.trans s13, hlnE, [], s13 _ _ hd1, .nil, (fun n l hm => nomatch hm), (fun e he => nomatch he)⟩ (fun i σ H' _ h => ?_) (fun i x σ H' hx hP => ?_) (fun σ H' hP => ?_)⟩
      · obtain ⟨_, _, _, _, _, h, _⟩ := h
        exact .inl (.inl h)
      · obtain ⟨y3, y4, y5, rfl, sH, hl', kvs, hd', hE, hfr, hne⟩ := hP
        rw [List.getElem?_map] at hx
        obtain ⟨n, en, ex⟩ := Option.map_eq_some_iff.mp hx
        subst ex
        have hmem : n ∈ namesF b d := List.mem_of_getElem? en
        have hil : i < (namesF b d).length := (List.getElem?_eq_some_iff.mp en).1
        obtain ⟨ka', ha', hEa', _, _, _⟩ := hA.same sH
        obtain ⟨kc', hc', hEc', _, _, _⟩ := hC.same sH
        have hnew : n ∉ ((entsF b d).take i).map (·.1) := by
          rw [List.map_take, entsF_names]
          exact nodup_get nn en
        obtain ⟨lf1, lf2⟩ := leftF_ok bb.2.2 bc.2.2 n
        refine ⟨fun σ' HM => ∃ kvs', σ' = [some (.ref a), some (.ref c), some (.ref d0), some (.str n), y4, y5] ∧ Same H HM ∧ HM ln = some (.lst ((namesF b d).map V.str)) ∧ HM d0 = some (.dK kvs') ∧ Ents HM kvs' ((entsF b d).take (i + 1)) ∧ (∀ n l, (n, V.ref l) ∈ kvs' → H l = none), ?_, fun σ' HM hM => ?_⟩
        · -- the two ways of made[name] = ..
          have put : ∀ {HZ : Hp} {p : Addr}, Same H' HZ → H' p = none → HZ p = some (.lst ((leftF b d n).map V.str)) → ∃ H4, DPut HZ d0 (.str n) (.ref p) H4 ∧ ∃ kvs', [some (V.ref a), some (.ref c), some (.ref d0), some (.str n), y4, y5] = [some (.ref a), some (.ref c), some (.ref d0), some (.str n), y4, y5] ∧ Same H H4 ∧ H4 ln = some (.lst ((namesF b d).map V.str)) ∧ H4 d0 = some (.dK kvs') ∧ Ents H4 kvs' ((entsF b d).take (i + 1)) ∧ (∀ n l, (n, V.ref l) ∈ kvs' → H l = none) := by
            intro HZ p sZ np hp
            have hdZ := sZ _ _ hd'
            have hEZ := hE.same sZ
            have hk := hEZ.nokey hnew
            refine ⟨_, DPut.k (k := .inr n) hdZ (by rw [hEZ.length, List.length_take]; exact small1000 (by omega)), ?_⟩
            rw [putK_new _ hk]
            refine ⟨_, rfl, Same.own (sH.trans sZ) nd0, ?_, upd_same, ?_, fun m l hm => ?_⟩
            · rw [upd_ne nld]
              exact sZ _ _ hl'
            · rw [take_get (entsF_get en)]
              exact (hEZ.app (.cons hp .nil)).upd_dict hdZ
            · rcases List.mem_append.mp hm with z | z
              · exact hfr m l z
              · have z2 := List.mem_singleton.mp z
                injection z2 with _ z3
                rw [V.ref.inj z3]
                exact sH.free np
          refine ⟨_, rfl, _, rfl, a, _, rfl, DGet.k (k := .inr n) ha', _, rfl, ?_⟩
          rcases hEa'.val n with ⟨a1, a2⟩ | ⟨la, va, a1, a2, a3, a4⟩
          · rw [a2]
            rcases hEc'.val n with ⟨c1, c2⟩ | ⟨lc, vc, c1, c2, c3, c4⟩
            · exact absurd (namesF_some hmem) (by rw [a1, c1]; exact fun z => z.elim (fun y => y rfl) (fun y => y rfl))
            · have el : leftF b d n = vc := by
                unfold leftF
                rw [a1, c1]
              refine iteF (iteF ⟨_, rfl, a, rfl, .inl ⟨_, .inl ha'⟩, _, rfl, _, rfl, c, rfl, .inl ⟨_, .inl hc'⟩, _, rfl, _, DGet.k (k := .inr n) hc', _, DGet.k (k := .inr n) ha', ?_⟩)
              rw [a2, c2]
              refine ⟨lc, _, rfl, .inl (.inl (.inl c3)), fun p np => ?_⟩
              obtain ⟨H4, hput, hmid⟩ := put (same_new np) np (by rw [el]; exact upd_same)
              exact ⟨_, rfl, _, rfl, d0, H4, rfl, hput, hmid⟩
          · rw [a2]
            refine iteT ⟨_, rfl, _, rfl, c, _, rfl, DGet.k (k := .inr n) hc', _, rfl, ?_⟩
            rcases hEc'.val n with ⟨c1, c2⟩ | ⟨lc, vc, c1, c2, c3, c4⟩
            · have el : leftF b d n = va := by
                unfold leftF
                rw [a1, c1]
              rw [c2]
              refine iteF ⟨_, rfl, a, rfl, .inl ⟨_, .inl ha'⟩, _, rfl, _, rfl, c, rfl, .inl ⟨_, .inl hc'⟩, _, rfl, _, DGet.k (k := .inr n) hc', _, DGet.k (k := .inr n) ha', ?_⟩
              rw [a2, c2]
              refine ⟨la, _, rfl, .inl (.inl (.inl a3)), fun p np => ?_⟩
              obtain ⟨H4, hput, hmid⟩ := put (same_new np) np (by rw [el]; exact upd_same)
              exact ⟨_, rfl, _, rfl, d0, H4, rfl, hput, hmid⟩
            · have el : leftF b d n = va.filter fun x => decide (x ∈ vc) := by
                unfold leftF
                rw [a1, c1]
              rw [c2]
              have hva : va.length ≤ 20 := (bb.2.2 _ (at?_mem a1)).2.2.1
              refine iteT ⟨_, rfl, _, rfl, a, _, rfl, by rw [← a2]; exact DGet.k (k := .inr n) ha', la, rfl, ⟨_, .inl (.inl a3)⟩, fun D2 nD2 => ?_⟩
              refine lc_list (K := K) (a := la) (xs := va.map V.str) (fun j HX => Same H' HX ∧ HX D2 = some (.lst (((va.take j).filter fun x => decide (x ∈ vc)).map V.str))) ⟨same_new nD2, upd_same⟩ (fun j HX _ h => .inl (.inl (h.1 _ _ a3))) (fun j x HX hx hP => ?_) (fun HX hP => ?_)
              · obtain ⟨sL, hD⟩ := hP
                rw [List.getElem?_map] at hx
                obtain ⟨y, ey, ex⟩ := Option.map_eq_some_iff.mp hx
                subst ex
                refine ⟨rfl, _, rfl, _, rfl, c, V.ref lc, rfl, by rw [← c2]; exact DGet.k (k := .inr n) (sL _ _ hc'), .inl ⟨rfl, _, .inl (.inl (sL _ _ c3))⟩, _, rfl, lc, vc, y, rfl, rfl, .inl (.inl (sL _ _ c3)), _, _, rfl, rfl, _, rfl, ?_⟩
                rw [count_pos]
                by_cases e : y ∈ vc
                · rw [decide_eq_true e]
                  refine iteT ⟨_, rfl, _, hD, ?_, Same.own sL nD2, ?_⟩
                  · rw [List.length_map]
                    refine small1000 (Nat.le_trans (List.length_filter_le _ _) ?_)
                    rw [List.length_take]
                    omega
                  · rw [upd_same, filter_snoc ey, if_pos (decide_eq_true e), List.map_append]
                    rfl
                · rw [decide_eq_false e]
                  refine iteF ⟨sL, ?_⟩
                  rw [filter_snoc ey, if_neg (by rw [decide_eq_false e]; decide), List.append_nil]
                  exact hD
              · obtain ⟨sL, hD⟩ := hP
                rw [List.length_map, List.take_length] at hD
                obtain ⟨H4, hput, hmid⟩ := put sL nD2 (by rw [el]; exact hD)
                exact ⟨_, rfl, _, rfl, d0, H4, rfl, hput, hmid⟩
        · -- if made[name] == []
          obtain ⟨kvs', rfl, sM, hlM, hdM, hEM, hfM⟩ := hM
          have hin : (n, leftF b d n) ∈ (entsF b d).take (i + 1) := by
            rw [take_get (entsF_get en)]
            exact List.mem_append_right _ (List.mem_singleton.mpr rfl)
          have hval : ∃ l, valV kvs' (.inr n) = some (.ref l) ∧ HM l = some (.lst ((leftF b d n).map V.str)) := by
            rcases hEM.val n with ⟨z, _⟩ | ⟨l, vs, z1, z2, z3, _⟩
            · exact absurd z (at?_of_name (List.mem_map.mpr ⟨_, hin, rfl⟩))
            · have z4 := at?_mem z1
              have nd : (((entsF b d).take (i + 1)).map (·.1)).Nodup := by
                rw [List.map_take, entsF_names]
                exact List.Sublist.nodup (List.take_sublist _ _) nn
              have : vs = leftF b d n := by
                obtain ⟨n', hn', e'⟩ := List.mem_map.mp (List.mem_of_mem_take z4)
                injection e' with e1 e2
                rw [← e2, e1]
              exact ⟨l, z2, by rw [← this]; exact z3⟩
          obtain ⟨l, hv1, hv2⟩ := hval
          refine ⟨_, rfl, _, rfl, d0, _, rfl, by rw [← hv1]; exact DGet.k (k := .inr n) hdM, Nat.zero_le _, fun p1 np1 => ?_⟩
          have sm : Same HM (upd HM p1 (.lst [])) := same_new np1
          refine ⟨_, _, .lst (.inl (.inl (sm _ _ hv2))) (strs_dp _), .lst (.inl (.inl upd_same)) .nil, strs_list_shaped lf2, rfl, _, rfl, ?_⟩
          rw [strs_nil]
          cases he : (leftF b d n).isEmpty with
          | true => exact iteT (qN (joinedF_none hmem (List.isEmpty_iff.mp he)) _ (sM.trans sm))
          | false =>
            refine iteF ⟨_, _, _, rfl, sM.trans sm, sm _ _ hlM, kvs', sm _ _ hdM, hEM.same sm, hfM, fun e hm => ?_⟩
            rw [take_get (entsF_get en)] at hm
            rcases List.mem_append.mp hm with z | z
            · exact hne e z
            · rw [List.mem_singleton.mp z]
              exact he
      · obtain ⟨y3, y4, y5, rfl, sH, hl', kvs, hd', hE, hfr, hne⟩ := hP
        have el : ((namesF b d).map V.str).length = (entsF b d).length := by
          unfold entsF
          rw [List.length_map, List.length_map]
        rw [el, List.take_length] at hE hne
        exact ⟨_, rfl, qS _ (joinedF_some hne) d0 kvs _ nd0 sH hd' hE (entsF_bdb bb bc hbd hne) hfr⟩
end
end Bn

namespace Bn
open PySem PySem.Spec PyProof.Rows L2 BR
theorem strs_eqv : ∀ vs : List Str, PyData.eqvAll (vs.map PyData.str) (vs.map PyData.str) = true
  | [] => rfl
  | v :: vs => by
    show ((v == v) && PyData.eqvAll (vs.map PyData.str) (vs.map PyData.str)) = true
    rw [strs_eqv vs, beq_self_eq_true]
    rfl
theorem strs_ne (vs : List Str) : (!PyData.eqv (.list (vs.map PyData.str)) (.list (vs.map PyData.str))) = false := by
  rw [show PyData.eqv (.list (vs.map PyData.str)) (.list (vs.map PyData.str)) = PyData.eqvAll (vs.map PyData.str) (vs.map PyData.str) from rfl, strs_eqv]
  rfl
theorem at?_get {b : BD} (hn : (b.map (·.1)).Nodup) : ∀ {i : Nat} {n : Str} {vs : List Str}, b[i]? = some (n, vs) → at? b n = some vs := by
  induction b with
  | nil => intro i n vs h; simp at h
  | cons e b ih =>
    intro i n vs h
    obtain ⟨h1, h2⟩ := List.nodup_cons.mp hn
    cases i with
    | zero =>
      have e' := Option.some.inj h
      subst e'
      rw [at?_cons, if_pos rfl]
    | succ j =>
      have h' : b[j]? = some (n, vs) := h
      rw [at?_cons, if_neg, ih h2 h']
      intro z
      exact h1 (List.mem_map.mpr ⟨(n, vs), List.mem_of_getElem? h', z.symm⟩)
theorem eq_strs {K : PySem.W.Frag} {H : Hp} : ∀ vs : List Str, Paired (EqV K H 1) (vs.map V.str) (vs.map V.str)
  | [] => .nil
  | v :: vs => .cons (.inl ⟨rfl, rfl⟩) (eq_strs vs)
theorem eq_dicts {K : PySem.W.Frag} {H : Hp} {p r : Addr} {kp kr : List (Key × V)} {es : BD} (hp : H p = some (.dK kp)) (hr : H r = some (.dK kr)) (ep : Ents H kp es) (er : Ents H kr es) (hn : (es.map (·.1)).Nodup) : EqR K H (EqV K H 2) (.ref p) (.ref r) := by
  refine .inr ⟨p, r, kp, kr, rfl, rfl, hp, hr, by rw [ep.length, er.length], fun q hq => ?_⟩
  obtain ⟨i, hi⟩ := List.getElem?_of_mem hq
  obtain ⟨n, l, vs, e1, e2, e3, e4⟩ := ep.get (k := q.1) (v := q.2) hi
  have ha := at?_get hn e4
  rcases er.val n with ⟨z, _⟩ | ⟨l', vs', z1, z2, z3, _⟩
  · rw [ha] at z
    cases z
  · rw [ha] at z1
    have z4 := Option.some.inj z1
    subst z4
    exact ⟨.ref l', by rw [e1]; exact z2, by rw [e2]; exact .inr (.inr (.inl ⟨l, l', _, _, rfl, rfl, .inl (.inl e3), .inl (.inl z3), eq_strs vs⟩))⟩
theorem all_true (n : Nat) : ((List.replicate n true).all id) = true := List.all_eq_true.mpr fun x hx => (List.mem_replicate.mp hx).2
section
variable {P : Program} {w : World} {K : PySem.W.Frag} {mg : Str → Option Value} {base : Heap}
/-! ### is -/
def spIs : Sp := fun vs H Q _ => ∃ (x y : V), vs = [x, y] ∧ ((x = .non ∧ y = .non) ∨ ∃ p r kp kr es, x = .ref p ∧ y = .ref r ∧ H p = some (.dK kp) ∧ H r = some (.dK kr) ∧ Ents H kp es ∧ Ents H kr es ∧ BdB es) ∧ ∀ H', Same H H' → Q (.bl true) H'
theorem ok_is {f : Addr} {fd : FuncData} {k : Nat} (F : Fun K "_law_is" "_law_is" s_l_is f fd) (mli : mg "list" = none) (md : mg "dict" = none) (ms : mg "str" = none) (mis : mg "isinstance" = none) (mall : mg "all" = none) : FnOk P w K mg base CX0 (k + 1) f fd ["_law_found", "_law_due"] spIs := by
  refine F.ok sc_l_is (fun vs H Q E h => ?_) (fun cdv A outer s H vs Q E hr h => ?_)
  · obtain ⟨x, y, rfl, _⟩ := h
    rfl
  · obtain ⟨x, y, rfl, hxy, q⟩ := h
    refine ⟨_, pss_cons (ps_if (PW.pt (pw_or (pt_cmpR op_isN (pv 1) pe_non (nomark _)) (pw_or1 (pt_not (pt_val (pe_callB call_isi (by rfl) mis (by decide +kernel) (pa_cons (pv 0) (pa_cons (pe_bltn (v := .ty "dict") (by rfl) md (by decide +kernel) rfl) pa_nil))))))))
        (pss_one (ps_ret (pe_and (pe_cmp (pc_isN (pv 0)) rfl) (pe_one (pe_cmp (pc_isN (pv 1)) rfl))))) pss_nil)
      (pss_cons (ps_if (PW.pt (pw_or (pt_cmpR (op_neD hr.units) (pe_callTy (call_list_dK rfl) (by rfl) mli (by decide +kernel) (pa_cons (pv 0) pa_nil)) (pe_callTy (call_list_dK rfl) (by rfl) mli (by decide +kernel) (pa_cons (pv 1) pa_nil)) (nomark _))
          (pw_or1 (pt_not (pt_val (pe_callB (cr_all rfl) (by rfl) mall (by decide +kernel) (pa_cons (pe_lock (pe_lc (own := [("_law_name", 2)]) (g := gName 2) (tt := tYes) rfl sc_l_is.nd (pi_keys (pv 0))
            (blkOk_by (own := [("_law_name", 2)]) (N := ["_law_found", "_law_due", "_law_name"]) (sc := defScope s_l_is) (by decide +kernel))
            (fun _ _ _ _ _ => pg_name (i := 2) sc_l_is.nd rfl (Or.inl rfl)) (fun _ _ _ _ _ => pts_nil)
            (fun _ _ _ _ _ => pe_callB (id := "isinstance") (call_isiX (K := K) rfl) (by rfl) mis (by decide +kernel) (pa_cons (pe_dget (hu_of hr) (pv 0) (pv 2) (fun _ _ => rfl)) (pa_cons (pe_bltn (v := .ty "list") (u := .type "list") (by rfl) mli (by decide +kernel) rfl) pa_nil))))) pa_nil)))))))
        (pss_one (ps_ret pe_bl)) pss_nil)
      (pss_one (ps_ret (pe_and (pe_cmpR (op_eqV hr.units) (pv 0) (pv 1) (nomark _)) (pe_one (pe_callB (cr_all rfl) (by rfl) mall (by decide +kernel) (pa_cons (pe_lock (pe_lc (own := [("_law_name", 2)]) (g := gName 2) (tt := tYes) rfl sc_l_is.nd (pi_keys (pv 0))
            (blkOk_by (own := [("_law_name", 2)]) (N := ["_law_found", "_law_due", "_law_name"]) (sc := defScope s_l_is) (by decide +kernel))
            (fun _ _ _ _ _ => pg_name (i := 2) sc_l_is.nd rfl (Or.inl rfl)) (fun _ _ _ _ _ => pts_nil)
            (fun _ _ _ _ _ => pe_callB (id := "isinstance") (call_isiX (K := K) rfl) (by rfl) mis (by decide +kernel) (pa_cons (pv 2) (pa_cons (pe_bltn (v := .ty "str") (u := .type "str") (by rfl) ms (by decide +kernel) rfl) pa_nil))))) pa_nil))))))), ?_⟩
    rcases hxy with ⟨rfl, rfl⟩ | ⟨p, r, kp, kr, es, rfl, rfl, hp, hr', ep, er, hB⟩
    · exact ⟨_, rfl, rfl, true, rfl, iteT (iteT ⟨_, rfl, true, rfl, iteT ⟨_, rfl, q _ (Same.refl _)⟩⟩)⟩
    · have hkn : (kp.map (·.1)).Nodup := by
        rw [ep.keys]
        exact keys_nodup hB.1
      have okn : ∀ x ∈ es.map (·.1), okS x := fun x hx => by
        obtain ⟨e, he, rfl⟩ := List.mem_map.mp hx
        exact (hB.2.2 e he).1
      have hlen := hB.2.1
      have kpl := ep.length
      refine ⟨_, rfl, rfl, false, rfl, iteF ⟨_, rfl, _, .ty "dict", .type "dict", .type "dict", true, rfl, .ty "dict", .base (.dK hp), kit_ty (by decide +kernel), true, rfl, iteF ?_⟩⟩
      -- list(found) != list(due)
      refine ⟨_, rfl, p, kp, rfl, hp, fun q1 nq1 => ?_⟩
      have s1 : Same H (upd H q1 (.lst (kp.map fun kv => kV kv.1))) := same_new nq1
      refine ⟨_, rfl, r, kr, rfl, s1 _ _ hr', fun q2 nq2 => ?_⟩
      have s2 := same_new (o := .lst (kr.map fun kv => kV kv.1)) nq2
      have h1 := s2 _ _ (upd_same (H := H) (a := q1) (o := .lst (kp.map fun kv => kV kv.1)))
      have h2 := upd_same (H := upd H q1 (.lst (kp.map fun kv => kV kv.1))) (a := q2) (o := .lst (kr.map fun kv => kV kv.1))
      have s12 := s1.trans s2
      generalize upd (upd H q1 (.lst (kp.map fun kv => kV kv.1))) q2 (.lst (kr.map fun kv => kV kv.1)) = H2 at h1 h2 s12 ⊢
      rw [ep.knames] at h1
      rw [er.knames] at h2
      refine ⟨_, _, .lst (.inl (.inl h1)) (strs_dp _), .lst (.inl (.inl h2)) (strs_dp _), strs_list_shaped okn, strs_list_shaped okn, _, rfl, ?_⟩
      rw [strs_ne]
      -- all([isinstance(found[name], list) ..])
      have hp2 := s12 _ _ hp
      refine iteF ⟨p, _, hp2, trivial, fun od => ⟨_, rfl, p, od, rfl, .inl ⟨kp, upd_same, fun D nD => ?_⟩⟩⟩
      have hpL : (upd H2 p (.frz od (.dK kp))) p = some (.frz od (.dK kp)) := upd_same
      have epL := (ep.same s12).frz (o := od) (u := .dK kp) hp2
      have nDp : D ≠ p := fun e => by
        rw [e, upd_same] at nD
        cases nD
      refine lc_it (walk_keys (d := p) (o := od) (kvs := kp)) (fun i HX => Same (upd H2 p (.frz od (.dK kp))) HX ∧ HX D = some (.lst ((List.replicate i true).map V.bl)))
        ⟨same_new nD, upd_same⟩ (fun i HX _ h => h.1 _ _ hpL) (fun i x HX HX' hi hP hY => ?_) (fun HX hP => ?_)
      · obtain ⟨rfl, kk, v, hkv, rfl⟩ := hY
        obtain ⟨sL, hD⟩ := hP
        obtain ⟨n, l, vs, rfl, rfl, hl, hbi⟩ := epL.get hkv
        refine ⟨rfl, tYes_in ?_⟩
        refine ⟨_, rfl, _, rfl, p, .ref l, rfl, .inl ⟨kp, .inr n, .inr ⟨od, sL _ _ hpL⟩, rfl, (valV_get hkn hkv).symm⟩, _, .ty "list", .type "list", .type "list", true, rfl, .ty "list", .base (.lst (sL _ _ hl)), kit_ty (by decide +kernel), _, hD, ?_, Same.own sL nD, ?_⟩
        · rw [List.length_map, List.length_replicate]
          exact small1000 (by omega)
        · rw [upd_same, List.replicate_succ', List.map_append]
          rfl
      · obtain ⟨sL, hD⟩ := hP
        have sU := Same.unlock hp2 sL
        refine ⟨sL _ _ hpL, D, _, rfl, .inl (.inl (by rw [upd_ne nDp]; exact hD)), true, by rw [all_true], ?_⟩
        refine iteF ?_
        -- found == due and all([isinstance(name, str) ..])
        have s3 := s12.trans sU
        generalize upd HX p (.dK kp) = H3 at s3 ⊢
        refine ⟨_, rfl, _, rfl, 2, by decide, eq_dicts (s3 _ _ hp) (s3 _ _ hr') (ep.same s3) (er.same s3) hB.1, true, rfl, iteT ?_⟩
        have hp3 := s3 _ _ hp
        refine ⟨p, _, hp3, trivial, fun od2 => ⟨_, rfl, p, od2, rfl, .inl ⟨kp, upd_same, fun D2 nD2 => ?_⟩⟩⟩
        have hpM : (upd H3 p (.frz od2 (.dK kp))) p = some (.frz od2 (.dK kp)) := upd_same
        have epM := (ep.same s3).frz (o := od2) (u := .dK kp) hp3
        have nDp2 : D2 ≠ p := fun e => by
          rw [e, upd_same] at nD2
          cases nD2
        refine lc_it (walk_keys (d := p) (o := od2) (kvs := kp)) (fun i HX => Same (upd H3 p (.frz od2 (.dK kp))) HX ∧ HX D2 = some (.lst ((List.replicate i true).map V.bl)))
          ⟨same_new nD2, upd_same⟩ (fun i HX _ h => h.1 _ _ hpM) (fun i x HX HX' hi hP hY => ?_) (fun HX hP => ?_)
        · obtain ⟨rfl, kk, v, hkv, rfl⟩ := hY
          obtain ⟨sL2, hD2⟩ := hP
          obtain ⟨n, l, vs, rfl, rfl, hl, hbi⟩ := epM.get hkv
          refine ⟨rfl, tYes_in ?_⟩
          refine ⟨_, rfl, _, .ty "str", .type "str", .type "str", true, rfl, .ty "str", .base (.str _), kit_ty (by decide +kernel), _, hD2, ?_, Same.own sL2 nD2, ?_⟩
          · rw [List.length_map, List.length_replicate]
            exact small1000 (by omega)
          · rw [upd_same, List.replicate_succ', List.map_append]
            rfl
        · obtain ⟨sL2, hD2⟩ := hP
          have sU2 := Same.unlock hp3 sL2
          refine ⟨sL2 _ _ hpM, D2, _, rfl, .inl (.inl (by rw [upd_ne nDp2]; exact hD2)), ?_⟩
          rw [all_true]
          exact q _ (s3.trans sU2)
end
end Bn

namespace Bn
open PySem PySem.Spec PyProof.Rows L2 BR
theorem Bd.empty {H : Hp} {p : Addr} (h : H p = some (.dK [])) : Bd H p [] := ⟨[], h, .nil, List.nodup_nil, Nat.zero_le _, fun e he => absurd he List.not_mem_nil⟩
theorem Bd.bdb {H : Hp} {a : Addr} {d : BD} (h : Bd H a d) : BdB d := by
  obtain ⟨_, _, _, z⟩ := h
  exact z
theorem eq_bundles {K : PySem.W.Frag} {H : Hp} {p r : Addr} {b : BD} (hp : Bd H p b) (hr : Bd H r b) : EqV K H 3 (.ref p) (.ref r) := by
  obtain ⟨kp, e1, ep, hB⟩ := hp
  obtain ⟨kr, e2, er, _⟩ := hr
  exact .inr (.inr (eq_dicts e1 e2 ep er hB.1))
/-! ### all joined -/
def stepF (o : Option BD) (b : BD) : Option BD := o.bind fun a => joinedF a b
def allF (ds : List BD) : Option BD := ds.foldl stepF (some [])
theorem allF_snoc (l : List BD) (d : BD) : allF (l ++ [d]) = stepF (allF l) d := by
  unfold allF
  rw [List.foldl_append]
  rfl
theorem stepF_none : ∀ l : List BD, l.foldl stepF none = none
  | [] => rfl
  | d :: l => by
    show l.foldl stepF (stepF none d) = none
    exact stepF_none l
theorem allF_none {ds : List BD} {i : Nat} (h : allF (ds.take i) = none) : allF ds = none := by
  have e : allF ds = (ds.drop i).foldl stepF (allF (ds.take i)) := by
    unfold allF
    rw [← List.foldl_append, List.take_append_drop]
  rw [e, h, stepF_none]
theorem joinedF_eq {b c : BD} {es : BD} (h : joinedF b c = some es) : es = entsF b c := by
  unfold joinedF at h
  split at h
  · cases h
  · exact (Option.some.inj h).symm
theorem joinedF_len {b c es : BD} (h : joinedF b c = some es) : es.length ≤ b.length + c.length := by
  rw [joinedF_eq h]
  unfold entsF
  rw [List.length_map]
  exact namesF_len b c
def Bs (H : Hp) (ps : List Addr) (ds : List BD) : Prop := Paired (fun p d => Bd H p d ∧ d.length ≤ 6) ps ds
theorem Bs.same {H H' : Hp} {ps : List Addr} {ds : List BD} (h : Bs H ps ds) (s : Same H H') : Bs H' ps ds := paired_mono h fun p d x => ⟨x.1.same s, x.2⟩
theorem Bs.kp {b : Addr} {H H' : Hp} {ps : List Addr} {ds : List BD} (h : Bs H ps ds) (hb : Bx H b) (k : Kp b H H') : Bs H' ps ds := paired_mono h fun p d x => ⟨x.1.kp hb k, x.2⟩
theorem eq_all {K : PySem.W.Frag} {H : Hp} {ps qs : List Addr} {ds : List BD} (h : Bs H ps ds) : ∀ {qs : List Addr}, Bs H qs ds → Paired (EqV K H 3) (ps.map V.ref) (qs.map V.ref) := by
  induction h with
  | nil =>
    intro qs k
    cases k
    exact .nil
  | cons x _ ih =>
    intro qs k
    cases k with
    | cons y t => exact .cons (eq_bundles x.1 y.1) (ih t)
section
variable {P : Program} {w : World} {K : PySem.W.Frag} {mg : Str → Option Value} {base : Heap}
def spAll (K : PySem.W.Frag) : Sp := fun vs H Q _ => ∃ (l : Addr) (ps : List Addr) (ds : List BD), vs = [.ref l] ∧ SqL K H l (ps.map V.ref) ∧ Bs H ps ds ∧ ps.length ≤ 13 ∧ (allF ds = none → ∀ H', Same H H' → Q .non H') ∧
  ∀ es, allF ds = some es → ∀ (p : Addr) (kvs : List (Key × V)) H', H p = none → Same H H' → H' p = some (.dK kvs) → Ents H' kvs es → BdB es → (∀ n l, (n, V.ref l) ∈ kvs → H l = none) → Q (.ref p) H'
theorem ok_joinedAll {f fJ : Addr} {fd dJ : FuncData} (F : Fun K "joined_all" "joined_all" s_joined_all f fd)
    (kJ : PySem.W.keepIn K (.ref fJ) = true) (bJ : Binds K dJ ["one", "other"] []) (gJ : mg "joined" = some (.ref fJ)) (GJ : FnOk P w K mg base CX0 2 fJ dJ ["one", "other"] spJoined) : FnOk P w K mg base CX0 3 f fd ["bundles"] (spAll K) := by
  refine F.ok sc_joined_all (fun vs H Q E h => ?_) (fun cdv A outer s H vs Q E hr h => ?_)
  · obtain ⟨l, ps, ds, rfl, _⟩ := h
    rfl
  · obtain ⟨l, ps, ds, rfl, hS, hB, hlen, qN, qS⟩ := h
    refine ⟨_, pss_cons (ps_set (i := 1) sc_joined_all.nd rfl (.inl rfl) pe_dnewK)
      (pss_cons (ps_for PassesOwn.never rfl (pi_list (pv 0)) (pg_name (i := 2) sc_joined_all.nd rfl (.inl rfl))
        (pss_cons (ps_set (i := 1) sc_joined_all.nd rfl (.inl rfl) (pe_call GJ hr (by rfl) gJ kJ bJ .nil pass0 (pa_cons (pv 1) (pa_cons (pv 2) pa_nil))))
        (pss_one (ps_if (pt_cmpR op_isN (pv 1) pe_non (nomark _)) (pss_one (ps_ret pe_non)) pss_nil))))
      (pss_one (ps_ret (pv 1)))), ?_⟩
    have hpl : ps.length = ds.length := Paired.length hB
    intro w0 nw0
    have s1 : Same H (upd H w0 (.dK [])) := same_new nw0
    refine ⟨_, rfl, l, rfl, ⟨_, s1.seq hS⟩, for_list (K := K) (a := l) (xs := ps.map V.ref) (fun i σ H' => ∃ w y2 kvs es, σ = [some (.ref l), some (.ref w), y2] ∧ Same H H' ∧ allF (ds.take i) = some es ∧ H w = none ∧ H' w = some (.dK kvs) ∧ Ents H' kvs es ∧ BdB es ∧ es.length ≤ 6 * i ∧ ∀ n l, (n, V.ref l) ∈ kvs → H l = none)
      ⟨w0, none, [], [], rfl, s1, rfl, nw0, upd_same, .nil, ⟨List.nodup_nil, Nat.zero_le _, fun e he => absurd he List.not_mem_nil⟩, Nat.zero_le _, fun n l hm => absurd hm List.not_mem_nil⟩ (fun i σ H' _ h => ?_) (fun i x σ H' hx hP => ?_) (fun σ H' hP => ?_)⟩
    · obtain ⟨_, _, _, _, _, h, _⟩ := h
      exact h.seq hS
    · obtain ⟨w1, y2, kvs, es, rfl, sH, hal, nw1, hw1, hE, hBe, hle, hfr⟩ := hP
      rw [List.getElem?_map] at hx
      obtain ⟨p, ep, ex⟩ := Option.map_eq_some_iff.mp hx
      subst ex
      have hil : i < ps.length := (List.getElem?_eq_some_iff.mp ep).1
      obtain ⟨d, ed, hd, hdl⟩ := paired_get hB ep
      have hst : allF (ds.take (i + 1)) = joinedF es d := by
        rw [take_get ed, allF_snoc, hal]
        rfl
      refine ⟨_, rfl, _, rfl, w1, p, es, d, rfl, ⟨kvs, hw1, hE, hBe⟩, hd.same sH, by omega, fun hn HA sA => ?_, fun es' hs p' kvs' HA np' sA hp' hE' hB' hf' => ?_⟩
      · exact ⟨_, rfl, rfl, true, rfl, iteT (qN (allF_none (hst.trans hn)) _ (sH.trans sA))⟩
      · refine ⟨_, rfl, rfl, false, rfl, iteF ⟨p', _, kvs', es', rfl, sH.trans sA, hst.trans hs, sH.free np', hp', hE', hB', ?_, fun n l hm => sH.free (hf' n l hm)⟩⟩
        have := joinedF_len hs
        omega
    · obtain ⟨w1, y2, kvs, es, rfl, sH, hal, nw1, hw1, hE, hBe, hle, hfr⟩ := hP
      rw [List.length_map, hpl, List.take_length] at hal
      exact ⟨_, rfl, qS es hal w1 kvs _ nw1 sH hw1 hE hBe hfr⟩
theorem ok_lall {f fJ : Addr} {fd dJ : FuncData} (F : Fun K "_law_all" "_law_all" s_l_all f fd)
    (kJ : PySem.W.keepIn K (.ref fJ) = true) (bJ : Binds K dJ ["_law_one", "_law_other"] []) (gJ : mg "_law_joined" = some (.ref fJ)) (GJ : FnOk P w K mg base CX0 1 fJ dJ ["_law_one", "_law_other"] spJoined) : FnOk P w K mg base CX0 2 f fd ["_law_bundles"] (spAll K) := by
  refine F.ok sc_l_all (fun vs H Q E h => ?_) (fun cdv A outer s H vs Q E hr h => ?_)
  · obtain ⟨l, ps, ds, rfl, _⟩ := h
    rfl
  · obtain ⟨l, ps, ds, rfl, hS, hB, hlen, qN, qS⟩ := h
    refine ⟨_, pss_cons (ps_set (i := 1) sc_l_all.nd rfl (.inl rfl) pe_dnewK)
      (pss_cons (ps_for PassesOwn.never rfl (pi_list (pv 0)) (pg_name (i := 2) sc_l_all.nd rfl (.inl rfl))
        (pss_one (ps_if (pt_cmpR op_notN (pv 1) pe_non (nomark _)) (pss_one (ps_set (i := 1) sc_l_all.nd rfl (.inl rfl) (pe_call GJ hr (by rfl) gJ kJ bJ .nil pass0 (pa_cons (pv 1) (pa_cons (pv 2) pa_nil))))) pss_nil)))
      (pss_one (ps_ret (pv 1)))), ?_⟩
    have hpl : ps.length = ds.length := Paired.length hB
    intro w0 nw0
    have s1 : Same H (upd H w0 (.dK [])) := same_new nw0
    refine ⟨_, rfl, l, rfl, ⟨_, s1.seq hS⟩, for_list (K := K) (a := l) (xs := ps.map V.ref) (fun i σ H' => ∃ v y2, σ = [some (.ref l), some v, y2] ∧ Same H H' ∧ ((allF (ds.take i) = none ∧ v = .non) ∨ ∃ w kvs es, v = .ref w ∧ allF (ds.take i) = some es ∧ H w = none ∧ H' w = some (.dK kvs) ∧ Ents H' kvs es ∧ BdB es ∧ es.length ≤ 6 * i ∧ ∀ n l, (n, V.ref l) ∈ kvs → H l = none))
      ⟨.ref w0, none, rfl, s1, .inr ⟨w0, [], [], rfl, rfl, nw0, upd_same, .nil, ⟨List.nodup_nil, Nat.zero_le _, fun e he => absurd he List.not_mem_nil⟩, Nat.zero_le _, fun n l hm => absurd hm List.not_mem_nil⟩⟩ (fun i σ H' _ h => ?_) (fun i x σ H' hx hP => ?_) (fun σ H' hP => ?_)⟩
    · obtain ⟨_, _, _, h, _⟩ := h
      exact h.seq hS
    · obtain ⟨v, y2, rfl, sH, hv⟩ := hP
      rw [List.getElem?_map] at hx
      obtain ⟨p, ep, ex⟩ := Option.map_eq_some_iff.mp hx
      subst ex
      have hil : i < ps.length := (List.getElem?_eq_some_iff.mp ep).1
      obtain ⟨d, ed, hd, hdl⟩ := paired_get hB ep
      have hst : allF (ds.take (i + 1)) = stepF (allF (ds.take i)) d := by
        rw [take_get ed, allF_snoc]
      rcases hv with ⟨hn, rfl⟩ | ⟨w1, kvs, es, rfl, hal, nw1, hw1, hE, hBe, hle, hfr⟩
      · rw [hn] at hst
        exact ⟨_, rfl, rfl, false, rfl, iteF ⟨_, _, rfl, sH, .inl ⟨hst, rfl⟩⟩⟩
      · rw [hal] at hst
        have hst : allF (ds.take (i + 1)) = joinedF es d := hst
        refine ⟨_, rfl, rfl, true, rfl, iteT ⟨_, rfl, _, rfl, w1, p, es, d, rfl, ⟨kvs, hw1, hE, hBe⟩, hd.same sH, by omega, fun hn HA sA => ⟨_, _, rfl, sH.trans sA, .inl ⟨hst.trans hn, rfl⟩⟩, fun es' hs p' kvs' HA np' sA hp' hE' hB' hf' => ⟨_, _, rfl, sH.trans sA, .inr ⟨p', kvs', es', rfl, hst.trans hs, sH.free np', hp', hE', hB', ?_, fun n l hm => sH.free (hf' n l hm)⟩⟩⟩⟩
        have := joinedF_len hs
        omega
    · obtain ⟨v, y2, rfl, sH, hv⟩ := hP
      rw [List.length_map, hpl, List.take_length] at hv
      rcases hv with ⟨hn, rfl⟩ | ⟨w1, kvs, es, rfl, hal, nw1, hw1, hE, hBe, hle, hfr⟩
      · exact ⟨_, rfl, qN hn _ sH⟩
      · exact ⟨_, rfl, qS es hal w1 kvs _ nw1 sH hw1 hE hBe hfr⟩
/-! ### right -/
def spRight (K : PySem.W.Frag) : Sp := fun vs H Q _ => ∃ (l : Addr) (ps : List Addr) (ds : List BD), vs = [.ref l] ∧ SqL K H l (ps.map V.ref) ∧ Bs H ps ds ∧ ps.length ≤ 13 ∧ ∀ H', Same H H' → Q (.bl true) H'
theorem ok_right {f fO fLA fJA fI : Addr} {fd dO dLA dJA dI : FuncData} (F : Fun K "_law_right" "_law_right" s_l_right f fd)
    (kO : PySem.W.keepIn K (.ref fO) = true) (bO : Binds K dO ["_law_bundle_here"] []) (gO : mg "_law_own" = some (.ref fO)) (GO : FnOk P w K mg base CX0 1 fO dO ["_law_bundle_here"] spOwn)
    (kLA : PySem.W.keepIn K (.ref fLA) = true) (bLA : Binds K dLA ["_law_bundles"] []) (gLA : mg "_law_all" = some (.ref fLA)) (GLA : FnOk P w K mg base CX0 2 fLA dLA ["_law_bundles"] (spAll K))
    (kJA : PySem.W.keepIn K (.ref fJA) = true) (bJA : Binds K dJA ["bundles"] []) (gJA : mg "joined_all" = some (.ref fJA)) (GJA : FnOk P w K mg base CX0 3 fJA dJA ["bundles"] (spAll K))
    (kI : PySem.W.keepIn K (.ref fI) = true) (bI : Binds K dI ["_law_found", "_law_due"] []) (gI : mg "_law_is" = some (.ref fI)) (GI : FnOk P w K mg base CX0 1 fI dI ["_law_found", "_law_due"] spIs)
    (mr : mg "range" = none) : FnOk P w K mg base CX0 4 f fd ["_law_bundles"] (spRight K) := by
  refine F.ok sc_l_right (fun vs H Q E h => ?_) (fun cdv A outer s H vs Q E hr h => ?_)
  · obtain ⟨l, ps, ds, rfl, _⟩ := h
    rfl
  · obtain ⟨l, ps, ds, rfl, hS, hB, hlen, q⟩ := h
    refine ⟨_, pss_cons (ps_setLc (i := 1) (own := [("_law_bundle_here", 6)]) (g := gName 6) (tt := tYes) rfl sc_l_right.nd rfl rfl (sw_true rfl rfl rfl (by decide +kernel)) (pi_list (pv 0))
        (blkOk_by (own := [("_law_bundle_here", 6)]) (N := ["_law_bundles", "_law_handed", "_law_due", "_law_turn", "_law_found", "_law_name", "_law_bundle_here"]) (sc := defScope s_l_right) (by decide +kernel))
        (fun _ _ _ _ _ => pg_name (i := 6) sc_l_right.nd rfl (Or.inl rfl)) (fun _ _ _ _ _ => pts_nil) (fun _ _ _ _ _ => pe_call GO (hr.mono (by decide)) (by rfl) gO kO bO .nil pass0 (pa_cons (pv 6) pa_nil)))
      (C8.pss_cut (ps_set (i := 2) sc_l_right.nd rfl (.inl rfl) (pe_call GLA (hr.mono (by decide)) (by rfl) gLA kLA bLA .nil pass0 (pa_cons (pv 0) pa_nil)))
      (pss_cons (ps_for PassesOwn.never rfl (pi_range1 (by rfl) mr (pa_cons pe_int pa_nil)) (pg_name (i := 3) sc_l_right.nd rfl (.inl rfl))
        (C8.pss_cut (ps_set (i := 4) sc_l_right.nd rfl (.inl rfl) (pe_call GJA hr (by rfl) gJA kJA bJA .nil pass0 (pa_cons (pv 1) pa_nil)))
        (pss_cons (ps_if (PW.pt (pw_or (pt_not (pt_val (pe_call GI (hr.mono (by decide)) (by rfl) gI kI bI .nil pass0 (pa_cons (pv 4) (pa_cons (pv 2) pa_nil))))) (pw_or1 (pt_cmpR (op_neV hr.units) (pv 1) (pv 0) (nomark _)))))
          (pss_one (ps_ret pe_bl)) pss_nil)
        (pss_one (ps_if (pt_cmpR op_notN (pv 4) pe_non (nomark _))
          (pss_cons (ps_lock (ps_for PassesOwn.never rfl (pi_keys (pv 4)) (pg_name (i := 5) sc_l_right.nd rfl (.inl rfl))
            (pss_one (ps_expr (pe_bm0 PySem.F.plainAttrs_list PySem.F.slot_list_clear PySem.F.type_list_clear mt_clear (pe_dget (hu_of hr) (pv 4) (pv 5) (fun _ _ => rfl)))))))
          (pss_one (ps_dput (hu_of hr) (pv 4) pe_str (pe_lst (pa_cons pe_str pa_nil)) rfl))) pss_nil)))))
      (pss_one (ps_ret (pe_cmpR (op_eqV hr.units) (pv 1) (pv 0) (nomark _)))))), ?_⟩
    have hpl : ps.length = ds.length := Paired.length hB
    refine ⟨_, rfl, l, rfl, ⟨_, hS⟩, fun hl nhl => lc_list (K := K) (a := l) (xs := ps.map V.ref) (fun i HX => Same H HX ∧ ∃ qs, HX hl = some (.lst (qs.map V.ref)) ∧ Bs HX qs (ds.take i)) ⟨same_new nhl, [], upd_same, .nil⟩ (fun i HX _ h => h.1.seq hS) (fun i x HX hx hP => ?_) (fun H3 hP => ?_)⟩
    · obtain ⟨sX, qs, hqs, hBq⟩ := hP
      rw [List.getElem?_map] at hx
      obtain ⟨p, ep, ex⟩ := Option.map_eq_some_iff.mp hx
      subst ex
      have hil : i < ps.length := (List.getElem?_eq_some_iff.mp ep).1
      obtain ⟨d, ed, hd, hdl⟩ := paired_get hB ep
      have hql : qs.length = (ds.take i).length := Paired.length hBq
      refine ⟨rfl, tYes_in ?_⟩
      refine ⟨_, rfl, p, d, rfl, hd.same sX, fun p' HA np' sA bA => ⟨_, sA _ _ hqs, ?_, Same.own (sX.trans sA) nhl, qs ++ [p'], ?_, ?_⟩⟩
      · rw [List.length_map, hql, List.length_take]
        exact small1000 (by omega)
      · rw [upd_same, List.map_append]
        rfl
      · rw [take_get ed]
        refine paired_mono (paired_snoc (R := fun p d => Bd HA p d ∧ d.length ≤ 6) (hBq.same sA) ⟨bA, hdl⟩) fun p0 d0 hx0 => ⟨?_, hx0.2⟩
        obtain ⟨kk, h1, h2, h3⟩ := hx0.1
        have hqA := sA _ _ hqs
        refine ⟨kk, by rw [upd_ne (ne_of h1 hqA (by intro z; cases z))]; exact h1, h2.mono fun l0 xs e ⟨nm, hm⟩ => ?_, h3⟩
        rw [upd_ne fun z => ?_]
        · exact e
        · obtain ⟨e', he', hl'⟩ := h2.vals hm
          rw [z, hqA] at hl'
          exact strs_ne_refs (h3.2.2 e' he').2.1 (HO.lst.inj (Option.some.inj hl')).symm
    obtain ⟨s03, qs, hh, hBq⟩ := hP
    rw [List.length_map, hpl, List.take_length] at hBq
    have hql : qs.length = ds.length := Paired.length hBq
    refine ⟨fun σ H4 => ∃ y, σ = [some (.ref l), some (.ref hl), some y, none, none, none, none] ∧ Same H3 H4 ∧ ((allF ds = none ∧ y = .non) ∨ ∃ p kvs es, allF ds = some es ∧ y = .ref p ∧ H4 p = some (.dK kvs) ∧ Ents H4 kvs es ∧ BdB es), ?_, fun σ4 H4 hM => ?_⟩
    · refine ⟨_, rfl, l, ps, ds, rfl, s03.seq hS, hB.same s03, hlen, fun hn H4 s4 => ⟨_, rfl, s4, .inl ⟨hn, rfl⟩⟩, fun es hs p kvs H4 np s4 hp hE hBe _ => ⟨_, rfl, s4, .inr ⟨p, kvs, es, hs, rfl, hp, hE, hBe⟩⟩⟩
    · obtain ⟨y, rfl, s34, hy⟩ := hM
      have hh4 := s34 _ _ hh
      have s04 := s03.trans s34
      have Bq4 := hBq.same s34
      refine ⟨2, rfl, by decide, by decide, for_range (lo := 0) (n := 2) (fun i σ H' => ∃ y3 y4 y5 y6, σ = [some (.ref l), some (.ref hl), some y, y3, y4, y5, y6] ∧ Same H4 H') ⟨_, _, _, _, rfl, Same.refl _⟩ (fun i σ H5 hi hP => ?_) (fun σ H5 hP => ?_)⟩
      · obtain ⟨y3, y4, y5, y6, rfl, s45⟩ := hP
        have hh5 := s45 _ _ hh4
        refine ⟨fun σ HM => ∃ x, σ = [some (.ref l), some (.ref hl), some y, some (.int (0 + i)), some x, y5, y6] ∧ Same H4 HM ∧ ((allF ds = none ∧ x = .non) ∨ ∃ p kvs es, allF ds = some es ∧ x = .ref p ∧ HM p = some (.dK kvs) ∧ Ents HM kvs es ∧ BdB es ∧ H4 p = none ∧ ∀ n l, (n, V.ref l) ∈ kvs → H4 l = none), ?_, fun σ' HM hM => ?_⟩
        · refine ⟨_, rfl, hl, qs, ds, rfl, .inl (.inl hh5), Bq4.same s45, by omega, fun hn H6 s6 => ⟨_, rfl, s45.trans s6, .inl ⟨hn, rfl⟩⟩, fun es hs p kvs H6 np s6 hp hE hBe hf => ⟨_, rfl, s45.trans s6, .inr ⟨p, kvs, es, hs, rfl, hp, hE, hBe, s45.free np, fun n l hm => s45.free (hf n l hm)⟩⟩⟩
        · obtain ⟨x, rfl, s4M, hx⟩ := hM
          have same_es : (x = .non ∧ y = .non) ∨ ∃ p r kp kr es, x = .ref p ∧ y = .ref r ∧ HM p = some (.dK kp) ∧ HM r = some (.dK kr) ∧ Ents HM kp es ∧ Ents HM kr es ∧ BdB es := by
            rcases hx with ⟨z1, z2⟩ | ⟨p, kvs, es, z1, z2, z3, z4, z5, _⟩
            · rcases hy with ⟨_, w2⟩ | ⟨p', kvs', es', w1, _⟩
              · exact .inl ⟨z2, w2⟩
              · rw [z1] at w1
                cases w1
            · rcases hy with ⟨w1, _⟩ | ⟨p', kvs', es', w1, w2, w3, w4, _⟩
              · rw [z1] at w1
                cases w1
              · rw [z1] at w1
                have w5 := Option.some.inj w1
                subst w5
                exact .inr ⟨p, p', kvs, kvs', es, z2, w2, z3, s4M _ _ w3, z4, w4.same s4M, z5⟩
          refine ⟨_, rfl, _, rfl, x, y, rfl, same_es, fun H7 s7 => ⟨true, rfl, ?_⟩⟩
          have s47 := s4M.trans s7
          refine iteF ⟨_, rfl, _, rfl, hl, l, _, _, 3, rfl, rfl, .inl (.inl (s47 _ _ hh4)), (s04.trans s47).seq hS, by decide, eq_all (qs := ps) (Bq4.same s47) (hB.same (s04.trans s47)), false, rfl, iteF ?_⟩
          -- if found is not None
          rcases hx with ⟨z1, rfl⟩ | ⟨p, kvs, es, z1, rfl, z3, z4, z5, z6, z7⟩
          · exact ⟨_, rfl, rfl, false, rfl, iteF ⟨_, _, _, _, rfl, s47⟩⟩
          · have hp8 := s7 _ _ z3
            have hE8 := z4.same s7
            have hkn : (kvs.map (·.1)).Nodup := by
              rw [z4.keys]
              exact keys_nodup z5.1
            have hkl := z4.length
            have hel := z5.2.1
            refine ⟨_, rfl, rfl, true, rfl, iteT ⟨p, _, hp8, trivial, fun od => ⟨_, rfl, p, od, rfl, .inl ⟨kvs, upd_same, ?_⟩⟩⟩⟩
            have hpL : (upd H7 p (.frz od (.dK kvs))) p = some (.frz od (.dK kvs)) := upd_same
            have hEL := hE8.frz (o := od) (u := .dK kvs) hp8
            refine for_it (walk_keys (d := p) (o := od) (kvs := kvs)) (fun j σ HX => (∃ y5 , σ = [some (.ref l), some (.ref hl), some y, some (.int (0 + i)), some (.ref p), y5, y6]) ∧ HX p = some (.frz od (.dK kvs)) ∧ Same H4 HX ∧ ∀ n l, (n, V.ref l) ∈ kvs → ∃ xs, HX l = some (.lst xs))
              ⟨⟨_, rfl⟩, hpL, Same.own s47 z6, fun n l hm => ?_⟩ (fun j σ HX _ h => h.2.1) (fun j x σ HX HX' hj hP hY => ?_) (fun σ HX hP => ?_)
            · obtain ⟨e', he', hl'⟩ := hEL.vals hm
              exact ⟨_, hl'⟩
            · obtain ⟨rfl, kk, v, hkv, rfl⟩ := hY
              obtain ⟨⟨y5', rfl⟩, hpX, s4X, hls⟩ := hP
              obtain ⟨n, l', vs, rfl, rfl, _, hbi⟩ := hEL.get hkv
              obtain ⟨xs, hlX⟩ := hls _ _ (List.mem_of_getElem? hkv)
              refine ⟨_, rfl, _, rfl, p, V.ref l', rfl, .inl ⟨kvs, .inr n, .inr ⟨od, hpX⟩, rfl, (valV_get hkn hkv).symm⟩, .inl ⟨rfl, _, .inl (.inl hlX)⟩, l', xs, rfl, rfl, hlX, ⟨_, rfl⟩, ?_, Same.own s4X (z7 _ _ (List.mem_of_getElem? hkv)), fun n' l2 hm' => ?_⟩
              · rw [upd_ne (ne_of hpX hlX (by intro z; cases z))]
                exact hpX
              · by_cases e : l2 = l'
                · subst e
                  exact ⟨_, upd_same⟩
                · obtain ⟨xs', h1⟩ := hls n' l2 hm'
                  exact ⟨xs', by rw [upd_ne e]; exact h1⟩
            · obtain ⟨⟨y5', rfl⟩, hpX, s4X, _⟩ := hP
              refine ⟨hpX, (show 1 ≤ sizeLine by decide), fun q2 nq2 => ?_⟩
              have npq : p ≠ q2 := fun e => by
                rw [← e, upd_same] at nq2
                cases nq2
              refine ⟨_, rfl, p, _, rfl, DPut.k (k := .inr (Str.ofString "other")) (by rw [upd_ne npq, upd_same]) (by rw [hkl]; exact small1000 (by omega)), _, _, _, _, rfl, ?_⟩
              exact Same.own ((Same.own s4X z6).trans (same_new nq2)) z6
      · obtain ⟨y3, y4, y5, y6, rfl, s45⟩ := hP
        have s05 := s04.trans s45
        exact ⟨_, rfl, _, rfl, 3, by decide, .inl ⟨hl, l, _, _, rfl, rfl, .inl (.inl (s45 _ _ hh4)), s05.seq hS, eq_all (qs := ps) (Bq4.same s45) (hB.same s05)⟩, q _ s05⟩
end
end Bn

namespace Bn
open PySem PySem.Spec PyProof.Rows L2 BR
theorem sl_listK {X : Cx} {K : PySem.W.Frag} (e : X.K = K) : SlR X (rSlL K) := by
  subst e
  exact sl_list
theorem Rd.kp {b : Addr} {H H' : Hp} {a : Addr} {u : HO} (h : Rd H a u) (n : a ≠ b) (k : Kp b H H') : Rd H' a u := by
  rcases h with h | ⟨o, h⟩
  · exact .inl (k _ _ n h)
  · exact .inr ⟨o, k _ _ n h⟩
/-- what a feature of the kept ones has -/
def KeptOk (H : Hp) (kk : List (Key × V)) (n : Str) : Prop := ∃ (l : Addr) (vs : List Str), valV kk (.inr n) = some (.ref l) ∧ H l = some (.lst (vs.map V.str)) ∧ 1 ≤ vs.length ∧ vs.length ≤ 6 ∧ ∀ x ∈ vs, okS x
theorem cut_one (vs : List Str) : cutV (vs.map V.str) none (some 1) = (vs.take 1).map V.str := by
  unfold cutV
  rw [List.length_map, HT.sIx_none, List.drop_zero, show (some (1 : Int)) = some ((1 : Nat) : Int) from rfl, HT.sIx_nat, Nat.sub_zero, ← List.map_take]
  congr 1
  cases vs with
  | nil => rfl
  | cons v r => rw [show min 1 (v :: r).length = 1 by rw [List.length_cons]; omega]
theorem mem_take_one {vs : List Str} {y : Str} (h : vs[0]? = some y) : y ∈ vs.take 1 := by
  cases vs with
  | nil => cases h
  | cons v r =>
    have e := Option.some.inj h
    subst e
    exact List.mem_cons_self ..
section
variable {P : Program} {w : World} {K : PySem.W.Frag} {mg : Str → Option Value} {base : Heap}
def spKeeping : Sp := fun vs H Q _ => ∃ (b a kd : Addr) (d : BD) (kk : List (Key × V)), vs = [.ref b, .ref a, .ref kd] ∧ Bx H b ∧ Bd H a d ∧ d.length ≤ 6 ∧ H kd = some (.dK kk) ∧ (∀ e ∈ d, KeptOk H kk e.1) ∧
  ∀ (p : Addr) (d' : BD) H', H p = none → Kb b H H' → Bd H' p d' → d'.length ≤ 6 → Q (.ref p) H'
theorem ok_keeping {f fT : Addr} {fd fdT : FuncData} (F : Fun K "_law_keeping" "_law_keeping" s_l_keeping f fd)
    (kT : PySem.W.keepIn K (.ref fT) = true) (bT : Binds K fdT ["_law_box_here", "_law_many"] []) (gT : mg "_law_take" = some (.ref fT)) (GT : FnOk P w K mg base CX0 2 fT fdT ["_law_box_here", "_law_many"] spTake) : FnOk P w K mg base CX0 3 f fd ["_law_box_here", "_law_bundle_here", "_law_kept"] spKeeping := by
  refine F.ok sc_l_keeping (fun vs H Q E h => ?_) (fun cdv A outer s H vs Q E hr h => ?_)
  · obtain ⟨b, a, kd, d, kk, rfl, _⟩ := h
    rfl
  · obtain ⟨b, a, kd, d, kk, rfl, hb, ⟨ka, ha, hEa, hNa, hLa, hBa⟩, hdl, hkd, hK, q⟩ := h
    refine ⟨_, pss_cons (ps_set (i := 3) sc_l_keeping.nd rfl (.inl rfl) pe_dnewK)
      (pss_cons (ps_lock (ps_for PassesOwn.never rfl (pi_keys (pv 1)) (pg_name (i := 4) sc_l_keeping.nd rfl (.inr rfl))
        (pss_cons (ps_set (i := 5) sc_l_keeping.nd rfl (.inr rfl) (pe_lc (own := [("_law_value", 6)]) (g := gName 6) rfl sc_l_keeping.nd (pi_list (pe_dget (hu_of hr) (pv 2) (pv 4) (fun _ _ => rfl)))
          (blkOk_by (own := [("_law_value", 6)]) (N := ["_law_box_here", "_law_bundle_here", "_law_kept", "_law_made", "_law_name", "_law_values", "_law_value"]) (sc := defScope s_l_keeping) (by decide +kernel))
          (fun _ _ _ _ _ => pg_name (i := 6) sc_l_keeping.nd rfl (Or.inl rfl)) (fun _ _ _ _ _ => pts_one (PW.pt (pw_or (pt_cmpR (op_inK (K := K) rfl) (pv 6) (pe_dget (hu_of hr) (pv 1) (pv 4) (fun _ _ => rfl)) (by rfl)) (pw_or1 (pt_cmpR op_eq (pe_call GT hr (by rfl) gT kT bT .nil pass0 (pa_cons (pv 0) (pa_cons pe_int pa_nil))) pe_int (nomark _))))))
          (fun _ _ _ _ _ => pv 6)))
        (pss_one (ps_dput (hu_of hr) (pv 3) (pv 4) (pe_lc (own := [("_law_value", 6)]) (g := gName 6) rfl sc_l_keeping.nd (pi_list (pe_dget (hu_of hr) (pv 2) (pv 4) (fun _ _ => rfl)))
          (blkOk_by (own := [("_law_value", 6)]) (N := ["_law_box_here", "_law_bundle_here", "_law_kept", "_law_made", "_law_name", "_law_values", "_law_value"]) (sc := defScope s_l_keeping) (by decide +kernel))
          (fun _ _ _ _ _ => pg_name (i := 6) sc_l_keeping.nd rfl (Or.inl rfl)) (fun _ _ _ _ _ => pts_one (pt_cmpR (op_inK (K := K) rfl) (pv 6) (pe_op op_cat (pv 5) (pe_slice (sl_listK (K := K) rfl) (pe_dget (hu_of hr) (pv 2) (pv 4) (fun _ _ => rfl)) po_none (po_some pe_int))) (by rfl)))
          (fun _ _ _ _ _ => pv 6)) rfl)))))
      (pss_one (ps_ret (pv 3)))), ?_⟩
    have nab : a ≠ b := ne_bx hb ha (fun _ _ _ _ z => by cases z)
    have nkb : kd ≠ b := ne_bx hb hkd (fun _ _ _ _ z => by cases z)
    intro m0 nm0
    have k1 : Kb b H (upd H m0 (.dK [])) := Kb.new hb nm0
    have s1 : Same H (upd H m0 (.dK [])) := same_new nm0
    have hm1 : (upd H m0 (.dK [])) m0 = some (.dK []) := upd_same
    have nmb : m0 ≠ b := (hb.ne nm0).symm
    have nma : m0 ≠ a := (ne_of_none ha nm0).symm
    generalize upd H m0 (.dK []) = H1 at k1 s1 hm1 ⊢
    have ha1 := s1 _ _ ha
    refine ⟨a, _, ha1, trivial, fun od => ⟨_, rfl, a, od, rfl, .inl ⟨ka, upd_same, ?_⟩⟩⟩
    have haL : (upd H a (.frz od (.dK ka))) a = some (.frz od (.dK ka)) := upd_same
    have hEL := hEa.frz (o := od) (u := .dK ka) ha
    have hkL : Rd (upd H a (.frz od (.dK ka))) kd (.dK kk) := rd_lock hkd ha
    have hbL : Bx (upd H a (.frz od (.dK ka))) b := by
      obtain ⟨x, y, z, t, e⟩ := hb
      exact ⟨x, y, z, t, by rw [upd_ne nab.symm]; exact e⟩
    have nmL : (upd H a (.frz od (.dK ka))) m0 = none := by
      rw [upd_ne nma]
      exact nm0
    have hmS : (upd H1 a (.frz od (.dK ka))) m0 = some (.dK []) := by
      rw [upd_ne nma]
      exact hm1
    have kS : Kb b (upd H a (.frz od (.dK ka))) (upd H1 a (.frz od (.dK ka))) := by
      refine ⟨fun x o hx e => ?_, ?_⟩
      · by_cases c : x = a
        · subst c
          rw [upd_same] at e ⊢
          exact e
        · rw [upd_ne c] at e ⊢
          exact s1 _ _ e
      · obtain ⟨x, y, z, t, e⟩ := k1.x
        exact ⟨x, y, z, t, by rw [upd_ne nab.symm]; exact e⟩
    have hKL : ∀ e ∈ d, KeptOk (upd H a (.frz od (.dK ka))) kk e.1 := fun e he => by
      obtain ⟨l, vs, h1, h2, h3⟩ := hK e he
      exact ⟨l, vs, h1, by rw [upd_ne (ne_of h2 ha (by intro z; cases z))]; exact h2, h3⟩
    have hkn : (ka.map (·.1)).Nodup := by
      rw [hEa.keys]
      exact keys_nodup hNa
    have hkl := hEa.length
    have hlow : ∀ {HZ : Hp}, Kb b (upd H a (.frz od (.dK ka))) HZ → Kb b H (upd HZ a (.dK ka)) := fun {HZ} kz => by
      refine ⟨fun x o hx e => ?_, ?_⟩
      · by_cases c : x = a
        · subst c
          rw [upd_same, ← ha]
          exact e
        · rw [upd_ne c]
          exact kz.k _ _ hx (by rw [upd_ne c]; exact e)
      · obtain ⟨x, y, z, t, e⟩ := kz.x
        exact ⟨x, y, z, t, by rw [upd_ne nab.symm]; exact e⟩
    generalize upd H1 a (.frz od (.dK ka)) = HS at hmS kS ⊢
    generalize upd H a (.frz od (.dK ka)) = HL at haL hEL hkL hbL nmL kS hKL hlow ⊢
    refine for_it (walk_keys (d := a) (o := od) (kvs := ka)) (fun j σ HX => ∃ y4 y5 y6 kvs' d', σ = [some (.ref b), some (.ref a), some (.ref kd), some (.ref m0), y4, y5, y6] ∧ Kb b HL HX ∧ HX m0 = some (.dK kvs') ∧ Ents HX kvs' d' ∧ d'.map (·.1) = (d.take j).map (·.1) ∧ ∀ e ∈ d', valOk e)
      ⟨none, none, none, [], [], rfl, kS, hmS, .nil, rfl, fun e he => absurd he List.not_mem_nil⟩ (fun j σ HX _ h => ?_) (fun j x σ HX HX' hj hP hY => ?_) (fun σ HX hP => ?_)
    · obtain ⟨_, _, _, _, _, _, h, _⟩ := h
      exact h.k _ _ nab haL
    · obtain ⟨rfl, kx, v0, hkv, rfl⟩ := hY
      obtain ⟨y4, y5, y6, kvs', d', rfl, kX, hm, hE', hnm, hvd⟩ := hP
      obtain ⟨n, la, va, rfl, rfl, hla, hbi⟩ := hEL.get hkv
      have hval := valV_get hkn hkv
      have hvb : valOk (n, va) := hBa _ (List.mem_of_getElem? hbi)
      obtain ⟨lk, vk, hk1, hk2, hk3, hk4, hk5⟩ := hKL _ (List.mem_of_getElem? hbi)
      have nlab : la ≠ b := ne_bx hbL hla (strs_ne_ints hvb.2.1)
      have nlkb : lk ≠ b := ne_bx hbL hk2 (strs_ne_ints hk3)
      have hkdX : Rd HX' kd (.dK kk) := Rd.kp hkL nkb kX.k
      have hlkX := kX.k _ _ nlkb hk2
      have hlaX := kX.k _ _ nlab hla
      have haX := kX.k _ _ nab haL
      have hjl : j < d.length := (List.getElem?_eq_some_iff.mp hbi).1
      -- values = [..]
      refine ⟨_, rfl, _, rfl, kd, V.ref lk, rfl, .inl ⟨kk, .inr n, hkdX, rfl, hk1.symm⟩, lk, rfl, ⟨_, .inl (.inl hlkX)⟩, fun D nD => ?_⟩
      have nDb : D ≠ b := (kX.x.ne nD).symm
      refine lc_list (K := K) (a := lk) (xs := vk.map V.str) (fun i HY => Kb b HX' HY ∧ ∃ ks : List Str, HY D = some (.lst (ks.map V.str)) ∧ ks.length ≤ i ∧ ∀ x ∈ ks, okS x) ⟨Kb.new kX.x nD, [], upd_same, Nat.le_refl _, fun x hx => absurd hx List.not_mem_nil⟩ (fun i HY _ h => .inl (.inl (h.1.k _ _ nlkb hlkX))) (fun i x HY hx hP => ?_) (fun H2 hP => ?_)
      · obtain ⟨kY, ks, hD, hkl', hko⟩ := hP
        rw [List.getElem?_map] at hx
        obtain ⟨y, ey, ex⟩ := Option.map_eq_some_iff.mp hx
        subst ex
        have hil : i < vk.length := (List.getElem?_eq_some_iff.mp ey).1
        have add : ∀ {HZ : Hp}, Kb b HX' HZ → HZ D = some (.lst (ks.map V.str)) → ∃ acc, HZ D = some (.lst acc) ∧ acc.length < sizeLine ∧ (Kb b HX' (upd HZ D (.lst (acc ++ [V.str y]))) ∧ ∃ ks : List Str, (upd HZ D (.lst (acc ++ [V.str y]))) D = some (.lst (ks.map V.str)) ∧ ks.length ≤ i + 1 ∧ ∀ x ∈ ks, okS x) := by
          intro HZ kZ hZ
          refine ⟨_, hZ, by rw [List.length_map]; exact small1000 (by omega), kZ.own nD nDb, ks ++ [y], ?_, by rw [List.length_append]; show ks.length + 1 ≤ i + 1; omega, fun x hx' => ?_⟩
          · rw [upd_same, List.map_append]
            rfl
          · rcases List.mem_append.mp hx' with z | z
            · exact hko x z
            · rw [List.mem_singleton.mp z]
              exact hk5 y (List.mem_of_getElem? ey)
        refine ⟨rfl, _, rfl, _, rfl, _, rfl, a, V.ref la, rfl, .inl ⟨ka, .inr n, .inr ⟨od, kY.k _ _ nab haX⟩, rfl, hval.symm⟩, la, _, rfl, .inl (.inl (.inl (kY.k _ _ nlab hlaX))), rfl, flat_strs va, _, rfl, ite2 (fun c1 => ?_) (fun c1 => ?_)⟩
        · exact iteT ⟨_, rfl, add kY hD⟩
        · refine ⟨_, rfl, b, 9, rfl, kY.x, by decide, by decide, fun n9 HZ _ _ kZ => ⟨rfl, _, rfl, ite2 (fun c2 => ?_) (fun c2 => ?_)⟩⟩
          · exact ⟨_, rfl, add (kY.trans kZ) (kZ.k _ _ nDb hD)⟩
          · exact ⟨kY.trans kZ, ks, kZ.k _ _ nDb hD, by omega, hko⟩
      · obtain ⟨k2, ks, hD, hkl', hko⟩ := hP
        rw [List.length_map] at hkl'
        have hlk2 := k2.k _ _ nlkb hlkX
        have hkd2 : Rd H2 kd (.dK kk) := Rd.kp hkdX nkb k2.k
        -- made[name] = [..]
        refine ⟨_, rfl, _, rfl, kd, V.ref lk, rfl, .inl ⟨kk, .inr n, hkd2, rfl, hk1.symm⟩, lk, rfl, ⟨_, .inl (.inl hlk2)⟩, fun D2 nD2 => ?_⟩
        refine lc_list (K := K) (a := lk) (xs := vk.map V.str) (fun i HY => Same H2 HY ∧ ∃ ks2 : List Str, HY D2 = some (.lst (ks2.map V.str)) ∧ ks2.length ≤ i ∧ (1 ≤ i → 1 ≤ ks2.length) ∧ ∀ x ∈ ks2, okS x) ⟨same_new nD2, [], upd_same, Nat.le_refl _, fun z => absurd z (by decide), fun x hx => absurd hx List.not_mem_nil⟩ (fun i HY _ h => .inl (.inl (h.1 _ _ hlk2))) (fun i x HY hx hP => ?_) (fun H3 hP => ?_)
        · obtain ⟨sY, ks2, hD2, hl2, hn2, ho2⟩ := hP
          rw [List.getElem?_map] at hx
          obtain ⟨y, ey, ex⟩ := Option.map_eq_some_iff.mp hx
          subst ex
          have hil : i < vk.length := (List.getElem?_eq_some_iff.mp ey).1
          refine ⟨rfl, _, rfl, _, rfl, _, rfl, _, rfl, kd, V.ref lk, rfl, .inl ⟨kk, .inr n, Rd.same hkd2 sY, rfl, hk1.symm⟩, 1, rfl, lk, _, rfl, .inl (.inl (sY _ _ hlk2)), fun q1 nq1 => ?_⟩
          rw [cut_one]
          have t1 : Same HY (upd HY q1 (.lst ((vk.take 1).map V.str))) := same_new nq1
          have hq1 : (upd HY q1 (.lst ((vk.take 1).map V.str))) q1 = some (.lst ((vk.take 1).map V.str)) := upd_same
          generalize upd HY q1 (.lst ((vk.take 1).map V.str)) = HZ at t1 hq1 ⊢
          refine ⟨D, q1, _, _, rfl, rfl, t1 _ _ (sY _ _ hD), hq1, by rw [List.length_map, List.length_map, List.length_take]; exact line1000 (by omega), fun q2 nq2 => ?_⟩
          rw [← List.map_append]
          have t2 : Same HZ (upd HZ q2 (.lst ((ks ++ vk.take 1).map V.str))) := same_new nq2
          have hq2 : (upd HZ q2 (.lst ((ks ++ vk.take 1).map V.str))) q2 = some (.lst ((ks ++ vk.take 1).map V.str)) := upd_same
          generalize upd HZ q2 (.lst ((ks ++ vk.take 1).map V.str)) = HW at t2 hq2 ⊢
          have sW := (sY.trans t1).trans t2
          have hD2W := (t1.trans t2) _ _ hD2
          refine ⟨q2, _, rfl, .inl (.inl (.inl hq2)), rfl, flat_strs _, _, rfl, ?_⟩
          show if inV (V.str y) ((ks ++ vk.take 1).map V.str) = true then _ else _
          rw [inV_str]
          by_cases e : y ∈ ks ++ vk.take 1
          · rw [decide_eq_true e]
            refine iteT ⟨_, rfl, _, hD2W, by rw [List.length_map]; exact small1000 (by omega), Same.own sW nD2, ks2 ++ [y], ?_, by rw [List.length_append]; show ks2.length + 1 ≤ i + 1; omega, fun _ => by rw [List.length_append]; show 1 ≤ ks2.length + 1; omega, fun x hx' => ?_⟩
            · rw [upd_same, List.map_append]
              rfl
            · rcases List.mem_append.mp hx' with z | z
              · exact ho2 x z
              · rw [List.mem_singleton.mp z]
                exact hk5 y (List.mem_of_getElem? ey)
          · rw [decide_eq_false e]
            refine iteF ⟨sW, ks2, hD2W, by omega, fun _ => ?_, ho2⟩
            by_cases i0 : i = 0
            · subst i0
              exact absurd (List.mem_append_right _ (mem_take_one ey)) e
            · exact hn2 (by omega)
        · obtain ⟨s3, ks2, hD2, hl2, hn2, ho2⟩ := hP
          rw [List.length_map] at hl2 hn2
          have K3 : Kb b HX' H3 := k2.trans ⟨Kp.of_same s3, k2.x.same s3⟩
          have hm3 := K3.k _ _ nmb hm
          have hE3 : Ents H3 kvs' d' := hE'.mono fun l0 xs e ⟨nm, hmm⟩ => by
            obtain ⟨e', he', hl'⟩ := hE'.vals hmm
            exact K3.k _ _ (ne_bx kX.x hl' (strs_ne_ints (hvd e' he').2.1)) e
          have hnew : n ∉ d'.map (·.1) := by
            rw [hnm, List.map_take]
            exact nodup_get hNa (by rw [List.getElem?_map, hbi]; rfl)
          have hdl' : d'.length = (d.take j).length := by
            have := congrArg List.length hnm
            rw [List.length_map, List.length_map] at this
            exact this
          rw [List.length_take] at hdl'
          have hk := hE3.nokey hnew
          refine ⟨_, rfl, _, rfl, m0, _, rfl, DPut.k (k := .inr n) hm3 (by rw [hE3.length]; exact small1000 (by omega)), ?_⟩
          rw [putK_new _ hk]
          refine ⟨_, _, _, _, d' ++ [(n, ks2)], rfl, (kX.trans K3).own nmL nmb, upd_same, (hE3.app (.cons hD2 .nil)).upd_dict hm3, ?_, fun e he => ?_⟩
          · rw [List.map_append, hnm, take_get hbi, List.map_append]
            rfl
          · rcases List.mem_append.mp he with z | z
            · exact hvd e z
            · rw [List.mem_singleton.mp z]
              exact ⟨hvb.1, hn2 hk3, by show ks2.length ≤ 20; omega, ho2⟩
    · obtain ⟨y4, y5, y6, kvs', d', rfl, kX, hm, hE', hnm, hvd⟩ := hP
      have hdl' : d'.length = d.length := by
        have := congrArg List.length hnm
        rw [List.length_map, List.length_map, hkl, List.take_length] at this
        exact this
      rw [hkl, List.take_length] at hnm
      have haX := kX.k _ _ nab haL
      refine ⟨haX, _, rfl, q m0 d' _ nm0 (hlow kX) ⟨kvs', by rw [upd_ne nma]; exact hm, hE'.mono fun l0 xs e _ => by rw [upd_ne (ne_of e haX (by intro z; cases z))]; exact e, by rw [hnm]; exact hNa, by omega, hvd⟩ (by omega)⟩
end
end Bn

namespace Bn
open PySem PySem.Spec PyProof.Rows L2 BR
theorem Bd.updRefs {H : Hp} {D p : Addr} {d : BD} {ps : List Addr} {o : HO} (h : Bd H p d) (hD : H D = some (.lst (ps.map V.ref))) : Bd (upd H D o) p d := by
  obtain ⟨kk, h1, h2, h3⟩ := h
  refine ⟨kk, by rw [upd_ne (ne_of h1 hD (by intro z; cases z))]; exact h1, h2.mono fun l0 xs e ⟨nm, hm⟩ => ?_, h3⟩
  rw [upd_ne fun z => ?_]
  · exact e
  · obtain ⟨e', he', hl'⟩ := h2.vals hm
    rw [z, hD] at hl'
    exact strs_ne_refs (h3.2.2 e' he').2.1 (HO.lst.inj (Option.some.inj hl')).symm
theorem Bs.updRefs {H : Hp} {D : Addr} {qs : List Addr} {ds : List BD} {ps : List Addr} {o : HO} (h : Bs H qs ds) (hD : H D = some (.lst (ps.map V.ref))) : Bs (upd H D o) qs ds := paired_mono h fun p d x => ⟨x.1.updRefs hD, x.2⟩
theorem paired_rev {α β : Type} {R : α → β → Prop} {l : List α} {m : List β} (h : Paired R l m) : Paired R l.reverse m.reverse := by
  induction h with
  | nil => exact .nil
  | cons x _ ih =>
    rw [List.reverse_cons, List.reverse_cons]
    exact paired_snoc ih x
theorem paired_take {α β : Type} {R : α → β → Prop} {l : List α} {m : List β} (h : Paired R l m) : ∀ n, Paired R (l.take n) (m.take n) := by
  induction h with
  | nil => intro n; rw [List.take_nil, List.take_nil]; exact .nil
  | cons x _ ih =>
    intro n
    cases n with
    | zero => exact .nil
    | succ k => exact .cons x (ih k)
theorem paired_mem {α β : Type} {R : α → β → Prop} {l : List α} {m : List β} (h : Paired R l m) : ∀ a ∈ l, ∃ b ∈ m, R a b := by
  induction h with
  | nil => intro a ha; exact absurd ha List.not_mem_nil
  | cons x _ ih =>
    intro a ha
    rcases List.mem_cons.mp ha with rfl | z
    · exact ⟨_, List.mem_cons_self .., x⟩
    · obtain ⟨b, hb, r⟩ := ih a z
      exact ⟨b, List.mem_cons_of_mem _ hb, r⟩
theorem cut_refs (ps : List Addr) : cutV (ps.map V.ref) none (some 1) = (ps.take 1).map V.ref := by
  unfold cutV
  rw [List.length_map, HT.sIx_none, List.drop_zero, show (some (1 : Int)) = some ((1 : Nat) : Int) from rfl, HT.sIx_nat, Nat.sub_zero, ← List.map_take]
  congr 1
  cases ps with
  | nil => rfl
  | cons v r => rw [show min 1 (v :: r).length = 1 by rw [List.length_cons]; omega]
theorem NameOf.back {b : Addr} {H H' : Hp} {v : V} {n : Str} (h : NameOf H' v n) (hf : Ft H v) (hb : Bx H b) (k : Kp b H H') : NameOf H v n := by
  obtain ⟨p, l, t, rfl, e⟩ := h
  obtain ⟨p', l', d, e1, e2, _, _⟩ := hf
  have e3 := V.ref.inj e1
  subst e3
  have e4 := k _ _ (ne_bx hb e2 (fun _ _ _ _ z => by cases z)) e2
  rw [e] at e4
  injection e4 with e5
  injection e5 with e6
  injection e6 with e7 _
  rw [← V.str.inj e7] at e2
  exact ⟨p, l', d.t, rfl, e2⟩
theorem KeptOk.kp {b : Addr} {H H' : Hp} {kk : List (Key × V)} {n : Str} (h : KeptOk H kk n) (hb : Bx H b) (k : Kp b H H') : KeptOk H' kk n := by
  obtain ⟨l, vs, h1, h2, h3, h4⟩ := h
  exact ⟨l, vs, h1, k _ _ (ne_bx hb h2 (strs_ne_ints h3)) h2, h3, h4⟩
theorem KeptOk.same {H H' : Hp} {kk : List (Key × V)} {n : Str} (h : KeptOk H kk n) (s : Same H H') : KeptOk H' kk n := by
  obtain ⟨l, vs, h1, h2, h3⟩ := h
  exact ⟨l, vs, h1, s _ _ h2, h3⟩
theorem merge_val (k : Key) : ∀ (more acc : List (Key × V)), (∃ kv ∈ more, kv.1 = k ∧ valV (mergeK acc more) k = some kv.2) ∨ ((∀ kv ∈ more, kv.1 ≠ k) ∧ valV (mergeK acc more) k = valV acc k)
  | [], acc => .inr ⟨fun kv h => absurd h List.not_mem_nil, rfl⟩
  | kv :: r, acc => by
    rcases merge_val k r (putK acc kv.1 kv.2) with ⟨x, hx, e1, e2⟩ | ⟨h1, h2⟩
    · exact .inl ⟨x, List.mem_cons_of_mem _ hx, e1, e2⟩
    · by_cases c : kv.1 = k
      · refine .inl ⟨kv, List.mem_cons_self .., c, ?_⟩
        show valV (mergeK (putK acc kv.1 kv.2) r) k = _
        rw [h2, valV_put, if_pos c.symm]
      · refine .inr ⟨fun x hx => ?_, ?_⟩
        · rcases List.mem_cons.mp hx with rfl | z
          · exact c
          · exact h1 x z
        · show valV (mergeK (putK acc kv.1 kv.2) r) k = _
          rw [h2, valV_put, if_neg fun z => c z.symm]
theorem cells_len {ns : List Int} (n : Int) : ((cutV (ns.map V.int) none (some 12)) ++ [V.int n]).length ≤ 13 := by
  rw [List.length_append]
  unfold cutV
  rw [List.length_take]
  have : HT.sIx (ns.map V.int).length (ns.map V.int).length (some 12) ≤ 12 := by
    rw [show (some (12 : Int)) = some ((12 : Nat) : Int) from rfl, HT.sIx_nat]
    omega
  show min _ _ + 1 ≤ 13
  omega
theorem cells_int {ns : List Int} (n : Int) : ∀ v ∈ ((cutV (ns.map V.int) none (some 12)) ++ [V.int n]), ∃ m : Int, v = .int m := by
  intro v hv
  rcases List.mem_append.mp hv with z | z
  · unfold cutV at z
    obtain ⟨m, _, e⟩ := List.mem_map.mp (List.mem_of_mem_drop (List.mem_of_mem_take z))
    exact ⟨m, e.symm⟩
  · exact ⟨n, List.mem_singleton.mp z⟩
theorem pg_tupK {X : Cx} {K : PySem.W.Frag} {es : List Expr} {k : Nat} {t : TGs} {n : Nat} {pos : Pos} (eK : X.K = K) (h : PG X (.Tuple es k pos) (gTup X.K n t)) : PG X (.Tuple es k pos) (gTup K n t) := by
  subst eK
  exact h
theorem pick_two (a b : Int) (i : Nat) : ∃ m : Int, atI [V.int a, V.int b] ((i : Int) % 2) = some (V.int m) ∧ (m = a ∨ m = b) := by
  have h : (i : Int) % 2 = 0 ∨ (i : Int) % 2 = 1 := by omega
  rcases h with e | e
  · rw [e]
    exact ⟨a, rfl, .inl rfl⟩
  · rw [e]
    exact ⟨b, rfl, .inr rfl⟩
section
variable {P : Program} {w : World} {K : PySem.W.Frag} {mg : Str → Option Value} {base : Heap}
def spLaw (K : PySem.W.Frag) : Sp := fun vs H Q _ => ∃ (a : Addr) (ns : List Int), vs = [.ref a] ∧ SqL K H a (ns.map V.int) ∧ ns.length ≤ 63 ∧ ∀ H', Q (.bl true) H'
theorem ok_law {f f1 f2 f3 f4 f5 f6 : Addr} {fd d1 d2 d3 d4 d5 d6 : FuncData} (F : Fun K "law" "law" s_law f fd)
    (k1 : PySem.W.keepIn K (.ref f1) = true) (b1 : Binds K d1 ["_law_cell_here", "_law_k"] []) (g1 : mg "_law_box" = some (.ref f1)) (G1 : FnOk P w K mg base CX0 1 f1 d1 ["_law_cell_here", "_law_k"] spBox)
    (k2 : PySem.W.keepIn K (.ref f2) = true) (b2 : Binds K d2 ["_law_box_here"] []) (g2 : mg "_law_features" = some (.ref f2)) (G2 : FnOk P w K mg base CX0 5 f2 d2 ["_law_box_here"] spFeatures)
    (k3 : PySem.W.keepIn K (.ref f3) = true) (b3 : Binds K d3 ["_law_box_here", "_law_features_here"] []) (g3 : mg "_law_bundle" = some (.ref f3)) (G3 : FnOk P w K mg base CX0 4 f3 d3 ["_law_box_here", "_law_features_here"] (spBundle K))
    (k4 : PySem.W.keepIn K (.ref f4) = true) (b4 : Binds K d4 ["_law_box_here", "_law_many"] []) (g4 : mg "_law_take" = some (.ref f4)) (G4 : FnOk P w K mg base CX0 2 f4 d4 ["_law_box_here", "_law_many"] spTake)
    (k5 : PySem.W.keepIn K (.ref f5) = true) (b5 : Binds K d5 ["_law_box_here", "_law_bundle_here", "_law_kept"] []) (g5 : mg "_law_keeping" = some (.ref f5)) (G5 : FnOk P w K mg base CX0 3 f5 d5 ["_law_box_here", "_law_bundle_here", "_law_kept"] spKeeping)
    (k6 : PySem.W.keepIn K (.ref f6) = true) (b6 : Binds K d6 ["_law_bundles"] []) (g6 : mg "_law_right" = some (.ref f6)) (G6 : FnOk P w K mg base CX0 4 f6 d6 ["_law_bundles"] (spRight K))
    (ml : mg "len" = none) (men : mg "enumerate" = none) (mr : mg "range" = none) (md : mg "dict" = none) (mli : mg "list" = none) (mrv : mg "reversed" = none) : FnOk P w K mg base CX0 6 f fd ["_law_script"] (spLaw K) := by
  refine F.ok sc_law (fun vs H Q E h => ?_) (fun cdv A outer s H vs Q E hr h => ?_)
  · obtain ⟨a, ns, rfl, _⟩ := h
    rfl
  · obtain ⟨a, ns, rfl, hS, hlen, q⟩ := h
    refine ⟨_, pss_cons (ps_for PassesOwn.never rfl (pi_enum (by rfl) men (pa_cons (pe_op op_cat (pe_slice sl_list (pv 0) po_none (po_some pe_int)) (pe_lst (pa_cons (pe_callB call_len_seq (by rfl) ml PySem.boot_len (pa_cons (pv 0) pa_nil)) pa_nil))) pa_nil))
        (pg_tup rfl (pgs_cons (pg_name (i := 1) sc_law.nd rfl (.inl rfl)) (pgs_cons (pg_name (i := 2) sc_law.nd rfl (.inl rfl)) pgs_nil)))
        (pss_cons (ps_set (i := 3) sc_law.nd rfl (.inr rfl) (pe_call G1 (hr.mono (by decide)) (by rfl) g1 k1 b1 .nil pass0 (pa_cons (pv 2) (pa_cons (pe_op op_add (pv 1) pe_int) pa_nil))))
        (pss_cons (ps_set (i := 4) sc_law.nd rfl (.inr rfl) (pe_call G2 hr (by rfl) g2 k2 b2 .nil pass0 (pa_cons (pv 3) pa_nil)))
        (C8.pss_cut (ps_setLc (i := 5) (own := [("_law_turn", 8)]) (g := gName 8) (tt := tYes) rfl sc_law.nd rfl rfl (sw_true rfl rfl rfl (by decide +kernel)) (pi_range1 (by rfl) mr (pa_cons (pe_ix ix_list (pe_lst (pa_cons (pe_call G4 (hr.mono (by decide)) (by rfl) g4 k4 b4 .nil pass0 (pa_cons (pv 3) (pa_cons pe_int pa_nil))) (pa_cons (pe_call G4 (hr.mono (by decide)) (by rfl) g4 k4 b4 .nil pass0 (pa_cons (pv 3) (pa_cons pe_int pa_nil))) pa_nil))) (pe_op op_mod (pv 1) pe_int) (fun _ _ => rfl)) pa_nil))
          (blkOk_by (own := [("_law_turn", 8)]) (N := ["_law_script", "_law_k", "_law_cell_here", "_law_box_here", "_law_features_here", "_law_bundles", "_law_kept", "_law_some_here", "_law_turn", "_law_name", "_law_values", "_law_told", "_law_bundle_here"]) (sc := defScope s_law) (by decide +kernel))
          (fun _ _ _ _ _ => pg_name (i := 8) sc_law.nd rfl (Or.inl rfl)) (fun _ _ _ _ _ => pts_nil) (fun _ _ _ _ _ => pe_call G3 (hr.mono (by decide)) (by rfl) g3 k3 b3 .nil pass0 (pa_cons (pv 3) (pa_cons (pv 4) pa_nil))))
        (C8.pss_cut (ps_if (pt_cmpR op_eq (pe_call G4 (hr.mono (by decide)) (by rfl) g4 k4 b4 .nil pass0 (pa_cons (pv 3) (pa_cons pe_int pa_nil))) pe_int (nomark _))
          (pss_cons (ps_set (i := 6) sc_law.nd rfl (.inr rfl) (pe_callTy (call_dictP rfl) (by rfl) md (by decide +kernel) (pa_cons (pe_lc (own := [("_law_name", 9), ("_law_values", 10), ("_law_told", 11)]) (tt := tYes) rfl sc_law.nd (pi_list (pv 4))
            (blkOk_by (own := [("_law_name", 9), ("_law_values", 10), ("_law_told", 11)]) (N := ["_law_script", "_law_k", "_law_cell_here", "_law_box_here", "_law_features_here", "_law_bundles", "_law_kept", "_law_some_here", "_law_turn", "_law_name", "_law_values", "_law_told", "_law_bundle_here"]) (sc := defScope s_law) (by decide +kernel))
            (fun _ _ _ _ _ => pg_tupK (K := K) (n := 3) rfl (pg_tup (n := 3) rfl (pgs_cons (pg_name (i := 9) sc_law.nd rfl (Or.inl rfl)) (pgs_cons (pg_name (i := 10) sc_law.nd rfl (Or.inl rfl)) (pgs_cons (pg_name (i := 11) sc_law.nd rfl (Or.inl rfl)) pgs_nil))))) (fun _ _ _ _ _ => pts_nil) (fun _ _ _ _ _ => pe_tup (pa_cons (pv 9) (pa_cons (pv 10) pa_nil)))) pa_nil)))
          (pss_one (ps_setLc (i := 5) (own := [("_law_bundle_here", 12)]) (g := gName 12) (tt := tYes) rfl sc_law.nd rfl rfl (sw_true rfl rfl rfl (by decide +kernel)) (pi_list (pv 5))
            (blkOk_by (own := [("_law_bundle_here", 12)]) (N := ["_law_script", "_law_k", "_law_cell_here", "_law_box_here", "_law_features_here", "_law_bundles", "_law_kept", "_law_some_here", "_law_turn", "_law_name", "_law_values", "_law_told", "_law_bundle_here"]) (sc := defScope s_law) (by decide +kernel))
            (fun _ _ _ _ _ => pg_name (i := 12) sc_law.nd rfl (Or.inl rfl)) (fun _ _ _ _ _ => pts_nil) (fun _ _ _ _ _ => pe_call G5 (hr.mono (by decide)) (by rfl) g5 k5 b5 .nil pass0 (pa_cons (pv 3) (pa_cons (pv 12) (pa_cons (pv 6) pa_nil))))))) pss_nil)
        (pss_one (ps_for PassesOwn.never rfl (pi_tup (pe_tup (pa_cons (pv 5) (pa_cons (pe_slice sl_list (pv 5) po_none (po_some pe_int)) (pa_cons (pe_lst pa_nil) (pa_cons (pe_listRev rfl (by rfl) mli (by rfl) mrv (pv 5)) pa_nil)))))) (pg_name (i := 7) sc_law.nd rfl (.inl rfl))
          (pss_one (ps_if (pt_not (pt_val (pe_call G6 (hr.mono (by decide)) (by rfl) g6 k6 b6 .nil pass0 (pa_cons (pv 7) pa_nil)))) (pss_one (ps_ret pe_bl)) pss_nil)))))))))
      (pss_one (ps_ret pe_bl)), ?_⟩
    refine ⟨_, rfl, 12, rfl, a, _, rfl, hS, fun l1 n1 => ?_⟩
    have s1 : Same H (upd H l1 (.lst (cutV (ns.map V.int) none (some 12)))) := same_new n1
    refine ⟨_, rfl, a, _, rfl, .inl (s1.seq hS), (show 1 ≤ sizeLine by decide), fun l2 n2 => ?_⟩
    have s2 := same_new (o := .lst [.int ((ns.map V.int).length : Int)]) n2
    have hl1 := s2 _ _ (upd_same (H := H) (a := l1) (o := .lst (cutV (ns.map V.int) none (some 12))))
    have hl2 := upd_same (H := upd H l1 (.lst (cutV (ns.map V.int) none (some 12)))) (a := l2) (o := .lst [.int ((ns.map V.int).length : Int)])
    have cl := cells_len (ns := ns) ((ns.map V.int).length : Int)
    have ci := cells_int (ns := ns) ((ns.map V.int).length : Int)
    refine ⟨l1, l2, _, _, rfl, rfl, hl1, hl2, by rw [← List.length_append]; exact line1000 (by omega), fun l3 n3 => ?_⟩
    have s3 := (s1.trans s2).trans (same_new (o := .lst ((cutV (ns.map V.int) none (some 12)) ++ [.int ((ns.map V.int).length : Int)])) n3)
    have hl3 := upd_same (H := upd (upd H l1 (.lst (cutV (ns.map V.int) none (some 12)))) l2 (.lst [.int ((ns.map V.int).length : Int)])) (a := l3) (o := .lst ((cutV (ns.map V.int) none (some 12)) ++ [.int ((ns.map V.int).length : Int)]))
    generalize upd (upd (upd H l1 (.lst (cutV (ns.map V.int) none (some 12)))) l2 (.lst [.int ((ns.map V.int).length : Int)])) l3 (.lst ((cutV (ns.map V.int) none (some 12)) ++ [.int ((ns.map V.int).length : Int)])) = H3 at s3 hl3 ⊢
    generalize (cutV (ns.map V.int) none (some 12)) ++ [V.int ((ns.map V.int).length : Int)] = cells at cl ci hl3 ⊢
    refine ⟨l3, cells, rfl, .inl (.inl hl3), for_it (walk_enum (K := K) (a := l3) (xs := cells)) (fun i σ H' => (∃ y1 y2 y3 y4 y5 y6 y7 y8 y9 y10 y11 y12, σ = [some (.ref a), y1, y2, y3, y4, y5, y6, y7, y8, y9, y10, y11, y12]) ∧ Same H3 H') ⟨⟨none, none, none, none, none, none, none, none, none, none, none, none, rfl⟩, Same.refl _⟩ (fun i σ H' _ h => .inl (.inl (h.2 _ _ hl3))) (fun i x σ H4 H5 hi hP hY => ?_) (fun σ H' hP => q _)⟩
    obtain ⟨⟨y1, y2, y3, y4, y5, y6, y7, y8, y9, y10, y11, y12, rfl⟩, s34⟩ := hP
    obtain ⟨T, u1, u2, rfl, nT, rfl, e1, e2⟩ := hY
    obtain ⟨cell, rfl⟩ := ci u2 (List.mem_of_getElem? e2)
    have e1' := Option.some.inj e1
    subst e1'
    have s45 : Same H4 (upd H4 T (.tup [.int (i : Nat), .int cell])) := same_new nT
    refine ⟨T, _, rfl, .inl (.inl upd_same), rfl, _, _, rfl, _, _, rfl, rfl, ?_⟩
    refine ⟨_, rfl, _, rfl, _, _, rfl, rfl, cell, _, rfl, fun b H6 nb s6 hb => ?_⟩
    have s36 := (s34.trans s45).trans s6
    have nb3 : H3 b = none := (s34.trans s45).free nb
    refine ⟨_, rfl, b, rfl, hb, fun fe ys H7 nfe k7 hfe hyl hyf => ?_⟩
    have nfb : fe ≠ b := (hb.ne nfe).symm
    have s37 : Same H3 H7 := Same.kp s36 nb3 k7.k
    -- bundles = [..]
    refine ⟨fun σ HM => ∃ (D : Addr) (ps : List Addr) (ds : List BD), σ = [some (.ref a), some (.int (i : Nat)), some (.int cell), some (.ref b), some (.ref fe), some (.ref D), y6, y7, y8, y9, y10, y11, y12] ∧ Kb b H7 HM ∧ HM D = some (.lst (ps.map V.ref)) ∧ D ≠ b ∧ Bs HM ps ds ∧ ps.length ≤ 13 ∧ ∀ d ∈ ds, ∀ e ∈ d, ∃ v ∈ ys, NameOf H7 v e.1, ?_, fun σ' HM hM => ?_⟩
    · refine ⟨_, rfl, b, 4, rfl, k7.x, by decide, by decide, fun m1 HA m10 m11 kA => ⟨_, rfl, b, 13, rfl, kA.x, by decide, by decide, fun m2 HB m20 m21 kB => ⟨(show 2 ≤ sizeLine by decide), fun pl npl => ?_⟩⟩⟩
      have kAB := kA.trans kB
      obtain ⟨m, em, hm⟩ := pick_two m1 m2 i
      have kC := kAB.trans (Kb.new (o := .lst [.int m1, .int m2]) kB.x npl)
      refine ⟨_, rfl, _, _, rfl, rfl, (by show (0 : Int) < 2; decide), pl, _, _, _, rfl, rfl, .inl (.inl upd_same), em, m, rfl, by omega, by omega, fun D nD => ?_⟩
      generalize upd HB pl (.lst [.int m1, .int m2]) = HC at kC nD ⊢
      have nDb : D ≠ b := (kC.x.ne nD).symm
      refine lc_range (lo := 0) (n := m.toNat) (fun j HX => Kb b HC HX ∧ ∃ (ps : List Addr) (ds : List BD), HX D = some (.lst (ps.map V.ref)) ∧ Bs HX ps ds ∧ ps.length = j ∧ ∀ d ∈ ds, ∀ e ∈ d, ∃ v ∈ ys, NameOf H7 v e.1) ⟨Kb.new kC.x nD, [], [], upd_same, .nil, rfl, fun d hd => absurd hd List.not_mem_nil⟩ (fun j HX hj hP => ?_) (fun HX hP => ?_)
      · obtain ⟨kX, ps, ds, hD, hBs, hpl, hnm⟩ := hP
        have k7X := kC.trans kX
        refine ⟨rfl, tYes_in ?_⟩
        refine ⟨_, rfl, _, rfl, b, fe, ys, rfl, kX.x, .inl (.inl (k7X.k _ _ nfb hfe)), hyl, fun v hv => (hyf v hv).kp k7.x k7X.k, fun p d HZ np kZ hBd hdl hnm' => ?_⟩
        have hDZ := kZ.k _ _ nDb hD
        refine ⟨_, hDZ, by rw [List.length_map]; exact small1000 (by omega), (kX.trans kZ).own nD nDb, ps ++ [p], ds ++ [d], ?_, (Bs.updRefs (paired_snoc (hBs.kp kX.x kZ.k) ⟨hBd, hdl⟩) hDZ), by rw [List.length_append, hpl]; rfl, fun d0 hd0 e he => ?_⟩
        · rw [upd_same, List.map_append]
          rfl
        · rcases List.mem_append.mp hd0 with z | z
          · exact hnm d0 z e he
          · rw [List.mem_singleton.mp z] at he
            obtain ⟨v, hv, hn⟩ := hnm' e he
            exact ⟨v, hv, hn.back (hyf v hv) k7.x k7X.k⟩
      · obtain ⟨kX, ps, ds, hD, hBs, hpl, hnm⟩ := hP
        exact ⟨D, ps, ds, rfl, kC.trans kX, hD, nDb, hBs, by omega, hnm⟩
    · obtain ⟨D, ps, ds, rfl, kM, hD, nDb, hBs, hpl, hnm⟩ := hM
      refine ⟨fun σ HN => ∃ (D : Addr) (ps : List Addr) (ds : List BD) (y6 : Option V), σ = [some (.ref a), some (.int (i : Nat)), some (.int cell), some (.ref b), some (.ref fe), some (.ref D), y6, y7, y8, y9, y10, y11, y12] ∧ Kb b H7 HN ∧ HN D = some (.lst (ps.map V.ref)) ∧ Bs HN ps ds ∧ ps.length ≤ 13, ?_, fun σ' HN hN => ?_⟩
      · refine ⟨_, rfl, b, 2, rfl, kM.x, by decide, by decide, fun n HA n0 n1 kA => ⟨rfl, _, rfl, ite2 (fun c => ?_) (fun c => ⟨D, ps, ds, _, rfl, kM.trans kA, kA.k _ _ nDb hD, hBs.kp kM.x kA.k, hpl⟩)⟩⟩
        have k7A := kM.trans kA
        have hDA := kA.k _ _ nDb hD
        have hBA := hBs.kp kM.x kA.k
        have hfeA := k7A.k _ _ nfb hfe
        have hyA : ∀ v ∈ ys, Ft HA v := fun v hv => (hyf v hv).kp k7.x k7A.k
        -- kept = dict(..)
        refine ⟨_, rfl, fe, rfl, ⟨_, .inl (.inl hfeA)⟩, fun D1 nD1 => lc_list (K := K) (a := fe) (xs := ys) (fun j HX => Same HA HX ∧ ∃ (qs : List Addr) (kvs' : List (Key × V)), HX D1 = some (.lst (qs.map V.ref)) ∧ Paired (fun p kv => HX p = some (.tup [kV kv.1, kv.2])) qs kvs' ∧ (∀ kv ∈ kvs', ∃ (n : Str) (l : Addr) (vs : List Str), kv = (.inr n, .ref l) ∧ HA l = some (.lst (vs.map V.str)) ∧ 1 ≤ vs.length ∧ vs.length ≤ 6 ∧ ∀ x ∈ vs, okS x) ∧ (∀ v ∈ ys.take j, ∀ n, NameOf HA v n → ∃ kv ∈ kvs', kv.1 = .inr n) ∧ qs.length = j)
          ⟨same_new nD1, [], [], upd_same, .nil, (fun kv h => absurd h List.not_mem_nil), (fun v h => absurd h List.not_mem_nil), rfl⟩ (fun j HX _ h => .inl (.inl (h.1 _ _ hfeA))) (fun j x HX hx hP => ?_) (fun HX hP => ?_)⟩
        · obtain ⟨sX, qs, kvs', hD1, hp, hv, hc, hql⟩ := hP
          obtain ⟨pt, lv, dd, rfl, f1, f2, hB⟩ := hyA x (List.mem_of_getElem? hx)
          have hjl : j < ys.length := (List.getElem?_eq_some_iff.mp hx).1
          refine ⟨pt, _, rfl, .inl (.inl (sX _ _ f1)), rfl, _, _, rfl, _, _, rfl, _, _, rfl, rfl, rfl, tYes_in ?_⟩
          refine ⟨_, rfl, _, rfl, (show 2 ≤ sizeLine by decide), fun pp npp => ?_⟩
          have t1 : Same HX (upd HX pp (.tup [.str dd.n, .ref lv])) := same_new npp
          have hpp : (upd HX pp (.tup [.str dd.n, .ref lv])) pp = some (.tup [.str dd.n, .ref lv]) := upd_same
          generalize upd HX pp (.tup [.str dd.n, .ref lv]) = HZ at t1 hpp ⊢
          have hDZ := t1 _ _ hD1
          refine ⟨_, hDZ, by rw [List.length_map]; exact small1000 (by omega), Same.own (sX.trans t1) nD1, qs ++ [pp], kvs' ++ [(.inr dd.n, .ref lv)], ?_, ?_, ?_, ?_, by rw [List.length_append, hql]; rfl⟩
          · rw [upd_same, List.map_append]
            rfl
          · refine paired_mono (paired_snoc (R := fun p (kv : Key × V) => HZ p = some (.tup [kV kv.1, kv.2])) (paired_mono hp fun p kv e => t1 _ _ e) (b := (.inr dd.n, .ref lv)) hpp) fun p kv e => ?_
            rw [upd_ne (ne_of e hDZ (by intro z; cases z))]
            exact e
          · intro kv hkv
            rcases List.mem_append.mp hkv with z | z
            · exact hv kv z
            · exact ⟨dd.n, lv, dd.vs, List.mem_singleton.mp z, f2, hB.1, hB.2.1, hB.2.2.2⟩
          · intro v hv' n hn
            rw [take_get hx] at hv'
            rcases List.mem_append.mp hv' with z | z
            · obtain ⟨kv, hkv, e⟩ := hc v z n hn
              exact ⟨kv, List.mem_append_left _ hkv, e⟩
            · rw [List.mem_singleton.mp z] at hn
              obtain ⟨p, l, t, e1, e2⟩ := hn
              have e3 := V.ref.inj e1
              subst e3
              rw [f1] at e2
              injection e2 with e4
              injection e4 with e5
              injection e5 with e6 _
              exact ⟨_, List.mem_append_right _ (List.mem_singleton.mpr rfl), by rw [V.str.inj e6]⟩
        · obtain ⟨sX, qs, kvs', hD1, hp, hv, hc, hql⟩ := hP
          rw [List.take_length] at hc
          refine ⟨D1, qs, kvs', rfl, .inl (.inl hD1), paired_mono hp fun p kv e => .inl (.inl e), fun kd nkd => ?_⟩
          have t1 : Same HX (upd HX kd (.dK (mergeK [] kvs'))) := same_new nkd
          have hkd : (upd HX kd (.dK (mergeK [] kvs'))) kd = some (.dK (mergeK [] kvs')) := upd_same
          generalize upd HX kd (.dK (mergeK [] kvs')) = HK at t1 hkd ⊢
          have sK := sX.trans t1
          have kK : Kb b HA HK := ⟨Kp.of_same sK, kA.x.same sK⟩
          have nkb : kd ≠ b := (ne_bx kK.x hkd (fun _ _ _ _ z => by cases z))
          have hkept : ∀ d ∈ ds, ∀ e ∈ d, KeptOk HK (mergeK [] kvs') e.1 := fun d hd e he => by
            obtain ⟨v, hv1, hv2⟩ := hnm d hd e he
            have hvA : NameOf HA v e.1 := by
              obtain ⟨p, l, t, e1, e2⟩ := hv2
              exact ⟨p, l, t, e1, k7A.k _ _ (ne_bx k7.x e2 (fun _ _ _ _ z => by cases z)) e2⟩
            obtain ⟨kv, hkv, ek⟩ := hc v hv1 e.1 hvA
            rcases merge_val (.inr e.1) kvs' [] with ⟨kv2, h1, h2, h3⟩ | ⟨h1, _⟩
            · obtain ⟨n, l, vs, e1, e2, e3, e4, e5⟩ := hv kv2 h1
              refine ⟨l, vs, ?_, sK _ _ e2, e3, e4, e5⟩
              rw [h3, e1]
            · exact absurd ek (h1 kv hkv)
          have hDK := sK _ _ hDA
          have hBK := hBA.same sK
          refine ⟨_, rfl, D, rfl, ⟨_, .inl (.inl hDK)⟩, fun D2 nD2 => ?_⟩
          have nD2b : D2 ≠ b := (kK.x.ne nD2).symm
          refine lc_list (K := K) (a := D) (xs := ps.map V.ref) (fun j HY => Kb b HK HY ∧ ∃ (ps' : List Addr) (ds' : List BD), HY D2 = some (.lst (ps'.map V.ref)) ∧ Bs HY ps' ds' ∧ ps'.length = j) ⟨Kb.new kK.x nD2, [], [], upd_same, .nil, rfl⟩ (fun j HY _ h => .inl (.inl (h.1.k _ _ nDb hDK))) (fun j x HY hx hP => ?_) (fun HY hP => ?_)
          · obtain ⟨kY, ps', ds', hD2, hB', hpl'⟩ := hP
            rw [List.getElem?_map] at hx
            obtain ⟨p, ep, ex⟩ := Option.map_eq_some_iff.mp hx
            subst ex
            have hjl : j < ps.length := (List.getElem?_eq_some_iff.mp ep).1
            obtain ⟨d, ed, hd, hdl⟩ := paired_get hBK ep
            refine ⟨rfl, tYes_in ?_⟩
            refine ⟨_, rfl, _, rfl, _, rfl, b, p, kd, d, _, rfl, kY.x, hd.kp kK.x kY.k, hdl, kY.k _ _ nkb hkd, fun e he => (hkept d (List.mem_of_getElem? ed) e he).kp kK.x kY.k, fun p' d' HZ np' kZ hBd' hdl' => ?_⟩
            have hDZ := kZ.k _ _ nD2b hD2
            refine ⟨_, hDZ, by rw [List.length_map]; exact small1000 (by omega), (kY.trans kZ).own nD2 nD2b, ps' ++ [p'], ds' ++ [d'], ?_, Bs.updRefs (paired_snoc (hB'.kp kY.x kZ.k) ⟨hBd', hdl'⟩) hDZ, by rw [List.length_append, hpl']; rfl⟩
            rw [upd_same, List.map_append]
            rfl
          · obtain ⟨kY, ps', ds', hD2, hB', hpl'⟩ := hP
            rw [List.length_map] at hpl'
            exact ⟨D2, ps', ds', _, rfl, (k7A.trans kK).trans kY, hD2, hB', by omega⟩
      · obtain ⟨D, ps, ds, y6', rfl, kN, hD, hBs, hpl⟩ := hN
        have s3N : Same H3 HN := Same.kp s37 nb3 kN.k
        refine ⟨_, rfl, _, rfl, 1, rfl, D, _, rfl, .inl (.inl hD), fun q1 nq1 => ?_⟩
        rw [cut_refs]
        have t1 : Same HN (upd HN q1 (.lst ((ps.take 1).map V.ref))) := same_new nq1
        have hq1 : (upd HN q1 (.lst ((ps.take 1).map V.ref))) q1 = some (.lst ((ps.take 1).map V.ref)) := upd_same
        generalize upd HN q1 (.lst ((ps.take 1).map V.ref)) = HA at t1 hq1 ⊢
        refine ⟨Nat.zero_le _, fun q2 nq2 => ?_⟩
        have t2 : Same HA (upd HA q2 (.lst [])) := same_new nq2
        have hq2 : (upd HA q2 (.lst [])) q2 = some (.lst []) := upd_same
        generalize upd HA q2 (.lst []) = HB at t2 hq2 ⊢
        refine ⟨_, rfl, D, _, rfl, .inl (.inl ((t1.trans t2) _ _ hD)), fun q3 nq3 => ?_⟩
        rw [← List.map_reverse]
        have t3 : Same HB (upd HB q3 (.lst (ps.reverse.map V.ref))) := same_new nq3
        have hq3 : (upd HB q3 (.lst (ps.reverse.map V.ref))) q3 = some (.lst (ps.reverse.map V.ref)) := upd_same
        generalize upd HB q3 (.lst (ps.reverse.map V.ref)) = HC at t3 hq3 ⊢
        refine ⟨(show 4 ≤ sizeLine by decide), fun t nt => ?_⟩
        have t4 : Same HC (upd HC t (.tup [.ref D, .ref q1, .ref q2, .ref q3])) := same_new nt
        have ht : (upd HC t (.tup [.ref D, .ref q1, .ref q2, .ref q3])) t = some (.tup [.ref D, .ref q1, .ref q2, .ref q3]) := upd_same
        generalize upd HC t (.tup [.ref D, .ref q1, .ref q2, .ref q3]) = HD at t4 ht ⊢
        have tt := ((t1.trans t2).trans t3).trans t4
        have items : ∀ (j : Nat) (x : V), [V.ref D, .ref q1, .ref q2, .ref q3][j]? = some x → ∃ l qs es, x = .ref l ∧ HD l = some (.lst (qs.map V.ref)) ∧ Bs HD qs es ∧ qs.length ≤ 13 := by
          intro j x hx
          match j, hx with
          | 0, hx => exact ⟨D, ps, ds, (Option.some.inj hx).symm, tt _ _ hD, hBs.same tt, hpl⟩
          | 1, hx => exact ⟨q1, ps.take 1, ds.take 1, (Option.some.inj hx).symm, ((t2.trans t3).trans t4) _ _ hq1, paired_take (hBs.same tt) 1, by rw [List.length_take]; omega⟩
          | 2, hx => exact ⟨q2, [], [], (Option.some.inj hx).symm, (t3.trans t4) _ _ hq2, .nil, Nat.zero_le _⟩
          | 3, hx => exact ⟨q3, ps.reverse, ds.reverse, (Option.some.inj hx).symm, t4 _ _ hq3, paired_rev (hBs.same tt), by rw [List.length_reverse]; exact hpl⟩
          | j + 4, hx => exact absurd hx (by simp)
        refine ⟨t, rfl, ⟨_, .inl (.inl ht)⟩, for_tup (K := K) (a := t) (xs := [.ref D, .ref q1, .ref q2, .ref q3]) (fun j σ H' => (∃ y1 y2 y3 y4 y5 y6 y7 y8 y9 y10 y11 y12, σ = [some (.ref a), y1, y2, y3, y4, y5, y6, y7, y8, y9, y10, y11, y12]) ∧ Same HD H') ⟨⟨_, _, _, _, _, _, _, _, _, _, _, _, rfl⟩, Same.refl _⟩ (fun j σ H' _ h => .inl (.inl (h.2 _ _ ht))) (fun j x σ H' hx hP => ?_) (fun σ H' hP => ?_)⟩
        · obtain ⟨⟨z1, z2, z3, z4, z5, z6, z7, z8, z9, z10, z11, z12, rfl⟩, sH⟩ := hP
          obtain ⟨l, qs, es, rfl, hl, hB', hl13⟩ := items j x hx
          refine ⟨_, rfl, l, qs, es, rfl, .inl (.inl (sH _ _ hl)), hB'.same sH, hl13, fun HZ sZ => ⟨true, rfl, ?_⟩⟩
          exact iteF ⟨⟨_, _, _, _, _, _, _, _, _, _, _, _, rfl⟩, sH.trans sZ⟩
        · obtain ⟨⟨z1, z2, z3, z4, z5, z6, z7, z8, z9, z10, z11, z12, rfl⟩, sH⟩ := hP
          exact ⟨⟨_, _, _, _, _, _, _, _, _, _, _, _, rfl⟩, (s3N.trans tt).trans sH⟩
end
end Bn

namespace Bn
open PySem PySem.Spec PyProof.Rows L2 BR
theorem all_mk {l : PySem.W.OpenLaw} {w : World} {K : PySem.W.Frag} {h : Heap} {mg : Str → Option Value} {fa f1 f2 f3 f4 f5 f6 f7 f8 f9 f10 f11 f12 f13 f14 f15 f16 f17 f18 : Addr} (X : K.In h) (G : h.Ns mainGlobals mg) (hfa : mg "law" = some (.ref fa))
    {od1 an1 od2 an2 od3 an3 od4 an4 od5 an5 od6 an6 od7 an7 od8 an8 od9 an9 od10 an10 od11 an11 od12 an12 od13 an13 od14 an14 od15 an15 od16 an16 od17 an17 od18 an18 : Option Addr} {sl1 sl2 sl3 sl4 sl5 sl6 sl7 sl8 sl9 sl10 sl11 sl12 sl13 sl14 sl15 sl16 sl17 sl18 : Array (Option Value)} {oc1 kV1 dc1 pm1 cd1 ct1 oc2 kV2 dc2 pm2 cd2 ct2 oc3 kV3 dc3 pm3 cd3 ct3 oc4 kV4 dc4 pm4 cd4 ct4 oc5 kV5 dc5 pm5 cd5 ct5 oc6 kV6 dc6 pm6 cd6 ct6 oc7 kV7 dc7 pm7 cd7 ct7 oc8 kV8 dc8 pm8 cd8 ct8 oc9 kV9 dc9 pm9 cd9 ct9 oc10 kV10 dc10 pm10 cd10 ct10 oc11 kV11 dc11 pm11 cd11 ct11 oc12 kV12 dc12 pm12 cd12 ct12 oc13 kV13 dc13 pm13 cd13 ct13 oc14 kV14 dc14 pm14 cd14 ct14 oc15 kV15 dc15 pm15 cd15 ct15 oc16 kV16 dc16 pm16 cd16 ct16 oc17 kV17 dc17 pm17 cd17 ct17 oc18 kV18 dc18 pm18 cd18 ct18 : Value}
    (a1 : PySem.W.nsIn K mainGlobals "joined" = some (some (.ref f1))) (l1 : K.lookup f1 = some ⟨oc1, od1, .func (PySem.W.fnOf "joined" "joined" (defArgs s_joined) (defBody s_joined) (defScope s_joined) .none kV1 dc1 pm1 an1 cd1 ct1), sl1⟩) (c1 : PySem.W.codeIn K cd1 "joined" = true) (k1 : PySem.W.keepIn K (.ref f1) = true)
    (a2 : PySem.W.nsIn K mainGlobals "joined_all" = some (some (.ref f2))) (l2 : K.lookup f2 = some ⟨oc2, od2, .func (PySem.W.fnOf "joined_all" "joined_all" (defArgs s_joined_all) (defBody s_joined_all) (defScope s_joined_all) .none kV2 dc2 pm2 an2 cd2 ct2), sl2⟩) (c2 : PySem.W.codeIn K cd2 "joined_all" = true) (k2 : PySem.W.keepIn K (.ref f2) = true)
    (a3 : PySem.W.nsIn K mainGlobals "names_in_either" = some (some (.ref f3))) (l3 : K.lookup f3 = some ⟨oc3, od3, .func (PySem.W.fnOf "names_in_either" "names_in_either" (defArgs s_names_in_either) (defBody s_names_in_either) (defScope s_names_in_either) .none kV3 dc3 pm3 an3 cd3 ct3), sl3⟩) (c3 : PySem.W.codeIn K cd3 "names_in_either" = true) (k3 : PySem.W.keepIn K (.ref f3) = true)
    (a4 : PySem.W.nsIn K mainGlobals "values_left" = some (some (.ref f4))) (l4 : K.lookup f4 = some ⟨oc4, od4, .func (PySem.W.fnOf "values_left" "values_left" (defArgs s_values_left) (defBody s_values_left) (defScope s_values_left) .none kV4 dc4 pm4 an4 cd4 ct4), sl4⟩) (c4 : PySem.W.codeIn K cd4 "values_left" = true) (k4 : PySem.W.keepIn K (.ref f4) = true)
    (a5 : PySem.W.nsIn K mainGlobals "_law_mixed" = some (some (.ref f5))) (l5 : K.lookup f5 = some ⟨oc5, od5, .func (PySem.W.fnOf "_law_mixed" "_law_mixed" (defArgs s_l_mixed) (defBody s_l_mixed) (defScope s_l_mixed) .none kV5 dc5 pm5 an5 cd5 ct5), sl5⟩) (c5 : PySem.W.codeIn K cd5 "_law_mixed" = true) (k5 : PySem.W.keepIn K (.ref f5) = true)
    (a6 : PySem.W.nsIn K mainGlobals "_law_box" = some (some (.ref f6))) (l6 : K.lookup f6 = some ⟨oc6, od6, .func (PySem.W.fnOf "_law_box" "_law_box" (defArgs s_l_box) (defBody s_l_box) (defScope s_l_box) .none kV6 dc6 pm6 an6 cd6 ct6), sl6⟩) (c6 : PySem.W.codeIn K cd6 "_law_box" = true) (k6 : PySem.W.keepIn K (.ref f6) = true)
    (a7 : PySem.W.nsIn K mainGlobals "_law_take" = some (some (.ref f7))) (l7 : K.lookup f7 = some ⟨oc7, od7, .func (PySem.W.fnOf "_law_take" "_law_take" (defArgs s_l_take) (defBody s_l_take) (defScope s_l_take) .none kV7 dc7 pm7 an7 cd7 ct7), sl7⟩) (c7 : PySem.W.codeIn K cd7 "_law_take" = true) (k7 : PySem.W.keepIn K (.ref f7) = true)
    (a8 : PySem.W.nsIn K mainGlobals "_law_some" = some (some (.ref f8))) (l8 : K.lookup f8 = some ⟨oc8, od8, .func (PySem.W.fnOf "_law_some" "_law_some" (defArgs s_l_some) (defBody s_l_some) (defScope s_l_some) .none kV8 dc8 pm8 an8 cd8 ct8), sl8⟩) (c8 : PySem.W.codeIn K cd8 "_law_some" = true) (k8 : PySem.W.keepIn K (.ref f8) = true)
    (a9 : PySem.W.nsIn K mainGlobals "_law_names" = some (some (.ref f9))) (l9 : K.lookup f9 = some ⟨oc9, od9, .func (PySem.W.fnOf "_law_names" "_law_names" (defArgs s_l_names) (defBody s_l_names) (defScope s_l_names) .none kV9 dc9 pm9 an9 cd9 ct9), sl9⟩) (c9 : PySem.W.codeIn K cd9 "_law_names" = true) (k9 : PySem.W.keepIn K (.ref f9) = true)
    (a10 : PySem.W.nsIn K mainGlobals "_law_features" = some (some (.ref f10))) (l10 : K.lookup f10 = some ⟨oc10, od10, .func (PySem.W.fnOf "_law_features" "_law_features" (defArgs s_l_features) (defBody s_l_features) (defScope s_l_features) .none kV10 dc10 pm10 an10 cd10 ct10), sl10⟩) (c10 : PySem.W.codeIn K cd10 "_law_features" = true) (k10 : PySem.W.keepIn K (.ref f10) = true)
    (a11 : PySem.W.nsIn K mainGlobals "_law_bundle" = some (some (.ref f11))) (l11 : K.lookup f11 = some ⟨oc11, od11, .func (PySem.W.fnOf "_law_bundle" "_law_bundle" (defArgs s_l_bundle) (defBody s_l_bundle) (defScope s_l_bundle) .none kV11 dc11 pm11 an11 cd11 ct11), sl11⟩) (c11 : PySem.W.codeIn K cd11 "_law_bundle" = true) (k11 : PySem.W.keepIn K (.ref f11) = true)
    (a12 : PySem.W.nsIn K mainGlobals "_law_own" = some (some (.ref f12))) (l12 : K.lookup f12 = some ⟨oc12, od12, .func (PySem.W.fnOf "_law_own" "_law_own" (defArgs s_l_own) (defBody s_l_own) (defScope s_l_own) .none kV12 dc12 pm12 an12 cd12 ct12), sl12⟩) (c12 : PySem.W.codeIn K cd12 "_law_own" = true) (k12 : PySem.W.keepIn K (.ref f12) = true)
    (a13 : PySem.W.nsIn K mainGlobals "_law_is" = some (some (.ref f13))) (l13 : K.lookup f13 = some ⟨oc13, od13, .func (PySem.W.fnOf "_law_is" "_law_is" (defArgs s_l_is) (defBody s_l_is) (defScope s_l_is) .none kV13 dc13 pm13 an13 cd13 ct13), sl13⟩) (c13 : PySem.W.codeIn K cd13 "_law_is" = true) (k13 : PySem.W.keepIn K (.ref f13) = true)
    (a14 : PySem.W.nsIn K mainGlobals "_law_joined" = some (some (.ref f14))) (l14 : K.lookup f14 = some ⟨oc14, od14, .func (PySem.W.fnOf "_law_joined" "_law_joined" (defArgs s_l_joined) (defBody s_l_joined) (defScope s_l_joined) .none kV14 dc14 pm14 an14 cd14 ct14), sl14⟩) (c14 : PySem.W.codeIn K cd14 "_law_joined" = true) (k14 : PySem.W.keepIn K (.ref f14) = true)
    (a15 : PySem.W.nsIn K mainGlobals "_law_keeping" = some (some (.ref f15))) (l15 : K.lookup f15 = some ⟨oc15, od15, .func (PySem.W.fnOf "_law_keeping" "_law_keeping" (defArgs s_l_keeping) (defBody s_l_keeping) (defScope s_l_keeping) .none kV15 dc15 pm15 an15 cd15 ct15), sl15⟩) (c15 : PySem.W.codeIn K cd15 "_law_keeping" = true) (k15 : PySem.W.keepIn K (.ref f15) = true)
    (a16 : PySem.W.nsIn K mainGlobals "_law_all" = some (some (.ref f16))) (l16 : K.lookup f16 = some ⟨oc16, od16, .func (PySem.W.fnOf "_law_all" "_law_all" (defArgs s_l_all) (defBody s_l_all) (defScope s_l_all) .none kV16 dc16 pm16 an16 cd16 ct16), sl16⟩) (c16 : PySem.W.codeIn K cd16 "_law_all" = true) (k16 : PySem.W.keepIn K (.ref f16) = true)
    (a17 : PySem.W.nsIn K mainGlobals "_law_right" = some (some (.ref f17))) (l17 : K.lookup f17 = some ⟨oc17, od17, .func (PySem.W.fnOf "_law_right" "_law_right" (defArgs s_l_right) (defBody s_l_right) (defScope s_l_right) .none kV17 dc17 pm17 an17 cd17 ct17), sl17⟩) (c17 : PySem.W.codeIn K cd17 "_law_right" = true) (k17 : PySem.W.keepIn K (.ref f17) = true)
    (a18 : PySem.W.nsIn K mainGlobals "law" = some (some (.ref f18))) (l18 : K.lookup f18 = some ⟨oc18, od18, .func (PySem.W.fnOf "law" "law" (defArgs s_law) (defBody s_law) (defScope s_law) .none kV18 dc18 pm18 an18 cd18 ct18), sl18⟩) (c18 : PySem.W.codeIn K cd18 "law" = true) (k18 : PySem.W.keepIn K (.ref f18) = true)
    (z1 : PySem.W.nsIn K mainGlobals "len" = some none) (z2 : PySem.W.nsIn K mainGlobals "abs" = some none) (z3 : PySem.W.nsIn K mainGlobals "int" = some none) (z4 : PySem.W.nsIn K mainGlobals "list" = some none) (z5 : PySem.W.nsIn K mainGlobals "dict" = some none) (z6 : PySem.W.nsIn K mainGlobals "isinstance" = some none) (z7 : PySem.W.nsIn K mainGlobals "str" = some none) (z8 : PySem.W.nsIn K mainGlobals "enumerate" = some none) (z9 : PySem.W.nsIn K mainGlobals "divmod" = some none) (z10 : PySem.W.nsIn K mainGlobals "all" = some none) (z11 : PySem.W.nsIn K mainGlobals "range" = some none) (z12 : PySem.W.nsIn K mainGlobals "reversed" = some none) :
    ∃ fd : FuncData, (∀ (s : Shared) (v : Value), BindsTo s fd ⟨[v], []⟩ [("_law_script", v)]) ∧ ∀ base : Heap, K.In base → base.Ns mainGlobals mg → FnOk l.prog w K mg base CX0 6 fa fd ["_law_script"] (spLaw K) := by
  have e := hfa.symm.trans (PySem.W.mg_of X G a18)
  cases e
  have F1 := fun_mk (st := s_joined) l1 c1 k1
  have b1 := F1.binds (ps := ["one", "other"]) fun _ _ _ _ _ _ us hl => match us, hl with | [_, _], _ => rfl
  have g1 := PySem.W.mg_of X G a1
  have F2 := fun_mk (st := s_joined_all) l2 c2 k2
  have b2 := F2.binds (ps := ["bundles"]) fun _ _ _ _ _ _ us hl => match us, hl with | [_], _ => rfl
  have g2 := PySem.W.mg_of X G a2
  have F3 := fun_mk (st := s_names_in_either) l3 c3 k3
  have b3 := F3.binds (ps := ["one", "other"]) fun _ _ _ _ _ _ us hl => match us, hl with | [_, _], _ => rfl
  have g3 := PySem.W.mg_of X G a3
  have F4 := fun_mk (st := s_values_left) l4 c4 k4
  have b4 := F4.binds (ps := ["one", "other", "name"]) fun _ _ _ _ _ _ us hl => match us, hl with | [_, _, _], _ => rfl
  have g4 := PySem.W.mg_of X G a4
  have F5 := fun_mk (st := s_l_mixed) l5 c5 k5
  have b5 := F5.binds (ps := ["_law_number", "_law_k"]) fun _ _ _ _ _ _ us hl => match us, hl with | [_, _], _ => rfl
  have g5 := PySem.W.mg_of X G a5
  have F6 := fun_mk (st := s_l_box) l6 c6 k6
  have b6 := F6.binds (ps := ["_law_cell_here", "_law_k"]) fun _ _ _ _ _ _ us hl => match us, hl with | [_, _], _ => rfl
  have g6 := PySem.W.mg_of X G a6
  have F7 := fun_mk (st := s_l_take) l7 c7 k7
  have b7 := F7.binds (ps := ["_law_box_here", "_law_many"]) fun _ _ _ _ _ _ us hl => match us, hl with | [_, _], _ => rfl
  have g7 := PySem.W.mg_of X G a7
  have F8 := fun_mk (st := s_l_some) l8 c8 k8
  have b8 := F8.binds (ps := ["_law_box_here", "_law_words", "_law_many"]) fun _ _ _ _ _ _ us hl => match us, hl with | [_, _, _], _ => rfl
  have g8 := PySem.W.mg_of X G a8
  have F9 := fun_mk (st := s_l_names) l9 c9 k9
  have b9 := F9.binds (ps := ["_law_box_here", "_law_many"]) fun _ _ _ _ _ _ us hl => match us, hl with | [_, _], _ => rfl
  have g9 := PySem.W.mg_of X G a9
  have F10 := fun_mk (st := s_l_features) l10 c10 k10
  have b10 := F10.binds (ps := ["_law_box_here"]) fun _ _ _ _ _ _ us hl => match us, hl with | [_], _ => rfl
  have g10 := PySem.W.mg_of X G a10
  have F11 := fun_mk (st := s_l_bundle) l11 c11 k11
  have b11 := F11.binds (ps := ["_law_box_here", "_law_features_here"]) fun _ _ _ _ _ _ us hl => match us, hl with | [_, _], _ => rfl
  have g11 := PySem.W.mg_of X G a11
  have F12 := fun_mk (st := s_l_own) l12 c12 k12
  have b12 := F12.binds (ps := ["_law_bundle_here"]) fun _ _ _ _ _ _ us hl => match us, hl with | [_], _ => rfl
  have g12 := PySem.W.mg_of X G a12
  have F13 := fun_mk (st := s_l_is) l13 c13 k13
  have b13 := F13.binds (ps := ["_law_found", "_law_due"]) fun _ _ _ _ _ _ us hl => match us, hl with | [_, _], _ => rfl
  have g13 := PySem.W.mg_of X G a13
  have F14 := fun_mk (st := s_l_joined) l14 c14 k14
  have b14 := F14.binds (ps := ["_law_one", "_law_other"]) fun _ _ _ _ _ _ us hl => match us, hl with | [_, _], _ => rfl
  have g14 := PySem.W.mg_of X G a14
  have F15 := fun_mk (st := s_l_keeping) l15 c15 k15
  have b15 := F15.binds (ps := ["_law_box_here", "_law_bundle_here", "_law_kept"]) fun _ _ _ _ _ _ us hl => match us, hl with | [_, _, _], _ => rfl
  have g15 := PySem.W.mg_of X G a15
  have F16 := fun_mk (st := s_l_all) l16 c16 k16
  have b16 := F16.binds (ps := ["_law_bundles"]) fun _ _ _ _ _ _ us hl => match us, hl with | [_], _ => rfl
  have g16 := PySem.W.mg_of X G a16
  have F17 := fun_mk (st := s_l_right) l17 c17 k17
  have b17 := F17.binds (ps := ["_law_bundles"]) fun _ _ _ _ _ _ us hl => match us, hl with | [_], _ => rfl
  have g17 := PySem.W.mg_of X G a17
  have F18 := fun_mk (st := s_law) l18 c18 k18
  have m_len := PySem.W.mg_none_of X G z1
  have m_abs := PySem.W.mg_none_of X G z2
  have m_int := PySem.W.mg_none_of X G z3
  have m_list := PySem.W.mg_none_of X G z4
  have m_dict := PySem.W.mg_none_of X G z5
  have m_isinstance := PySem.W.mg_none_of X G z6
  have m_str := PySem.W.mg_none_of X G z7
  have m_enumerate := PySem.W.mg_none_of X G z8
  have m_divmod := PySem.W.mg_none_of X G z9
  have m_all := PySem.W.mg_none_of X G z10
  have m_range := PySem.W.mg_none_of X G z11
  have m_reversed := PySem.W.mg_none_of X G z12
  refine ⟨PySem.W.fnOf "law" "law" (defArgs s_law) (defBody s_law) (defScope s_law) .none kV18 dc18 pm18 an18 cd18 ct18, fun s v => .of_eq rfl, fun base _ _ => ?_⟩
  have GT := ok_take (P := l.prog) (w := w) (mg := mg) (base := base) F7 F5 b5 g5 m_divmod
  have GS := ok_some F8 F7.kp b7 g7 GT m_len m_list
  have GN := ok_names F9 F8.kp b8 g8 GS
  have GF := ok_features F10 F7.kp b7 g7 GT F8.kp b8 g8 GS F9.kp b9 g9 GN m_int
  have GB := ok_bundle F11 F7.kp b7 g7 GT F8.kp b8 g8 GS m_len
  have GO : FnOk l.prog w K mg base CX0 1 f12 _ ["_law_bundle_here"] spOwn := ok_own F12 m_dict m_list
  have GNE : FnOk l.prog w K mg base CX0 1 f3 _ ["one", "other"] spNamesE := ok_namesE F3
  have GL : FnOk l.prog w K mg base CX0 1 f4 _ ["one", "other", "name"] spLeft := ok_left F4 m_list
  have GJ : FnOk l.prog w K mg base CX0 2 f1 _ ["one", "other"] spJoined := ok_joined F1 F3.kp b3 g3 GNE F4.kp b4 g4 GL
  have GLJ : FnOk l.prog w K mg base CX0 1 f14 _ ["_law_one", "_law_other"] spJoined := ok_ljoined F14 m_list
  have GI : FnOk l.prog w K mg base CX0 1 f13 _ ["_law_found", "_law_due"] spIs := ok_is F13 m_list m_dict m_str m_isinstance m_all
  have GJA := ok_joinedAll F2 F1.kp b1 g1 GJ
  have GLA := ok_lall F16 F14.kp b14 g14 GLJ
  have GK := ok_keeping F15 F7.kp b7 g7 GT
  have GR := ok_right F17 F12.kp b12 g12 GO F16.kp b16 g16 GLA F2.kp b2 g2 GJA F13.kp b13 g13 GI m_range
  exact ok_law F18 F6.kp b6 g6 (ok_box F6 m_abs m_int) F10.kp b10 g10 GF F11.kp b11 g11 GB F7.kp b7 g7 GT F15.kp b15 g15 GK F17.kp b17 g17 GR m_len m_enumerate m_range m_dict m_list m_reversed
end Bn
open PySem PySem.W PyProof.Rows
set_option maxHeartbeats 0 in
theorem PySem.Challenge.cw_speechloom_k03_all_joined_holds : PySem.Challenge.rw_speechloom_k03_all_joined.Holds := by
  w_on; o_law; k_head; (case hw => w_witness2)
  k_fill
  refine L2.walk_of (l := PySem.Challenge.rw_speechloom_k03_all_joined) (n := 63) (k := 6) (x := "_law_script") (CX := fun _ => L2.CX0) (sp := fun w => Bn.spLaw _) rfl (by decide) rfl ⟨rfl, by decide, by decide⟩ (fun w h Y => PySem.W.kIn_of Y) ?F (fun _ _ a ns hl _ hS => ⟨a, ns, rfl, hS, hl, fun _ => rfl⟩) (fun _ _ _ _ _ h => h)
  case F =>
    intro w mg fa h KX G hmg
    refine' Bn.all_mk KX G hmg ?a1 ?l1 ?c1 ?k1 ?a2 ?l2 ?c2 ?k2 ?a3 ?l3 ?c3 ?k3 ?a4 ?l4 ?c4 ?k4 ?a5 ?l5 ?c5 ?k5 ?a6 ?l6 ?c6 ?k6 ?a7 ?l7 ?c7 ?k7 ?a8 ?l8 ?c8 ?k8 ?a9 ?l9 ?c9 ?k9 ?a10 ?l10 ?c10 ?k10 ?a11 ?l11 ?c11 ?k11 ?a12 ?l12 ?c12 ?k12 ?a13 ?l13 ?c13 ?k13 ?a14 ?l14 ?c14 ?k14 ?a15 ?l15 ?c15 ?k15 ?a16 ?l16 ?c16 ?k16 ?a17 ?l17 ?c17 ?k17 ?a18 ?l18 ?c18 ?k18 ?z1 ?z2 ?z3 ?z4 ?z5 ?z6 ?z7 ?z8 ?z9 ?z10 ?z11 ?z12
    (case a1 => k_is); (case l1 => k_is); (case c1 => k_is); (case k1 => k_is); (case a2 => k_is); (case l2 => k_is); (case c2 => k_is); (case k2 => k_is); (case a3 => k_is); (case l3 => k_is); (case c3 => k_is); (case k3 => k_is); (case a4 => k_is); (case l4 => k_is); (case c4 => k_is); (case k4 => k_is); (case a5 => k_is); (case l5 => k_is); (case c5 => k_is); (case k5 => k_is); (case a6 => k_is); (case l6 => k_is); (case c6 => k_is); (case k6 => k_is); (case a7 => k_is); (case l7 => k_is); (case c7 => k_is); (case k7 => k_is); (case a8 => k_is); (case l8 => k_is); (case c8 => k_is); (case k8 => k_is); (case a9 => k_is); (case l9 => k_is); (case c9 => k_is); (case k9 => k_is); (case a10 => k_is); (case l10 => k_is); (case c10 => k_is); (case k10 => k_is); (case a11 => k_is); (case l11 => k_is); (case c11 => k_is); (case k11 => k_is); (case a12 => k_is); (case l12 => k_is); (case c12 => k_is); (case k12 => k_is); (case a13 => k_is); (case l13 => k_is); (case c13 => k_is); (case k13 => k_is); (case a14 => k_is); (case l14 => k_is); (case c14 => k_is); (case k14 => k_is); (case a15 => k_is); (case l15 => k_is); (case c15 => k_is); (case k15 => k_is); (case a16 => k_is); (case l16 => k_is); (case c16 => k_is); (case k16 => k_is); (case a17 => k_is); (case l17 => k_is); (case c17 => k_is); (case k17 => k_is); (case a18 => k_is); (case l18 => k_is); (case c18 => k_is); (case k18 => k_is); (case z1 => k_is); (case z2 => k_is); (case z3 => k_is); (case z4 => k_is); (case z5 => k_is); (case z6 => k_is); (case z7 => k_is); (case z8 => k_is); (case z9 => k_is); (case z10 => k_is); (case z11 => k_is); (case z12 => k_is)
