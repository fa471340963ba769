import PyProof.Rows.All
import Wide.All
import OpenK.AllK
import Wide.FinOn
import PySem.Challenge.RW_speechloom_k08_sewn
import HandS.ForMost
import HandS.IsInst
import HandS.Codes
set_option Elab.async false
set_option linter.all false
set_option maxRecDepth 100000
set_option maxHeartbeats 4000000
namespace K8
open PySem PySem.Spec PyProof.Rows L2
/-! ### the text -/
def topS (i : Nat) : Stmt := PySem.Challenge.pw_speechloom_k08_sewn.main.body.getD i (.Pass ⟨0, 0, 0, 0⟩)
abbrev sSewn : Stmt := topS 1
abbrev sCell : Stmt := topS 3
abbrev sMixed : Stmt := topS 4
abbrev sBox : Stmt := topS 5
abbrev sTake : Stmt := topS 6
abbrev sLetters : Stmt := topS 7
abbrev sTurned : Stmt := topS 8
abbrev sLSewn : Stmt := topS 9
abbrev sSeams : Stmt := topS 10
abbrev sTexts : Stmt := topS 11
abbrev sLaw : Stmt := topS 12
theorem scSewn : FnScope ["seams", "stem", "ending", "left", "right", "made"] ["seams", "stem", "ending"] (defScope sSewn) := ⟨rfl, rfl, rfl, by decide +kernel, rfl, by decide +kernel, by decide +kernel⟩
theorem scCell : FnScope ["_law_script", "_law_k"] ["_law_script", "_law_k"] (defScope sCell) := ⟨rfl, rfl, rfl, by decide +kernel, rfl, by decide +kernel, by decide +kernel⟩
theorem scMixed : FnScope ["_law_number", "_law_k", "_law_once", "_law_twice"] ["_law_number", "_law_k"] (defScope sMixed) := ⟨rfl, rfl, rfl, by decide +kernel, rfl, by decide +kernel, by decide +kernel⟩
theorem scBox : FnScope ["_law_script", "_law_k", "_law_cell"] ["_law_script", "_law_k"] (defScope sBox) := ⟨rfl, rfl, rfl, by decide +kernel, rfl, by decide +kernel, by decide +kernel⟩
theorem scTake : FnScope ["_law_box_here", "_law_many", "_law_found"] ["_law_box_here", "_law_many"] (defScope sTake) := ⟨rfl, rfl, rfl, by decide +kernel, rfl, by decide +kernel, by decide +kernel⟩
theorem scLetters : FnScope ["_law_box_here", "_law_signs", "_law_many", "_law_k"] ["_law_box_here", "_law_signs", "_law_many"] (defScope sLetters) := ⟨rfl, rfl, rfl, by decide +kernel, rfl, by decide +kernel, by decide +kernel⟩
theorem scTurned : FnScope ["_law_box_here", "_law_row", "_law_rest", "_law_found"] ["_law_box_here", "_law_row"] (defScope sTurned) := ⟨rfl, rfl, rfl, by decide +kernel, rfl, by decide +kernel, by decide +kernel⟩
theorem scLSewn : FnScope ["_law_seams_here", "_law_stem", "_law_ending", "_law_left", "_law_right", "_law_made"] ["_law_seams_here", "_law_stem", "_law_ending"] (defScope sLSewn) := ⟨rfl, rfl, rfl, by decide +kernel, rfl, by decide +kernel, by decide +kernel⟩
theorem scSeams : FnScope ["_law_box_here", "_law_signs", "_law_found", "_law_k", "_law_left", "_law_right"] ["_law_box_here", "_law_signs"] (defScope sSeams) := ⟨rfl, rfl, rfl, by decide +kernel, rfl, by decide +kernel, by decide +kernel⟩
theorem scTexts : FnScope ["_law_box_here", "_law_seams_here", "_law_signs", "_law_stem", "_law_ending", "_law_left", "_law_right", "_law_made"] ["_law_box_here", "_law_seams_here", "_law_signs"] (defScope sTexts) := ⟨rfl, rfl, rfl, by decide +kernel, rfl, by decide +kernel, by decide +kernel⟩
theorem scLaw : FnScope ["_law_script", "_law_k", "_law_box_here", "_law_turn", "_law_signs", "_law_seams_here", "_law_handed", "_law_stem", "_law_ending", "_law_some", "_law_found"] ["_law_script"] (defScope sLaw) := ⟨rfl, rfl, rfl, by decide +kernel, rfl, by decide +kernel, by decide +kernel⟩

/-! ### heaps -/
def Kp (b : Addr) (H H' : Hp) : Prop := ∀ a o, a ≠ b → H a = some o → H' a = some o
theorem Kp.refl (b : Addr) (H : Hp) : Kp b H H := fun _ _ _ h => h
theorem Kp.trans {b : Addr} {H H1 H2 : Hp} (x : Kp b H H1) (y : Kp b H1 H2) : Kp b H H2 := fun a o n h => y a o n (x a o n h)
theorem Kp.put {b : Addr} {H : Hp} {o : HO} : Kp b H (upd H b o) := fun a x n h => by
  rw [upd_ne n]
  exact h
theorem Kp.new {b p : Addr} {H : Hp} {o : HO} (h : H p = none) : Kp b H (upd H p o) := fun a x n e => by
  rw [upd_ne (ne_of_none e h)]
  exact e
theorem same_upd {H : Hp} {p : Addr} {o : HO} (h : H p = none) : Same H (upd H p o) := fun b x e => by
  rw [upd_ne (ne_of_none e h)]
  exact e
theorem Kp.of_same {b : Addr} {H H' : Hp} (h : Same H H') : Kp b H H' := fun a o _ e => h a o e
theorem Same.kp {b : Addr} {H0 H H' : Hp} (s : Same H0 H) (n : H0 b = none) (k : Kp b H H') : Same H0 H' := fun a o e => k a o (ne_of_none e n) (s a o e)
def Bx (H : Hp) (b : Addr) : Prop := ∃ x y z : Int, H b = some (.lst [.int x, .int y, .int z])
theorem Bx.same {H H' : Hp} {b : Addr} (h : Bx H b) (s : Same H H') : Bx H' b := by
  obtain ⟨x, y, z, e⟩ := h
  exact ⟨x, y, z, s _ _ e⟩
structure Kb (b : Addr) (H H' : Hp) : Prop where
  k : Kp b H H'
  x : Bx H' b
theorem Kb.refl {b : Addr} {H : Hp} (h : Bx H b) : Kb b H H := ⟨Kp.refl b H, h⟩
theorem Kb.trans {b : Addr} {H H1 H2 : Hp} (p : Kb b H H1) (q : Kb b H1 H2) : Kb b H H2 := ⟨p.k.trans q.k, q.x⟩
theorem Kb.new {b p : Addr} {H : Hp} {o : HO} (hb : Bx H b) (h : H p = none) : Kb b H (upd H p o) := ⟨Kp.new h, hb.same (same_upd h)⟩
theorem Kb.free {b a : Addr} {H H' : Hp} (p : Kb b H H') (h : H' a = none) : H a = none := by
  cases e : H a with
  | none => rfl
  | some o =>
    by_cases q : a = b
    · subst q
      obtain ⟨x, y, z, e2⟩ := p.x
      rw [e2] at h
      cases h
    · rw [p.k a o q e] at h
      cases h
/-- a new object of one's own (not tracked in H) is changed -/
theorem Kb.own {b p : Addr} {H H' : Hp} {o : HO} (q : Kb b H H') (h : H p = none) (n : p ≠ b) : Kb b H (upd H' p o) := ⟨fun a x na e => by
  rw [upd_ne (ne_of_none e h)]
  exact q.k a x na e, by
  obtain ⟨x, y, z, e2⟩ := q.x
  exact ⟨x, y, z, by rw [upd_ne n.symm]; exact e2⟩⟩
theorem Bx.ne {H : Hp} {b p : Addr} (h : Bx H b) (n : H p = none) : b ≠ p := by
  obtain ⟨x, y, z, e⟩ := h
  exact ne_of_none e n

/-! ### seams -/
abbrev Sm := Str × Str × Str
def okS (x : Str) : Prop := ∀ c ∈ TL.tl x, c < 0x110000
theorem okS_iff (x : Str) : PyData.strOk x = true ↔ okS x := by
  unfold PyData.strOk okS TL.tl
  rw [← Array.all_toList, List.all_eq_true]
  exact ⟨fun h c hc => of_decide_eq_true (h c hc), fun h c hc => decide_eq_true (h c hc)⟩
theorem okS_app {x y : Str} (h : okS x) (k : okS y) : okS (x ++ y) := fun c hc => by
  rw [TL.tl_append] at hc
  rcases List.mem_append.mp hc with e | e
  · exact h c e
  · exact k c e
theorem okS_cut {z : Str} (h : okS z) (lo hi : Option Int) : okS (cutS z lo hi) := fun c hc => h c (List.mem_of_mem_drop (List.mem_of_mem_take hc))
theorem okS_one {z : Str} (h : okS z) {i c : Nat} (e : z.cps[i]? = some c) : okS ⟨#[c]⟩ := fun d hd => by
  have e1 : d = c := List.mem_singleton.mp hd
  subst e1
  refine h d ?_
  obtain ⟨h1, e2⟩ := Array.getElem?_eq_some_iff.mp e
  rw [← e2]
  exact Array.mem_toList_iff.mpr (Array.getElem_mem h1)
theorem okS_joinL : ∀ (ls : List (List Nat)), (∀ l ∈ ls, ∀ c ∈ l, c < 0x110000) → ∀ c ∈ TL.joinL [] ls, c < 0x110000
  | [], _, c, h => by cases h
  | [p], H, c, h => H p (List.mem_singleton.mpr rfl) c h
  | p :: q :: r, H, c, h => by
    have h' : c ∈ p ++ ([] ++ TL.joinL [] (q :: r)) := h
    rw [List.nil_append] at h'
    rcases List.mem_append.mp h' with e | e
    · exact H p (List.mem_cons_self ..) c e
    · exact okS_joinL (q :: r) (fun l hl => H l (List.mem_cons_of_mem _ hl)) c e
theorem len_joinL : ∀ (ls : List (List Nat)), (∀ l ∈ ls, l.length = 1) → (TL.joinL [] ls).length = ls.length
  | [], _ => rfl
  | [p], H => H p (List.mem_singleton.mpr rfl)
  | p :: q :: r, H => by
    show (p ++ ([] ++ TL.joinL [] (q :: r))).length = (p :: q :: r).length
    rw [List.nil_append, List.length_append, len_joinL (q :: r) fun l hl => H l (List.mem_cons_of_mem _ hl), H p (List.mem_cons_self ..)]
    simp only [List.length_cons]
    omega
theorem tl_join0 (e : Str) (he : TL.tl e = []) (ys : List Str) : TL.tl (Txt.join e ys) = TL.joinL [] (ys.map TL.tl) := by
  rw [TL.join_eq, TL.tl_join, he]
def SmB (s : Sm) : Prop := (1 ≤ s.1.length ∧ s.1.length ≤ 8 ∧ s.2.1.length ≤ 8 ∧ s.2.2.length ≤ 8) ∧ okS s.1 ∧ okS s.2.1 ∧ okS s.2.2
def IsSm (H : Hp) (v : V) (s : Sm) : Prop := ∃ p, v = .ref p ∧ H p = some (.tup [.str s.1, .str s.2.1, .str s.2.2])
inductive Sms (H : Hp) : List V → List Sm → Prop
  | nil : Sms H [] []
  | cons {v : V} {vs : List V} {s : Sm} {ss : List Sm} : IsSm H v s → SmB s → Sms H vs ss → Sms H (v :: vs) (s :: ss)
theorem Sms.length {H : Hp} {vs : List V} {ss : List Sm} (h : Sms H vs ss) : vs.length = ss.length := by
  induction h with
  | nil => rfl
  | cons _ _ _ ih => simp [ih]
theorem IsSm.kp {b : Addr} {H H' : Hp} {v : V} {s : Sm} (h : IsSm H v s) (hb : Bx H b) (k : Kp b H H') : IsSm H' v s := by
  obtain ⟨p, rfl, e⟩ := h
  obtain ⟨x, y, z, eb⟩ := hb
  refine ⟨p, rfl, k _ _ (fun q => ?_) e⟩
  rw [q, eb] at e
  cases e
theorem Sms.kp {b : Addr} {H H' : Hp} {vs : List V} {ss : List Sm} (h : Sms H vs ss) (hb : Bx H b) (k : Kp b H H') : Sms H' vs ss := by
  induction h with
  | nil => exact .nil
  | cons a c _ ih => exact .cons (a.kp hb k) c ih
theorem Sms.same {H H' : Hp} {vs : List V} {ss : List Sm} (h : Sms H vs ss) (k : Same H H') : Sms H' vs ss := by
  induction h with
  | nil => exact .nil
  | cons a c _ ih =>
    obtain ⟨p, e, e2⟩ := a
    exact .cons ⟨p, e, k _ _ e2⟩ c ih
theorem Sms.get {H : Hp} {vs : List V} {ss : List Sm} (h : Sms H vs ss) : ∀ {i : Nat} {v : V}, vs[i]? = some v → ∃ s, IsSm H v s ∧ SmB s ∧ ss[i]? = some s := by
  induction h with
  | nil => intro i v e; simp at e
  | cons a c _ ih =>
    intro i v e
    cases i with
    | zero =>
      have e' := Option.some.inj e
      subst e'
      exact ⟨_, a, c, rfl⟩
    | succ j => exact ih e
theorem Sms.app {H : Hp} {vs ws : List V} {ss ts : List Sm} (h : Sms H vs ss) (k : Sms H ws ts) : Sms H (vs ++ ws) (ss ++ ts) := by
  induction h with
  | nil => exact k
  | cons a c _ ih => exact .cons a c ih
theorem Sms.erase {H : Hp} {vs : List V} {ss : List Sm} (h : Sms H vs ss) : ∀ k, Sms H (vs.eraseIdx k) (ss.eraseIdx k) := by
  induction h with
  | nil => intro k; exact .nil
  | cons a c t ih =>
    intro k
    cases k with
    | zero => exact t
    | succ j => exact .cons a c (ih j)
theorem Sms.cut {H : Hp} {vs : List V} {ss : List Sm} (h : Sms H vs ss) : ∀ n, Sms H (vs.take n) (ss.take n) := by
  induction h with
  | nil => intro n; simp; exact .nil
  | cons a c t ih =>
    intro n
    cases n with
    | zero => exact .nil
    | succ j => exact .cons a c (ih j)
def dSm (s : Sm) : PyData := .tuple [.str s.1, .str s.2.1, .str s.2.2]
theorem Sms.dp {K : PySem.W.Frag} {H : Hp} {vs : List V} {ss : List Sm} (h : Sms H vs ss) : DpAll K H vs (ss.map dSm) := by
  induction h with
  | nil => exact .nil
  | cons a _ _ ih =>
    obtain ⟨p, rfl, e⟩ := a
    exact .cons (.tup (.inl (.inl e)) (.cons (.str _) (.cons (.str _) (.cons (.str _) .nil)))) ih

theorem dSm_shaped (s : Sm) (h : SmB s) : (dSm s).canLay0 = true ∧ (dSm s).depth = 1 := by
  refine ⟨?_, rfl⟩
  show (PyData.strOk s.1 && (PyData.strOk s.2.1 && (PyData.strOk s.2.2 && true))) = true
  rw [(okS_iff _).mpr h.2.1, (okS_iff _).mpr h.2.2.1, (okS_iff _).mpr h.2.2.2]
  rfl
theorem all_shaped : ∀ (ss : List Sm), (∀ s ∈ ss, SmB s) → PyData.canLayAll0 (ss.map dSm) = true ∧ PyData.depthAll (ss.map dSm) ≤ 1
  | [], _ => ⟨rfl, Nat.zero_le _⟩
  | s :: ss, h => by
    obtain ⟨a, b⟩ := all_shaped ss fun x hx => h x (List.mem_cons_of_mem _ hx)
    obtain ⟨c, d⟩ := dSm_shaped s (h s (List.mem_cons_self ..))
    refine ⟨?_, ?_⟩
    · show ((dSm s).canLay0 && PyData.canLayAll0 (ss.map dSm)) = true
      rw [a, c]
      rfl
    · show max (dSm s).depth (PyData.depthAll (ss.map dSm)) ≤ 1
      omega
theorem Sms.all {H : Hp} {vs : List V} {ss : List Sm} (h : Sms H vs ss) : ∀ s ∈ ss, SmB s := by
  induction h with
  | nil => intro s hs; cases hs
  | cons a c _ ih =>
    intro s hs
    rcases List.mem_cons.mp hs with rfl | e
    · exact c
    · exact ih s e
theorem Sms.shaped {H : Hp} {vs : List V} {ss : List Sm} (h : Sms H vs ss) : SeqAt.shaped (.list (ss.map dSm)) = true := by
  obtain ⟨a, b⟩ := all_shaped ss h.all
  show (PyData.canLayAll0 (ss.map dSm) && decide (PyData.depthAll (ss.map dSm) + 1 ≤ 64)) = true
  rw [a, decide_eq_true (by omega)]
  rfl
theorem eqv_nil (ss : List Sm) : PyData.eqv (.list (ss.map dSm)) (.list []) = ss.isEmpty := by
  cases ss with
  | nil => rfl
  | cons s r => rfl
/-! ### the mathematics -/
def hits (st en : Str) (s : Sm) : Bool := Txt.endswith st s.1 && Txt.startswith en s.2.1
def cutAt (st en : Str) (s : Sm) : Str := cutS st none (some ((st.length : Int) - s.1.length)) ++ s.2.2 ++ cutS en (some (s.2.1.length : Int)) none
def sewnF : List Sm → Str → Str → Str
  | [], st, en => st ++ en
  | s :: ss, st, en => if hits st en s = true then cutAt st en s else sewnF ss st en
end K8

namespace K8
open PySem PySem.Spec PyProof.Rows L2
section
variable {P : Program} {w : World} {K : PySem.W.Frag} {mg : Str → Option Value} {base : Heap}
def spSewn (K : PySem.W.Frag) : Sp := fun vs H Q _ => ∃ (a : Addr) (xs : List V) (ss : List Sm) (st en : Str), vs = [.ref a, .str st, .str en] ∧ SqL K H a xs ∧ Sms H xs ss ∧ st.length ≤ 100 ∧ en.length ≤ 100 ∧ Q (.str (sewnF ss st en)) H
theorem drop_get {α : Type} {l : List α} {i : Nat} {x : α} (h : l[i]? = some x) : l.drop i = x :: l.drop (i + 1) := by
  obtain ⟨h1, e⟩ := List.getElem?_eq_some_iff.mp h
  rw [List.drop_eq_getElem_cons h1, e]
theorem len_app (x y : Str) : (x ++ y).length = x.length + y.length := by
  rw [TL.len_tl, TL.tl_append, List.length_append, ← TL.len_tl, ← TL.len_tl]
theorem line100 {n : Nat} (h : n ≤ 1000) : n ≤ sizeLine := Nat.le_of_lt (small1000 h)
theorem sewn_hit {s : Sm} {ss : List Sm} {st en : Str} (h : hits st en s = true) : sewnF (s :: ss) st en = cutAt st en s := by
  show (if hits st en s = true then cutAt st en s else sewnF ss st en) = _
  rw [if_pos h]
theorem sewn_miss {s : Sm} {ss : List Sm} {st en : Str} (h : hits st en s = false) : sewnF (s :: ss) st en = sewnF ss st en := by
  show (if hits st en s = true then cutAt st en s else sewnF ss st en) = _
  rw [if_neg (by rw [h]; decide)]
theorem hits_and {st en l r m : Str} {b c : Bool} (h1 : Txt.endswith st l = b) (h2 : Txt.startswith en r = c) : hits st en (l, r, m) = (b && c) := by
  unfold hits
  rw [h1, h2]
theorem hits_no {st en l r m : Str} (h1 : Txt.endswith st l = false) : hits st en (l, r, m) = false := by
  unfold hits
  rw [h1]
  rfl
theorem ok_sewn {f : Addr} {fd : FuncData} {k : Nat} (F : Fun K "sewn" "sewn" sSewn f fd) (ml : mg "len" = none) : FnOk P w K mg base CX0 (k + 1) f fd ["seams", "stem", "ending"] (spSewn K) := by
  refine F.ok scSewn (fun vs H Q E h => ?_) (fun cdv A outer s H vs Q E hr h => ?_)
  · obtain ⟨a, xs, ss, st, en, rfl, _⟩ := h
    rfl
  · obtain ⟨a, xs, ss, st, en, rfl, hS, hM, hst, hen, q⟩ := h
    refine ⟨_, pss_cons (ps_for PassesOwn.never rfl (pi_list (pv 0)) (pg_tup rfl (pgs_cons (pg_name (i := 3) scSewn.nd rfl (.inl rfl)) (pgs_cons (pg_name (i := 4) scSewn.nd rfl (.inl rfl)) (pgs_cons (pg_name (i := 5) scSewn.nd rfl (.inl rfl)) pgs_nil))))
        (pss_one (ps_if (PW.pt (pw_and (pt_val (pe_m1 PySem.F.slot_str_endswith PySem.F.type_str_endswith mt_endswith (pv 1) (pv 3))) (pw_and1 (pt_val (pe_m1 PySem.F.slot_str_startswith PySem.F.type_str_startswith mt_startswith (pv 2) (pv 4))))))
          (pss_one (ps_ret (pe_op op_add_str (pe_op op_add_str (pe_slice sl_str (pv 1) po_none (po_some (pe_op op_sub (pe_callB call_len_str (by rfl) ml PySem.boot_len (pa_cons (pv 1) pa_nil)) (pe_callB call_len_str (by rfl) ml PySem.boot_len (pa_cons (pv 3) pa_nil))))) (pv 5))
            (pe_slice sl_str (pv 2) (po_some (pe_callB call_len_str (by rfl) ml PySem.boot_len (pa_cons (pv 4) pa_nil))) po_none))))
          pss_nil)))
      (pss_one (ps_ret (pe_op op_add_str (pv 1) (pv 2)))), ?_⟩
    refine ⟨.ref a, rfl, a, rfl, ⟨_, hS⟩, for_list (K := K) (a := a) (xs := xs) (fun i σ H' => H' = H ∧ ∃ y3 y4 y5, σ = [some (.ref a), some (.str st), some (.str en), y3, y4, y5] ∧ sewnF ss st en = sewnF (ss.drop i) st en) ⟨rfl, none, none, none, rfl, rfl⟩ (fun i σ H' _ h => by rw [h.1]; exact hS) (fun i x σ H' hx hP => ?_) (fun σ H' hP => ?_)⟩
    · obtain ⟨rfl, y3, y4, y5, rfl, es⟩ := hP
      obtain ⟨⟨l, r, m⟩, ⟨p, rfl, hp⟩, ⟨⟨b1, b2, b3, b4⟩, _⟩, hs⟩ := hM.get hx
      rw [drop_get hs] at es
      refine ⟨p, _, rfl, .inl (.inl hp), rfl, _, _, rfl, _, _, rfl, _, _, rfl, rfl, ?_⟩
      refine ⟨_, rfl, ⟨_, rfl⟩, _, rfl, st, l, rfl, rfl, _, rfl, ?_⟩
      cases e1 : Txt.endswith st l with
      | false =>
        refine iteF (iteF ⟨rfl, _, _, _, rfl, ?_⟩)
        rw [es, sewn_miss (hits_no e1)]
      | true =>
        refine iteT ⟨_, rfl, ⟨_, rfl⟩, _, rfl, en, r, rfl, rfl, _, rfl, ?_⟩
        cases e2 : Txt.startswith en r with
        | false =>
          refine iteF ⟨rfl, _, _, _, rfl, ?_⟩
          rw [es, sewn_miss (hits_and e1 e2)]
        | true =>
          have eq : sewnF ss st en = cutAt st en (l, r, m) := by
            rw [es, sewn_hit (hits_and e1 e2)]
          rw [eq] at q
          have b4 : m.length ≤ 8 := b4
          have b3 : r.length ≤ 8 := b3
          have b2 : l.length ≤ 8 := b2
          have c1 := cutS_length st none (some ((st.length : Int) - l.length))
          have c2 := cutS_length en (some (r.length : Int)) none
          refine iteT ⟨_, rfl, _, rfl, st, rfl, line100 (by omega), _, rfl, l, rfl, line100 (by omega), _, _, rfl, rfl, _, rfl, st, rfl, line100 (by omega), _, rfl, _, m, rfl, rfl, line100 (by omega), _, rfl, _, rfl, r, rfl, line100 (by omega), _, rfl, en, rfl, line100 (by omega), _, _, rfl, rfl, ?_, q⟩
          rw [len_app]
          exact line100 (by omega)
    · obtain ⟨rfl, y3, y4, y5, rfl, es⟩ := hP
      rw [hM.length, List.drop_length] at es
      refine ⟨_, rfl, _, rfl, st, en, rfl, rfl, line100 (by omega), ?_⟩
      rw [es] at q
      exact q
end
end K8

namespace K8
open PySem PySem.Spec PyProof.Rows L2
theorem tl_cut (z : Str) (lo hi : Option Int) : TL.tl (cutS z lo hi) = ((TL.tl z).drop (HT.sIx z.length 0 lo)).take (HT.sIx z.length z.length hi - HT.sIx z.length 0 lo) := rfl
theorem sIx_neg (n d k : Nat) (h : 1 ≤ k) : HT.sIx n d (some (-(k : Int))) = n - k := by
  show (if -(k : Int) < 0 then (-(k : Int) + (n : Int)).toNat else min (-(k : Int)).toNat n) = n - k
  rw [if_pos (by omega)]
  omega
theorem sIx_sub (n d k : Nat) (h : k ≤ n) : HT.sIx n d (some ((n : Int) - (k : Int))) = n - k := by
  rw [show (n : Int) - (k : Int) = ((n - k : Nat) : Int) by omega, HT.sIx_nat]
  omega
theorem starts_iff (en r : Str) : Txt.startswith en r = true ↔ r.length ≤ en.length ∧ (TL.tl en).take r.length = TL.tl r := by
  unfold Txt.startswith
  rw [Bool.and_eq_true, decide_eq_true_eq, PySem.StrLaws.subAt_eq, beq_iff_eq, List.drop_zero, Nat.zero_add]
theorem ends_iff (st l : Str) : Txt.endswith st l = true ↔ l.length ≤ st.length ∧ ((TL.tl st).drop (st.length - l.length)).take l.length = TL.tl l := by
  unfold Txt.endswith
  rw [Bool.and_eq_true, decide_eq_true_eq, PySem.StrLaws.subAt_eq, beq_iff_eq, Nat.zero_add]
theorem cut_starts (en r : Str) : cutS en none (some (r.length : Int)) = r ↔ Txt.startswith en r = true := by
  have hE := TL.len_tl en
  have hR := TL.len_tl r
  rw [starts_iff]
  have e : TL.tl (cutS en none (some (r.length : Int))) = (TL.tl en).take (min r.length en.length) := by
    rw [tl_cut, HT.sIx_none, HT.sIx_nat, List.drop_zero, Nat.sub_zero]
  constructor
  · intro h
    rw [h] at e
    have hl := congrArg List.length e
    rw [List.length_take] at hl
    have h1 : r.length ≤ en.length := by omega
    rw [Nat.min_eq_left h1] at e
    exact ⟨h1, e.symm⟩
  · rintro ⟨h1, h2⟩
    rw [Nat.min_eq_left h1, h2] at e
    exact TL.ext_tl e
theorem cut_ends (st l : Str) (hl : 1 ≤ l.length) : cutS st (some (-(l.length : Int))) none = l ↔ Txt.endswith st l = true := by
  have hE := TL.len_tl st
  have hR := TL.len_tl l
  rw [ends_iff]
  have e : TL.tl (cutS st (some (-(l.length : Int))) none) = (TL.tl st).drop (st.length - l.length) := by
    rw [tl_cut, HT.sIx_none, sIx_neg _ _ _ hl]
    exact List.take_of_length_le (by rw [List.length_drop]; omega)
  have hd : ((TL.tl st).drop (st.length - l.length)).take l.length = (TL.tl st).drop (st.length - l.length) := List.take_of_length_le (by rw [List.length_drop]; omega)
  rw [hd]
  constructor
  · intro h
    rw [h] at e
    have hl := congrArg List.length e
    rw [List.length_drop] at hl
    exact ⟨by omega, e.symm⟩
  · rintro ⟨h1, h2⟩
    rw [h2] at e
    exact TL.ext_tl e
theorem cut_front {st l : Str} (hl : 1 ≤ l.length) (h : Txt.endswith st l = true) : cutS st none (some (-(l.length : Int))) = cutS st none (some ((st.length : Int) - (l.length : Int))) := by
  obtain ⟨h1, _⟩ := (ends_iff st l).mp h
  apply TL.ext_tl
  rw [tl_cut, tl_cut, sIx_neg _ _ _ hl, sIx_sub _ _ _ h1]
theorem dec_ends (st l : Str) (hl : 1 ≤ l.length) : decide (V.str (cutS st (some (-(l.length : Int))) none) = V.str l) = Txt.endswith st l := by
  rw [Bool.eq_iff_iff, decide_eq_true_eq, ← cut_ends st l hl]
  exact ⟨fun h => V.str.inj h, fun h => by rw [h]⟩
theorem dec_starts (en r : Str) : decide (V.str (cutS en none (some (r.length : Int))) = V.str r) = Txt.startswith en r := by
  rw [Bool.eq_iff_iff, decide_eq_true_eq, ← cut_starts en r]
  exact ⟨fun h => V.str.inj h, fun h => by rw [h]⟩
section
variable {P : Program} {w : World} {K : PySem.W.Frag} {mg : Str → Option Value} {base : Heap}
theorem ok_lsewn {f : Addr} {fd : FuncData} {k : Nat} (F : Fun K "_law_sewn" "_law_sewn" sLSewn f fd) (ml : mg "len" = none) : FnOk P w K mg base CX0 (k + 1) f fd ["_law_seams_here", "_law_stem", "_law_ending"] (spSewn K) := by
  refine F.ok scLSewn (fun vs H Q E h => ?_) (fun cdv A outer s H vs Q E hr h => ?_)
  · obtain ⟨a, xs, ss, st, en, rfl, _⟩ := h
    rfl
  · obtain ⟨a, xs, ss, st, en, rfl, hS, hM, hst, hen, q⟩ := h
    refine ⟨_, pss_cons (ps_for PassesOwn.never rfl (pi_list (pv 0)) (pg_tup rfl (pgs_cons (pg_name (i := 3) scLSewn.nd rfl (.inl rfl)) (pgs_cons (pg_name (i := 4) scLSewn.nd rfl (.inl rfl)) (pgs_cons (pg_name (i := 5) scLSewn.nd rfl (.inl rfl)) pgs_nil))))
        (pss_one (ps_if (PW.pt (pw_and (pt_cmpR op_eq (pe_slice sl_str (pv 1) (po_some (pe_un un_neg (pe_callB call_len_str (by rfl) ml PySem.boot_len (pa_cons (pv 3) pa_nil)))) po_none) (pv 3) (nomark _))
              (pw_and1 (pt_cmpR op_eq (pe_slice sl_str (pv 2) po_none (po_some (pe_callB call_len_str (by rfl) ml PySem.boot_len (pa_cons (pv 4) pa_nil)))) (pv 4) (nomark _)))))
          (pss_one (ps_ret (pe_op op_add_str (pe_op op_add_str (pe_slice sl_str (pv 1) po_none (po_some (pe_un un_neg (pe_callB call_len_str (by rfl) ml PySem.boot_len (pa_cons (pv 3) pa_nil))))) (pv 5))
            (pe_slice sl_str (pv 2) (po_some (pe_callB call_len_str (by rfl) ml PySem.boot_len (pa_cons (pv 4) pa_nil))) po_none))))
          pss_nil)))
      (pss_one (ps_ret (pe_op op_add_str (pv 1) (pv 2)))), ?_⟩
    refine ⟨.ref a, rfl, a, rfl, ⟨_, hS⟩, for_list (K := K) (a := a) (xs := xs) (fun i σ H' => H' = H ∧ ∃ y3 y4 y5, σ = [some (.ref a), some (.str st), some (.str en), y3, y4, y5] ∧ sewnF ss st en = sewnF (ss.drop i) st en) ⟨rfl, none, none, none, rfl, rfl⟩ (fun i σ H' _ h => by rw [h.1]; exact hS) (fun i x σ H' hx hP => ?_) (fun σ H' hP => ?_)⟩
    · obtain ⟨rfl, y3, y4, y5, rfl, es⟩ := hP
      obtain ⟨⟨l, r, m⟩, ⟨p, rfl, hp⟩, ⟨⟨b1, b2, b3, b4⟩, _⟩, hs⟩ := hM.get hx
      have b4 : m.length ≤ 8 := b4
      have b3 : r.length ≤ 8 := b3
      have b2 : l.length ≤ 8 := b2
      have b1 : 1 ≤ l.length := b1
      rw [drop_get hs] at es
      refine ⟨p, _, rfl, .inl (.inl hp), rfl, _, _, rfl, _, _, rfl, _, _, rfl, rfl, ?_⟩
      refine ⟨_, rfl, _, rfl, l, rfl, line100 (by omega), _, rfl, _, rfl, st, rfl, line100 (by omega), _, rfl, rfl, _, rfl, ?_⟩
      rw [dec_ends st l b1]
      cases e1 : Txt.endswith st l with
      | false =>
        refine iteF (iteF ⟨rfl, _, _, _, rfl, ?_⟩)
        rw [es, sewn_miss (hits_no e1)]
      | true =>
        refine iteT ⟨_, rfl, _, rfl, r, rfl, line100 (by omega), _, rfl, en, rfl, line100 (by omega), _, rfl, rfl, _, rfl, ?_⟩
        rw [dec_starts en r]
        cases e2 : Txt.startswith en r with
        | false =>
          refine iteF ⟨rfl, _, _, _, rfl, ?_⟩
          rw [es, sewn_miss (hits_and e1 e2)]
        | true =>
          have eq : sewnF ss st en = cutAt st en (l, r, m) := by
            rw [es, sewn_hit (hits_and e1 e2)]
          rw [eq] at q
          unfold cutAt at q
          dsimp only at q
          rw [← cut_front b1 e1] at q
          have c1 := cutS_length st none (some (-(l.length : Int)))
          have c2 := cutS_length en (some (r.length : Int)) none
          refine iteT ⟨_, rfl, _, rfl, l, rfl, line100 (by omega), _, rfl, _, rfl, st, rfl, line100 (by omega), _, rfl, _, m, rfl, rfl, line100 (by omega), _, rfl, _, rfl, r, rfl, line100 (by omega), _, rfl, en, rfl, line100 (by omega), _, _, rfl, rfl, ?_, q⟩
          rw [len_app]
          exact line100 (by omega)
    · obtain ⟨rfl, y3, y4, y5, rfl, es⟩ := hP
      rw [hM.length, List.drop_length] at es
      refine ⟨_, rfl, _, rfl, st, en, rfl, rfl, line100 (by omega), ?_⟩
      rw [es] at q
      exact q
end
end K8

namespace K8
open PySem PySem.Spec PyProof.Rows L2
section
variable {P : Program} {w : World} {K : PySem.W.Frag} {mg : Str → Option Value} {base : Heap}
/-! ### cell -/
def spCell (K : PySem.W.Frag) : Sp := fun vs H Q _ => ∃ (a : Addr) (ns : List Int) (k : Int), vs = [.ref a, .int k] ∧ SqL K H a (ns.map V.int) ∧ 0 ≤ k ∧ ∀ n : Int, Q (.int n) H
theorem ok_cell {f : Addr} {fd : FuncData} {k : Nat} (F : Fun K "_law_cell_at" "_law_cell_at" sCell f fd) (ml : mg "len" = none) : FnOk P w K mg base CX0 (k + 1) f fd ["_law_script", "_law_k"] (spCell K) := by
  refine F.ok scCell (fun vs H Q E h => ?_) (fun cdv A outer s H vs Q E hr h => ?_)
  · obtain ⟨a, ns, k, rfl, _⟩ := h
    rfl
  · obtain ⟨a, ns, k, rfl, hS, hk, q⟩ := h
    refine ⟨_, pss_cons (ps_if (pt_cmpR op_lt (pv 1) (pe_callB call_len_seq (by rfl) ml PySem.boot_len (pa_cons (pv 0) pa_nil)) (nomark _))
        (pss_one (ps_ret (pe_ix ix_list (pv 0) (pv 1) (fun _ _ => rfl)))) pss_nil) (pss_one (ps_ret pe_int)), ?_⟩
    refine ⟨_, rfl, _, rfl, a, _, rfl, .inl hS, _, _, rfl, rfl, _, rfl, ite2 (fun e => ?_) (fun e => ?_)⟩
    · have e0 : k < ((ns.map V.int).length : Int) := of_decide_eq_true e
      obtain ⟨j, rfl⟩ : ∃ j : Nat, k = (j : Int) := ⟨k.toNat, by omega⟩
      have hj : j < ns.length := by
        rw [List.length_map] at e0
        omega
      exact ⟨_, rfl, _, rfl, a, _, _, .int ns[j], rfl, rfl, hS, atI_nat (by rw [List.getElem?_map, List.getElem?_eq_getElem hj]; rfl), q _⟩
    · exact q _
/-! ### mixed -/
def spMixed : Sp := fun vs H Q _ => ∃ (n k : Int), vs = [.int n, .int k] ∧ ∀ m : Int, Q (.int m) H
theorem ok_mixed {f : Addr} {fd : FuncData} {k : Nat} (F : Fun K "_law_mixed" "_law_mixed" sMixed f fd) : FnOk P w K mg base CX0 (k + 1) f fd ["_law_number", "_law_k"] spMixed := by
  refine F.ok scMixed (fun vs H Q E h => ?_) (fun cdv A outer s H vs Q E hr h => ?_)
  · obtain ⟨n, k, rfl, _⟩ := h
    rfl
  · obtain ⟨n, k, rfl, q⟩ := h
    refine ⟨_, pss_cons (ps_set (i := 2) scMixed.nd rfl (.inl rfl) (pe_op op_mod (pe_op op_mul (pe_op op_add (pe_op op_add (pe_op op_mod (pv 0) pe_int) (pe_op op_mul pe_int (pv 1))) pe_int) pe_int) pe_int))
      (pss_cons (ps_set (i := 3) scMixed.nd rfl (.inl rfl) (pe_op op_mod (pe_op op_mul (pv 2) (pe_op op_add (pe_op op_add (pe_op op_mod (pv 2) pe_int) (pv 1)) pe_int)) pe_int))
      (pss_one (ps_ret (pe_op op_mod (pe_op op_add (pe_op op_mul (pv 3) pe_int) (pv 2)) pe_int)))), ?_⟩
    refine ⟨_, rfl, _, _, rfl, rfl, (by show (0 : Int) < 1000000007; decide), _, rfl, _, _, rfl, rfl, .inl ⟨by decide, by decide⟩, _, _, rfl, rfl, _, _, rfl, rfl, _, _, rfl, rfl, .inr ⟨by decide, by decide⟩, _, _, rfl, rfl, (by show (0 : Int) < 2147483647; decide), ?_⟩
    generalize (n % 1000000007 + 7 * k + 1) * 48271 = y
    have y0 := Int.emod_nonneg y (show (2147483647 : Int) ≠ 0 by decide)
    have y1 := Int.emod_lt_of_pos y (show (0 : Int) < 2147483647 by decide)
    refine ⟨_, rfl, _, rfl, _, _, rfl, rfl, (by show (0 : Int) < 1009; decide), _, rfl, _, _, rfl, rfl, _, _, rfl, rfl, _, _, rfl, rfl, .inl ⟨by omega, by omega⟩, _, _, rfl, rfl, (by show (0 : Int) < 998244353; decide), ?_⟩
    exact ⟨_, rfl, _, _, rfl, rfl, .inr ⟨by decide, by decide⟩, _, rfl, _, _, rfl, rfl, _, _, rfl, rfl, (by show (0 : Int) < 2147483629; decide), q _⟩
theorem bit_lo (b : Bool) : -(2 ^ 64) < (if b = true then (1 : Int) else 0) := by cases b <;> decide
theorem bit_hi (b : Bool) : (if b = true then (1 : Int) else 0) < 2 ^ 64 := by cases b <;> decide
/-! ### box -/
def spBox (K : PySem.W.Frag) : Sp := fun vs H Q _ => ∃ (a : Addr) (ns : List Int) (k : Int), vs = [.ref a, .int k] ∧ SqL K H a (ns.map V.int) ∧ 0 ≤ k ∧ ∀ p H', H p = none → Same H H' → Bx H' p → Q (.ref p) H'
theorem ok_box {f fC fM : Addr} {fd fdC fdM : FuncData} {k : Nat} (F : Fun K "_law_box" "_law_box" sBox f fd)
    (FC : Fun K "_law_cell_at" "_law_cell_at" sCell fC fdC) (bC : Binds K fdC ["_law_script", "_law_k"] []) (gC : mg "_law_cell_at" = some (.ref fC))
    (FM : Fun K "_law_mixed" "_law_mixed" sMixed fM fdM) (bM : Binds K fdM ["_law_number", "_law_k"] []) (gM : mg "_law_mixed" = some (.ref fM))
    (ml : mg "len" = none) (ma : mg "abs" = none) (mi : mg "int" = none) : FnOk P w K mg base CX0 2 f fd ["_law_script", "_law_k"] (spBox K) := by
  have GC : FnOk P w K mg base CX0 1 fC fdC ["_law_script", "_law_k"] (spCell K) := ok_cell FC ml
  have GM : FnOk P w K mg base CX0 1 fM fdM ["_law_number", "_law_k"] spMixed := ok_mixed FM
  refine F.ok scBox (fun vs H Q E h => ?_) (fun cdv A outer s H vs Q E hr h => ?_)
  · obtain ⟨a, ns, k, rfl, _⟩ := h
    rfl
  · obtain ⟨a, ns, k, rfl, hS, hk, q⟩ := h
    refine ⟨_, pss_cons (ps_set (i := 2) scBox.nd rfl (.inl rfl) (pe_call GC hr (by rfl) gC FC.kp bC .nil pass0 (pa_cons (pv 0) (pa_cons (pv 1) pa_nil))))
      (pss_one (ps_ret (pe_lst (pa_cons (pe_op op_mul (pe_callB call_abs (by rfl) ma (by decide +kernel) (pa_cons (pv 2) pa_nil)) (pe_callTy call_int1 (by rfl) mi (by decide +kernel) (pa_cons (pe_cmpR op_ge (pe_callB call_abs (by rfl) ma (by decide +kernel) (pa_cons (pv 2) pa_nil)) (pe_op op_pow pe_int pe_int) (nomark _)) pa_nil)))
        (pa_cons (pe_call GM hr (by rfl) gM FM.kp bM .nil pass0 (pa_cons (pv 2) (pa_cons (pe_op op_add pe_int (pv 1)) pa_nil))) (pa_cons pe_int pa_nil)))))), ?_⟩
    refine ⟨_, rfl, _, rfl, a, ns, k, rfl, hS, hk, fun c => ?_⟩
    refine ⟨_, rfl, _, rfl, _, rfl, _, rfl, _, _, rfl, rfl, ⟨by decide, by decide, by decide⟩, _, _, rfl, rfl, .inr ⟨_, rfl, _, _, rfl, rfl, .inr ⟨?_, ?_⟩, _, rfl, _, rfl, _, _, rfl, rfl, _, _, rfl, fun m => ⟨(show 3 ≤ sizeLine by decide), fun p np => ?_⟩⟩⟩
    · exact bit_lo _
    · exact bit_hi _
    · exact q p _ np (same_upd np) ⟨_, _, _, upd_same⟩
/-! ### take -/
def spTake : Sp := fun vs H Q _ => ∃ (b : Addr) (m : Int), vs = [.ref b, .int m] ∧ Bx H b ∧ 0 < m ∧ m < 1073741824 ∧ ∀ (n : Int) H', 0 ≤ n → n < m → Kb b H H' → Q (.int n) H'
theorem free_put {H : Hp} {b : Addr} {o : HO} : ∀ a, upd H b o a = none → H a = none := fun a e => by
  by_cases h : a = b
  · rw [h, upd_same] at e
    cases e
  · rw [upd_ne h] at e
    exact e
theorem ok_take {f fM : Addr} {fd fdM : FuncData} {k : Nat} (F : Fun K "_law_take" "_law_take" sTake f fd)
    (FM : Fun K "_law_mixed" "_law_mixed" sMixed fM fdM) (bM : Binds K fdM ["_law_number", "_law_k"] []) (gM : mg "_law_mixed" = some (.ref fM)) : FnOk P w K mg base CX0 2 f fd ["_law_box_here", "_law_many"] spTake := by
  have GM : FnOk P w K mg base CX0 1 fM fdM ["_law_number", "_law_k"] spMixed := ok_mixed FM
  refine F.ok scTake (fun vs H Q E h => ?_) (fun cdv A outer s H vs Q E hr h => ?_)
  · obtain ⟨b, m, rfl, _⟩ := h
    rfl
  · obtain ⟨b, m, rfl, ⟨x, y, z, hb⟩, m0, m1, q⟩ := h
    refine ⟨_, pss_cons (ps_if (pt_cmpR op_gt (pe_ix ix_list (pv 0) pe_int (fun _ _ => rfl)) pe_int (nomark _))
        (pss_cons (ps_set (i := 2) scTake.nd rfl (.inl rfl) (pe_op op_mod (pe_ix ix_list (pv 0) pe_int (fun _ _ => rfl)) (pv 1)))
        (pss_cons (ps_asg (pe_op op_fdiv (pe_ix ix_list (pv 0) pe_int (fun _ _ => rfl)) (pv 1)) (pg_sub (pv 0) pe_int set_list))
        (pss_one (ps_ret (pv 2))))) pss_nil)
      (pss_cons (ps_asg (pe_op op_add (pe_ix ix_list (pv 0) pe_int (fun _ _ => rfl)) pe_int) (pg_sub (pv 0) pe_int set_list))
      (pss_one (ps_ret (pe_op op_mod (pe_call GM hr (by rfl) gM FM.kp bM .nil pass0 (pa_cons (pe_ix ix_list (pv 0) pe_int (fun _ _ => rfl)) (pa_cons (pe_ix ix_list (pv 0) pe_int (fun _ _ => rfl)) pa_nil))) (pv 1))))), ?_⟩
    have hL : SqL K H b [.int x, .int y, .int z] := .inl (.inl hb)
    refine ⟨_, rfl, b, _, _, .int x, rfl, rfl, hL, rfl, _, _, rfl, rfl, _, rfl, ite2 (fun e => ?_) (fun e => ?_)⟩
    · refine ⟨_, rfl, b, _, _, .int x, rfl, rfl, hL, rfl, _, rfl, _, _, rfl, rfl, m0, ?_⟩
      refine ⟨_, rfl, b, _, _, .int x, rfl, rfl, hL, rfl, _, rfl, _, _, rfl, rfl, ⟨m0, m1⟩, _, rfl, b, _, _, 0, rfl, rfl, hb, rfl, ?_⟩
      refine ⟨_, rfl, ?_⟩
      exact q _ _ (Int.emod_nonneg x (by omega)) (Int.emod_lt_of_pos x m0) ⟨Kp.put, ⟨_, _, _, upd_same⟩⟩
    · refine ⟨_, rfl, b, _, _, .int z, rfl, rfl, hL, rfl, _, _, rfl, rfl, _, rfl, b, _, _, 2, rfl, rfl, hb, rfl, ?_⟩
      refine ⟨_, rfl, b, _, _, .int y, rfl, rfl, .inl (.inl upd_same), rfl, _, rfl, b, _, _, .int (z + 1), rfl, rfl, .inl (.inl upd_same), rfl, _, _, rfl, fun n => ?_⟩
      refine ⟨_, rfl, _, _, rfl, rfl, m0, ?_⟩
      exact q _ _ (Int.emod_nonneg n (by omega)) (Int.emod_lt_of_pos n m0) ⟨Kp.put, ⟨_, _, _, upd_same⟩⟩
end
end K8

namespace K8
open PySem PySem.Spec PyProof.Rows L2
section
variable {P : Program} {w : World} {K : PySem.W.Frag} {mg : Str → Option Value} {base : Heap}
/-! ### letters -/
def spLetters : Sp := fun vs H Q _ => ∃ (b : Addr) (z : Str) (m : Int), vs = [.ref b, .str z, .int m] ∧ Bx H b ∧ 1 ≤ z.length ∧ z.length ≤ 100 ∧ okS z ∧ 0 ≤ m ∧ m ≤ 100 ∧ ∀ (t : Str) H', t.length = m.toNat → okS t → Kb b H H' → Q (.str t) H'
theorem tYes_in {σ : L2.St} {H : Hp} {f g : Hp → Prop} (h : f H) : tYes σ H fun b H3 => if b = true then f H3 else g H3 := by
  show (if true = true then f H else g H)
  exact iteT h
theorem sum_ones : ∀ (ys : List Str), (∀ x ∈ ys, x.length = 1) → (ys.map (·.length)).sum = ys.length
  | [], _ => rfl
  | y :: ys, h => by
    rw [List.map_cons, List.sum_cons, sum_ones ys fun x hx => h x (List.mem_cons_of_mem _ hx), h y (List.mem_cons_self ..), List.length_cons, Nat.add_comm]
theorem ok_letters {f fT : Addr} {fd fdT : FuncData} (F : Fun K "_law_letters" "_law_letters" sLetters f fd)
    (FT : Fun K "_law_take" "_law_take" sTake fT fdT) (bT : Binds K fdT ["_law_box_here", "_law_many"] []) (gT : mg "_law_take" = some (.ref fT)) (GT : FnOk P w K mg base CX0 2 fT fdT ["_law_box_here", "_law_many"] spTake)
    (ml : mg "len" = none) (mr : mg "range" = none) : FnOk P w K mg base CX0 3 f fd ["_law_box_here", "_law_signs", "_law_many"] spLetters := by
  refine F.ok scLetters (fun vs H Q E h => ?_) (fun cdv A outer s H vs Q E hr h => ?_)
  · obtain ⟨b, z, m, rfl, _⟩ := h
    rfl
  · obtain ⟨b, z, m, rfl, hb, z1, z2, hz, m0, m1, q⟩ := h
    refine ⟨_, pss_one (ps_ret (pe_join pe_str (pe_lc (own := [("_law_k", 3)]) (g := gName 3) (tt := tYes) rfl scLetters.nd (pi_range1 (by rfl) mr (pa_cons (pv 2) pa_nil))
      (blkOk_by (own := [("_law_k", 3)]) (N := ["_law_box_here", "_law_signs", "_law_many", "_law_k"]) (sc := defScope sLetters) (by decide +kernel))
      (fun _ _ _ _ _ => pg_name (i := 3) scLetters.nd rfl (Or.inl rfl)) (fun _ _ _ _ _ => pts_nil)
      (fun _ _ _ _ _ => pe_item_str (pv 1) (pe_call GT hr (by rfl) gT FT.kp bT .nil pass0 (pa_cons (pv 0) (pa_cons (pe_callB call_len_str (by rfl) ml PySem.boot_len (pa_cons (pv 1) pa_nil)) pa_nil))) (fun _ _ => rfl))))), ?_⟩
    refine ⟨⟨_, rfl⟩, _, rfl, m, rfl, by omega, by omega, fun D nD => ?_⟩
    have nDb : b ≠ D := hb.ne nD
    refine lc_range (lo := 0) (n := m.toNat) (fun i H1 => Kb b H H1 ∧ ∃ acc : List Str, H1 D = some (.lst (acc.map V.str)) ∧ acc.length = i ∧ ∀ x ∈ acc, x.length = 1 ∧ okS x) ⟨Kb.new hb nD, [], upd_same, rfl, fun x hx => by cases hx⟩ (fun i H1 hi hP => ?_) (fun H1 hP => ?_)
    · obtain ⟨kb, acc, hD, hl, ha⟩ := hP
      refine ⟨rfl, tYes_in ?_⟩
      refine ⟨_, rfl, _, rfl, _, rfl, z, rfl, line100 (by omega), b, _, rfl, kb.x, by omega, by omega, fun n H2 n0 n1 k2 => ?_⟩
      have hn : n.toNat < z.cps.size := by
        have : z.length = z.cps.size := rfl
        omega
      have hD2 : H2 D = some (.lst (acc.map V.str)) := k2.k _ _ nDb.symm hD
      refine ⟨z, n, z.cps[n.toNat], rfl, rfl, n0, by omega, n1, Array.getElem?_eq_getElem hn, acc.map V.str, hD2, by rw [List.length_map]; exact small1000 (by omega), (kb.trans k2).own nD nDb.symm, acc ++ [⟨#[z.cps[n.toNat]]⟩], ?_, by rw [List.length_append, hl]; rfl, fun x hx => ?_⟩
      · rw [upd_same, List.map_append]
        rfl
      · rcases List.mem_append.mp hx with e | e
        · exact ha x e
        · rw [List.mem_singleton.mp e]
          exact ⟨rfl, okS_one hz (Array.getElem?_eq_getElem hn)⟩
    · obtain ⟨kb, acc, hD, hl, ha⟩ := hP
      refine ⟨_, D, acc, rfl, rfl, .inl (.inl (.inl hD)), ?_, ?_⟩
      · rw [sum_ones acc fun x hx => (ha x hx).1]
        have e0 : (Str.ofString "").length = 0 := rfl
        rw [e0]
        omega
      · have et := tl_join0 (Str.ofString "") rfl acc
        refine q _ H1 ?_ (fun c hc => ?_) kb
        · rw [TL.len_tl, et, len_joinL, List.length_map, hl]
          intro l hl
          obtain ⟨x, hx, rfl⟩ := List.mem_map.mp hl
          rw [← TL.len_tl]
          exact (ha x hx).1
        · rw [et] at hc
          refine okS_joinL _ (fun l hl => ?_) c hc
          obtain ⟨x, hx, rfl⟩ := List.mem_map.mp hl
          exact (ha x hx).2
/-! ### turned -/
def lenAt (H : Hp) (l : Addr) : Nat := match H l with
  | some (.lst xs) => xs.length
  | _ => 0
theorem lenAt_of {H : Hp} {l : Addr} {xs : List V} (h : H l = some (.lst xs)) : lenAt H l = xs.length := by
  unfold lenAt
  rw [h]
def spTurned (K : PySem.W.Frag) : Sp := fun vs H Q _ => ∃ (b r : Addr) (xs : List V) (ss : List Sm), vs = [.ref b, .ref r] ∧ Bx H b ∧ SqL K H r xs ∧ Sms H xs ss ∧ xs.length ≤ 100 ∧ ∀ (p : Addr) (ys : List V) (ts : List Sm) H', H p = none → Kb b H H' → H' p = some (.lst ys) → Sms H' ys ts → Q (.ref p) H'
theorem ok_turned {f fT : Addr} {fd fdT : FuncData} (F : Fun K "_law_turned" "_law_turned" sTurned f fd)
    (FT : Fun K "_law_take" "_law_take" sTake fT fdT) (bT : Binds K fdT ["_law_box_here", "_law_many"] []) (gT : mg "_law_take" = some (.ref fT)) (GT : FnOk P w K mg base CX0 2 fT fdT ["_law_box_here", "_law_many"] spTake)
    (ml : mg "len" = none) (mli : mg "list" = none) : FnOk P w K mg base CX0 3 f fd ["_law_box_here", "_law_row"] (spTurned K) := by
  refine F.ok scTurned (fun vs H Q E h => ?_) (fun cdv A outer s H vs Q E hr h => ?_)
  · obtain ⟨b, r, xs, ss, rfl, _⟩ := h
    rfl
  · obtain ⟨b, r, xs, ss, rfl, hb, hS, hM, hlen, q⟩ := h
    refine ⟨_, pss_cons (ps_set (i := 2) scTurned.nd rfl (.inl rfl) (pe_callTy call_list_of (by rfl) mli (by decide +kernel) (pa_cons (pv 1) pa_nil)))
      (pss_cons (ps_set (i := 3) scTurned.nd rfl (.inl rfl) (pe_lst pa_nil))
      (pss_cons (ps_while PassesOwn.never (pt_cmpR (op_neD hr.units) (pv 2) (pe_lst pa_nil) (nomark _))
        (pss_one (ps_expr (pe_bm PySem.F.plainAttrs_list PySem.F.slot_list_append PySem.F.type_list_append mt_append (pv 3) (pa_cons
          (pe_bm PySem.F.plainAttrs_list PySem.F.slot_list_pop PySem.F.type_list_pop mt_popAt (pv 2) (pa_cons (pe_call GT hr (by rfl) gT FT.kp bT .nil pass0 (pa_cons (pv 0) (pa_cons (pe_callB call_len_seq (by rfl) ml PySem.boot_len (pa_cons (pv 2) pa_nil)) pa_nil))) pa_nil)) pa_nil)))))
      (pss_one (ps_ret (pv 3))))), ?_⟩
    refine ⟨_, rfl, r, xs, rfl, .inl hS, fun l nl => ?_⟩
    refine ⟨Nat.zero_le _, fun d nd => ?_⟩
    have nlb : l ≠ b := (hb.ne nl).symm
    have hb1 : Bx (upd H l (.lst xs)) b := hb.same (same_upd nl)
    have ndb : d ≠ b := (hb1.ne nd).symm
    have ndl : d ≠ l := fun e => by
      rw [e, upd_same] at nd
      cases nd
    have nd0 : H d = none := by
      rw [upd_ne ndl] at nd
      exact nd
    refine while_by (fun σ H' => ∃ xs' ys ss' ts, σ = [some (.ref b), some (.ref r), some (.ref l), some (.ref d)] ∧ Kb b H H' ∧ H' l = some (.lst xs') ∧ Sms H' xs' ss' ∧ H' d = some (.lst ys) ∧ Sms H' ys ts ∧ xs'.length + ys.length ≤ 100) (fun _ H' => lenAt H' l) ?_ (fun σ H' hP => ?_) (fun σ H' Q1 Q2 hq h => ?_)
    · refine ⟨xs, [], ss, [], rfl, ((Kb.refl hb).own nl nlb).own nd0 ndb, ?_, ?_, upd_same, .nil, by simpa using hlen⟩
      · rw [upd_ne ndl.symm, upd_same]
      · exact (hM.same (same_upd nl)).same (same_upd nd)
    · obtain ⟨xs', ys, ss', ts, rfl, kb, hl, hx, hd, hy, hle⟩ := hP
      refine ⟨_, rfl, Nat.zero_le _, fun p np => ?_⟩
      have sm : Same H' (upd H' p (.lst [])) := same_upd np
      refine ⟨_, _, .lst (.inl (.inl (sm _ _ hl))) (hx.same sm).dp, .lst (.inl (.inl upd_same)) .nil, hx.shaped, rfl, _, rfl, ?_⟩
      rw [eqv_nil]
      have hxl := hx.length
      cases ss' with
      | nil =>
        refine iteF ⟨_, rfl, ?_⟩
        exact q d ys ts _ nd0 (kb.trans (Kb.new kb.x np)) (sm _ _ hd) (hy.same sm)
      | cons s0 ss0 =>
        rw [List.length_cons] at hxl
        have kb1 : Kb b H (upd H' p (.lst [])) := kb.trans (Kb.new kb.x np)
        have hl1 := sm _ _ hl
        have hd1 := sm _ _ hd
        refine iteT ⟨_, rfl, .inl ⟨rfl, _, .inl (.inl hd1)⟩, _, rfl, .inl ⟨rfl, _, .inl (.inl hl1)⟩, _, rfl, _, rfl, l, _, rfl, .inl (.inl (.inl hl1)), b, _, rfl, kb1.x, by omega, by omega, fun n H2 n0 n1 k2 => ?_⟩
        have hl2 : H2 l = some (.lst xs') := k2.k _ _ nlb hl1
        have hd2 : H2 d = some (.lst ys) := k2.k _ _ ndb hd1
        have hn : n.toNat < xs'.length := by omega
        refine ⟨l, xs', n, n.toNat, xs'[n.toNat], rfl, rfl, hl2, by omega, by omega, PySem.seqIndex_of n0 (by omega), List.getElem?_eq_getElem hn, ?_⟩
        have hd3 : (upd H2 l (.lst (xs'.eraseIdx n.toNat))) d = some (.lst ys) := by
          rw [upd_ne ndl]
          exact hd2
        have hx2 : Sms H2 xs' (s0 :: ss0) := (hx.same sm).kp kb1.x k2.k
        have hy2 : Sms H2 ys ts := (hy.same sm).kp kb1.x k2.k
        obtain ⟨s1, i1, b1, g1⟩ := hx2.get (List.getElem?_eq_getElem hn)
        have hy3 : Sms H2 (ys ++ [xs'[n.toNat]]) (ts ++ [s1]) := hy2.app (.cons i1 b1 .nil)
        have keep : ∀ {vs : List V} {us : List Sm}, Sms H2 vs us → Sms (upd (upd H2 l (.lst (xs'.eraseIdx n.toNat))) d (.lst (ys ++ [xs'[n.toNat]]))) vs us := by
          intro vs us h
          induction h with
          | nil => exact .nil
          | cons a c _ ih =>
            obtain ⟨t, rfl, e⟩ := a
            refine .cons ⟨t, rfl, ?_⟩ c ih
            rw [upd_ne (ne_of e hd2 (by intro z; cases z)), upd_ne (ne_of e hl2 (by intro z; cases z))]
            exact e
        refine ⟨d, ys, _, rfl, rfl, hd3, small1000 (by omega), ⟨xs'.eraseIdx n.toNat, ys ++ [xs'[n.toNat]], _, _, rfl, ((kb1.trans k2).own nl nlb).own nd0 ndb, ?_, keep (hx2.erase _), upd_same, keep hy3, ?_⟩, ?_⟩
        · rw [upd_ne ndl.symm, upd_same]
        · rw [List.length_eraseIdx_of_lt hn, List.length_append]
          show xs'.length - 1 + (ys.length + 1) ≤ 100
          omega
        · rw [lenAt_of hl, lenAt_of (xs := xs'.eraseIdx n.toNat) (by rw [upd_ne ndl.symm, upd_same]), List.length_eraseIdx_of_lt hn]
          omega
    · obtain ⟨v, hv, hz, h⟩ := h
      refine ⟨v, hv, hz, fun p np => ?_⟩
      obtain ⟨d1, e1, h1, h2, h3, h4, k, hk, h5⟩ := h p np
      exact ⟨d1, e1, h1, h2, h3, h4, k, hk, hq _ _ h5⟩
end
end K8

namespace K8
open PySem PySem.Spec PyProof.Rows L2
def repS (z : Str) (n : Int) : Str := if n < 1 then Str.empty else if (n == 1 || z.length == 0) = true then z else ⟨(List.replicate n.toNat z.cps).foldl (· ++ ·) #[]⟩
theorem repS_len (z : Str) (n : Int) (h0 : 0 ≤ n) (h2 : n ≤ 2) : (repS z n).length ≤ 2 * z.length := by
  unfold repS
  by_cases h : n < 1
  · rw [if_pos h]
    exact Nat.zero_le _
  · rw [if_neg h]
    by_cases k : (n == 1 || z.length == 0) = true
    · rw [if_pos k]
      omega
    · rw [if_neg k]
      have e : n.toNat = 1 ∨ n.toNat = 2 := by omega
      show ((List.replicate n.toNat z.cps).foldl (· ++ ·) #[]).size ≤ 2 * z.cps.size
      rcases e with e | e <;> rw [e] <;> simp [List.replicate] <;> omega
section
variable {X : Cx}
theorem op_mul_str : OpR X (binaryOp .Mult) (fun x y H Q => ∃ z n, x = .str z ∧ y = .int n ∧ 0 ≤ n ∧ n ≤ 2 ∧ z.length ≤ 1000 ∧ Q (.str (repS z n)) H) := by
  intro pins s σ H x y v u Q I rx ry h
  obtain ⟨z, n, rfl, rfl, h0, h2, hz, q⟩ := h
  obtain ⟨t, rfl⟩ := rx
  obtain ⟨t', rfl⟩ := ry
  refine P.mul_str ?_ (fun h1 _ => ?_) (fun h1 _ => ?_) ?_
  · rw [decide_eq_false (by omega), decide_eq_false (by omega)]
    rfl
  · have e : n = 1 ∨ n = 2 := by omega
    rcases e with rfl | rfl <;> omega
  · unfold Builtin.Str.tooLong
    have e : n.toNat = 1 ∨ n.toNat = 2 := by omega
    refine decide_eq_false (Nat.not_lt.mpr ?_)
    have : (1000 * 2) ≤ sizeLine := by decide
    rcases e with e | e <;> rw [e] <;> omega
  · have hl := repS_len z n h0 h2
    have hs : (repS z n).length ≤ sizeLine := Nat.le_trans hl (Nat.le_trans (Nat.mul_le_mul_left 2 hz) (by decide))
    unfold repS at hs q
    split
    · rename_i h1
      rw [if_pos h1] at hs q
      exact ⟨hs, .str _, H, I.tok _, ⟨_, rfl⟩, q⟩
    · rename_i h1
      rw [if_neg h1] at hs q
      split
      · rename_i k1
        rw [if_pos k1] at hs q
        exact ⟨.str _, H, I, ⟨_, rfl⟩, q⟩
      · rename_i k1
        rw [if_neg k1] at hs q
        exact ⟨hs, .str _, H, I.tok _, ⟨_, rfl⟩, q⟩
end
theorem pick3 (a b c n : Int) (h0 : 0 ≤ n) (h1 : n < 3) : ∃ m : Int, atI [V.int a, V.int b, V.int c] n = some (V.int m) ∧ (m = a ∨ m = b ∨ m = c) := by
  have e : n = 0 ∨ n = 1 ∨ n = 2 := by omega
  rcases e with rfl | rfl | rfl
  · exact ⟨a, rfl, .inl rfl⟩
  · exact ⟨b, rfl, .inr (.inl rfl)⟩
  · exact ⟨c, rfl, .inr (.inr rfl)⟩
theorem cut_tail_len (x : Str) (k : Nat) (hk : 1 ≤ k) (hx : 1 ≤ x.length) : 1 ≤ (cutS x (some (-(k : Int))) none).length ∧ (cutS x (some (-(k : Int))) none).length ≤ k := by
  have hE := TL.len_tl x
  have e : (cutS x (some (-(k : Int))) none).length = x.length - (x.length - k) := by
    rw [TL.len_tl, tl_cut, HT.sIx_none, sIx_neg _ _ _ hk, List.length_take, List.length_drop, ← hE]
    omega
  omega
theorem atI_neg1 {ys : List V} (h : 1 ≤ ys.length) : atI ys (-1) = ys[ys.length - 1]? := by
  unfold atI ixN
  rw [if_neg (by omega), if_pos (by omega)]
  show ys[(-1 + (ys.length : Int)).toNat]? = _
  rw [show (-1 + (ys.length : Int)).toNat = ys.length - 1 by omega]
theorem Sms.put {H : Hp} {d : Addr} {ys zs : List V} (hd : H d = some (.lst ys)) {vs : List V} {us : List Sm} (h : Sms H vs us) : Sms (upd H d (.lst zs)) vs us := by
  induction h with
  | nil => exact .nil
  | cons a c _ ih =>
    obtain ⟨t, rfl, e⟩ := a
    refine .cons ⟨t, rfl, ?_⟩ c ih
    rw [upd_ne (ne_of e hd (by intro z; cases z))]
    exact e
section
variable {P : Program} {w : World} {K : PySem.W.Frag} {mg : Str → Option Value} {base : Heap}
def spSeams : Sp := fun vs H Q _ => ∃ (b : Addr) (z : Str), vs = [.ref b, .str z] ∧ Bx H b ∧ 1 ≤ z.length ∧ z.length ≤ 90 ∧ okS z ∧ ∀ (p : Addr) (ys : List V) (ts : List Sm) H', H p = none → Kb b H H' → H' p = some (.lst ys) → Sms H' ys ts → ys.length ≤ 13 → Q (.ref p) H'
theorem okS_q : okS (Str.ofString "q") := fun c hc => by
  have : TL.tl (Str.ofString "q") = [113] := by decide +kernel
  rw [this] at hc
  rw [List.mem_singleton.mp hc]
  decide
theorem ok_seams {f fT fL : Addr} {fd fdT fdL : FuncData} (F : Fun K "_law_seams" "_law_seams" sSeams f fd)
    (FT : Fun K "_law_take" "_law_take" sTake fT fdT) (bT : Binds K fdT ["_law_box_here", "_law_many"] []) (gT : mg "_law_take" = some (.ref fT)) (GT : FnOk P w K mg base CX0 2 fT fdT ["_law_box_here", "_law_many"] spTake)
    (FL : Fun K "_law_letters" "_law_letters" sLetters fL fdL) (bL : Binds K fdL ["_law_box_here", "_law_signs", "_law_many"] []) (gL : mg "_law_letters" = some (.ref fL)) (GL : FnOk P w K mg base CX0 3 fL fdL ["_law_box_here", "_law_signs", "_law_many"] spLetters)
    (ml : mg "len" = none) (mr : mg "range" = none) : FnOk P w K mg base CX0 4 f fd ["_law_box_here", "_law_signs"] spSeams := by
  refine F.ok scSeams (fun vs H Q E h => ?_) (fun cdv A outer s H vs Q E hr h => ?_)
  · obtain ⟨b, z, rfl, _⟩ := h
    rfl
  · obtain ⟨b, z, rfl, hb, z1, z2, hz, q⟩ := h
    refine ⟨_, pss_cons (ps_set (i := 2) scSeams.nd rfl (.inl rfl) (pe_lst pa_nil))
      (pss_cons (ps_for PassesOwn.never rfl (pi_range1 (by rfl) mr (pa_cons (pe_call GT (hr.mono (by decide)) (by rfl) gT FT.kp bT .nil pass0 (pa_cons (pv 0) (pa_cons (pe_ix ix_list (pe_lst (pa_cons pe_int (pa_cons pe_int (pa_cons pe_int pa_nil)))) (pe_call GT (hr.mono (by decide)) (by rfl) gT FT.kp bT .nil pass0 (pa_cons (pv 0) (pa_cons pe_int pa_nil))) (fun _ _ => rfl)) pa_nil))) pa_nil)) (pg_name (i := 3) scSeams.nd rfl (.inl rfl))
        (pss_cons (ps_set (i := 4) scSeams.nd rfl (.inl rfl) (pe_call GL hr (by rfl) gL FL.kp bL .nil pass0 (pa_cons (pv 0) (pa_cons (pv 1) (pa_cons (pe_op op_add pe_int (pe_call GT (hr.mono (by decide)) (by rfl) gT FT.kp bT .nil pass0 (pa_cons (pv 0) (pa_cons pe_int pa_nil)))) pa_nil)))))
        (pss_cons (ps_set (i := 5) scSeams.nd rfl (.inl rfl) (pe_call GL hr (by rfl) gL FL.kp bL .nil pass0 (pa_cons (pv 0) (pa_cons (pv 1) (pa_cons (pe_call GT (hr.mono (by decide)) (by rfl) gT FT.kp bT .nil pass0 (pa_cons (pv 0) (pa_cons pe_int pa_nil))) pa_nil)))))
        (C8.pss_cut (ps_if (PW.pt (pw_and (pt_cmpR (op_neD hr.units) (pv 2) (pe_lst pa_nil) (nomark _)) (pw_and1 (pt_cmpR op_eq (pe_call GT (hr.mono (by decide)) (by rfl) gT FT.kp bT .nil pass0 (pa_cons (pv 0) (pa_cons pe_int pa_nil))) pe_int (nomark _)))))
          (pss_cons (ps_set (i := 4) scSeams.nd rfl (.inl rfl) (pe_slice sl_str (pe_op op_add_str (pe_call GL hr (by rfl) gL FL.kp bL .nil pass0 (pa_cons (pv 0) (pa_cons (pv 1) (pa_cons pe_int pa_nil)))) (pe_ix ix_tup (pe_ix ix_list (pv 2) (pe_un un_neg pe_int) (fun _ _ => rfl)) pe_int (fun _ _ => rfl)))
              (po_some (pe_op op_sub (pe_un un_neg pe_int) (pe_call GT (hr.mono (by decide)) (by rfl) gT FT.kp bT .nil pass0 (pa_cons (pv 0) (pa_cons pe_int pa_nil))))) po_none))
          (pss_one (ps_set (i := 5) scSeams.nd rfl (.inl rfl) (pe_slice sl_str (pe_ix ix_tup (pe_ix ix_list (pv 2) (pe_un un_neg pe_int) (fun _ _ => rfl)) pe_int (fun _ _ => rfl)) po_none (po_some (pe_call GT (hr.mono (by decide)) (by rfl) gT FT.kp bT .nil pass0 (pa_cons (pv 0) (pa_cons pe_int pa_nil)))))))) pss_nil)
        (pss_one (ps_expr (pe_bm PySem.F.plainAttrs_list PySem.F.slot_list_append PySem.F.type_list_append mt_append (pv 2) (pa_cons (pe_tup (pa_cons (pv 4) (pa_cons (pv 5) (pa_cons (pe_call GL hr (by rfl) gL FL.kp bL .nil pass0 (pa_cons (pv 0) (pa_cons (pe_op op_add_str (pv 1) pe_str) (pa_cons (pe_call GT (hr.mono (by decide)) (by rfl) gT FT.kp bT .nil pass0 (pa_cons (pv 0) (pa_cons pe_int pa_nil))) pa_nil)))) pa_nil)))) pa_nil))))))))
      (pss_one (ps_ret (pv 2)))), ?_⟩
    refine ⟨Nat.zero_le _, fun d nd => ?_⟩
    have ndb : d ≠ b := (hb.ne nd).symm
    have k0 : Kb b H (upd H d (.lst [])) := Kb.new hb nd
    refine ⟨_, rfl, (show 3 ≤ sizeLine by decide), fun p np => ?_⟩
    have k1 := k0.trans (Kb.new (o := .lst [.int 4, .int 4, .int 13]) k0.x np)
    have npd : d ≠ p := fun e => by
      rw [← e, upd_same] at np
      cases np
    have npb : p ≠ b := (k0.x.ne np).symm
    refine ⟨_, rfl, b, 3, rfl, k1.x, by decide, by decide, fun n H1 n0 n1 kk1 => ?_⟩
    obtain ⟨m, em, hm⟩ := pick3 4 4 13 n n0 n1
    refine ⟨p, _, n, .int m, rfl, rfl, .inl (.inl (kk1.k p _ npb upd_same)), em, b, m, rfl, kk1.x, by omega, by omega, fun j H2 j0 j1 kk2 => ?_⟩
    have k2 : Kb b H H2 := (k1.trans kk1).trans kk2
    have hd2 : H2 d = some (.lst []) := kk2.k _ _ ndb (kk1.k _ _ ndb (by rw [upd_ne npd, upd_same]))
    refine ⟨j, rfl, by omega, by omega, for_range (lo := 0) (n := j.toNat) (fun i σ H' => ∃ y3 y4 y5, σ = [some (.ref b), some (.str z), some (.ref d), y3, y4, y5] ∧ Kb b H H' ∧ ∃ ys ts, H' d = some (.lst ys) ∧ Sms H' ys ts ∧ ys.length = i) ⟨none, none, none, rfl, k2, [], [], hd2, .nil, rfl⟩ (fun i σ H3 hi hP => ?_) (fun σ H3 hP => ?_)⟩
    · obtain ⟨y3, y4, y5, rfl, k3, ys, ts, hd3, hy3, hyl⟩ := hP
      -- left = letters(..)
      refine ⟨_, rfl, _, rfl, _, rfl, b, 3, rfl, k3.x, by decide, by decide, fun n1 H4 n10 n11 k4 => ⟨_, _, rfl, rfl, b, z, _, rfl, k4.x, z1, by omega, hz, by omega, by omega, fun l H5 hl ol k5 => ?_⟩⟩
      -- right = letters(..)
      refine ⟨_, rfl, _, rfl, _, rfl, b, 4, rfl, k5.x, by decide, by decide, fun n2 H6 n20 n21 k6 => ⟨b, z, _, rfl, k6.x, z1, by omega, hz, by omega, by omega, fun r H7 hr7 or7 k7 => ?_⟩⟩
      have K7 : Kb b H3 H7 := ((k4.trans k5).trans k6).trans k7
      have hd7 : H7 d = some (.lst ys) := K7.k _ _ ndb hd3
      have hy7 : Sms H7 ys ts := hy3.kp k3.x K7.k
      refine ⟨fun σ' H' => ∃ l' r', σ' = [some (.ref b), some (.str z), some (.ref d), some (.int (0 + i)), some (.str l'), some (.str r')] ∧ Kb b H3 H' ∧ 1 ≤ l'.length ∧ l'.length ≤ 8 ∧ r'.length ≤ 8 ∧ okS l' ∧ okS r', ?_, fun σ' H8 hM => ?_⟩
      · -- if found != [] and take(box, 4) == 0
        refine ⟨_, rfl, Nat.zero_le _, fun p1 np1 => ?_⟩
        have sm : Same H7 (upd H7 p1 (.lst [])) := same_upd np1
        have K8 : Kb b H3 (upd H7 p1 (.lst [])) := K7.trans (Kb.new K7.x np1)
        refine ⟨_, _, .lst (.inl (.inl (sm _ _ hd7))) (hy7.same sm).dp, .lst (.inl (.inl upd_same)) .nil, hy7.shaped, rfl, _, rfl, ?_⟩
        rw [eqv_nil]
        cases ts with
        | nil =>
          refine iteF (iteF ⟨l, r, rfl, K8, by omega, by omega, by omega, ol, or7⟩)
        | cons t0 ts0 =>
          refine iteT ⟨_, rfl, b, 4, rfl, K8.x, by decide, by decide, fun n3 H9 n30 n31 k9 => ⟨rfl, _, rfl, ?_⟩⟩
          have K9 : Kb b H3 H9 := K8.trans k9
          refine ite2 (fun e => ?_) (fun e => ⟨l, r, rfl, K9, by omega, by omega, by omega, ol, or7⟩)
          have hd9 : H9 d = some (.lst ys) := K9.k _ _ ndb hd3
          have hy9 : Sms H9 ys (t0 :: ts0) := hy3.kp k3.x K9.k
          have hyn : ys.length = ts0.length + 1 := hy9.length
          have gl : ys[ys.length - 1]? = some ys[ys.length - 1] := List.getElem?_eq_getElem (by omega)
          obtain ⟨⟨sl, sr, sm'⟩, ⟨pv', ev, hpv⟩, ⟨⟨c1, c2, c3, c4⟩, o1, o2, o3⟩, _⟩ := hy9.get gl
          rw [ev] at gl
          have ga : atI ys (-1) = some (.ref pv') := (atI_neg1 (by omega)).trans gl
          have npvb : pv' ≠ b := fun e => by
            obtain ⟨u1, u2, u3, e3⟩ := K9.x
            rw [e, e3] at hpv
            cases hpv
          dsimp only at c1 c2 c3 c4 o1 o2 o3 hpv
          refine ⟨_, rfl, _, rfl, b, z, 1, rfl, K9.x, z1, by omega, hz, by decide, by decide, fun t HA ht ot ka => ?_⟩
          have KA := K9.trans ka
          refine ⟨_, rfl, 1, rfl, d, ys, -1, _, rfl, rfl, .inl (.inl (KA.k _ _ ndb hd3)), ga, pv', _, 0, .str sl, rfl, rfl, .inl (.inl (ka.k _ _ npvb hpv)), rfl, _, _, rfl, rfl, line100 (by omega), 1, rfl, _, rfl, b, 3, rfl, KA.x, by decide, by decide, fun n4 HB n40 n41 kb' => ?_⟩
          have KB := KA.trans kb'
          have e4 : (-1 - n4 : Int) = -(((n4.toNat + 1 : Nat)) : Int) := by omega
          have hts : (t ++ sl).length = t.length + sl.length := len_app t sl
          have ct := cut_tail_len (t ++ sl) (n4.toNat + 1) (by omega) (by omega)
          rw [← e4] at ct
          refine ⟨_, _, rfl, rfl, _, rfl, t ++ sl, rfl, line100 (by omega), ?_⟩
          refine ⟨_, rfl, 1, rfl, d, ys, -1, _, rfl, rfl, .inl (.inl (KB.k _ _ ndb hd3)), ga, pv', _, 1, .str sr, rfl, rfl, .inl (.inl (kb'.k _ _ npvb (ka.k _ _ npvb hpv))), rfl, _, rfl, b, 4, rfl, KB.x, by decide, by decide, fun n5 HC n50 n51 kc => ?_⟩
          have cr := cutS_length sr none (some n5)
          exact ⟨_, rfl, sr, rfl, line100 (by omega), _, _, rfl, KB.trans kc, ct.1, by omega, by omega, okS_cut (okS_app ot o1) _ _, okS_cut o2 _ _⟩
      · -- found.append(..)
        obtain ⟨l', r', rfl, K8, hl1, hl8, hr8, ol', or'⟩ := hM
        have hd8 : H8 d = some (.lst ys) := K8.k _ _ ndb hd3
        have hy8 : Sms H8 ys ts := hy3.kp k3.x K8.k
        have hzq : (z ++ Str.ofString "q").length = z.length + 1 := len_app z _
        refine ⟨_, rfl, .inl ⟨rfl, _, .inl (.inl hd8)⟩, _, rfl, _, rfl, _, rfl, _, rfl, _, _, rfl, rfl, line100 (by have : (Str.ofString "q").length = 1 := rfl; omega), _, rfl, b, 4, rfl, K8.x, by decide, by decide, fun n6 H9 n60 n61 k9 => ?_⟩
        refine ⟨b, _, _, rfl, k9.x, by omega, by omega, okS_app hz okS_q, by omega, by omega, fun mm HA hm' om ka => ?_⟩
        have K9 := (K8.trans k9).trans ka
        refine ⟨(show 3 ≤ sizeLine by decide), fun pt npt => ?_⟩
        have smt : Same HA (upd HA pt (.tup [.str l', .str r', .str mm])) := same_upd npt
        have hdA : HA d = some (.lst ys) := K9.k _ _ ndb hd3
        have hyA : Sms HA ys ts := hy3.kp k3.x K9.k
        have ndpt : d ≠ pt := ne_of_none hdA npt
        refine ⟨d, ys, _, rfl, rfl, smt _ _ hdA, small1000 (by omega), _, _, _, rfl, ((k3.trans K9).trans (Kb.new K9.x npt)).own nd ndb, ys ++ [.ref pt], ts ++ [(l', r', mm)], upd_same, ?_, by rw [List.length_append, hyl]; rfl⟩
        refine Sms.put (hd := smt _ _ hdA) ((hyA.same smt).app (.cons ⟨pt, rfl, upd_same⟩ ⟨⟨hl1, hl8, hr8, ?_⟩, ol', or', om⟩ .nil))
        show mm.length ≤ 8
        omega
    · obtain ⟨y3, y4, y5, rfl, k3, ys, ts, hd3, hy3, hyl⟩ := hP
      exact ⟨_, rfl, q d ys ts _ nd k3 hd3 hy3 (by omega)⟩
end
end K8

namespace K8
open PySem PySem.Spec PyProof.Rows L2
section
variable {P : Program} {w : World} {K : PySem.W.Frag} {mg : Str → Option Value} {base : Heap}
def spTexts : Sp := fun vs H Q _ => ∃ (b a : Addr) (xs : List V) (ss : List Sm) (z : Str), vs = [.ref b, .ref a, .str z] ∧ Bx H b ∧ a ≠ b ∧ H a = some (.lst xs) ∧ Sms H xs ss ∧ xs.length ≤ 100 ∧ 1 ≤ z.length ∧ z.length ≤ 90 ∧ okS z ∧
  ∀ (p : Addr) (st en : Str) H', H p = none → Kb b H H' → H' p = some (.tup [.str st, .str en]) → st.length ≤ 100 → en.length ≤ 100 → Q (.ref p) H'
theorem ok_texts {f fT fL : Addr} {fd fdT fdL : FuncData} (F : Fun K "_law_texts" "_law_texts" sTexts f fd)
    (FT : Fun K "_law_take" "_law_take" sTake fT fdT) (bT : Binds K fdT ["_law_box_here", "_law_many"] []) (gT : mg "_law_take" = some (.ref fT)) (GT : FnOk P w K mg base CX0 2 fT fdT ["_law_box_here", "_law_many"] spTake)
    (FL : Fun K "_law_letters" "_law_letters" sLetters fL fdL) (bL : Binds K fdL ["_law_box_here", "_law_signs", "_law_many"] []) (gL : mg "_law_letters" = some (.ref fL)) (GL : FnOk P w K mg base CX0 3 fL fdL ["_law_box_here", "_law_signs", "_law_many"] spLetters)
    (ml : mg "len" = none) : FnOk P w K mg base CX0 4 f fd ["_law_box_here", "_law_seams_here", "_law_signs"] spTexts := by
  refine F.ok scTexts (fun vs H Q E h => ?_) (fun cdv A outer s H vs Q E hr h => ?_)
  · obtain ⟨b, a, xs, ss, z, rfl, _⟩ := h
    rfl
  · obtain ⟨b, a, xs, ss, z, rfl, hb, nab, ha, hM, hxl, z1, z2, hz, q⟩ := h
    refine ⟨_, pss_cons (ps_set (i := 3) scTexts.nd rfl (.inl rfl) (pe_call GL hr (by rfl) gL FL.kp bL .nil pass0 (pa_cons (pv 0) (pa_cons (pv 2) (pa_cons (pe_op op_add pe_int
          (pe_call GT (hr.mono (by decide)) (by rfl) gT FT.kp bT .nil pass0 (pa_cons (pv 0) (pa_cons (pe_ix ix_list (pe_lst (pa_cons pe_int (pa_cons pe_int (pa_cons pe_int pa_nil)))) (pe_call GT (hr.mono (by decide)) (by rfl) gT FT.kp bT .nil pass0 (pa_cons (pv 0) (pa_cons pe_int pa_nil))) (fun _ _ => rfl)) pa_nil)))) pa_nil)))))
      (pss_cons (ps_set (i := 4) scTexts.nd rfl (.inl rfl) (pe_call GL hr (by rfl) gL FL.kp bL .nil pass0 (pa_cons (pv 0) (pa_cons (pv 2) (pa_cons
          (pe_call GT (hr.mono (by decide)) (by rfl) gT FT.kp bT .nil pass0 (pa_cons (pv 0) (pa_cons (pe_ix ix_list (pe_lst (pa_cons pe_int (pa_cons pe_int (pa_cons pe_int pa_nil)))) (pe_call GT (hr.mono (by decide)) (by rfl) gT FT.kp bT .nil pass0 (pa_cons (pv 0) (pa_cons pe_int pa_nil))) (fun _ _ => rfl)) pa_nil))) pa_nil)))))
      (C8.pss_cut (ps_if (PW.pt (pw_and (pt_cmpR (op_neD hr.units) (pv 1) (pe_lst pa_nil) (nomark _)) (pw_and1 (pt_cmpR op_eq (pe_call GT (hr.mono (by decide)) (by rfl) gT FT.kp bT .nil pass0 (pa_cons (pv 0) (pa_cons pe_int pa_nil))) pe_int (nomark _)))))
        (pss_cons (ps_asg (pe_ix ix_list (pv 1) (pe_call GT (hr.mono (by decide)) (by rfl) gT FT.kp bT .nil pass0 (pa_cons (pv 0) (pa_cons (pe_callB call_len_seq (by rfl) ml PySem.boot_len (pa_cons (pv 1) pa_nil)) pa_nil))) (fun _ _ => rfl))
            (pg_tup rfl (pgs_cons (pg_name (i := 5) scTexts.nd rfl (.inl rfl)) (pgs_cons (pg_name (i := 6) scTexts.nd rfl (.inl rfl)) (pgs_cons (pg_name (i := 7) scTexts.nd rfl (.inl rfl)) pgs_nil)))))
        (pss_cons (ps_set (i := 3) scTexts.nd rfl (.inl rfl) (pe_slice sl_str (pe_op op_add_str (pe_op op_mul_str (pv 3) (pe_call GT (hr.mono (by decide)) (by rfl) gT FT.kp bT .nil pass0 (pa_cons (pv 0) (pa_cons pe_int pa_nil)))) (pv 5)) (po_some (pe_un un_neg pe_int)) po_none))
        (pss_one (ps_set (i := 4) scTexts.nd rfl (.inl rfl) (pe_slice sl_str (pe_op op_add_str (pv 6) (pe_op op_mul_str (pv 4) (pe_call GT (hr.mono (by decide)) (by rfl) gT FT.kp bT .nil pass0 (pa_cons (pv 0) (pa_cons pe_int pa_nil))))) po_none (po_some pe_int)))))) pss_nil)
      (pss_one (ps_ret (pe_tup (pa_cons (pv 3) (pa_cons (pv 4) pa_nil))))))), ?_⟩
    -- stem = letters(..)
    refine ⟨_, rfl, _, rfl, _, rfl, (show 3 ≤ sizeLine by decide), fun p1 np1 => ?_⟩
    have k1 : Kb b H (upd H p1 (.lst [.int 2, .int 4, .int 8])) := Kb.new hb np1
    refine ⟨_, rfl, b, 3, rfl, k1.x, by decide, by decide, fun n H2 n0 n1 kk2 => ?_⟩
    obtain ⟨m, em, hm⟩ := pick3 2 4 8 n n0 n1
    refine ⟨p1, _, n, .int m, rfl, rfl, .inl (.inl (kk2.k _ _ (hb.ne np1).symm upd_same)), em, b, m, rfl, kk2.x, by omega, by omega, fun j H3 j0 j1 kk3 => ?_⟩
    refine ⟨_, _, rfl, rfl, b, z, _, rfl, kk3.x, z1, by omega, hz, by omega, by omega, fun st H4 hst ost kk4 => ?_⟩
    have k4 : Kb b H H4 := ((k1.trans kk2).trans kk3).trans kk4
    -- ending = letters(..)
    refine ⟨_, rfl, _, rfl, _, rfl, (show 3 ≤ sizeLine by decide), fun p5 np5 => ?_⟩
    have k5 : Kb b H (upd H4 p5 (.lst [.int 2, .int 4, .int 9])) := k4.trans (Kb.new k4.x np5)
    refine ⟨_, rfl, b, 3, rfl, k5.x, by decide, by decide, fun n' H6 n0' n1' kk6 => ?_⟩
    obtain ⟨m', em', hm'⟩ := pick3 2 4 9 n' n0' n1'
    refine ⟨p5, _, n', .int m', rfl, rfl, .inl (.inl (kk6.k _ _ (k4.x.ne np5).symm upd_same)), em', b, m', rfl, kk6.x, by omega, by omega, fun j' H7 j0' j1' kk7 => ?_⟩
    refine ⟨b, z, _, rfl, kk7.x, z1, by omega, hz, by omega, by omega, fun en H8 hen oen kk8 => ?_⟩
    have k8 : Kb b H H8 := ((k5.trans kk6).trans kk7).trans kk8
    refine ⟨fun σ' H' => ∃ st' en' y5 y6 y7, σ' = [some (.ref b), some (.ref a), some (.str z), some (.str st'), some (.str en'), y5, y6, y7] ∧ Kb b H H' ∧ st'.length ≤ 100 ∧ en'.length ≤ 100, ?_, fun σ' H9 hP => ?_⟩
    · have ha8 := k8.k _ _ nab ha
      have hM8 := hM.kp hb k8.k
      refine ⟨_, rfl, Nat.zero_le _, fun p9 np9 => ?_⟩
      have sm : Same H8 (upd H8 p9 (.lst [])) := same_upd np9
      have k9 : Kb b H (upd H8 p9 (.lst [])) := k8.trans (Kb.new k8.x np9)
      refine ⟨_, _, .lst (.inl (.inl (sm _ _ ha8))) (hM8.same sm).dp, .lst (.inl (.inl upd_same)) .nil, hM8.shaped, rfl, _, rfl, ?_⟩
      rw [eqv_nil]
      cases ss with
      | nil => exact iteF (iteF ⟨st, en, _, _, _, rfl, k9, by omega, by omega⟩)
      | cons t0 ts0 =>
        refine iteT ⟨_, rfl, b, 2, rfl, k9.x, by decide, by decide, fun n3 HA n30 n31 kA => ⟨rfl, _, rfl, ?_⟩⟩
        have KA := k9.trans kA
        refine ite2 (fun e => ?_) (fun e => ⟨st, en, _, _, _, rfl, KA, by omega, by omega⟩)
        have haA := KA.k _ _ nab ha
        have hxn : xs.length = ts0.length + 1 := hM.length
        refine ⟨_, rfl, _, rfl, _, rfl, a, xs, rfl, .inl (.inl (.inl haA)), b, _, rfl, KA.x, by omega, by omega, fun n4 HB n40 n41 kB => ?_⟩
        have KB := KA.trans kB
        have hMB := hM.kp hb KB.k
        have gl : xs[n4.toNat]? = some xs[n4.toNat] := List.getElem?_eq_getElem (by omega)
        obtain ⟨⟨sl, sr, sm'⟩, ⟨pv', ev, hpv⟩, ⟨⟨c1, c2, c3, c4⟩, o1, o2, o3⟩, _⟩ := hMB.get gl
        rw [ev] at gl
        dsimp only at c1 c2 c3 c4 hpv
        refine ⟨a, xs, n4, _, rfl, rfl, .inl (.inl (KB.k _ _ nab ha)), at_of (j := n4.toNat) (by omega) gl, pv', _, rfl, .inl (.inl hpv), rfl, _, _, rfl, _, _, rfl, _, _, rfl, rfl, ?_⟩
        -- stem = ..
        refine ⟨_, rfl, _, rfl, b, 2, rfl, KB.x, by decide, by decide, fun n5 HC n50 n51 kC => ?_⟩
        have r1 := repS_len st n5 n50 (by omega)
        have a1 : (repS st n5 ++ sl).length = (repS st n5).length + sl.length := len_app _ _
        have cl := cutS_length (repS st n5 ++ sl) (some (-8)) none
        refine ⟨st, n5, rfl, rfl, n50, by omega, by omega, _, rfl, _, _, rfl, rfl, line100 (by omega), 8, rfl, _, rfl, _, rfl, line100 (by omega), ?_⟩
        -- ending = ..
        refine ⟨_, rfl, _, rfl, _, rfl, b, 2, rfl, kC.x, by decide, by decide, fun n6 HD n60 n61 kD => ?_⟩
        have r2 := repS_len en n6 n60 (by omega)
        have a2 : (sr ++ repS en n6).length = sr.length + (repS en n6).length := len_app _ _
        have cl2 := cutS_length (sr ++ repS en n6) none (some 8)
        refine ⟨en, n6, rfl, rfl, n60, by omega, by omega, _, _, rfl, rfl, line100 (by omega), _, rfl, _, rfl, line100 (by omega), ?_⟩
        exact ⟨_, _, _, _, _, rfl, (KB.trans kC).trans kD, by omega, by omega⟩
    · obtain ⟨st', en', y5, y6, y7, rfl, k9, l1, l2⟩ := hP
      refine ⟨_, rfl, _, rfl, (show 2 ≤ sizeLine by decide), fun p np => ?_⟩
      exact q p st' en' _ (k9.free np) (k9.trans (Kb.new k9.x np)) upd_same l1 l2
end
end K8

namespace K8
open PySem PySem.Spec PyProof.Rows L2
def alpha : Str := Str.ofString "abcdefghijklmnopqrstuvwxyz"
theorem alpha_len : alpha.length = 26 := by decide +kernel
theorem alpha2_len : (repS alpha 2).length = 52 := by decide +kernel
theorem alpha2_ok : okS (repS alpha 2) := (okS_iff _).mp (by decide +kernel)
theorem eqv_dSm (s : Sm) : PyData.eqv (dSm s) (dSm s) = true := by
  show (s.1 == s.1 && (s.2.1 == s.2.1 && (s.2.2 == s.2.2 && true))) = true
  simp
theorem eqv_all : ∀ ss : List Sm, PyData.eqvAll (ss.map dSm) (ss.map dSm) = true
  | [] => rfl
  | s :: ss => by
    show (PyData.eqv (dSm s) (dSm s) && PyData.eqvAll (ss.map dSm) (ss.map dSm)) = true
    rw [eqv_dSm, eqv_all ss]
    rfl
theorem eqv_self (ss : List Sm) : (!PyData.eqv (.list (ss.map dSm)) (.list (ss.map dSm))) = false := by
  rw [show PyData.eqv (.list (ss.map dSm)) (.list (ss.map dSm)) = PyData.eqvAll (ss.map dSm) (ss.map dSm) from rfl, eqv_all]
  rfl
theorem signs_len (t : Int) (h0 : 0 ≤ t) (h1 : t < 26) : (cutS (repS alpha 2) (some t) (some (t + 3))).length = 3 := by
  obtain ⟨k, rfl⟩ : ∃ k : Nat, t = (k : Int) := ⟨t.toNat, by omega⟩
  have hl := alpha2_len
  have hE := TL.len_tl (repS alpha 2)
  rw [TL.len_tl, tl_cut, show (k : Int) + 3 = ((k + 3 : Nat) : Int) by omega, HT.sIx_nat, HT.sIx_nat, List.length_take, List.length_drop, ← hE, hl]
  omega
section
variable {P : Program} {w : World} {K : PySem.W.Frag} {mg : Str → Option Value} {base : Heap}
def spLaw (K : PySem.W.Frag) : Sp := fun vs H Q _ => ∃ (a : Addr) (ns : List Int), vs = [.ref a] ∧ SqL K H a (ns.map V.int) ∧ ns.length ≤ 63 ∧ ∀ H', Q (.bl true) H'
theorem ok_law {f f1 f2 f3 f4 f5 f6 f7 : Addr} {fd d1 d2 d3 d4 d5 d6 d7 : FuncData} (F : Fun K "law" "law" sLaw f fd)
    (k1 : PySem.W.keepIn K (.ref f1) = true) (b1 : Binds K d1 ["_law_script", "_law_k"] []) (g1 : mg "_law_box" = some (.ref f1)) (G1 : FnOk P w K mg base CX0 2 f1 d1 ["_law_script", "_law_k"] (spBox K))
    (k2 : PySem.W.keepIn K (.ref f2) = true) (b2 : Binds K d2 ["_law_box_here", "_law_many"] []) (g2 : mg "_law_take" = some (.ref f2)) (G2 : FnOk P w K mg base CX0 2 f2 d2 ["_law_box_here", "_law_many"] spTake)
    (k3 : PySem.W.keepIn K (.ref f3) = true) (b3 : Binds K d3 ["_law_box_here", "_law_signs"] []) (g3 : mg "_law_seams" = some (.ref f3)) (G3 : FnOk P w K mg base CX0 4 f3 d3 ["_law_box_here", "_law_signs"] spSeams)
    (k4 : PySem.W.keepIn K (.ref f4) = true) (b4 : Binds K d4 ["_law_box_here", "_law_seams_here", "_law_signs"] []) (g4 : mg "_law_texts" = some (.ref f4)) (G4 : FnOk P w K mg base CX0 4 f4 d4 ["_law_box_here", "_law_seams_here", "_law_signs"] spTexts)
    (k5 : PySem.W.keepIn K (.ref f5) = true) (b5 : Binds K d5 ["_law_box_here", "_law_row"] []) (g5 : mg "_law_turned" = some (.ref f5)) (G5 : FnOk P w K mg base CX0 3 f5 d5 ["_law_box_here", "_law_row"] (spTurned K))
    (k6 : PySem.W.keepIn K (.ref f6) = true) (b6 : Binds K d6 ["seams", "stem", "ending"] []) (g6 : mg "sewn" = some (.ref f6)) (G6 : FnOk P w K mg base CX0 1 f6 d6 ["seams", "stem", "ending"] (spSewn K))
    (k7 : PySem.W.keepIn K (.ref f7) = true) (b7 : Binds K d7 ["_law_seams_here", "_law_stem", "_law_ending"] []) (g7 : mg "_law_sewn" = some (.ref f7)) (G7 : FnOk P w K mg base CX0 1 f7 d7 ["_law_seams_here", "_law_stem", "_law_ending"] (spSewn K))
    (ml : mg "len" = none) (mr : mg "range" = none) (mm : mg "min" = none) (mli : mg "list" = none) (mis : mg "isinstance" = none) (ms : mg "str" = none) : FnOk P w K mg base CX0 5 f fd ["_law_script"] (spLaw K) := by
  refine F.ok scLaw (fun vs H Q E h => ?_) (fun cdv A outer s H vs Q E hr h => ?_)
  · obtain ⟨a, ns, rfl, _⟩ := h
    rfl
  · obtain ⟨a, ns, rfl, hS, hlen, q⟩ := h
    refine ⟨_, pss_cons (ps_for PassesOwn.never rfl (pi_range1 (by rfl) mr (pa_cons (pe_op op_add pe_int (pe_callB (call_min2 rfl) (by rfl) mm (by decide +kernel) (pa_cons pe_int (pa_cons (pe_callB call_len_seq (by rfl) ml PySem.boot_len (pa_cons (pv 0) pa_nil)) pa_nil)))) pa_nil)) (pg_name (i := 1) scLaw.nd rfl (.inl rfl))
        (pss_cons (ps_set (i := 2) scLaw.nd rfl (.inl rfl) (pe_call G1 (hr.mono (by decide)) (by rfl) g1 k1 b1 .nil pass0 (pa_cons (pv 0) (pa_cons (pv 1) pa_nil))))
        (pss_cons (ps_set (i := 3) scLaw.nd rfl (.inl rfl) (pe_call G2 (hr.mono (by decide)) (by rfl) g2 k2 b2 .nil pass0 (pa_cons (pv 2) (pa_cons pe_int pa_nil))))
        (pss_cons (ps_set (i := 4) scLaw.nd rfl (.inl rfl) (pe_slice sl_str (pe_op op_mul_str pe_str pe_int) (po_some (pv 3)) (po_some (pe_op op_add (pv 3) pe_int))))
        (pss_cons (ps_set (i := 5) scLaw.nd rfl (.inl rfl) (pe_call G3 hr (by rfl) g3 k3 b3 .nil pass0 (pa_cons (pv 2) (pa_cons (pv 4) pa_nil))))
        (pss_cons (ps_set (i := 6) scLaw.nd rfl (.inl rfl) (pe_callTy call_list_of (by rfl) mli (by decide +kernel) (pa_cons (pv 5) pa_nil)))
        (pss_cons (ps_for PassesOwn.never rfl (pi_range1 (by rfl) mr (pa_cons pe_int pa_nil)) (pg_name (i := 3) scLaw.nd rfl (.inl rfl))
          (pss_cons (ps_asg (pe_call G4 hr (by rfl) g4 k4 b4 .nil pass0 (pa_cons (pv 2) (pa_cons (pv 5) (pa_cons (pv 4) pa_nil)))) (pg_tup rfl (pgs_cons (pg_name (i := 7) scLaw.nd rfl (.inl rfl)) (pgs_cons (pg_name (i := 8) scLaw.nd rfl (.inl rfl)) pgs_nil))))
          (pss_one (ps_for PassesOwn.never rfl (pi_tup (pe_tup (pa_cons (pv 6) (pa_cons (pe_call G5 (hr.mono (by decide)) (by rfl) g5 k5 b5 .nil pass0 (pa_cons (pv 2) (pa_cons (pv 5) pa_nil))) (pa_cons (pe_slice sl_list (pv 5) po_none (po_some pe_int)) (pa_cons (pe_lst pa_nil) pa_nil)))))) (pg_name (i := 9) scLaw.nd rfl (.inl rfl))
            (pss_cons (ps_set (i := 10) scLaw.nd rfl (.inl rfl) (pe_call G6 (hr.mono (by decide)) (by rfl) g6 k6 b6 .nil pass0 (pa_cons (pv 9) (pa_cons (pv 7) (pa_cons (pv 8) pa_nil)))))
            (pss_one (ps_if (PW.pt (pw_or (pt_not (pt_val (pe_callB call_isi (by rfl) mis (by decide +kernel) (pa_cons (pv 10) (pa_cons (pe_bltn (v := .ty "str") (by rfl) ms PyProof.Rows.boot_str rfl) pa_nil)))))
                (pw_or1 (pt_cmpR op_ne (pv 10) (pe_call G7 (hr.mono (by decide)) (by rfl) g7 k7 b7 .nil pass0 (pa_cons (pv 9) (pa_cons (pv 7) (pa_cons (pv 8) pa_nil)))) (nomark _)))))
              (pss_one (ps_ret pe_bl)) pss_nil)))))))
        (pss_one (ps_if (pt_cmpR (op_neD hr.units) (pv 6) (pv 5) (nomark _)) (pss_one (ps_ret pe_bl)) pss_nil)))))))))
      (pss_one (ps_ret pe_bl)), ?_⟩
    refine ⟨_, rfl, a, _, rfl, .inl hS, _, _, rfl, _, _, rfl, rfl, _, rfl, ?_, ?_, for_range (lo := 0) (n := _) (fun i σ H' => (∃ y1 y2 y3 y4 y5 y6 y7 y8 y9 y10, σ = [some (.ref a), y1, y2, y3, y4, y5, y6, y7, y8, y9, y10]) ∧ Same H H') ⟨⟨none, none, none, none, none, none, none, none, none, none, rfl⟩, Same.refl H⟩ (fun i σ H1 hi hP => ?_) (fun σ H1 hP => q _)⟩
    · split <;> omega
    · split <;> omega
    · obtain ⟨⟨y1, y2, y3, y4, y5, y6, y7, y8, y9, y10, rfl⟩, s1⟩ := hP
      -- box = _law_box(script, k)
      refine ⟨_, rfl, _, rfl, a, ns, _, rfl, s1.seq hS, by omega, fun b H2 nb s2 hb => ?_⟩
      have nbH : H b = none := s1.free nb
      have s02 : Same H H2 := s1.trans s2
      -- turn = take(box, 26)
      refine ⟨_, rfl, b, 26, rfl, hb, by decide, by decide, fun t H3 t0 t1 k3 => ?_⟩
      have zl := signs_len t t0 t1
      -- signs
      refine ⟨alpha, 2, rfl, rfl, by decide, by decide, by rw [alpha_len]; decide, _, rfl, _, rfl, _, rfl, _, _, rfl, rfl, _, rfl, repS alpha 2, rfl, by rw [alpha2_len]; exact line100 (by decide), ?_⟩
      -- seams
      refine ⟨_, rfl, _, rfl, b, _, rfl, k3.x, by omega, by omega, okS_cut alpha2_ok _ _, fun d ys ts H4 nd k4 hd hy hyl => ?_⟩
      have ndb : d ≠ b := (k3.x.ne nd).symm
      -- handed = list(seams)
      refine ⟨_, rfl, d, ys, rfl, .inl (.inl (.inl hd)), fun e ne => ?_⟩
      have neb : e ≠ b := (k4.x.ne ne).symm
      have K5 : Kb b H2 (upd H4 e (.lst ys)) := (k3.trans k4).trans (Kb.new k4.x ne)
      have hd5 : (upd H4 e (.lst ys)) d = some (.lst ys) := same_upd ne _ _ hd
      have he5 : (upd H4 e (.lst ys)) e = some (.lst ys) := upd_same
      have hy5 : Sms (upd H4 e (.lst ys)) ys ts := hy.same (same_upd ne)
      generalize hz : cutS (repS alpha 2) (some t) (some (t + 3)) = z at zl ⊢
      have zok : okS z := by
        rw [← hz]
        exact okS_cut alpha2_ok _ _
      generalize upd H4 e (.lst ys) = H5 at K5 hd5 he5 hy5 ⊢
      refine ⟨6, rfl, by decide, by decide, for_range (lo := 0) (n := 6) (fun i' σ H' => (∃ y3 y7 y8 y9 y10, σ = [some (.ref a), some (.int (0 + i)), some (.ref b), y3, some (.str z), some (.ref d), some (.ref e), y7, y8, y9, y10]) ∧ Kb b H5 H') ⟨⟨_, _, _, _, _, rfl⟩, Kb.refl K5.x⟩ (fun i' σ H6 hi' hP => ?_) (fun σ H6 hP => ?_)⟩
      · obtain ⟨⟨y3, y7, y8, y9, y10, rfl⟩, k6'⟩ := hP
        have hd6 := k6'.k _ _ ndb hd5
        have he6 := k6'.k _ _ neb he5
        have hy6 := hy5.kp K5.x k6'.k
        -- stem, ending = texts(box, seams, signs)
        refine ⟨_, rfl, _, rfl, _, rfl, b, d, ys, ts, z, rfl, k6'.x, ndb, hd6, hy6, by omega, by omega, by omega, zok, fun p st en H7 np k7' hp hst hen => ?_⟩
        refine ⟨p, _, rfl, .inl (.inl hp), rfl, _, _, rfl, _, _, rfl, rfl, ?_⟩
        have K7 : Kb b H5 H7 := k6'.trans k7'
        have hd7 := K7.k _ _ ndb hd5
        have he7 := K7.k _ _ neb he5
        have hy7 := hy5.kp K5.x K7.k
        -- (handed, turned(box, seams), seams[:1], [])
        refine ⟨_, rfl, _, rfl, _, rfl, b, d, ys, ts, rfl, K7.x, .inl (.inl hd7), hy7, by omega, fun p2 ys2 ts2 H8 np2 k8 h8 hy8 => ?_⟩
        have K8' : Kb b H5 H8 := K7.trans k8
        have hd8 := K8'.k _ _ ndb hd5
        refine ⟨_, rfl, 1, rfl, d, ys, rfl, .inl (.inl hd8), fun p3 np3 => ⟨Nat.zero_le _, fun p4 np4 => ⟨(show 4 ≤ sizeLine by decide), fun p5 np5 => ?_⟩⟩⟩
        have s83 : Same H8 (upd H8 p3 (.lst (cutV ys none (some 1)))) := same_upd np3
        have s34 := same_upd (o := .lst []) np4
        have s45 := same_upd (o := .tup [.ref e, .ref p2, .ref p3, .ref p4]) np5
        have s89 := (s83.trans s34).trans s45
        have h3 := s45 _ _ (s34 _ _ (upd_same (H := H8) (a := p3) (o := .lst (cutV ys none (some 1)))))
        have h4 := s45 _ _ (upd_same (H := upd H8 p3 (.lst (cutV ys none (some 1)))) (a := p4) (o := .lst []))
        have K9 := K8'.trans ⟨Kp.of_same s89, k8.x.same s89⟩
        have h5 := upd_same (H := upd (upd H8 p3 (.lst (cutV ys none (some 1)))) p4 (.lst [])) (a := p5) (o := .tup [.ref e, .ref p2, .ref p3, .ref p4])
        have hy8' := (hy5.kp K5.x K8'.k).same s89
        have he9 := s89 _ _ (K8'.k _ _ neb he5)
        have h29 := s89 _ _ h8
        have hy29 := hy8.same s89
        generalize upd (upd (upd H8 p3 (.lst (cutV ys none (some 1)))) p4 (.lst [])) p5 (.tup [.ref e, .ref p2, .ref p3, .ref p4]) = H9 at h3 h4 h5 K9 hy8' he9 h29 hy29 ⊢
        have items : ∀ (j : Nat) (x : V), [V.ref e, .ref p2, .ref p3, .ref p4][j]? = some x → ∃ l vs us, x = .ref l ∧ H9 l = some (.lst vs) ∧ Sms H9 vs us := by
          intro j x hx
          match j, hx with
          | 0, hx => exact ⟨e, ys, ts, (Option.some.inj hx).symm, he9, hy8'⟩
          | 1, hx => exact ⟨p2, ys2, ts2, (Option.some.inj hx).symm, h29, hy29⟩
          | 2, hx => exact ⟨p3, _, _, (Option.some.inj hx).symm, h3, hy8'.cut _⟩
          | 3, hx => exact ⟨p4, [], [], (Option.some.inj hx).symm, h4, .nil⟩
          | j + 4, hx => exact absurd hx (by simp)
        refine ⟨p5, rfl, ⟨_, .inl (.inl h5)⟩, for_tup (K := K) (a := p5) (xs := [.ref e, .ref p2, .ref p3, .ref p4]) (fun j σ H' => (∃ y9 y10, σ = [some (.ref a), some (.int (0 + i)), some (.ref b), some (.int (0 + i')), some (.str z), some (.ref d), some (.ref e), some (.str st), some (.str en), y9, y10]) ∧ H' = H9) ⟨⟨_, _, rfl⟩, rfl⟩ (fun j σ H' _ h => by rw [h.2]; exact .inl (.inl h5)) (fun j x σ H' hx hP => ?_) (fun σ H' hP => ?_)⟩
        · obtain ⟨⟨y9, y10, rfl⟩, rfl⟩ := hP
          obtain ⟨l, vs, us, rfl, hl, hu⟩ := items j x hx
          refine ⟨_, rfl, _, rfl, _, rfl, l, vs, us, st, en, rfl, .inl (.inl hl), hu, hst, hen, ?_⟩
          refine ⟨_, rfl, _, .ty "str", .type "str", .type "str", true, rfl, .ty "str", .base (.str _), kit_ty (by decide +kernel), true, rfl, ?_⟩
          refine iteF ⟨_, rfl, _, rfl, _, rfl, _, rfl, l, vs, us, st, en, rfl, .inl (.inl hl), hu, hst, hen, rfl, _, rfl, ?_⟩
          exact iteNS rfl ⟨⟨_, _, rfl⟩, rfl⟩
        · obtain ⟨⟨y9, y10, rfl⟩, rfl⟩ := hP
          exact ⟨⟨_, _, _, _, _, rfl⟩, K9⟩
      · obtain ⟨⟨y3, y7, y8, y9, y10, rfl⟩, k6'⟩ := hP
        have hd6 := k6'.k _ _ ndb hd5
        have he6 := k6'.k _ _ neb he5
        have hy6 := hy5.kp K5.x k6'.k
        refine ⟨_, rfl, _, rfl, _, _, .lst (.inl (.inl he6)) hy6.dp, .lst (.inl (.inl hd6)) hy6.dp, hy6.shaped, hy6.shaped, _, rfl, ?_⟩
        rw [eqv_self]
        exact iteF ⟨⟨_, _, _, _, _, _, _, _, _, _, rfl⟩, Same.kp s02 nbH (K5.trans k6').k⟩
end
end K8

namespace K8
open PySem PySem.Spec PyProof.Rows L2
theorem all_mk {l : PySem.W.OpenLaw} {w : World} {K : PySem.W.Frag} {h : Heap} {mg : Str → Option Value} {fa f1 f2 f3 f4 f5 f6 f7 f8 f9 f10 f11 : Addr} (X : K.In h) (G : h.Ns mainGlobals mg) (hfa : mg "law" = some (.ref fa))
    {od1 an1 od2 an2 od3 an3 od4 an4 od5 an5 od6 an6 od7 an7 od8 an8 od9 an9 od10 an10 od11 an11 : Option Addr} {sl1 sl2 sl3 sl4 sl5 sl6 sl7 sl8 sl9 sl10 sl11 : Array (Option Value)} {oc1 kV1 dc1 pm1 cd1 ct1 oc2 kV2 dc2 pm2 cd2 ct2 oc3 kV3 dc3 pm3 cd3 ct3 oc4 kV4 dc4 pm4 cd4 ct4 oc5 kV5 dc5 pm5 cd5 ct5 oc6 kV6 dc6 pm6 cd6 ct6 oc7 kV7 dc7 pm7 cd7 ct7 oc8 kV8 dc8 pm8 cd8 ct8 oc9 kV9 dc9 pm9 cd9 ct9 oc10 kV10 dc10 pm10 cd10 ct10 oc11 kV11 dc11 pm11 cd11 ct11 : Value}
    (a1 : PySem.W.nsIn K mainGlobals "sewn" = some (some (.ref f1))) (l1 : K.lookup f1 = some ⟨oc1, od1, .func (PySem.W.fnOf "sewn" "sewn" (defArgs sSewn) (defBody sSewn) (defScope sSewn) .none kV1 dc1 pm1 an1 cd1 ct1), sl1⟩) (c1 : PySem.W.codeIn K cd1 "sewn" = true) (k1 : PySem.W.keepIn K (.ref f1) = true)
    (a2 : PySem.W.nsIn K mainGlobals "_law_cell_at" = some (some (.ref f2))) (l2 : K.lookup f2 = some ⟨oc2, od2, .func (PySem.W.fnOf "_law_cell_at" "_law_cell_at" (defArgs sCell) (defBody sCell) (defScope sCell) .none kV2 dc2 pm2 an2 cd2 ct2), sl2⟩) (c2 : PySem.W.codeIn K cd2 "_law_cell_at" = true) (k2 : PySem.W.keepIn K (.ref f2) = true)
    (a3 : PySem.W.nsIn K mainGlobals "_law_mixed" = some (some (.ref f3))) (l3 : K.lookup f3 = some ⟨oc3, od3, .func (PySem.W.fnOf "_law_mixed" "_law_mixed" (defArgs sMixed) (defBody sMixed) (defScope sMixed) .none kV3 dc3 pm3 an3 cd3 ct3), sl3⟩) (c3 : PySem.W.codeIn K cd3 "_law_mixed" = true) (k3 : PySem.W.keepIn K (.ref f3) = true)
    (a4 : PySem.W.nsIn K mainGlobals "_law_box" = some (some (.ref f4))) (l4 : K.lookup f4 = some ⟨oc4, od4, .func (PySem.W.fnOf "_law_box" "_law_box" (defArgs sBox) (defBody sBox) (defScope sBox) .none kV4 dc4 pm4 an4 cd4 ct4), sl4⟩) (c4 : PySem.W.codeIn K cd4 "_law_box" = true) (k4 : PySem.W.keepIn K (.ref f4) = true)
    (a5 : PySem.W.nsIn K mainGlobals "_law_take" = some (some (.ref f5))) (l5 : K.lookup f5 = some ⟨oc5, od5, .func (PySem.W.fnOf "_law_take" "_law_take" (defArgs sTake) (defBody sTake) (defScope sTake) .none kV5 dc5 pm5 an5 cd5 ct5), sl5⟩) (c5 : PySem.W.codeIn K cd5 "_law_take" = true) (k5 : PySem.W.keepIn K (.ref f5) = true)
    (a6 : PySem.W.nsIn K mainGlobals "_law_letters" = some (some (.ref f6))) (l6 : K.lookup f6 = some ⟨oc6, od6, .func (PySem.W.fnOf "_law_letters" "_law_letters" (defArgs sLetters) (defBody sLetters) (defScope sLetters) .none kV6 dc6 pm6 an6 cd6 ct6), sl6⟩) (c6 : PySem.W.codeIn K cd6 "_law_letters" = true) (k6 : PySem.W.keepIn K (.ref f6) = true)
    (a7 : PySem.W.nsIn K mainGlobals "_law_turned" = some (some (.ref f7))) (l7 : K.lookup f7 = some ⟨oc7, od7, .func (PySem.W.fnOf "_law_turned" "_law_turned" (defArgs sTurned) (defBody sTurned) (defScope sTurned) .none kV7 dc7 pm7 an7 cd7 ct7), sl7⟩) (c7 : PySem.W.codeIn K cd7 "_law_turned" = true) (k7 : PySem.W.keepIn K (.ref f7) = true)
    (a8 : PySem.W.nsIn K mainGlobals "_law_sewn" = some (some (.ref f8))) (l8 : K.lookup f8 = some ⟨oc8, od8, .func (PySem.W.fnOf "_law_sewn" "_law_sewn" (defArgs sLSewn) (defBody sLSewn) (defScope sLSewn) .none kV8 dc8 pm8 an8 cd8 ct8), sl8⟩) (c8 : PySem.W.codeIn K cd8 "_law_sewn" = true) (k8 : PySem.W.keepIn K (.ref f8) = true)
    (a9 : PySem.W.nsIn K mainGlobals "_law_seams" = some (some (.ref f9))) (l9 : K.lookup f9 = some ⟨oc9, od9, .func (PySem.W.fnOf "_law_seams" "_law_seams" (defArgs sSeams) (defBody sSeams) (defScope sSeams) .none kV9 dc9 pm9 an9 cd9 ct9), sl9⟩) (c9 : PySem.W.codeIn K cd9 "_law_seams" = true) (k9 : PySem.W.keepIn K (.ref f9) = true)
    (a10 : PySem.W.nsIn K mainGlobals "_law_texts" = some (some (.ref f10))) (l10 : K.lookup f10 = some ⟨oc10, od10, .func (PySem.W.fnOf "_law_texts" "_law_texts" (defArgs sTexts) (defBody sTexts) (defScope sTexts) .none kV10 dc10 pm10 an10 cd10 ct10), sl10⟩) (c10 : PySem.W.codeIn K cd10 "_law_texts" = true) (k10 : PySem.W.keepIn K (.ref f10) = true)
    (a11 : PySem.W.nsIn K mainGlobals "law" = some (some (.ref f11))) (l11 : K.lookup f11 = some ⟨oc11, od11, .func (PySem.W.fnOf "law" "law" (defArgs sLaw) (defBody sLaw) (defScope sLaw) .none kV11 dc11 pm11 an11 cd11 ct11), sl11⟩) (c11 : PySem.W.codeIn K cd11 "law" = true) (k11 : PySem.W.keepIn K (.ref f11) = true)
    (z1 : PySem.W.nsIn K mainGlobals "len" = some none) (z2 : PySem.W.nsIn K mainGlobals "abs" = some none) (z3 : PySem.W.nsIn K mainGlobals "int" = some none) (z4 : PySem.W.nsIn K mainGlobals "range" = some none) (z5 : PySem.W.nsIn K mainGlobals "list" = some none) (z6 : PySem.W.nsIn K mainGlobals "min" = some none) (z7 : PySem.W.nsIn K mainGlobals "isinstance" = some none) (z8 : PySem.W.nsIn K mainGlobals "str" = some none) :
    ∃ fd : FuncData, (∀ (s : Shared) (v : Value), BindsTo s fd ⟨[v], []⟩ [("_law_script", v)]) ∧ ∀ base : Heap, K.In base → base.Ns mainGlobals mg → FnOk l.prog w K mg base CX0 5 fa fd ["_law_script"] (spLaw K) := by
  have e := hfa.symm.trans (PySem.W.mg_of X G a11)
  cases e
  have F1 := fun_mk (st := sSewn) l1 c1 k1
  have b1 := F1.binds (ps := ["seams", "stem", "ending"]) fun _ _ _ _ _ _ us hl => match us, hl with | [_, _, _], _ => rfl
  have g1 := PySem.W.mg_of X G a1
  have F2 := fun_mk (st := sCell) l2 c2 k2
  have b2 := F2.binds (ps := ["_law_script", "_law_k"]) fun _ _ _ _ _ _ us hl => match us, hl with | [_, _], _ => rfl
  have g2 := PySem.W.mg_of X G a2
  have F3 := fun_mk (st := sMixed) l3 c3 k3
  have b3 := F3.binds (ps := ["_law_number", "_law_k"]) fun _ _ _ _ _ _ us hl => match us, hl with | [_, _], _ => rfl
  have g3 := PySem.W.mg_of X G a3
  have F4 := fun_mk (st := sBox) l4 c4 k4
  have b4 := F4.binds (ps := ["_law_script", "_law_k"]) fun _ _ _ _ _ _ us hl => match us, hl with | [_, _], _ => rfl
  have g4 := PySem.W.mg_of X G a4
  have F5 := fun_mk (st := sTake) l5 c5 k5
  have b5 := F5.binds (ps := ["_law_box_here", "_law_many"]) fun _ _ _ _ _ _ us hl => match us, hl with | [_, _], _ => rfl
  have g5 := PySem.W.mg_of X G a5
  have F6 := fun_mk (st := sLetters) l6 c6 k6
  have b6 := F6.binds (ps := ["_law_box_here", "_law_signs", "_law_many"]) fun _ _ _ _ _ _ us hl => match us, hl with | [_, _, _], _ => rfl
  have g6 := PySem.W.mg_of X G a6
  have F7 := fun_mk (st := sTurned) l7 c7 k7
  have b7 := F7.binds (ps := ["_law_box_here", "_law_row"]) fun _ _ _ _ _ _ us hl => match us, hl with | [_, _], _ => rfl
  have g7 := PySem.W.mg_of X G a7
  have F8 := fun_mk (st := sLSewn) l8 c8 k8
  have b8 := F8.binds (ps := ["_law_seams_here", "_law_stem", "_law_ending"]) fun _ _ _ _ _ _ us hl => match us, hl with | [_, _, _], _ => rfl
  have g8 := PySem.W.mg_of X G a8
  have F9 := fun_mk (st := sSeams) l9 c9 k9
  have b9 := F9.binds (ps := ["_law_box_here", "_law_signs"]) fun _ _ _ _ _ _ us hl => match us, hl with | [_, _], _ => rfl
  have g9 := PySem.W.mg_of X G a9
  have F10 := fun_mk (st := sTexts) l10 c10 k10
  have b10 := F10.binds (ps := ["_law_box_here", "_law_seams_here", "_law_signs"]) fun _ _ _ _ _ _ us hl => match us, hl with | [_, _, _], _ => rfl
  have g10 := PySem.W.mg_of X G a10
  have F11 := fun_mk (st := sLaw) l11 c11 k11
  have m_len := PySem.W.mg_none_of X G z1
  have m_abs := PySem.W.mg_none_of X G z2
  have m_int := PySem.W.mg_none_of X G z3
  have m_range := PySem.W.mg_none_of X G z4
  have m_list := PySem.W.mg_none_of X G z5
  have m_min := PySem.W.mg_none_of X G z6
  have m_isinstance := PySem.W.mg_none_of X G z7
  have m_str := PySem.W.mg_none_of X G z8
  refine ⟨PySem.W.fnOf "law" "law" (defArgs sLaw) (defBody sLaw) (defScope sLaw) .none kV11 dc11 pm11 an11 cd11 ct11, fun s v => .of_eq rfl, fun base _ _ => ?_⟩
  have G5 := ok_take (P := l.prog) (w := w) (mg := mg) (base := base) (k := 0) F5 F3 b3 g3
  have G6 := ok_letters F6 F5 b5 g5 G5 m_len m_range
  exact ok_law F11 F4.kp b4 g4 (ok_box (k := 0) F4 F2 b2 g2 F3 b3 g3 m_len m_abs m_int) F5.kp b5 g5 G5 F9.kp b9 g9 (ok_seams F9 F5 b5 g5 G5 F6 b6 g6 G6 m_len m_range) F10.kp b10 g10 (ok_texts F10 F5 b5 g5 G5 F6 b6 g6 G6 m_len)
    F7.kp b7 g7 (ok_turned F7 F5 b5 g5 G5 m_len m_list) F1.kp b1 g1 (ok_sewn F1 m_len) F8.kp b8 g8 (ok_lsewn F8 m_len) m_len m_range m_min m_list m_isinstance m_str
end K8
open PySem PySem.W PyProof.Rows
set_option maxHeartbeats 0 in
theorem PySem.Challenge.cw_speechloom_k08_sewn_holds : PySem.Challenge.rw_speechloom_k08_sewn.Holds := by
  w_on; o_law; k_head; (case hw => w_witness2)
  k_fill
  refine L2.walk_of (l := PySem.Challenge.rw_speechloom_k08_sewn) (n := 63) (k := 5) (x := "_law_script") (CX := fun _ => L2.CX0) (sp := fun w => K8.spLaw _) rfl (by decide) rfl ⟨rfl, by decide, by decide⟩ (fun w h Y => PySem.W.kIn_of Y) ?F (fun _ _ a ns hl _ hS => ⟨a, ns, rfl, hS, hl, fun _ => rfl⟩) (fun _ _ _ _ _ h => h)
  case F =>
    intro w mg fa h KX G hmg
    refine' K8.all_mk KX G hmg ?a1 ?l1 ?c1 ?k1 ?a2 ?l2 ?c2 ?k2 ?a3 ?l3 ?c3 ?k3 ?a4 ?l4 ?c4 ?k4 ?a5 ?l5 ?c5 ?k5 ?a6 ?l6 ?c6 ?k6 ?a7 ?l7 ?c7 ?k7 ?a8 ?l8 ?c8 ?k8 ?a9 ?l9 ?c9 ?k9 ?a10 ?l10 ?c10 ?k10 ?a11 ?l11 ?c11 ?k11 ?z1 ?z2 ?z3 ?z4 ?z5 ?z6 ?z7 ?z8
    (case a1 => k_is); (case l1 => k_is); (case c1 => k_is); (case k1 => k_is); (case a2 => k_is); (case l2 => k_is); (case c2 => k_is); (case k2 => k_is); (case a3 => k_is); (case l3 => k_is); (case c3 => k_is); (case k3 => k_is); (case a4 => k_is); (case l4 => k_is); (case c4 => k_is); (case k4 => k_is); (case a5 => k_is); (case l5 => k_is); (case c5 => k_is); (case k5 => k_is); (case a6 => k_is); (case l6 => k_is); (case c6 => k_is); (case k6 => k_is); (case a7 => k_is); (case l7 => k_is); (case c7 => k_is); (case k7 => k_is); (case a8 => k_is); (case l8 => k_is); (case c8 => k_is); (case k8 => k_is); (case a9 => k_is); (case l9 => k_is); (case c9 => k_is); (case k9 => k_is); (case a10 => k_is); (case l10 => k_is); (case c10 => k_is); (case k10 => k_is); (case a11 => k_is); (case l11 => k_is); (case c11 => k_is); (case k11 => k_is); (case z1 => k_is); (case z2 => k_is); (case z3 => k_is); (case z4 => k_is); (case z5 => k_is); (case z6 => k_is); (case z7 => k_is); (case z8 => k_is)
