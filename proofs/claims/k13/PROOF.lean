import PyProof.Rows.All
import Wide.All
import OpenK.AllK
import Wide.FinOn
import PySem.Challenge.RW_foldletter_k13_sayings_coded
import HandS.ForMost
import HandS.Walk
import HandS.IsInst
import HandS.Wide
import HandS.ReplaceDef
import HandS.ReplaceLit
import HandS.ReplaceList
import HandS.StrMore
import HandS.ExcInit
import HandS.ExcIs
import HandS.ExcField
import HandS.Defaults
import HandS.TryOnly
import HandS.WordsExc
import HandS.Rev
import HandS.Conv
import HandS.ClsMeth
import HandS.FStr
import HandS.Flow
import HandS.Style
import HandS.Strs
import PyProof.FString3
import HandS.CallLocal
set_option Elab.async false
set_option linter.all false
set_option maxRecDepth 100000
set_option maxHeartbeats 4000000
namespace FL
open PySem PySem.Spec PyProof.Rows L2
def topS (i : Nat) : Stmt := PySem.Challenge.pw_foldletter_k13_sayings_coded.main.body.getD i (.Pass ⟨0, 0, 0, 0⟩)
abbrev cLetterError : Stmt := topS 1
abbrev cNoSaying : Stmt := topS 2
abbrev sIsLetter : Stmt := topS 8
abbrev sIsFigure : Stmt := topS 9
abbrev sIsWhole : Stmt := topS 10
abbrev sIsNumbered : Stmt := topS 11
abbrev sTextOf : Stmt := topS 12
abbrev sSignOf : Stmt := topS 13
abbrev sSixesOf : Stmt := topS 16
abbrev sBySixteen : Stmt := topS 17
abbrev sFourOf : Stmt := topS 18
abbrev sCoded : Stmt := topS 22
abbrev sIsSaying : Stmt := topS 23
abbrev sOwnText : Stmt := topS 24
abbrev sCheckSaying : Stmt := topS 25
abbrev sIsSaySign : Stmt := topS 26
abbrev sOctetsOfSign : Stmt := topS 27
abbrev sByWords : Stmt := topS 28
abbrev sMarksOf : Stmt := topS 29
abbrev sMarkOf : Stmt := topS 30
abbrev sCellAt : Stmt := topS 32
abbrev sMixed : Stmt := topS 33
abbrev sSource : Stmt := topS 34
abbrev sNext : Stmt := topS 35
abbrev sLawSaying : Stmt := topS 36
abbrev sLawOctetsOf : Stmt := topS 37
abbrev sLawSixes : Stmt := topS 38
abbrev sLawText : Stmt := topS 39
abbrev sLawWord : Stmt := topS 40
abbrev sLawWordsBy : Stmt := topS 41
abbrev sLawCoded : Stmt := topS 42
abbrev sLaw : Stmt := topS 43
end FL

namespace FL
open PySem PySem.Spec PyProof.Rows L2
/-! ### small words -/
theorem pe_weak {X : Cx} {e : Expr} {t t' : TE} (h : PE X e t) (m : ∀ σ H Q, t' σ H Q → t σ H Q) : PE X e t' := ⟨fun pins s σ H Q I q => h.run pins s σ H Q I (m σ H Q q)⟩
theorem lt_one {a b : Nat} : ((([a] : List Nat) < [b])) ↔ a < b := by
  rw [List.cons_lt_cons_iff]
  simp
theorem bl_to {Q : V → Hp → Prop} {H : Hp} {a b : Bool} (e : a = b) (q : Q (.bl b) H) : Q (.bl a) H := by
  rw [e]
  exact q
def tBtw (i lo hi : Nat) : TE := fun σ H Q => ∃ c : Nat, σ[i]? = some (some (.str ⟨#[c]⟩)) ∧ Q (.bl (decide (lo ≤ c ∧ c ≤ hi))) H
theorem pe_btw {X : Cx} (i : Nat) {x a b : Str} {lo hi k1 k2 : Nat} {p1 p2 p3 pos : Pos} (ea : a.cps.toList = [lo]) (eb : b.cps.toList = [hi]) (hx : PE X (.Name x p2) (tVar i))
    (hm : lastMarks [.LtE, .LtE] [.Name x p2, .Constant (.str b) k2 p3] = false := by with_unfolding_all rfl) :
    PE X (.Compare (.Constant (.str a) k1 p1) [.LtE, .LtE] [.Name x p2, .Constant (.str b) k2 p3] pos) (tBtw i lo hi) := by
  refine pe_weak (pe_chain op_le_str op_le_str pe_str hx pe_str hm) ?_
  rintro σ H Q ⟨c, hc, q⟩
  refine ⟨_, hc, _, _, rfl, rfl, _, rfl, ?_⟩
  have e1 : (!decide (((⟨#[c]⟩ : Str).cps.toList) < a.cps.toList)) = decide (lo ≤ c) := by
    rw [ea]
    show (!decide (([c] : List Nat) < [lo])) = decide (lo ≤ c)
    rw [decide_eq_decide.mpr (lt_one (a := c) (b := lo))]
    by_cases h : lo ≤ c
    · rw [decide_eq_true h, decide_eq_false (by omega)]; rfl
    · rw [decide_eq_false h, decide_eq_true (by omega)]; rfl
  have e2 : (!decide (b.cps.toList < ((⟨#[c]⟩ : Str).cps.toList))) = decide (c ≤ hi) := by
    rw [eb]
    show (!decide (([hi] : List Nat) < [c])) = decide (c ≤ hi)
    rw [decide_eq_decide.mpr (lt_one (a := hi) (b := c))]
    by_cases h : c ≤ hi
    · rw [decide_eq_true h, decide_eq_false (by omega)]; rfl
    · rw [decide_eq_false h, decide_eq_true (by omega)]; rfl
  rw [e1]
  by_cases h1 : lo ≤ c
  · rw [decide_eq_true h1, if_pos rfl]
    refine ⟨_, _, rfl, rfl, bl_to e2 (bl_to ?_ q)⟩
    by_cases h2 : c ≤ hi
    · rw [decide_eq_true h2, decide_eq_true ⟨h1, h2⟩]
    · rw [decide_eq_false h2, decide_eq_false (fun z => h2 z.2)]
  · rw [decide_eq_false h1, if_neg Bool.false_ne_true]
    exact bl_to (decide_eq_false (fun z => h1 z.1)).symm q
/-- x or y of two truths -/
theorem pe_orB {X : Cx} {a b : Expr} {rest : List Expr} {pos : Pos} {ta tb : TE} (ha : PE X a ta) (hb : PE X (.BoolOp .Or (b :: rest) pos) tb) :
    PE X (.BoolOp .Or (a :: b :: rest) pos) (tOrV ta tb) := pe_or ha hb
/-! ### what stands where -/
structure FnAt (K : PySem.W.Frag) (mg : Str → Option Value) (x : Str) (st : Stmt) : Prop where
  ex : ∃ f fd, Fun K x x st f fd ∧ mg x = some (.ref f)
def Ready (P : Program) (w : World) (K : PySem.W.Frag) (mg : Str → Option Value) (base : Heap) (k : Nat) (x : Str) (ps : List Str) (sp : Sp) : Prop :=
  ∃ f fd, mg x = some (.ref f) ∧ PySem.W.keepIn K (.ref f) = true ∧ Binds K fd ps [] ∧ FnOk P w K mg base CX0 k f fd ps sp
section
variable {P : Program} {w : World} {K : PySem.W.Frag} {mg : Str → Option Value} {base : Heap}
theorem ready_of {x : Str} {st : Stmt} {k : Nat} {ps : List Str} {sp : Sp} (A : FnAt K mg x st)
    (hb : ∀ (kV doc pm : Value) (an : Option Addr) (cdv ct : Value) (us : List Value), us.length = ps.length → bindArgs (PySem.W.fnOf x x (defArgs st) (defBody st) (defScope st) .none kV doc pm an cdv ct) ⟨us, []⟩ = pure (ps.zip us))
    (ok : ∀ f fd, Fun K x x st f fd → FnOk P w K mg base CX0 k f fd ps sp) : Ready P w K mg base k x ps sp := by
  obtain ⟨f, fd, F, g⟩ := A.ex
  exact ⟨f, fd, g, F.kp, F.binds hb, ok f fd F⟩
/-! ### the mathematics of signs -/
def isLet (c : Nat) : Bool := decide (97 ≤ c ∧ c ≤ 122) || decide (65 ≤ c ∧ c ≤ 90)
def isFig (c : Nat) : Bool := decide (48 ≤ c ∧ c ≤ 57)
def isSig (c : Nat) : Bool := decide (c = 10) || (decide (32 ≤ c ∧ c ≤ 126) && !decide (c = 37))
def atomSigns : List Nat := [33, 35, 36, 38, 39, 42, 43, 45, 46, 47, 61, 63, 94, 95, 96, 123, 124, 125, 126]
def isAtm (c : Nat) : Bool := isLet c || (isFig c || decide (c ∈ atomSigns))
def spSign (f : Nat → Bool) : Sp := fun vs H Q _ => ∃ c : Nat, vs = [.str ⟨#[c]⟩] ∧ Q (.bl (f c)) H
theorem scIsLetter : FnScope ["sign"] ["sign"] (defScope sIsLetter) := ⟨rfl, rfl, rfl, by decide +kernel, rfl, by decide +kernel, by decide +kernel⟩
theorem r_is_letter (A : FnAt K mg "is_letter" sIsLetter) : Ready P w K mg base 1 "is_letter" ["sign"] (spSign isLet) := by
  refine ready_of A (fun _ _ _ _ _ _ us hl => match us, hl with | [_], _ => rfl) fun f fd F => ?_
  refine F.ok scIsLetter (fun vs H Q E h => ?_) (fun cdv A outer s H vs Q E hr h => ?_)
  · obtain ⟨c, rfl, _⟩ := h
    rfl
  · obtain ⟨c, rfl, q⟩ := h
    refine ⟨_, pss_one (ps_ret (pe_or (pe_btw (lo := 97) (hi := 122) 0 rfl rfl (pv 0)) (pe_one (pe_btw (lo := 65) (hi := 90) 0 rfl rfl (pv 0))))), ?_⟩
    refine ⟨c, rfl, _, rfl, ?_⟩
    by_cases h1 : 97 ≤ c ∧ c ≤ 122
    · rw [decide_eq_true h1, if_pos rfl]
      exact bl_to (by unfold isLet; rw [decide_eq_true h1]; rfl) q
    · rw [decide_eq_false h1, if_neg Bool.false_ne_true]
      exact ⟨c, rfl, bl_to (by unfold isLet; rw [decide_eq_false h1]; rfl) q⟩
theorem scIsFigure : FnScope ["sign"] ["sign"] (defScope sIsFigure) := ⟨rfl, rfl, rfl, by decide +kernel, rfl, by decide +kernel, by decide +kernel⟩
theorem r_is_figure (A : FnAt K mg "is_figure" sIsFigure) : Ready P w K mg base 1 "is_figure" ["sign"] (spSign isFig) := by
  refine ready_of A (fun _ _ _ _ _ _ us hl => match us, hl with | [_], _ => rfl) fun f fd F => ?_
  refine F.ok scIsFigure (fun vs H Q E h => ?_) (fun cdv A outer s H vs Q E hr h => ?_)
  · obtain ⟨c, rfl, _⟩ := h
    rfl
  · obtain ⟨c, rfl, q⟩ := h
    exact ⟨_, pss_one (ps_ret (pe_btw (lo := 48) (hi := 57) 0 rfl rfl (pv 0))), c, rfl, q⟩
theorem str_one {c d : Nat} : (V.str ⟨#[c]⟩ = V.str ⟨#[d]⟩) ↔ c = d := by
  constructor
  · intro h
    injection h with h
    injection h with h
    have h2 := congrArg Array.toList h
    simpa using h2
  · intro h
    rw [h]
end
end FL

namespace FL
open PySem PySem.Spec PyProof.Rows L2
section
variable {P : Program} {w : World} {K : PySem.W.Frag} {mg : Str → Option Value} {base : Heap}
theorem szl {n : Nat} (h : n ≤ 10000) : n < sizeLine := Nat.lt_of_le_of_lt h (by decide)
theorem same_new {H : Hp} {p : Addr} {o : HO} (h : H p = none) : Same H (upd H p o) := fun b x e => by
  rw [upd_ne (ne_of_none e h)]
  exact e
/-- a store to what was not there at the start -/
theorem same_set {H H1 : Hp} {p : Addr} {o : HO} (s : Same H H1) (h : H p = none) : Same H (upd H1 p o) := fun b x e => by
  rw [upd_ne (ne_of_none e h)]
  exact s b x e
theorem take_more {α : Type} {l : List α} {i : Nat} {x : α} (h : l[i]? = some x) : l.take (i + 1) = l.take i ++ [x] := by
  rw [List.take_add_one, h]
  rfl
def allSig (l : List Nat) : Bool := l.all isSig
def isLn (l : List Nat) : Bool := allSig l && !decide (10 ∈ l)
/-- of a text f of its signs; of what is none, False -/
def spLine (K : PySem.W.Frag) (f : List Nat → Bool) : Sp := fun vs H Q _ => ∃ v, vs = [v] ∧
  ((∃ z : Str, v = .str z ∧ z.length ≤ 10000 ∧ ∀ H', Same H H' → Q (.bl (f z.cps.toList)) H') ∨ (∃ t, TyX K H v t ∧ PySem.W.kitOne K t (.type "str") = some false ∧ Q (.bl false) H))
theorem len_cps (z : Str) : z.cps.toList.length = z.length := by simp [Str.length]
end
end FL

namespace FL
open PySem PySem.Spec PyProof.Rows L2
section
variable {P : Program} {w : World} {K : PySem.W.Frag} {mg : Str → Option Value} {base : Heap}
def spCellAt (K : PySem.W.Frag) : Sp := fun vs H Q _ => ∃ (a : Addr) (ns : List Int) (k : Nat), vs = [.ref a, .int (k : Nat)] ∧ SqL K H a (ns.map V.int) ∧ ∀ x : Int, Q (.int x) H
theorem scCellAt : FnScope ["_law_script", "_law_k"] ["_law_script", "_law_k"] (defScope sCellAt) := ⟨rfl, rfl, rfl, by decide +kernel, rfl, by decide +kernel, by decide +kernel⟩
theorem r_cell_at (A : FnAt K mg "_law_cell_at" sCellAt) (ml : mg "len" = none) : Ready P w K mg base 1 "_law_cell_at" ["_law_script", "_law_k"] (spCellAt K) := by
  refine ready_of A (fun _ _ _ _ _ _ us hl => match us, hl with | [_, _], _ => rfl) fun f fd F => ?_
  refine F.ok scCellAt (fun vs H Q E h => ?_) (fun cdv A outer s H vs Q E hr h => ?_)
  · obtain ⟨a, ns, k, rfl, _⟩ := h
    rfl
  · obtain ⟨a, ns, k, rfl, hS, q⟩ := h
    refine ⟨_, pss_cons (ps_if (pt_cmpR op_lt (pv 1) (pe_callB call_len_seq (by rfl) ml PySem.boot_len (pa_cons (pv 0) pa_nil)) (nomark _)) (pss_one (ps_ret (pe_ix ix_list (pv 0) (pv 1) (fun _ _ => rfl)))) pss_nil)
      (pss_one (ps_ret pe_int)), ?_⟩
    refine ⟨_, rfl, _, rfl, a, _, rfl, .inl hS, _, _, rfl, rfl, _, rfl, ite2 (fun h => ?_) (fun h => ?_)⟩
    · have h1 : k < ns.length := by
        have := of_decide_eq_true h
        rw [List.length_map] at this
        omega
      refine ⟨_, rfl, _, rfl, a, _, _, _, rfl, rfl, hS, atI_nat (v := .int ns[k]) ?_, q _⟩
      rw [List.getElem?_map, List.getElem?_eq_getElem h1]
      rfl
    · exact q 0
def spMixed : Sp := fun vs H Q _ => ∃ (c k : Int), vs = [.int c, .int k] ∧ ∀ r : Int, 0 ≤ r → r < 2147483563 → Q (.int r) H
theorem scMixed : FnScope ["_law_cell", "_law_k", "_law_low"] ["_law_cell", "_law_k"] (defScope sMixed) := ⟨rfl, rfl, rfl, by decide +kernel, rfl, by decide +kernel, by decide +kernel⟩
theorem r_mixed (A : FnAt K mg "_law_mixed" sMixed) : Ready P w K mg base 1 "_law_mixed" ["_law_cell", "_law_k"] spMixed := by
  refine ready_of A (fun _ _ _ _ _ _ us hl => match us, hl with | [_, _], _ => rfl) fun f fd F => ?_
  refine F.ok scMixed (fun vs H Q E h => ?_) (fun cdv A outer s H vs Q E hr h => ?_)
  · obtain ⟨c, k, rfl, _⟩ := h
    rfl
  · obtain ⟨c, k, rfl, q⟩ := h
    refine ⟨_, pss_cons (ps_set (i := 2) scMixed.nd rfl (.inl rfl) (pe_op op_add (pe_op op_mod (pv 0) pe_int) (pe_op op_mul (pe_op op_fdivW (pv 0) pe_int) pe_int)))
      (pss_cons (ps_set (i := 2) scMixed.nd rfl (.inl rfl) (pe_op op_mod (pe_op op_mul (pe_op op_add (pe_op op_add (pv 2) (pe_op op_mul pe_int (pv 1))) pe_int) pe_int) pe_int))
      (pss_cons (ps_set (i := 2) scMixed.nd rfl (.inl rfl) (pe_op op_mod (pe_op op_mul (pv 2) (pe_op op_add (pe_op op_add (pe_op op_fdivN (pv 2) pe_int) pe_int) (pv 1))) pe_int))
      (pss_one (ps_ret (pe_op op_mod (pe_op op_mul (pv 2) (pe_op op_add (pe_op op_fdivN (pv 2) pe_int) pe_int)) pe_int))))), ?_⟩
    refine ⟨_, rfl, _, _, rfl, rfl, (show (0 : Int) < 2147483629 by decide), _, rfl, _, _, rfl, rfl, wide_div (b := 40) (by decide) (by decide) (by decide) (by decide), _, _, rfl, rfl, .inr (by decide), _, _, rfl, rfl, ?_⟩
    generalize c % 2147483629 + c / 2147483629 * 30011 = x1
    refine ⟨_, rfl, _, rfl, _, _, rfl, rfl, .inl (by decide), _, _, rfl, rfl, _, _, rfl, rfl, _, _, rfl, rfl, .inr (by decide), _, _, rfl, rfl, (show (0 : Int) < 2147483629 by decide), ?_⟩
    have a2 := Int.emod_nonneg ((x1 + 69621 * k + 1) * 48271) (by decide : (2147483629 : Int) ≠ 0)
    have b2 := Int.emod_lt_of_pos ((x1 + 69621 * k + 1) * 48271) (by decide : (0 : Int) < 2147483629)
    generalize ((x1 + 69621 * k + 1) * 48271) % 2147483629 = x2 at a2 b2
    refine ⟨_, rfl, _, rfl, _, _, rfl, rfl, ⟨by decide, by decide⟩, _, _, rfl, rfl, _, rfl, _, _, rfl, rfl, _, _, rfl, rfl, .inl ⟨by omega, by omega⟩, _, _, rfl, rfl, (show (0 : Int) < 2147483587 by decide), ?_⟩
    generalize hX : x2 * (x2.fdiv 907 + 16831 + k) = X3
    have a3 := Int.emod_nonneg X3 (by decide : (2147483587 : Int) ≠ 0)
    have b3 := Int.emod_lt_of_pos X3 (by decide : (0 : Int) < 2147483587)
    generalize X3 % 2147483587 = x3 at a3 b3
    refine ⟨_, rfl, _, rfl, _, _, rfl, rfl, ⟨by decide, by decide⟩, _, _, rfl, rfl, _, _, rfl, rfl, .inl ⟨by omega, by omega⟩, _, _, rfl, rfl, (show (0 : Int) < 2147483563 by decide), ?_⟩
    exact q _ (Int.emod_nonneg _ (by decide)) (Int.emod_lt_of_pos _ (by decide))
/-- a source: three numbers at a -/
def Src (H : Hp) (a : Addr) : Prop := ∃ x y z : Int, H a = some (.lst [.int x, .int y, .int z])
def spSource (K : PySem.W.Frag) : Sp := fun vs H Q _ => ∃ (a : Addr) (ns : List Int) (k : Nat), vs = [.ref a, .int (k : Nat)] ∧ SqL K H a (ns.map V.int) ∧ ∀ H' p, Same H H' → H p = none → Src H' p → Q (.ref p) H'
theorem scSource : FnScope ["_law_script", "_law_k", "_law_cell"] ["_law_script", "_law_k"] (defScope sSource) := ⟨rfl, rfl, rfl, by decide +kernel, rfl, by decide +kernel, by decide +kernel⟩
theorem r_source (A : FnAt K mg "_law_source" sSource) (RC : Ready P w K mg base 1 "_law_cell_at" ["_law_script", "_law_k"] (spCellAt K)) (RM : Ready P w K mg base 1 "_law_mixed" ["_law_cell", "_law_k"] spMixed) (ml : mg "len" = none) :
    Ready P w K mg base 2 "_law_source" ["_law_script", "_law_k"] (spSource K) := by
  obtain ⟨f1, fd1, g1, k1, b1, G1⟩ := RC
  obtain ⟨f2, fd2, g2, k2, b2, G2⟩ := RM
  refine ready_of A (fun _ _ _ _ _ _ us hl => match us, hl with | [_, _], _ => rfl) fun f fd F => ?_
  refine F.ok scSource (fun vs H Q E h => ?_) (fun cdv A outer s H vs Q E hr h => ?_)
  · obtain ⟨a, ns, k, rfl, _⟩ := h
    rfl
  · obtain ⟨a, ns, k, rfl, hS, q⟩ := h
    have ix : ∀ e1 e2, PlainIx (.Name e1 e2) := fun _ _ _ _ => rfl
    refine ⟨_, pss_cons (ps_if (pt_cmpR op_lt (pv 1) (pe_callB call_len_seq (by rfl) ml PySem.boot_len (pa_cons (pv 0) pa_nil)) (nomark _))
        (pss_one (ps_ret (pe_lst (pa_cons (pe_ix ix_list (pv 0) (pv 1) (fun _ _ => rfl)) (pa_cons (pe_ix ix_list (pv 0) (pv 1) (fun _ _ => rfl)) (pa_cons pe_int pa_nil)))))) pss_nil)
      (pss_cons (ps_set (i := 2) scSource.nd rfl (.inl rfl) (pe_call G2 hr (by rfl) g2 k2 b2 .nil pass0 (pa_cons (pe_call G1 hr (by rfl) g1 k1 b1 .nil pass0 (pa_cons (pv 0) (pa_cons pe_int pa_nil))) (pa_cons (pe_op op_add pe_int (pv 1)) pa_nil))))
      (pss_one (ps_ret (pe_lst (pa_cons (pv 2) (pa_cons (pv 2) (pa_cons pe_int pa_nil))))))), ?_⟩
    refine ⟨_, rfl, _, rfl, a, _, rfl, .inl hS, _, _, rfl, rfl, _, rfl, ite2 (fun h => ?_) (fun h => ?_)⟩
    · have h1 : k < ns.length := by
        have := of_decide_eq_true h
        rw [List.length_map] at this
        omega
      have g : (ns.map V.int)[k]? = some (.int ns[k]) := by
        rw [List.getElem?_map, List.getElem?_eq_getElem h1]
        rfl
      refine ⟨_, rfl, _, rfl, a, _, _, _, rfl, rfl, hS, atI_nat g, _, rfl, _, rfl, a, _, _, _, rfl, rfl, hS, atI_nat g, (by show 3 ≤ sizeLine; decide), fun l hl => ?_⟩
      exact q _ l (same_new hl) hl ⟨_, _, _, upd_same⟩
    · refine ⟨_, rfl, a, ns, 0, rfl, hS, fun x => ⟨_, rfl, _, _, rfl, rfl, x, _, rfl, fun r _ _ => ?_⟩⟩
      refine ⟨_, rfl, _, rfl, (by show 3 ≤ sizeLine; decide), fun l hl => ?_⟩
      exact q _ l (same_new hl) hl ⟨_, _, _, upd_same⟩
def spNext : Sp := fun vs H Q _ => ∃ (a : Addr) (m : Nat) (x y z : Int), vs = [.ref a, .int (m : Nat)] ∧ 1 ≤ m ∧ m ≤ 100000 ∧ H a = some (.lst [.int x, .int y, .int z]) ∧
  ∀ (r : Nat) (x' z' : Int), r < m → Q (.int (r : Nat)) (upd H a (.lst [.int x', .int y, .int z']))
theorem scNext : FnScope ["_law_source_here", "_law_many", "_law_found"] ["_law_source_here", "_law_many"] (defScope sNext) := ⟨rfl, rfl, rfl, by decide +kernel, rfl, by decide +kernel, by decide +kernel⟩
theorem r_next (A : FnAt K mg "_law_next" sNext) (RM : Ready P w K mg base 1 "_law_mixed" ["_law_cell", "_law_k"] spMixed) : Ready P w K mg base 2 "_law_next" ["_law_source_here", "_law_many"] spNext := by
  obtain ⟨f2, fd2, g2, k2, b2, G2⟩ := RM
  refine ready_of A (fun _ _ _ _ _ _ us hl => match us, hl with | [_, _], _ => rfl) fun f fd F => ?_
  refine F.ok scNext (fun vs H Q E h => ?_) (fun cdv A outer s H vs Q E hr h => ?_)
  · obtain ⟨a, m, x, y, z, rfl, _⟩ := h
    rfl
  · obtain ⟨a, m, x, y, z, rfl, hm1, hm2, hS, q⟩ := h
    refine ⟨_, pss_cons (ps_if (pt_cmpR op_ge (pe_ix ix_list (pv 0) pe_int (fun _ _ => rfl)) (pe_op op_pow pe_int pe_int) (nomark _))
        (pss_cons (ps_set (i := 2) scNext.nd rfl (.inl rfl) (pe_op op_mod (pe_ix ix_list (pv 0) pe_int (fun _ _ => rfl)) (pv 1)))
          (pss_cons (ps_asg (pe_op op_fdivN (pe_ix ix_list (pv 0) pe_int (fun _ _ => rfl)) (pv 1)) (pg_sub (pv 0) pe_int set_list))
          (pss_one (ps_ret (pv 2))))) pss_nil)
      (pss_cons (ps_asg (pe_op op_add (pe_ix ix_list (pv 0) pe_int (fun _ _ => rfl)) pe_int) (pg_sub (pv 0) pe_int set_list))
      (pss_one (ps_ret (pe_op op_mod (pe_call G2 hr (by rfl) g2 k2 b2 .nil pass0 (pa_cons (pe_ix ix_list (pv 0) pe_int (fun _ _ => rfl)) (pa_cons (pe_ix ix_list (pv 0) pe_int (fun _ _ => rfl)) pa_nil))) (pv 1))))), ?_⟩
    have hm0 : (0 : Int) < (m : Int) := by omega
    refine ⟨_, rfl, a, _, _, .int x, rfl, rfl, SqL.of hS, rfl, _, _, rfl, rfl, ⟨by decide, by decide, by decide⟩, _, _, rfl, rfl, _, rfl, ite2 (fun h => ?_) (fun h => ?_)⟩
    · refine ⟨_, rfl, a, _, _, .int x, rfl, rfl, SqL.of hS, rfl, _, rfl, _, _, rfl, rfl, hm0, ?_⟩
      refine ⟨_, rfl, a, _, _, .int x, rfl, rfl, SqL.of hS, rfl, _, rfl, _, _, rfl, rfl, ⟨by omega, by omega⟩, _, rfl, a, _, _, 0, rfl, rfl, hS, rfl, ?_⟩
      have h1 := Int.emod_nonneg x (by omega : (m : Int) ≠ 0)
      have h2 := Int.emod_lt_of_pos x hm0
      have e : ((x % (m : Int)).toNat : Int) = x % (m : Int) := Int.toNat_of_nonneg h1
      refine ⟨_, rfl, ?_⟩
      have := q (x % (m : Int)).toNat (x.fdiv m) z (by omega)
      rw [e] at this
      exact this
    · refine ⟨_, rfl, a, _, _, .int z, rfl, rfl, SqL.of hS, rfl, _, _, rfl, rfl, _, rfl, a, _, _, 2, rfl, rfl, hS, rfl, ?_⟩
      refine ⟨_, rfl, a, _, _, .int y, rfl, rfl, SqL.of upd_same, rfl, _, rfl, a, _, _, .int (z + 1), rfl, rfl, SqL.of upd_same, rfl, y, _, rfl, fun r _ _ => ?_⟩
      refine ⟨_, rfl, _, _, rfl, rfl, hm0, ?_⟩
      have h1 := Int.emod_nonneg r (by omega : (m : Int) ≠ 0)
      have h2 := Int.emod_lt_of_pos r hm0
      have e : ((r % (m : Int)).toNat : Int) = r % (m : Int) := Int.toNat_of_nonneg h1
      have := q (r % (m : Int)).toNat x (z + 1) (by omega)
      rw [e] at this
      exact this
end
end FL

namespace FL
open PySem PySem.Spec PyProof.Rows L2
section
variable {P : Program} {w : World} {K : PySem.W.Frag} {mg : Str → Option Value} {base : Heap}
/-- only the source at a has changed, and new things came -/
structure Drawn (a : Addr) (H H' : Hp) : Prop where
  old : ∀ b o, b ≠ a → H b = some o → H' b = some o
  src : Src H' a
theorem Drawn.refl {a : Addr} {H : Hp} (h : Src H a) : Drawn a H H := ⟨fun _ _ _ h => h, h⟩
theorem Drawn.trans {a : Addr} {H H1 H2 : Hp} (x : Drawn a H H1) (y : Drawn a H1 H2) : Drawn a H H2 := ⟨fun b o n h => y.old b o n (x.old b o n h), y.src⟩
theorem Drawn.same {a : Addr} {H H1 H2 : Hp} (x : Drawn a H H1) (s : Same H1 H2) : Drawn a H H2 :=
  ⟨fun b o n h => s b o (x.old b o n h), let ⟨p, q, r, e⟩ := x.src; ⟨p, q, r, s _ _ e⟩⟩
theorem drawn_upd {a : Addr} {H : Hp} {x y z : Int} : Drawn a H (upd H a (.lst [.int x, .int y, .int z])) := ⟨fun b o n h => by rw [upd_ne n]; exact h, ⟨x, y, z, upd_same⟩⟩
theorem drawn_set {a p : Addr} {H H1 : Hp} {o : HO} (x : Drawn a H H1) (h : H p = none) (n : a ≠ p) : Drawn a H (upd H1 p o) :=
  ⟨fun b u nb e => by rw [upd_ne (ne_of_none e h)]; exact x.old b u nb e, let ⟨u, v, r, e⟩ := x.src; ⟨u, v, r, by rw [upd_ne n]; exact e⟩⟩
theorem joinL_nil : ∀ L : List (List Nat), TL.joinL [] L = L.flatten
  | [] => rfl
  | [p] => by simp [TL.joinL]
  | p :: q :: r => by
    have := joinL_nil (q :: r)
    show p ++ ([] ++ TL.joinL [] (q :: r)) = _
    rw [List.nil_append, this]
    rfl
theorem join_codes (ys : List Str) : (Txt.join ("" : Str) ys).cps.toList = (ys.map fun y => y.cps.toList).flatten := by
  have e : TL.tl ("" : Str) = [] := by decide +kernel
  have h := TL.tl_join ("" : Str) ys
  rw [← TL.join_eq, e, joinL_nil] at h
  exact h
theorem sum_one {ys : List Str} (h : ∀ t ∈ ys, t.length ≤ 1) : (ys.map (·.length)).sum ≤ ys.length := by
  induction ys with
  | nil => exact Nat.le_refl _
  | cons y r ih =>
    have h1 := h y (List.mem_cons_self ..)
    have h2 := ih fun t ht => h t (List.mem_cons_of_mem _ ht)
    rw [List.map_cons, List.sum_cons, List.length_cons]
    omega
theorem codes_one (c : Nat) : (⟨#[c]⟩ : Str).cps.toList = [c] := rfl
theorem flat_ones {ys : List Str} {l : List Nat} (h : ∀ t ∈ ys, ∃ c ∈ l, t = ⟨#[c]⟩) : (∀ c ∈ (ys.map fun y => y.cps.toList).flatten, c ∈ l) ∧ ((ys.map fun y => y.cps.toList).flatten).length = ys.length := by
  induction ys with
  | nil => exact ⟨fun c hc => by simp at hc, rfl⟩
  | cons y r ih =>
    obtain ⟨i1, i2⟩ := ih fun t ht => h t (List.mem_cons_of_mem _ ht)
    obtain ⟨c, hc, rfl⟩ := h y (List.mem_cons_self ..)
    rw [List.map_cons, List.flatten_cons]
    show (∀ d ∈ [c] ++ _, d ∈ l) ∧ ([c] ++ _).length = _
    refine ⟨fun d hd => ?_, by rw [List.length_append, i2, List.length_cons]; simp; omega⟩
    rcases List.mem_append.mp hd with hd | hd
    · rw [List.mem_singleton.mp hd]; exact hc
    · exact i1 d hd
def spSigns : Sp := fun vs H Q _ => ∃ (a : Addr) (s : Str) (m : Nat), vs = [.ref a, .str s, .int (m : Nat)] ∧ 1 ≤ s.length ∧ s.length ≤ 10000 ∧ m ≤ 10000 ∧ Src H a ∧
  ∀ (t : Str) (H' : Hp), (∀ c ∈ t.cps.toList, c ∈ s.cps.toList) → t.length = m → Drawn a H H' → Q (.str t) H'
end
end FL

namespace FL
open PySem PySem.Spec PyProof.Rows L2
/-! ### the class of a caught error that has a dict of its own -/
section
open PySem.W PySem.Calls
theorem cls_found {K : Frag} {D : Addr} {oo : Option Obj} (G : ExcC K D) : findObj K D oo "__class__" = some (.bind (.builtin "getset_descriptor.__get__") (.builtin "object.__class__")) := by
  obtain ⟨cd, hc, _⟩ := any_some G.hd
  unfold findObj
  rw [hc, Option.bind_some, G.ha, Option.bind_some]
  simp [G.hn, G.ht]
theorem cls_of_exc {prog : Program} {w : World} {A : Around} {E : Value → Shared → Prop} {s : Shared} {K : Frag} {x D : Addr} {ox : Obj} {oo : Option Obj} {Q : Option Value → Shared → Prop}
    (G : ExcC K D) (Y : K.In s.heap) (J : InstAt s.heap x ox D oo) (q : Q (some (.ref D)) { s with toks := s.toks + 1 }) : wpAny (model prog w) A (getAttr? (.ref x) "__class__") Q E s := by
  have found := cls_found (oo := oo) G
  obtain ⟨hh, gg, dd, tt, oos⟩ := s
  have t0 : Looks (model prog w) hh (typeOf (.ref x)) (.ref D) := J.type
  have t1 := looks_findIn (M := model prog w) Y G.hg
  have t2 := looks_findIn (M := model prog w) Y G.hk
  have t3 := looks_find (M := model prog w) Y J found
  have isB : Looks (model prog w) hh (isInstance (.ref x) (.type "BaseException")) true := t0.andThen (looks_subIn Y G.hs)
  have n0 : (false && onTheHeap (Value.builtin "BaseException.__getattribute__")) = false := rfl
  have n1 : (onTheHeap (Value.ref D) && Value.builtin "BaseException.__getattribute__" == Value.builtin "object.__getattribute__") = false := by
    rw [show (Value.builtin "BaseException.__getattribute__" == Value.builtin "object.__getattribute__") = false by decide +kernel]
    rfl
  unfold getAttr? getAttrBy? getAttrBy
  refine wpAny_bind (wpAny_mkText (wpAny_bind (wpAny_attempt (wpAny_holding (wpAny_bind (t0.at (wpAny_bind (t1.at ?_))))))))
  refine (show wpAny (model prog w) A (if (onTheHeap (Value.ref D) && Value.builtin "BaseException.__getattribute__" == Value.builtin "object.__getattribute__") = true then _ else _) _ _ _ from ?_)
  rw [n1, if_neg Bool.false_ne_true]
  unfold getAttrByItsOwn hookBefore
  refine wpAny_bind ?_
  rw [if_pos (show onTheHeap (Value.ref D) = true from rfl)]
  refine t2.at (wpAny_bind (wpAny_attempt (wpAny_holding ?_)))
  unfold callGetattribute
  rw [n0, if_neg Bool.false_ne_true]
  unfold boundAndCalled
  rw [PySem.F.excAttr_ValueError.ga.bind (.ref x)]
  refine wpAny_bind (wpAny_pure ?_)
  refine (show wpAny (model prog w) _ (call (.builtin "BaseException.__getattribute__") [.ref x, .str "__class__" tt]) _ _ _ from ?_)
  refine wpAny_call (codeAny_call_builtin PySem.F.excAttr_ValueError.ga.plain PySem.F.entry_bexc_ga ?_)
  refine @check_slot (model prog w) _ _ ⟨hh, gg, dd, tt + 1, oos⟩ "BaseException.__getattribute__" "BaseException" "__getattribute__" (.ref x) [.str "__class__" tt] [] _ (by decide +kernel) (by decide +kernel) isB (PySem.F.args_bexc_ga (.ref x) (.str "__class__" tt)) ?_
  unfold Builtin.«object.__getattribute__»
  refine wpAny_bind (wpAny_of_eq (a := ((Value.ref x : Value), [Value.str "__class__" tt])) (by first | rfl | (simp only [slotArgs]; rfl)) ?_)
  refine wpAny_bind (wpAny_pure (wpAny_bind (t0.at (wpAny_bind (t3.at ?_)))))
  refine (show wpAny (model prog w) _ (holding [Value.builtin "object.__class__"] (call (.builtin "getset_descriptor.__get__") [.builtin "object.__class__", .ref x, .ref D]) >>= ret) _ _ _ from ?_)
  refine wpAny_bind (wpAny_holding (wpAny_call (class_get (s := ⟨hh, gg, dd, tt + 1, oos⟩) (ox := ox) (od := oo) Y J G.hm (wpAny_pure ?_))))
  refine (show wpAny (model prog w) _ (handedOut (.ref D)) _ _ _ from ?_)
  rw [handedOut_of (v := .ref D) rfl]
  first
    | exact wpAny_pure (wpAny_pure q)
    | exact wpAny_pure q
    | exact wpAny_pure (wpAny_bind (wpAny_pure (wpAny_pure q)))
/-- an own class at D stands in the written part as a class -/
theorem cls_there {K : Frag} {D : Addr} (h : hasDictIn K D = true) : ∃ c d' cd sl, K.lookup D = some ⟨c, d', .cls cd, sl⟩ := by
  obtain ⟨cd, hc, _⟩ := any_some h
  unfold clsIn at hc
  split at hc
  · rename_i c' d' cd' sl' ho
    exact ⟨c', d', cd', sl', ho⟩
  · cases hc
theorem kitx_excD {K : Frag} {x D : Addr} {ox : Obj} {oo : Option Obj} (G : ExcC K D) : KitX K (.ref x) (.ref D) (fun h => InstAt h x ox D oo) where
  ty := fun _ _ _ J => J.type
  it := fun _ _ Y _ => by
    obtain ⟨c', d', cd', sl', ho⟩ := cls_there G.hd
    intro A' Q' E' s' k q
    unfold isType loadHead
    exact wpAny_bind (wpAny_loadPart (k _ _ (Y _ _ ho)) (wpAny_pure q))
  ne := fun h tp dd its n sl Y htp => by
    obtain ⟨c', d', cd', sl', ho⟩ := cls_there G.hd
    refine Bool.eq_false_iff.mpr fun z => ?_
    have e : D = tp := Value.ref.inj (beq_iff_eq.mp z)
    subst e
    have z2 := (Y _ _ ho).symm.trans htp
    cases z2
  ca := fun Y J k => cls_of_exc G Y J k
end
theorem kit_same {K : PySem.W.Frag} {C : Addr} : PySem.W.kitOne K (.ref C) (.ref C) = some true := by
  unfold PySem.W.kitOne
  rw [if_pos (beq_self_eq_true _)]
theorem kit_own {K : PySem.W.Frag} {C D : Addr} {b : Bool} (n : ((Value.ref C) == (Value.ref D)) = false) (t : PySem.W.typeIn K (.ref D) = some (.type "type")) (d : PySem.W.hasDictIn K D = true) (s : PySem.W.subIn K (.ref C) (.ref D) = some b) : PySem.W.kitOne K (.ref C) (.ref D) = some b := by
  obtain ⟨cd, hc, _⟩ := PySem.W.any_some d
  unfold PySem.W.kitOne
  rw [if_neg (by rw [n]; exact Bool.false_ne_true)]
  show (if ((PySem.W.clsIn K D).isSome && PySem.W.typeIn K (.ref D) == some (.type "type")) = true then PySem.W.subIn K (.ref C) (.ref D) else none) = some b
  rw [hc, t, if_pos (by rfl)]
  exact s
/-- isinstance(e, c), e the caught error at a, its own dict at dd -/
def rIsD (K : PySem.W.Frag) (D a : Addr) (dd : Addr) : List V → Hp → VK → Prop := fun xs H Q => ∃ (c : V) (cv : Value) (b : Bool) (fs : List (Str × V)), xs = [.ref a, c] ∧ H dd = some (.xd fs) ∧ (∀ u, RelV c u → u = cv) ∧ PySem.W.kitOne K (.ref D) cv = some b ∧ Q (.bl b) H
theorem call_isD {X : Cx} {a D dd : Addr} {oe : Obj} {pn : List (Addr × Obj)} (G : ExcC X.K D) (hz : Zc (.ref D) (some dd) oe) (hf : ∃ vs, oe.data = .fields vs) : CallR (X.suite a ((a, oe) :: pn)) (.builtin "isinstance") (rIsD X.K D a dd) := by
  intro pins s σ H xs us Q I r h
  obtain ⟨c, cv, b, fs, rfl, hd, hcv, e, q⟩ := h
  obtain ⟨u1, u2, rfl, rx, rt⟩ := vals2 r
  cases rx
  have ec := hcv _ rt
  subst ec
  obtain ⟨hget, _⟩ := I.pin (a, oe) (List.mem_append.mpr (.inl List.mem_cons_self))
  obtain ⟨vs, hv⟩ := hf
  have hx : ObjOk X.prog X.w H s.heap dd (.xd fs) := I.hok dd _ hd
  obtain ⟨mA, hns, _⟩ := hx
  obtain ⟨od, ho, _⟩ := lookIn_ns hns
  have J : PySem.W.InstAt s.heap a oe D (some od) := ⟨hget, hz.1, by unfold PySem.W.notCls; rw [hv] <;> rfl, by rw [hz.2]; exact ho⟩
  exact PySem.W.kia_one (kitx_excD G) I.kIn J e (fun z => nomatch z) fun tk => ⟨.bl b, H, I.kept (t' := tk) fun _ _ z => z, rfl, q⟩
/-- the same, where it is told only later which class and which dict the caught error has -/
def rIsG (K : PySem.W.Frag) (D a : Addr) (cls : Value) (d : Option Addr) : List V → Hp → VK → Prop := fun xs H Q => cls = .ref D ∧ ∃ dd, d = some dd ∧ rIsD K D a dd xs H Q
theorem call_isG {X : Cx} {a D : Addr} {cls : Value} {d : Option Addr} {oe : Obj} {pn : List (Addr × Obj)} (G : ExcC X.K D) (hz : Zc cls d oe) (hf : ∃ vs, oe.data = .fields vs) : CallR (X.suite a ((a, oe) :: pn)) (.builtin "isinstance") (rIsG X.K D a cls d) := by
  intro pins s σ H xs us Q I r h
  obtain ⟨rfl, dd, rfl, h⟩ := h
  exact call_isD G hz hf pins s σ H xs us Q I r h
/-! ### C.__init__(self, ..), C an own class -/
structure ClsFn (K : PySem.W.Frag) (C fI : Addr) : Prop where
  ga : PySem.W.specialIn K (.ref C) "__getattribute__" = some (some (.builtin "type.__getattribute__"))
  rd : PySem.W.readsIn K C (.type "type") = true
  at_ : PySem.W.findCls K (.ref C) (.type "type") "__init__" = some (.val (.ref fI))
  kp : PySem.W.keepIn K (.ref fI) = true
theorem pe_cinit {X : Cx} {x : Str} {C fI : Addr} {CX : CXT} {k : Nat} {fd : FuncData} {ps : List Str} {sp : Sp} {ds : List Value} {dvs : List V} {E : XK} {e : Expr} {es : List Expr} {t : TA} {p1 p2 pos : Pos} {pl : Sem Bool} (T : ClsFn X.K C fI) (F : FnOk X.prog X.w X.K X.mg X.base CX k fI fd ps sp) (hr : Room k X.A)
    (hg : Gl X x) (hm : X.mg x = some (.ref C)) (hb : Binds X.K fd ps ds) (hd : Vals dvs ds) (hx : Passes CX X E) (ha : PA X (e :: es) t)
    (hc : eval (.Call (.Attribute (.Name x p1) "__init__" p2) (e :: es) [] pos) X.env = (do
      let ov ← eval (.Name x p1) X.env
      standAt p2.atName
      let (f, first) ← holding [ov] (getMethod ov "__init__" pl)
      callWith pos f first (backTo pos (starEach (e :: es) X.env)) (backToKw pos (keywordEach [] X.env))) := by rfl)
    (hdb : (x == ("__debug__" : Str)) = false := by decide) (he : starEach (e :: es) X.env = (false, eval e X.env) :: starEach es X.env := by rfl) (hpl : (backTo pos (starEach es X.env)).any (·.1) = false := by rfl) :
    PE X (.Call (.Attribute (.Name x p1) "__init__" p2) (e :: es) [] pos) (tCall sp dvs E t) := by
  refine ⟨fun pins s σ H Q I h => ?_⟩
  refine PySem.W.methodCall_KW (ld_glob I hg hm ?_ hdb) hc
  refine PySem.W.method_cls I.kIn T.ga (ClX.getcval_ok (v := .ref fI) (u := .ref fI) I ⟨T.rd, T.ga⟩ ⟨T.at_, rfl⟩ fun s1 I1 => ?_)
  refine (show wpAny (model X.prog X.w) X.A (callWith pos (.ref fI) [] (backTo pos (starEach (e :: es) X.env)) []) _ _ _ from ?_)
  refine PySem.W.callWith_K (h₀ := X.base) I.ok.mod.kin T.kp (thn (ha.run pos pins s1 σ H _ I1 h) fun us s2 ⟨vs, H1, I2, r, q⟩ => ⟨I2.kIn, ?_⟩) he hpl
  exact run_fn F hr hb hd hx I2 r q
section
variable {P : Program} {w : World} {K : PySem.W.Frag} {mg : Str → Option Value} {base : Heap}
abbrev sLE : Stmt := inClass cLetterError 0
abbrev FunA (K : PySem.W.Frag) (qual : Str) (st : Stmt) (dvs : List V) (f : Addr) (fd : FuncData) : Prop := FunD K "__init__" qual (defArgs st) (defBody st) (defScope st) dvs [] f fd
def spLE (K : PySem.W.Frag) : Sp := fun vs H Q _ => ∃ (a C : Addr) (v : V), vs = [.ref a, v] ∧ OexC K C ∧ H a = some (exo a C none) ∧ Q .non H
theorem scLE : FnScope ["self", "why"] ["self", "why"] (defScope sLE) := ⟨rfl, rfl, rfl, by decide +kernel, rfl, by decide +kernel, by decide +kernel⟩
theorem ok_LE {f : Addr} {fd : FuncData} (F : FunA K "LetterError.__init__" sLE [.str ""] f fd) (mV : mg "ValueError" = none) (vV : PySem.W.findCls K (.type "ValueError") (.type "type") "__init__" = some (.val (.builtin "ValueError.__init__"))) :
    FnOk P w K mg base CX0 1 f fd ["self", "why"] (spLE K) := by
  refine FunD.ok F scLE (fun vs H Q E h => ?_) (fun cdv A outer s H vs Q E hr h => ?_)
  · obtain ⟨a, C, v, rfl, _⟩ := h
    rfl
  · obtain ⟨a, C, v, rfl, T, hH, q⟩ := h
    refine ⟨_, pss_one (ps_expr (pe_veinit (by rfl) mV vV (pa_cons (pv 0) (pa_cons (pv 1) pa_nil)))), ?_⟩
    exact ⟨_, rfl, _, rfl, a, C, [v], rfl, by show 1 ≤ 1000; decide, T, hH, q⟩
theorem bind_LE {f : Addr} {fd : FuncData} (F : FunA K "LetterError.__init__" sLE [.str ""] f fd) : ∃ ds, Vals [] ds ∧ Binds K fd ["self", "why"] ds :=
  FunD.binds1 (ps := ["self", "why"]) F 2 1 (by simp) rfl fun T kV doc pm an cdv ct us its hu hi => match us, its, hu, hi with | [_, _], [_], _, _ => ⟨_, rfl, rfl⟩
/-- C(why, y): a new error of the class at C, its field set -/
def spFld (C : Addr) (fld : Str) : Sp := fun vs H Q _ => ∃ (a : Addr) (v y : V), vs = [.ref a, v, y] ∧ H a = some (exo a C none) ∧ ∀ dx, H dx = none → dx ≠ a → Q .non (upd (upd H dx (exd dx [(fld, y)])) a (exo a C (some dx)))
/-- what a raise of C(..) asks and gives -/
structure MkFld (P : Program) (w : World) (K : PySem.W.Frag) (mg : Str → Option Value) (base : Heap) (x : Str) (C : Addr) (fld : Str) : Prop where
  T : OexC K C
  g : mg x = some (.ref C)
  init : ∃ fI fd, PySem.W.findIn K (.ref C) "__init__" = some (some (.ref fI)) ∧ PySem.W.typeIn K (.ref fI) = some (.type "function") ∧ FnOk P w K mg base CX0 2 fI fd ["self", "why", fld] (spFld C fld) ∧
    (∃ ds, Vals [] ds ∧ Binds K fd ["self", "why", fld] ds) ∧ ∃ ds, Vals [.int 0] ds ∧ Binds K fd ["self", "why", fld] ds
/-- the leaf: what the raise gives -/
theorem mk_leaf {C : Addr} {fld : Str} {v y : V} {vs dvs : List V} {H1 : Hp} {Q : XK} (hv : vs ++ dvs = [v, y]) (hl : vs.length ≤ 2) (h : ∀ (d : Addr) (H' : Hp), Same H1 H' → H1 d = none → H' d = some (.xd [(fld, y)]) → Q (.ref C) (some d) H') :
    vs.length ≤ 1000 ∧ ∀ a, H1 a = none → spFld C fld (.ref a :: (vs ++ dvs)) (upd H1 a (exo a C none))
      (fun v H2 => v = .non ∧ ∃ (d : Addr) (fs : List (Str × V)), H2 a = some (exo a C (some d)) ∧ H2 d = some (exd d fs) ∧ H1 d = none ∧ Q (.ref C) (some d) (upd (del H2 a) d (.xd fs))) (fun _ _ _ => False) := by
  refine ⟨by omega, fun a na => ⟨a, v, y, by rw [hv], upd_same, fun dx n1 n2 => ?_⟩⟩
  rw [upd_ne n2] at n1
  refine ⟨rfl, dx, [(fld, y)], upd_same, by rw [upd_ne n2, upd_same], n1, h dx _ (fun b o e => ?_) n1 upd_same⟩
  have hb1 : b ≠ a := ne_of_none e na
  have hb2 : b ≠ dx := ne_of_none e n1
  rw [upd_ne hb2, del_ne hb1, upd_ne hb1, upd_ne hb2, upd_ne hb1]
  exact e
theorem pmk_fld {X : Cx} {x fld : Str} {C : Addr} {e : Expr} {es : List Expr} {ta : TA} {p pos : Pos} (M : MkFld X.prog X.w X.K X.mg X.base x C fld) (hr : Room (2 + 1) X.A) (hg : Gl X x) (ha : PA X (e :: es) ta) (dvs : List V) (hdv : dvs = [] ∨ dvs = [.int 0])
    (hdb : (x == ("__debug__" : Str)) = false := by decide) (he : starEach (e :: es) X.env = (false, eval e X.env) :: starEach es X.env := by rfl) (hpl : (backTo pos (starEach es X.env)).any (·.1) = false := by rfl) :
    PMk X (.Call (.Name x p) (e :: es) [] pos) (tMkO C (spFld C fld) dvs ta) := by
  obtain ⟨fI, fd, iC, tI, F1, ⟨ds1, v1, b1⟩, ⟨ds2, v2, b2⟩⟩ := M.init
  rcases hdv with rfl | rfl
  · exact pmk_oex M.T iC tI F1 hr b1 v1 pass0 hg M.g ha hdb he hpl
  · exact pmk_oex M.T iC tI F1 hr b2 v2 pass0 hg M.g ha hdb he hpl
end
end FL

namespace FL
open PySem PySem.Spec PyProof.Rows L2
/-! ### texts as lists of signs -/
def mk (l : List Nat) : Str := ⟨l.toArray⟩
theorem mk_codes (l : List Nat) : (mk l).cps.toList = l := by simp [mk]
theorem mk_of (z : Str) : mk z.cps.toList = z := TL.mk_tl z
theorem mk_eq {z : Str} {l : List Nat} (h : z.cps.toList = l) : z = mk l := by rw [← h, mk_of]
theorem mk_inj {l m : List Nat} (h : mk l = mk m) : l = m := by rw [← mk_codes l, h, mk_codes]
theorem mk_len (l : List Nat) : (mk l).length = l.length := by simp [mk, Str.length]
theorem mk_one (c : Nat) : mk [c] = ⟨#[c]⟩ := rfl
theorem mk_app (l m : List Nat) : mk l ++ mk m = mk (l ++ m) := by
  have h : (mk l ++ mk m).cps.toList = l ++ m := by
    have := TL.tl_append (mk l) (mk m)
    show (mk l ++ mk m).cps.toList = l ++ m
    rw [show (mk l ++ mk m).cps.toList = (mk l).cps.toList ++ (mk m).cps.toList from this, mk_codes, mk_codes]
  exact mk_eq h
/-! ### slices -/
theorem cutS_one (z : Str) (p : Nat) : (cutS z (some (p : Nat)) (some ((p + 1 : Nat) : Int))).cps.toList = (z.cps.toList.drop p).take 1 := by
  unfold cutS
  rw [HT.sIx_nat, HT.sIx_nat]
  show (List.take _ (List.drop _ _)) = _
  have hl := len_cps z
  by_cases h : p < z.length
  · rw [Nat.min_eq_left (by omega), Nat.min_eq_left (by omega), show p + 1 - p = 1 by omega]
  · rw [Nat.min_eq_right (by omega), Nat.min_eq_right (by omega), Nat.sub_self, List.take_zero, List.drop_eq_nil_of_le (by omega)]
    rfl
theorem cutS_nat (z : Str) {i j : Nat} (h1 : i ≤ z.length) (h2 : j ≤ z.length) : (cutS z (some (i : Nat)) (some (j : Nat))).cps.toList = (z.cps.toList.drop i).take (j - i) := by
  unfold cutS
  rw [HT.sIx_nat, HT.sIx_nat]
  show (List.take _ (List.drop _ _)) = _
  rw [Nat.min_eq_left h1, Nat.min_eq_left h2]
theorem cps_at {z : Str} {p c : Nat} (h : z.cps[p]? = some c) : z.cps.toList[p]? = some c := by rw [Array.getElem?_toList]; exact h
theorem drop_at {l : List Nat} {p c : Nat} (h : l[p]? = some c) : l.drop p = c :: l.drop (p + 1) := by
  have hb : p < l.length := (List.getElem?_eq_some_iff.mp h).1
  have e : l[p] = c := (List.getElem?_eq_some_iff.mp h).2
  rw [List.drop_eq_getElem_cons hb, e]
section
variable {P : Program} {w : World} {K : PySem.W.Frag} {mg : Str → Option Value} {base : Heap}
theorem sign_is {c d : Nat} {x : Str} (hx : x = ⟨#[d]⟩) : decide (V.str ⟨#[c]⟩ = V.str x) = decide (c = d) := by
  rw [hx]
  exact decide_eq_decide.mpr str_one
def ReadyX (P : Program) (w : World) (K : PySem.W.Frag) (mg : Str → Option Value) (base : Heap) (k : Nat) (x : Str) (ps : List Str) (sp : Sp) : Prop :=
  ∃ f fd, mg x = some (.ref f) ∧ PySem.W.keepIn K (.ref f) = true ∧ Binds K fd ps [] ∧ FnOk P w K mg base (L2.CX P w) k f fd ps sp
theorem readyX_of {x : Str} {st : Stmt} {k : Nat} {ps : List Str} {sp : Sp} (A : FnAt K mg x st)
    (hb : ∀ (kV doc pm : Value) (an : Option Addr) (cdv ct : Value) (us : List Value), us.length = ps.length → bindArgs (PySem.W.fnOf x x (defArgs st) (defBody st) (defScope st) .none kV doc pm an cdv ct) ⟨us, []⟩ = pure (ps.zip us))
    (ok : ∀ f fd, Fun K x x st f fd → FnOk P w K mg base (L2.CX P w) k f fd ps sp) : ReadyX P w K mg base k x ps sp := by
  obtain ⟨f, fd, F, g⟩ := A.ex
  exact ⟨f, fd, g, F.kp, F.binds hb, ok f fd F⟩
/-- v is no text without line feeds -/
def NoLine (K : PySem.W.Frag) (H : Hp) (v : V) : Prop := (∃ z : Str, v = .str z ∧ z.length ≤ 10000 ∧ isLn z.cps.toList = false) ∨ (∃ t, TyX K H v t ∧ PySem.W.kitOne K t (.type "str") = some false)
/-- an error of the class at C with its field at y is wished for -/
def Fails (C : Addr) (fld : Str) (y : Int) (H : Hp) (E : XK) : Prop := ∀ (d : Addr) H', Same H H' → H d = none → H' d = some (.xd [(fld, .int y)]) → E (.ref C) (some d) H'
theorem Fails.later {C : Addr} {fld : Str} {y : Int} {H H1 : Hp} {E : XK} (h : Fails C fld y H E) (s : Same H H1) : Fails C fld y H1 E := fun d H' s' n e => h d H' (s.trans s') (Same.free s n) e
theorem len_append (a b : Str) : (a ++ b).length = a.length + b.length := by
  have := TL.tl_append a b
  rw [← len_cps, ← len_cps, ← len_cps]
  rw [show (a ++ b).cps.toList = a.cps.toList ++ b.cps.toList from this, List.length_append]
end
end FL

namespace FL
open PySem PySem.Spec PyProof.Rows L2
theorem strOk_of {z : Str} (h : ∀ c ∈ z.cps.toList, c < 128) : PyData.strOk z = true := by
  unfold PyData.strOk
  rw [← Array.all_toList]
  refine List.all_eq_true.mpr fun c hc => decide_eq_true ?_
  have := h c hc
  omega
theorem canLayAll_of : ∀ {ds : List PyData}, (∀ d ∈ ds, d.canLay0 = true) → PyData.canLayAll0 ds = true
  | [], _ => by simp [PyData.canLayAll0]
  | d :: r, h => by
    rw [PyData.canLayAll0, h d (List.mem_cons_self ..), canLayAll_of fun x hx => h x (List.mem_cons_of_mem _ hx)]
    rfl
theorem depthAll_of {k : Nat} : ∀ {ds : List PyData}, (∀ d ∈ ds, d.depth ≤ k) → PyData.depthAll ds ≤ k
  | [], _ => by simp [PyData.depthAll]
  | d :: r, h => by
    rw [PyData.depthAll]
    exact Nat.max_le.mpr ⟨h d (List.mem_cons_self ..), depthAll_of fun x hx => h x (List.mem_cons_of_mem _ hx)⟩
theorem canLay_str {z : Str} (h : PyData.strOk z = true) : (PyData.str z).canLay0 = true := by
  unfold PyData.canLay0
  exact h
theorem shaped_of {d : PyData} (h : d.canLay0 = true) (k : d.depth ≤ 64) : SeqAt.shaped d = true := by
  unfold SeqAt.shaped
  rw [h, decide_eq_true k]
  rfl
theorem shaped_strs {zs : List Str} (h : ∀ z ∈ zs, PyData.strOk z = true) : SeqAt.shaped (.list (zs.map PyData.str)) = true := by
  refine shaped_of ?_ ?_
  · rw [PyData.canLay0]
    refine canLayAll_of fun d hd => ?_
    obtain ⟨z, hz, rfl⟩ := List.mem_map.mp hd
    exact canLay_str (h z hz)
  · rw [PyData.depth]
    have : PyData.depthAll (zs.map PyData.str) ≤ 0 := depthAll_of fun d hd => by
      obtain ⟨z, hz, rfl⟩ := List.mem_map.mp hd
      rw [PyData.depth]
      exact Nat.le_refl _
    omega
theorem dp_strs {K : PySem.W.Frag} {H : Hp} : ∀ zs : List Str, DpAll K H (zs.map V.str) (zs.map PyData.str)
  | [] => .nil
  | z :: r => .cons (.str z) (dp_strs r)
theorem eqv_nil (ds : List PyData) : PyData.eqv (.list ds) (.list []) = ds.isEmpty := by
  cases ds <;> simp [PyData.eqv, PyData.eqvAll]
theorem same_drawn {H H1 H2 : Hp} {p : Addr} (s : Same H H1) (n : H p = none) (d : Drawn p H1 H2) : Same H H2 := fun b o e => d.old b o (ne_of_none e n) (s b o e)
theorem app_codes (a b : Str) : (a ++ b).cps.toList = a.cps.toList ++ b.cps.toList := TL.tl_append a b
/-- a list of texts as data: in order, and itself -/
theorem strs_ok {zs : List Str} (h : ∀ z ∈ zs, PyData.strOk z = true) : SeqAt.shaped (.list (zs.map PyData.str)) = true ∧ PyData.eqv (.list (zs.map PyData.str)) (.list (zs.map PyData.str)) = true := by
  have hs := shaped_strs h
  exact ⟨hs, SeqAt.eqv_refl _ (Bool.and_eq_true_iff.mp hs).1⟩
end FL


namespace FL
open PySem PySem.Spec PyProof.Rows L2
/-! ### lists of whole numbers -/
def iv (l : List Nat) : List V := l.map fun n : Nat => V.int (n : Int)
theorem iv_len (l : List Nat) : (iv l).length = l.length := List.length_map ..
theorem iv_app (l m : List Nat) : iv (l ++ m) = iv l ++ iv m := List.map_append ..
theorem iv_at {l : List Nat} {i n : Nat} (h : l[i]? = some n) : (iv l)[i]? = some (.int (n : Int)) := by
  unfold iv
  rw [List.getElem?_map, h]
  rfl
theorem iv_take (l : List Nat) (n : Nat) : iv (l.take n) = (iv l).take n := List.map_take ..
theorem iv_drop (l : List Nat) (n : Nat) : iv (l.drop n) = (iv l).drop n := List.map_drop ..
theorem iv_inj {l m : List Nat} (h : iv l = iv m) : l = m := by
  induction l generalizing m with
  | nil => cases m with
    | nil => rfl
    | cons b r => cases h
  | cons a r ih => cases m with
    | nil => cases h
    | cons b s =>
      have h1 := (List.cons.inj h).1
      have h2 := (List.cons.inj h).2
      injection h1 with h1
      rw [show a = b by omega, ih h2]
def idt (l : List Nat) : List PyData := l.map fun n : Nat => PyData.int (n : Int)
theorem dp_ints {K : PySem.W.Frag} {H : Hp} : ∀ l : List Nat, DpAll K H (iv l) (idt l)
  | [] => .nil
  | z :: r => .cons (.int _) (dp_ints r)
theorem shaped_ints (l : List Nat) : SeqAt.shaped (.list (idt l)) = true := by
  refine shaped_of ?_ ?_
  · rw [PyData.canLay0]
    refine canLayAll_of fun d hd => ?_
    obtain ⟨z, hz, rfl⟩ := List.mem_map.mp hd
    rw [PyData.canLay0]
  · rw [PyData.depth]
    have : PyData.depthAll (idt l) ≤ 0 := depthAll_of fun d hd => by
      obtain ⟨z, hz, rfl⟩ := List.mem_map.mp hd
      rw [PyData.depth]
      exact Nat.le_refl _
    omega
theorem eqv_ints_all : ∀ l m : List Nat, PyData.eqvAll (idt l) (idt m) = decide (l = m)
  | [], [] => by simp [idt, PyData.eqvAll]
  | [], b :: s => by simp [idt, PyData.eqvAll]
  | a :: r, [] => by simp [idt, PyData.eqvAll]
  | a :: r, b :: s => by
    have ih := eqv_ints_all r s
    show PyData.eqvAll (PyData.int a :: idt r) (PyData.int b :: idt s) = _
    rw [PyData.eqvAll, ih]
    have e : PyData.eqv (.int (a : Int)) (.int (b : Int)) = decide (a = b) := by
      simp only [PyData.eqv]
      by_cases h : a = b
      · subst h; simp
      · rw [decide_eq_false h]
        simp [h]
        try omega
    rw [e]
    by_cases h1 : a = b <;> by_cases h2 : r = s <;> simp [h1, h2]
theorem eqv_ints (l m : List Nat) : PyData.eqv (.list (idt l)) (.list (idt m)) = decide (l = m) := by
  rw [← eqv_ints_all]
  simp only [PyData.eqv]
/-- two lists of whole numbers as data -/
theorem dpl {K : PySem.W.Frag} {H : Hp} {a : Addr} {l : List Nat} (h : H a = some (.lst (iv l))) : Dp K H (.ref a) (.list (idt l)) := .lst (SqL.of h) (dp_ints l)
theorem dplS {K : PySem.W.Frag} {H : Hp} {a : Addr} {l : List Nat} (h : SqL K H a (iv l)) : Dp K H (.ref a) (.list (idt l)) := .lst h (dp_ints l)
/-! ### whole numbers -/
inductive Whole (K : PySem.W.Frag) (H : Hp) : V → Option Int → Prop
  | int (n : Int) : Whole K H (.int n) (some n)
  | bl (b : Bool) : Whole K H (.bl b) none
  | oth {v : V} {t : Value} (h : TyX K H v t) (k : PySem.W.kitOne K t (.type "int") = some false) : Whole K H v none
theorem TyOf.same {K : PySem.W.Frag} {H H' : Hp} {v : V} {t : Value} (s : Same H H') (h : TyOf K H v t) : TyOf K H' v t := by
  cases h with
  | non => exact .non
  | bl x => exact .bl x
  | int i => exact .int i
  | str x => exact .str x
  | flt x => exact .flt x
  | lst e => exact .lst (s _ _ e)
  | frz e => exact .frz (s _ _ e)
  | tup e => exact .tup (s _ _ e)
  | dK e => exact .dK (s _ _ e)
  | dT e => exact .dT (s _ _ e)
  | ins e cl ha hn htk hm => exact .ins (s _ _ e) cl ha hn htk hm
theorem TyX.same {K : PySem.W.Frag} {H H' : Hp} {v : V} {t : Value} (s : Same H H') (h : TyX K H v t) : TyX K H' v t := by
  cases h with
  | base h => exact .base (TyOf.same s h)
  | byt b => exact .byt b
  | set e => exact .set (s _ _ e)
  | kList e c => exact .kList e c
  | kTuple e c => exact .kTuple e c
  | kDict e c => exact .kDict e c
  | fTuple e => exact .fTuple (s _ _ e)
  | fDict e => exact .fDict (s _ _ e)
theorem Whole.same {K : PySem.W.Frag} {H H' : Hp} {v : V} {o : Option Int} (s : Same H H') (h : Whole K H v o) : Whole K H' v o := by
  cases h with
  | int n => exact .int n
  | bl b => exact .bl b
  | oth h k => exact .oth (TyX.same s h) k
/-- a def by another global name -/
structure FnAs (K : PySem.W.Frag) (mg : Str → Option Value) (x y : Str) (st : Stmt) : Prop where
  ex : ∃ f fd, Fun K y y st f fd ∧ mg x = some (.ref f)
section
variable {P : Program} {w : World} {K : PySem.W.Frag} {mg : Str → Option Value} {base : Heap}
theorem FnAt.as {x : Str} {st : Stmt} (A : FnAt K mg x st) : FnAs K mg x x st := ⟨A.ex⟩
theorem ready_as {x y : Str} {st : Stmt} {k : Nat} {ps : List Str} {sp : Sp} (A : FnAs K mg x y st)
    (hb : ∀ (kV doc pm : Value) (an : Option Addr) (cdv ct : Value) (us : List Value), us.length = ps.length → bindArgs (PySem.W.fnOf y y (defArgs st) (defBody st) (defScope st) .none kV doc pm an cdv ct) ⟨us, []⟩ = pure (ps.zip us))
    (ok : ∀ f fd, Fun K y y st f fd → FnOk P w K mg base CX0 k f fd ps sp) : Ready P w K mg base k x ps sp := by
  obtain ⟨f, fd, F, g⟩ := A.ex
  exact ⟨f, fd, g, F.kp, F.binds hb, ok f fd F⟩
def spWhole (K : PySem.W.Frag) (f : Option Int → Bool) : Sp := fun vs H Q _ => ∃ v o, vs = [v] ∧ Whole K H v o ∧ Q (.bl (f o)) H
theorem scIsWhole : FnScope ["value"] ["value"] (defScope sIsWhole) := ⟨rfl, rfl, rfl, by decide +kernel, rfl, by decide +kernel, by decide +kernel⟩
theorem r_is_whole (A : FnAt K mg "is_whole" sIsWhole) (m_isinstance : mg "isinstance" = none) (m_int : mg "int" = none) (m_bool : mg "bool" = none) : Ready P w K mg base 1 "is_whole" ["value"] (spWhole K Option.isSome) := by
  refine ready_of A (fun _ _ _ _ _ _ us hl => match us, hl with | [_], _ => rfl) fun f fd F => ?_
  refine F.ok scIsWhole (fun vs H Q E h => ?_) (fun cdv A outer s H vs Q E hr h => ?_)
  · obtain ⟨v, o, rfl, _⟩ := h
    rfl
  · obtain ⟨v, o, rfl, hw, q⟩ := h
    refine ⟨_, pss_one (ps_ret (pe_and (pe_callB call_isi (by rfl) m_isinstance (by decide +kernel) (pa_cons (pv 0) (pa_cons (pe_bltn (v := .ty "int") (by rfl) m_int (by decide +kernel) rfl) pa_nil))) (pe_one (pe_not (pe_callB call_isi (by rfl) m_isinstance (by decide +kernel) (pa_cons (pv 0) (pa_cons (pe_bltn (v := .ty "bool") (by rfl) m_bool (by decide +kernel) rfl) pa_nil))))))), ?_⟩
    cases hw with
    | int n =>
      refine ⟨_, rfl, _, _, .type "int", .type "int", true, rfl, ClsV.ty "int", .base (.int n), kit_ty (by decide +kernel), true, rfl, iteT ?_⟩
      exact ⟨_, rfl, _, _, .type "int", .type "bool", false, rfl, ClsV.ty "bool", .base (.int n), kit_ty (by decide +kernel), false, rfl, q⟩
    | bl b =>
      refine ⟨_, rfl, _, _, .type "bool", .type "int", true, rfl, ClsV.ty "int", .base (.bl b), kit_ty (by decide +kernel), true, rfl, iteT ?_⟩
      exact ⟨_, rfl, _, _, .type "bool", .type "bool", true, rfl, ClsV.ty "bool", .base (.bl b), kit_ty (by decide +kernel), true, rfl, q⟩
    | oth h k =>
      exact ⟨_, rfl, _, _, _, .type "int", false, rfl, ClsV.ty "int", h, k, false, rfl, iteF q⟩
def isSgnI (n : Int) : Bool := decide (32 ≤ n ∧ n ≤ 65535)
def isOctI (n : Int) : Bool := decide (0 ≤ n ∧ n ≤ 255)
theorem rng_b {a b c : Int} : (if decide (a ≤ b) = true then decide (b ≤ c) else false) = decide (a ≤ b ∧ b ≤ c) := by
  by_cases h1 : a ≤ b <;> by_cases h2 : b ≤ c <;> simp [h1, h2]
theorem scIsSaySign : FnScope ["value"] ["value"] (defScope sIsSaySign) := ⟨rfl, rfl, rfl, by decide +kernel, rfl, by decide +kernel, by decide +kernel⟩
theorem r_is_say_sign {y : Str} (A : FnAs K mg y "_is_sign" sIsSaySign) (RW : Ready P w K mg base 1 "is_whole" ["value"] (spWhole K Option.isSome)) {t1 t2 : Tok} (m_BLANK : mg "BLANK" = some (.int 32 t1)) (m_GREATEST_SIGN : mg "GREATEST_SIGN" = some (.int 65535 t2)) :
    Ready P w K mg base 2 y ["value"] (spWhole K fun o => o.any isSgnI) := by
  obtain ⟨f1, fd1, g1, k1, b1, G1⟩ := RW
  refine ready_as A (fun _ _ _ _ _ _ us hl => match us, hl with | [_], _ => rfl) fun f fd F => ?_
  refine F.ok scIsSaySign (fun vs H Q E h => ?_) (fun cdv A outer s H vs Q E hr h => ?_)
  · obtain ⟨v, o, rfl, _⟩ := h
    rfl
  · obtain ⟨v, o, rfl, hw, q⟩ := h
    refine ⟨_, pss_one (ps_ret (pe_and (pe_call G1 (hr.mono (by decide)) (by rfl) g1 k1 b1 .nil pass0 (pa_cons (pv 0) pa_nil)) (pe_one (pe_chain op_le op_le (pe_glob (v := .int 32) rfl m_BLANK ⟨_, rfl⟩) (pv 0) (pe_glob (v := .int 65535) rfl m_GREATEST_SIGN ⟨_, rfl⟩) (by with_unfolding_all rfl))))), ?_⟩
    refine ⟨_, rfl, v, o, rfl, hw, _, rfl, ?_⟩
    cases hw with
    | int n =>
      refine iteT ⟨_, rfl, _, _, rfl, rfl, _, rfl, ite2 (fun h => ⟨_, _, rfl, rfl, bl_to ?_ q⟩) (fun h => bl_to ?_ q)⟩
      · have h1 := of_decide_eq_true h
        show decide (n ≤ 65535) = decide (32 ≤ n ∧ n ≤ 65535)
        exact decide_eq_decide.mpr ⟨fun z => ⟨h1, z⟩, fun z => z.2⟩
      · show false = decide (32 ≤ n ∧ n ≤ 65535)
        exact (decide_eq_false fun z => h (decide_eq_true z.1)).symm
    | bl b => exact iteF q
    | oth h k => exact iteF q
/-- is a list all of whose things are such whole numbers; of a list told by what its things are, of no list, False -/
def spAll (K : PySem.W.Frag) (f : Option Int → Bool) : Sp := fun vs H Q _ => ∃ v, vs = [v] ∧
  ((∃ a xs os, v = .ref a ∧ H a = some (.lst xs) ∧ xs.length ≤ 10000 ∧ Paired (Whole K H) xs os ∧ ∀ H', Same H H' → Q (.bl (os.all f)) H') ∨
   (∃ t, TyX K H v t ∧ PySem.W.kitOne K t (.type "list") = some false ∧ Q (.bl false) H))
theorem paired_at {α β : Type} {R : α → β → Prop} : ∀ {xs : List α} {os : List β} {i : Nat} {x : α}, Paired R xs os → xs[i]? = some x → ∃ o, os[i]? = some o ∧ R x o
  | _, _, _, _, .nil, h => by simp at h
  | _, _, 0, _, .cons h _, e => by
    injection e with e
    subst e
    exact ⟨_, rfl, h⟩
  | _, _, i + 1, _, .cons _ t, e => paired_at (i := i) t e
theorem scIsSaying : FnScope ["value", "sign"] ["value"] (defScope sIsSaying) := ⟨rfl, rfl, rfl, by decide +kernel, rfl, by decide +kernel, by decide +kernel⟩
theorem r_is_saying (A : FnAt K mg "is_saying" sIsSaying) (RW : Ready P w K mg base 2 "_is_sign" ["value"] (spWhole K fun o => o.any isSgnI)) (m_isinstance : mg "isinstance" = none) (m_list : mg "list" = none) (m_all : mg "all" = none) :
    Ready P w K mg base 3 "is_saying" ["value"] (spAll K fun o => o.any isSgnI) := by
  obtain ⟨f1, fd1, g1, k1, b1, G1⟩ := RW
  refine ready_of A (fun _ _ _ _ _ _ us hl => match us, hl with | [_], _ => rfl) fun f fd F => ?_
  refine F.ok scIsSaying (fun vs H Q E h => ?_) (fun cdv A outer s H vs Q E hr h => ?_)
  · obtain ⟨v, rfl, _⟩ := h
    rfl
  · obtain ⟨v, rfl, h⟩ := h
    have sc := scIsSaying
    refine ⟨_, pss_one (ps_ret (pe_and (pe_callB call_isi (by rfl) m_isinstance (by decide +kernel) (pa_cons (pv 0) (pa_cons (pe_bltn (v := .ty "list") (by rfl) m_list (by decide +kernel) rfl) pa_nil))) (pe_one (pe_callB (cr_all rfl) (by rfl) m_all (by decide +kernel) (pa_cons (pe_lc (own := [("sign", 1)]) (g := gName 1) (tt := tYes) (by rfl) sc.nd (pi_list (pv 0)) (blkOk_by (own := [("sign", 1)]) (N := ["value", "sign"]) (sc := defScope sIsSaying) (by decide +kernel)) (fun _ _ _ _ _ => (pg_name (i := 1) sc.nd rfl (Or.inl rfl))) (fun _ _ _ _ _ => pts_nil) (fun _ _ _ _ _ => (pe_call G1 (hr.mono (by decide)) (by rfl) g1 k1 b1 .nil pass0 (pa_cons (pv 1) pa_nil)))) pa_nil))))), ?_⟩
    rcases h with ⟨a, xs, os, rfl, hH, hl, hp, q⟩ | ⟨t, ht, hk, q⟩
    · refine ⟨_, rfl, _, _, .type "list", .type "list", true, rfl, ClsV.ty "list", .base (.lst hH), kit_ty (by decide +kernel), true, rfl, iteT ?_⟩
      refine ⟨_, rfl, a, rfl, ⟨_, SqL.of hH⟩, fun D hD => ?_⟩
      have hDa : D ≠ a := fun e => by rw [e, hH] at hD; cases hD
      have hlen : xs.length = os.length := hp.length
      refine lc_it (walk_list (K := K) (a := a) (xs := xs)) (fun i H' => Same H H' ∧ H' D = some (.lst ((os.take i).map fun o => V.bl (o.any isSgnI)))) ⟨same_new hD, upd_same⟩ (fun i H' _ p => SqL.of (p.1 _ _ hH)) (fun i x H1 H2 hi hp1 hy => ?_) (fun H1 hp1 => ?_)
      · obtain ⟨rfl, hx⟩ := hy
        obtain ⟨sm, hd⟩ := hp1
        obtain ⟨o, ho, hw⟩ := paired_at hp hx
        refine ⟨rfl, ?_⟩
        unfold tYes
        refine iteT ?_
        refine ⟨_, rfl, _, o, rfl, Whole.same sm hw, _, hd, ?_, same_set sm hD, ?_⟩
        · rw [List.length_map]
          exact Nat.lt_of_le_of_lt (List.length_take_le _ _) (szl (by omega))
        · rw [upd_same, take_more ho, List.map_append]
          rfl
      · obtain ⟨sm, hd⟩ := hp1
        have e : os.take xs.length = os := List.take_of_length_le (by omega)
        rw [e] at hd
        refine ⟨D, os.map fun o => o.any isSgnI, rfl, SqL.of (by rw [List.map_map]; exact hd), bl_to ?_ (q H1 sm)⟩
        rw [List.all_map]
        rfl
    · exact ⟨_, rfl, _, _, t, .type "list", false, rfl, ClsV.ty "list", ht, hk, false, rfl, iteF q⟩
theorem whole_ints {K : PySem.W.Frag} {H : Hp} : ∀ l : List Nat, Paired (Whole K H) (iv l) (l.map fun n : Nat => some (n : Int))
  | [] => .nil
  | n :: r => .cons (.int _) (whole_ints r)
theorem all_oct {l : List Nat} (h : ∀ n ∈ l, n < 256) : (l.map fun n : Nat => some (n : Int)).all (fun o => o.any isOctI) = true := by
  rw [List.all_map]
  refine List.all_eq_true.mpr fun n hn => ?_
  have := h n hn
  show isOctI (n : Int) = true
  exact decide_eq_true (by omega)
theorem all_sgn {l : List Nat} (h : ∀ n ∈ l, 32 ≤ n ∧ n ≤ 65535) : (l.map fun n : Nat => some (n : Int)).all (fun o => o.any isSgnI) = true := by
  rw [List.all_map]
  refine List.all_eq_true.mpr fun n hn => ?_
  have := h n hn
  show isSgnI (n : Int) = true
  exact decide_eq_true (by omega)
end
end FL


namespace FL
open PySem PySem.Spec PyProof.Rows L2
/-! ### C(why), C an own exception class without an own __init__, its base's one sets no field -/
section
variable {X : Cx} {e : Expr} {es : List Expr} {ta : TA} {p pos : Pos}
theorem mk_endN {pins : List (Addr × Obj)} {σ : L2.St} {H1 H2 : Hp} {hp hp2 h2 : Heap} {g1 g2 : Array GenState} {d1 d2 : PySem.Drawn} {t1 t2 : Nat} {os1 os2 : OsState} {a C : Addr} (I1 : Inv X pins σ H1 ⟨hp, g1, d1, t1, os1⟩)
    (ha : hp.objs.size ≤ a) (k : ∀ b o, hp.get? b = some o → hp2.get? b = some o) (un : Un (frs X.stack) [] (upd H1 a (exo a C none)) H2 hp2 h2) (hok : HOk X.prog X.w H2 h2) (ho : os2 = os1) (hb : AllBare g2)
    (ea : H2 a = some (exo a C none)) :
    ∃ (t0 : Addr) (G : Heap), Inv X pins σ (del H2 a) ⟨G, g2, d2, t2, os2⟩ ∧ (∀ b o, G.get? b = some o → h2.get? b = some o) ∧ G.get? a = none ∧
      h2.get? a = some ({ cls := .ref C, dict := none, data := .fields #[.ref t0, .none, .none, .none, .bool false, .none] } : Obj) ∧ (del H2 a) a = none := by
  obtain ⟨t0, hoe⟩ := exo_at hok ea
  have hn : H1 a = none := I1.hok.fresh ha
  obtain ⟨G, g1', g2'⟩ := restrict h2 fun b => decide (b ≠ a)
  have gk : ∀ b, b ≠ a → G.get? b = h2.get? b := fun b hb => g1' b (decide_eq_true hb)
  have ge : G.get? a = none := g2' a (by simp)
  have nha : ∀ {b : Addr} {o : Obj}, hp.get? b = some o → b ≠ a := fun {b o} z => Nat.ne_of_lt (Nat.lt_of_lt_of_le (Heap.lt_size z) ha)
  have up : ∀ {b : Addr}, b ≠ a → H1 b = none → upd H1 a (exo a C none) b = none := fun {b} hb n => by rw [upd_ne hb]; exact n
  have U : Un (frs X.stack) [] H1 (del H2 a) hp G := {
    keep := fun b o z n hf hx => by
      rw [gk b (nha z)]
      exact un.keep b o (k b o z) (up (nha z) n) hf hx
    slot := fun b o z n hf hx => by
      rw [gk b (nha z)]
      exact un.slot b o (k b o z) (up (nha z) n) hf hx
    free := fun b o z n hx => by
      rw [del_ne (nha z)]
      exact un.free b o (k b o z) (up (nha z) n) hx
    there := fun b o z hx => by
      rw [gk b (nha z)]
      exact un.there b o (k b o z) hx
    tups := fun b xs z => by
      rw [del_ne (ne_of_none z hn)]
      exact un.tups b xs (by rw [upd_ne (ne_of_none z hn)]; exact z)
    frzs := fun b o v z => by
      rw [del_ne (ne_of_none z hn)]
      exact un.frzs b o v (by rw [upd_ne (ne_of_none z hn)]; exact z)
    tbls := fun b ps z => by
      rw [del_ne (ne_of_none z hn)]
      exact un.tbls b ps (by rw [upd_ne (ne_of_none z hn)]; exact z) }
  have hok3 : HOk X.prog X.w (del H2 a) G := fun b o z => by
    have hba : b ≠ a := fun e => by
      rw [e, del_same] at z
      cases z
    rw [del_ne hba] at z
    have noa : ∀ {c : Addr}, H2 c = some (.own b) → c ≠ a := fun {c} hc => at_ne ea hc exo_own
    exact (hok b o z).stay (fun c v hc y => by
        have hca : c ≠ a := by
          rcases hc with hc | hc
          · rw [hc]
            exact hba
          · exact noa hc
        rw [gk c hca]
        exact y)
      (fun c hc => by rw [del_ne (noa hc)]; exact hc) (fun c xs hc => by rw [del_ne (at_ne ea hc exo_tup)]; exact hc)
  have J : Inv X pins σ (del H2 a) ⟨G, g2, d2, t2, os2⟩ := I1.call' (ch := []) ho U hok3 hb (fun b z => absurd z (by simp))
  refine ⟨t0, G, J, fun b o z => ?_, ge, hoe, del_same⟩
  by_cases hba : b = a
  · rw [hba, ge] at z
    cases z
  · exact (gk b hba).symm.trans z
/-- what a raise of such a C(..) asks -/
structure MkN (P : Program) (w : World) (K : PySem.W.Frag) (mg : Str → Option Value) (base : Heap) (x : Str) (C : Addr) : Prop where
  T : OexC K C
  g : mg x = some (.ref C)
  init : ∃ fI fd, PySem.W.findIn K (.ref C) "__init__" = some (some (.ref fI)) ∧ PySem.W.typeIn K (.ref fI) = some (.type "function") ∧ FnOk P w K mg base CX0 1 fI fd ["self", "why"] (spLE K) ∧ ∃ ds, Vals [] ds ∧ Binds K fd ["self", "why"] ds
theorem del_upd {H : Hp} {a : Addr} {o : HO} (h : H a = none) : del (upd H a o) a = H := by
  funext b
  by_cases e : b = a
  · rw [e, del_same, h]
  · rw [del_ne e, upd_ne e]
theorem pmk_non {x : Str} {C : Addr} (M : MkN X.prog X.w X.K X.mg X.base x C) (hr : Room (1 + 1) X.A) (hg : Gl X x) (ha : PA X (e :: es) ta)
    (hdb : (x == ("__debug__" : Str)) = false := by decide) (he : starEach (e :: es) X.env = (false, eval e X.env) :: starEach es X.env := by rfl) (hpl : (backTo pos (starEach es X.env)).any (·.1) = false := by rfl) :
    PMk X (.Call (.Name x p) (e :: es) [] pos) (fun σ H Q => ta σ H fun vs H1 => (∃ v, vs = [v]) ∧ Q (.ref C) none H1) := by
  intro pins s σ H Q I h
  obtain ⟨T, hm, fI, fd, iC, tI, F1, ds, hd, hb⟩ := M
  obtain ⟨nm, q, N, bs, bm, sn, sub, ab, col, dd, k0, k1, k2, k3, k5, hC, hbm⟩ := T.cls
  refine wpAny_Call_Name_kw (ld_glob I hg hm ?_ hdb)
  refine PySem.W.callWith_K (h₀ := X.base) I.ok.mod.kin T.kC (thn (ha.run pos pins s σ H _ I h) fun us s1 ⟨vs, H1, I1, r1, ⟨w0, hz⟩, q1⟩ => ⟨I1.kIn, ?_⟩) he hpl
  subst hz
  show wpAny _ _ (call (.ref C) us) _ _ _
  obtain ⟨hp, g, dr, tk, os⟩ := s1
  have hsz : hp.objs.size ≤ hp.objs.size + 1 := Nat.le_succ _
  have hn : H1 (hp.objs.size + 1) = none := I1.hok.fresh hsz
  have kk : ∀ b o, hp.get? b = some o → ((hp.push (PySem.W.kdv_tup us)).push (PySem.HandSPX.excO C hp.objs.size)).get? b = some o := fun b o e => Heap.get?_push_of_some _ (Heap.get?_push_of_some _ e)
  have hget : ((hp.push (PySem.W.kdv_tup us)).push (PySem.HandSPX.excO C hp.objs.size)).get? (hp.objs.size + 1) = some (PySem.HandSPX.excO C hp.objs.size) := by heap_get
  have I2 : Inv X pins σ (upd H1 (hp.objs.size + 1) (exo (hp.objs.size + 1) C none)) ⟨(hp.push (PySem.W.kdv_tup us)).push (PySem.HandSPX.excO C hp.objs.size), g, dr, tk, os⟩ :=
    I1.laid (t' := tk) (a := hp.objs.size + 1) (o := exo (hp.objs.size + 1) C none) (h' := (hp.push (PySem.W.kdv_tup us)).push (PySem.HandSPX.excO C hp.objs.size)) kk hsz (exo_ok hget)
  have r2 : Vals (V.ref (hp.objs.size + 1) :: ([w0] ++ [])) (Value.ref (hp.objs.size + 1) :: (us ++ ds)) := .cons rfl (r1.append hd)
  have hq : spLE X.K [.ref (hp.objs.size + 1), w0] (upd H1 (hp.objs.size + 1) (exo (hp.objs.size + 1) C none)) (fun v H2 => v = .non ∧ H2 (hp.objs.size + 1) = some (exo (hp.objs.size + 1) C none) ∧ Q (.ref C) none (del H2 (hp.objs.size + 1))) (fun _ _ _ => False) :=
    ⟨_, C, w0, rfl, T, upd_same, rfl, upd_same, by rw [del_upd hn]; exact q1⟩
  have hl : (Value.ref (hp.objs.size + 1) :: us ++ ds).length = 2 := by
    exact r2.length.symm
  have hus : us.length ≤ sizeLine := by
    rw [← Paired.length r1, sizeLine_eq]
    show 1 ≤ _
    omega
  refine wpAny_call (PySem.HandSPX.call_own F.excBase_ValueError (fun Y => PySem.HandSPX.refsVE_contains Y bm hbm) (I1.kIn _ _ hC) (PySem.W.looks_findIn I1.kIn iC) (fun self => PySem.W.bind_fn I1.kIn self tI) hus
    (codeAny_mono (F1.run _ X.stack _ _ ⟨Value.ref (hp.objs.size + 1) :: us, []⟩ (Value.ref (hp.objs.size + 1) :: (us ++ ds)) _ _ (fun _ _ _ => False) (hr.make C us []) (I2.env0.make C us []) (hb _ (Value.ref (hp.objs.size + 1) :: us) I2.kIn hl) r2 hq) fun r s' hq' => ?_))
  cases r with
  | error er => exact pass0 pins σ _ _ er s' I2 hq'
  | ok fl =>
    cases fl with
    | ret u =>
      obtain ⟨v, H2, os2, bare2, un2, hok2, rv, ev, ea, q2⟩ := hq'
      subst ev
      obtain ⟨h2, g2, d2, t2, os'⟩ := s'
      obtain ⟨t0, G, J, kG, ge, hoe, na⟩ := mk_endN (d2 := d2) (t2 := t2) I1 hsz kk un2 hok2 os2 bare2 ea
      exact ⟨rv, _, _, _, ⟨G, g2, d2, t2, os'⟩, _, .ref C, none, rfl, J, kG, ge, hoe, ⟨rfl, rfl⟩, rfl, rfl, na, rfl, bare2, raises_own T.exC T.tyC, q2⟩
    | next => exact False.elim hq'
    | brk => exact False.elim hq'
    | cont => exact False.elim hq'
end
theorem pe_callN0 {X : Cx} {CX : CXT} {k : Nat} {f : Addr} {fd : FuncData} {ps ks : List Str} {sp : Sp} {E : XK} {x : Str} {p pos : Pos} {kws : List Keyword} {tk : TA} {g : List Value → List Value → List Value} {gV : List V → List V → List V}
    (F : FnOk X.prog X.w X.K X.mg X.base CX k f fd ps sp) (hr : Room k X.A) (hg : Gl X x) (hm : X.mg x = some (.ref f)) (hk : PySem.W.keepIn X.K (.ref f) = true) (hb : KBn X.K fd ps 0 ks g gV) (hx : Passes CX X E)
    (hkw : PK X kws tk) (hall : (backToKw pos (keywordEach kws X.env)).all (·.1.isSome) = true := by rfl) (hks : (backToKw pos (keywordEach kws X.env)).filterMap (·.1) = ks := by rfl)
    (hdb : (x == ("__debug__" : Str)) = false := by decide) (hpl : ((backTo pos (starEach [] X.env)).any (·.1) || (backToKw pos (keywordEach kws X.env)).any (·.1.isNone)) = false := by rfl) :
    PE X (.Call (.Name x p) [] kws pos) (fun σ H Q => tk σ H fun zs H1 => zs.length = ks.length ∧ sp (gV [] zs) H1 Q E) := by
  refine ⟨fun pins s σ H Q I h => ?_⟩
  refine wpAny_Call_Name_kw (ld_glob I hg hm ?_ hdb)
  refine PySem.W.callWith_KW0 (h₀ := X.base) I.ok.mod.kin hk hall (thn (hkw.run pos pins s σ H _ I h) fun ws s2 ⟨zs, H2, I2, rz, l2, q2⟩ => ⟨I2.kIn, ?_⟩) hpl
  rw [hks]
  exact run_fnN (us := []) (vs := []) F hr hb hx I2 .nil rz rfl l2 q2
def swp {α : Type} : List α → List α
  | [a, b] => [b, a]
  | l => l
section
variable {P : Program} {w : World} {K : PySem.W.Frag} {mg : Str → Option Value} {base : Heap}
/-- f(x=..): all by keywords, in the def's order -/
abbrev KBs (K : PySem.W.Frag) (fd : FuncData) (ps : List Str) := KBn K fd ps 0 ps (fun _ ws => ws) (fun _ zs => zs)
theorem kb_of {x : Str} {st : Stmt} {f : Addr} {fd : FuncData} {ps : List Str} (F : Fun K x x st f fd)
    (hk : ∀ (kV doc pm : Value) (an : Option Addr) (cdv ct : Value) (ws : List Value), ws.length = ps.length → bindArgs (PySem.W.fnOf x x (defArgs st) (defBody st) (defScope st) .none kV doc pm an cdv ct) ⟨[], ps.zip ws⟩ = pure (ps.zip ws)) : KBs K fd ps := by
  obtain ⟨oc, od, kV, doc, pm, an, cdv, ct, osl, rfl, lk, hcd⟩ := F.ex
  refine ⟨fun s us ws _ hu hw => ?_, fun _ r => r⟩
  match us, hu with
  | [], _ => exact .of_eq (hk _ _ _ _ _ _ ws hw)
/-- two by keywords, the other way round -/
abbrev KBr (K : PySem.W.Frag) (fd : FuncData) (p q : Str) := KBn K fd [p, q] 0 [q, p] (fun _ ws => swp ws) (fun _ zs => swp zs)
theorem kbr_of {x : Str} {st : Stmt} {f : Addr} {fd : FuncData} {p q : Str} (F : Fun K x x st f fd)
    (hk : ∀ (kV doc pm : Value) (an : Option Addr) (cdv ct : Value) (a b : Value), bindArgs (PySem.W.fnOf x x (defArgs st) (defBody st) (defScope st) .none kV doc pm an cdv ct) ⟨[], [(q, a), (p, b)]⟩ = pure [(p, b), (q, a)]) : KBr K fd p q := by
  obtain ⟨oc, od, kV, doc, pm, an, cdv, ct, osl, rfl, lk, hcd⟩ := F.ex
  refine ⟨fun s us ws _ hu hw => ?_, fun {vs us zs ws} _ r => ?_⟩
  · match us, ws, hu, hw with
    | [], [a, b], _, _ => exact .of_eq (hk _ _ _ _ _ _ a b)
  · cases r with
    | nil => exact .nil
    | cons r1 r2 =>
      cases r2 with
      | nil => exact .cons r1 .nil
      | cons r3 r4 =>
        cases r4 with
        | nil => exact .cons r3 (.cons r1 .nil)
        | cons r5 r6 => exact .cons r1 (.cons r3 (.cons r5 r6))
def ReadyKX (P : Program) (w : World) (K : PySem.W.Frag) (mg : Str → Option Value) (base : Heap) (k : Nat) (x : Str) (ps : List Str) (sp : Sp) (kb : FuncData → Prop) : Prop :=
  ∃ f fd, mg x = some (.ref f) ∧ PySem.W.keepIn K (.ref f) = true ∧ Binds K fd ps [] ∧ kb fd ∧ FnOk P w K mg base (L2.CX P w) k f fd ps sp
theorem ReadyKX.x {k : Nat} {x : Str} {ps : List Str} {sp : Sp} {kb : FuncData → Prop} (R : ReadyKX P w K mg base k x ps sp kb) : ReadyX P w K mg base k x ps sp :=
  let ⟨f, fd, g, kp, b, _, G⟩ := R
  ⟨f, fd, g, kp, b, G⟩
theorem readyKX_of {x : Str} {st : Stmt} {k : Nat} {ps : List Str} {sp : Sp} {kb : FuncData → Prop} (A : FnAt K mg x st)
    (hb : ∀ (kV doc pm : Value) (an : Option Addr) (cdv ct : Value) (us : List Value), us.length = ps.length → bindArgs (PySem.W.fnOf x x (defArgs st) (defBody st) (defScope st) .none kV doc pm an cdv ct) ⟨us, []⟩ = pure (ps.zip us))
    (hk : ∀ f fd, Fun K x x st f fd → kb fd)
    (ok : ∀ f fd, Fun K x x st f fd → FnOk P w K mg base (L2.CX P w) k f fd ps sp) : ReadyKX P w K mg base k x ps sp kb := by
  obtain ⟨f, fd, F, g⟩ := A.ex
  exact ⟨f, fd, g, F.kp, F.binds hb, hk f fd F, ok f fd F⟩
end
end FL


namespace FL
open PySem PySem.Spec PyProof.Rows L2
section
variable {P : Program} {w : World} {K : PySem.W.Frag} {mg : Str → Option Value} {base : Heap}
abbrev sNS : Stmt := inClass cNoSaying 0
theorem scNS : FnScope ["self", "why", "at"] ["self", "why", "at"] (defScope sNS) := ⟨rfl, rfl, rfl, by decide +kernel, rfl, by decide +kernel, by decide +kernel⟩
theorem ok_NS {C CL fL f : Addr} {fd fdL : FuncData} (F : FunA K "NoSaying.__init__" sNS [.int 0] f fd) (FL : FunA K "LetterError.__init__" sLE [.str ""] fL fdL) (TL : ClsFn K CL fL) (gL : mg "LetterError" = some (.ref CL)) (mV : mg "ValueError" = none)
    (vV : PySem.W.findCls K (.type "ValueError") (.type "type") "__init__" = some (.val (.builtin "ValueError.__init__"))) (T : OexC K C) (hno : PySem.W.findIn K (.ref C) "at" = some none) :
    FnOk P w K mg base CX0 2 f fd ["self", "why", "at"] (spFld C "at") := by
  have GL : FnOk P w K mg base CX0 1 fL fdL ["self", "why"] (spLE K) := ok_LE FL mV vV
  obtain ⟨ds, vds, bds⟩ := bind_LE FL
  refine FunD.ok F scNS (fun vs H Q E h => ?_) (fun cdv A outer s H vs Q E hr h => ?_)
  · obtain ⟨a, v, y, rfl, _⟩ := h
    rfl
  · obtain ⟨a, v, y, rfl, hH, q⟩ := h
    refine ⟨_, pss_cons (ps_expr (pe_cinit TL GL hr (by rfl) gL bds vds pass0 (pa_cons (pv 0) (pa_cons (pv 1) pa_nil)))) (pss_one (ps_ost (pv 0) (pv 2))), ?_⟩
    refine ⟨_, rfl, _, rfl, a, C, v, rfl, T, hH, ?_⟩
    exact ⟨_, rfl, _, rfl, a, C, rfl, T, hno, .inl ⟨hH, fun dx n1 n2 => q dx n1 n2⟩⟩
theorem mk_NS {C CL fL f : Addr} {fd fdL : FuncData} (F : FunA K "NoSaying.__init__" sNS [.int 0] f fd) (FL : FunA K "LetterError.__init__" sLE [.str ""] fL fdL) (TL : ClsFn K CL fL) (gL : mg "LetterError" = some (.ref CL)) (mV : mg "ValueError" = none)
    (vV : PySem.W.findCls K (.type "ValueError") (.type "type") "__init__" = some (.val (.builtin "ValueError.__init__"))) (T : OexC K C) (hno : PySem.W.findIn K (.ref C) "at" = some none) (g : mg "NoSaying" = some (.ref C))
    (iC : PySem.W.findIn K (.ref C) "__init__" = some (some (.ref f))) (tI : PySem.W.typeIn K (.ref f) = some (.type "function")) : MkFld P w K mg base "NoSaying" C "at" :=
  ⟨T, g, f, fd, iC, tI, ok_NS F FL TL gL mV vV T hno,
    FunD.binds1 (ps := ["self", "why", "at"]) F 3 1 (by simp) rfl fun T kV doc pm an cdv ct us its hu hi => match us, its, hu, hi with | [_, _, _], [_], _, _ => ⟨_, rfl, rfl⟩,
    FunD.binds1 (ps := ["self", "why", "at"]) F 2 0 (by simp) rfl fun T kV doc pm an cdv ct us its hu hi => match us, its, hu, hi with | [_, _], [_], _, _ => ⟨_, rfl, rfl⟩⟩
end
end FL


namespace FL
open PySem PySem.Spec PyProof.Rows L2
/-! ### numbers by a format -/
section
open Builtin Builtin.Str Builtin.Int Builtin.Float
/-- the codes of a number's figures -/
def dgs (b : Nat) (f : Char → Char) (n : Nat) : List Nat := (Nat.toDigits b n).map fun c => (f c).toNat
/-- s the sign, D the figures, filled up by 0 to w -/
def fld (w : Nat) (s D : List Nat) : List Nat :=
  let ds := if D.isEmpty then [] else List.replicate (((w : Int) - ((s.length : Int) + ((0 : Nat) : Int) + ((0 : Nat) : Int))).toNat - D.length) 48 ++ D
  List.replicate 0 48 ++ s ++ [] ++ List.replicate ((w : Int) - ((s.length : Int) + ((0 : Nat) : Int) + ((0 : Nat) : Int)) - (ds.length : Int)).toNat 48 ++ ds ++ [] ++ List.replicate 0 48
theorem fld_of {w : Nat} {D : List Nat} (h : D ≠ []) : fld w [] D = List.replicate (w - D.length) 48 ++ D := by
  unfold fld
  have h1 : D.isEmpty = false := by cases D with
    | nil => exact absurd rfl h
    | cons a r => rfl
  simp only [h1, List.length_nil, Bool.false_eq_true, if_false, List.replicate_zero, List.nil_append, List.append_nil]
  have h2 : (((w : Int) - (((0 : Nat) : Int) + ((0 : Nat) : Int) + ((0 : Nat) : Int))).toNat) = w := by omega
  rw [h2]
  have h3 : ((w : Int) - (((0 : Nat) : Int) + ((0 : Nat) : Int) + ((0 : Nat) : Int)) - ((List.replicate (w - D.length) 48 ++ D).length : Int)).toNat = 0 := by
    rw [List.length_append, List.length_replicate]
    omega
  rw [h3]
  rfl
theorem neg_no (n : Nat) : (if decide ((n : Int) < 0) = true then [45] else ([] : List Nat)) = [] := if_neg (by rw [decide_eq_false (by omega : ¬ (n : Int) < 0)]; exact Bool.false_ne_true)
theorem small_log {n : Nat} (h : n < 10000) : (n : Int).natAbs.log2 < 1920 := by
  rw [Int.natAbs_natCast]
  by_cases h0 : n = 0
  · subst h0; decide
  · have h1 : n.log2 < 14 := (Nat.log2_lt h0).mpr (Nat.lt_of_lt_of_le h (by decide))
    omega
theorem dgs_lt {b n : Nat} {f : Char → Char} (h : n < b) : dgs b f n = [(f n.digitChar).toNat] := by
  unfold dgs
  rw [Nat.toDigits_of_lt_base h]
  rfl
theorem dgs_ge {b n : Nat} {f : Char → Char} (h1 : 1 < b) (h : b ≤ n) : dgs b f n = dgs b f (n / b) ++ [(f (n % b).digitChar).toNat] := by
  unfold dgs
  rw [Nat.toDigits_of_base_le h1 h, List.map_append]
  rfl
theorem dig10 : ∀ k, k < 10 → (id k.digitChar).toNat = 48 + k := by decide
def hexd (k : Nat) : Nat := if k < 10 then 48 + k else 55 + k
theorem dig16 : ∀ k, k < 16 → (k.digitChar.toUpper).toNat = hexd k := by decide +kernel
def hex2 (n : Nat) : List Nat := [hexd (n / 16), hexd (n % 16)]
def dec2 (n : Nat) : List Nat := [48 + n / 10, 48 + n % 10]
def dec4 (n : Nat) : List Nat := [48 + n / 1000, 48 + n / 100 % 10, 48 + n / 10 % 10, 48 + n % 10]
/-- without a 0 ahead -/
def decs (n : Nat) : List Nat := if n < 10 then [48 + n] else if n < 100 then [48 + n / 10, 48 + n % 10] else if n < 1000 then [48 + n / 100, 48 + n / 10 % 10, 48 + n % 10] else dec4 n
theorem dgs10 {n : Nat} (h : n < 10000) : dgs 10 id n = decs n := by
  unfold decs
  split
  · rename_i h1
    rw [dgs_lt h1, dig10 n h1]
  · split
    · rename_i h1 h2
      rw [dgs_ge (by decide) (by omega), dgs_lt (by omega), dig10 _ (by omega), dig10 _ (by omega)]
      rfl
    · split
      · rename_i h1 h2 h3
        rw [dgs_ge (by decide) (by omega), dgs_ge (by decide) (by omega), dgs_lt (by omega), dig10 _ (by omega), dig10 _ (by omega), dig10 _ (by omega), Nat.div_div_eq_div_mul]
        rfl
      · rw [dgs_ge (by decide) (by omega), dgs_ge (by decide) (by omega), dgs_ge (by decide) (by omega), dgs_lt (by omega), dig10 _ (by omega), dig10 _ (by omega), dig10 _ (by omega), dig10 _ (by omega)]
        unfold dec4
        rw [show n / 1000 = n / 10 / 10 / 10 by omega, show n / 100 % 10 = n / 10 / 10 % 10 by omega]
        rfl
theorem fld2 {n : Nat} (h : n < 100) : fld 2 (if decide ((n : Int) < 0) = true then [45] else []) (dgs 10 id n) = dec2 n := by
  rw [neg_no, dgs10 (by omega)]
  unfold decs dec2
  split
  · rename_i h1
    rw [fld_of (by simp), show n / 10 = 0 by omega, show n % 10 = n by omega]
    rfl
  · rw [fld_of (by simp)]
    rfl
theorem fld4 {n : Nat} (h : n < 10000) : fld 4 (if decide ((n : Int) < 0) = true then [45] else []) (dgs 10 id n) = dec4 n := by
  rw [neg_no, dgs10 h]
  unfold decs
  split
  · rw [fld_of (by simp)]
    unfold dec4
    rw [show n / 1000 = 0 by omega, show n / 100 % 10 = 0 by omega, show n / 10 % 10 = 0 by omega, show n % 10 = n by omega]
    rfl
  · split
    · rw [fld_of (by simp)]
      unfold dec4
      rw [show n / 1000 = 0 by omega, show n / 100 % 10 = 0 by omega, show n / 10 % 10 = n / 10 by omega]
      rfl
    · split
      · rw [fld_of (by simp)]
        unfold dec4
        rw [show n / 1000 = 0 by omega, show n / 100 % 10 = n / 100 by omega]
        rfl
      · rw [fld_of (by simp [dec4])]
        rfl
theorem fldX {n : Nat} (h : n < 256) : fld 2 (if decide ((n : Int) < 0) = true then [45] else []) (dgs 16 Char.toUpper n) = hex2 n := by
  rw [neg_no]
  unfold hex2
  by_cases h1 : n < 16
  · rw [dgs_lt h1, dig16 n h1, fld_of (by simp), show n / 16 = 0 by omega, show n % 16 = n by omega]
    rfl
  · rw [dgs_ge (by decide) (by omega), dgs_lt (by omega), dig16 _ (by omega), dig16 _ (by omega), fld_of (by simp)]
    rfl
theorem fmt_X (t u : Tok) (n : Nat) : Gives («int.__format__» ⟨[.int (n : Int) t, .str "02X" u], []⟩) (.str ⟨(fld 2 (if decide ((n : Int) < 0) = true then [45] else []) (dgs 16 Char.toUpper n)).toArray⟩) := by
  exact .of_eq rfl
theorem fmt_02d (t u : Tok) (n : Nat) (h : (n : Int).natAbs.log2 < 1920) : Gives («int.__format__» ⟨[.int (n : Int) t, .str "02d" u], []⟩) (.str ⟨(fld 2 (if decide ((n : Int) < 0) = true then [45] else []) (dgs 10 id n)).toArray⟩) := by
  refine (show Gives (Bind.bind (overDigitLimit? (n : Int)) _) _ from ?_)
  rw [PySem.overDigitLimit_small h]
  exact .of_eq rfl
theorem fmt_04d (t u : Tok) (n : Nat) (h : (n : Int).natAbs.log2 < 1920) : Gives («int.__format__» ⟨[.int (n : Int) t, .str "04d" u], []⟩) (.str ⟨(fld 4 (if decide ((n : Int) < 0) = true then [45] else []) (dgs 10 id n)).toArray⟩) := by
  refine (show Gives (Bind.bind (overDigitLimit? (n : Int)) _) _ from ?_)
  rw [PySem.overDigitLimit_small h]
  exact .of_eq rfl
end
section
variable {X : Cx} {e : Expr} {te : TE} {k : Nat} {p1 p2 pos : Pos}
/-- {e:sp}, e a whole number from 0 on below b -/
def tFmtS (f : Nat → List Nat) (b : Nat) (te : TE) : TE := fun σ H Q => te σ H fun x H1 => ∃ n : Nat, x = .int (n : Int) ∧ n < b ∧ Q (.str (mk (f n))) H1
theorem pe_fmtS {sp : Str} {f : Nat → List Nat} {b : Nat} (hne : (sp.length == 0) = false) (hsz : sp.length ≤ sizeLine) (hf : ∀ n, n < b → (f n).length ≤ 100)
    (g : ∀ (t u : Tok) (n : Nat), n < b → Gives (Builtin.«int.__format__» ⟨[.int (n : Int) t, .str sp u], []⟩) (.str (mk (f n)))) (he : PE X e te) :
    PE X (.FormattedValue e (-1) (some (.JoinedStr [.Constant (.str sp) k p1] p2)) pos) (tFmtS f b te) := by
  refine ⟨fun pins s σ H Q I h => ?_⟩
  refine wpAny_FormattedValue_spec (thn (he.run pins s σ H _ I h) fun v s1 hv => ?_)
  obtain ⟨x, H1, I1, r1, n, rfl, hn, q⟩ := hv
  obtain ⟨t, rfl⟩ := r1
  refine thn ((pe_joined1 pe_str).run pins s1 σ H1 (fun y H2 => y = .str sp ∧ H2 = H1) I1 ⟨rfl, rfl⟩) fun r s2 hr => ?_
  obtain ⟨y, H2, I2, r2, rfl, rfl⟩ := hr
  obtain ⟨u, rfl⟩ := r2
  refine ⟨sp, u, rfl, ?_⟩
  refine wpAny_formatField_spec hne (fun s' => typeIs_int s' _ t) F.slot_int_format F.entry_int_format (fun a b => F.args_int_format_2 a b) (fun u => g t u n hn) ⟨.str (mk (f n)), _, I2.tok _, ⟨_, rfl⟩, q⟩ hsz ?_
  rw [mk_len]
  exact Nat.le_of_lt (szl (by have := hf n hn; omega))
theorem pe_fmtX (he : PE X e te) : PE X (.FormattedValue e (-1) (some (.JoinedStr [.Constant (.str "02X") k p1] p2)) pos) (tFmtS hex2 256 te) :=
  pe_fmtS (by decide +kernel) (by decide +kernel) (fun _ _ => by simp [hex2]) (fun t u n hn => by have := fmt_X t u n; rw [fldX hn] at this; exact this) he
theorem pe_fmt2 (he : PE X e te) : PE X (.FormattedValue e (-1) (some (.JoinedStr [.Constant (.str "02d") k p1] p2)) pos) (tFmtS dec2 100 te) :=
  pe_fmtS (by decide +kernel) (by decide +kernel) (fun _ _ => by simp [dec2]) (fun t u n hn => by have := fmt_02d t u n (small_log (by omega)); rw [fld2 hn] at this; exact this) he
theorem pe_fmt4 (he : PE X e te) : PE X (.FormattedValue e (-1) (some (.JoinedStr [.Constant (.str "04d") k p1] p2)) pos) (tFmtS dec4 10000 te) :=
  pe_fmtS (by decide +kernel) (by decide +kernel) (fun _ _ => by simp [dec4]) (fun t u n hn => by have := fmt_04d t u n (small_log hn); rw [fld4 hn] at this; exact this) he
/-- str(n) -/
theorem toString_codes {n : Nat} (h : n < 10000) : ((toString (n : Int) : String) : Str) = mk (decs n) := by
  refine mk_eq ?_
  rw [← dgs10 h]
  exact TL.tl_num n
end
end FL


namespace FL
open PySem PySem.Spec PyProof.Rows L2
theorem fold_rep (c : Nat) : ∀ (n : Nat) (acc : Array Nat), ((List.replicate n #[c]).foldl (· ++ ·) acc).toList = acc.toList ++ List.replicate n c
  | 0, acc => by simp
  | n + 1, acc => by
    rw [List.replicate_succ, List.foldl_cons, fold_rep c n, List.replicate_succ, Array.toList_append]
    simp
theorem op_mulS {X : Cx} : OpR X (binaryOp .Mult) (fun x y H Q => ∃ (c k : Nat), x = .str ⟨#[c]⟩ ∧ y = .int (k : Nat) ∧ k ≤ 10000 ∧ Q (.str (mk (List.replicate k c))) H) := by
  intro pins s σ H x y v u Q I rx ry h
  obtain ⟨c, k, rfl, rfl, hk, q⟩ := h
  obtain ⟨t, rfl⟩ := rx
  obtain ⟨t', rfl⟩ := ry
  by_cases h0 : k = 0
  · subst h0
    exact PySem.P.mul_str_none (by decide) (by decide) ⟨.str (mk []), H, I.tok _, ⟨_, rfl⟩, q⟩
  · have hl1 : (⟨#[c]⟩ : Str).length = 1 := rfl
    refine PySem.P.mul_str ?_ ?_ ?_ ?_
    · rw [decide_eq_false (by omega : ¬ ((k : Int) < -(2 ^ 63))), decide_eq_false (by omega : ¬ ((k : Int) ≥ 2 ^ 63))]
      rfl
    · intro _ _
      rw [hl1]
      have : (1 : Int) ≤ (2 ^ 63 - 1) / (k : Int) := by
        refine (Int.le_ediv_iff_mul_le (by omega)).mpr ?_
        omega
      omega
    · intro _ _
      rw [hl1, Int.toNat_natCast, Nat.one_mul]
      exact decide_eq_false (Nat.not_lt.mpr (Nat.le_of_lt (szl hk)))
    · rw [if_neg (by omega : ¬ ((k : Int) < 1))]
      by_cases h1 : k = 1
      · subst h1
        rw [if_pos (by rfl)]
        exact ⟨.str (mk [c]), H, I, ⟨t, rfl⟩, q⟩
      · rw [if_neg (by rw [hl1]; simp; omega), Int.toNat_natCast]
        have e : (⟨(List.replicate k (⟨#[c]⟩ : Str).cps).foldl (· ++ ·) #[]⟩ : Str) = mk (List.replicate k c) := mk_eq (by
          show ((List.replicate k #[c]).foldl (· ++ ·) #[]).toList = _
          rw [fold_rep]
          rfl)
        rw [e]
        refine ⟨?_, .str (mk (List.replicate k c)), H, I.tok _, ⟨_, rfl⟩, q⟩
        rw [mk_len, List.length_replicate]
        exact Nat.le_of_lt (szl hk)
theorem drawn_newM {a p : Addr} {H H1 : Hp} {o : HO} (x : Drawn a H H1) (n : H1 p = none) : Drawn a H (upd H1 p o) := x.same (same_new n)
theorem Src.neM {H : Hp} {a q : Addr} (s : Src H a) (n : H q = none) : q ≠ a := fun e => by
  obtain ⟨x, y, z, h⟩ := s
  rw [e, h] at n
  cases n
/-- a thing drawn: its number is less than m -/
def spNextM : Sp := fun vs H Q _ => ∃ (a : Addr) (m : Nat), vs = [.ref a, .int (m : Nat)] ∧ 1 ≤ m ∧ m ≤ 100000 ∧ Src H a ∧ ∀ (r : Nat) H', r < m → Drawn a H H' → Q (.int (r : Nat)) H'
theorem pickM {p : V → Prop} {xs : List V} {r : Nat} (h : r < xs.length) (hp : ∀ v ∈ xs, p v) : ∃ v, atI xs (r : Int) = some v ∧ p v :=
  ⟨xs[r]'h, atI_nat (List.getElem?_eq_getElem h), hp _ (List.getElem_mem h)⟩
theorem kn {H : Hp} {q p : Addr} {o x : HO} (h : H q = some o) (n : H p = none) : upd H p x q = some o := by
  rw [upd_ne (ne_of_none h n)]
  exact h
theorem free_drawn {a p : Addr} {H H1 : Hp} (x : Drawn a H H1) (h : H1 p = none) : H p = none := by
  cases e : H p with
  | none => rfl
  | some o =>
    rw [x.old p o (x.src.neM h) e] at h
    cases h
section
variable {P : Program} {w : World} {K : PySem.W.Frag} {mg : Str → Option Value} {base : Heap}
theorem next_m (R : Ready P w K mg base 2 "_law_next" ["_law_source_here", "_law_many"] spNext) : Ready P w K mg base 2 "_law_next" ["_law_source_here", "_law_many"] spNextM := by
  obtain ⟨f, fd, g, k, b, G⟩ := R
  refine ⟨f, fd, g, k, b, G.imp fun vs H Q E h => ?_⟩
  obtain ⟨a, m, rfl, h1, h2, ⟨x, y, z, hs⟩, q⟩ := h
  exact ⟨a, m, x, y, z, rfl, h1, h2, hs, fun r x' z' hr => q r _ hr drawn_upd⟩
end
end FL


namespace FL
open PySem PySem.Spec PyProof.Rows L2
/-! ### sixes -/
def SIXS : Str := "ABCDEFGHIJKLMNOPQRSTUVWXYZabcdefghijklmnopqrstuvwxyz0123456789+/"
def six (n : Nat) : Nat := SIXS.cps.getD n 0
theorem six_at : ∀ n, n < 64 → SIXS.cps[n]? = some (six n) := by decide +kernel
theorem six_len : SIXS.length = 64 := by decide +kernel
def four : List Nat → List Nat
  | [a] => [six (a / 4), six (a % 4 * 16), 61, 61]
  | [a, b] => [six (a / 4), six (a % 4 * 16 + b / 16), six (b % 16 * 4), 61]
  | [a, b, c] => [six (a / 4), six (a % 4 * 16 + b / 16), six (b % 16 * 4 + c / 64), six (c % 64)]
  | _ => []
def sixC : List Nat → List Nat
  | [] => []
  | [a] => four [a]
  | [a, b] => four [a, b]
  | a :: b :: c :: r => four [a, b, c] ++ sixC r
theorem four_len {l : List Nat} (h1 : 1 ≤ l.length) (h2 : l.length ≤ 3) : (four l).length = 4 := by
  match l, h1, h2 with
  | [_], _, _ => rfl
  | [_, _], _, _ => rfl
  | [_, _, _], _, _ => rfl
theorem sixC_step {l : List Nat} (h : l ≠ []) : sixC l = four (l.take 3) ++ sixC (l.drop 3) := by
  match l, h with
  | [_], _ => rfl
  | [_, _], _ => rfl
  | [a, b, c], _ => rfl
  | a :: b :: c :: d :: r, _ => rfl
theorem e61 : ("=" : Str) = mk [61] := by decide +kernel
theorem szX {l : List Nat} (h : l.length ≤ 10000) : (mk l).length ≤ sizeLine := by rw [mk_len]; exact Nat.le_of_lt (szl h)
theorem catX {a b : Str} {l m : List Nat} (ha : a = mk l) (hb : b = mk m) : a ++ b = mk (l ++ m) := by rw [ha, hb, mk_app]
theorem szE {x : Str} {l : List Nat} (h : x = mk l) (hl : l.length ≤ 10000) : x.length ≤ sizeLine := by rw [h]; exact szX hl
theorem cut_toX (z : Str) {p : Nat} (h : p ≤ z.length) : (cutS z none (some (p : Nat))).cps.toList = z.cps.toList.take p := by
  unfold cutS
  rw [HT.sIx_none, HT.sIx_nat, Nat.min_eq_left h]
  show (List.take _ (List.drop 0 _)) = _
  rw [List.drop_zero, Nat.sub_zero]
section
variable {P : Program} {w : World} {K : PySem.W.Frag} {mg : Str → Option Value} {base : Heap}
def spFour : Sp := fun vs H Q _ => ∃ (a : Addr) (l : List Nat), vs = [.ref a] ∧ H a = some (.lst (iv l)) ∧ (∀ n ∈ l, n < 256) ∧ 1 ≤ l.length ∧ l.length ≤ 3 ∧ ∀ H', Same H H' → Q (.str (mk (four l))) H'
theorem scFourOf : FnScope ["octets", "missing", "first", "second", "third", "number", "four"] ["octets"] (defScope sFourOf) := ⟨rfl, rfl, rfl, by decide +kernel, rfl, by decide +kernel, by decide +kernel⟩
theorem r_four_of (A : FnAt K mg "_four_of" sFourOf) (m_len : mg "len" = none) {t1 : Tok} (m_SIXES : mg "SIXES" = some (.str SIXS t1)) : Ready P w K mg base 1 "_four_of" ["octets"] spFour := by
  refine ready_of A (fun _ _ _ _ _ _ us hl => match us, hl with | [_], _ => rfl) fun f fd F => ?_
  refine F.ok scFourOf (fun vs H Q E h => ?_) (fun cdv A outer s H vs Q E hr h => ?_)
  · obtain ⟨a, l, rfl, _⟩ := h
    rfl
  · obtain ⟨a, l, rfl, ha, hb, h1, h2, q⟩ := h
    have sc := scFourOf
    refine ⟨_, pss_cons (ps_set (i := 1) sc.nd rfl (.inl rfl) (pe_op op_sub pe_int (pe_callB call_len_seq (by rfl) m_len PySem.boot_len (pa_cons (pv 0) pa_nil))))
      (pss_cons (ps_asg (pe_op op_cat (pv 0) (pe_op op_rep (pe_lst (pa_cons pe_int pa_nil)) (pv 1))) (pg_lst rfl (pgs_cons (pg_name (i := 2) sc.nd rfl (.inl rfl)) (pgs_cons (pg_name (i := 3) sc.nd rfl (.inl rfl)) (pgs_cons (pg_name (i := 4) sc.nd rfl (.inl rfl)) pgs_nil)))))
      (pss_cons (ps_set (i := 5) sc.nd rfl (.inl rfl) (pe_op op_add (pe_op op_add (pe_op op_mul pe_int (pv 2)) (pe_op op_mul pe_int (pv 3))) (pv 4)))
      (pss_cons (ps_set (i := 6) sc.nd rfl (.inl rfl) (pe_op op_add_str (pe_op op_add_str (pe_op op_add_str (pe_item_str (pe_glob (v := .str SIXS) rfl m_SIXES ⟨_, rfl⟩) (pe_op op_fdiv (pv 5) pe_int) (fun _ _ => rfl)) (pe_item_str (pe_glob (v := .str SIXS) rfl m_SIXES ⟨_, rfl⟩) (pe_op op_mod (pe_op op_fdiv (pv 5) pe_int) pe_int) (fun _ _ => rfl))) (pe_item_str (pe_glob (v := .str SIXS) rfl m_SIXES ⟨_, rfl⟩) (pe_op op_mod (pe_op op_fdiv (pv 5) pe_int) pe_int) (fun _ _ => rfl))) (pe_item_str (pe_glob (v := .str SIXS) rfl m_SIXES ⟨_, rfl⟩) (pe_op op_mod (pv 5) pe_int) (fun _ _ => rfl))))
      (pss_one (ps_ret (pe_op op_add_str (pe_slice sl_str (pv 6) po_none (po_some (pe_op op_sub pe_int (pv 1)))) (pe_op op_mulS pe_str (pv 1)))))))), ?_⟩
    obtain ⟨x, y, z, hx, hy, hz, hpad, hfour⟩ : ∃ x y z : Nat, x < 256 ∧ y < 256 ∧ z < 256 ∧ l ++ List.replicate (3 - l.length) 0 = [x, y, z] ∧ four l = ([six (x / 4), six (x % 4 * 16 + y / 16), six (y % 16 * 4 + z / 64), six (z % 64)].take (4 - (3 - l.length))) ++ List.replicate (3 - l.length) 61 := by
      match l, h1, h2, hb with
      | [x], _, _, hb => exact ⟨x, 0, 0, hb x (by simp), by omega, by omega, rfl, rfl⟩
      | [x, y], _, _, hb => exact ⟨x, y, 0, hb x (by simp), hb y (by simp), by omega, rfl, rfl⟩
      | [x, y, z], _, _, hb => exact ⟨x, y, z, hb x (by simp), hb y (by simp), hb z (by simp), rfl, rfl⟩
    refine ⟨_, rfl, a, _, rfl, .inl (SqL.of ha), _, _, rfl, rfl, ?_⟩
    rw [iv_len]
    dsimp only
    obtain ⟨ms, hms⟩ : ∃ ms : Nat, ms = 3 - l.length := ⟨_, rfl⟩
    rw [show ((3 : Int) - ((l.length : Nat) : Int)) = ((ms : Nat) : Int) by omega]
    rw [← hms] at hpad hfour
    refine ⟨_, rfl, (by show 1 ≤ sizeLine; decide), fun p1 n1 => ?_⟩
    refine ⟨_, rfl, p1, (ms : Int), _, rfl, rfl, upd_same, by omega, by omega, by show 1 * (ms : Int).toNat ≤ sizeLine; rw [sizeLine_eq]; omega, fun p2 n2 => ?_⟩
    have erep : (List.replicate ((ms : Int)).toNat [V.int 0]).flatten = iv (List.replicate ms 0) := by
      rw [Int.toNat_natCast]
      clear hms hpad hfour
      induction ms with
      | zero => rfl
      | succ n ih =>
        rw [List.replicate_succ, List.flatten_cons, ih, List.replicate_succ]
        rfl
    rw [erep]
    refine ⟨a, p2, _, _, rfl, rfl, kn (kn ha n1) n2, upd_same, by rw [iv_len, iv_len, List.length_replicate, sizeLine_eq]; omega, fun p3 n3 => ?_⟩
    rw [← iv_app, hpad]
    refine ⟨p3, _, rfl, SqL.of upd_same, rfl, _, _, rfl, _, _, rfl, _, _, rfl, rfl, ?_⟩
    refine ⟨_, rfl, _, _, rfl, rfl, .inl ⟨by decide, by decide⟩, _, rfl, _, _, rfl, rfl, .inl ⟨by decide, by decide⟩, _, _, rfl, rfl, _, rfl, _, _, rfl, rfl, ?_⟩
    dsimp only
    obtain ⟨N, hN⟩ : ∃ N : Nat, N = 65536 * x + 256 * y + z := ⟨_, rfl⟩
    rw [show 65536 * (x : Int) + 256 * (y : Int) + (z : Int) = (N : Int) by omega]
    refine ⟨_, rfl, _, _, rfl, rfl, ⟨by decide, by decide⟩, ?_⟩
    dsimp only
    rw [show (N : Int) / 262144 = ((x / 4 : Nat) : Int) by omega]
    refine ⟨SIXS, _, six (x / 4), rfl, rfl, by omega, by omega, by rw [six_len]; omega, by rw [Int.toNat_natCast]; exact six_at _ (by omega), ?_⟩
    refine ⟨_, rfl, _, _, rfl, rfl, ⟨by decide, by decide⟩, _, _, rfl, rfl, (by show (0 : Int) < 64; decide), ?_⟩
    dsimp only
    rw [show (N : Int) / 4096 % 64 = ((x % 4 * 16 + y / 16 : Nat) : Int) by omega]
    refine ⟨SIXS, _, six (x % 4 * 16 + y / 16), rfl, rfl, by omega, by omega, by rw [six_len]; omega, by rw [Int.toNat_natCast]; exact six_at _ (by omega), ?_⟩
    have c1 := catX (rfl : mk [six (x / 4)] = _) (rfl : mk [six (x % 4 * 16 + y / 16)] = _)
    refine ⟨_, _, rfl, rfl, (by rw [← len_append]; exact szE c1 (by simp)), ?_⟩
    refine ⟨_, rfl, _, _, rfl, rfl, ⟨by decide, by decide⟩, _, _, rfl, rfl, (by show (0 : Int) < 64; decide), ?_⟩
    dsimp only
    rw [show (N : Int) / 64 % 64 = ((y % 16 * 4 + z / 64 : Nat) : Int) by omega]
    refine ⟨SIXS, _, six (y % 16 * 4 + z / 64), rfl, rfl, by omega, by omega, by rw [six_len]; omega, by rw [Int.toNat_natCast]; exact six_at _ (by omega), ?_⟩
    have c2 := catX c1 (rfl : mk [six (y % 16 * 4 + z / 64)] = _)
    refine ⟨_, _, rfl, rfl, (by rw [← len_append]; exact szE c2 (by simp)), ?_⟩
    refine ⟨_, rfl, _, _, rfl, rfl, (by show (0 : Int) < 64; decide), ?_⟩
    dsimp only
    rw [show (N : Int) % 64 = ((z % 64 : Nat) : Int) by omega]
    refine ⟨SIXS, _, six (z % 64), rfl, rfl, by omega, by omega, by rw [six_len]; omega, by rw [Int.toNat_natCast]; exact six_at _ (by omega), ?_⟩
    have c3 := catX c2 (rfl : mk [six (z % 64)] = _)
    refine ⟨_, _, rfl, rfl, (by rw [← len_append]; exact szE c3 (by simp)), ?_⟩
    have e4 : mk [six (x / 4)] ++ mk [six (x % 4 * 16 + y / 16)] ++ mk [six (y % 16 * 4 + z / 64)] ++ mk [six (z % 64)] = mk [six (x / 4), six (x % 4 * 16 + y / 16), six (y % 16 * 4 + z / 64), six (z % 64)] := c3
    refine ⟨_, rfl, _, rfl, _, _, rfl, rfl, _, rfl, mk [six (x / 4), six (x % 4 * 16 + y / 16), six (y % 16 * 4 + z / 64), six (z % 64)], congrArg V.str e4, szX (by simp), ?_⟩
    dsimp only
    have e5 : cutS (mk [six (x / 4), six (x % 4 * 16 + y / 16), six (y % 16 * 4 + z / 64), six (z % 64)]) none (some (4 - ((ms : Nat) : Int))) = mk ([six (x / 4), six (x % 4 * 16 + y / 16), six (y % 16 * 4 + z / 64), six (z % 64)].take (4 - ms)) := by
      refine mk_eq ?_
      rw [show (4 - ((ms : Nat) : Int)) = ((4 - ms : Nat) : Int) by omega, cut_toX _ (by rw [mk_len]; show 4 - ms ≤ 4; omega), mk_codes]
    rw [e5]
    refine ⟨_, rfl, 61, ms, ?_, rfl, by omega, ?_⟩
    · exact congrArg V.str e61
    have c6 := catX (rfl : mk ([six (x / 4), six (x % 4 * 16 + y / 16), six (y % 16 * 4 + z / 64), six (z % 64)].take (4 - ms)) = _) (rfl : mk (List.replicate ms 61) = _)
    refine ⟨_, _, rfl, rfl, (by rw [← len_append]; exact szE c6 (by simp; omega)), ?_⟩
    rw [c6, ← hfour]
    exact q _ ((same_new n1).trans ((same_new n2).trans (same_new n3)))
theorem size_up {L c : Nat} (h1 : 1 ≤ c) : Builtin.Range.rangeSize 0 (L : Int) (c : Nat) = (((L + c - 1) / c : Nat) : Int) := by
  unfold Builtin.Range.rangeSize
  rw [if_pos (by omega)]
  by_cases h0 : L = 0
  · subst h0
    rw [if_neg (by simp), show 0 + c - 1 = c - 1 by omega, Nat.div_eq_of_lt (by omega)]
    rfl
  · rw [if_pos (by omega)]
    have e : (L + c - 1) / c = (L - 1) / c + 1 := by
      rw [show L + c - 1 = L - 1 + c by omega, Nat.add_div_right _ (by omega)]
    rw [e]
    have : ((L : Int) - 0 - 1) = ((L - 1 : Nat) : Int) := by omega
    rw [this, ← Int.natCast_ediv]
    omega
theorem rg_up {L c : Nat} (h : L ≤ 100000) (h1 : 1 ≤ c) (h2 : c ≤ 1000) : RgC 0 (L : Int) (c : Nat) ((L + c - 1) / c) := by
  refine ⟨by omega, by omega, ?_, size_up h1⟩
  have hs : (L + c - 1) / c ≤ 101000 := Nat.le_trans (Nat.div_le_self _ _) (by omega)
  unfold Builtin.Range.small
  rw [size_up h1]
  generalize (L + c - 1) / c = n at hs
  simp only [Builtin.Range.rangeFitsLong, Bool.and_eq_true, Bool.or_eq_true, decide_eq_true_eq, beq_iff_eq]
  rw [if_pos (show ((c : Nat) : Int) > 0 by omega), Bool.and_eq_true, decide_eq_true_eq, decide_eq_true_eq]
  omega
def spSixes : Sp := fun vs H Q _ => ∃ (a : Addr) (l : List Nat), vs = [.ref a] ∧ H a = some (.lst (iv l)) ∧ (∀ n ∈ l, n < 256) ∧ l.length ≤ 9000 ∧ ∀ H', Same H H' → Q (.str (mk (sixC l))) H'
/-- the fours, one by one -/
def foursOf (l : List Nat) (k : Nat) : List (List Nat) := (List.range k).map fun i => four ((l.drop (3 * i)).take 3)
theorem fours_all : ∀ (k : Nat) (l : List Nat), k = (l.length + 2) / 3 → (foursOf l k).flatten = sixC l
  | 0, l, h => by
    have : l = [] := List.eq_nil_of_length_eq_zero (by omega)
    rw [this]
    rfl
  | k + 1, l, h => by
    have hl : l ≠ [] := fun e => by
      rw [e] at h
      simp at h
    rw [sixC_step hl, ← fours_all k (l.drop 3) (by rw [List.length_drop]; omega)]
    unfold foursOf
    rw [List.range_succ_eq_map, List.map_cons, List.flatten_cons, List.map_map]
    congr 2
    refine List.map_congr_left fun i _ => ?_
    show four ((l.drop (3 * (i + 1))).take 3) = four (((l.drop 3).drop (3 * i)).take 3)
    rw [List.drop_drop, show 3 + 3 * i = 3 * (i + 1) by omega]
theorem scSixesOf : FnScope ["octets", "begin"] ["octets"] (defScope sSixesOf) := ⟨rfl, rfl, rfl, by decide +kernel, rfl, by decide +kernel, by decide +kernel⟩
theorem r_sixes_of (A : FnAt K mg "sixes_of" sSixesOf) (R : Ready P w K mg base 1 "_four_of" ["octets"] spFour) (m_len : mg "len" = none) (m_range : mg "range" = none) : Ready P w K mg base 2 "sixes_of" ["octets"] spSixes := by
  obtain ⟨f1, fd1, g1, k1, b1, G1⟩ := R
  refine ready_of A (fun _ _ _ _ _ _ us hl => match us, hl with | [_], _ => rfl) fun f fd F => ?_
  refine F.ok scSixesOf (fun vs H Q E h => ?_) (fun cdv A outer s H vs Q E hr h => ?_)
  · obtain ⟨a, l, rfl, _⟩ := h
    rfl
  · obtain ⟨a, l, rfl, ha, hb, hl, q⟩ := h
    have sc := scSixesOf
    refine ⟨_, pss_one (ps_ret (pe_join pe_str (pe_lc (own := [("begin", 1)]) (g := gName 1) (tt := tYes) (te := tCall spFour [] E0 (tCons (tSl (rSlL K) (tVar 0) (tPart (tVar 1)) (tPart (tOp (rI0 fun i j => V.int (i + j)) (tVar 1) (tC (.int 3))))) tNil)) (by rfl) sc.nd (pi_range3 (by rfl) m_range (pa_cons pe_int (pa_cons (pe_callB call_len_seq (by rfl) m_len PySem.boot_len (pa_cons (pv 0) pa_nil)) (pa_cons pe_int pa_nil)))) (blkOk_by (own := [("begin", 1)]) (N := ["octets", "begin"]) (sc := defScope sSixesOf) (by decide +kernel)) (fun _ _ _ _ _ => (pg_name (i := 1) sc.nd rfl (.inl rfl))) (fun _ _ _ _ _ => pts_nil) (fun _ _ _ _ _ => by exact (pe_call G1 (hr.mono (by decide)) (by rfl) g1 k1 b1 .nil pass0 (pa_cons (pe_slice sl_list (pv 0) (po_some (pv 1)) (po_some (pe_op op_add (pv 1) pe_int))) pa_nil)))))), ?_⟩
    refine ⟨⟨_, rfl⟩, _, rfl, a, _, rfl, .inl (SqL.of ha), 0, ((l.length : Nat) : Int), 3, (l.length + 2) / 3, by rw [iv_len], rg_up (c := 3) (by omega) (by decide) (by decide), fun D hD => ?_⟩
    refine lc_it (walk_rangeC (lo := 0) (c := 3) (n := (l.length + 2) / 3)) (fun i H' => Same H H' ∧ H' D = some (.lst (((foursOf l i).map mk).map V.str))) ⟨same_new hD, upd_same⟩ (fun _ _ _ _ => trivial) (fun i x H2 H3 hi hp hy => ?_) (fun H2 hp => ?_)
    · obtain ⟨rfl, hx⟩ := hy
      obtain ⟨sm, hd⟩ := hp
      have hx' : x = .int ((3 * i : Nat) : Int) := by
        rw [hx]
        exact congrArg V.int (by omega)
      subst hx'
      refine ⟨rfl, ?_⟩
      unfold tYes
      refine iteT ?_
      refine ⟨_, rfl, _, rfl, _, rfl, _, rfl, _, _, rfl, rfl, _, rfl, a, _, rfl, SqL.of (sm _ _ ha), fun p n => ?_⟩
      dsimp only
      have ec : cutV (iv l) (some ((3 * i : Nat) : Int)) (some (((3 * i : Nat) : Int) + 3)) = iv ((l.drop (3 * i)).take 3) := by
        unfold cutV
        rw [show (((3 * i : Nat) : Int) + 3) = ((3 * i + 3 : Nat) : Int) by omega, HT.sIx_nat, HT.sIx_nat, iv_len, Nat.min_eq_left (show 3 * i ≤ l.length by omega)]
        unfold iv
        rw [← List.map_drop, ← List.map_take]
        congr 1
        by_cases h : 3 * i + 3 ≤ l.length
        · rw [Nat.min_eq_left h, show 3 * i + 3 - 3 * i = 3 by omega]
        · rw [Nat.min_eq_right (show l.length ≤ 3 * i + 3 by omega), List.take_of_length_le (by rw [List.length_drop]; omega), List.take_of_length_le (by rw [List.length_drop]; omega)]
      rw [ec]
      have hlen : ((l.drop (3 * i)).take 3).length = min 3 (l.length - 3 * i) := by rw [List.length_take, List.length_drop]
      refine ⟨p, _, rfl, upd_same, fun n hn => hb n (List.mem_of_mem_drop (List.mem_of_mem_take hn)), by omega, by omega, fun H4 s4 => ⟨_, s4 _ _ (kn hd n), ?_, same_set (sm.trans ((same_new n).trans s4)) hD, ?_⟩⟩
      · rw [List.length_map, List.length_map]
        unfold foursOf
        rw [List.length_map, List.length_range]
        exact szl (by omega)
      · rw [upd_same]
        unfold foursOf
        rw [List.range_succ, List.map_append, List.map_append, List.map_append]
        rfl
    · obtain ⟨sm, hd⟩ := hp
      have hf4 : ∀ p ∈ foursOf l ((l.length + 2) / 3), p.length = 4 := fun p hp => by
        obtain ⟨i, hi, rfl⟩ := List.mem_map.mp hp
        have hi := List.mem_range.mp hi
        refine four_len ?_ ?_ <;> (rw [List.length_take, List.length_drop]; omega)
      refine ⟨("" : Str), D, _, rfl, rfl, .inl (SqL.of hd), ?_, ?_⟩
      · have h1 : (((foursOf l ((l.length + 2) / 3)).map mk).map (·.length)).sum ≤ (foursOf l ((l.length + 2) / 3)).length * 4 := by
          generalize foursOf l ((l.length + 2) / 3) = ps at hf4
          induction ps with
          | nil => simp
          | cons p r ih =>
            have h1 := hf4 p (by simp)
            have h2 := ih fun x hx => hf4 x (List.mem_cons_of_mem _ hx)
            rw [List.map_cons, List.map_cons, List.sum_cons, mk_len, List.length_cons]
            omega
        have h2 : ("" : Str).length = 0 := by decide +kernel
        have h3 : (foursOf l ((l.length + 2) / 3)).length = (l.length + 2) / 3 := by
          unfold foursOf
          rw [List.length_map, List.length_range]
        rw [h2]
        rw [List.length_map]
        omega
      · have ej : Txt.join ("" : Str) ((foursOf l ((l.length + 2) / 3)).map mk) = mk (sixC l) := by
          rw [← fours_all _ l rfl]
          refine mk_eq ?_
          show TL.tl _ = _
          rw [TL.join_eq, TL.tl_join]
          have e : TL.tl ("" : Str) = [] := by decide +kernel
          rw [e, List.map_map]
          have e2 : (foursOf l ((l.length + 2) / 3)).map (TL.tl ∘ mk) = foursOf l ((l.length + 2) / 3) := (List.map_congr_left (fun p _ => mk_codes p)).trans (List.map_id _)
          rw [e2]
          generalize foursOf l ((l.length + 2) / 3) = ps
          clear e2 hf4 hd
          induction ps with
          | nil => rfl
          | cons p r ih =>
            cases r with
            | nil => simp [TL.joinL]
            | cons p2 r2 =>
              show p ++ ([] ++ TL.joinL [] (p2 :: r2)) = _
              rw [ih]
              rfl
        rw [ej]
        exact q _ sm
end
end FL


namespace FL
open PySem PySem.Spec PyProof.Rows L2
/-! ### texts of numbers, marks -/
def SIGS : Str := " !\"#$ &'()*+,-./0123456789:;<=>?@ABCDEFGHIJKLMNOPQRSTUVWXYZ[\\]^_`abcdefghijklmnopqrstuvwxyz{|}~"
theorem sigs_len : SIGS.length = 95 := by decide +kernel
theorem sigs_at : ∀ n, n < 95 → n ≠ 5 → SIGS.cps[n]? = some (n + 32) := by decide +kernel
def numb (n : Nat) : Bool := decide (32 ≤ n ∧ n < 127) && !decide (n = 37)
theorem numb_iff {n : Nat} : numb n = true ↔ 32 ≤ n ∧ n < 127 ∧ n ≠ 37 := by
  unfold numb
  simp only [Bool.and_eq_true, decide_eq_true_eq, Bool.not_eq_true', decide_eq_false_iff_not]
  omega
theorem join0 : ∀ ps : List (List Nat), Txt.join ("" : Str) (ps.map mk) = mk ps.flatten := by
  intro ps
  refine mk_eq ?_
  show TL.tl _ = _
  rw [TL.join_eq, TL.tl_join]
  have e : TL.tl ("" : Str) = [] := by decide +kernel
  rw [e, List.map_map]
  have e2 : ps.map (TL.tl ∘ mk) = ps := (List.map_congr_left (fun p _ => mk_codes p)).trans (List.map_id _)
  rw [e2]
  clear e2
  induction ps with
  | nil => rfl
  | cons p r ih =>
    cases r with
    | nil => simp [TL.joinL]
    | cons p2 r2 =>
      show p ++ ([] ++ TL.joinL [] (p2 :: r2)) = _
      rw [ih]
      rfl
theorem sum0 {ps : List (List Nat)} {n : Nat} (h : ∀ p ∈ ps, p.length ≤ n) : ((ps.map mk).map (·.length)).sum ≤ ps.length * n := by
  induction ps with
  | nil => simp
  | cons p r ih =>
    have h1 := h p (by simp)
    have h2 := ih fun x hx => h x (List.mem_cons_of_mem _ hx)
    rw [List.map_cons, List.map_cons, List.sum_cons, mk_len, List.length_cons, Nat.add_mul, Nat.one_mul]
    omega
def markC (n : Nat) : List Nat := if n = 32 then [95] else if numb n = true ∧ (isLet n || isFig n) = true then [n] else 61 :: hex2 n
theorem markC_len (n : Nat) : (markC n).length ≤ 3 := by
  unfold markC
  split
  · decide
  · split
    · show 1 ≤ 3
      omega
    · exact Nat.le_refl 3
section
variable {P : Program} {w : World} {K : PySem.W.Frag} {mg : Str → Option Value} {base : Heap}
def spNumb : Sp := fun vs H Q _ => ∃ n : Nat, vs = [.int (n : Nat)] ∧ Q (.bl (numb n)) H
theorem scIsNumbered : FnScope ["number"] ["number"] (defScope sIsNumbered) := ⟨rfl, rfl, rfl, by decide +kernel, rfl, by decide +kernel, by decide +kernel⟩
theorem r_is_numbered (A : FnAt K mg "is_numbered" sIsNumbered) (m_len : mg "len" = none) {t1 t2 t3 : Tok} (m_SIGNS : mg "SIGNS" = some (.str SIGS t1)) (m_BLANK : mg "BLANK" = some (.int 32 t2)) (m_PERCENT : mg "PERCENT" = some (.int 37 t3)) : Ready P w K mg base 1 "is_numbered" ["number"] spNumb := by
  refine ready_of A (fun _ _ _ _ _ _ us hl => match us, hl with | [_], _ => rfl) fun f fd F => ?_
  refine F.ok scIsNumbered (fun vs H Q E h => ?_) (fun cdv A outer s H vs Q E hr h => ?_)
  · obtain ⟨n, rfl, _⟩ := h
    rfl
  · obtain ⟨n, rfl, q⟩ := h
    have sc := scIsNumbered
    refine ⟨_, pss_one (ps_ret (pe_and (pe_chain op_le op_lt (pe_glob (v := .int 32) rfl m_BLANK ⟨_, rfl⟩) (pv 0) (pe_op op_add (pe_glob (v := .int 32) rfl m_BLANK ⟨_, rfl⟩) (pe_callB call_len_str (by rfl) m_len PySem.boot_len (pa_cons (pe_glob (v := .str SIGS) rfl m_SIGNS ⟨_, rfl⟩) pa_nil))) (by with_unfolding_all rfl)) (pe_one (pe_cmpR op_ne (pv 0) (pe_glob (v := .int 37) rfl m_PERCENT ⟨_, rfl⟩) (nomark _))))), ?_⟩
    refine ⟨_, rfl, _, _, rfl, rfl, _, rfl, ?_⟩
    have hf : ∀ b : Bool, numb n = b → Q (.bl b) H := fun b e => e ▸ q
    by_cases h1 : (32 : Int) ≤ (n : Nat)
    · rw [decide_eq_true h1]
      refine iteT ⟨_, rfl, by rw [sigs_len]; decide, _, _, rfl, rfl, _, _, rfl, rfl, _, rfl, ?_⟩
      rw [sigs_len]
      by_cases h2 : ((n : Nat) : Int) < 32 + ((95 : Nat) : Int)
      · rw [show decide (((n : Nat) : Int) < 32 + ((95 : Nat) : Int)) = true from decide_eq_true h2]
        refine iteT ⟨_, rfl, rfl, ?_⟩
        refine hf _ ?_
        by_cases h3 : n = 37
        · rw [decide_eq_true (show V.int ((n : Nat) : Int) = V.int 37 by rw [h3]; rfl), h3]
          rfl
        · rw [decide_eq_false (show ¬ V.int ((n : Nat) : Int) = V.int 37 from fun z => h3 (by have := V.int.inj z; omega))]
          exact numb_iff.mpr ⟨by omega, by omega, h3⟩
      · rw [show decide (((n : Nat) : Int) < 32 + ((95 : Nat) : Int)) = false from decide_eq_false h2]
        refine iteF (hf _ ?_)
        cases e : numb n with
        | false => rfl
        | true => have := numb_iff.mp e; omega
    · rw [decide_eq_false h1]
      refine iteF ⟨_, rfl, iteF (hf _ ?_)⟩
      cases e : numb n with
      | false => rfl
      | true => have := numb_iff.mp e; omega
def spSignN : Sp := fun vs H Q _ => ∃ n : Nat, vs = [.int (n : Nat)] ∧ (n = 10 ∨ numb n = true) ∧ Q (.str (mk [n])) H
theorem scSignOf : FnScope ["number"] ["number"] (defScope sSignOf) := ⟨rfl, rfl, rfl, by decide +kernel, rfl, by decide +kernel, by decide +kernel⟩
theorem r_sign_of (A : FnAt K mg "_sign_of" sSignOf) {t1 t2 t3 : Tok} (m_SIGNS : mg "SIGNS" = some (.str SIGS t1)) (m_BLANK : mg "BLANK" = some (.int 32 t2)) (m_LINE_FEED : mg "LINE_FEED" = some (.int 10 t3)) : Ready P w K mg base 1 "_sign_of" ["number"] spSignN := by
  refine ready_of A (fun _ _ _ _ _ _ us hl => match us, hl with | [_], _ => rfl) fun f fd F => ?_
  refine F.ok scSignOf (fun vs H Q E h => ?_) (fun cdv A outer s H vs Q E hr h => ?_)
  · obtain ⟨n, rfl, _⟩ := h
    rfl
  · obtain ⟨n, rfl, hn, q⟩ := h
    have sc := scSignOf
    refine ⟨_, pss_cons (ps_if (pt_cmpR op_eq (pv 0) (pe_glob (v := .int 10) rfl m_LINE_FEED ⟨_, rfl⟩) (nomark _))
        (pss_one (ps_ret pe_str))
        pss_nil)
      (pss_one (ps_ret (pe_item_str (pe_glob (v := .str SIGS) rfl m_SIGNS ⟨_, rfl⟩) (pe_op op_sub (pv 0) (pe_glob (v := .int 32) rfl m_BLANK ⟨_, rfl⟩)) (fun _ _ => rfl)))), ?_⟩
    refine ⟨_, rfl, rfl, _, rfl, ite2 (fun h => ?_) (fun h => ?_)⟩
    · have e : n = 10 := by have := V.int.inj (of_decide_eq_true h); omega
      have e10 : ("\n" : Str) = mk [10] := by decide +kernel
      show Q (.str ("\n" : Str)) H
      rw [e10, ← e]
      exact q
    · have hne : n ≠ 10 := fun z => h (decide_eq_true (by rw [z]; rfl))
      have hb := numb_iff.mp (hn.resolve_left hne)
      refine ⟨_, rfl, _, _, rfl, rfl, ?_⟩
      dsimp only
      rw [show ((n : Nat) : Int) - 32 = ((n - 32 : Nat) : Int) by omega]
      refine ⟨SIGS, _, n, rfl, rfl, by omega, by omega, by rw [sigs_len]; omega, ?_, q⟩
      rw [Int.toNat_natCast, sigs_at (n - 32) (by omega) (by omega), show n - 32 + 32 = n by omega]
def spTextN : Sp := fun vs H Q _ => ∃ (a : Addr) (l : List Nat), vs = [.ref a] ∧ H a = some (.lst (iv l)) ∧ (∀ n ∈ l, n = 10 ∨ numb n = true) ∧ l.length ≤ 9000 ∧ ∀ H', Same H H' → Q (.str (mk l)) H'
theorem scTextOf : FnScope ["numbers", "number"] ["numbers"] (defScope sTextOf) := ⟨rfl, rfl, rfl, by decide +kernel, rfl, by decide +kernel, by decide +kernel⟩
theorem r_text_of (A : FnAt K mg "text_of" sTextOf) (R : Ready P w K mg base 1 "_sign_of" ["number"] spSignN) : Ready P w K mg base 2 "text_of" ["numbers"] spTextN := by
  obtain ⟨f1, fd1, g1, k1, b1, G1⟩ := R
  refine ready_of A (fun _ _ _ _ _ _ us hl => match us, hl with | [_], _ => rfl) fun f fd F => ?_
  refine F.ok scTextOf (fun vs H Q E h => ?_) (fun cdv A outer s H vs Q E hr h => ?_)
  · obtain ⟨a, l, rfl, _⟩ := h
    rfl
  · obtain ⟨a, l, rfl, ha, hb, hl, q⟩ := h
    have sc := scTextOf
    refine ⟨_, pss_one (ps_ret (pe_join pe_str (pe_lc (own := [("number", 1)]) (g := gName 1) (tt := tYes) (by rfl) sc.nd (pi_list (pv 0)) (blkOk_by (own := [("number", 1)]) (N := ["numbers", "number"]) (sc := defScope sTextOf) (by decide +kernel)) (fun _ _ _ _ _ => (pg_name (i := 1) sc.nd rfl (.inl rfl))) (fun _ _ _ _ _ => pts_nil) (fun _ _ _ _ _ => (pe_call G1 (hr.mono (by decide)) (by rfl) g1 k1 b1 .nil pass0 (pa_cons (pv 1) pa_nil)))))), ?_⟩
    refine ⟨⟨_, rfl⟩, _, rfl, a, rfl, ⟨_, SqL.of ha⟩, fun D hD => ?_⟩
    refine lc_it (walk_list (K := K) (a := a) (xs := iv l)) (fun i H' => Same H H' ∧ H' D = some (.lst ((((l.take i).map fun n => [n]).map mk).map V.str))) ⟨same_new hD, upd_same⟩ (fun i H' _ p => SqL.of (p.1 _ _ ha)) (fun i x H2 H3 hi hp hy => ?_) (fun H2 hp => ?_)
    · obtain ⟨rfl, hx⟩ := hy
      obtain ⟨sm, hd⟩ := hp
      rw [iv_len] at hi
      have hn := List.getElem?_eq_getElem hi
      have hbn := hb _ (List.getElem_mem hi)
      generalize l[i] = n at hn hbn
      rw [iv_at hn] at hx
      injection hx with hx
      subst hx
      refine ⟨rfl, ?_⟩
      unfold tYes
      refine iteT ?_
      refine ⟨_, rfl, n, rfl, hbn, _, hd, ?_, same_set sm hD, ?_⟩
      · rw [List.length_map, List.length_map, List.length_map]
        exact Nat.lt_of_le_of_lt (List.length_take_le _ _) (szl (by omega))
      · rw [upd_same, take_more hn, List.map_append, List.map_append, List.map_append]
        rfl
    · obtain ⟨sm, hd⟩ := hp
      rw [iv_len, List.take_length] at hd
      refine ⟨("" : Str), D, _, rfl, rfl, .inl (SqL.of hd), ?_, ?_⟩
      · have h1 := sum0 (ps := l.map fun n => [n]) (n := 1) fun p hp => by
          obtain ⟨n, _, rfl⟩ := List.mem_map.mp hp
          exact Nat.le_refl 1
        have h2 : ("" : Str).length = 0 := by decide +kernel
        rw [h2]
        simp only [List.length_map] at h1 ⊢
        omega
      · rw [join0]
        have e : (l.map fun n => [n]).flatten = l := by
          clear hd hb hl ha q
          induction l with
          | nil => rfl
          | cons a r ih =>
            rw [List.map_cons, List.flatten_cons, ih]
            rfl
        rw [e]
        exact q _ sm
def spSixteen : Sp := fun vs H Q _ => ∃ n : Nat, vs = [.int (n : Nat)] ∧ n < 256 ∧ Q (.str (mk (61 :: hex2 n))) H
theorem scBySixteen : FnScope ["octet"] ["octet"] (defScope sBySixteen) := ⟨rfl, rfl, rfl, by decide +kernel, rfl, by decide +kernel, by decide +kernel⟩
theorem r_by_sixteen (A : FnAt K mg "by_sixteen" sBySixteen) : Ready P w K mg base 1 "by_sixteen" ["octet"] spSixteen := by
  refine ready_of A (fun _ _ _ _ _ _ us hl => match us, hl with | [_], _ => rfl) fun f fd F => ?_
  refine F.ok scBySixteen (fun vs H Q E h => ?_) (fun cdv A outer s H vs Q E hr h => ?_)
  · obtain ⟨n, rfl, _⟩ := h
    rfl
  · obtain ⟨n, rfl, hn, q⟩ := h
    have sc := scBySixteen
    refine ⟨_, pss_one (ps_ret (pe_joined (.cons pe_str (.cons (pe_fmtX (pv 0)) .nil)))), ?_⟩
    have c1 := catX (rfl : Str.empty = mk []) e61
    refine ⟨_, rfl, szE c1 (by simp), ?_⟩
    have c2 := catX c1 (rfl : mk (hex2 n) = _)
    refine ⟨_, rfl, n, rfl, hn, _, rfl, szE c2 (by simp [hex2]), ?_⟩
    show Q (.str _) H
    rw [c2]
    exact q
def spMark : Sp := fun vs H Q _ => ∃ n : Nat, vs = [.int (n : Nat)] ∧ n < 256 ∧ ∀ H', Same H H' → Q (.str (mk (markC n))) H'
theorem scMarkOf : FnScope ["octet", "sign"] ["octet"] (defScope sMarkOf) := ⟨rfl, rfl, rfl, by decide +kernel, rfl, by decide +kernel, by decide +kernel⟩
theorem r_mark_of (A : FnAt K mg "_mark_of" sMarkOf) (R1 : Ready P w K mg base 1 "is_numbered" ["number"] spNumb) (R2 : Ready P w K mg base 2 "text_of" ["numbers"] spTextN) (R3 : Ready P w K mg base 1 "is_figure" ["sign"] (spSign isFig)) (R4 : Ready P w K mg base 1 "is_letter" ["sign"] (spSign isLet)) (R5 : Ready P w K mg base 1 "by_sixteen" ["octet"] spSixteen)
    {t1 : Tok} (m_BLANK : mg "BLANK" = some (.int 32 t1)) : Ready P w K mg base 3 "_mark_of" ["octet"] spMark := by
  obtain ⟨f1, fd1, g1, k1, b1, G1⟩ := R1
  obtain ⟨f2, fd2, g2, k2, b2, G2⟩ := R2
  obtain ⟨f3, fd3, g3, k3, b3, G3⟩ := R3
  obtain ⟨f4, fd4, g4, k4, b4, G4⟩ := R4
  obtain ⟨f5, fd5, g5, k5, b5, G5⟩ := R5
  refine ready_of A (fun _ _ _ _ _ _ us hl => match us, hl with | [_], _ => rfl) fun f fd F => ?_
  refine F.ok scMarkOf (fun vs H Q E h => ?_) (fun cdv A outer s H vs Q E hr h => ?_)
  · obtain ⟨n, rfl, _⟩ := h
    rfl
  · obtain ⟨n, rfl, hn, q⟩ := h
    have sc := scMarkOf
    refine ⟨_, pss_cons (ps_if (pt_cmpR op_eq (pv 0) (pe_glob (v := .int 32) rfl m_BLANK ⟨_, rfl⟩) (nomark _))
        (pss_one (ps_ret pe_str))
        pss_nil)
      (pss_cons (ps_if (pt_val (pe_call G1 (hr.mono (by decide)) (by rfl) g1 k1 b1 .nil pass0 (pa_cons (pv 0) pa_nil)))
        (pss_cons (ps_set (i := 1) sc.nd rfl (.inl rfl) (pe_call G2 (hr.mono (by decide)) (by rfl) g2 k2 b2 .nil pass0 (pa_cons (pe_lst (pa_cons (pv 0) pa_nil)) pa_nil)))
          (pss_one (ps_if (PW.pt (pw_or (pt_val (pe_call G4 (hr.mono (by decide)) (by rfl) g4 k4 b4 .nil pass0 (pa_cons (pv 1) pa_nil))) (pw_or1 (pt_val (pe_call G3 (hr.mono (by decide)) (by rfl) g3 k3 b3 .nil pass0 (pa_cons (pv 1) pa_nil))))))
            (pss_one (ps_ret (pv 1)))
            pss_nil)))
        pss_nil)
      (pss_one (ps_ret (pe_call G5 (hr.mono (by decide)) (by rfl) g5 k5 b5 .nil pass0 (pa_cons (pv 0) pa_nil))))), ?_⟩
    have hf : ∀ (l : List Nat) H', markC n = l → Same H H' → Q (.str (mk l)) H' := fun l H' e s => e ▸ q H' s
    refine ⟨_, rfl, rfl, _, rfl, ite2 (fun h => ?_) (fun h => ?_)⟩
    · have e : n = 32 := by have := V.int.inj (of_decide_eq_true h); omega
      have e95 : ("_" : Str) = mk [95] := by decide +kernel
      show Q (.str ("_" : Str)) H
      rw [e95]
      exact hf _ H (by rw [e]; rfl) (Same.refl H)
    · have hne : n ≠ 32 := fun z => h (decide_eq_true (by rw [z]; rfl))
      have hex : ¬ (numb n = true ∧ (isLet n || isFig n) = true) → ∀ H', Same H H' → Q (.str (mk (61 :: hex2 n))) H' := fun z H' s => hf _ H' (by unfold markC; rw [if_neg hne, if_neg z]) s
      refine ⟨_, rfl, n, rfl, ?_⟩
      refine ⟨_, rfl, ite2 (fun hb => ?_) (fun hb => ?_)⟩
      · refine ⟨_, rfl, (by show 1 ≤ sizeLine; decide), fun p np => ?_⟩
        refine ⟨p, [n], rfl, by rw [upd_same]; rfl, (fun m hm => by rw [List.mem_singleton.mp hm]; exact .inr hb), by show 1 ≤ 9000; omega, fun H1 s1 => ?_⟩
        have t1 := (same_new np).trans s1
        refine ⟨_, rfl, n, rfl, _, rfl, ite2 (fun h4 => ?_) (fun h4 => ?_)⟩
        · refine ⟨_, rfl, hf _ _ ?_ t1⟩
          unfold markC
          rw [if_neg hne, if_pos ⟨hb, by rw [h4]; rfl⟩]
        · refine ⟨_, rfl, n, rfl, _, rfl, ite2 (fun h3 => ?_) (fun h3 => ?_)⟩
          · refine ⟨_, rfl, hf _ _ ?_ t1⟩
            unfold markC
            rw [if_neg hne, if_pos ⟨hb, by rw [h3]; simp⟩]
          · refine ⟨_, rfl, n, rfl, hn, hex (fun z => ?_) _ t1⟩
            have := z.2
            rw [Bool.or_eq_true] at this
            exact this.elim h4 h3
      · exact ⟨_, rfl, n, rfl, hn, hex (fun z => hb z.1) _ (Same.refl H)⟩
def spMarks : Sp := fun vs H Q _ => ∃ (a : Addr) (l : List Nat), vs = [.ref a] ∧ H a = some (.lst (iv l)) ∧ (∀ n ∈ l, n < 256) ∧ l.length ≤ 9000 ∧ ∀ H', Same H H' → Q (.str (mk (l.flatMap markC))) H'
theorem scMarksOf : FnScope ["octets", "octet"] ["octets"] (defScope sMarksOf) := ⟨rfl, rfl, rfl, by decide +kernel, rfl, by decide +kernel, by decide +kernel⟩
theorem r_marks_of (A : FnAt K mg "_marks_of" sMarksOf) (R : Ready P w K mg base 3 "_mark_of" ["octet"] spMark) : Ready P w K mg base 4 "_marks_of" ["octets"] spMarks := by
  obtain ⟨f1, fd1, g1, k1, b1, G1⟩ := R
  refine ready_of A (fun _ _ _ _ _ _ us hl => match us, hl with | [_], _ => rfl) fun f fd F => ?_
  refine F.ok scMarksOf (fun vs H Q E h => ?_) (fun cdv A outer s H vs Q E hr h => ?_)
  · obtain ⟨a, l, rfl, _⟩ := h
    rfl
  · obtain ⟨a, l, rfl, ha, hb, hl, q⟩ := h
    have sc := scMarksOf
    refine ⟨_, pss_one (ps_ret (pe_join pe_str (pe_lc (own := [("octet", 1)]) (g := gName 1) (tt := tYes) (by rfl) sc.nd (pi_list (pv 0)) (blkOk_by (own := [("octet", 1)]) (N := ["octets", "octet"]) (sc := defScope sMarksOf) (by decide +kernel)) (fun _ _ _ _ _ => (pg_name (i := 1) sc.nd rfl (.inl rfl))) (fun _ _ _ _ _ => pts_nil) (fun _ _ _ _ _ => (pe_call G1 (hr.mono (by decide)) (by rfl) g1 k1 b1 .nil pass0 (pa_cons (pv 1) pa_nil)))))), ?_⟩
    refine ⟨⟨_, rfl⟩, _, rfl, a, rfl, ⟨_, SqL.of ha⟩, fun D hD => ?_⟩
    refine lc_it (walk_list (K := K) (a := a) (xs := iv l)) (fun i H' => Same H H' ∧ H' D = some (.lst ((((l.take i).map markC).map mk).map V.str))) ⟨same_new hD, upd_same⟩ (fun i H' _ p => SqL.of (p.1 _ _ ha)) (fun i x H2 H3 hi hp hy => ?_) (fun H2 hp => ?_)
    · obtain ⟨rfl, hx⟩ := hy
      obtain ⟨sm, hd⟩ := hp
      rw [iv_len] at hi
      have hn := List.getElem?_eq_getElem hi
      have hbn := hb _ (List.getElem_mem hi)
      generalize l[i] = n at hn hbn
      rw [iv_at hn] at hx
      injection hx with hx
      subst hx
      refine ⟨rfl, ?_⟩
      unfold tYes
      refine iteT ?_
      refine ⟨_, rfl, n, rfl, hbn, fun H4 s4 => ⟨_, s4 _ _ hd, ?_, same_set (sm.trans s4) hD, ?_⟩⟩
      · rw [List.length_map, List.length_map, List.length_map]
        exact Nat.lt_of_le_of_lt (List.length_take_le _ _) (szl (by omega))
      · rw [upd_same, take_more hn, List.map_append, List.map_append, List.map_append]
        rfl
    · obtain ⟨sm, hd⟩ := hp
      rw [iv_len, List.take_length] at hd
      refine ⟨("" : Str), D, _, rfl, rfl, .inl (SqL.of hd), ?_, ?_⟩
      · have h1 := sum0 (ps := l.map markC) (n := 3) fun p hp => by
          obtain ⟨n, _, rfl⟩ := List.mem_map.mp hp
          exact markC_len n
        have h2 : ("" : Str).length = 0 := by decide +kernel
        rw [h2]
        simp only [List.length_map] at h1 ⊢
        omega
      · rw [join0]
        exact q _ sm
end
end FL


namespace FL
open PySem PySem.Spec PyProof.Rows L2
/-! ### the suite's sixes, bit by bit -/
def parts8 : List Nat := [128, 64, 32, 16, 8, 4, 2, 1]
def bits8 (o : Nat) : List Nat := parts8.map fun p => o / p % 2
def bitsOf (l : List Nat) : List Nat := l.flatMap bits8
def val6 (bs : List Nat) : Nat := bs.foldl (fun n b => 2 * n + b) 0
def chunk (bs : List Nat) (i : Nat) : List Nat := ((bs.drop (6 * i)).take 6 ++ [0, 0, 0, 0]).take 6
def lawC (bs : List Nat) (k : Nat) : List Nat := (List.range k).map fun i => six (val6 (chunk bs i))
theorem bitsOf_len : ∀ l : List Nat, (bitsOf l).length = 8 * l.length
  | [] => rfl
  | a :: r => by
    unfold bitsOf
    rw [List.flatMap_cons, List.length_append]
    have := bitsOf_len r
    unfold bitsOf at this
    rw [this, List.length_cons]
    show 8 + _ = _
    omega
theorem b1 : ∀ a, a < 256 → val6 [a / 128 % 2, a / 64 % 2, a / 32 % 2, a / 16 % 2, a / 8 % 2, a / 4 % 2] = a / 4 := by decide +kernel
theorem b2 : ∀ a, a < 256 → val6 [a / 2 % 2, a / 1 % 2, 0, 0, 0, 0] = a % 4 * 16 := by decide +kernel
theorem b2b {a b : Nat} (ha : a < 256) (hb : b < 256) : val6 [a / 2 % 2, a / 1 % 2, b / 128 % 2, b / 64 % 2, b / 32 % 2, b / 16 % 2] = a % 4 * 16 + b / 16 := by
  show 2 * (2 * (2 * (2 * (2 * (2 * 0 + a / 2 % 2) + a / 1 % 2) + b / 128 % 2) + b / 64 % 2) + b / 32 % 2) + b / 16 % 2 = _
  omega
theorem b3 : ∀ b, b < 256 → val6 [b / 8 % 2, b / 4 % 2, b / 2 % 2, b / 1 % 2, 0, 0] = b % 16 * 4 := by decide +kernel
theorem b3b {b c : Nat} (hb : b < 256) (hc : c < 256) : val6 [b / 8 % 2, b / 4 % 2, b / 2 % 2, b / 1 % 2, c / 128 % 2, c / 64 % 2] = b % 16 * 4 + c / 64 := by
  show 2 * (2 * (2 * (2 * (2 * (2 * 0 + b / 8 % 2) + b / 4 % 2) + b / 2 % 2) + b / 1 % 2) + c / 128 % 2) + c / 64 % 2 = _
  omega
theorem b4 : ∀ c, c < 256 → val6 [c / 32 % 2, c / 16 % 2, c / 8 % 2, c / 4 % 2, c / 2 % 2, c / 1 % 2] = c % 64 := by decide +kernel
theorem lawC_six : ∀ (l : List Nat), (∀ n ∈ l, n < 256) → lawC (bitsOf l) ((8 * l.length + 5) / 6) ++ List.replicate ((4 - (8 * l.length + 5) / 6 % 4) % 4) 61 = sixC l
  | [], _ => rfl
  | [a], h => by
    have ha := h a (by simp)
    rw [show (8 * [a].length + 5) / 6 = 2 by simp]
    show [six (val6 [a / 128 % 2, a / 64 % 2, a / 32 % 2, a / 16 % 2, a / 8 % 2, a / 4 % 2]), six (val6 [a / 2 % 2, a / 1 % 2, 0, 0, 0, 0])] ++ [61, 61] = [six (a / 4), six (a % 4 * 16), 61, 61]
    rw [b1 a ha, b2 a ha]
    rfl
  | [a, b], h => by
    have ha := h a (by simp)
    have hb := h b (by simp)
    rw [show (8 * [a, b].length + 5) / 6 = 3 by simp]
    show [six (val6 [a / 128 % 2, a / 64 % 2, a / 32 % 2, a / 16 % 2, a / 8 % 2, a / 4 % 2]), six (val6 [a / 2 % 2, a / 1 % 2, b / 128 % 2, b / 64 % 2, b / 32 % 2, b / 16 % 2]), six (val6 [b / 8 % 2, b / 4 % 2, b / 2 % 2, b / 1 % 2, 0, 0])] ++ [61] = [six (a / 4), six (a % 4 * 16 + b / 16), six (b % 16 * 4), 61]
    rw [b1 a ha, b2b ha hb, b3 b hb]
    rfl
  | a :: b :: c :: r, h => by
    have ha := h a (by simp)
    have hb := h b (by simp)
    have hc := h c (by simp)
    have ih := lawC_six r fun n hn => h n (by simp [hn])
    have hk : (8 * (a :: b :: c :: r).length + 5) / 6 = 4 + (8 * r.length + 5) / 6 := by
      show (8 * (r.length + 1 + 1 + 1) + 5) / 6 = _
      omega
    rw [hk]
    generalize (8 * r.length + 5) / 6 = k at ih
    rw [show (4 + k) % 4 = k % 4 by omega]
    have hbits : bitsOf (a :: b :: c :: r) = (bits8 a ++ bits8 b ++ bits8 c) ++ bitsOf r := by
      unfold bitsOf
      rw [List.flatMap_cons, List.flatMap_cons, List.flatMap_cons]
      simp only [List.append_assoc]
    have hsh : ∀ i, chunk (bitsOf (a :: b :: c :: r)) (4 + i) = chunk (bitsOf r) i := fun i => by
      unfold chunk
      rw [hbits, show 6 * (4 + i) = (bits8 a ++ bits8 b ++ bits8 c).length + 6 * i by show _ = 24 + 6 * i; omega, List.drop_append]
      rw [List.drop_eq_nil_of_le (by omega), List.nil_append, Nat.add_sub_cancel_left]
    have e : lawC (bitsOf (a :: b :: c :: r)) (4 + k) = lawC (bitsOf (a :: b :: c :: r)) 4 ++ lawC (bitsOf r) k := by
      unfold lawC
      rw [List.range_add, List.map_append, List.map_map]
      congr 1
      exact List.map_congr_left fun i _ => by
        show six (val6 (chunk (bitsOf (a :: b :: c :: r)) (4 + i))) = _
        rw [hsh i]
    rw [e, List.append_assoc, ih]
    have e4 : lawC (bitsOf (a :: b :: c :: r)) 4 = four [a, b, c] := by
      rw [hbits]
      show [six (val6 [a / 128 % 2, a / 64 % 2, a / 32 % 2, a / 16 % 2, a / 8 % 2, a / 4 % 2]), six (val6 [a / 2 % 2, a / 1 % 2, b / 128 % 2, b / 64 % 2, b / 32 % 2, b / 16 % 2]), six (val6 [b / 8 % 2, b / 4 % 2, b / 2 % 2, b / 1 % 2, c / 128 % 2, c / 64 % 2]), six (val6 [c / 32 % 2, c / 16 % 2, c / 8 % 2, c / 4 % 2, c / 2 % 2, c / 1 % 2])] = _
      rw [b1 a ha, b2b ha hb, b3b hb hc, b4 c hc]
      rfl
    rw [e4]
    rfl
end FL


namespace FL
open PySem PySem.Spec PyProof.Rows L2
theorem sixC_len : ∀ l : List Nat, (sixC l).length ≤ 2 * l.length + 2
  | [] => by decide
  | [a] => by show 4 ≤ 4; omega
  | [a, b] => by show 4 ≤ 6; omega
  | a :: b :: c :: r => by
    have := sixC_len r
    show (four [a, b, c] ++ sixC r).length ≤ _
    rw [List.length_append]
    show 4 + _ ≤ 2 * (r.length + 1 + 1 + 1) + 2
    omega
theorem bits_le (l : List Nat) : ∀ b ∈ bitsOf l, b ≤ 1 := by
  intro b hb
  obtain ⟨o, _, hb⟩ := List.mem_flatMap.mp hb
  obtain ⟨p, _, rfl⟩ := List.mem_map.mp hb
  omega
theorem chunk_ok {bs : List Nat} (h : ∀ b ∈ bs, b ≤ 1) (i : Nat) : (chunk bs i).length ≤ 6 ∧ ∀ b ∈ chunk bs i, b ≤ 1 := by
  unfold chunk
  refine ⟨by rw [List.length_take]; omega, fun b hb => ?_⟩
  rcases List.mem_append.mp (List.mem_of_mem_take hb) with hb | hb
  · exact h b (List.mem_of_mem_drop (List.mem_of_mem_take hb))
  · simp only [List.mem_cons, List.not_mem_nil, or_false] at hb
    omega
theorem fold_lt : ∀ (bs : List Nat) (n : Nat), (∀ b ∈ bs, b ≤ 1) → bs.foldl (fun n b => 2 * n + b) n + 1 ≤ (n + 1) * 2 ^ bs.length
  | [], n, _ => by simp
  | b :: r, n, h => by
    have h1 := h b (by simp)
    have ih := fold_lt r (2 * n + b) fun x hx => h x (List.mem_cons_of_mem _ hx)
    rw [List.foldl_cons, List.length_cons, Nat.pow_succ]
    have : (2 * n + b + 1) * 2 ^ r.length ≤ (2 * (n + 1)) * 2 ^ r.length := Nat.mul_le_mul_right _ (by omega)
    have e : (n + 1) * (2 ^ r.length * 2) = 2 * (n + 1) * 2 ^ r.length := by
      rw [Nat.mul_comm (2 ^ r.length) 2, ← Nat.mul_assoc, Nat.mul_comm (n + 1) 2]
    omega
theorem val6_lt {bs : List Nat} (h : ∀ b ∈ bs, b ≤ 1) (hl : bs.length ≤ 6) : val6 bs < 64 := by
  have := fold_lt bs 0 h
  have h2 : 2 ^ bs.length ≤ 64 := Nat.pow_le_pow_right (by decide) hl (n := 2)
  unfold val6
  omega
def spSixesL : Sp := fun vs H Q _ => ∃ (a : Addr) (l : List Nat), vs = [.ref a] ∧ H a = some (.lst (iv l)) ∧ (∀ n ∈ l, n < 256) ∧ l.length ≤ 3000 ∧ ∀ H', Same H H' → Q (.str (mk (sixC l))) H'
section
variable {P : Program} {w : World} {K : PySem.W.Frag} {mg : Str → Option Value} {base : Heap}
theorem scLawSixes : FnScope ["_law_eights", "_law_letters", "_law_bits", "_law_octet", "_law_found", "_law_at", "_law_number", "_law_bit", "_law_part"] ["_law_eights"] (defScope sLawSixes) := ⟨rfl, rfl, rfl, by decide +kernel, rfl, by decide +kernel, by decide +kernel⟩
theorem r_law_sixes (A : FnAt K mg "_law_sixes" sLawSixes) (m_len : mg "len" = none) (m_range : mg "range" = none) : Ready P w K mg base 1 "_law_sixes" ["_law_eights"] spSixesL := by
  refine ready_of A (fun _ _ _ _ _ _ us hl => match us, hl with | [_], _ => rfl) fun f fd F => ?_
  refine F.ok scLawSixes (fun vs H Q E h => ?_) (fun cdv A outer s H vs Q E hr h => ?_)
  · obtain ⟨a, l, rfl, _⟩ := h
    rfl
  · obtain ⟨a, l, rfl, ha, hb, hl, q⟩ := h
    have sc := scLawSixes
    refine ⟨_, pss_cons (ps_set (i := 1) sc.nd rfl (.inl rfl) pe_str)
      (pss_cons (ps_set (i := 2) sc.nd rfl (.inl rfl) (pe_lst pa_nil))
      (pss_cons (ps_for PassesOwn.never rfl (pi_list (pv 0)) (pg_name (i := 3) sc.nd rfl (.inr rfl))
        (pss_one (ps_expr (pe_bm PySem.F.plainAttrs_list PySem.F.slot_list_extend PySem.F.type_list_extend mt_extend (pv 2) (pa_cons (pe_lc (own := [("_law_part", 8)]) (g := gName 8) (tt := tYes) (by rfl) sc.nd (pi_list (pe_lst (pa_cons pe_int (pa_cons pe_int (pa_cons pe_int (pa_cons pe_int (pa_cons pe_int (pa_cons pe_int (pa_cons pe_int (pa_cons pe_int pa_nil)))))))))) (blkOk_by (own := [("_law_part", 8)]) (N := ["_law_eights", "_law_letters", "_law_bits", "_law_octet", "_law_found", "_law_at", "_law_number", "_law_bit", "_law_part"]) (sc := defScope sLawSixes) (by decide +kernel)) (fun _ _ _ _ _ => (pg_name (i := 8) sc.nd rfl (.inl rfl))) (fun _ _ _ _ _ => pts_nil) (fun _ _ _ _ _ => (pe_op op_mod (pe_op op_fdiv (pv 3) (pv 8)) pe_int))) pa_nil)))))
      (pss_cons (ps_set (i := 4) sc.nd rfl (.inl rfl) pe_str)
      (pss_cons (ps_for PassesOwn.never rfl (pi_range3 (by rfl) m_range (pa_cons pe_int (pa_cons (pe_callB call_len_seq (by rfl) m_len PySem.boot_len (pa_cons (pv 2) pa_nil)) (pa_cons pe_int pa_nil)))) (pg_name (i := 5) sc.nd rfl (.inl rfl))
        (pss_cons (ps_set (i := 6) sc.nd rfl (.inl rfl) pe_int)
          (pss_cons (ps_for PassesOwn.never rfl (pi_list (pe_slice sl_list (pe_op op_cat (pe_slice sl_list (pv 2) (po_some (pv 5)) (po_some (pe_op op_add (pv 5) pe_int))) (pe_lst (pa_cons pe_int (pa_cons pe_int (pa_cons pe_int (pa_cons pe_int pa_nil)))))) po_none (po_some pe_int))) (pg_name (i := 7) sc.nd rfl (.inl rfl))
            (pss_one (ps_set (i := 6) sc.nd rfl (.inl rfl) (pe_op op_add (pe_op op_mul pe_int (pv 6)) (pv 7)))))
          (pss_one (ps_set (i := 4) sc.nd rfl (.inl rfl) (pe_op op_add_str (pv 4) (pe_item_str (pv 1) (pv 6) (fun _ _ => rfl))))))))
      (pss_one (ps_ret (pe_op op_add_str (pv 4) (pe_op op_mulS pe_str (pe_op op_mod (pe_un un_neg (pe_callB call_len_str (by rfl) m_len PySem.boot_len (pa_cons (pv 4) pa_nil))) pe_int))))))))), ?_⟩
    refine ⟨(by show 0 ≤ sizeLine; decide), fun pb nb => ?_⟩
    refine ⟨_, rfl, a, rfl, ⟨_, SqL.of (kn ha nb)⟩, ?_⟩
    refine for_it (walk_list (K := K) (a := a) (xs := iv l)) (fun i σ H' => ∃ (y3 : Option V), σ = [some (.ref a), some (.str SIXS), some (.ref pb), y3, none, none, none, none, none] ∧ Same H H' ∧ H' pb = some (.lst (iv (bitsOf (l.take i))))) ⟨none, rfl, same_new nb, upd_same⟩ (fun i σ H' _ hp => ?_) (fun i x σ H1 H2 hi hp hy => ?_) (fun σ H1 hp => ?_)
    · obtain ⟨y3, rfl, sm, _⟩ := hp
      exact SqL.of (sm _ _ ha)
    · obtain ⟨y3, rfl, sm, hpb⟩ := hp
      obtain ⟨rfl, hx⟩ := hy
      rw [iv_len] at hi
      have hn := List.getElem?_eq_getElem hi
      generalize l[i] = o at hn
      rw [iv_at hn] at hx
      injection hx with hx
      subst hx
      refine ⟨_, rfl, .inl ⟨rfl, _, SqL.of hpb⟩, (by show 8 ≤ sizeLine; decide), fun pp np => ?_⟩
      have hpp : (upd H2 pp (.lst [.int 128, .int 64, .int 32, .int 16, .int 8, .int 4, .int 2, .int 1])) pp = some (.lst (iv parts8)) := upd_same
      have s3 : Same H2 (upd H2 pp (.lst [.int 128, .int 64, .int 32, .int 16, .int 8, .int 4, .int 2, .int 1])) := same_new np
      generalize upd H2 pp (.lst [.int 128, .int 64, .int 32, .int 16, .int 8, .int 4, .int 2, .int 1]) = H3 at hpp s3 ⊢
      refine ⟨pp, rfl, ⟨_, SqL.of hpp⟩, fun D hD => ?_⟩
      refine lc_it (walk_list (K := K) (a := pp) (xs := iv parts8)) (fun j H' => Same H3 H' ∧ H' D = some (.lst (iv ((parts8.take j).map fun p => o / p % 2)))) ⟨same_new hD, upd_same⟩ (fun j H' _ p => SqL.of (p.1 _ _ hpp)) (fun j x H4 H5 hj hp hy => ?_) (fun H4 hp => ?_)
      · obtain ⟨rfl, hx⟩ := hy
        obtain ⟨s5, hd⟩ := hp
        rw [iv_len] at hj
        have hm := List.getElem?_eq_getElem hj
        have hpt : 1 ≤ parts8[j] ∧ parts8[j] ≤ 128 := (by decide : ∀ p ∈ parts8, 1 ≤ p ∧ p ≤ 128) _ (List.getElem_mem hj)
        generalize parts8[j] = pt at hm hpt
        rw [iv_at hm] at hx
        injection hx with hx
        subst hx
        refine ⟨rfl, ?_⟩
        unfold tYes
        refine iteT ?_
        refine ⟨_, rfl, _, rfl, _, _, rfl, rfl, ⟨by omega, by omega⟩, _, _, rfl, rfl, (by show (0 : Int) < 2; decide), _, hd, ?_, same_set s5 hD, ?_⟩
        · rw [iv_len, List.length_map]
          exact Nat.lt_of_le_of_lt (List.length_take_le _ _) (szl (by have : j < 8 := hj; omega))
        · rw [upd_same, take_more hm, List.map_append, iv_app]
          rfl
      · obtain ⟨s5, hd⟩ := hp
        have hd : H4 D = some (.lst (iv (bits8 o))) := hd
        have hpb4 := s5 _ _ (s3 _ _ hpb)
        have hbl := bitsOf_len (l.take i)
        have hti : (l.take i).length ≤ l.length := List.length_take_le' _ _
        refine ⟨pb, D, _, _, rfl, rfl, hpb4, hd, by rw [iv_len, iv_len, hbl, sizeLine_eq]; show _ + 8 ≤ _; omega, ?_⟩
        refine ⟨_, rfl, same_set (sm.trans (s3.trans s5)) nb, ?_⟩
        rw [upd_same, ← iv_app, take_more hn]
        unfold bitsOf
        rw [List.flatMap_append]
        rfl
    obtain ⟨y3, rfl, sm, hpb⟩ := hp
    have hpb : H1 pb = some (.lst (iv (bitsOf (l.take (iv l).length)))) := hpb
    rw [iv_len, List.take_length] at hpb
    have hbl := bitsOf_len l
    have hbits := bits_le l
    obtain ⟨bs, hbs⟩ : ∃ bs, bs = bitsOf l := ⟨_, rfl⟩
    have hfin := lawC_six l hb
    rw [← hbs] at hpb hbl hbits hfin
    have e0x : ("" : Str) = mk [] := by decide +kernel
    refine ⟨_, rfl, pb, _, rfl, .inl (SqL.of hpb), 0, ((bs.length : Nat) : Int), 6, (bs.length + 5) / 6, by rw [iv_len], rg_up (c := 6) (by omega) (by decide) (by decide), ?_⟩
    refine for_it (walk_rangeC (lo := 0) (c := 6) (n := (bs.length + 5) / 6)) (fun i σ H' => ∃ (y5 y6 y7 : Option V), σ = [some (.ref a), some (.str SIXS), some (.ref pb), y3, some (.str (mk (lawC bs i))), y5, y6, y7, none] ∧ Same H1 H') ⟨none, none, none, by rw [show lawC bs 0 = [] from rfl, ← e0x]; rfl, Same.refl H1⟩ (fun _ _ _ _ _ => trivial) (fun i x σ H2 H3 hi hp hy => ?_) (fun σ H2 hp => ?_)
    · obtain ⟨y5, y6, y7, rfl, s2⟩ := hp
      obtain ⟨rfl, hx⟩ := hy
      have hx' : x = .int ((6 * i : Nat) : Int) := by
        rw [hx]
        exact congrArg V.int (by omega)
      subst hx'
      have hpb2 := s2 _ _ hpb
      refine ⟨_, rfl, _, rfl, _, rfl, _, rfl, _, _, rfl, rfl, _, rfl, pb, _, rfl, SqL.of hpb2, fun p1 n1 => ?_⟩
      have ec : cutV (iv bs) (some ((6 * i : Nat) : Int)) (some (((6 * i : Nat) : Int) + 6)) = iv ((bs.drop (6 * i)).take 6) := by
        unfold cutV
        rw [show (((6 * i : Nat) : Int) + 6) = ((6 * i + 6 : Nat) : Int) by omega, HT.sIx_nat, HT.sIx_nat, iv_len, Nat.min_eq_left (show 6 * i ≤ bs.length by omega)]
        unfold iv
        rw [← List.map_drop, ← List.map_take]
        congr 1
        by_cases h : 6 * i + 6 ≤ bs.length
        · rw [Nat.min_eq_left h, show 6 * i + 6 - 6 * i = 6 by omega]
        · rw [Nat.min_eq_right (show bs.length ≤ 6 * i + 6 by omega), List.take_of_length_le (by rw [List.length_drop]; omega), List.take_of_length_le (by rw [List.length_drop]; omega)]
      rw [ec]
      refine ⟨(by show 4 ≤ sizeLine; decide), fun p2 n2 => ?_⟩
      have hl6 : ((bs.drop (6 * i)).take 6).length ≤ 6 := List.length_take_le _ _
      refine ⟨p1, p2, _, _, rfl, rfl, kn upd_same n2, upd_same, by rw [iv_len, sizeLine_eq]; show _ + 4 ≤ _; omega, fun p3 n3 => ?_⟩
      rw [show iv ((bs.drop (6 * i)).take 6) ++ [V.int 0, V.int 0, V.int 0, V.int 0] = iv ((bs.drop (6 * i)).take 6 ++ [0, 0, 0, 0]) by rw [iv_app]; rfl]
      refine ⟨_, rfl, p3, _, rfl, SqL.of upd_same, fun p4 n4 => ?_⟩
      have ec2 : cutV (iv ((bs.drop (6 * i)).take 6 ++ [0, 0, 0, 0])) none (some 6) = iv (chunk bs i) := by
        unfold cutV
        rw [show (6 : Int) = ((6 : Nat) : Int) from rfl, HT.sIx_none, HT.sIx_nat, iv_len]
        rw [List.drop_zero, Nat.sub_zero]
        unfold iv chunk
        rw [← List.map_take]
        congr 1
        rw [List.take_eq_take_iff]
        simp
      rw [ec2]
      obtain ⟨hcl, hc1⟩ := chunk_ok hbits i
      have hv := val6_lt hc1 hcl
      refine ⟨p4, rfl, ⟨_, SqL.of upd_same⟩, ?_⟩
      refine for_it (walk_list (K := K) (a := p4) (xs := iv (chunk bs i))) (fun j σ H' => ∃ (y7 : Option V), σ = [some (.ref a), some (.str SIXS), some (.ref pb), y3, some (.str (mk (lawC bs i))), some (.int ((6 * i : Nat) : Int)), some (.int ((((chunk bs i).take j).foldl (fun n b => 2 * n + b) 0 : Nat) : Int)), y7, none] ∧ Same H1 H' ∧ H' p4 = some (.lst (iv (chunk bs i)))) ⟨y7, ?_, s2.trans ((same_new n1).trans ((same_new n2).trans ((same_new n3).trans (same_new n4)))), upd_same⟩ (fun j σ H' _ hp => ?_) (fun j x σ H5 H6 hj hp hy => ?_) (fun σ H5 hp => ?_)
      · rfl
      · obtain ⟨y7, rfl, s5, h5⟩ := hp
        exact SqL.of h5
      · obtain ⟨y7, rfl, s5, h5⟩ := hp
        obtain ⟨rfl, hx⟩ := hy
        rw [iv_len] at hj
        have hn := List.getElem?_eq_getElem hj
        generalize (chunk bs i)[j] = b at hn
        rw [iv_at hn] at hx
        injection hx with hx
        subst hx
        refine ⟨_, rfl, _, _, rfl, rfl, .inl ⟨by decide, by decide⟩, _, rfl, _, _, rfl, rfl, some (.int (b : Nat)), ?_, s5, h5⟩
        rw [take_more hn, List.foldl_append]
        rfl
      · obtain ⟨y7, rfl, s5, h5⟩ := hp
        rw [iv_len, List.take_length]
        have hln : (lawC bs i).length = i := by
          unfold lawC
          rw [List.length_map, List.length_range]
        have c1 := catX (rfl : mk (lawC bs i) = _) (rfl : mk [six (val6 (chunk bs i))] = _)
        refine ⟨_, rfl, _, rfl, _, rfl, SIXS, _, six (val6 (chunk bs i)), rfl, rfl, by omega, (by show ((val6 (chunk bs i) : Nat) : Int) < 2 ^ 63; omega), (by rw [six_len]; show ((val6 (chunk bs i) : Nat) : Int) < _; omega), ?_, ?_⟩
        · show SIXS.cps[((val6 (chunk bs i) : Nat) : Int).toNat]? = _
          rw [Int.toNat_natCast]
          exact six_at _ hv
        refine ⟨_, _, rfl, rfl, (by rw [← len_append]; exact szE c1 (by rw [List.length_append, hln]; show i + 1 ≤ _; omega)), ?_⟩
        have c2 : mk (lawC bs i) ++ (⟨#[six (val6 (chunk bs i))]⟩ : Str) = mk (lawC bs (i + 1)) := by
          rw [show (⟨#[six (val6 (chunk bs i))]⟩ : Str) = mk [six (val6 (chunk bs i))] from rfl, c1]
          congr 1
          unfold lawC
          rw [List.range_succ, List.map_append]
          rfl
        rw [c2]
        exact ⟨_, _, _, rfl, s5⟩
    · obtain ⟨y5, y6, y7, rfl, s2⟩ := hp
      have hk : (bs.length + 5) / 6 = (8 * l.length + 5) / 6 := by rw [hbl]
      rw [← hk] at hfin
      have hln : (lawC bs ((bs.length + 5) / 6)).length = (bs.length + 5) / 6 := by
        unfold lawC
        rw [List.length_map, List.length_range]
      refine ⟨_, rfl, _, rfl, _, rfl, szX (by rw [hln]; omega), _, rfl, _, _, rfl, rfl, (by show (0 : Int) < 4; decide), ?_⟩
      rw [mk_len, hln]
      generalize (bs.length + 5) / 6 = k at hfin hln
      dsimp only
      rw [show (-((k : Nat) : Int)) % 4 = (((4 - k % 4) % 4 : Nat) : Int) by omega]
      refine ⟨61, (4 - k % 4) % 4, ?_, rfl, by omega, ?_⟩
      · exact congrArg V.str e61
      have c3 := catX (rfl : mk (lawC bs k) = _) (rfl : mk (List.replicate ((4 - k % 4) % 4) 61) = _)
      refine ⟨_, _, rfl, rfl, (by rw [← len_append]; exact szE c3 (by rw [hfin]; have := sixC_len l; omega)), ?_⟩
      rw [c3, hfin]
      exact q _ (sm.trans s2)
end
end FL


namespace FL
open PySem PySem.Spec PyProof.Rows L2
/-! ### signs and their octets -/
def octs (s : Nat) : List Nat := if s < 128 then [s] else if s < 2048 then [192 + s / 64, 128 + s % 64] else [224 + s / 4096, 128 + s % 4096 / 64, 128 + s % 64]
def octsOf (l : List Nat) : List Nat := l.flatMap octs
def GS (l : List Nat) : Prop := (∀ n ∈ l, 32 ≤ n ∧ n ≤ 65535) ∧ l.length ≤ 2000
def GO (l : List Nat) : Prop := (∀ n ∈ l, n < 256) ∧ l.length ≤ 9000
def sizeFrom (o : Nat) : Nat := if o < 128 then 1 else if o < 224 then 2 else 3
def valO : List Nat → Int
  | [a] => a
  | [a, b] => 64 * ((a : Int) - 192) + b - 128
  | [a, b, c] => 4096 * ((a : Int) - 224) + 64 * ((b : Int) - 128) + c - 128
  | _ => 0
def signR (t : List Nat) : Option Nat := if isSgnI (valO t) = true ∧ octs (valO t).toNat = t then some (valO t).toNat else none
theorem octs_pos (s : Nat) : 1 ≤ (octs s).length ∧ (octs s).length ≤ 3 := by
  unfold octs
  split
  · exact ⟨by simp, by simp⟩
  · split <;> exact ⟨by simp, by simp⟩
theorem octs_lt {s : Nat} (h : s ≤ 65535) : ∀ n ∈ octs s, n < 256 := by
  unfold octs
  intro n hn
  split at hn
  · simp only [List.mem_singleton] at hn; omega
  · split at hn
    · simp only [List.mem_cons, List.not_mem_nil, or_false] at hn; omega
    · simp only [List.mem_cons, List.not_mem_nil, or_false] at hn; omega
theorem val_octs {s : Nat} (h : s ≤ 65535) : valO (octs s) = s := by
  unfold octs
  split
  · rfl
  · split
    · show 64 * (((192 + s / 64 : Nat) : Int) - 192) + ((128 + s % 64 : Nat) : Int) - 128 = s
      omega
    · show 4096 * (((224 + s / 4096 : Nat) : Int) - 224) + 64 * (((128 + s % 4096 / 64 : Nat) : Int) - 128) + ((128 + s % 64 : Nat) : Int) - 128 = s
      omega
theorem signR_octs {s : Nat} (h1 : 32 ≤ s) (h2 : s ≤ 65535) : signR (octs s) = some s := by
  unfold signR
  rw [val_octs h2, Int.toNat_natCast, if_pos ⟨decide_eq_true (by omega), rfl⟩]
theorem signR_some {t : List Nat} {s : Nat} (h : signR t = some s) : 32 ≤ s ∧ s ≤ 65535 ∧ octs s = t := by
  unfold signR at h
  split at h
  · rename_i g
    injection h with h
    have := of_decide_eq_true g.1
    refine ⟨by omega, by omega, by rw [← h]; exact g.2⟩
  · cases h
theorem size_octs (s : Nat) (h : s ≤ 65535) : sizeFrom ((octs s).getD 0 0) = (octs s).length := by
  unfold octs
  split
  · rename_i g
    show sizeFrom s = 1
    unfold sizeFrom
    rw [if_pos g]
  · split
    · show sizeFrom (192 + s / 64) = 2
      unfold sizeFrom
      rw [if_neg (by omega), if_pos (by omega)]
    · show sizeFrom (224 + s / 4096) = 3
      unfold sizeFrom
      rw [if_neg (by omega), if_neg (by omega)]
theorem octsOf_len (l : List Nat) : (octsOf l).length ≤ 3 * l.length := by
  induction l with
  | nil => exact Nat.le_refl _
  | cons a r ih =>
    have := octs_pos a
    unfold octsOf at ih ⊢
    rw [List.flatMap_cons, List.length_append, List.length_cons]
    omega
theorem octsOf_lt {l : List Nat} (h : ∀ n ∈ l, 32 ≤ n ∧ n ≤ 65535) : ∀ n ∈ octsOf l, n < 256 := by
  intro n hn
  obtain ⟨s, hs, hn⟩ := List.mem_flatMap.mp hn
  exact octs_lt (h s hs).2 n hn
/-- the mirror of saying_of: of the octets from a place on, with so many turns -/
def sayR (l : List Nat) : Nat → Nat → Option (Except Nat (List Nat))
  | 0, p => if p < l.length then none else some (.ok [])
  | n + 1, p => match l[p]? with
    | none => some (.ok [])
    | some o => match signR ((l.drop p).take (sizeFrom o)) with
      | none => some (.error p)
      | some s => (sayR l n (p + ((l.drop p).take (sizeFrom o)).length)).map fun
        | .ok r => .ok (s :: r)
        | .error q => .error q
section
variable {P : Program} {w : World} {K : PySem.W.Frag} {mg : Str → Option Value} {base : Heap}
def spNewInts (f : Nat → List Nat) : Sp := fun vs H Q _ => ∃ s : Nat, vs = [.int (s : Int)] ∧ ∀ H' p, Same H H' → H p = none → H' p = some (.lst (iv (f s))) → Q (.ref p) H'
theorem scOctetsOfSign : FnScope ["sign"] ["sign"] (defScope sOctetsOfSign) := ⟨rfl, rfl, rfl, by decide +kernel, rfl, by decide +kernel, by decide +kernel⟩
theorem r_octets_of_sign (A : FnAt K mg "_octets_of_sign" sOctetsOfSign) : Ready P w K mg base 1 "_octets_of_sign" ["sign"] (spNewInts octs) := by
  refine ready_of A (fun _ _ _ _ _ _ us hl => match us, hl with | [_], _ => rfl) fun f fd F => ?_
  refine F.ok scOctetsOfSign (fun vs H Q E h => ?_) (fun cdv A outer s H vs Q E hr h => ?_)
  · obtain ⟨s, rfl, _⟩ := h
    rfl
  · obtain ⟨s, rfl, q⟩ := h
    have sc := scOctetsOfSign
    refine ⟨_, pss_cons (ps_if (pt_cmpR op_lt (pv 0) pe_int (nomark _))
        (pss_one (ps_ret (pe_lst (pa_cons (pv 0) pa_nil))))
        pss_nil)
      (pss_cons (ps_if (pt_cmpR op_lt (pv 0) pe_int (nomark _))
        (pss_one (ps_ret (pe_lst (pa_cons (pe_op op_add pe_int (pe_op op_fdiv (pv 0) pe_int)) (pa_cons (pe_op op_add pe_int (pe_op op_mod (pv 0) pe_int)) pa_nil)))))
        pss_nil)
      (pss_one (ps_ret (pe_lst (pa_cons (pe_op op_add pe_int (pe_op op_fdiv (pv 0) pe_int)) (pa_cons (pe_op op_add pe_int (pe_op op_fdiv (pe_op op_mod (pv 0) pe_int) pe_int)) (pa_cons (pe_op op_add pe_int (pe_op op_mod (pv 0) pe_int)) pa_nil))))))), ?_⟩
    refine ⟨_, rfl, _, _, rfl, rfl, _, rfl, ite2 (fun h => ?_) (fun h => ?_)⟩
    · have h1 : s < 128 := by have := of_decide_eq_true h; omega
      refine ⟨_, rfl, (by show 1 ≤ sizeLine; decide), fun p np => q _ p (same_new np) np ?_⟩
      rw [upd_same]
      unfold octs
      rw [if_pos h1]
      rfl
    · have h1 : ¬ s < 128 := fun z => h (decide_eq_true (by omega))
      refine ⟨_, rfl, _, _, rfl, rfl, _, rfl, ite2 (fun h => ?_) (fun h => ?_)⟩
      · have h2 : s < 2048 := by have := of_decide_eq_true h; omega
        refine ⟨_, rfl, _, _, rfl, rfl, ⟨by decide, by decide⟩, _, _, rfl, rfl, _, rfl, _, _, rfl, rfl, (by show (0 : Int) < 64; decide), _, _, rfl, rfl, (by show 2 ≤ sizeLine; decide), fun p np => q _ p (same_new np) np ?_⟩
        rw [upd_same]
        unfold octs
        rw [if_neg h1, if_pos h2]
        rfl
      · have h2 : ¬ s < 2048 := fun z => h (decide_eq_true (by omega))
        refine ⟨_, rfl, _, _, rfl, rfl, ⟨by decide, by decide⟩, _, _, rfl, rfl, _, rfl, _, _, rfl, rfl, (by show (0 : Int) < 4096; decide), _, _, rfl, rfl, ⟨by decide, by decide⟩, _, _, rfl, rfl, _, rfl, _, _, rfl, rfl, (by show (0 : Int) < 64; decide), _, _, rfl, rfl, (by show 3 ≤ sizeLine; decide), fun p np => q _ p (same_new np) np ?_⟩
        rw [upd_same]
        unfold octs
        rw [if_neg h1, if_neg h2]
        rfl
def spNat (f : Nat → Nat) : Sp := fun vs H Q _ => ∃ s : Nat, vs = [.int (s : Int)] ∧ Q (.int (f s : Nat)) H
def optV : Option Nat → V
  | none => .non
  | some s => .int (s : Nat)
def spSignOf (K : PySem.W.Frag) : Sp := fun vs H Q _ => ∃ a l, vs = [.ref a] ∧ H a = some (.lst (iv l)) ∧ 1 ≤ l.length ∧ l.length ≤ 3 ∧ (∀ n ∈ l, n < 256) ∧ ∀ H', Same H H' → Q (optV (signR l)) H'
end
end FL


namespace FL
open PySem PySem.Spec PyProof.Rows L2
/-! ### a saying's octets by words -/
def stepW (wr : List Nat → List Nat) (rows : List (List Nat)) (o : List Nat) : List (List Nat) :=
  if rows ≠ [] ∧ (wr (rows.getLastD [] ++ o)).length ≤ 54 then rows.dropLast ++ [rows.getLastD [] ++ o] else rows ++ [o]
def rowsW (wr : List Nat → List Nat) (f : Nat → List Nat) (l : List Nat) : List (List Nat) := l.foldl (fun rows s => stepW wr rows (f s)) []
def wordC (wr : List Nat → List Nat) (c : Nat) (row : List Nat) : List Nat := [61, 63, c, 63] ++ wr row ++ [63, 61]
/-- a writer of octets -/
def spWr (wr : List Nat → List Nat) : Sp := fun vs H Q _ => ∃ (a : Addr) (l : List Nat), vs = [.ref a] ∧ H a = some (.lst (iv l)) ∧ (∀ n ∈ l, n < 256) ∧ l.length ≤ 9000 ∧ ∀ H', Same H H' → Q (.str (mk (wr l))) H'
theorem spSixes_wr : spSixes = spWr sixC := rfl
theorem spMarks_wr : spMarks = spWr (fun l => l.flatMap markC) := rfl
/-- rows at their places -/
structure RowsAt (H0 H : Hp) (As : List Addr) (rows : List (List Nat)) : Prop where
  len : As.length = rows.length
  nd : As.Nodup
  fresh : ∀ A ∈ As, H0 A = none
  at_ : ∀ (i : Nat) (A : Addr), As[i]? = some A → ∃ r, rows[i]? = some r ∧ H A = some (.lst (iv r))
theorem RowsAt.same {H0 H H1 : Hp} {As : List Addr} {rows : List (List Nat)} (R : RowsAt H0 H As rows) (s : Same H H1) : RowsAt H0 H1 As rows :=
  ⟨R.len, R.nd, R.fresh, fun i A h => let ⟨r, e, hA⟩ := R.at_ i A h; ⟨r, e, s _ _ hA⟩⟩
theorem RowsAt.other {H0 H : Hp} {As : List Addr} {rows : List (List Nat)} {p : Addr} {o : HO} (R : RowsAt H0 H As rows) (h : p ∉ As) : RowsAt H0 (upd H p o) As rows :=
  ⟨R.len, R.nd, R.fresh, fun i A e => let ⟨r, e2, hA⟩ := R.at_ i A e; ⟨r, e2, by
    have hne : A ≠ p := fun z => h (by rw [← z]; exact List.mem_of_getElem? e)
    rw [upd_ne hne]
    exact hA⟩⟩
theorem RowsAt.more {H0 H : Hp} {As : List Addr} {rows : List (List Nat)} {A : Addr} {o : List Nat} (R : RowsAt H0 H As rows) (hA : H A = some (.lst (iv o))) (nA : H0 A = none) (h : A ∉ As) : RowsAt H0 H (As ++ [A]) (rows ++ [o]) := by
  refine ⟨by simp [R.len], List.nodup_append.mpr ⟨R.nd, by simp, fun a ha b hb e => ?_⟩, fun B hB => ?_, fun i B e => ?_⟩
  · rw [List.mem_singleton.mp hb] at e
    exact h (e ▸ ha)
  · rcases List.mem_append.mp hB with hB | hB
    · exact R.fresh B hB
    · rw [List.mem_singleton.mp hB]
      exact nA
  · by_cases hi : i < As.length
    · rw [List.getElem?_append_left hi] at e
      obtain ⟨r, e2, h2⟩ := R.at_ i B e
      exact ⟨r, by rw [List.getElem?_append_left (by rw [← R.len]; exact hi)]; exact e2, h2⟩
    · rw [List.getElem?_append_right (by omega)] at e
      have hi2 : i = As.length := by
        have := (List.getElem?_eq_some_iff.mp e).1
        simp at this
        omega
      subst hi2
      rw [Nat.sub_self] at e
      injection e with e
      subst e
      exact ⟨o, by rw [List.getElem?_append_right (by rw [R.len]; exact Nat.le_refl _), R.len, Nat.sub_self]; rfl, hA⟩
/-- the last row made longer -/
theorem RowsAt.last {H0 H : Hp} {As : List Addr} {rows : List (List Nat)} {A : Addr} {o : List Nat} (R : RowsAt H0 H (As ++ [A]) (rows ++ [o])) {m : List Nat} : RowsAt H0 (upd H A (.lst (iv m))) (As ++ [A]) (rows ++ [m]) := by
  have hl : As.length = rows.length := by have := R.len; simp at this; exact this
  refine ⟨by simp [hl], R.nd, R.fresh, fun i B e => ?_⟩
  by_cases hi : i < As.length
  · obtain ⟨r, e2, h2⟩ := R.at_ i B e
    rw [List.getElem?_append_left hi] at e
    rw [List.getElem?_append_left (by omega)] at e2
    refine ⟨r, by rw [List.getElem?_append_left (by omega)]; exact e2, ?_⟩
    have hne : B ≠ A := fun z => by
      have := (List.nodup_append.mp R.nd).2.2 B (List.mem_of_getElem? e) A (by simp)
      exact this z
    rw [upd_ne hne]
    exact h2
  · have hi2 : i = As.length := by
      have := (List.getElem?_eq_some_iff.mp e).1
      simp at this
      omega
    subst hi2
    rw [List.getElem?_append_right (Nat.le_refl _), Nat.sub_self] at e
    injection e with e
    subst e
    exact ⟨m, by rw [hl, List.getElem?_append_right (Nat.le_refl _), Nat.sub_self]; rfl, upd_same⟩
end FL


namespace FL
open PySem PySem.Spec PyProof.Rows L2
theorem rows_data {H0 H : Hp} {K : PySem.W.Frag} : ∀ {As : List Addr} {rows : List (List Nat)}, As.length = rows.length → (∀ (i : Nat) (A : Addr), As[i]? = some A → ∃ r, rows[i]? = some r ∧ H A = some (.lst (iv r))) → DpAll K H (As.map V.ref) (rows.map fun r => PyData.list (idt r))
  | [], [], _, _ => .nil
  | A :: As, r :: rows, hl, h => by
    obtain ⟨r', e, hA⟩ := h 0 A rfl
    injection e with e
    subst e
    refine .cons (dpl hA) (rows_data (H0 := H0) (by simpa using hl) fun i B e => ?_)
    obtain ⟨r', e2, hB⟩ := h (i + 1) B e
    exact ⟨r', e2, hB⟩
  | [], _ :: _, hl, _ => by simp at hl
  | _ :: _, [], hl, _ => by simp at hl
theorem rows_sh (rows : List (List Nat)) : SeqAt.shaped (.list (rows.map fun r => PyData.list (idt r))) = true := by
  refine shaped_of ?_ ?_
  · rw [PyData.canLay0]
    refine canLayAll_of fun d hd => ?_
    obtain ⟨r, _, rfl⟩ := List.mem_map.mp hd
    exact (Bool.and_eq_true_iff.mp (shaped_ints r)).1
  · rw [PyData.depth]
    have : PyData.depthAll (rows.map fun r => PyData.list (idt r)) ≤ 1 := depthAll_of fun d hd => by
      obtain ⟨r, _, rfl⟩ := List.mem_map.mp hd
      rw [PyData.depth]
      have : PyData.depthAll (idt r) ≤ 0 := depthAll_of fun d hd => by
        obtain ⟨z, hz, rfl⟩ := List.mem_map.mp hd
        rw [PyData.depth]
        exact Nat.le_refl _
      omega
    omega
theorem octs_c2 (s : Nat) : octs s = [s] ∨ octs s = [192 + s / 64, 128 + s % 64] ∨ octs s = [224 + s / 4096, 128 + s % 4096 / 64, 128 + s % 64] := by
  unfold octs
  split
  · exact .inl rfl
  · split
    · exact .inr (.inl rfl)
    · exact .inr (.inr rfl)
theorem joinW {u : Str} {k : Nat} (hu : u = mk [k]) (ps : List (List Nat)) : Txt.join u (ps.map mk) = mk (TL.joinL [k] ps) := by
  refine mk_eq ?_
  show TL.tl _ = _
  rw [TL.join_eq, TL.tl_join]
  have e : TL.tl u = [k] := by
    show u.cps.toList = [k]
    rw [hu, mk_codes]
  rw [e, List.map_map]
  congr 1
  exact (List.map_congr_left (fun p _ => mk_codes p)).trans (List.map_id _)
theorem nil_sh : SeqAt.shaped (.list []) = true := rows_sh []
structure RowsOk (rows : List (List Nat)) (n : Nat) : Prop where
  lt : ∀ r ∈ rows, ∀ o ∈ r, o < 256
  len : ∀ r ∈ rows, r.length ≤ n
section
variable {P : Program} {w : World} {K : PySem.W.Frag} {mg : Str → Option Value} {base : Heap}
def spByWords (wr : List Nat → List Nat) (fW : Addr) : Sp := fun vs H Q _ => ∃ (a : Addr) (l : List Nat) (c : Nat), vs = [.ref a, .str (mk [c]), .ref fW] ∧ H a = some (.lst (iv l)) ∧ (∀ n ∈ l, 32 ≤ n ∧ n ≤ 65535) ∧ l.length ≤ 250 ∧
  ∀ H', Same H H' → Q (.str (mk (TL.joinL [32] ((rowsW wr octs l).map (wordC wr c))))) H'
theorem scByWords : FnScope ["saying", "sort", "write", "room", "rows", "sign", "octets", "row"] ["saying", "sort", "write"] (defScope sByWords) := ⟨rfl, rfl, rfl, by decide +kernel, rfl, by decide +kernel, by decide +kernel⟩
theorem r_by_words {fW : Addr} {fdW : FuncData} {psW : List Str} {wr : List Nat → List Nat} {kk : Nat} (A : FnAt K mg "_by_words" sByWords) (GW : FnOk P w K mg base CX0 kk fW fdW psW (spWr wr)) (hk4 : kk ≤ 4) (kW : PySem.W.keepIn K (.ref fW) = true) (bW : L2.Binds K fdW psW [])
    (R1 : Ready P w K mg base 1 "_octets_of_sign" ["sign"] (spNewInts octs)) (m_len : mg "len" = none) {t1 : Tok} (m_WORD_SIZE : mg "WORD_SIZE" = some (.int 60 t1)) (hwr : ∀ r, (wr r).length ≤ 3 * r.length + 2) :
    Ready P w K mg base 5 "_by_words" ["saying", "sort", "write"] (spByWords wr fW) := by
  obtain ⟨f1, fd1, g1, k1, b1, G1⟩ := R1
  refine ready_of A (fun _ _ _ _ _ _ us hl => match us, hl with | [_, _, _], _ => rfl) fun f fd F => ?_
  refine F.ok scByWords (fun vs H Q E h => ?_) (fun cdv A outer s H vs Q E hr h => ?_)
  · obtain ⟨a, l, c, rfl, _⟩ := h
    rfl
  · obtain ⟨a, l, c, rfl, ha, hb, hl, q⟩ := h
    have sc := scByWords
    refine ⟨_, pss_cons (ps_set (i := 3) sc.nd rfl (.inl rfl) (pe_op op_sub (pe_glob (v := .int 60) rfl m_WORD_SIZE ⟨_, rfl⟩) (pe_callB call_len_str (by rfl) m_len PySem.boot_len (pa_cons pe_str pa_nil))))
      (pss_cons (ps_set (i := 4) sc.nd rfl (.inl rfl) (pe_lst pa_nil))
      (pss_cons (ps_for PassesOwn.never rfl (pi_list (pv 0)) (pg_name (i := 5) sc.nd rfl (.inl rfl))
        (pss_cons (ps_set (i := 6) sc.nd rfl (.inl rfl) (pe_call G1 (hr.mono (by decide)) (by rfl) g1 k1 b1 .nil pass0 (pa_cons (pv 5) pa_nil)))
          (pss_one (ps_if (PW.pt (pw_and (pt_cmpR (op_neD hr.units) (pv 4) (pe_lst pa_nil) (nomark _)) (pw_and1 (pt_cmpR op_le (pe_callB call_len_str (by rfl) m_len PySem.boot_len (pa_cons (pe_callL (i := 2) GW (hr.mono hk4) rfl (by first | exact .inl rfl | exact .inr (.inl rfl) | exact .inr (.inr rfl)) kW bW .nil pass0 (pa_cons (pe_op op_cat (pe_ix ix_list (pv 4) (pe_un un_neg pe_int) (fun _ _ => rfl)) (pv 6)) pa_nil)) pa_nil)) (pv 3) (nomark _)))))
            (pss_one (ps_expr (pe_bm PySem.F.plainAttrs_list PySem.F.slot_list_extend PySem.F.type_list_extend mt_extend (pe_ix ix_list (pv 4) (pe_un un_neg pe_int) (fun _ _ => rfl)) (pa_cons (pv 6) pa_nil))))
            (pss_one (ps_expr (pe_bm PySem.F.plainAttrs_list PySem.F.slot_list_append PySem.F.type_list_append mt_append (pv 4) (pa_cons (pv 6) pa_nil))))))))
      (pss_one (ps_ret (pe_join pe_str (pe_lc (own := [("row", 7)]) (g := gName 7) (tt := tYes) (by rfl) sc.nd (pi_list (pv 4)) (blkOk_by (own := [("row", 7)]) (N := ["saying", "sort", "write", "room", "rows", "sign", "octets", "row"]) (sc := defScope sByWords) (by decide +kernel)) (fun _ _ _ _ _ => (pg_name (i := 7) sc.nd rfl (.inl rfl))) (fun _ _ _ _ _ => pts_nil) (fun _ _ _ _ _ => (pe_op op_add_str (pe_op op_add_str (pe_op op_add_str (pe_op op_add_str pe_str (pv 1)) pe_str) (pe_callL (i := 2) GW (hr.mono hk4) rfl (by first | exact .inl rfl | exact .inr (.inl rfl) | exact .inr (.inr rfl)) kW bW .nil pass0 (pa_cons (pv 7) pa_nil))) pe_str)))))))), ?_⟩
    have e6 : ("=?s??=" : Str).length = 6 := by decide +kernel
    refine ⟨_, rfl, by rw [e6]; decide, _, _, rfl, rfl, ?_⟩
    rw [e6]
    refine ⟨(by show 0 ≤ sizeLine; decide), fun R nR => ?_⟩
    refine ⟨_, rfl, a, rfl, ⟨_, SqL.of (kn ha nR)⟩, ?_⟩
    refine for_it (walk_list (K := K) (a := a) (xs := iv l)) (fun i σ H' => ∃ (y5 y6 : Option V) (As : List Addr) (rows : List (List Nat)), σ = [some (.ref a), some (.str (mk [c])), some (.ref fW), some (.int (60 - ((6 : Nat) : Int))), some (.ref R), y5, y6, none] ∧ Same H H' ∧ H' R = some (.lst (As.map V.ref)) ∧ RowsAt H H' As rows ∧ R ∉ As ∧ rows = rowsW wr octs (l.take i) ∧ RowsOk rows (3 * i) ∧ rows.length ≤ i)
      ⟨none, none, [], [], rfl, same_new nR, upd_same, ⟨rfl, List.nodup_nil, (fun _ h => by cases h), fun i A h => by simp at h⟩, (by simp), rfl, ⟨(fun _ h => by cases h), fun _ h => by cases h⟩, Nat.le_refl _⟩ (fun i σ H' _ hp => ?_) (fun i x σ H1 H2 hi hp hy => ?_) (fun σ H1 hp => ?_)
    · obtain ⟨y5, y6, As, rows, rfl, sm, _⟩ := hp
      exact SqL.of (sm _ _ ha)
    · obtain ⟨y5, y6, As, rows, rfl, sm, hR, hAs, hRn, hrw, hok, hrl⟩ := hp
      obtain ⟨rfl, hx⟩ := hy
      rw [iv_len] at hi
      have hn := List.getElem?_eq_getElem hi
      have hbs := hb _ (List.getElem_mem hi)
      generalize l[i] = s0 at hn hbs
      rw [iv_at hn] at hx
      injection hx with hx
      subst hx
      refine ⟨_, rfl, s0, rfl, fun H3 po s3 npo hpo => ?_⟩
      have ho256 := octs_lt hbs.2
      have hol : (octs s0).length ≤ 3 := by
        rcases octs_c2 s0 with h | h | h <;> rw [h] <;> simp
      have hstep : rowsW wr octs (l.take (i + 1)) = stepW wr rows (octs s0) := by
        unfold rowsW
        rw [take_more hn, List.foldl_append, hrw]
        rfl
      have hpoAs : po ∉ As := fun h => by
        obtain ⟨j, hj, e⟩ := List.getElem_of_mem h
        obtain ⟨r, _, hA⟩ := hAs.at_ j po (by rw [← e]; exact List.getElem?_eq_getElem hj)
        rw [npo] at hA
        cases hA
      have hpoR : po ≠ R := fun e => by rw [e, hR] at npo; cases npo
      have npo0 : H po = none := Same.free sm npo
      have fe : ∀ Hx, Same H3 Hx → stepW wr rows (octs s0) = rows ++ [octs s0] → ∃ (y5 y6 : Option V) (As' : List Addr) (rows' : List (List Nat)), [some (V.ref a), some (.str (mk [c])), some (.ref fW), some (.int (60 - ((6 : Nat) : Int))), some (.ref R), some (.int (s0 : Nat)), some (.ref po), none] = [some (V.ref a), some (.str (mk [c])), some (.ref fW), some (.int (60 - ((6 : Nat) : Int))), some (.ref R), y5, y6, none] ∧ Same H (upd Hx R (.lst (As.map V.ref ++ [.ref po]))) ∧ (upd Hx R (.lst (As.map V.ref ++ [.ref po]))) R = some (.lst (As'.map V.ref)) ∧ RowsAt H (upd Hx R (.lst (As.map V.ref ++ [.ref po]))) As' rows' ∧ R ∉ As' ∧ rows' = rowsW wr octs (l.take (i + 1)) ∧ RowsOk rows' (3 * (i + 1)) ∧ rows'.length ≤ i + 1 := fun Hx sx e => by
        refine ⟨_, _, As ++ [po], rows ++ [octs s0], rfl, same_set (sm.trans (s3.trans sx)) nR, by rw [upd_same, List.map_append]; rfl, ((hAs.same (s3.trans sx)).more (sx _ _ hpo) npo0 hpoAs).other (fun h => ?_), fun h => ?_, by rw [hstep, e], ⟨fun r hr => ?_, fun r hr => ?_⟩, by rw [List.length_append]; show rows.length + 1 ≤ _; omega⟩
        · rcases List.mem_append.mp h with h | h
          · exact hRn h
          · exact hpoR (List.mem_singleton.mp h).symm
        · rcases List.mem_append.mp h with h | h
          · exact hRn h
          · exact hpoR (List.mem_singleton.mp h).symm
        · rcases List.mem_append.mp hr with hr | hr
          · exact hok.lt r hr
          · rw [List.mem_singleton.mp hr]
            exact ho256
        · rcases List.mem_append.mp hr with hr | hr
          · have := hok.len r hr
            omega
          · rw [List.mem_singleton.mp hr]
            omega
      refine ⟨_, rfl, (by show 0 ≤ sizeLine; decide), fun pe npe => ?_⟩
      have sE : Same H3 (upd H3 pe (.lst [])) := same_new npe
      have hE : (upd H3 pe (.lst [])) pe = some (.lst []) := upd_same
      generalize upd H3 pe (.lst []) = HE at sE hE ⊢
      have hRE := sE _ _ (s3 _ _ hR)
      have hAE := hAs.same (s3.trans sE)
      refine ⟨_, _, .lst (SqL.of hRE) (rows_data (H0 := H) hAE.len hAE.at_), .lst (SqL.of hE) .nil, rows_sh _, nil_sh, _, rfl, ?_⟩
      rw [eqv_nil]
      rcases List.eq_nil_or_concat rows with h0 | ⟨rows', r, h0⟩
      · rw [h0]
        refine iteF (iteF ?_)
        refine ⟨_, rfl, .inl ⟨rfl, _, SqL.of hRE⟩, _, rfl, R, _, _, rfl, rfl, hRE, by rw [List.length_map, hAs.len]; exact szl (by omega), ?_⟩
        exact fe HE sE (by unfold stepW; rw [if_neg (fun z => z.1 h0)])
      · rw [List.concat_eq_append] at h0
        have hie : (rows.map fun r => PyData.list (idt r)).isEmpty = false := by rw [h0]; simp
        rw [hie]
        refine iteT ?_
        rcases List.eq_nil_or_concat As with hA0 | ⟨As', A, hA0⟩
        · have := hAs.len
          rw [hA0, h0] at this
          simp at this
        rw [List.concat_eq_append] at hA0
        have hlast : atI (As.map V.ref) (-1) = some (.ref A) := by
          rw [hA0, List.map_append]
          exact atI_last _ _
        have hlenA : As'.length = rows'.length := by
          have := hAs.len
          rw [hA0, h0] at this
          simpa using this
        have hAr : ∀ {Hx : Hp}, RowsAt H Hx As rows → Hx A = some (.lst (iv r)) := fun {Hx} Rx => by
          obtain ⟨r', e1, e2⟩ := Rx.at_ As'.length A (by rw [hA0, List.getElem?_append_right (Nat.le_refl _), Nat.sub_self]; rfl)
          rw [h0, hlenA, List.getElem?_append_right (Nat.le_refl _), Nat.sub_self] at e1
          injection e1 with e1
          rw [e1]
          exact e2
        have hrm : r ∈ rows := by rw [h0]; simp
        have hAm : A ∈ As := by rw [hA0]; simp
        have hrl3 := hok.len r hrm
        have hrb := hok.lt r hrm
        have hwl := hwr (r ++ octs s0)
        rw [List.length_append] at hwl
        have hlastD : rows.getLastD [] = r := by rw [h0]; simp
        have hdrop : rows.dropLast = rows' := by rw [h0]; simp
        refine ⟨rfl, _, rfl, _, rfl, R, _, _, .ref A, rfl, rfl, SqL.of hRE, hlast, _, rfl, A, po, _, _, rfl, rfl, hAr hAE, sE _ _ hpo, by rw [iv_len, iv_len, sizeLine_eq]; omega, fun p3 n3 => ?_⟩
        refine ⟨p3, r ++ octs s0, rfl, by rw [upd_same, iv_app], (fun n hn => (List.mem_append.mp hn).elim (hrb n) (ho256 n)), by rw [List.length_append]; omega, fun H5 s5 => ?_⟩
        have t5 : Same H3 H5 := sE.trans ((same_new n3).trans s5)
        have hR5 := ((same_new n3).trans s5) _ _ hRE
        have hA5 := hAs.same (s3.trans t5)
        refine ⟨_, rfl, by rw [mk_len, sizeLine_eq]; omega, _, rfl, _, _, rfl, rfl, _, rfl, ite2 (fun h => ?_) (fun h => ?_)⟩
        · have hfit : (wr (r ++ octs s0)).length ≤ 54 := by
            have := of_decide_eq_true h
            rw [mk_len] at this
            omega
          refine ⟨_, rfl, _, rfl, R, _, _, .ref A, rfl, rfl, SqL.of hR5, hlast, .inl ⟨rfl, _, SqL.of (hAr hA5)⟩, _, rfl, A, po, _, _, rfl, rfl, hAr hA5, t5 _ _ hpo, by rw [iv_len, iv_len, sizeLine_eq]; omega, ?_⟩
          rw [← iv_app]
          have hRA : R ≠ A := fun e => hRn (e ▸ hAm)
          have hlastR : RowsAt H (upd H5 A (.lst (iv (r ++ octs s0)))) As (rows' ++ [r ++ octs s0]) := by
            have := hA5
            rw [hA0, h0] at this
            rw [hA0]
            exact this.last
          refine ⟨_, _, As, rows' ++ [r ++ octs s0], rfl, same_set (sm.trans (s3.trans t5)) (hAs.fresh A hAm), by rw [upd_ne hRA]; exact hR5, hlastR, hRn, ?_, ⟨fun x hx => ?_, fun x hx => ?_⟩, ?_⟩
          · rw [hstep]
            unfold stepW
            rw [hlastD, if_pos ⟨by rw [h0]; simp, hfit⟩, hdrop]
          · rcases List.mem_append.mp hx with hx | hx
            · exact hok.lt x (by rw [h0]; exact List.mem_append_left _ hx)
            · rw [List.mem_singleton.mp hx]
              exact fun n hn => (List.mem_append.mp hn).elim (hrb n) (ho256 n)
          · rcases List.mem_append.mp hx with hx | hx
            · have := hok.len x (by rw [h0]; exact List.mem_append_left _ hx)
              omega
            · rw [List.mem_singleton.mp hx, List.length_append]
              omega
          · rw [h0] at hrl
            simp at hrl ⊢
            omega
        · refine ⟨_, rfl, .inl ⟨rfl, _, SqL.of hR5⟩, _, rfl, R, _, _, rfl, rfl, hR5, by rw [List.length_map, hAs.len]; exact szl (by omega), ?_⟩
          refine fe H5 t5 ?_
          unfold stepW
          rw [hlastD, if_neg (fun z => h (decide_eq_true (by rw [mk_len]; have := z.2; omega)))]
    · obtain ⟨y5, y6, As, rows, rfl, sm, hR, hAs, hRn, hrw, hok, hrl⟩ := hp
      rw [iv_len, List.take_length] at hrw
      rw [iv_len] at hrl hok
      have x1 : ("=?" : Str) = mk [61, 63] := by decide +kernel
      have x2 : ("?" : Str) = mk [63] := by decide +kernel
      have x3 : ("?=" : Str) = mk [63, 61] := by decide +kernel
      have x4 : (" " : Str) = mk [32] := by decide +kernel
      have hwl : ∀ r ∈ rows, (wr r).length ≤ 2260 := fun r hr => by
        have h1 := hwr r
        have h2 := hok.len r hr
        omega
      refine ⟨⟨_, rfl⟩, _, rfl, R, rfl, ⟨_, SqL.of hR⟩, fun D hD => ?_⟩
      refine lc_it (walk_list (K := K) (a := R) (xs := As.map V.ref)) (fun i H' => Same H1 H' ∧ H' D = some (.lst ((((rows.take i).map (wordC wr c)).map mk).map V.str))) ⟨same_new hD, upd_same⟩ (fun i H' _ p => SqL.of (p.1 _ _ hR)) (fun i x H2 H3 hi hp hy => ?_) (fun H2 hp => ?_)
      · obtain ⟨rfl, hx⟩ := hy
        obtain ⟨s2, hd⟩ := hp
        rw [List.length_map] at hi
        have hA := List.getElem?_eq_getElem hi
        generalize As[i] = A at hA
        rw [List.getElem?_map, hA] at hx
        injection hx with hx
        subst hx
        obtain ⟨r, hr, hAr⟩ := hAs.at_ i A hA
        have hrm := List.mem_of_getElem? hr
        have hl1 := hwl r hrm
        have hl2 := hok.len r hrm
        refine ⟨rfl, ?_⟩
        unfold tYes
        refine iteT ?_
        have c1 := catX x1 (rfl : mk [c] = _)
        have c2 := catX c1 x2
        have c3 := catX c2 (rfl : mk (wr r) = _)
        have c4 := catX c3 x3
        refine ⟨_, rfl, _, _, rfl, rfl, (by rw [← len_append]; exact szE c1 (by simp)), _, _, rfl, rfl, (by rw [← len_append]; exact szE c2 (by simp)), ?_⟩
        refine ⟨rfl, _, rfl, A, r, rfl, s2 _ _ hAr, hok.lt r hrm, by omega, fun H4 s4 => ⟨_, _, rfl, rfl, (by rw [← len_append]; exact szE c3 (by simp; omega)), _, _, rfl, rfl, (by rw [← len_append]; exact szE c4 (by simp; omega)), ?_⟩⟩
        rw [c4]
        refine ⟨_, s4 _ _ hd, ?_, same_set (s2.trans s4) hD, ?_⟩
        · rw [List.length_map, List.length_map, List.length_map]
          exact Nat.lt_of_le_of_lt (List.length_take_le _ _) (szl (by have := hAs.len; omega))
        · rw [upd_same, take_more hr, List.map_append, List.map_append, List.map_append]
          rfl
      · obtain ⟨s2, hd⟩ := hp
        rw [List.length_map, hAs.len, List.take_length] at hd
        refine ⟨(" " : Str), D, _, rfl, rfl, .inl (SqL.of hd), ?_, ?_⟩
        · have h1 := sum0 (ps := rows.map (wordC wr c)) (n := 2270) fun p hp => by
            obtain ⟨r, hr, rfl⟩ := List.mem_map.mp hp
            have := hwl r hr
            unfold wordC
            simp only [List.length_append, List.length_cons, List.length_nil]
            omega
          have h2 : (" " : Str).length = 1 := by decide +kernel
          rw [h2]
          simp only [List.length_map] at h1 ⊢
          omega
        · rw [joinW x4, hrw]
          exact q _ (sm.trans s2)
end
end FL


namespace FL
open PySem PySem.Spec PyProof.Rows L2
/-- `=?` within a text -/
def hasQ (z : Str) : Bool := !(Builtin.Str.occurrences z ("=?" : Str) 0 z.length 1).isEmpty
/-- the value is the text itself -/
def ownT (l : List Nat) : Bool := l.all numb && (decide (mk l = Txt.stripChars (mk l) (" " : Str)) && !hasQ (mk l))
section
variable {P : Program} {w : World} {K : PySem.W.Frag} {mg : Str → Option Value} {base : Heap}
def spOwn : Sp := fun vs H Q _ => ∃ (a : Addr) (l : List Nat), vs = [.ref a] ∧ H a = some (.lst (iv l)) ∧ l.length ≤ 9000 ∧ ∀ H', Same H H' → (ownT l = true → Q (.str (mk l)) H') ∧ (ownT l = false → Q .non H')
theorem scOwnText : FnScope ["saying", "text", "sign"] ["saying"] (defScope sOwnText) := ⟨rfl, rfl, rfl, by decide +kernel, rfl, by decide +kernel, by decide +kernel⟩
theorem r_own_text (A : FnAt K mg "own_text" sOwnText) (R1 : Ready P w K mg base 1 "is_numbered" ["number"] spNumb) (R2 : Ready P w K mg base 2 "text_of" ["numbers"] spTextN) (m_all : mg "all" = none) : Ready P w K mg base 3 "own_text" ["saying"] spOwn := by
  obtain ⟨f1, fd1, g1, k1, b1, G1⟩ := R1
  obtain ⟨f2, fd2, g2, k2, b2, G2⟩ := R2
  refine ready_of A (fun _ _ _ _ _ _ us hl => match us, hl with | [_], _ => rfl) fun f fd F => ?_
  refine F.ok scOwnText (fun vs H Q E h => ?_) (fun cdv A outer s H vs Q E hr h => ?_)
  · obtain ⟨a, l, rfl, _⟩ := h
    rfl
  · obtain ⟨a, l, rfl, ha, hl, q⟩ := h
    have sc := scOwnText
    refine ⟨_, pss_cons (ps_if (pt_not (pt_val (pe_callB (cr_all rfl) (by rfl) m_all (by decide +kernel) (pa_cons (pe_lc (own := [("sign", 2)]) (g := gName 2) (tt := tYes) (by rfl) sc.nd (pi_list (pv 0)) (blkOk_by (own := [("sign", 2)]) (N := ["saying", "text", "sign"]) (sc := defScope sOwnText) (by decide +kernel)) (fun _ _ _ _ _ => (pg_name (i := 2) sc.nd rfl (.inl rfl))) (fun _ _ _ _ _ => pts_nil) (fun _ _ _ _ _ => (pe_call G1 (hr.mono (by decide)) (by rfl) g1 k1 b1 .nil pass0 (pa_cons (pv 2) pa_nil)))) pa_nil))))
        (pss_one (ps_ret pe_non))
        pss_nil)
      (pss_cons (ps_set (i := 1) sc.nd rfl (.inl rfl) (pe_call G2 (hr.mono (by decide)) (by rfl) g2 k2 b2 .nil pass0 (pa_cons (pv 0) pa_nil)))
      (pss_cons (ps_if (PW.pt (pw_or (pt_cmpR op_ne (pv 1) (pe_bm PySem.F.plainAttrs_str PySem.F.slot_str_strip PySem.F.type_str_strip mt_stripChars (pv 1) (pa_cons pe_str pa_nil)) (nomark _)) (pw_or1 (pt_cmpR op_in_str pe_str (pv 1) (by rfl)))))
        (pss_one (ps_ret pe_non))
        pss_nil)
      (pss_one (ps_ret (pv 1))))), ?_⟩
    refine ⟨_, rfl, a, rfl, ⟨_, SqL.of ha⟩, fun D hD => ?_⟩
    refine lc_it (walk_list (K := K) (a := a) (xs := iv l)) (fun i H' => Same H H' ∧ H' D = some (.lst ((l.take i).map fun n => V.bl (numb n)))) ⟨same_new hD, upd_same⟩ (fun i H' _ p => SqL.of (p.1 _ _ ha)) (fun i x H2 H3 hi hp hy => ?_) (fun H2 hp => ?_)
    · obtain ⟨rfl, hx⟩ := hy
      obtain ⟨sm, hd⟩ := hp
      rw [iv_len] at hi
      have hn := List.getElem?_eq_getElem hi
      generalize l[i] = n at hn
      rw [iv_at hn] at hx
      injection hx with hx
      subst hx
      refine ⟨rfl, ?_⟩
      unfold tYes
      refine iteT ?_
      refine ⟨_, rfl, n, rfl, _, hd, ?_, same_set sm hD, ?_⟩
      · rw [List.length_map]
        exact Nat.lt_of_le_of_lt (List.length_take_le _ _) (szl (by omega))
      · rw [upd_same, take_more hn, List.map_append]
        rfl
    · obtain ⟨sm, hd⟩ := hp
      rw [iv_len, List.take_length] at hd
      refine ⟨D, l.map numb, rfl, SqL.of (by rw [List.map_map]; exact hd), _, rfl, ?_⟩
      have hall : (l.map numb).all id = l.all numb := by rw [List.all_map]; rfl
      by_cases hn : l.all numb = true
      · rw [show ((l.map numb).all id) = true from hall.trans hn]
        refine iteF ?_
        refine ⟨_, rfl, a, l, rfl, sm _ _ ha, (fun n h => .inr (List.all_eq_true.mp hn n h)), hl, fun H3 s3 => ?_⟩
        obtain ⟨qy, qn⟩ := q H3 (sm.trans s3)
        unfold ownT at qy qn
        rw [hn, Bool.true_and] at qy qn
        refine ⟨_, rfl, _, rfl, rfl, mk l, _, rfl, rfl, szX (by omega), rfl, _, rfl, ?_⟩
        by_cases hs : mk l = Txt.stripChars (mk l) (" " : Str)
        · rw [decide_eq_true hs, Bool.true_and] at qy qn
          refine iteNS (congrArg V.str hs) ⟨_, rfl, _, _, rfl, rfl, _, rfl, ?_⟩
          show if hasQ (mk l) = true then _ else _
          cases hq : hasQ (mk l) with
          | true =>
            rw [hq] at qn
            exact iteT (qn rfl)
          | false =>
            rw [hq] at qy
            exact iteF ⟨_, rfl, qy rfl⟩
        · rw [decide_eq_false hs] at qn
          rw [decide_eq_false (fun z => hs (V.str.inj z))]
          exact iteT (qn rfl)
      · rw [show ((l.map numb).all id) = false from hall.trans (eq_false_of_ne_true hn)]
        refine iteT ?_
        exact (q H2 sm).2 (by unfold ownT; rw [eq_false_of_ne_true hn]; rfl)
end
end FL


namespace FL
open PySem PySem.Spec PyProof.Rows L2
theorem cutV_nat (xs : List V) (i j : Nat) : cutV xs (some (i : Nat)) (some (j : Nat)) = (xs.drop i).take (j - i) := by
  unfold cutV
  rw [HT.sIx_nat, HT.sIx_nat]
  by_cases h : i ≤ xs.length
  · rw [Nat.min_eq_left h]
    by_cases h2 : j ≤ xs.length
    · rw [Nat.min_eq_left h2]
    · rw [Nat.min_eq_right (by omega : xs.length ≤ j), List.take_of_length_le (by rw [List.length_drop]; exact Nat.le_refl _), List.take_of_length_le (by rw [List.length_drop]; omega)]
  · rw [Nat.min_eq_right (by omega : xs.length ≤ i), List.drop_eq_nil_of_le (Nat.le_refl xs.length), List.drop_eq_nil_of_le (by omega : xs.length ≤ i)]
    simp
theorem cutV_iv (l : List Nat) (i j : Nat) : cutV (iv l) (some (i : Nat)) (some (j : Nat)) = iv ((l.drop i).take (j - i)) := by
  rw [cutV_nat, ← iv_drop, ← iv_take]
section
variable {P : Program} {w : World} {K : PySem.W.Frag} {mg : Str → Option Value} {base : Heap}
/-- no list of such whole numbers -/
def NoInts (K : PySem.W.Frag) (f : Option Int → Bool) (H : Hp) (v : V) : Prop := (∃ t, TyX K H v t ∧ PySem.W.kitOne K t (.type "list") = some false) ∨
  (∃ a xs os, v = .ref a ∧ H a = some (.lst xs) ∧ xs.length ≤ 10000 ∧ Paired (Whole K H) xs os ∧ os.all f = false)
abbrev NoSay (K : PySem.W.Frag) := NoInts K fun o => o.any isSgnI
abbrev NoOct (K : PySem.W.Frag) := NoInts K fun o => o.any isOctI
theorem sp_all {f : Option Int → Bool} {H : Hp} {v : V} {Q : VK} {E : XK} (h : NoInts K f H v) (q : ∀ H', Same H H' → Q (.bl false) H') : spAll K f [v] H Q E := by
  rcases h with ⟨t, ht, hk⟩ | ⟨a, xs, os, rfl, hH, hl, hp, ha⟩
  · exact ⟨v, rfl, .inr ⟨t, ht, hk, q H (Same.refl H)⟩⟩
  · exact ⟨_, rfl, .inl ⟨a, xs, os, rfl, hH, hl, hp, fun H' s => by rw [ha]; exact q H' s⟩⟩
def spCheckSayX (K : PySem.W.Frag) (C : Addr) : Sp := fun vs H Q E => ∃ v, vs = [v] ∧ ((∃ a l, v = .ref a ∧ H a = some (.lst (iv l)) ∧ GS l ∧ ∀ H', Same H H' → Q .non H') ∨ (NoSay K H v ∧ Fails C "at" 0 H E))
theorem scCheckSaying : FnScope ["value"] ["value"] (defScope sCheckSaying) := ⟨rfl, rfl, rfl, by decide +kernel, rfl, by decide +kernel, by decide +kernel⟩
theorem x_check_saying {C : Addr} (MNoSaying : MkFld P w K mg base "NoSaying" C "at") (A : FnAt K mg "_check_saying" sCheckSaying) (R : Ready P w K mg base 3 "is_saying" ["value"] (spAll K fun o => o.any isSgnI)) :
    ReadyX P w K mg base 4 "_check_saying" ["value"] (spCheckSayX K C) := by
  obtain ⟨f1, fd1, g1, k1, b1, G1⟩ := R
  refine readyX_of A (fun _ _ _ _ _ _ us hl => match us, hl with | [_], _ => rfl) fun f fd F => ?_
  refine F.okX scCheckSaying (fun vs H Q E h => ?_) (fun cdv A outer s H vs Q E hr h => ?_)
  · obtain ⟨v, rfl, _⟩ := h
    rfl
  · obtain ⟨v, rfl, h⟩ := h
    have sc := scCheckSaying
    refine ⟨_, pss_one (ps_if (pt_not (pt_val (pe_call G1 (hr.mono (by decide)) (by rfl) g1 k1 b1 .nil pass0 (pa_cons (pv 0) pa_nil))))
        (pss_one (ps_raise rfl (takes_of rfl rfl rfl rfl) (pmk_fld MNoSaying (hr.mono (by decide)) (by rfl) (pa_cons pe_str pa_nil) [.int 0] (.inr rfl))))
        pss_nil), ?_⟩
    rcases h with ⟨a, l, rfl, hH, hl, q⟩ | ⟨hno, qe⟩
    · refine ⟨_, rfl, _, rfl, .inl ⟨a, iv l, _, rfl, hH, by rw [iv_len]; have := hl.2; omega, whole_ints l, fun H' s => ?_⟩⟩
      rw [all_sgn hl.1]
      exact ⟨_, rfl, iteF (q H' s)⟩
    · refine ⟨_, rfl, ?_⟩
      unfold tNil
      refine sp_all hno fun H' s => ⟨_, rfl, iteT ?_⟩
      exact mk_leaf rfl (by decide) (fun d H2 s2 n e => qe.later s d H2 s2 n e)
def spOctetsOfX (K : PySem.W.Frag) (C : Addr) : Sp := fun vs H Q E => ∃ v, vs = [v] ∧ ((∃ a l, v = .ref a ∧ H a = some (.lst (iv l)) ∧ GS l ∧ ∀ H' p, Same H H' → H p = none → H' p = some (.lst (iv (octsOf l))) → Q (.ref p) H') ∨ (NoSay K H v ∧ Fails C "at" 0 H E))
def spSayingOfX (K : PySem.W.Frag) (C CN : Addr) : Sp := fun vs H Q E => ∃ v, vs = [v] ∧ ((∃ a l n R, v = .ref a ∧ H a = some (.lst (iv l)) ∧ GO l ∧ sayR l n 0 = some R ∧
    (∀ r, R = .ok r → ∀ H' p, Same H H' → H p = none → H' p = some (.lst (iv r)) → Q (.ref p) H') ∧ (∀ p : Nat, R = .error p → Fails C "at" p H E)) ∨ (NoOct K H v ∧ ∀ H', Same H H' → E (.ref CN) none H'))
def glueR (acc : List Nat) : Except Nat (List Nat) → Except Nat (List Nat)
  | .ok r => .ok (acc ++ r)
  | .error q => .error q
theorem sayR_octs {l : List Nat} (h : ∀ n ∈ l, 32 ≤ n ∧ n ≤ 65535) : ∀ (a b : List Nat), l = a ++ b → sayR (octsOf l) b.length (octsOf a).length = some (.ok b) := by
  intro a b e
  induction b generalizing a with
  | nil =>
    subst e
    rw [List.append_nil]
    rw [List.length_nil, sayR, if_neg (Nat.lt_irrefl _)]
  | cons x r ih =>
    have hx := h x (by rw [e]; simp)
    have hd : (octsOf l).drop (octsOf a).length = octs x ++ octsOf r := by
      rw [e]
      unfold octsOf
      rw [List.flatMap_append, List.drop_left, List.flatMap_cons]
    have hp := octs_pos x
    obtain ⟨o, t, ho⟩ : ∃ o t, octs x = o :: t := by
      cases hh : octs x with
      | nil => rw [hh] at hp; simp at hp
      | cons o t => exact ⟨o, t, rfl⟩
    have hat : (octsOf l)[(octsOf a).length]? = some o := by
      have : ((octsOf l).drop (octsOf a).length)[0]? = some o := by rw [hd, ho]; rfl
      rw [List.getElem?_drop] at this
      exact this
    have hsz : sizeFrom o = (octs x).length := by
      have := size_octs x hx.2
      rw [ho] at this ⊢
      exact this
    have htk : ((octsOf l).drop (octsOf a).length).take (sizeFrom o) = octs x := by rw [hd, hsz, List.take_left]
    rw [List.length_cons, sayR, hat]
    dsimp only
    rw [htk, signR_octs hx.1 hx.2]
    dsimp only
    have e2 : (octsOf a).length + (octs x).length = (octsOf (a ++ [x])).length := by
      unfold octsOf
      rw [List.flatMap_append, List.length_append, List.flatMap_cons, List.flatMap_nil, List.append_nil]
    rw [e2, ih (a ++ [x]) (by rw [e]; simp)]
    rfl
end
end FL


namespace FL
open PySem PySem.Spec PyProof.Rows L2
def marksC (l : List Nat) : List Nat := l.flatMap markC
theorem marksC_len (l : List Nat) : (marksC l).length ≤ 3 * l.length + 2 := by
  unfold marksC
  induction l with
  | nil => simp
  | cons a r ih =>
    have := markC_len a
    rw [List.flatMap_cons, List.length_append, List.length_cons]
    omega
theorem sixC_len3 (l : List Nat) : (sixC l).length ≤ 3 * l.length + 2 := by
  have := sixC_len l
  omega
/-- the value by words of a writer -/
def byC (wr : List Nat → List Nat) (c : Nat) (l : List Nat) : List Nat := TL.joinL [32] ((rowsW wr octs l).map (wordC wr c))
def codedC (l : List Nat) : List Nat := if ownT l = true then l else if (byC sixC 115 l).length < (byC marksC 109 l).length then byC sixC 115 l else byC marksC 109 l
section
variable {P : Program} {w : World} {K : PySem.W.Frag} {mg : Str → Option Value} {base : Heap}
def spCodedX (K : PySem.W.Frag) (C : Addr) : Sp := fun vs H Q E => ∃ v, vs = [v] ∧ ((∃ a l, v = .ref a ∧ H a = some (.lst (iv l)) ∧ GS l ∧ l.length ≤ 250 ∧ ((byC sixC 115 l).length ≤ 10000000 ∧ (byC marksC 109 l).length ≤ 10000000) ∧ ∀ H', Same H H' → Q (.str (mk (codedC l))) H') ∨ (NoSay K H v ∧ Fails C "at" 0 H E))
theorem scCoded : FnScope ["saying", "text", "sixes", "marks"] ["saying"] (defScope sCoded) := ⟨rfl, rfl, rfl, by decide +kernel, rfl, by decide +kernel, by decide +kernel⟩
theorem x_coded {C f_sixes_of f__marks_of : Addr} {fd1 fd2 : FuncData} {ps1 ps2 : List Str} (A : FnAt K mg "coded" sCoded) (R1 : ReadyX P w K mg base 4 "_check_saying" ["value"] (spCheckSayX K C)) (R2 : Ready P w K mg base 3 "own_text" ["saying"] spOwn)
    (R3 : Ready P w K mg base 5 "_by_words" ["saying", "sort", "write"] (spByWords sixC f_sixes_of)) (R4 : Ready P w K mg base 5 "_by_words" ["saying", "sort", "write"] (spByWords marksC f__marks_of))
    (m_sixes_of : mg "sixes_of" = some (.ref f_sixes_of)) (m__marks_of : mg "_marks_of" = some (.ref f__marks_of)) (m_len : mg "len" = none) : ReadyKX P w K mg base 6 "coded" ["saying"] (spCodedX K C) (fun fd => KBs K fd ["saying"]) := by
  obtain ⟨f1, fd1, g1, k1, b1, G1⟩ := R1
  obtain ⟨f2, fd2, g2, k2, b2, G2⟩ := R2
  obtain ⟨f3, fd3, g3, k3, b3, G3⟩ := R3
  obtain ⟨f4, fd4, g4, k4, b4, G4⟩ := R4
  refine readyKX_of A (fun _ _ _ _ _ _ us hl => match us, hl with | [_], _ => rfl) (fun f fd F => kb_of F fun _ _ _ _ _ _ us hl => match us, hl with | [_], _ => rfl) fun f fd F => ?_
  refine F.okX scCoded (fun vs H Q E h => ?_) (fun cdv A outer s H vs Q E hr h => ?_)
  · obtain ⟨v, rfl, _⟩ := h
    rfl
  · obtain ⟨v, rfl, h⟩ := h
    have sc := scCoded
    refine ⟨_, pss_cons (ps_expr (pe_call G1 (hr.mono (by decide)) (by rfl) g1 k1 b1 .nil (E := E) (passes_call (takes_of rfl rfl rfl rfl) (fun _ _ _ _ h => h)) (pa_cons (pv 0) pa_nil)))
      (pss_cons (ps_set (i := 1) sc.nd rfl (.inl rfl) (pe_call G2 (hr.mono (by decide)) (by rfl) g2 k2 b2 .nil pass0 (pa_cons (pv 0) pa_nil)))
      (pss_cons (ps_if (pt_cmpR op_notN (pv 1) pe_non (nomark _))
        (pss_one (ps_ret (pv 1)))
        pss_nil)
      (pss_cons (ps_set (i := 2) sc.nd rfl (.inl rfl) (pe_call G3 (hr.mono (by decide)) (by rfl) g3 k3 b3 .nil pass0 (pa_cons (pv 0) (pa_cons pe_str (pa_cons (pe_glob (v := .ref f_sixes_of) rfl m_sixes_of rfl) pa_nil)))))
      (pss_cons (ps_set (i := 3) sc.nd rfl (.inl rfl) (pe_call G4 (hr.mono (by decide)) (by rfl) g4 k4 b4 .nil pass0 (pa_cons (pv 0) (pa_cons pe_str (pa_cons (pe_glob (v := .ref f__marks_of) rfl m__marks_of rfl) pa_nil)))))
      (pss_cons (ps_if (pt_cmpR op_lt (pe_callB call_len_str (by rfl) m_len PySem.boot_len (pa_cons (pv 2) pa_nil)) (pe_callB call_len_str (by rfl) m_len PySem.boot_len (pa_cons (pv 3) pa_nil)) (nomark _))
        (pss_one (ps_ret (pv 2)))
        pss_nil)
      (pss_one (ps_ret (pv 3)))))))), ?_⟩
    rcases h with ⟨a, l, rfl, ha, hg, hl, ⟨hz1, hz2⟩, q⟩ | ⟨hno, qe⟩
    case inr => exact ⟨_, rfl, _, rfl, .inr ⟨hno, qe⟩⟩
    refine ⟨_, rfl, _, rfl, .inl ⟨a, l, rfl, ha, hg, fun H1 s1 => ?_⟩⟩
    have ha1 := s1 _ _ ha
    have e115 : ("s" : Str) = mk [115] := by decide +kernel
    have e109 : ("m" : Str) = mk [109] := by decide +kernel
    refine ⟨_, rfl, a, l, rfl, ha1, by omega, fun H2 s2 => ⟨fun ho => ?_, fun ho => ?_⟩⟩
    · have hc : codedC l = l := by unfold codedC; rw [if_pos ho]
      have hq := q H2 (s1.trans s2)
      rw [hc] at hq
      refine ⟨_, rfl, rfl, _, rfl, ?_⟩
      rw [decide_eq_false (show ¬ V.str (mk l) = V.non from fun z => by cases z)]
      exact iteT ⟨_, rfl, hq⟩
    · have hc : codedC l = if (byC sixC 115 l).length < (byC marksC 109 l).length then byC sixC 115 l else byC marksC 109 l := by unfold codedC; rw [if_neg (by rw [ho]; exact Bool.false_ne_true)]
      refine ⟨_, rfl, rfl, _, rfl, ?_⟩
      rw [decide_eq_true (rfl : V.non = V.non)]
      refine iteF ?_
      refine ⟨_, rfl, a, l, 115, by rw [← e115]; rfl, s2 _ _ ha1, hg.1, hl, fun H3 s3 => ?_⟩
      refine ⟨_, rfl, a, l, 109, by rw [← e109]; rfl, s3 _ _ (s2 _ _ ha1), hg.1, hl, fun H4 s4 => ?_⟩
      have hq := q H4 (((s1.trans s2).trans s3).trans s4)
      rw [hc] at hq
      refine ⟨_, rfl, _, rfl, by rw [mk_len, sizeLine_eq]; exact Nat.le_trans hz1 (by decide), _, rfl, _, rfl, by rw [mk_len, sizeLine_eq]; exact Nat.le_trans hz2 (by decide), _, _, rfl, rfl, _, rfl, ?_⟩
      by_cases hlt : (byC sixC 115 l).length < (byC marksC 109 l).length
      · rw [if_pos hlt] at hq
        exact ite2 (fun _ => ⟨_, rfl, hq⟩) (fun h => absurd (decide_eq_true (by rw [mk_len, mk_len]; exact Int.ofNat_lt.mpr hlt)) h)
      · rw [if_neg hlt] at hq
        refine ite2 (fun h => absurd (of_decide_eq_true h) ?_) (fun _ => ⟨_, rfl, hq⟩)
        rw [mk_len, mk_len]
        exact fun z => hlt (Int.ofNat_lt.mp z)
end
end FL


namespace FL
open PySem PySem.Spec PyProof.Rows L2
theorem cutV_none (xs : List V) (j : Nat) : cutV xs (some ((0 : Nat) : Int)) (some (j : Nat)) = cutV xs none (some (j : Nat)) := by
  unfold cutV
  rw [HT.sIx_nat, HT.sIx_nat, Nat.zero_min]
  rfl
theorem cutV_drop (l : List Nat) (i : Nat) : cutV (iv l) (some (i : Nat)) none = iv (l.drop i) := by
  unfold cutV
  rw [HT.sIx_nat]
  show ((iv l).drop (min i (iv l).length)).take ((iv l).length - min i (iv l).length) = _
  by_cases h : i ≤ (iv l).length
  · rw [Nat.min_eq_left h, List.take_of_length_le (by rw [List.length_drop]; exact Nat.le_refl _), ← iv_drop]
  · rw [Nat.min_eq_right (by omega : (iv l).length ≤ i), List.drop_eq_nil_of_le (Nat.le_refl (iv l).length), List.drop_eq_nil_of_le (by rw [iv_len] at h; omega : l.length ≤ i)]
    simp [iv]
theorem drawn_newL {a p : Addr} {H H1 : Hp} {o : HO} (x : Drawn a H H1) (n : H1 p = none) : Drawn a H (upd H1 p o) := x.same (same_new n)
/-- drawn from a since H; at fp stands o -/
structure DS (a : Addr) (H : Hp) (fp : Addr) (o : HO) (Hc : Hp) : Prop where
  d : Drawn a H Hc
  f : Hc fp = some o
  n : fp ≠ a
theorem DS.new {a fp q : Addr} {H Hc : Hp} {o x : HO} (s : DS a H fp o Hc) (nq : Hc q = none) : DS a H fp o (upd Hc q x) := ⟨drawn_newL s.d nq, by rw [upd_ne (ne_of_none s.f nq)]; exact s.f, s.n⟩
theorem DS.draw {a fp : Addr} {H Hc H' : Hp} {o : HO} (s : DS a H fp o Hc) (dr : Drawn a Hc H') : DS a H fp o H' := ⟨s.d.trans dr, dr.old _ _ s.n s.f, s.n⟩
theorem Src.ne {H : Hp} {a q : Addr} (s : Src H a) (n : H q = none) : q ≠ a := fun e => by
  obtain ⟨x, y, z, h⟩ := s
  rw [e, h] at n
  cases n
/-- a thing drawn: its number is less than m -/
def spNextD : Sp := fun vs H Q _ => ∃ (a : Addr) (m : Nat), vs = [.ref a, .int (m : Nat)] ∧ 1 ≤ m ∧ m ≤ 100000 ∧ Src H a ∧ ∀ (r : Nat) H', r < m → Drawn a H H' → Q (.int (r : Nat)) H'
section
variable {P : Program} {w : World} {K : PySem.W.Frag} {mg : Str → Option Value} {base : Heap}
theorem next_d (R : Ready P w K mg base 2 "_law_next" ["_law_source_here", "_law_many"] spNext) : Ready P w K mg base 2 "_law_next" ["_law_source_here", "_law_many"] spNextD := by
  obtain ⟨f, fd, g, k, b, G⟩ := R
  refine ⟨f, fd, g, k, b, G.imp fun vs H Q E h => ?_⟩
  obtain ⟨a, m, rfl, h1, h2, ⟨x, y, z, hs⟩, q⟩ := h
  exact ⟨a, m, x, y, z, rfl, h1, h2, hs, fun r x' z' hr => q r _ hr drawn_upd⟩
theorem pickN {r : Nat} {ms : List Nat} (h : r < ms.length) : atI (ms.map fun m => V.int (m : Nat)) (r : Int) = some (.int (ms[r]'h : Nat)) :=
  atI_nat (by rw [List.getElem?_map, List.getElem?_eq_getElem h]; rfl)
theorem pickP {p : V → Prop} {xs : List V} {r : Nat} (h : r < xs.length) (hp : ∀ v ∈ xs, p v) : ∃ v, atI xs (r : Int) = some v ∧ p v :=
  ⟨xs[r]'h, atI_nat (List.getElem?_eq_getElem h), hp _ (List.getElem_mem h)⟩
/-- a sign's number -/
def IsSg (v : V) : Prop := ∃ n : Nat, v = .int (n : Nat) ∧ 32 ≤ n ∧ n ≤ 65535
theorem isSg {n : Nat} {v : V} (e : v = .int (n : Nat)) (h1 : 32 ≤ n) (h2 : n ≤ 65535) : IsSg v := ⟨n, e, h1, h2⟩
def spLawSaying (K : PySem.W.Frag) : Sp := fun vs H Q _ => ∃ a : Addr, vs = [.ref a] ∧ Src H a ∧ ∀ H' p (l : List Nat), Drawn a H H' → H p = none → H' p = some (.lst (iv l)) → (∀ n ∈ l, 32 ≤ n ∧ n ≤ 65535) → l.length ≤ 200 → Q (.ref p) H'
theorem scLawSaying : FnScope ["_law_source_here", "_law_way", "_law_found", "_law_k", "_law_edge", "_law_near", "_law_plain", "_law_high", "_law_some", "_law_at"] ["_law_source_here"] (defScope sLawSaying) := ⟨rfl, rfl, rfl, by decide +kernel, rfl, by decide +kernel, by decide +kernel⟩
theorem r_law_saying (A : FnAt K mg "_law_saying" sLawSaying) (RN : Ready P w K mg base 2 "_law_next" ["_law_source_here", "_law_many"] spNext) (m_len : mg "len" = none) (m_range : mg "range" = none) :
    Ready P w K mg base 3 "_law_saying" ["_law_source_here"] (spLawSaying K) := by
  obtain ⟨f1, fd1, g1, k1, b1, G1⟩ := next_d RN
  refine ready_of A (fun _ _ _ _ _ _ us hl => match us, hl with | [_], _ => rfl) fun f fd F => ?_
  refine F.ok scLawSaying (fun vs H Q E h => ?_) (fun cdv A outer s H vs Q E hr h => ?_)
  · obtain ⟨a, rfl, _⟩ := h
    rfl
  · obtain ⟨a, rfl, hS, q⟩ := h
    have sc := scLawSaying
    refine ⟨_, pss_cons (ps_set (i := 1) sc.nd rfl (.inl rfl) (pe_call G1 (hr.mono (by decide)) (by rfl) g1 k1 b1 .nil pass0 (pa_cons (pv 0) (pa_cons pe_int pa_nil))))
      (pss_cons (ps_set (i := 2) sc.nd rfl (.inl rfl) (pe_lst pa_nil))
      (pss_cons (ps_for PassesOwn.never rfl (pi_range1 (by rfl) m_range (pa_cons (pe_call G1 (hr.mono (by decide)) (by rfl) g1 k1 b1 .nil pass0 (pa_cons (pv 0) (pa_cons (pe_ix ix_list (pe_lst (pa_cons pe_int (pa_cons pe_int (pa_cons pe_int (pa_cons pe_int pa_nil))))) (pe_call G1 (hr.mono (by decide)) (by rfl) g1 k1 b1 .nil pass0 (pa_cons (pv 0) (pa_cons pe_int pa_nil))) (fun _ _ => rfl)) pa_nil))) pa_nil)) (pg_name (i := 3) sc.nd rfl (.inl rfl))
        (pss_cons (ps_set (i := 4) sc.nd rfl (.inl rfl) (pe_ix ix_list (pe_lst (pa_cons pe_int (pa_cons pe_int (pa_cons pe_int (pa_cons pe_int (pa_cons pe_int (pa_cons pe_int (pa_cons pe_int (pa_cons pe_int (pa_cons pe_int (pa_cons pe_int (pa_cons pe_int (pa_cons pe_int pa_nil))))))))))))) (pe_call G1 (hr.mono (by decide)) (by rfl) g1 k1 b1 .nil pass0 (pa_cons (pv 0) (pa_cons pe_int pa_nil))) (fun _ _ => rfl)))
          (pss_cons (ps_set (i := 5) sc.nd rfl (.inl rfl) (pe_lst (pa_cons (pe_op op_add pe_int (pe_call G1 (hr.mono (by decide)) (by rfl) g1 k1 b1 .nil pass0 (pa_cons (pv 0) (pa_cons pe_int pa_nil)))) (pa_cons pe_int (pa_cons (pe_op op_add pe_int (pe_call G1 (hr.mono (by decide)) (by rfl) g1 k1 b1 .nil pass0 (pa_cons (pv 0) (pa_cons pe_int pa_nil)))) (pa_cons (pe_op op_add pe_int (pe_call G1 (hr.mono (by decide)) (by rfl) g1 k1 b1 .nil pass0 (pa_cons (pv 0) (pa_cons pe_int pa_nil)))) pa_nil))))))
          (pss_cons (ps_set (i := 6) sc.nd rfl (.inl rfl) (pe_ix ix_list (pv 5) (pe_call G1 (hr.mono (by decide)) (by rfl) g1 k1 b1 .nil pass0 (pa_cons (pv 0) (pa_cons pe_int pa_nil))) (fun _ _ => rfl)))
          (pss_cons (ps_set (i := 7) sc.nd rfl (.inl rfl) (pe_ix ix_list (pe_lst (pa_cons (pe_op op_add pe_int (pe_call G1 (hr.mono (by decide)) (by rfl) g1 k1 b1 .nil pass0 (pa_cons (pv 0) (pa_cons pe_int pa_nil)))) (pa_cons (pe_op op_add pe_int (pe_call G1 (hr.mono (by decide)) (by rfl) g1 k1 b1 .nil pass0 (pa_cons (pv 0) (pa_cons pe_int pa_nil)))) pa_nil))) (pe_call G1 (hr.mono (by decide)) (by rfl) g1 k1 b1 .nil pass0 (pa_cons (pv 0) (pa_cons pe_int pa_nil))) (fun _ _ => rfl)))
          (pss_cons (ps_set (i := 8) sc.nd rfl (.inl rfl) (pe_lst (pa_cons (pv 6) (pa_cons (pv 4) (pa_cons (pv 7) (pa_cons (pe_ix ix_list (pe_lst (pa_cons (pv 6) (pa_cons (pv 6) (pa_cons (pv 6) (pa_cons (pv 4) pa_nil))))) (pe_call G1 (hr.mono (by decide)) (by rfl) g1 k1 b1 .nil pass0 (pa_cons (pv 0) (pa_cons pe_int pa_nil))) (fun _ _ => rfl)) pa_nil))))))
          (pss_one (ps_expr (pe_bm PySem.F.plainAttrs_list PySem.F.slot_list_append PySem.F.type_list_append mt_append (pv 2) (pa_cons (pe_ix ix_list (pe_op op_cat (pv 8) (pe_lst (pa_cons (pe_ix ix_list (pe_lst (pa_cons (pv 6) (pa_cons (pv 7) pa_nil))) (pe_call G1 (hr.mono (by decide)) (by rfl) g1 k1 b1 .nil pass0 (pa_cons (pv 0) (pa_cons pe_int pa_nil))) (fun _ _ => rfl)) (pa_cons (pv 6) pa_nil)))) (pv 1) (fun _ _ => rfl)) pa_nil))))))))))
      (pss_cons (ps_if (pt_cmpR op_eq (pv 1) pe_int (nomark _))
        (pss_cons (ps_set (i := 9) sc.nd rfl (.inl rfl) (pe_call G1 (hr.mono (by decide)) (by rfl) g1 k1 b1 .nil pass0 (pa_cons (pv 0) (pa_cons (pe_op op_add (pe_callB call_len_seq (by rfl) m_len PySem.boot_len (pa_cons (pv 2) pa_nil)) pe_int) pa_nil))))
          (pss_one (ps_set (i := 2) sc.nd rfl (.inl rfl) (pe_op op_cat (pe_op op_cat (pe_slice sl_list (pv 2) po_none (po_some (pv 9))) (pe_slice sl_list (pe_lst (pa_cons pe_int (pa_cons pe_int pa_nil))) po_none (po_some (pe_call G1 (hr.mono (by decide)) (by rfl) g1 k1 b1 .nil pass0 (pa_cons (pv 0) (pa_cons pe_int pa_nil)))))) (pe_slice sl_list (pv 2) (po_some (pv 9)) po_none)))))
        pss_nil)
      (pss_one (ps_ret (pv 2)))))), ?_⟩
    refine ⟨_, rfl, a, 6, rfl, by decide, by decide, hS, fun way H1 hway d1 => ?_⟩
    refine ⟨(by show 0 ≤ sizeLine; decide), fun fp nfp => ?_⟩
    have hfa := d1.src.ne nfp
    have hfa' : a ≠ fp := hfa.symm
    have nf0 : H fp = none := by
      cases hh : H fp with
      | none => rfl
      | some o => rw [d1.old fp o hfa hh] at nfp; cases nfp
    have s1 : DS a H fp (.lst (iv [])) (upd H1 fp (.lst [])) := ⟨drawn_newL d1 nfp, upd_same, hfa⟩
    refine ⟨_, rfl, (by show 4 ≤ sizeLine; decide), fun q0 nq0 => ?_⟩
    have s2 := s1.new (x := .lst [.int 4, .int 12, .int 40, .int 198]) nq0
    refine ⟨_, rfl, a, 4, rfl, by decide, by decide, s2.d.src, fun r0 H2 hr0 d2 => ?_⟩
    have s3 := s2.draw d2
    have hr0' : r0 < [4, 12, 40, 198].length := hr0
    refine ⟨q0, _, _, .int (([4, 12, 40, 198][r0]'hr0' : Nat) : Int), rfl, rfl, SqL.of (d2.old q0 _ (s1.d.src.ne nq0) upd_same), pickN (ms := [4, 12, 40, 198]) hr0', ?_⟩
    have hm : 1 ≤ ([4, 12, 40, 198][r0]'hr0' : Nat) ∧ ([4, 12, 40, 198][r0]'hr0' : Nat) ≤ 198 := (by decide : ∀ m ∈ [4, 12, 40, 198], 1 ≤ m ∧ m ≤ 198) _ (List.getElem_mem hr0')
    generalize ([4, 12, 40, 198][r0]'hr0' : Nat) = M at hm
    refine ⟨a, M, rfl, hm.1, by omega, s3.d.src, fun N H3 hN d3 => ?_⟩
    have s4 := s3.draw d3
    refine ⟨(N : Int), rfl, by omega, by omega, ?_⟩
    refine for_it walk_range (fun i σ H' => ∃ (l : List Nat) (y3 y4 y5 y6 y7 y8 : Option V), σ = [some (.ref a), some (.int (way : Nat)), some (.ref fp), y3, y4, y5, y6, y7, y8, none] ∧ DS a H fp (.lst (iv l)) H' ∧ l.length = i ∧ ∀ n ∈ l, 32 ≤ n ∧ n ≤ 65535)
      ⟨[], none, none, none, none, none, none, rfl, s4, rfl, fun n hn => by cases hn⟩ (fun _ _ _ _ _ => trivial) (fun i x σ H4 H5 hi hp hy => ?_) (fun σ H4 hp => ?_)
    · obtain ⟨l, y3, y4, y5, y6, y7, y8, rfl, t1, hl, hg⟩ := hp
      obtain ⟨rfl, hxv⟩ := hy
      -- edge
      refine ⟨(by show 12 ≤ sizeLine; decide), fun q1 n1 => ?_⟩
      have t2 := t1.new (x := .lst (iv [32, 37, 61, 63, 95, 126, 127, 128, 2047, 2048, 4096, 65535])) n1
      refine ⟨_, rfl, a, 12, rfl, by decide, by decide, t2.d.src, fun r1 H6 hr1 d6 => ?_⟩
      have t3 := t2.draw d6
      obtain ⟨v1, hv1, sg1⟩ := pickP (p := IsSg) (xs := iv [32, 37, 61, 63, 95, 126, 127, 128, 2047, 2048, 4096, 65535]) (r := r1) hr1 (fun v hv => by
        obtain ⟨n, hn, rfl⟩ := List.mem_map.mp hv
        exact isSg rfl ((by decide : ∀ m ∈ [32, 37, 61, 63, 95, 126, 127, 128, 2047, 2048, 4096, 65535], 32 ≤ m ∧ m ≤ 65535) n hn).1 ((by decide : ∀ m ∈ [32, 37, 61, 63, 95, 126, 127, 128, 2047, 2048, 4096, 65535], 32 ≤ m ∧ m ≤ 65535) n hn).2)
      refine ⟨q1, _, _, v1, rfl, rfl, SqL.of (d6.old q1 _ (t1.d.src.ne n1) upd_same), hv1, ?_⟩
      -- near
      refine ⟨_, rfl, a, 26, rfl, by decide, by decide, t3.d.src, fun r2 H7 hr2 d7 => ⟨_, _, rfl, rfl, ?_⟩⟩
      have t4 := t3.draw d7
      refine ⟨_, rfl, a, 10, rfl, by decide, by decide, t4.d.src, fun r3 H8 hr3 d8 => ⟨_, _, rfl, rfl, ?_⟩⟩
      have t5 := t4.draw d8
      refine ⟨_, rfl, a, 4, rfl, by decide, by decide, t5.d.src, fun r4 H9 hr4 d9 => ⟨_, _, rfl, rfl, ?_⟩⟩
      have t6 := t5.draw d9
      refine ⟨(by show 4 ≤ sizeLine; decide), fun q2 n2 => ?_⟩
      have t7 := t6.new (x := .lst [.int (97 + (r2 : Nat)), .int 32, .int (48 + (r3 : Nat)), .int (38 + (r4 : Nat))]) n2
      -- plain
      refine ⟨_, rfl, _, rfl, a, 4, rfl, by decide, by decide, t7.d.src, fun r5 H10 hr5 d10 => ?_⟩
      have t8 := t7.draw d10
      obtain ⟨v2, hv2, sg2⟩ := pickP (p := IsSg) (xs := [.int (97 + (r2 : Nat)), .int 32, .int (48 + (r3 : Nat)), .int (38 + (r4 : Nat))]) (r := r5) hr5 (fun v hv => by
        simp only [List.mem_cons, List.not_mem_nil, or_false] at hv
        rcases hv with rfl | rfl | rfl | rfl
        · exact ⟨97 + r2, rfl, by omega, by omega⟩
        · exact ⟨32, rfl, by omega, by omega⟩
        · exact ⟨48 + r3, rfl, by omega, by omega⟩
        · exact ⟨38 + r4, rfl, by omega, by omega⟩)
      refine ⟨q2, _, _, v2, rfl, rfl, SqL.of (d10.old q2 _ (t6.d.src.ne n2) upd_same), hv2, ?_⟩
      -- high
      refine ⟨_, rfl, a, 1800, rfl, by decide, by decide, t8.d.src, fun r6 H11 hr6 d11 => ⟨_, _, rfl, rfl, ?_⟩⟩
      have t9 := t8.draw d11
      refine ⟨_, rfl, a, 63488, rfl, by decide, by decide, t9.d.src, fun r7 H12 hr7 d12 => ⟨_, _, rfl, rfl, ?_⟩⟩
      have t10 := t9.draw d12
      refine ⟨(by show 2 ≤ sizeLine; decide), fun q3 n3 => ?_⟩
      have t11 := t10.new (x := .lst [.int (200 + (r6 : Nat)), .int (2048 + (r7 : Nat))]) n3
      refine ⟨_, rfl, a, 2, rfl, by decide, by decide, t11.d.src, fun r8 H13 hr8 d13 => ?_⟩
      have t12 := t11.draw d13
      obtain ⟨v3, hv3, sg3⟩ := pickP (p := IsSg) (xs := [.int (200 + (r6 : Nat)), .int (2048 + (r7 : Nat))]) (r := r8) hr8 (fun v hv => by
        simp only [List.mem_cons, List.not_mem_nil, or_false] at hv
        rcases hv with rfl | rfl
        · exact ⟨200 + r6, rfl, by omega, by omega⟩
        · exact ⟨2048 + r7, rfl, by omega, by omega⟩)
      refine ⟨q3, _, _, v3, rfl, rfl, SqL.of (d13.old q3 _ (t10.d.src.ne n3) upd_same), hv3, ?_⟩
      -- some
      refine ⟨_, rfl, _, rfl, _, rfl, _, rfl, _, rfl, _, rfl, _, rfl, (by show 4 ≤ sizeLine; decide), fun q4 n4 => ?_⟩
      have t13 := t12.new (x := .lst [v2, v2, v2, v1]) n4
      refine ⟨_, rfl, a, 4, rfl, by decide, by decide, t13.d.src, fun r9 H14 hr9 d14 => ?_⟩
      have t14 := t13.draw d14
      obtain ⟨v4, hv4, sg4⟩ := pickP (p := IsSg) (xs := [v2, v2, v2, v1]) (r := r9) hr9 (fun v hv => by
        simp only [List.mem_cons, List.not_mem_nil, or_false] at hv
        rcases hv with rfl | rfl | rfl | rfl <;> assumption)
      refine ⟨q4, _, _, v4, rfl, rfl, SqL.of (d14.old q4 _ (t12.d.src.ne n4) upd_same), hv4, ?_⟩
      refine ⟨(by show 4 ≤ sizeLine; decide), fun q5 n5 => ?_⟩
      have t15 := t14.new (x := .lst [v2, v1, v3, v4]) n5
      -- append
      refine ⟨_, rfl, .inl ⟨rfl, _, SqL.of t15.f⟩, _, rfl, _, rfl, _, rfl, (by show 2 ≤ sizeLine; decide), fun q6 n6 => ?_⟩
      have t16 := t15.new (x := .lst [v2, v3]) n6
      refine ⟨_, rfl, a, 2, rfl, by decide, by decide, t16.d.src, fun r10 H15 hr10 d15 => ?_⟩
      have t17 := t16.draw d15
      obtain ⟨v5, hv5, sg5⟩ := pickP (p := IsSg) (xs := [v2, v3]) (r := r10) hr10 (fun v hv => by
        simp only [List.mem_cons, List.not_mem_nil, or_false] at hv
        rcases hv with rfl | rfl <;> assumption)
      refine ⟨q6, _, _, v5, rfl, rfl, SqL.of (d15.old q6 _ (t15.d.src.ne n6) upd_same), hv5, _, rfl, (by show 2 ≤ sizeLine; decide), fun q7 n7 => ?_⟩
      have t18 := t17.new (x := .lst [v5, v2]) n7
      have h5 : (upd H15 q7 (.lst [v5, v2])) q5 = some (.lst [v2, v1, v3, v4]) := by
        have e1 : (upd (upd H14 q5 (.lst [v2, v1, v3, v4])) q6 (.lst [v2, v3])) q5 = some (.lst [v2, v1, v3, v4]) := by
          rw [upd_ne (ne_of_none upd_same n6)]
          exact upd_same
        have e2 := d15.old q5 _ (t14.d.src.ne n5) e1
        rw [upd_ne (ne_of_none e2 n7)]
        exact e2
      refine ⟨q5, q7, _, _, rfl, rfl, h5, upd_same, (by show 4 + 2 ≤ sizeLine; decide), fun q8 n8 => ?_⟩
      have t19 := t18.new (x := .lst [v2, v1, v3, v4, v5, v2]) n8
      obtain ⟨v6, hv6, sg6⟩ := pickP (p := IsSg) (xs := [v2, v1, v3, v4, v5, v2]) (r := way) hway (fun v hv => by
        simp only [List.mem_cons, List.not_mem_nil, or_false] at hv
        rcases hv with rfl | rfl | rfl | rfl | rfl | rfl <;> assumption)
      refine ⟨_, rfl, q8, _, _, v6, rfl, rfl, SqL.of upd_same, hv6, ?_⟩
      obtain ⟨n, rfl, hn1, hn2⟩ := sg6
      refine ⟨fp, _, _, rfl, rfl, t19.f, by rw [iv_len]; exact szl (by omega), ?_⟩
      refine ⟨l ++ [n], _, _, _, _, _, _, rfl, ⟨?_, ?_, hfa⟩, by rw [List.length_append, hl]; rfl, ?_⟩
      · refine ⟨fun b o nb e => ?_, ?_⟩
        · have : b ≠ fp := ne_of_none e nf0
          rw [upd_ne this]
          exact t19.d.old b o nb e
        · obtain ⟨x, y, z, e⟩ := t19.d.src
          exact ⟨x, y, z, by rw [upd_ne hfa']; exact e⟩
      · rw [upd_same, iv_app]
        rfl
      · intro m hm
        rcases List.mem_append.mp hm with hm | hm
        · exact hg m hm
        · rw [List.mem_singleton.mp hm]
          exact ⟨hn1, hn2⟩
    · obtain ⟨l, y3, y4, y5, y6, y7, y8, rfl, t1, hl, hg⟩ := hp
      refine ⟨_, rfl, rfl, _, rfl, ite2 (fun h => ?_) (fun h => ?_)⟩
      · refine ⟨_, rfl, _, rfl, fp, _, rfl, .inl (SqL.of t1.f), _, _, rfl, rfl, ?_⟩
        rw [iv_len]
        refine ⟨a, l.length + 1, rfl, by omega, by omega, t1.d.src, fun at_ H5 hat d5 => ?_⟩
        have t2 := t1.draw d5
        refine ⟨_, rfl, _, rfl, _, rfl, fp, _, rfl, SqL.of t2.f, fun q1 n1 => ?_⟩
        rw [show cutV (iv l) none (some (at_ : Nat)) = iv (l.take at_) from by rw [← cutV_none, cutV_iv]; simp]
        have t3 := t2.new (x := .lst (iv (l.take at_))) n1
        refine ⟨(by show 2 ≤ sizeLine; decide), fun q2 n2 => ?_⟩
        have t4 := t3.new (x := .lst (iv [61, 63])) n2
        refine ⟨_, rfl, a, 4, rfl, by decide, by decide, t4.d.src, fun r H6 hr d6 => ?_⟩
        have t5 := t4.draw d6
        refine ⟨_, rfl, q2, _, rfl, SqL.of (d6.old q2 _ (t3.d.src.ne n2) upd_same), fun q3 n3 => ?_⟩
        rw [show cutV [V.int 61, V.int 63] none (some (r : Nat)) = iv ([61, 63].take r) from by rw [← cutV_none]; exact (cutV_iv [61, 63] 0 r).trans (by simp)]
        have t6 := t5.new (x := .lst (iv ([61, 63].take r))) n3
        have e1 : (upd H6 q3 (.lst (iv ([61, 63].take r)))) q1 = some (.lst (iv (l.take at_))) := by
          have e0 : (upd (upd H5 q1 (.lst (iv (l.take at_)))) q2 (.lst (iv [61, 63]))) q1 = some (.lst (iv (l.take at_))) := by
            rw [upd_ne (ne_of_none upd_same n2)]
            exact upd_same
          have e2 := d6.old q1 _ (t2.d.src.ne n1) e0
          rw [upd_ne (ne_of_none e2 n3)]
          exact e2
        have hN : N ≤ 197 := by omega
        have hl2 : l.length ≤ 197 := by omega
        have hr2 : ([61, 63].take r).length ≤ 2 := by rw [List.length_take]; exact Nat.min_le_right _ _
        have hat2 : (l.take at_).length = at_ := by rw [List.length_take]; omega
        refine ⟨q1, q3, _, _, rfl, rfl, e1, upd_same, by rw [iv_len, iv_len]; exact Nat.le_of_lt (szl (by omega)), fun q4 n4 => ?_⟩
        rw [← iv_app]
        have t7 := t6.new (x := .lst (iv (l.take at_ ++ [61, 63].take r))) n4
        refine ⟨_, rfl, _, rfl, _, rfl, fp, _, rfl, SqL.of t7.f, fun q5 n5 => ?_⟩
        rw [show cutV (iv l) (some (at_ : Nat)) none = iv (l.drop at_) from cutV_drop l at_]
        have t8 := t7.new (x := .lst (iv (l.drop at_))) n5
        refine ⟨q4, q5, _, _, rfl, rfl, (by rw [upd_ne (ne_of_none upd_same n5)]; exact upd_same), upd_same, by rw [iv_len, iv_len, List.length_append, List.length_drop]; exact Nat.le_of_lt (szl (by omega)), fun q6 n6 => ?_⟩
        rw [← iv_app]
        have t9 := t8.new (x := .lst (iv (l.take at_ ++ [61, 63].take r ++ l.drop at_))) n6
        refine ⟨_, rfl, q _ q6 _ t9.d ?_ upd_same ?_ ?_⟩
        · cases hh : H q6 with
          | none => rfl
          | some o => rw [t8.d.old q6 o (t8.d.src.ne n6) hh] at n6; cases n6
        · intro m hm
          simp only [List.mem_append] at hm
          rcases hm with (hm | hm) | hm
          · exact hg m (List.mem_of_mem_take hm)
          · exact (by decide : ∀ m ∈ [61, 63], 32 ≤ m ∧ m ≤ 65535) m (List.mem_of_mem_take hm)
          · exact hg m (List.mem_of_mem_drop hm)
        · rw [List.length_append, List.length_append, List.length_drop]
          omega
      · exact ⟨_, rfl, q _ fp l t1.d nf0 t1.f hg (by omega)⟩
end
end FL


namespace FL
open PySem PySem.Spec PyProof.Rows L2
section
variable {P : Program} {w : World} {K : PySem.W.Frag} {mg : Str → Option Value} {base : Heap}
def spLawOcts (K : PySem.W.Frag) : Sp := fun vs H Q _ => ∃ a l, vs = [.ref a] ∧ H a = some (.lst (iv l)) ∧ GS l ∧ ∀ H' p, Same H H' → H p = none → H' p = some (.lst (iv (octsOf l))) → Q (.ref p) H'
theorem scLawOctetsOf : FnScope ["_law_row", "_law_found", "_law_tone", "_law_some"] ["_law_row"] (defScope sLawOctetsOf) := ⟨rfl, rfl, rfl, by decide +kernel, rfl, by decide +kernel, by decide +kernel⟩
theorem r_law_octets_of (A : FnAt K mg "_law_octets_of" sLawOctetsOf) : Ready P w K mg base 1 "_law_octets_of" ["_law_row"] (spLawOcts K) := by
  refine ready_of A (fun _ _ _ _ _ _ us hl => match us, hl with | [_], _ => rfl) fun f fd F => ?_
  refine F.ok scLawOctetsOf (fun vs H Q E h => ?_) (fun cdv A outer s H vs Q E hr h => ?_)
  · obtain ⟨a, l, rfl, _⟩ := h
    rfl
  · obtain ⟨a, l, rfl, hH, hl, q⟩ := h
    have sc := scLawOctetsOf
    refine ⟨_, pss_cons (ps_set (i := 1) sc.nd rfl (.inl rfl) (pe_lst pa_nil))
      (pss_cons (ps_for PassesOwn.never rfl (pi_list (pv 0)) (pg_name (i := 2) sc.nd rfl (.inl rfl))
        (pss_cons (ps_set (i := 3) sc.nd rfl (.inl rfl) (pe_lst (pa_cons (pv 2) pa_nil)))
          (pss_cons (ps_if (pt_cmpR op_gt (pv 2) pe_int (nomark _))
            (pss_one (ps_set (i := 3) sc.nd rfl (.inl rfl) (pe_lst (pa_cons (pe_op op_add pe_int (pe_op op_fdiv (pv 2) pe_int)) (pa_cons (pe_op op_add pe_int (pe_op op_fdiv (pe_op op_mod (pv 2) pe_int) pe_int)) (pa_cons (pe_op op_add pe_int (pe_op op_mod (pv 2) pe_int)) pa_nil))))))
            (pss_one (ps_if (pt_cmpR op_gt (pv 2) pe_int (nomark _))
                (pss_one (ps_set (i := 3) sc.nd rfl (.inl rfl) (pe_lst (pa_cons (pe_op op_add pe_int (pe_op op_fdiv (pv 2) pe_int)) (pa_cons (pe_op op_add pe_int (pe_op op_mod (pv 2) pe_int)) pa_nil)))))
                pss_nil)))
          (pss_one (ps_set (i := 1) sc.nd rfl (.inl rfl) (pe_op op_cat (pv 1) (pv 3)))))))
      (pss_one (ps_ret (pv 1)))), ?_⟩
    refine ⟨by show 0 ≤ sizeLine; decide, fun p np => ?_⟩
    refine ⟨_, rfl, a, rfl, ⟨_, SqL.of (by rw [upd_ne (ne_of_none hH np)]; exact hH)⟩, ?_⟩
    refine for_it (walk_list (K := K) (a := a) (xs := iv l)) (fun i σ H' => ∃ fp y2 y3, σ = [some (.ref a), some (.ref fp), y2, y3] ∧ Same H H' ∧ H fp = none ∧ H' fp = some (.lst (iv (octsOf (l.take i))))) ⟨p, none, none, rfl, same_new np, np, upd_same⟩
      (fun i σ H' _ hp => let ⟨_, _, _, _, s, _⟩ := hp; SqL.of (s _ _ hH)) (fun i x σ H2 H3 hi hp hy => ?_) (fun σ H2 hp => ?_)
    · obtain ⟨fp, y2, y3, rfl, s2, nfp, hfp⟩ := hp
      obtain ⟨rfl, hx⟩ := hy
      rw [iv_len] at hi
      have hn : l[i]? = some l[i] := List.getElem?_eq_getElem hi
      rw [iv_at hn] at hx
      injection hx with hx
      subst hx
      have hrest : l[i] ≤ 65535 := (hl.1 _ (List.getElem_mem hi)).2
      generalize hN : l[i] = n at hn hrest
      have fin : ∀ (Hc : Hp) (b : Addr), Same H3 Hc → Hc b = some (.lst (iv (octs n))) → ∃ v, [some (V.ref a), some (V.ref fp), some (V.int (n : Nat)), some (V.ref b)][1]? = some (some v) ∧ ∃ w, [some (V.ref a), some (V.ref fp), some (V.int (n : Nat)), some (V.ref b)][3]? = some (some w) ∧
          ∃ p q xs ys, v = .ref p ∧ w = .ref q ∧ Hc p = some (.lst xs) ∧ Hc q = some (.lst ys) ∧ xs.length + ys.length ≤ sizeLine ∧ ∀ l', Hc l' = none → ∃ fp' y2' y3', ([some (V.ref a), some (V.ref fp), some (V.int (n : Nat)), some (V.ref b)].set 1 (some (.ref l'))) = [some (.ref a), some (.ref fp'), y2', y3'] ∧ Same H (upd Hc l' (.lst (xs ++ ys))) ∧ H fp' = none ∧ (upd Hc l' (.lst (xs ++ ys))) fp' = some (.lst (iv (octsOf (l.take (i + 1))))) := fun Hc b sc2 hb => by
        refine ⟨_, rfl, _, rfl, fp, b, _, _, rfl, rfl, sc2 _ _ hfp, hb, ?_, fun l' nl => ⟨l', _, _, rfl, (s2.trans sc2).trans (same_new nl), Same.free (s2.trans sc2) nl, ?_⟩⟩
        · rw [iv_len, iv_len]
          have e1 := octsOf_len (l.take i)
          have e2 := octs_pos n
          have e3 : (l.take i).length ≤ l.length := by rw [List.length_take]; omega
          have := hl.2
          exact Nat.le_of_lt (szl (by omega))
        · rw [upd_same, take_more hn]
          unfold octsOf
          rw [List.flatMap_append, iv_app, List.flatMap_cons, List.flatMap_nil, List.append_nil]
      refine ⟨_, rfl, (by show 1 ≤ sizeLine; decide), fun q1 n1 => ?_⟩
      refine ⟨_, rfl, _, _, rfl, rfl, _, rfl, ite2 (fun h => ?_) (fun h => ?_)⟩
      · have h2 : ¬ n < 2048 := by have := of_decide_eq_true h; omega
        refine ⟨_, rfl, _, _, rfl, rfl, ⟨by decide, by decide⟩, _, _, rfl, rfl, _, rfl, _, _, rfl, rfl, (by show (0 : Int) < 4096; decide), _, _, rfl, rfl, ⟨by decide, by decide⟩, _, _, rfl, rfl, _, rfl, _, _, rfl, rfl, (by show (0 : Int) < 64; decide), _, _, rfl, rfl, (by show 3 ≤ sizeLine; decide), fun q2 n2 => ?_⟩
        refine fin _ q2 ((same_new n1).trans (same_new n2)) ?_
        rw [upd_same]
        unfold octs
        rw [if_neg (by omega), if_neg h2]
        rfl
      · have h2 : n < 2048 := by
          have : ¬ ((n : Int) > 2047) := fun z => h (decide_eq_true z)
          omega
        refine ⟨_, rfl, _, _, rfl, rfl, _, rfl, ite2 (fun h => ?_) (fun h => ?_)⟩
        · have h1 : ¬ n < 128 := by have := of_decide_eq_true h; omega
          refine ⟨_, rfl, _, _, rfl, rfl, ⟨by decide, by decide⟩, _, _, rfl, rfl, _, rfl, _, _, rfl, rfl, (by show (0 : Int) < 64; decide), _, _, rfl, rfl, (by show 2 ≤ sizeLine; decide), fun q2 n2 => ?_⟩
          refine fin _ q2 ((same_new n1).trans (same_new n2)) ?_
          rw [upd_same]
          unfold octs
          rw [if_neg h1, if_pos h2]
          rfl
        · have h1 : n < 128 := by
            have : ¬ ((n : Int) > 127) := fun z => h (decide_eq_true z)
            omega
          refine fin _ q1 (same_new n1) ?_
          rw [upd_same]
          unfold octs
          rw [if_pos h1]
          rfl
    · obtain ⟨fp, y2, y3, rfl, s2, nfp, hfp⟩ := hp
      rw [iv_len, List.take_length] at hfp
      exact ⟨_, rfl, q H2 fp s2 nfp hfp⟩
end
end FL


namespace FL
open PySem PySem.Spec PyProof.Rows L2
/-! ### how long a value by words is; the suite's own rows -/
theorem stepW_flat (wr : List Nat → List Nat) (rows : List (List Nat)) (o : List Nat) : (stepW wr rows o).flatten = rows.flatten ++ o := by
  unfold stepW
  by_cases h : rows ≠ [] ∧ (wr (rows.getLastD [] ++ o)).length ≤ 54
  · rw [if_pos h]
    obtain ⟨rs, r, rfl⟩ : ∃ rs r, rows = rs ++ [r] := ⟨rows.dropLast, rows.getLast h.1, (List.dropLast_concat_getLast h.1).symm⟩
    simp
  · rw [if_neg h]
    simp
theorem stepW_len (wr : List Nat → List Nat) (rows : List (List Nat)) (o : List Nat) : (stepW wr rows o).length ≤ rows.length + 1 := by
  unfold stepW
  by_cases h : rows ≠ [] ∧ (wr (rows.getLastD [] ++ o)).length ≤ 54
  · rw [if_pos h]
    simp only [List.length_append, List.length_dropLast, List.length_singleton]
    omega
  · rw [if_neg h]
    simp
theorem fold_rows (wr : List Nat → List Nat) (f : Nat → List Nat) : ∀ (l : List Nat) (rows : List (List Nat)), (l.foldl (fun rows s => stepW wr rows (f s)) rows).flatten = rows.flatten ++ l.flatMap f ∧ (l.foldl (fun rows s => stepW wr rows (f s)) rows).length ≤ rows.length + l.length
  | [], rows => by simp
  | a :: r, rows => by
    have ih := fold_rows wr f r (stepW wr rows (f a))
    have h1 := stepW_flat wr rows (f a)
    have h2 := stepW_len wr rows (f a)
    rw [List.foldl_cons, List.flatMap_cons, List.length_cons]
    refine ⟨?_, by omega⟩
    rw [ih.1, h1, List.append_assoc]
theorem words_len {wr : List Nat → List Nat} {c : Nat} (h : ∀ r, (wr r).length ≤ 3 * r.length + 2) : ∀ rows : List (List Nat), (TL.joinL [32] (rows.map (wordC wr c))).length ≤ 3 * rows.flatten.length + 9 * rows.length
  | [] => by simp [TL.joinL]
  | [r] => by
    have := h r
    simp [TL.joinL, wordC]
    omega
  | r :: r2 :: rs => by
    have ih := words_len (c := c) h (r2 :: rs)
    have := h r
    have e : TL.joinL [32] ((r :: r2 :: rs).map (wordC wr c)) = wordC wr c r ++ [32] ++ TL.joinL [32] ((r2 :: rs).map (wordC wr c)) := by
      simp [TL.joinL]
    rw [e, List.flatten_cons, List.length_append, List.length_append, List.length_append, List.length_cons]
    have e2 : (wordC wr c r).length = (wr r).length + 6 := by simp [wordC]
    rw [e2]
    have e3 : ([32] : List Nat).length = 1 := rfl
    simp only [List.length_cons, List.flatten_cons, List.length_append] at ih e3 ⊢
    omega
theorem byC_len {wr : List Nat → List Nat} {c : Nat} (h : ∀ r, (wr r).length ≤ 3 * r.length + 2) (l : List Nat) : (byC wr c l).length ≤ 18 * l.length := by
  unfold byC rowsW
  obtain ⟨h1, h2⟩ := fold_rows wr octs l []
  have h3 := words_len (c := c) h (l.foldl (fun rows s => stepW wr rows (octs s)) [])
  have h4 := octsOf_len l
  unfold octsOf at h4
  rw [List.flatten_nil, List.nil_append] at h1
  rw [h1] at h3
  rw [List.length_nil] at h2
  omega
theorem codedC_bnd {l : List Nat} (h : l.length ≤ 250) : (byC sixC 115 l).length ≤ 10000000 ∧ (byC marksC 109 l).length ≤ 10000000 := by
  have h1 := byC_len (c := 115) sixC_len3 l
  have h2 := byC_len (c := 109) marksC_len l
  omega
/-- the suite's words: those done and the signs of the one under way -/
def stepL (wr : List Nat → List Nat) (c : Nat) (st : List (List Nat) × List Nat) (t : Nat) : List (List Nat) × List Nat :=
  if st.2 ≠ [] ∧ 60 < (wordC wr c (octsOf (st.2 ++ [t]))).length then (st.1 ++ [wordC wr c (octsOf st.2)], [t]) else (st.1, st.2 ++ [t])
def foldL (wr : List Nat → List Nat) (c : Nat) (l : List Nat) : List (List Nat) × List Nat := l.foldl (stepL wr c) ([], [])
def lawBy (wr : List Nat → List Nat) (c : Nat) (l : List Nat) : List Nat := TL.joinL [32] ((foldL wr c l).1 ++ [wordC wr c (octsOf (foldL wr c l).2)])
theorem octsOf_snoc (l : List Nat) (t : Nat) : octsOf (l ++ [t]) = octsOf l ++ octs t := by
  unfold octsOf
  simp
theorem fold_law (wr : List Nat → List Nat) (c : Nat) : ∀ (l : List Nat) (rows0 : List (List Nat)) (s : List Nat), s ≠ [] → ∃ rows1 s', s' ≠ [] ∧ l.foldl (stepL wr c) (rows0.map (wordC wr c), s) = (rows1.map (wordC wr c), s') ∧ l.foldl (fun rows t => stepW wr rows (octs t)) (rows0 ++ [octsOf s]) = rows1 ++ [octsOf s']
  | [], rows0, s, hs => ⟨rows0, s, hs, rfl, rfl⟩
  | t :: r, rows0, s, hs => by
    rw [List.foldl_cons, List.foldl_cons]
    have e2 : (wordC wr c (octsOf (s ++ [t]))).length = (wr (octsOf s ++ octs t)).length + 6 := by simp [wordC, octsOf_snoc]
    by_cases h : 60 < (wordC wr c (octsOf (s ++ [t]))).length
    · have e3 : stepL wr c (rows0.map (wordC wr c), s) t = ((rows0 ++ [octsOf s]).map (wordC wr c), [t]) := by
        unfold stepL
        rw [if_pos ⟨hs, h⟩]
        simp
      have e4 : stepW wr (rows0 ++ [octsOf s]) (octs t) = (rows0 ++ [octsOf s]) ++ [octsOf [t]] := by
        unfold stepW
        rw [if_neg (fun z => by
          have := z.2
          simp at this
          omega)]
        simp [octsOf]
      rw [e3, e4]
      exact fold_law wr c r (rows0 ++ [octsOf s]) [t] (by simp)
    · have e3 : stepL wr c (rows0.map (wordC wr c), s) t = (rows0.map (wordC wr c), s ++ [t]) := by
        unfold stepL
        rw [if_neg (fun z => h z.2)]
      have e4 : stepW wr (rows0 ++ [octsOf s]) (octs t) = rows0 ++ [octsOf (s ++ [t])] := by
        unfold stepW
        rw [if_pos ⟨by simp, by simp; omega⟩]
        simp [octsOf_snoc]
      rw [e3, e4]
      exact fold_law wr c r rows0 (s ++ [t]) (by simp)
theorem lawBy_eq (wr : List Nat → List Nat) (c : Nat) {l : List Nat} (h : l ≠ []) : lawBy wr c l = byC wr c l := by
  cases l with
  | nil => exact absurd rfl h
  | cons a r =>
    have e1 : foldL wr c (a :: r) = r.foldl (stepL wr c) ((([] : List (List Nat)).map (wordC wr c)), [a]) := by
      unfold foldL
      rw [List.foldl_cons]
      unfold stepL
      rw [if_neg (fun z => z.1 rfl)]
      rfl
    have e2 : rowsW wr octs (a :: r) = r.foldl (fun rows t => stepW wr rows (octs t)) (([] : List (List Nat)) ++ [octsOf [a]]) := by
      unfold rowsW
      rw [List.foldl_cons]
      unfold stepW
      rw [if_neg (fun z => z.1 rfl)]
      simp [octsOf]
    obtain ⟨rows1, s', hs, h1, h2⟩ := fold_law wr c r [] [a] (by simp)
    unfold lawBy byC
    rw [e1, h1, e2, h2]
    simp
theorem foldL_snoc (wr : List Nat → List Nat) (c : Nat) (l : List Nat) (t : Nat) : foldL wr c (l ++ [t]) = stepL wr c (foldL wr c l) t := by
  unfold foldL
  rw [List.foldl_append]
  rfl
/-- what is done and what is under way are the signs so far -/
theorem foldL_bnd (wr : List Nat → List Nat) (c : Nat) {l : List Nat} (hl : ∀ n ∈ l, 32 ≤ n ∧ n ≤ 65535) : (∀ n ∈ (foldL wr c l).2, 32 ≤ n ∧ n ≤ 65535) ∧ (foldL wr c l).1.length + (foldL wr c l).2.length ≤ l.length ∧ (∀ x ∈ (foldL wr c l).1, ∃ s : List Nat, x = wordC wr c (octsOf s) ∧ s.length ≤ l.length) := by
  unfold foldL
  suffices h : ∀ (l : List Nat) (st : List (List Nat) × List Nat) (m : Nat), (∀ n ∈ l, 32 ≤ n ∧ n ≤ 65535) → (∀ n ∈ st.2, 32 ≤ n ∧ n ≤ 65535) → st.1.length + st.2.length ≤ m → (∀ x ∈ st.1, ∃ s : List Nat, x = wordC wr c (octsOf s) ∧ s.length ≤ m) →
      (∀ n ∈ (l.foldl (stepL wr c) st).2, 32 ≤ n ∧ n ≤ 65535) ∧ (l.foldl (stepL wr c) st).1.length + (l.foldl (stepL wr c) st).2.length ≤ m + l.length ∧ (∀ x ∈ (l.foldl (stepL wr c) st).1, ∃ s : List Nat, x = wordC wr c (octsOf s) ∧ s.length ≤ m + l.length) by
    have := h l ([], []) 0 hl (by simp) (by simp) (by simp)
    simpa using this
  intro l
  induction l with
  | nil => exact fun st m h1 h2 h3 h4 => ⟨h2, h3, h4⟩
  | cons t r ih =>
    intro st m h1 h2 h3 h4
    obtain ⟨w, s⟩ := st
    have ht := h1 t (List.mem_cons_self ..)
    have hr := fun n hn => h1 n (List.mem_cons_of_mem _ hn)
    rw [List.foldl_cons, List.length_cons]
    have key : ∀ st', st' = stepL wr c (w, s) t → (∀ n ∈ st'.2, 32 ≤ n ∧ n ≤ 65535) ∧ st'.1.length + st'.2.length ≤ m + 1 ∧ (∀ x ∈ st'.1, ∃ s : List Nat, x = wordC wr c (octsOf s) ∧ s.length ≤ m + 1) := fun st' e => by
      unfold stepL at e
      dsimp only at h2 h3 h4
      by_cases hh : s ≠ [] ∧ 60 < (wordC wr c (octsOf (s ++ [t]))).length
      · rw [if_pos hh] at e
        subst e
        have : 1 ≤ s.length := by
          cases s with
          | nil => exact absurd rfl hh.1
          | cons a b => simp
        refine ⟨fun n hn => ?_, by simp; omega, fun x hx => ?_⟩
        · rw [List.mem_singleton.mp hn]
          exact ht
        · rcases List.mem_append.mp hx with hx | hx
          · obtain ⟨s1, e1, e2⟩ := h4 x hx
            exact ⟨s1, e1, by omega⟩
          · exact ⟨s, List.mem_singleton.mp hx, by omega⟩
      · rw [if_neg hh] at e
        subst e
        refine ⟨fun n hn => ?_, by simp; omega, fun x hx => ?_⟩
        · rcases List.mem_append.mp hn with hn | hn
          · exact h2 n hn
          · rw [List.mem_singleton.mp hn]
            exact ht
        · obtain ⟨s1, e1, e2⟩ := h4 x hx
          exact ⟨s1, e1, by omega⟩
    obtain ⟨k1, k2, k3⟩ := key _ rfl
    obtain ⟨i1, i2, i3⟩ := ih (stepL wr c (w, s) t) (m + 1) hr k1 k2 k3
    exact ⟨i1, by omega, fun x hx => let ⟨s1, e1, e2⟩ := i3 x hx; ⟨s1, e1, by omega⟩⟩
end FL


namespace FL
open PySem PySem.Spec PyProof.Rows L2
/-! ### the suite's text of numbers -/
def LSIG : Str := " !\"#$&'()*+,-./0123456789:;<=>?@ABCDEFGHIJKLMNOPQRSTUVWXYZ[\\]^_`abcdefghijklmnopqrstuvwxyz{|}~"
theorem lsig_len : LSIG.length = 94 := by decide +kernel
theorem lsig_at : ∀ n, n < 127 → 32 ≤ n → n ≠ 37 → LSIG.cps[n - 32 - (if 37 < n then 1 else 0)]? = some n := by decide +kernel
def textV (l : List Nat) : V := if l.all numb = true then .str (mk l) else .non
section
variable {P : Program} {w : World} {K : PySem.W.Frag} {mg : Str → Option Value} {base : Heap}
def spLawText : Sp := fun vs H Q _ => ∃ (a : Addr) (l : List Nat), vs = [.ref a] ∧ H a = some (.lst (iv l)) ∧ l.length ≤ 1000 ∧ ∀ H', Same H H' → Q (textV l) H'
theorem scLawText : FnScope ["_law_numbers", "_law_signs", "_law_found", "_law_number"] ["_law_numbers"] (defScope sLawText) := ⟨rfl, rfl, rfl, by decide +kernel, rfl, by decide +kernel, by decide +kernel⟩
theorem r_law_text (A : FnAt K mg "_law_text" sLawText) (m_int : mg "int" = none) : Ready P w K mg base 1 "_law_text" ["_law_numbers"] spLawText := by
  refine ready_of A (fun _ _ _ _ _ _ us hl => match us, hl with | [_], _ => rfl) fun f fd F => ?_
  refine F.ok scLawText (fun vs H Q E h => ?_) (fun cdv A outer s H vs Q E hr h => ?_)
  · obtain ⟨a, l, rfl, _⟩ := h
    rfl
  · obtain ⟨a, l, rfl, ha, hl, q⟩ := h
    have sc := scLawText
    refine ⟨_, pss_cons (ps_set (i := 1) sc.nd rfl (.inl rfl) pe_str)
      (pss_cons (ps_set (i := 2) sc.nd rfl (.inl rfl) pe_str)
      (pss_cons (ps_for PassesOwn.never rfl (pi_list (pv 0)) (pg_name (i := 3) sc.nd rfl (.inl rfl))
        (pss_cons (ps_if (PW.pt (pw_or (pt_not (pt_chain op_le op_le pe_int (pv 3) pe_int (by with_unfolding_all rfl))) (pw_or1 (pt_cmpR op_eq (pv 3) pe_int (nomark _)))))
            (pss_one (ps_ret pe_non))
            pss_nil)
          (pss_one (ps_set (i := 2) sc.nd rfl (.inl rfl) (pe_op op_add_str (pv 2) (pe_item_str (pv 1) (pe_op op_sub (pe_op op_sub (pv 3) pe_int) (pe_callTy call_int1 (by rfl) m_int (by decide +kernel) (pa_cons (pe_cmpR op_gt (pv 3) pe_int (nomark _)) pa_nil))) (fun _ _ => rfl)))))))
      (pss_one (ps_ret (pv 2))))), ?_⟩
    have e0x : ("" : Str) = mk [] := by decide +kernel
    refine ⟨_, rfl, a, rfl, ⟨_, SqL.of ha⟩, ?_⟩
    refine for_it (walk_list (K := K) (a := a) (xs := iv l)) (fun i σ H' => ∃ (y3 : Option V), σ = [some (.ref a), some (.str LSIG), some (.str (mk (l.take i))), y3] ∧ H' = H ∧ (l.take i).all numb = true) ⟨none, by rw [List.take_zero, ← e0x]; rfl, rfl, rfl⟩ (fun i σ H' _ hp => ?_) (fun i x σ H1 H2 hi hp hy => ?_) (fun σ H1 hp => ?_)
    · obtain ⟨y3, rfl, rfl, _⟩ := hp
      exact SqL.of ha
    · obtain ⟨y3, rfl, rfl, hall⟩ := hp
      obtain ⟨rfl, hx⟩ := hy
      rw [iv_len] at hi
      have hn := List.getElem?_eq_getElem hi
      have hmem := List.getElem_mem hi
      generalize l[i] = n at hn hmem
      rw [iv_at hn] at hx
      injection hx with hx
      subst hx
      have hbad : numb n ≠ true → Q .non H2 := fun h => by
        have := q H2 (Same.refl _)
        unfold textV at this
        rw [if_neg (fun z => h (List.all_eq_true.mp z n hmem))] at this
        exact this
      refine ⟨_, rfl, _, _, rfl, rfl, _, rfl, ?_⟩
      by_cases h1 : (32 : Int) ≤ (n : Nat)
      · rw [decide_eq_true h1]
        refine iteT ⟨_, _, rfl, rfl, _, rfl, ?_⟩
        by_cases h2 : ((n : Nat) : Int) ≤ 126
        · refine iteNS h2 ?_
          refine ⟨_, rfl, rfl, _, rfl, ite2 (fun h3 => ?_) (fun h3 => ?_)⟩
          · have e : n = 37 := by have := V.int.inj (of_decide_eq_true h3); omega
            exact hbad (by rw [e]; decide)
          · have hne : n ≠ 37 := fun z => h3 (decide_eq_true (by rw [z]; rfl))
            have hb : numb n = true := numb_iff.mpr ⟨by omega, by omega, hne⟩
            refine ⟨_, rfl, _, rfl, _, rfl, _, _, rfl, rfl, _, rfl, _, _, rfl, rfl, .inr ⟨_, rfl, ?_⟩⟩
            have hidx := lsig_at n (by omega) (by omega) hne
            have hc := catX (rfl : mk (l.take i) = _) (rfl : mk [n] = _)
            have hfin : ∀ (j : Int) , j = ((n - 32 - (if 37 < n then 1 else 0) : Nat) : Int) → ∃ (a_1 : Str) (i_1 : Int) (c : Nat), V.str LSIG = V.str a_1 ∧ V.int j = V.int i_1 ∧ 0 ≤ i_1 ∧ i_1 < 2 ^ 63 ∧ i_1 < a_1.length ∧ a_1.cps[i_1.toNat]? = some c ∧
                ∃ (i_2 j_1 : Str), V.str (mk (l.take i)) = V.str i_2 ∧ V.str ⟨#[c]⟩ = V.str j_1 ∧ i_2.length + j_1.length ≤ sizeLine ∧ ∃ (y3 : Option V), [some (V.ref a), some (V.str LSIG), some (V.str (i_2 ++ j_1)), some (.int (n : Nat))] = [some (.ref a), some (.str LSIG), some (.str (mk (l.take (i + 1)))), y3] ∧ H2 = H2 ∧ (l.take (i + 1)).all numb = true := fun j hj => by
              refine ⟨LSIG, j, n, rfl, rfl, by omega, by split at hj <;> omega, by rw [lsig_len]; split at hj <;> omega, by rw [hj, Int.toNat_natCast]; exact hidx, _, _, rfl, rfl, ?_, some (.int (n : Nat)), ?_, rfl, ?_⟩
              · rw [← len_append]
                refine szE hc ?_
                have := List.length_take_le i l
                simp
                omega
              · rw [take_more hn, ← hc]
                rfl
              · rw [take_more hn, List.all_append, hall]
                simp [hb]
            by_cases h4 : n > 37
            · rw [decide_eq_true (by omega : ((n : Nat) : Int) > 37)]
              refine ⟨_, _, rfl, rfl, hfin _ ?_⟩
              rw [if_pos h4]
              show ((n : Nat) : Int) - 32 - 1 = _
              omega
            · rw [decide_eq_false (by omega : ¬ ((n : Nat) : Int) > 37)]
              refine ⟨_, _, rfl, rfl, hfin _ ?_⟩
              rw [if_neg h4]
              show ((n : Nat) : Int) - 32 - 0 = _
              omega
        · rw [decide_eq_false h2]
          exact iteT (hbad fun z => h2 (by have := numb_iff.mp z; omega))
      · rw [decide_eq_false h1]
        exact iteF ⟨_, rfl, iteT (hbad fun z => h1 (by have := numb_iff.mp z; omega))⟩
    · obtain ⟨y3, rfl, rfl, hall⟩ := hp
      rw [iv_len, List.take_length] at hall ⊢
      have := q H1 (Same.refl _)
      unfold textV at this
      rw [if_pos hall] at this
      exact ⟨_, rfl, this⟩
end
end FL


namespace FL
open PySem PySem.Spec PyProof.Rows L2
/-! ### the suite's coded words -/
def WayOk (c : Nat) (wr : List Nat → List Nat) : Prop := (c = 115 ∧ wr = sixC) ∨ (c = 109 ∧ wr = marksC)
theorem WayOk.len {c : Nat} {wr : List Nat → List Nat} (h : WayOk c wr) (r : List Nat) : (wr r).length ≤ 3 * r.length + 2 := by
  rcases h with ⟨_, rfl⟩ | ⟨_, rfl⟩
  · exact sixC_len3 r
  · exact marksC_len r
theorem alnum1 : ∀ n, n < 127 → numb n = true → Txt.isalnum (mk [n]) = (isLet n || isFig n) := by decide +kernel
theorem alnum0 : Txt.isalnum ("" : Str) = false := by decide +kernel
def HEXS : Str := "0123456789ABCDEF"
theorem hexs_at : ∀ k, k < 16 → HEXS.cps[k]? = some (hexd k) := by decide +kernel
theorem hexs_len : HEXS.length = 16 := by decide +kernel
section
variable {P : Program} {w : World} {K : PySem.W.Frag} {mg : Str → Option Value} {base : Heap}
def spLawWord : Sp := fun vs H Q _ => ∃ (a : Addr) (l : List Nat) (c : Nat) (wr : List Nat → List Nat), vs = [.ref a, .str (mk [c])] ∧ WayOk c wr ∧ H a = some (.lst (iv l)) ∧ (∀ n ∈ l, n < 256) ∧ l.length ≤ 900 ∧ ∀ H', Same H H' → Q (.str (mk (wordC wr c l))) H'
theorem scLawWord : FnScope ["_law_eights", "_law_way", "_law_found", "_law_octet", "_law_line"] ["_law_eights", "_law_way"] (defScope sLawWord) := ⟨rfl, rfl, rfl, by decide +kernel, rfl, by decide +kernel, by decide +kernel⟩
theorem r_law_word (A : FnAt K mg "_law_word" sLawWord) (R1 : Ready P w K mg base 1 "_law_sixes" ["_law_eights"] spSixesL) (R2 : Ready P w K mg base 1 "_law_text" ["_law_numbers"] spLawText) : Ready P w K mg base 2 "_law_word" ["_law_eights", "_law_way"] spLawWord := by
  obtain ⟨f1, fd1, g1, k1, b1, G1⟩ := R1
  obtain ⟨f2, fd2, g2, k2, b2, G2⟩ := R2
  refine ready_of A (fun _ _ _ _ _ _ us hl => match us, hl with | [_, _], _ => rfl) fun f fd F => ?_
  refine F.ok scLawWord (fun vs H Q E h => ?_) (fun cdv A outer s H vs Q E hr h => ?_)
  · obtain ⟨a, l, c, wr, rfl, _⟩ := h
    rfl
  · obtain ⟨a, l, c, wr, rfl, hw, ha, hb, hl, q⟩ := h
    have sc := scLawWord
    refine ⟨_, pss_cons (ps_if (pt_cmpR op_eq (pv 1) pe_str (nomark _))
        (pss_one (ps_ret (pe_op op_add_str (pe_op op_add_str pe_str (pe_call G1 (hr.mono (by decide)) (by rfl) g1 k1 b1 .nil pass0 (pa_cons (pv 0) pa_nil))) pe_str)))
        pss_nil)
      (pss_cons (ps_set (i := 2) sc.nd rfl (.inl rfl) pe_str)
      (pss_cons (ps_for PassesOwn.never rfl (pi_list (pv 0)) (pg_name (i := 3) sc.nd rfl (.inl rfl))
        (pss_cons (ps_set (i := 4) sc.nd rfl (.inl rfl) (pe_orT (pe_call G2 (hr.mono (by decide)) (by rfl) g2 k2 b2 .nil pass0 (pa_cons (pe_lst (pa_cons (pv 3) pa_nil)) pa_nil)) (pe_one pe_str)))
          (pss_cons (ps_if (pt_cmpR op_eq (pv 3) pe_int (nomark _))
            (pss_one (ps_set (i := 4) sc.nd rfl (.inl rfl) pe_str))
            (pss_one (ps_if (pt_not (pt_val (pe_bm0 PySem.F.plainAttrs_str PySem.F.slot_str_isalnum PySem.F.type_str_isalnum mt_isalnum (pv 4))))
                (pss_one (ps_set (i := 4) sc.nd rfl (.inl rfl) (pe_op op_add_str (pe_op op_add_str pe_str (pe_item_str pe_str (pe_op op_fdiv (pv 3) pe_int) (fun _ _ => rfl))) (pe_item_str pe_str (pe_op op_mod (pv 3) pe_int) (fun _ _ => rfl)))))
                pss_nil)))
          (pss_one (ps_set (i := 2) sc.nd rfl (.inl rfl) (pe_op op_add_str (pv 2) (pv 4)))))))
      (pss_one (ps_ret (pe_op op_add_str (pe_op op_add_str pe_str (pv 2)) pe_str))))), ?_⟩
    have e0x : ("" : Str) = mk [] := by decide +kernel
    have eE : ("?=" : Str) = mk [63, 61] := by decide +kernel
    have e95 : ("_" : Str) = mk [95] := by decide +kernel
    rcases hw with ⟨rfl, rfl⟩ | ⟨rfl, rfl⟩
    · have eB : ("=?s?" : Str) = mk [61, 63, 115, 63] := by decide +kernel
      refine ⟨_, rfl, rfl, _, rfl, ?_⟩
      rw [show decide (V.str (mk [115]) = V.str ("s" : Str)) = true by decide +kernel]
      refine iteT ⟨_, rfl, a, l, rfl, ha, hb, by omega, fun H1 s1 => ?_⟩
      have c1 := catX eB (rfl : mk (sixC l) = _)
      have c2 := catX c1 eE
      have hb6 := sixC_len l
      refine ⟨_, _, rfl, rfl, (by rw [← len_append]; exact szE c1 (by simp; omega)), _, _, rfl, rfl, (by rw [← len_append]; exact szE c2 (by simp; omega)), ?_⟩
      rw [c2]
      exact q _ s1
    · have eB : ("=?m?" : Str) = mk [61, 63, 109, 63] := by decide +kernel
      refine ⟨_, rfl, rfl, _, rfl, ?_⟩
      rw [show decide (V.str (mk [109]) = V.str ("s" : Str)) = false by decide +kernel]
      refine iteF ?_
      refine ⟨_, rfl, a, rfl, ⟨_, SqL.of ha⟩, ?_⟩
      refine for_it (walk_list (K := K) (a := a) (xs := iv l)) (fun i σ H' => ∃ (y3 y4 : Option V), σ = [some (.ref a), some (.str (mk [109])), some (.str (mk (marksC (l.take i)))), y3, y4] ∧ Same H H') ⟨none, none, by rw [List.take_zero, show marksC [] = [] from rfl, ← e0x]; rfl, Same.refl H⟩ (fun i σ H' _ hp => ?_) (fun i x σ H1 H2 hi hp hy => ?_) (fun σ H1 hp => ?_)
      · obtain ⟨y3, y4, rfl, sm⟩ := hp
        exact SqL.of (sm _ _ ha)
      · obtain ⟨y3, y4, rfl, sm⟩ := hp
        obtain ⟨rfl, hx⟩ := hy
        rw [iv_len] at hi
        have hn := List.getElem?_eq_getElem hi
        have hbn := hb _ (List.getElem_mem hi)
        generalize l[i] = n at hn hbn
        rw [iv_at hn] at hx
        injection hx with hx
        subst hx
        have hml := marksC_len (l.take i)
        have hti := List.length_take_le i l
        have fin : ∀ (H3 : Hp) (v : List Nat), Same H2 H3 → v = markC n → ∃ w1, [some (V.ref a), some (V.str (mk [109])), some (V.str (mk (marksC (l.take i)))), some (V.int (n : Nat)), some (V.str (mk v))][2]? = some (some w1) ∧ ∃ w2, [some (V.ref a), some (V.str (mk [109])), some (V.str (mk (marksC (l.take i)))), some (V.int (n : Nat)), some (V.str (mk v))][4]? = some (some w2) ∧
            ∃ p q, w1 = .str p ∧ w2 = .str q ∧ p.length + q.length ≤ sizeLine ∧ ∃ (y3 y4 : Option V), ([some (V.ref a), some (V.str (mk [109])), some (V.str (mk (marksC (l.take i)))), some (V.int (n : Nat)), some (V.str (mk v))].set 2 (some (.str (p ++ q)))) = [some (.ref a), some (.str (mk [109])), some (.str (mk (marksC (l.take (i + 1))))), y3, y4] ∧ Same H H3 := fun H3 v s3 hv => by
          have c1 := catX (rfl : mk (marksC (l.take i)) = _) (rfl : mk v = _)
          have hmc := markC_len n
          refine ⟨_, rfl, _, rfl, _, _, rfl, rfl, (by rw [← len_append]; exact szE c1 (by rw [List.length_append, hv]; omega)), some (.int (n : Nat)), some (.str (mk v)), ?_, sm.trans s3⟩
          rw [c1, take_more hn]
          have e : marksC (l.take i ++ [n]) = marksC (l.take i) ++ v := by
            unfold marksC
            rw [List.flatMap_append, hv]
            simp
          rw [e]
          rfl
        refine ⟨_, rfl, (by show 1 ≤ sizeLine; decide), fun p np => ?_⟩
        refine ⟨p, [n], rfl, by rw [upd_same]; rfl, by simp, fun H3 s3 => ?_⟩
        have s4 : Same H2 H3 := (same_new np).trans s3
        have hhex : ¬ (numb n = true ∧ (isLet n || isFig n) = true) → n ≠ 32 → 61 :: hex2 n = markC n := fun z z2 => by
          unfold markC
          rw [if_neg z2, if_neg z]
        have hexE : ∀ (x : V), n ≠ 32 → ¬ (numb n = true ∧ (isLet n || isFig n) = true) → ∀ (T : V → VK → Prop), True → True := fun _ _ _ _ _ => trivial
        have ch := catX e61 (rfl : mk [hexd (n / 16)] = _)
        have ch2 := catX ch (rfl : mk [hexd (n % 16)] = _)
        have e32 : n = 32 → [95] = markC n := fun z => by rw [z]; rfl
        by_cases hnb : numb n = true
        · have hv : textV [n] = .str (mk [n]) := by
            unfold textV
            rw [if_pos (by simp [hnb])]
          rw [hv]
          refine ⟨true, ⟨by rw [mk_len]; exact Nat.le_of_lt (szl (by simp)), by rw [mk_len]; rfl⟩, iteT ?_⟩
          refine ⟨_, rfl, rfl, _, rfl, ite2 (fun h3 => ?_) (fun h3 => ?_)⟩
          · have e : n = 32 := by have := V.int.inj (of_decide_eq_true h3); omega
            rw [e95]
            exact fin H3 _ s4 (e32 e)
          · have hne : n ≠ 32 := fun z => h3 (decide_eq_true (by rw [z]; rfl))
            have hnl := numb_iff.mp hnb
            refine ⟨_, rfl, rfl, _, rfl, rfl, trivial, ?_⟩
            refine ⟨_, rfl, ?_⟩
            rw [alnum1 n (by omega) hnb]
            cases hal : (isLet n || isFig n) with
            | true =>
              refine iteF (fin H3 _ s4 ?_)
              unfold markC
              rw [if_neg hne, if_pos ⟨hnb, hal⟩]
            | false =>
              refine iteT ?_
              refine ⟨_, rfl, _, _, rfl, rfl, ⟨by decide, by decide⟩, ?_⟩
              refine ⟨HEXS, _, hexd (n / 16), rfl, rfl, by omega, by omega, by rw [hexs_len]; omega, ?_, ?_⟩
              · rw [show ((n : Nat) : Int) / 16 = ((n / 16 : Nat) : Int) by omega, Int.toNat_natCast]
                exact hexs_at _ (by omega)
              refine ⟨_, _, rfl, rfl, (by rw [← len_append]; exact szE ch (by simp)), _, rfl, _, _, rfl, rfl, (by show (0 : Int) < 16; decide), ?_⟩
              refine ⟨HEXS, _, hexd (n % 16), rfl, rfl, by omega, by omega, by rw [hexs_len]; omega, ?_, ?_⟩
              · rw [show ((n : Nat) : Int) % 16 = ((n % 16 : Nat) : Int) by omega, Int.toNat_natCast]
                exact hexs_at _ (by omega)
              refine ⟨_, _, rfl, rfl, (by rw [← len_append]; exact szE ch2 (by simp)), ?_⟩
              rw [show (("=" : Str) ++ (⟨#[hexd (n / 16)]⟩ : Str) ++ (⟨#[hexd (n % 16)]⟩ : Str)) = mk (61 :: hex2 n) from ch2]
              exact fin H3 _ s4 (hhex (fun z => by rw [z.2] at hal; cases hal) hne)
        · have hv : textV [n] = .non := by
            unfold textV
            rw [if_neg (by simp [hnb])]
          rw [hv]
          refine ⟨false, rfl, iteF ?_⟩
          refine ⟨_, rfl, rfl, _, rfl, ite2 (fun h3 => ?_) (fun h3 => ?_)⟩
          · exfalso
            have e : n = 32 := by have := V.int.inj (of_decide_eq_true h3); omega
            exact hnb (by rw [e]; decide)
          · have hne : n ≠ 32 := fun z => h3 (decide_eq_true (by rw [z]; rfl))
            refine ⟨_, rfl, rfl, _, rfl, rfl, trivial, ?_⟩
            refine ⟨_, rfl, ?_⟩
            rw [alnum0]
            refine iteT ?_
            refine ⟨_, rfl, _, _, rfl, rfl, ⟨by decide, by decide⟩, ?_⟩
            refine ⟨HEXS, _, hexd (n / 16), rfl, rfl, by omega, by omega, by rw [hexs_len]; omega, ?_, ?_⟩
            · rw [show ((n : Nat) : Int) / 16 = ((n / 16 : Nat) : Int) by omega, Int.toNat_natCast]
              exact hexs_at _ (by omega)
            refine ⟨_, _, rfl, rfl, (by rw [← len_append]; exact szE ch (by simp)), _, rfl, _, _, rfl, rfl, (by show (0 : Int) < 16; decide), ?_⟩
            refine ⟨HEXS, _, hexd (n % 16), rfl, rfl, by omega, by omega, by rw [hexs_len]; omega, ?_, ?_⟩
            · rw [show ((n : Nat) : Int) % 16 = ((n % 16 : Nat) : Int) by omega, Int.toNat_natCast]
              exact hexs_at _ (by omega)
            refine ⟨_, _, rfl, rfl, (by rw [← len_append]; exact szE ch2 (by simp)), ?_⟩
            rw [show (("=" : Str) ++ (⟨#[hexd (n / 16)]⟩ : Str) ++ (⟨#[hexd (n % 16)]⟩ : Str)) = mk (61 :: hex2 n) from ch2]
            exact fin H3 _ s4 (hhex (fun z => hnb z.1) hne)
      · obtain ⟨y3, y4, rfl, sm⟩ := hp
        rw [iv_len, List.take_length]
        have c1 := catX eB (rfl : mk (marksC l) = _)
        have c2 := catX c1 eE
        have hb6 := marksC_len l
        refine ⟨_, rfl, _, _, rfl, rfl, (by rw [← len_append]; exact szE c1 (by simp; omega)), _, _, rfl, rfl, (by rw [← len_append]; exact szE c2 (by simp; omega)), ?_⟩
        rw [c2]
        exact q _ sm
end
end FL


namespace FL
open PySem PySem.Spec PyProof.Rows L2
def sv (ws : List (List Nat)) : List V := (ws.map mk).map V.str
theorem sv_len (ws : List (List Nat)) : (sv ws).length = ws.length := by
  unfold sv
  rw [List.length_map, List.length_map]
theorem sv_app (a b : List (List Nat)) : sv a ++ sv b = sv (a ++ b) := by
  unfold sv
  rw [List.map_append, List.map_append]
section
variable {P : Program} {w : World} {K : PySem.W.Frag} {mg : Str → Option Value} {base : Heap}
def spLawWords : Sp := fun vs H Q _ => ∃ (a : Addr) (l : List Nat) (c : Nat) (wr : List Nat → List Nat), vs = [.ref a, .str (mk [c])] ∧ WayOk c wr ∧ H a = some (.lst (iv l)) ∧ (∀ n ∈ l, 32 ≤ n ∧ n ≤ 65535) ∧ l.length ≤ 250 ∧ ∀ H', Same H H' → Q (.str (mk (lawBy wr c l))) H'
theorem scLawWordsBy : FnScope ["_law_row", "_law_way", "_law_found", "_law_some", "_law_tone"] ["_law_row", "_law_way"] (defScope sLawWordsBy) := ⟨rfl, rfl, rfl, by decide +kernel, rfl, by decide +kernel, by decide +kernel⟩
theorem r_law_words_by (A : FnAt K mg "_law_words_by" sLawWordsBy) (R1 : Ready P w K mg base 2 "_law_word" ["_law_eights", "_law_way"] spLawWord) (R2 : Ready P w K mg base 1 "_law_octets_of" ["_law_row"] (spLawOcts K)) (m_len : mg "len" = none) :
    Ready P w K mg base 3 "_law_words_by" ["_law_row", "_law_way"] spLawWords := by
  obtain ⟨f1, fd1, g1, k1, b1, G1⟩ := R1
  obtain ⟨f2, fd2, g2, k2, b2, G2⟩ := R2
  refine ready_of A (fun _ _ _ _ _ _ us hl => match us, hl with | [_, _], _ => rfl) fun f fd F => ?_
  refine F.ok scLawWordsBy (fun vs H Q E h => ?_) (fun cdv A outer s H vs Q E hr h => ?_)
  · obtain ⟨a, l, c, wr, rfl, _⟩ := h
    rfl
  · obtain ⟨a, l, c, wr, rfl, hw, ha, hb, hl, q⟩ := h
    have sc := scLawWordsBy
    refine ⟨_, pss_cons (ps_set (i := 2) sc.nd rfl (.inl rfl) (pe_lst pa_nil))
      (pss_cons (ps_set (i := 3) sc.nd rfl (.inl rfl) (pe_lst pa_nil))
      (pss_cons (ps_for PassesOwn.never rfl (pi_list (pv 0)) (pg_name (i := 4) sc.nd rfl (.inl rfl))
        (pss_cons (ps_if (PW.pt (pw_and (pt_cmpR (op_neD hr.units) (pv 3) (pe_lst pa_nil) (nomark _)) (pw_and1 (pt_cmpR op_gt (pe_callB call_len_str (by rfl) m_len PySem.boot_len (pa_cons (pe_call G1 (hr.mono (by decide)) (by rfl) g1 k1 b1 .nil pass0 (pa_cons (pe_call G2 (hr.mono (by decide)) (by rfl) g2 k2 b2 .nil pass0 (pa_cons (pe_op op_cat (pv 3) (pe_lst (pa_cons (pv 4) pa_nil))) pa_nil)) (pa_cons (pv 1) pa_nil))) pa_nil)) pe_int (nomark _)))))
            (pss_cons (ps_expr (pe_bm PySem.F.plainAttrs_list PySem.F.slot_list_append PySem.F.type_list_append mt_append (pv 2) (pa_cons (pe_call G1 (hr.mono (by decide)) (by rfl) g1 k1 b1 .nil pass0 (pa_cons (pe_call G2 (hr.mono (by decide)) (by rfl) g2 k2 b2 .nil pass0 (pa_cons (pv 3) pa_nil)) (pa_cons (pv 1) pa_nil))) pa_nil)))
              (pss_one (ps_set (i := 3) sc.nd rfl (.inl rfl) (pe_lst pa_nil))))
            pss_nil)
          (pss_one (ps_set (i := 3) sc.nd rfl (.inl rfl) (pe_op op_cat (pv 3) (pe_lst (pa_cons (pv 4) pa_nil)))))))
      (pss_one (ps_ret (pe_join pe_str (pe_op op_cat (pv 2) (pe_lst (pa_cons (pe_call G1 (hr.mono (by decide)) (by rfl) g1 k1 b1 .nil pass0 (pa_cons (pe_call G2 (hr.mono (by decide)) (by rfl) g2 k2 b2 .nil pass0 (pa_cons (pv 3) pa_nil)) (pa_cons (pv 1) pa_nil))) pa_nil)))))))), ?_⟩
    refine ⟨(by show 0 ≤ sizeLine; decide), fun fp nf => ⟨(by show 0 ≤ sizeLine; decide), fun s0 ns => ?_⟩⟩
    have nf0 : H fp = none := nf
    have ns0 : H s0 = none := Same.free (same_new nf) ns
    have hfs : fp ≠ s0 := fun e => by rw [← e, upd_same] at ns; cases ns
    have hWl := fun r => hw.len r
    have hwc : ∀ r : List Nat, (wordC wr c (octsOf r)).length ≤ 9 * r.length + 8 := fun r => by
      have := hWl (octsOf r)
      have h2 := octsOf_len r
      simp [wordC]
      omega
    refine ⟨_, rfl, a, rfl, ⟨_, SqL.of (kn (kn ha nf) ns)⟩, ?_⟩
    refine for_it (walk_list (K := K) (a := a) (xs := iv l)) (fun i σ H' => ∃ (y4 : Option V) (sp : Addr), σ = [some (.ref a), some (.str (mk [c])), some (.ref fp), some (.ref sp), y4] ∧ Same H H' ∧ H' fp = some (.lst (sv (foldL wr c (l.take i)).1)) ∧ H' sp = some (.lst (iv (foldL wr c (l.take i)).2)) ∧ sp ≠ fp ∧ H sp = none)
      ⟨none, s0, rfl, (same_new nf).trans (same_new ns), by rw [upd_ne hfs]; exact upd_same, upd_same, hfs.symm, ns0⟩ (fun i σ H' _ hp => ?_) (fun i x σ H1 H2 hi hp hy => ?_) (fun σ H1 hp => ?_)
    · obtain ⟨y4, sp, rfl, sm, _⟩ := hp
      exact SqL.of (sm _ _ ha)
    · obtain ⟨y4, sp, rfl, sm, hfp, hsp, hne, nsp⟩ := hp
      obtain ⟨rfl, hx⟩ := hy
      rw [iv_len] at hi
      have hn := List.getElem?_eq_getElem hi
      have hbn := hb _ (List.getElem_mem hi)
      generalize l[i] = n at hn hbn
      rw [iv_at hn] at hx
      injection hx with hx
      subst hx
      have hbt : ∀ m ∈ l.take i, 32 ≤ m ∧ m ≤ 65535 := fun m hm => hb m (List.mem_of_mem_take hm)
      obtain ⟨f1b, f2b, f3b⟩ := foldL_bnd wr c hbt
      have hti := List.length_take_le i l
      have htl : (l.take i).length ≤ l.length := by rw [List.length_take]; omega
      have hst : foldL wr c (l.take (i + 1)) = stepL wr c (foldL wr c (l.take i)) n := by rw [take_more hn, foldL_snoc]
      generalize foldL wr c (l.take i) = st at hfp hsp f1b f2b f3b hst
      obtain ⟨wsd, sg⟩ := st
      dsimp only at hfp hsp f1b f2b f3b
      -- the last step: some = some + [tone]
      have last : ∀ (H3 : Hp) (sp' : Addr) (fin : List (List Nat)) (sg' : List Nat), Same H H3 → H3 fp = some (.lst (sv fin)) → H3 sp' = some (.lst (iv sg')) → H sp' = none → sg'.length ≤ 260 → stepL wr c (wsd, sg) n = (fin, sg' ++ [n]) →
          ∃ w1, [some (V.ref a), some (.str (mk [c])), some (.ref fp), some (.ref sp'), some (.int (n : Nat))][3]? = some (some w1) ∧ ∃ w4, [some (V.ref a), some (.str (mk [c])), some (.ref fp), some (.ref sp'), some (.int (n : Nat))][4]? = some (some w4) ∧ (1 ≤ sizeLine ∧ ∀ l' , H3 l' = none → ∃ p q xs ys, w1 = .ref p ∧ V.ref l' = .ref q ∧ (upd H3 l' (.lst [w4])) p = some (.lst xs) ∧ (upd H3 l' (.lst [w4])) q = some (.lst ys) ∧ xs.length + ys.length ≤ sizeLine ∧ ∀ l2, (upd H3 l' (.lst [w4])) l2 = none → ∃ (y4 : Option V) (sp : Addr), ([some (V.ref a), some (.str (mk [c])), some (.ref fp), some (.ref sp'), some (.int (n : Nat))].set 3 (some (.ref l2))) = [some (.ref a), some (.str (mk [c])), some (.ref fp), some (.ref sp), y4] ∧ Same H (upd (upd H3 l' (.lst [w4])) l2 (.lst (xs ++ ys))) ∧ (upd (upd H3 l' (.lst [w4])) l2 (.lst (xs ++ ys))) fp = some (.lst (sv (foldL wr c (l.take (i + 1))).1)) ∧ (upd (upd H3 l' (.lst [w4])) l2 (.lst (xs ++ ys))) sp = some (.lst (iv (foldL wr c (l.take (i + 1))).2)) ∧ sp ≠ fp ∧ H sp = none) := fun H3 sp' fin sg' s3 hf3 hs3 nsp' hsl e => by
        refine ⟨_, rfl, _, rfl, (by show 1 ≤ sizeLine; decide), fun l' nl => ⟨sp', l', _, _, rfl, rfl, kn hs3 nl, upd_same, by rw [iv_len, sizeLine_eq]; show _ + 1 ≤ _; omega, fun l2 nl2 => ?_⟩⟩
        have sA : Same H3 (upd (upd H3 l' (.lst [.int (n : Nat)])) l2 (.lst (iv sg' ++ [.int (n : Nat)]))) := (same_new nl).trans (same_new nl2)
        have nl2' : H3 l2 = none := Same.free (same_new nl) nl2
        refine ⟨_, l2, rfl, s3.trans sA, ?_, ?_, fun z => ?_, Same.free s3 nl2'⟩
        · rw [hst, e]
          exact sA _ _ hf3
        · rw [hst, e, upd_same, show [V.int (n : Nat)] = iv [n] from rfl, iv_app]
        · rw [z, hf3] at nl2'
          cases nl2'
      refine ⟨_, rfl, (by show 0 ≤ sizeLine; decide), fun pe npe => ?_⟩
      have sE : Same H2 (upd H2 pe (.lst [])) := same_new npe
      have hE : (upd H2 pe (.lst [])) pe = some (.lst []) := upd_same
      generalize upd H2 pe (.lst []) = HE at sE hE ⊢
      have hspE := sE _ _ hsp
      have hfpE := sE _ _ hfp
      refine ⟨_, _, .lst (SqL.of hspE) (dp_ints sg), .lst (SqL.of hE) .nil, shaped_ints _, nil_sh, _, rfl, ?_⟩
      rw [show (PyData.eqv (.list (idt sg)) (.list [])) = decide (sg = []) from eqv_ints sg []]
      by_cases h0 : sg = []
      · rw [decide_eq_true h0]
        refine iteF (iteF ?_)
        refine last HE sp wsd sg (sm.trans sE) hfpE hspE nsp (by omega) ?_
        unfold stepL
        rw [if_neg (fun z => z.1 h0)]
      · rw [decide_eq_false h0]
        refine iteT ?_
        refine ⟨_, rfl, _, rfl, (by show 1 ≤ sizeLine; decide), fun p1 n1 => ?_⟩
        refine ⟨sp, p1, _, _, rfl, rfl, kn hspE n1, upd_same, by rw [iv_len, sizeLine_eq]; show _ + 1 ≤ _; omega, fun p2 n2 => ?_⟩
        have s2 : Same HE (upd (upd HE p1 (.lst [.int (n : Nat)])) p2 (.lst (iv sg ++ [.int (n : Nat)]))) := (same_new n1).trans (same_new n2)
        have h2 : (upd (upd HE p1 (.lst [.int (n : Nat)])) p2 (.lst (iv sg ++ [.int (n : Nat)]))) p2 = some (.lst (iv (sg ++ [n]))) := by
          rw [upd_same, show [V.int (n : Nat)] = iv [n] from rfl, iv_app]
        generalize upd (upd HE p1 (.lst [.int (n : Nat)])) p2 (.lst (iv sg ++ [.int (n : Nat)])) = H3 at s2 h2 ⊢
        have hgs : ∀ m ∈ sg ++ [n], 32 ≤ m ∧ m ≤ 65535 := fun m hm => by
          rcases List.mem_append.mp hm with hm | hm
          · exact f1b m hm
          · rw [List.mem_singleton.mp hm]
            exact hbn
        have hol : (octsOf (sg ++ [n])).length ≤ 900 := by
          have := octsOf_len (sg ++ [n])
          rw [List.length_append, List.length_singleton] at this
          omega
        refine ⟨p2, sg ++ [n], rfl, h2, ⟨hgs, by rw [List.length_append, List.length_singleton]; omega⟩, fun H4 p4 s4 n4 h4 => ?_⟩
        refine ⟨_, rfl, p4, _, c, wr, rfl, hw, h4, octsOf_lt hgs, hol, fun H5 s5 => ?_⟩
        have hwl := hwc (sg ++ [n])
        rw [List.length_append, List.length_singleton] at hwl
        refine ⟨_, rfl, by rw [mk_len, sizeLine_eq]; omega, _, _, rfl, rfl, _, rfl, ?_⟩
        rw [mk_len]
        have t5 : Same HE H5 := s2.trans (s4.trans s5)
        have hsp5 := t5 _ _ hspE
        have hfp5 := t5 _ _ hfpE
        have sm5 : Same H H5 := sm.trans (sE.trans t5)
        by_cases hbig : 60 < (wordC wr c (octsOf (sg ++ [n]))).length
        · rw [decide_eq_true (by omega : ((wordC wr c (octsOf (sg ++ [n]))).length : Int) > 60)]
          refine iteT ?_
          have hgs1 : ∀ m ∈ sg, 32 ≤ m ∧ m ≤ 65535 := f1b
          refine ⟨_, rfl, .inl ⟨rfl, _, SqL.of hfp5⟩, _, rfl, sp, sg, rfl, hsp5, ⟨hgs1, by omega⟩, fun H6 p6 s6 n6 h6 => ?_⟩
          refine ⟨_, rfl, p6, _, c, wr, rfl, hw, h6, octsOf_lt hgs1, by have := octsOf_len sg; omega, fun H7 s7 => ?_⟩
          have t7 : Same H5 H7 := s6.trans s7
          have hfp7 := t7 _ _ hfp5
          refine ⟨fp, _, _, rfl, rfl, hfp7, by rw [sv_len]; exact szl (by omega), ?_⟩
          refine ⟨(by show 0 ≤ sizeLine; decide), fun p8 n8 => ?_⟩
          have hf8 : (upd H7 fp (.lst (sv wsd ++ [V.str (mk (wordC wr c (octsOf sg)))]))) fp = some (.lst (sv (wsd ++ [wordC wr c (octsOf sg)]))) := by
            rw [upd_same, ← sv_app]
            rfl
          have s8 : Same H (upd H7 fp (.lst (sv wsd ++ [V.str (mk (wordC wr c (octsOf sg)))]))) := same_set (sm5.trans t7) nf0
          generalize upd H7 fp (.lst (sv wsd ++ [V.str (mk (wordC wr c (octsOf sg)))])) = H8 at hf8 s8 n8 ⊢
          refine last (upd H8 p8 (.lst [])) p8 (wsd ++ [wordC wr c (octsOf sg)]) [] (s8.trans (same_new n8)) (kn hf8 n8) upd_same (Same.free s8 n8) (by simp) ?_
          unfold stepL
          rw [if_pos ⟨h0, hbig⟩]
          rfl
        · rw [decide_eq_false (by omega : ¬ ((wordC wr c (octsOf (sg ++ [n]))).length : Int) > 60)]
          refine iteF ?_
          refine last H5 sp wsd sg sm5 hfp5 hsp5 nsp (by omega) ?_
          unfold stepL
          rw [if_neg (fun z => hbig z.2)]
    · obtain ⟨y4, sp, rfl, sm, hfp, hsp, hne, nsp⟩ := hp
      rw [iv_len, List.take_length] at hfp hsp
      obtain ⟨f1b, f2b, f3b⟩ := foldL_bnd wr c hb
      have hfin : mk (lawBy wr c l) = Txt.join (" " : Str) (((foldL wr c l).1 ++ [wordC wr c (octsOf (foldL wr c l).2)]).map mk) := by
        rw [joinW (show (" " : Str) = mk [32] by decide +kernel)]
        rfl
      generalize foldL wr c l = st at hfp hsp f1b f2b f3b hfin
      obtain ⟨wsd, sg⟩ := st
      dsimp only at hfp hsp f1b f2b f3b hfin
      refine ⟨⟨_, rfl⟩, _, rfl, _, rfl, sp, sg, rfl, hsp, ⟨f1b, by omega⟩, fun H6 p6 s6 n6 h6 => ?_⟩
      refine ⟨_, rfl, p6, _, c, wr, rfl, hw, h6, octsOf_lt f1b, by have := octsOf_len sg; omega, fun H7 s7 => ?_⟩
      have t7 : Same H1 H7 := s6.trans s7
      refine ⟨(by show 1 ≤ sizeLine; decide), fun p8 n8 => ?_⟩
      refine ⟨fp, p8, _, _, rfl, rfl, kn (t7 _ _ hfp) n8, upd_same, by rw [sv_len, sizeLine_eq]; show _ + 1 ≤ _; omega, fun p9 n9 => ?_⟩
      refine ⟨(" " : Str), p9, (wsd ++ [wordC wr c (octsOf sg)]).map mk, rfl, rfl, .inl (SqL.of (by rw [upd_same, show [V.str (mk (wordC wr c (octsOf sg)))] = sv [wordC wr c (octsOf sg)] from rfl, sv_app]; rfl)), ?_, ?_⟩
      · have h1 := sum0 (ps := wsd ++ [wordC wr c (octsOf sg)]) (n := 2270) fun p hp => by
          rcases List.mem_append.mp hp with hp | hp
          · obtain ⟨s1, e1, e2⟩ := f3b p hp
            have := hwc s1
            rw [e1]
            omega
          · rw [List.mem_singleton.mp hp]
            have := hwc sg
            omega
        have h2 : (" " : Str).length = 1 := by decide +kernel
        rw [h2]
        rw [List.length_append, List.length_singleton] at h1
        simp only [List.length_map, List.length_append, List.length_singleton]
        have h3 : wsd.length ≤ 250 := by omega
        have h4 : (wsd.length + 1) * 2270 ≤ 251 * 2270 := Nat.mul_le_mul_right _ (by omega)
        omega
      · rw [← hfin]
        exact q _ ((sm.trans t7).trans ((same_new n8).trans (same_new n9)))
/-! ### the value of a saying -/
def lawCoded (l : List Nat) : List Nat := if ownT l = true then l else if (lawBy marksC 109 l).length ≤ (lawBy sixC 115 l).length then lawBy marksC 109 l else lawBy sixC 115 l
theorem lawCoded_eq (l : List Nat) : lawCoded l = codedC l := by
  unfold lawCoded codedC
  cases l with
  | nil => rw [if_pos (by decide +kernel), if_pos (by decide +kernel)]
  | cons a r =>
    rw [lawBy_eq marksC 109 (by simp), lawBy_eq sixC 115 (by simp)]
    by_cases h : ownT (a :: r) = true
    · rw [if_pos h, if_pos h]
    · rw [if_neg h, if_neg h]
      by_cases h2 : (byC sixC 115 (a :: r)).length < (byC marksC 109 (a :: r)).length
      · rw [if_pos h2, if_neg (by omega)]
      · rw [if_neg h2, if_pos (by omega)]
def spLawCoded : Sp := fun vs H Q _ => ∃ (a : Addr) (l : List Nat), vs = [.ref a] ∧ H a = some (.lst (iv l)) ∧ (∀ n ∈ l, 32 ≤ n ∧ n ≤ 65535) ∧ l.length ≤ 250 ∧ ∀ H', Same H H' → Q (.str (mk (codedC l))) H'
theorem scLawCoded : FnScope ["_law_row", "_law_line", "_law_values"] ["_law_row"] (defScope sLawCoded) := ⟨rfl, rfl, rfl, by decide +kernel, rfl, by decide +kernel, by decide +kernel⟩
theorem lawBy_bnd {wr : List Nat → List Nat} {c : Nat} (hw : WayOk c wr) {l : List Nat} (h : l.length ≤ 250) : (lawBy wr c l).length ≤ 10000 := by
  cases l with
  | nil =>
    have := hw.len []
    have e : (lawBy wr c []) = wordC wr c (octsOf []) := by
      unfold lawBy foldL
      simp [TL.joinL]
    rw [e]
    simp [wordC, octsOf]
    simp at this
    omega
  | cons a r =>
    rw [lawBy_eq wr c (by simp)]
    have := byC_len (c := c) hw.len (a :: r)
    omega
theorem r_law_coded (A : FnAt K mg "_law_coded" sLawCoded) (R1 : Ready P w K mg base 1 "_law_text" ["_law_numbers"] spLawText) (R2 : Ready P w K mg base 3 "_law_words_by" ["_law_row", "_law_way"] spLawWords) (m_int : mg "int" = none) (m_len : mg "len" = none) :
    Ready P w K mg base 4 "_law_coded" ["_law_row"] spLawCoded := by
  obtain ⟨f1, fd1, g1, k1, b1, G1⟩ := R1
  obtain ⟨f2, fd2, g2, k2, b2, G2⟩ := R2
  refine ready_of A (fun _ _ _ _ _ _ us hl => match us, hl with | [_], _ => rfl) fun f fd F => ?_
  refine F.ok scLawCoded (fun vs H Q E h => ?_) (fun cdv A outer s H vs Q E hr h => ?_)
  · obtain ⟨a, l, rfl, _⟩ := h
    rfl
  · obtain ⟨a, l, rfl, ha, hb, hl, q⟩ := h
    have sc := scLawCoded
    refine ⟨_, pss_cons (ps_set (i := 1) sc.nd rfl (.inl rfl) (pe_call G1 (hr.mono (by decide)) (by rfl) g1 k1 b1 .nil pass0 (pa_cons (pv 0) pa_nil)))
      (pss_cons (ps_if (PW.pt (pw_and (pt_cmpR op_notN (pv 1) pe_non (nomark _)) (pw_and (pt_cmpR op_eq (pv 1) (pe_bm PySem.F.plainAttrs_str PySem.F.slot_str_strip PySem.F.type_str_strip mt_stripChars (pv 1) (pa_cons pe_str pa_nil)) (nomark _)) (pw_and1 (pt_cmpR op_notin_str pe_str (pv 1) (by rfl))))))
        (pss_one (ps_ret (pv 1)))
        pss_nil)
      (pss_cons (ps_set (i := 2) sc.nd rfl (.inl rfl) (pe_lst (pa_cons (pe_call G2 (hr.mono (by decide)) (by rfl) g2 k2 b2 .nil pass0 (pa_cons (pv 0) (pa_cons pe_str pa_nil))) (pa_cons (pe_call G2 (hr.mono (by decide)) (by rfl) g2 k2 b2 .nil pass0 (pa_cons (pv 0) (pa_cons pe_str pa_nil))) pa_nil))))
      (pss_one (ps_ret (pe_ix ix_list (pv 2) (pe_callTy call_int1 (by rfl) m_int (by decide +kernel) (pa_cons (pe_cmpR op_le (pe_callB call_len_str (by rfl) m_len PySem.boot_len (pa_cons (pe_ix ix_list (pv 2) pe_int (fun _ _ => rfl)) pa_nil)) (pe_callB call_len_str (by rfl) m_len PySem.boot_len (pa_cons (pe_ix ix_list (pv 2) pe_int (fun _ _ => rfl)) pa_nil)) (nomark _)) pa_nil)) (fun _ _ => rfl)))))), ?_⟩
    have e115 : ("s" : Str) = mk [115] := by decide +kernel
    have e109 : ("m" : Str) = mk [109] := by decide +kernel
    refine ⟨_, rfl, a, l, rfl, ha, by omega, fun H1 s1 => ?_⟩
    have ha1 := s1 _ _ ha
    have two : ownT l ≠ true → codedC l = if (lawBy marksC 109 l).length ≤ (lawBy sixC 115 l).length then lawBy marksC 109 l else lawBy sixC 115 l := fun h => by
      rw [← lawCoded_eq]
      unfold lawCoded
      rw [if_neg h]
    have w1 := lawBy_bnd (c := 115) (.inl ⟨rfl, rfl⟩) hl
    have w2 := lawBy_bnd (c := 109) (.inr ⟨rfl, rfl⟩) hl
    by_cases hn : l.all numb = true
    · have hv : textV l = .str (mk l) := by
        unfold textV
        rw [if_pos hn]
      rw [hv]
      refine ⟨_, rfl, rfl, _, rfl, ?_⟩
      rw [decide_eq_false (show ¬ V.str (mk l) = V.non from fun z => by cases z)]
      refine iteT ⟨_, rfl, _, rfl, rfl, mk l, _, rfl, rfl, szX (by omega), rfl, _, rfl, ?_⟩
      by_cases hs : mk l = Txt.stripChars (mk l) (" " : Str)
      · rw [decide_eq_true (congrArg V.str hs)]
        refine iteT ⟨_, rfl, _, _, rfl, rfl, ?_⟩
        show ∃ c, V.bl (!hasQ (mk l)) = V.bl c ∧ _
        refine ⟨_, rfl, ?_⟩
        cases hq : hasQ (mk l) with
        | false =>
          refine iteT ⟨_, rfl, ?_⟩
          have := q H1 s1
          unfold codedC at this
          rw [if_pos (by unfold ownT; rw [hn, decide_eq_true hs, hq]; rfl)] at this
          exact this
        | true =>
          refine iteF ?_
          have ho : ownT l ≠ true := by unfold ownT; rw [hn, decide_eq_true hs, hq]; decide
          have tw := two ho
          refine ⟨_, rfl, a, l, 115, sixC, by rw [← e115]; rfl, .inl ⟨rfl, rfl⟩, ha1, hb, hl, fun H2 s2 => ?_⟩
          refine ⟨_, rfl, a, l, 109, marksC, by rw [← e109]; rfl, .inr ⟨rfl, rfl⟩, s2 _ _ ha1, hb, hl, fun H3 s3 => ?_⟩
          refine ⟨(by show 2 ≤ sizeLine; decide), fun p np => ?_⟩
          have hq := q _ (((s1.trans s2).trans s3).trans (same_new (o := .lst [.str (mk (lawBy sixC 115 l)), .str (mk (lawBy marksC 109 l))]) np))
          have hp : (upd H3 p (.lst [.str (mk (lawBy sixC 115 l)), .str (mk (lawBy marksC 109 l))])) p = some (.lst [.str (mk (lawBy sixC 115 l)), .str (mk (lawBy marksC 109 l))]) := upd_same
          generalize upd H3 p (.lst [.str (mk (lawBy sixC 115 l)), .str (mk (lawBy marksC 109 l))]) = H4 at hq hp ⊢
          rw [tw] at hq
          refine ⟨_, rfl, _, rfl, p, _, _, .str (mk (lawBy marksC 109 l)), rfl, rfl, SqL.of hp, rfl, _, rfl, szX w2, _, rfl, p, _, _, .str (mk (lawBy sixC 115 l)), rfl, rfl, SqL.of hp, rfl, _, rfl, szX w1, _, _, rfl, rfl, .inr ⟨_, rfl, ?_⟩⟩
          rw [mk_len, mk_len]
          by_cases hlt : (lawBy marksC 109 l).length ≤ (lawBy sixC 115 l).length
          · rw [decide_eq_true (Int.ofNat_le.mpr hlt)]
            rw [if_pos hlt] at hq
            exact ⟨p, _, _, .str (mk (lawBy marksC 109 l)), rfl, rfl, SqL.of hp, rfl, hq⟩
          · rw [decide_eq_false (fun z => hlt (Int.ofNat_le.mp z))]
            rw [if_neg hlt] at hq
            exact ⟨p, _, _, .str (mk (lawBy sixC 115 l)), rfl, rfl, SqL.of hp, rfl, hq⟩
      · rw [decide_eq_false (fun z => hs (V.str.inj z))]
        refine iteF (iteF ?_)
        have ho : ownT l ≠ true := by unfold ownT; rw [hn, decide_eq_false hs]; simp
        have tw := two ho
        refine ⟨_, rfl, a, l, 115, sixC, by rw [← e115]; rfl, .inl ⟨rfl, rfl⟩, ha1, hb, hl, fun H2 s2 => ?_⟩
        refine ⟨_, rfl, a, l, 109, marksC, by rw [← e109]; rfl, .inr ⟨rfl, rfl⟩, s2 _ _ ha1, hb, hl, fun H3 s3 => ?_⟩
        refine ⟨(by show 2 ≤ sizeLine; decide), fun p np => ?_⟩
        have hq := q _ (((s1.trans s2).trans s3).trans (same_new (o := .lst [.str (mk (lawBy sixC 115 l)), .str (mk (lawBy marksC 109 l))]) np))
        have hp : (upd H3 p (.lst [.str (mk (lawBy sixC 115 l)), .str (mk (lawBy marksC 109 l))])) p = some (.lst [.str (mk (lawBy sixC 115 l)), .str (mk (lawBy marksC 109 l))]) := upd_same
        generalize upd H3 p (.lst [.str (mk (lawBy sixC 115 l)), .str (mk (lawBy marksC 109 l))]) = H4 at hq hp ⊢
        rw [tw] at hq
        refine ⟨_, rfl, _, rfl, p, _, _, .str (mk (lawBy marksC 109 l)), rfl, rfl, SqL.of hp, rfl, _, rfl, szX w2, _, rfl, p, _, _, .str (mk (lawBy sixC 115 l)), rfl, rfl, SqL.of hp, rfl, _, rfl, szX w1, _, _, rfl, rfl, .inr ⟨_, rfl, ?_⟩⟩
        rw [mk_len, mk_len]
        by_cases hlt : (lawBy marksC 109 l).length ≤ (lawBy sixC 115 l).length
        · rw [decide_eq_true (Int.ofNat_le.mpr hlt)]
          rw [if_pos hlt] at hq
          exact ⟨p, _, _, .str (mk (lawBy marksC 109 l)), rfl, rfl, SqL.of hp, rfl, hq⟩
        · rw [decide_eq_false (fun z => hlt (Int.ofNat_le.mp z))]
          rw [if_neg hlt] at hq
          exact ⟨p, _, _, .str (mk (lawBy sixC 115 l)), rfl, rfl, SqL.of hp, rfl, hq⟩
    · have hv : textV l = .non := by
        unfold textV
        rw [if_neg hn]
      rw [hv]
      refine ⟨_, rfl, rfl, _, rfl, ?_⟩
      rw [decide_eq_true (rfl : V.non = V.non)]
      refine iteF (iteF ?_)
      have ho : ownT l ≠ true := by unfold ownT; rw [eq_false_of_ne_true hn]; simp
      have tw := two ho
      refine ⟨_, rfl, a, l, 115, sixC, by rw [← e115]; rfl, .inl ⟨rfl, rfl⟩, ha1, hb, hl, fun H2 s2 => ?_⟩
      refine ⟨_, rfl, a, l, 109, marksC, by rw [← e109]; rfl, .inr ⟨rfl, rfl⟩, s2 _ _ ha1, hb, hl, fun H3 s3 => ?_⟩
      refine ⟨(by show 2 ≤ sizeLine; decide), fun p np => ?_⟩
      have hq := q _ (((s1.trans s2).trans s3).trans (same_new (o := .lst [.str (mk (lawBy sixC 115 l)), .str (mk (lawBy marksC 109 l))]) np))
      have hp : (upd H3 p (.lst [.str (mk (lawBy sixC 115 l)), .str (mk (lawBy marksC 109 l))])) p = some (.lst [.str (mk (lawBy sixC 115 l)), .str (mk (lawBy marksC 109 l))]) := upd_same
      generalize upd H3 p (.lst [.str (mk (lawBy sixC 115 l)), .str (mk (lawBy marksC 109 l))]) = H4 at hq hp ⊢
      rw [tw] at hq
      refine ⟨_, rfl, _, rfl, p, _, _, .str (mk (lawBy marksC 109 l)), rfl, rfl, SqL.of hp, rfl, _, rfl, szX w2, _, rfl, p, _, _, .str (mk (lawBy sixC 115 l)), rfl, rfl, SqL.of hp, rfl, _, rfl, szX w1, _, _, rfl, rfl, .inr ⟨_, rfl, ?_⟩⟩
      rw [mk_len, mk_len]
      by_cases hlt : (lawBy marksC 109 l).length ≤ (lawBy sixC 115 l).length
      · rw [decide_eq_true (Int.ofNat_le.mpr hlt)]
        rw [if_pos hlt] at hq
        exact ⟨p, _, _, .str (mk (lawBy marksC 109 l)), rfl, rfl, SqL.of hp, rfl, hq⟩
      · rw [decide_eq_false (fun z => hlt (Int.ofNat_le.mp z))]
        rw [if_neg hlt] at hq
        exact ⟨p, _, _, .str (mk (lawBy sixC 115 l)), rfl, rfl, SqL.of hp, rfl, hq⟩
end
end FL


namespace FL
open PySem PySem.Spec PyProof.Rows L2
theorem cut_take (l : List Nat) (j : Nat) : cutV (iv l) none (some (j : Nat)) = iv (l.take j) := by
  unfold cutV
  rw [HT.sIx_none, HT.sIx_nat, iv_len, List.drop_zero, Nat.sub_zero]
  unfold iv
  rw [← List.map_take]
  congr 1
  by_cases h : j ≤ l.length
  · rw [Nat.min_eq_left h]
  · rw [Nat.min_eq_right (by omega), List.take_of_length_le (Nat.le_refl _), List.take_of_length_le (by omega)]
theorem rep_int (k n : Nat) : (List.replicate ((k : Nat) : Int).toNat [V.int (n : Nat)]).flatten = iv (List.replicate k n) := by
  rw [Int.toNat_natCast]
  induction k with
  | zero => rfl
  | succ k ih =>
    rw [List.replicate_succ, List.flatten_cons, ih, List.replicate_succ]
    rfl
structure SayOk (l : List Nat) : Prop where
  lt : ∀ n ∈ l, 32 ≤ n ∧ n ≤ 65535
  len : l.length ≤ 240
section
variable {P : Program} {w : World} {K : PySem.W.Frag} {mg : Str → Option Value} {base : Heap}
def spLaw (K : PySem.W.Frag) : Sp := fun vs H Q _ => ∃ (a : Addr) (ns : List Int), vs = [.ref a] ∧ SqL K H a (ns.map V.int) ∧ ns.length ≤ 63 ∧ ∀ H', Q (.bl true) H'
theorem scLaw : FnScope ["_law_script", "_law_k", "_law_source_here", "_law_row", "_law_some", "_law_handed", "_law_due", "_law_found"] ["_law_script"] (defScope sLaw) := ⟨rfl, rfl, rfl, by decide +kernel, rfl, by decide +kernel, by decide +kernel⟩
theorem ok_law {f : Addr} {fd : FuncData} {C : Addr} (F : Fun K "law" "law" sLaw f fd) (R1 : Ready P w K mg base 2 "_law_source" ["_law_script", "_law_k"] (spSource K)) (R2 : Ready P w K mg base 3 "_law_saying" ["_law_source_here"] (spLawSaying K))
    (R3 : Ready P w K mg base 2 "_law_next" ["_law_source_here", "_law_many"] spNextD) (R4 : Ready P w K mg base 4 "_law_coded" ["_law_row"] spLawCoded) (R5 : ReadyKX P w K mg base 6 "coded" ["saying"] (spCodedX K C) (fun fd => KBs K fd ["saying"]))
    (m_len : mg "len" = none) (m_range : mg "range" = none) (m_max : mg "max" = none) (m_min : mg "min" = none) (m_list : mg "list" = none) (m_isinstance : mg "isinstance" = none) (m_str : mg "str" = none) :
    FnOk P w K mg base CX0 7 f fd ["_law_script"] (spLaw K) := by
  obtain ⟨f1, fd1, g1, k1, b1, G1⟩ := R1
  obtain ⟨f2, fd2, g2, k2, b2, G2⟩ := R2
  obtain ⟨f3, fd3, g3, k3, b3, G3⟩ := R3
  obtain ⟨f4, fd4, g4, k4, b4, G4⟩ := R4
  obtain ⟨f5, fd5, g5, k5, b5, kb5, G5⟩ := R5
  refine F.ok scLaw (fun vs H Q E h => ?_) (fun cdv A outer s H vs Q E hr h => ?_)
  · obtain ⟨a, ns, rfl, _⟩ := h
    rfl
  · obtain ⟨a, ns, rfl, hS, hns, q⟩ := h
    have sc := scLaw
    refine ⟨_, pss_cons (ps_for PassesOwn.never rfl (pi_range1 (by rfl) m_range (pa_cons (pe_callB (call_max2 rfl) (by rfl) m_max (by decide +kernel) (pa_cons pe_int (pa_cons (pe_callB (call_min2 rfl) (by rfl) m_min (by decide +kernel) (pa_cons pe_int (pa_cons (pe_callB call_len_seq (by rfl) m_len PySem.boot_len (pa_cons (pv 0) pa_nil)) pa_nil))) pa_nil))) pa_nil)) (pg_name (i := 1) sc.nd rfl (.inl rfl))
        (pss_cons (ps_set (i := 2) sc.nd rfl (.inl rfl) (pe_call G1 (hr.mono (by decide)) (by rfl) g1 k1 b1 .nil pass0 (pa_cons (pv 0) (pa_cons (pv 1) pa_nil))))
          (pss_cons (ps_set (i := 3) sc.nd rfl (.inl rfl) (pe_call G2 (hr.mono (by decide)) (by rfl) g2 k2 b2 .nil pass0 (pa_cons (pv 2) pa_nil)))
          (pss_one (ps_for PassesOwn.never rfl (pi_list (pe_lst (pa_cons (pv 3) (pa_cons (pe_slice sl_list (pv 3) po_none (po_some (pe_op op_add pe_int (pe_call G3 (hr.mono (by decide)) (by rfl) g3 k3 b3 .nil pass0 (pa_cons (pv 2) (pa_cons pe_int pa_nil)))))) (pa_cons (pe_op op_cat (pe_op op_rep (pe_lst (pa_cons pe_int pa_nil)) (pe_call G3 (hr.mono (by decide)) (by rfl) g3 k3 b3 .nil pass0 (pa_cons (pv 2) (pa_cons pe_int pa_nil)))) (pe_slice sl_list (pv 3) po_none (po_some pe_int))) pa_nil))))) (pg_name (i := 4) sc.nd rfl (.inl rfl))
            (pss_cons (ps_set (i := 5) sc.nd rfl (.inl rfl) (pe_callTy call_list_of (by rfl) m_list (by decide +kernel) (pa_cons (pv 4) pa_nil)))
              (pss_cons (ps_set (i := 6) sc.nd rfl (.inl rfl) (pe_call G4 (hr.mono (by decide)) (by rfl) g4 k4 b4 .nil pass0 (pa_cons (pv 4) pa_nil)))
              (pss_cons (ps_set (i := 7) sc.nd rfl (.inl rfl) (pe_call G5 (hr.mono (by decide)) (by rfl) g5 k5 b5 .nil passL (pa_cons (pv 5) pa_nil)))
              (pss_one (ps_if (PW.pt (pw_or (pt_not (pt_val (pe_callB call_isi (by rfl) m_isinstance (by decide +kernel) (pa_cons (pv 7) (pa_cons (pe_bltn (v := .ty "str") (by rfl) m_str (by decide +kernel) rfl) pa_nil))))) (pw_or (pt_cmpR op_ne (pv 7) (pv 6) (nomark _)) (pw_or (pt_cmpR (op_neD hr.units) (pv 5) (pv 4) (nomark _)) (pw_or1 (pt_cmpR op_ne (pe_callN0 G5 (hr.mono (by decide)) (by rfl) g5 k5 kb5 passL (pk_cons (pv 4) pk_nil)) (pv 6) (nomark _)))))))
                (pss_one (ps_ret pe_bl))
                pss_nil))))))))))
      (pss_one (ps_ret pe_bl)), ?_⟩
    have hlen : (ns.map V.int).length = ns.length := List.length_map ..
    refine ⟨_, rfl, a, _, rfl, .inl hS, ?_⟩
    rw [hlen]
    refine ⟨_, _, rfl, _, _, rfl, ?_⟩
    generalize hM : (if (if (ns.length : Int) < 3 then (ns.length : Int) else 3) > 1 then (if (ns.length : Int) < 3 then (ns.length : Int) else 3) else 1) = M
    have hM0 : 0 ≤ M ∧ M ≤ 100 := by
      rw [← hM]
      constructor <;> (split <;> split <;> omega)
    refine ⟨M, rfl, by omega, by omega, ?_⟩
    refine for_it walk_range (fun i σ H' => ∃ y1 y2 y3 y4 y5 y6 y7, σ = [some (.ref a), y1, y2, y3, y4, y5, y6, y7] ∧ Same H H') ⟨none, none, none, none, none, none, none, rfl, Same.refl H⟩ (fun _ _ _ _ _ => trivial) (fun i x σ H1 H2 hi hp hy => ?_) (fun σ H1 hp => q H1)
    obtain ⟨y1, y2, y3, y4, y5, y6, y7, rfl, sm⟩ := hp
    obtain ⟨rfl, hxv⟩ := hy
    have hx' : x = .int (i : Nat) := by
      rw [hxv]
      exact congrArg V.int (Int.zero_add _)
    subst hx'
    refine ⟨_, rfl, _, rfl, a, ns, i, rfl, sm.seq hS, fun H3 sr s3 nsr hsr => ?_⟩
    have nsr0 : H sr = none := Same.free sm nsr
    refine ⟨_, rfl, sr, rfl, hsr, fun H4 p l d4 np hp hg hl => ?_⟩
    have hps : p ≠ sr := Src.ne hsr np
    have s4 : Same H H4 := same_drawn (sm.trans s3) nsr0 d4
    -- the list of the three
    refine ⟨_, rfl, _, rfl, _, rfl, sr, 14, rfl, by decide, by decide, d4.src, fun r1 H5 hr1 d5 => ?_⟩
    have hp5 : H5 p = some (.lst (iv l)) := d5.old _ _ hps hp
    refine ⟨_, _, rfl, rfl, _, rfl, p, _, rfl, SqL.of hp5, fun p1 np1 => ?_⟩
    rw [show (1 : Int) + ((r1 : Nat) : Int) = ((1 + r1 : Nat) : Int) by omega, cut_take]
    have s6 : Same H5 (upd H5 p1 (.lst (iv (l.take (1 + r1))))) := same_new np1
    have hp1 : (upd H5 p1 (.lst (iv (l.take (1 + r1))))) p1 = some (.lst (iv (l.take (1 + r1)))) := upd_same
    have hp1s : p1 ≠ sr := Src.ne d5.src np1
    have src6 : Src (upd H5 p1 (.lst (iv (l.take (1 + r1))))) sr := ((Drawn.refl d5.src).same s6).src
    generalize upd H5 p1 (.lst (iv (l.take (1 + r1)))) = H6 at s6 hp1 src6 ⊢
    refine ⟨(by show 1 ≤ sizeLine; decide), fun p2 np2 => ?_⟩
    have s7 : Same H6 (upd H6 p2 (.lst [.int 32])) := same_new np2
    have hp2 : (upd H6 p2 (.lst [.int 32])) p2 = some (.lst [.int 32]) := upd_same
    have hp2s : p2 ≠ sr := Src.ne src6 np2
    have src7 : Src (upd H6 p2 (.lst [.int 32])) sr := ((Drawn.refl src6).same s7).src
    generalize upd H6 p2 (.lst [.int 32]) = H7 at s7 hp2 src7 ⊢
    refine ⟨_, rfl, sr, 2, rfl, by decide, by decide, src7, fun r2 H8 hr2 d8 => ?_⟩
    have hp8 : H8 p = some (.lst (iv l)) := d8.old _ _ hps (s7 _ _ (s6 _ _ hp5))
    have hp18 : H8 p1 = some (.lst (iv (l.take (1 + r1)))) := d8.old _ _ hp1s (s7 _ _ hp1)
    have hp28 : H8 p2 = some (.lst [.int 32]) := d8.old _ _ hp2s hp2
    refine ⟨p2, ((r2 : Nat) : Int), _, rfl, rfl, hp28, by omega, by omega, (by show 1 * ((r2 : Nat) : Int).toNat ≤ sizeLine; rw [sizeLine_eq]; omega), fun p3 np3 => ?_⟩
    rw [show (V.int 32) = V.int ((32 : Nat) : Int) from rfl, rep_int]
    have s9 : Same H8 (upd H8 p3 (.lst (iv (List.replicate r2 32)))) := same_new np3
    have hp3 : (upd H8 p3 (.lst (iv (List.replicate r2 32)))) p3 = some (.lst (iv (List.replicate r2 32))) := upd_same
    generalize upd H8 p3 (.lst (iv (List.replicate r2 32))) = H9 at s9 hp3 ⊢
    refine ⟨_, rfl, _, rfl, p, _, rfl, SqL.of (s9 _ _ hp8), fun p4 np4 => ?_⟩
    rw [show (9 : Int) = ((9 : Nat) : Int) from rfl, cut_take]
    have s10 : Same H9 (upd H9 p4 (.lst (iv (l.take 9)))) := same_new np4
    have hp4 : (upd H9 p4 (.lst (iv (l.take 9)))) p4 = some (.lst (iv (l.take 9))) := upd_same
    generalize upd H9 p4 (.lst (iv (l.take 9))) = H10 at s10 hp4 ⊢
    refine ⟨p3, p4, _, _, rfl, rfl, s10 _ _ hp3, hp4, by rw [iv_len, iv_len, List.length_replicate, List.length_take, sizeLine_eq]; omega, fun p5 np5 => ?_⟩
    rw [← iv_app]
    have s11 : Same H10 (upd H10 p5 (.lst (iv (List.replicate r2 32 ++ l.take 9)))) := same_new np5
    have hp5' : (upd H10 p5 (.lst (iv (List.replicate r2 32 ++ l.take 9)))) p5 = some (.lst (iv (List.replicate r2 32 ++ l.take 9))) := upd_same
    generalize upd H10 p5 (.lst (iv (List.replicate r2 32 ++ l.take 9))) = H11 at s11 hp5' ⊢
    refine ⟨(by show 3 ≤ sizeLine; decide), fun pl npl => ?_⟩
    have s12 : Same H11 (upd H11 pl (.lst [.ref p, .ref p1, .ref p5])) := same_new npl
    have hpl : (upd H11 pl (.lst [.ref p, .ref p1, .ref p5])) pl = some (.lst [.ref p, .ref p1, .ref p5]) := upd_same
    generalize upd H11 pl (.lst [.ref p, .ref p1, .ref p5]) = H12 at s12 hpl ⊢
    have t : Same H8 H12 := ((s9.trans s10).trans s11).trans s12
    have sAll : Same H H12 := (same_drawn ((same_drawn s4 nsr0 d5).trans (s6.trans s7)) nsr0 d8).trans t
    have three : ∀ v ∈ [V.ref p, V.ref p1, V.ref p5], ∃ (b : Addr) (m : List Nat), v = .ref b ∧ H12 b = some (.lst (iv m)) ∧ SayOk m := fun v hv => by
      simp only [List.mem_cons, List.not_mem_nil, or_false] at hv
      rcases hv with rfl | rfl | rfl
      · exact ⟨p, l, rfl, t _ _ hp8, hg, by omega⟩
      · exact ⟨p1, _, rfl, t _ _ hp18, fun n hn => hg n (List.mem_of_mem_take hn), by rw [List.length_take]; omega⟩
      · refine ⟨p5, _, rfl, s12 _ _ hp5', fun n hn => ?_, by rw [List.length_append, List.length_replicate, List.length_take]; omega⟩
        rcases List.mem_append.mp hn with hn | hn
        · rw [(List.mem_replicate.mp hn).2]
          omega
        · exact hg n (List.mem_of_mem_take hn)
    refine ⟨pl, rfl, ⟨_, SqL.of hpl⟩, ?_⟩
    refine for_it (walk_list (K := K) (a := pl) (xs := [V.ref p, V.ref p1, V.ref p5])) (fun _ σ H' => ∃ y4 y5 y6 y7, σ = [some (.ref a), some (.int (i : Nat)), some (.ref sr), some (.ref p), y4, y5, y6, y7] ∧ Same H12 H') ⟨y4, y5, y6, y7, rfl, Same.refl H12⟩ (fun _ σ H' _ hp7 => let ⟨_, _, _, _, _, t7⟩ := hp7; SqL.of (t7 _ _ hpl)) (fun j x σ H7 H8 hj hp7 hy => ?_) (fun σ H7 hp7 => ?_)
    · obtain ⟨z4, z5, z6, z7, rfl, t7⟩ := hp7
      obtain ⟨rfl, hx⟩ := hy
      obtain ⟨b, m, rfl, hb12, hm⟩ := three x (List.mem_of_getElem? hx)
      have hb := t7 _ _ hb12
      refine ⟨_, rfl, b, _, rfl, .inl (SqL.of hb), fun ha nha => ?_⟩
      have u1 : Same H8 (upd H8 ha (.lst (iv m))) := same_new nha
      have hha : (upd H8 ha (.lst (iv m))) ha = some (.lst (iv m)) := upd_same
      generalize upd H8 ha (.lst (iv m)) = G1 at u1 hha ⊢
      have gm : GS m := ⟨hm.lt, by have := hm.len; omega⟩
      have hml := hm.len
      refine ⟨_, rfl, b, m, rfl, u1 _ _ hb, hm.lt, by omega, fun G2 u2 => ?_⟩
      refine ⟨_, rfl, _, rfl, .inl ⟨ha, m, rfl, u2 _ _ hha, gm, by omega, codedC_bnd (by omega), fun G3 u3 => ?_⟩⟩
      refine ⟨_, rfl, _, _, .type "str", .type "str", true, rfl, ClsV.ty "str", .base (.str _), kit_ty (by decide +kernel), _, rfl, iteF ?_⟩
      have hb3 := u3 _ _ (u2 _ _ (u1 _ _ hb))
      have hh3 := u3 _ _ (u2 _ _ hha)
      refine ⟨_, rfl, _, rfl, rfl, _, rfl, ?_⟩
      refine iteNS rfl ?_
      refine ⟨_, rfl, _, rfl, _, _, dpl hh3, dpl hb3, shaped_ints _, shaped_ints _, _, rfl, ?_⟩
      rw [eqv_ints, decide_eq_true rfl]
      refine iteF ?_
      refine ⟨_, rfl, rfl, _, rfl, .inl ⟨b, m, rfl, hb3, gm, by omega, codedC_bnd (by omega), fun G4 u4 => ?_⟩⟩
      refine ⟨_, rfl, rfl, _, rfl, ?_⟩
      refine iteNS rfl ?_
      exact ⟨_, _, _, _, rfl, (((t7.trans u1).trans u2).trans u3).trans u4⟩
    · obtain ⟨z4, z5, z6, z7, rfl, t7⟩ := hp7
      exact ⟨_, _, _, _, _, _, _, rfl, sAll.trans t7⟩
end
end FL

namespace FL
open PySem PySem.Spec PyProof.Rows L2
theorem all_mk {l : PySem.W.OpenLaw} {w : World} {K : PySem.W.Frag} {h : Heap} {mg : Str → Option Value} {fa f1 f2 f3 f4 f5 f6 f7 f8 f9 f10 f11 f12 f13 f14 f15 f16 f17 f18 f19 f20 f21 f22 f23 f24 f25 f26 f27 f28 f29 f30 : Addr} (X : K.In h) (G : h.Ns mainGlobals mg) (hfa : mg "law" = some (.ref fa))
    {od1 an1 od2 an2 od3 an3 od4 an4 od5 an5 od6 an6 od7 an7 od8 an8 od9 an9 od10 an10 od11 an11 od12 an12 od13 an13 od14 an14 od15 an15 od16 an16 od17 an17 od18 an18 od19 an19 od20 an20 od21 an21 od22 an22 od23 an23 od24 an24 od25 an25 od26 an26 od27 an27 od28 an28 od29 an29 od30 an30 : Option Addr} {sl1 sl2 sl3 sl4 sl5 sl6 sl7 sl8 sl9 sl10 sl11 sl12 sl13 sl14 sl15 sl16 sl17 sl18 sl19 sl20 sl21 sl22 sl23 sl24 sl25 sl26 sl27 sl28 sl29 sl30 : Array (Option Value)} {oc1 kV1 dc1 pm1 cd1 ct1 oc2 kV2 dc2 pm2 cd2 ct2 oc3 kV3 dc3 pm3 cd3 ct3 oc4 kV4 dc4 pm4 cd4 ct4 oc5 kV5 dc5 pm5 cd5 ct5 oc6 kV6 dc6 pm6 cd6 ct6 oc7 kV7 dc7 pm7 cd7 ct7 oc8 kV8 dc8 pm8 cd8 ct8 oc9 kV9 dc9 pm9 cd9 ct9 oc10 kV10 dc10 pm10 cd10 ct10 oc11 kV11 dc11 pm11 cd11 ct11 oc12 kV12 dc12 pm12 cd12 ct12 oc13 kV13 dc13 pm13 cd13 ct13 oc14 kV14 dc14 pm14 cd14 ct14 oc15 kV15 dc15 pm15 cd15 ct15 oc16 kV16 dc16 pm16 cd16 ct16 oc17 kV17 dc17 pm17 cd17 ct17 oc18 kV18 dc18 pm18 cd18 ct18 oc19 kV19 dc19 pm19 cd19 ct19 oc20 kV20 dc20 pm20 cd20 ct20 oc21 kV21 dc21 pm21 cd21 ct21 oc22 kV22 dc22 pm22 cd22 ct22 oc23 kV23 dc23 pm23 cd23 ct23 oc24 kV24 dc24 pm24 cd24 ct24 oc25 kV25 dc25 pm25 cd25 ct25 oc26 kV26 dc26 pm26 cd26 ct26 oc27 kV27 dc27 pm27 cd27 ct27 oc28 kV28 dc28 pm28 cd28 ct28 oc29 kV29 dc29 pm29 cd29 ct29 oc30 kV30 dc30 pm30 cd30 ct30 : Value} {tk1 tk2 tk3 tk4 tk5 tk6 tk7 : Tok}
    {CL fL TL : Addr} {odL anL odTL : Option Addr} {slL slTL : Array (Option Value)} {ocL kVL dcL pmL cdL ctL ocTL : Value} {tkL : Tok} {nTL : Nat}
    {C fC TC NC : Addr} {nmC qC : Str} {bsC bmC : List Value} {snC : List Str} {subC : List Value} {abC : Bool} {colC : Option Bool} {ddC odC anC odTC : Option Addr} {m0C m1C m2C m3C m5C : Option Value} {slC slTC : Array (Option Value)} {ocC kVC dcC pmC cdC ctC ocTC : Value} {tkC : Tok} {nTC : Nat}
    (gL : PySem.W.nsIn K mainGlobals "LetterError" = some (some (.ref CL)))
    (iL : PySem.W.findIn K (.ref CL) "__init__" = some (some (.ref fL)))
    (lL : K.lookup fL = some ⟨ocL, odL, .func (PySem.W.fnOf "__init__" "LetterError.__init__" (defArgs sLE) (defBody sLE) (defScope sLE) (.ref TL) kVL dcL pmL anL cdL ctL), slL⟩)
    (cL : PySem.W.codeIn K cdL "LetterError.__init__" = true)
    (kL : PySem.W.keepIn K (.ref fL) = true)
    (dL : K.lookup TL = some ⟨ocTL, odTL, .seq #[.str ("" : Str) tkL] nTL, slTL⟩)
    (gaL : PySem.W.specialIn K (.ref CL) "__getattribute__" = some (some (.builtin "type.__getattribute__")))
    (rdL : PySem.W.readsIn K CL (.type "type") = true)
    (atL : PySem.W.findCls K (.ref CL) (.type "type") "__init__" = some (.val (.ref fL)))
    (vV : PySem.W.findCls K (.type "ValueError") (.type "type") "__init__" = some (.val (.builtin "ValueError.__init__")))
    (zVE : PySem.W.nsIn K mainGlobals "ValueError" = some none)
    (exL : PySem.W.subIn K (.ref CL) (.type "BaseException") = some true)
    (hdL : PySem.W.hasDictIn K CL = true)
    (tyL : PySem.W.typeIn K (.ref CL) = some (.type "type"))
    (tifL : PySem.W.typeIn K (.ref fL) = some (.type "function"))
    (gC : PySem.W.nsIn K mainGlobals "NoSaying" = some (some (.ref C)))
    (xC : K.lookup C = some (excClassObj nmC qC C NC bsC bmC true snC subC abC colC ddC m0C m1C m2C m3C m5C "ValueError.__new__"))
    (rvC : PySem.HandSPX.refsVE bmC = true)
    (saC : PySem.W.findIn K (.ref C) "__setattr__" = some (some (.builtin "object.__setattr__")))
    (exC : PySem.W.subIn K (.ref C) (.type "BaseException") = some true)
    (tyC : PySem.W.typeIn K (.ref C) = some (.type "type"))
    (kcC : PySem.W.keepIn K (.ref C) = true)
    (noC : PySem.W.findIn K (.ref C) "at" = some none)
    (iC : PySem.W.findIn K (.ref C) "__init__" = some (some (.ref fC)))
    (tiC : PySem.W.typeIn K (.ref fC) = some (.type "function"))
    (lC : K.lookup fC = some ⟨ocC, odC, .func (PySem.W.fnOf "__init__" "NoSaying.__init__" (defArgs sNS) (defBody sNS) (defScope sNS) (.ref TC) kVC dcC pmC anC cdC ctC), slC⟩)
    (cC : PySem.W.codeIn K cdC "NoSaying.__init__" = true)
    (kC : PySem.W.keepIn K (.ref fC) = true)
    (dC : K.lookup TC = some ⟨ocTC, odTC, .seq #[.int 0 tkC] nTC, slTC⟩)
    (hgC : PySem.W.findIn K (.ref C) "__getattribute__" = some (some (.builtin "BaseException.__getattribute__")))
    (hkC : PySem.W.findIn K (.ref C) "__getattr__" = some none)
    (hdC : PySem.W.hasDictIn K C = true)
    (haC : PySem.W.findIn K (.ref C) "__class__" = some (some (.builtin "object.__class__")))
    (hmC : PySem.W.mroIn K C (.type "object") = some true)
    (suC : PySem.W.subIn K (.ref C) (.ref CL) = some true)
    (hn0 : PySem.W.specialIn K (.builtin "object.__class__") "__get__" = some (some (.builtin "getset_descriptor.__get__")))
    (ht0 : PySem.W.takesIn K (.builtin "object.__class__") = some true)
    (a1 : PySem.W.nsIn K mainGlobals "is_letter" = some (some (.ref f1))) (l1 : K.lookup f1 = some ⟨oc1, od1, .func (PySem.W.fnOf "is_letter" "is_letter" (defArgs sIsLetter) (defBody sIsLetter) (defScope sIsLetter) .none kV1 dc1 pm1 an1 cd1 ct1), sl1⟩) (c1 : PySem.W.codeIn K cd1 "is_letter" = true) (k1 : PySem.W.keepIn K (.ref f1) = true)
    (a2 : PySem.W.nsIn K mainGlobals "is_figure" = some (some (.ref f2))) (l2 : K.lookup f2 = some ⟨oc2, od2, .func (PySem.W.fnOf "is_figure" "is_figure" (defArgs sIsFigure) (defBody sIsFigure) (defScope sIsFigure) .none kV2 dc2 pm2 an2 cd2 ct2), sl2⟩) (c2 : PySem.W.codeIn K cd2 "is_figure" = true) (k2 : PySem.W.keepIn K (.ref f2) = true)
    (a3 : PySem.W.nsIn K mainGlobals "is_whole" = some (some (.ref f3))) (l3 : K.lookup f3 = some ⟨oc3, od3, .func (PySem.W.fnOf "is_whole" "is_whole" (defArgs sIsWhole) (defBody sIsWhole) (defScope sIsWhole) .none kV3 dc3 pm3 an3 cd3 ct3), sl3⟩) (c3 : PySem.W.codeIn K cd3 "is_whole" = true) (k3 : PySem.W.keepIn K (.ref f3) = true)
    (a4 : PySem.W.nsIn K mainGlobals "is_numbered" = some (some (.ref f4))) (l4 : K.lookup f4 = some ⟨oc4, od4, .func (PySem.W.fnOf "is_numbered" "is_numbered" (defArgs sIsNumbered) (defBody sIsNumbered) (defScope sIsNumbered) .none kV4 dc4 pm4 an4 cd4 ct4), sl4⟩) (c4 : PySem.W.codeIn K cd4 "is_numbered" = true) (k4 : PySem.W.keepIn K (.ref f4) = true)
    (a5 : PySem.W.nsIn K mainGlobals "text_of" = some (some (.ref f5))) (l5 : K.lookup f5 = some ⟨oc5, od5, .func (PySem.W.fnOf "text_of" "text_of" (defArgs sTextOf) (defBody sTextOf) (defScope sTextOf) .none kV5 dc5 pm5 an5 cd5 ct5), sl5⟩) (c5 : PySem.W.codeIn K cd5 "text_of" = true) (k5 : PySem.W.keepIn K (.ref f5) = true)
    (a6 : PySem.W.nsIn K mainGlobals "_sign_of" = some (some (.ref f6))) (l6 : K.lookup f6 = some ⟨oc6, od6, .func (PySem.W.fnOf "_sign_of" "_sign_of" (defArgs sSignOf) (defBody sSignOf) (defScope sSignOf) .none kV6 dc6 pm6 an6 cd6 ct6), sl6⟩) (c6 : PySem.W.codeIn K cd6 "_sign_of" = true) (k6 : PySem.W.keepIn K (.ref f6) = true)
    (a7 : PySem.W.nsIn K mainGlobals "sixes_of" = some (some (.ref f7))) (l7 : K.lookup f7 = some ⟨oc7, od7, .func (PySem.W.fnOf "sixes_of" "sixes_of" (defArgs sSixesOf) (defBody sSixesOf) (defScope sSixesOf) .none kV7 dc7 pm7 an7 cd7 ct7), sl7⟩) (c7 : PySem.W.codeIn K cd7 "sixes_of" = true) (k7 : PySem.W.keepIn K (.ref f7) = true)
    (a8 : PySem.W.nsIn K mainGlobals "by_sixteen" = some (some (.ref f8))) (l8 : K.lookup f8 = some ⟨oc8, od8, .func (PySem.W.fnOf "by_sixteen" "by_sixteen" (defArgs sBySixteen) (defBody sBySixteen) (defScope sBySixteen) .none kV8 dc8 pm8 an8 cd8 ct8), sl8⟩) (c8 : PySem.W.codeIn K cd8 "by_sixteen" = true) (k8 : PySem.W.keepIn K (.ref f8) = true)
    (a9 : PySem.W.nsIn K mainGlobals "_four_of" = some (some (.ref f9))) (l9 : K.lookup f9 = some ⟨oc9, od9, .func (PySem.W.fnOf "_four_of" "_four_of" (defArgs sFourOf) (defBody sFourOf) (defScope sFourOf) .none kV9 dc9 pm9 an9 cd9 ct9), sl9⟩) (c9 : PySem.W.codeIn K cd9 "_four_of" = true) (k9 : PySem.W.keepIn K (.ref f9) = true)
    (a10 : PySem.W.nsIn K mainGlobals "coded" = some (some (.ref f10))) (l10 : K.lookup f10 = some ⟨oc10, od10, .func (PySem.W.fnOf "coded" "coded" (defArgs sCoded) (defBody sCoded) (defScope sCoded) .none kV10 dc10 pm10 an10 cd10 ct10), sl10⟩) (c10 : PySem.W.codeIn K cd10 "coded" = true) (k10 : PySem.W.keepIn K (.ref f10) = true)
    (a11 : PySem.W.nsIn K mainGlobals "is_saying" = some (some (.ref f11))) (l11 : K.lookup f11 = some ⟨oc11, od11, .func (PySem.W.fnOf "is_saying" "is_saying" (defArgs sIsSaying) (defBody sIsSaying) (defScope sIsSaying) .none kV11 dc11 pm11 an11 cd11 ct11), sl11⟩) (c11 : PySem.W.codeIn K cd11 "is_saying" = true) (k11 : PySem.W.keepIn K (.ref f11) = true)
    (a12 : PySem.W.nsIn K mainGlobals "own_text" = some (some (.ref f12))) (l12 : K.lookup f12 = some ⟨oc12, od12, .func (PySem.W.fnOf "own_text" "own_text" (defArgs sOwnText) (defBody sOwnText) (defScope sOwnText) .none kV12 dc12 pm12 an12 cd12 ct12), sl12⟩) (c12 : PySem.W.codeIn K cd12 "own_text" = true) (k12 : PySem.W.keepIn K (.ref f12) = true)
    (a13 : PySem.W.nsIn K mainGlobals "_check_saying" = some (some (.ref f13))) (l13 : K.lookup f13 = some ⟨oc13, od13, .func (PySem.W.fnOf "_check_saying" "_check_saying" (defArgs sCheckSaying) (defBody sCheckSaying) (defScope sCheckSaying) .none kV13 dc13 pm13 an13 cd13 ct13), sl13⟩) (c13 : PySem.W.codeIn K cd13 "_check_saying" = true) (k13 : PySem.W.keepIn K (.ref f13) = true)
    (a14 : PySem.W.nsIn K mainGlobals "_is_sign" = some (some (.ref f14))) (l14 : K.lookup f14 = some ⟨oc14, od14, .func (PySem.W.fnOf "_is_sign" "_is_sign" (defArgs sIsSaySign) (defBody sIsSaySign) (defScope sIsSaySign) .none kV14 dc14 pm14 an14 cd14 ct14), sl14⟩) (c14 : PySem.W.codeIn K cd14 "_is_sign" = true) (k14 : PySem.W.keepIn K (.ref f14) = true)
    (a15 : PySem.W.nsIn K mainGlobals "_octets_of_sign" = some (some (.ref f15))) (l15 : K.lookup f15 = some ⟨oc15, od15, .func (PySem.W.fnOf "_octets_of_sign" "_octets_of_sign" (defArgs sOctetsOfSign) (defBody sOctetsOfSign) (defScope sOctetsOfSign) .none kV15 dc15 pm15 an15 cd15 ct15), sl15⟩) (c15 : PySem.W.codeIn K cd15 "_octets_of_sign" = true) (k15 : PySem.W.keepIn K (.ref f15) = true)
    (a16 : PySem.W.nsIn K mainGlobals "_by_words" = some (some (.ref f16))) (l16 : K.lookup f16 = some ⟨oc16, od16, .func (PySem.W.fnOf "_by_words" "_by_words" (defArgs sByWords) (defBody sByWords) (defScope sByWords) .none kV16 dc16 pm16 an16 cd16 ct16), sl16⟩) (c16 : PySem.W.codeIn K cd16 "_by_words" = true) (k16 : PySem.W.keepIn K (.ref f16) = true)
    (a17 : PySem.W.nsIn K mainGlobals "_marks_of" = some (some (.ref f17))) (l17 : K.lookup f17 = some ⟨oc17, od17, .func (PySem.W.fnOf "_marks_of" "_marks_of" (defArgs sMarksOf) (defBody sMarksOf) (defScope sMarksOf) .none kV17 dc17 pm17 an17 cd17 ct17), sl17⟩) (c17 : PySem.W.codeIn K cd17 "_marks_of" = true) (k17 : PySem.W.keepIn K (.ref f17) = true)
    (a18 : PySem.W.nsIn K mainGlobals "_mark_of" = some (some (.ref f18))) (l18 : K.lookup f18 = some ⟨oc18, od18, .func (PySem.W.fnOf "_mark_of" "_mark_of" (defArgs sMarkOf) (defBody sMarkOf) (defScope sMarkOf) .none kV18 dc18 pm18 an18 cd18 ct18), sl18⟩) (c18 : PySem.W.codeIn K cd18 "_mark_of" = true) (k18 : PySem.W.keepIn K (.ref f18) = true)
    (a19 : PySem.W.nsIn K mainGlobals "_law_cell_at" = some (some (.ref f19))) (l19 : K.lookup f19 = some ⟨oc19, od19, .func (PySem.W.fnOf "_law_cell_at" "_law_cell_at" (defArgs sCellAt) (defBody sCellAt) (defScope sCellAt) .none kV19 dc19 pm19 an19 cd19 ct19), sl19⟩) (c19 : PySem.W.codeIn K cd19 "_law_cell_at" = true) (k19 : PySem.W.keepIn K (.ref f19) = true)
    (a20 : PySem.W.nsIn K mainGlobals "_law_mixed" = some (some (.ref f20))) (l20 : K.lookup f20 = some ⟨oc20, od20, .func (PySem.W.fnOf "_law_mixed" "_law_mixed" (defArgs sMixed) (defBody sMixed) (defScope sMixed) .none kV20 dc20 pm20 an20 cd20 ct20), sl20⟩) (c20 : PySem.W.codeIn K cd20 "_law_mixed" = true) (k20 : PySem.W.keepIn K (.ref f20) = true)
    (a21 : PySem.W.nsIn K mainGlobals "_law_source" = some (some (.ref f21))) (l21 : K.lookup f21 = some ⟨oc21, od21, .func (PySem.W.fnOf "_law_source" "_law_source" (defArgs sSource) (defBody sSource) (defScope sSource) .none kV21 dc21 pm21 an21 cd21 ct21), sl21⟩) (c21 : PySem.W.codeIn K cd21 "_law_source" = true) (k21 : PySem.W.keepIn K (.ref f21) = true)
    (a22 : PySem.W.nsIn K mainGlobals "_law_next" = some (some (.ref f22))) (l22 : K.lookup f22 = some ⟨oc22, od22, .func (PySem.W.fnOf "_law_next" "_law_next" (defArgs sNext) (defBody sNext) (defScope sNext) .none kV22 dc22 pm22 an22 cd22 ct22), sl22⟩) (c22 : PySem.W.codeIn K cd22 "_law_next" = true) (k22 : PySem.W.keepIn K (.ref f22) = true)
    (a23 : PySem.W.nsIn K mainGlobals "_law_saying" = some (some (.ref f23))) (l23 : K.lookup f23 = some ⟨oc23, od23, .func (PySem.W.fnOf "_law_saying" "_law_saying" (defArgs sLawSaying) (defBody sLawSaying) (defScope sLawSaying) .none kV23 dc23 pm23 an23 cd23 ct23), sl23⟩) (c23 : PySem.W.codeIn K cd23 "_law_saying" = true) (k23 : PySem.W.keepIn K (.ref f23) = true)
    (a24 : PySem.W.nsIn K mainGlobals "_law_octets_of" = some (some (.ref f24))) (l24 : K.lookup f24 = some ⟨oc24, od24, .func (PySem.W.fnOf "_law_octets_of" "_law_octets_of" (defArgs sLawOctetsOf) (defBody sLawOctetsOf) (defScope sLawOctetsOf) .none kV24 dc24 pm24 an24 cd24 ct24), sl24⟩) (c24 : PySem.W.codeIn K cd24 "_law_octets_of" = true) (k24 : PySem.W.keepIn K (.ref f24) = true)
    (a25 : PySem.W.nsIn K mainGlobals "_law_sixes" = some (some (.ref f25))) (l25 : K.lookup f25 = some ⟨oc25, od25, .func (PySem.W.fnOf "_law_sixes" "_law_sixes" (defArgs sLawSixes) (defBody sLawSixes) (defScope sLawSixes) .none kV25 dc25 pm25 an25 cd25 ct25), sl25⟩) (c25 : PySem.W.codeIn K cd25 "_law_sixes" = true) (k25 : PySem.W.keepIn K (.ref f25) = true)
    (a26 : PySem.W.nsIn K mainGlobals "_law_text" = some (some (.ref f26))) (l26 : K.lookup f26 = some ⟨oc26, od26, .func (PySem.W.fnOf "_law_text" "_law_text" (defArgs sLawText) (defBody sLawText) (defScope sLawText) .none kV26 dc26 pm26 an26 cd26 ct26), sl26⟩) (c26 : PySem.W.codeIn K cd26 "_law_text" = true) (k26 : PySem.W.keepIn K (.ref f26) = true)
    (a27 : PySem.W.nsIn K mainGlobals "_law_word" = some (some (.ref f27))) (l27 : K.lookup f27 = some ⟨oc27, od27, .func (PySem.W.fnOf "_law_word" "_law_word" (defArgs sLawWord) (defBody sLawWord) (defScope sLawWord) .none kV27 dc27 pm27 an27 cd27 ct27), sl27⟩) (c27 : PySem.W.codeIn K cd27 "_law_word" = true) (k27 : PySem.W.keepIn K (.ref f27) = true)
    (a28 : PySem.W.nsIn K mainGlobals "_law_words_by" = some (some (.ref f28))) (l28 : K.lookup f28 = some ⟨oc28, od28, .func (PySem.W.fnOf "_law_words_by" "_law_words_by" (defArgs sLawWordsBy) (defBody sLawWordsBy) (defScope sLawWordsBy) .none kV28 dc28 pm28 an28 cd28 ct28), sl28⟩) (c28 : PySem.W.codeIn K cd28 "_law_words_by" = true) (k28 : PySem.W.keepIn K (.ref f28) = true)
    (a29 : PySem.W.nsIn K mainGlobals "_law_coded" = some (some (.ref f29))) (l29 : K.lookup f29 = some ⟨oc29, od29, .func (PySem.W.fnOf "_law_coded" "_law_coded" (defArgs sLawCoded) (defBody sLawCoded) (defScope sLawCoded) .none kV29 dc29 pm29 an29 cd29 ct29), sl29⟩) (c29 : PySem.W.codeIn K cd29 "_law_coded" = true) (k29 : PySem.W.keepIn K (.ref f29) = true)
    (a30 : PySem.W.nsIn K mainGlobals "law" = some (some (.ref f30))) (l30 : K.lookup f30 = some ⟨oc30, od30, .func (PySem.W.fnOf "law" "law" (defArgs sLaw) (defBody sLaw) (defScope sLaw) .none kV30 dc30 pm30 an30 cd30 ct30), sl30⟩) (c30 : PySem.W.codeIn K cd30 "law" = true) (k30 : PySem.W.keepIn K (.ref f30) = true)
    (z1 : PySem.W.nsIn K mainGlobals "isinstance" = some none) (z2 : PySem.W.nsIn K mainGlobals "int" = some none) (z3 : PySem.W.nsIn K mainGlobals "bool" = some none) (z4 : PySem.W.nsIn K mainGlobals "str" = some none) (z5 : PySem.W.nsIn K mainGlobals "list" = some none) (z6 : PySem.W.nsIn K mainGlobals "all" = some none) (z7 : PySem.W.nsIn K mainGlobals "len" = some none) (z8 : PySem.W.nsIn K mainGlobals "range" = some none) (z9 : PySem.W.nsIn K mainGlobals "max" = some none) (z10 : PySem.W.nsIn K mainGlobals "min" = some none) (v1 : PySem.W.nsIn K mainGlobals "BLANK" = some (some (.int 32 tk1))) (v2 : PySem.W.nsIn K mainGlobals "PERCENT" = some (some (.int 37 tk2))) (v3 : PySem.W.nsIn K mainGlobals "LINE_FEED" = some (some (.int 10 tk3))) (v4 : PySem.W.nsIn K mainGlobals "GREATEST_SIGN" = some (some (.int 65535 tk4))) (v5 : PySem.W.nsIn K mainGlobals "WORD_SIZE" = some (some (.int 60 tk5))) (v6 : PySem.W.nsIn K mainGlobals "SIGNS" = some (some (.str SIGS tk6))) (v7 : PySem.W.nsIn K mainGlobals "SIXES" = some (some (.str SIXS tk7))) :
    ∃ fd : FuncData, (∀ (s : Shared) (v : Value), BindsTo s fd ⟨[v], []⟩ [("_law_script", v)]) ∧ ∀ base : Heap, K.In base → base.Ns mainGlobals mg → FnOk l.prog w K mg base CX0 7 fa fd ["_law_script"] (spLaw K) := by
  have e := hfa.symm.trans (PySem.W.mg_of X G a30)
  cases e
  have m_ValueError : mg "ValueError" = none := PySem.W.mg_none_of X G zVE
  have m_LetterError := PySem.W.mg_of X G gL
  have FL : FunA K "LetterError.__init__" sLE [.str ""] fL _ := ⟨⟨_, _, _, _, _, _, _, _, _, _, rfl, lL, cL, .inr ⟨by simp, TL, _, [.str ("" : Str) tkL], nTL, rfl, dL, rfl, .cons ⟨tkL, rfl⟩ .nil⟩, .inl rfl⟩, kL⟩
  have TLc : ClsFn K CL fL := ⟨gaL, rdL, atL, kL⟩
  have m_NoSaying := PySem.W.mg_of X G gC
  have FC : FunA K "NoSaying.__init__" sNS [.int 0] fC _ := ⟨⟨_, _, _, _, _, _, _, _, _, _, rfl, lC, cC, .inr ⟨by simp, TC, _, [.int 0 tkC], nTC, rfl, dC, rfl, .cons ⟨tkC, rfl⟩ .nil⟩, .inl rfl⟩, kC⟩
  have OC : OexC K C := ⟨⟨nmC, qC, NC, bsC, bmC, snC, subC, abC, colC, ddC, m0C, m1C, m2C, m3C, m5C, xC, rvC⟩, saC, exC, tyC, kcC⟩
  have ECC : ExcC K C := ⟨hgC, hkC, exC, hdC, haC, hn0, ht0, hmC⟩
  have teC : PySem.W.exmOne K (.ref C) (.ref CL) = some true := PySem.W.exm_ref exL hdL tyL suC
  have XFC : XfC K C := ⟨hgC, hkC, exC, hdC⟩
  have A1 : FnAt K mg "is_letter" sIsLetter := ⟨f1, _, fun_mk (st := sIsLetter) l1 c1 k1, PySem.W.mg_of X G a1⟩
  have A2 : FnAt K mg "is_figure" sIsFigure := ⟨f2, _, fun_mk (st := sIsFigure) l2 c2 k2, PySem.W.mg_of X G a2⟩
  have A3 : FnAt K mg "is_whole" sIsWhole := ⟨f3, _, fun_mk (st := sIsWhole) l3 c3 k3, PySem.W.mg_of X G a3⟩
  have A4 : FnAt K mg "is_numbered" sIsNumbered := ⟨f4, _, fun_mk (st := sIsNumbered) l4 c4 k4, PySem.W.mg_of X G a4⟩
  have A5 : FnAt K mg "text_of" sTextOf := ⟨f5, _, fun_mk (st := sTextOf) l5 c5 k5, PySem.W.mg_of X G a5⟩
  have A6 : FnAt K mg "_sign_of" sSignOf := ⟨f6, _, fun_mk (st := sSignOf) l6 c6 k6, PySem.W.mg_of X G a6⟩
  have A7 : FnAt K mg "sixes_of" sSixesOf := ⟨f7, _, fun_mk (st := sSixesOf) l7 c7 k7, PySem.W.mg_of X G a7⟩
  have A8 : FnAt K mg "by_sixteen" sBySixteen := ⟨f8, _, fun_mk (st := sBySixteen) l8 c8 k8, PySem.W.mg_of X G a8⟩
  have A9 : FnAt K mg "_four_of" sFourOf := ⟨f9, _, fun_mk (st := sFourOf) l9 c9 k9, PySem.W.mg_of X G a9⟩
  have A10 : FnAt K mg "coded" sCoded := ⟨f10, _, fun_mk (st := sCoded) l10 c10 k10, PySem.W.mg_of X G a10⟩
  have A11 : FnAt K mg "is_saying" sIsSaying := ⟨f11, _, fun_mk (st := sIsSaying) l11 c11 k11, PySem.W.mg_of X G a11⟩
  have A12 : FnAt K mg "own_text" sOwnText := ⟨f12, _, fun_mk (st := sOwnText) l12 c12 k12, PySem.W.mg_of X G a12⟩
  have A13 : FnAt K mg "_check_saying" sCheckSaying := ⟨f13, _, fun_mk (st := sCheckSaying) l13 c13 k13, PySem.W.mg_of X G a13⟩
  have A14 : FnAt K mg "_is_sign" sIsSaySign := ⟨f14, _, fun_mk (st := sIsSaySign) l14 c14 k14, PySem.W.mg_of X G a14⟩
  have A15 : FnAt K mg "_octets_of_sign" sOctetsOfSign := ⟨f15, _, fun_mk (st := sOctetsOfSign) l15 c15 k15, PySem.W.mg_of X G a15⟩
  have A16 : FnAt K mg "_by_words" sByWords := ⟨f16, _, fun_mk (st := sByWords) l16 c16 k16, PySem.W.mg_of X G a16⟩
  have A17 : FnAt K mg "_marks_of" sMarksOf := ⟨f17, _, fun_mk (st := sMarksOf) l17 c17 k17, PySem.W.mg_of X G a17⟩
  have A18 : FnAt K mg "_mark_of" sMarkOf := ⟨f18, _, fun_mk (st := sMarkOf) l18 c18 k18, PySem.W.mg_of X G a18⟩
  have A19 : FnAt K mg "_law_cell_at" sCellAt := ⟨f19, _, fun_mk (st := sCellAt) l19 c19 k19, PySem.W.mg_of X G a19⟩
  have A20 : FnAt K mg "_law_mixed" sMixed := ⟨f20, _, fun_mk (st := sMixed) l20 c20 k20, PySem.W.mg_of X G a20⟩
  have A21 : FnAt K mg "_law_source" sSource := ⟨f21, _, fun_mk (st := sSource) l21 c21 k21, PySem.W.mg_of X G a21⟩
  have A22 : FnAt K mg "_law_next" sNext := ⟨f22, _, fun_mk (st := sNext) l22 c22 k22, PySem.W.mg_of X G a22⟩
  have A23 : FnAt K mg "_law_saying" sLawSaying := ⟨f23, _, fun_mk (st := sLawSaying) l23 c23 k23, PySem.W.mg_of X G a23⟩
  have A24 : FnAt K mg "_law_octets_of" sLawOctetsOf := ⟨f24, _, fun_mk (st := sLawOctetsOf) l24 c24 k24, PySem.W.mg_of X G a24⟩
  have A25 : FnAt K mg "_law_sixes" sLawSixes := ⟨f25, _, fun_mk (st := sLawSixes) l25 c25 k25, PySem.W.mg_of X G a25⟩
  have A26 : FnAt K mg "_law_text" sLawText := ⟨f26, _, fun_mk (st := sLawText) l26 c26 k26, PySem.W.mg_of X G a26⟩
  have A27 : FnAt K mg "_law_word" sLawWord := ⟨f27, _, fun_mk (st := sLawWord) l27 c27 k27, PySem.W.mg_of X G a27⟩
  have A28 : FnAt K mg "_law_words_by" sLawWordsBy := ⟨f28, _, fun_mk (st := sLawWordsBy) l28 c28 k28, PySem.W.mg_of X G a28⟩
  have A29 : FnAt K mg "_law_coded" sLawCoded := ⟨f29, _, fun_mk (st := sLawCoded) l29 c29 k29, PySem.W.mg_of X G a29⟩
  have F30 := fun_mk (st := sLaw) l30 c30 k30
  have m_isinstance : mg "isinstance" = none := PySem.W.mg_none_of X G z1
  have m_int : mg "int" = none := PySem.W.mg_none_of X G z2
  have m_bool : mg "bool" = none := PySem.W.mg_none_of X G z3
  have m_str : mg "str" = none := PySem.W.mg_none_of X G z4
  have m_list : mg "list" = none := PySem.W.mg_none_of X G z5
  have m_all : mg "all" = none := PySem.W.mg_none_of X G z6
  have m_len : mg "len" = none := PySem.W.mg_none_of X G z7
  have m_range : mg "range" = none := PySem.W.mg_none_of X G z8
  have m_max : mg "max" = none := PySem.W.mg_none_of X G z9
  have m_min : mg "min" = none := PySem.W.mg_none_of X G z10
  have m_BLANK := PySem.W.mg_of X G v1
  have m_PERCENT := PySem.W.mg_of X G v2
  have m_LINE_FEED := PySem.W.mg_of X G v3
  have m_GREATEST_SIGN := PySem.W.mg_of X G v4
  have m_WORD_SIZE := PySem.W.mg_of X G v5
  have m_SIGNS := PySem.W.mg_of X G v6
  have m_SIXES := PySem.W.mg_of X G v7
  refine ⟨PySem.W.fnOf "law" "law" (defArgs sLaw) (defBody sLaw) (defScope sLaw) .none kV30 dc30 pm30 an30 cd30 ct30, fun s v => .of_eq rfl, fun base _ _ => ?_⟩
  have MC := mk_NS (P := l.prog) (w := w) (base := base) FC FL TLc m_LetterError m_ValueError vV OC noC m_NoSaying iC tiC
  have R1 := r_is_whole (P := l.prog) (w := w) (base := base) A3 m_isinstance m_int m_bool
  have R2 := r_is_say_sign (FnAt.as A14) R1 m_BLANK m_GREATEST_SIGN
  have R3 := r_is_saying A11 R2 m_isinstance m_list m_all
  have R4 := x_check_saying MC A13 R3
  have R5 := r_octets_of_sign (P := l.prog) (w := w) (base := base) A15
  have R6 := r_is_letter (P := l.prog) (w := w) (base := base) A1
  have R7 := r_is_figure (P := l.prog) (w := w) (base := base) A2
  have R8 := r_is_numbered (P := l.prog) (w := w) (base := base) A4 m_len m_SIGNS m_BLANK m_PERCENT
  have R9 := r_sign_of (P := l.prog) (w := w) (base := base) A6 m_SIGNS m_BLANK m_LINE_FEED
  have R10 := r_text_of A5 R9
  have R11 := r_by_sixteen (P := l.prog) (w := w) (base := base) A8
  have R12 := r_mark_of A18 R8 R10 R7 R6 R11 m_BLANK
  have RM := r_marks_of A17 R12
  have R14 := r_four_of (P := l.prog) (w := w) (base := base) A9 m_len m_SIXES
  have RS := r_sixes_of A7 R14 m_len m_range
  have R16 := r_own_text A12 R8 R10 m_all
  obtain ⟨fM, fdM, gM, kM, bM, GM⟩ := RM
  obtain ⟨fS, fdS, gS, kS, bS, GS⟩ := RS
  have RB1 := r_by_words (wr := sixC) A16 GS (by decide) kS bS R5 m_len m_WORD_SIZE sixC_len3
  have RB2 := r_by_words (wr := marksC) A16 GM (by decide) kM bM R5 m_len m_WORD_SIZE marksC_len
  have R17 := x_coded (fd1 := fdS) (fd2 := fdM) (ps1 := ["octets"]) (ps2 := ["octets"]) A10 R4 R16 RB1 RB2 gS gM m_len
  have R20 := r_cell_at (P := l.prog) (w := w) (base := base) A19 m_len
  have R21 := r_mixed (P := l.prog) (w := w) (base := base) A20
  have R22 := r_source A21 R20 R21 m_len
  have R23 := r_next A22 R21
  have R24 := r_law_saying A23 R23 m_len m_range
  have R25 := r_law_octets_of (P := l.prog) (w := w) (base := base) A24
  have R26 := r_law_sixes (P := l.prog) (w := w) (base := base) A25 m_len m_range
  have R27 := r_law_text (P := l.prog) (w := w) (base := base) A26 m_int
  have R28 := r_law_word A27 R26 R27
  have R29 := r_law_words_by A28 R28 R25 m_len
  have R30 := r_law_coded A29 R27 R29 m_int m_len
  exact ok_law F30 R22 R24 (next_d R23) R30 R17 m_len m_range m_max m_min m_list m_isinstance m_str
end FL
open PySem PySem.W PyProof.Rows
set_option maxRecDepth 100000 in
set_option maxHeartbeats 8000000 in
theorem PySem.Challenge.cw_foldletter_k13_sayings_coded_holds : PySem.Challenge.rw_foldletter_k13_sayings_coded.Holds := by
  w_on; o_law; k_head; (case hw => w_witness2)
  k_fill
  refine L2.walk_of (l := PySem.Challenge.rw_foldletter_k13_sayings_coded) (n := 63) (k := 7) (x := "_law_script") (CX := fun _ => L2.CX0) (sp := fun w => FL.spLaw _) rfl (by decide) rfl ⟨rfl, by decide, by decide⟩ (fun w h Y => PySem.W.kIn_of Y) ?F (fun _ _ a ns hl _ hS => ⟨a, ns, rfl, hS, hl, fun _ => rfl⟩) (fun _ _ _ _ _ h => h)
  case F =>
    intro w mg fa h KX G hmg
    refine' FL.all_mk KX G hmg ?gL ?iL ?lL ?cL ?kL ?dL ?gaL ?rdL ?atL ?vV ?zVE ?exL ?hdL ?tyL ?tifL ?gC ?xC ?rvC ?saC ?exC ?tyC ?kcC ?noC ?iC ?tiC ?lC ?cC ?kC ?dC ?hgC ?hkC ?hdC ?haC ?hmC ?suC ?hn0 ?ht0 ?a1 ?l1 ?c1 ?k1 ?a2 ?l2 ?c2 ?k2 ?a3 ?l3 ?c3 ?k3 ?a4 ?l4 ?c4 ?k4 ?a5 ?l5 ?c5 ?k5 ?a6 ?l6 ?c6 ?k6 ?a7 ?l7 ?c7 ?k7 ?a8 ?l8 ?c8 ?k8 ?a9 ?l9 ?c9 ?k9 ?a10 ?l10 ?c10 ?k10 ?a11 ?l11 ?c11 ?k11 ?a12 ?l12 ?c12 ?k12 ?a13 ?l13 ?c13 ?k13 ?a14 ?l14 ?c14 ?k14 ?a15 ?l15 ?c15 ?k15 ?a16 ?l16 ?c16 ?k16 ?a17 ?l17 ?c17 ?k17 ?a18 ?l18 ?c18 ?k18 ?a19 ?l19 ?c19 ?k19 ?a20 ?l20 ?c20 ?k20 ?a21 ?l21 ?c21 ?k21 ?a22 ?l22 ?c22 ?k22 ?a23 ?l23 ?c23 ?k23 ?a24 ?l24 ?c24 ?k24 ?a25 ?l25 ?c25 ?k25 ?a26 ?l26 ?c26 ?k26 ?a27 ?l27 ?c27 ?k27 ?a28 ?l28 ?c28 ?k28 ?a29 ?l29 ?c29 ?k29 ?a30 ?l30 ?c30 ?k30 ?z1 ?z2 ?z3 ?z4 ?z5 ?z6 ?z7 ?z8 ?z9 ?z10 ?v1 ?v2 ?v3 ?v4 ?v5 ?v6 ?v7
    (case gL => k_is); (case iL => k_is); (case lL => k_is); (case cL => k_is); (case kL => k_is); (case dL => k_is); (case gaL => k_is); (case rdL => k_is); (case atL => k_is); (case vV => k_is); (case zVE => k_is); (case exL => k_is); (case hdL => k_is); (case tyL => k_is); (case tifL => k_is); (case gC => k_is); (case xC => k_is); (case rvC => first | rfl | k_is); (case saC => k_is); (case exC => k_is); (case tyC => k_is); (case kcC => k_is); (case noC => k_is); (case iC => k_is); (case tiC => k_is); (case lC => k_is); (case cC => k_is); (case kC => k_is); (case dC => k_is); (case hgC => k_is); (case hkC => k_is); (case hdC => k_is); (case haC => k_is); (case hmC => k_is); (case suC => k_is); (case hn0 => k_is); (case ht0 => k_is); (case a1 => k_is); (case l1 => k_is); (case c1 => k_is); (case k1 => k_is); (case a2 => k_is); (case l2 => k_is); (case c2 => k_is); (case k2 => k_is); (case a3 => k_is); (case l3 => k_is); (case c3 => k_is); (case k3 => k_is); (case a4 => k_is); (case l4 => k_is); (case c4 => k_is); (case k4 => k_is); (case a5 => k_is); (case l5 => k_is); (case c5 => k_is); (case k5 => k_is); (case a6 => k_is); (case l6 => k_is); (case c6 => k_is); (case k6 => k_is); (case a7 => k_is); (case l7 => k_is); (case c7 => k_is); (case k7 => k_is); (case a8 => k_is); (case l8 => k_is); (case c8 => k_is); (case k8 => k_is); (case a9 => k_is); (case l9 => k_is); (case c9 => k_is); (case k9 => k_is); (case a10 => k_is); (case l10 => k_is); (case c10 => k_is); (case k10 => k_is); (case a11 => k_is); (case l11 => k_is); (case c11 => k_is); (case k11 => k_is); (case a12 => k_is); (case l12 => k_is); (case c12 => k_is); (case k12 => k_is); (case a13 => k_is); (case l13 => k_is); (case c13 => k_is); (case k13 => k_is); (case a14 => k_is); (case l14 => k_is); (case c14 => k_is); (case k14 => k_is); (case a15 => k_is); (case l15 => k_is); (case c15 => k_is); (case k15 => k_is); (case a16 => k_is); (case l16 => k_is); (case c16 => k_is); (case k16 => k_is); (case a17 => k_is); (case l17 => k_is); (case c17 => k_is); (case k17 => k_is); (case a18 => k_is); (case l18 => k_is); (case c18 => k_is); (case k18 => k_is); (case a19 => k_is); (case l19 => k_is); (case c19 => k_is); (case k19 => k_is); (case a20 => k_is); (case l20 => k_is); (case c20 => k_is); (case k20 => k_is); (case a21 => k_is); (case l21 => k_is); (case c21 => k_is); (case k21 => k_is); (case a22 => k_is); (case l22 => k_is); (case c22 => k_is); (case k22 => k_is); (case a23 => k_is); (case l23 => k_is); (case c23 => k_is); (case k23 => k_is); (case a24 => k_is); (case l24 => k_is); (case c24 => k_is); (case k24 => k_is); (case a25 => k_is); (case l25 => k_is); (case c25 => k_is); (case k25 => k_is); (case a26 => k_is); (case l26 => k_is); (case c26 => k_is); (case k26 => k_is); (case a27 => k_is); (case l27 => k_is); (case c27 => k_is); (case k27 => k_is); (case a28 => k_is); (case l28 => k_is); (case c28 => k_is); (case k28 => k_is); (case a29 => k_is); (case l29 => k_is); (case c29 => k_is); (case k29 => k_is); (case a30 => k_is); (case l30 => k_is); (case c30 => k_is); (case k30 => k_is); (case z1 => k_is); (case z2 => k_is); (case z3 => k_is); (case z4 => k_is); (case z5 => k_is); (case z6 => k_is); (case z7 => k_is); (case z8 => k_is); (case z9 => k_is); (case z10 => k_is); (case v1 => k_is); (case v2 => k_is); (case v3 => k_is); (case v4 => k_is); (case v5 => k_is); (case v6 => k_is); (case v7 => k_is)
