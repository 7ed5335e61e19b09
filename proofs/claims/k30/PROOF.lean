import PyProof.Rows.All
import Wide.All
import OpenK.AllK
import Wide.FinOn
import PySem.Challenge.RW_foldletter_k30_whole_a_year_day_by_day
import HandS.ForMost
import HandS.Walk
import HandS.IsInst
import HandS.Wide
import HandS.ReplaceDef
import HandS.ReplaceLit
import HandS.ReplaceList
import HandS.StrMore
import HandS.ExcInit
import HandS.ExcIs
import HandS.ExcField
import HandS.Defaults
import HandS.TryOnly
import HandS.WordsExc
import HandS.Rev
import HandS.Conv
import HandS.ClsMeth
import HandS.FStr
import HandS.Flow
import HandS.Style
import HandS.Strs
import PyProof.FString3
import HandS.Codes
set_option Elab.async false
set_option linter.all false
set_option maxRecDepth 100000
set_option maxHeartbeats 4000000
namespace FL
open PySem PySem.Spec PyProof.Rows L2
def topS (i : Nat) : Stmt := PySem.Challenge.pw_foldletter_k30_whole_a_year_day_by_day.main.body.getD i (.Pass ⟨0, 0, 0, 0⟩)
abbrev cLetterError : Stmt := topS 1
abbrev cNoDate : Stmt := topS 2
abbrev sIsText : Stmt := topS 5
abbrev sIsLine : Stmt := topS 6
abbrev sIsFigure : Stmt := topS 7
abbrev sIsWhole : Stmt := topS 8
abbrev sIsSign : Stmt := topS 9
abbrev sShowDate : Stmt := topS 20
abbrev sReadDate : Stmt := topS 21
abbrev sDaysAhead : Stmt := topS 22
abbrev sDaysOf : Stmt := topS 23
abbrev sYearOf : Stmt := topS 24
abbrev sShowDay : Stmt := topS 25
abbrev sShowClock : Stmt := topS 26
abbrev sShowOffset : Stmt := topS 27
abbrev sReadDay : Stmt := topS 28
abbrev sReadClock : Stmt := topS 29
abbrev sReadOffset : Stmt := topS 30
abbrev sReadFigures : Stmt := topS 31
abbrev sCellAt : Stmt := topS 33
abbrev sMixed : Stmt := topS 34
abbrev sSource : Stmt := topS 35
abbrev sNext : Stmt := topS 36
abbrev sLawTold : Stmt := topS 37
abbrev sLawTwo : Stmt := topS 38
abbrev sLawWeeks : Stmt := topS 39
abbrev sLawDays : Stmt := topS 40
abbrev sLawYearRight : Stmt := topS 41
abbrev sLaw : Stmt := topS 42
end FL

namespace FL
open PySem PySem.Spec PyProof.Rows L2
/-! ### small words -/
theorem pe_weak {X : Cx} {e : Expr} {t t' : TE} (h : PE X e t) (m : ∀ σ H Q, t' σ H Q → t σ H Q) : PE X e t' := ⟨fun pins s σ H Q I q => h.run pins s σ H Q I (m σ H Q q)⟩
theorem lt_one {a b : Nat} : ((([a] : List Nat) < [b])) ↔ a < b := by
  rw [List.cons_lt_cons_iff]
  simp
theorem bl_to {Q : V → Hp → Prop} {H : Hp} {a b : Bool} (e : a = b) (q : Q (.bl b) H) : Q (.bl a) H := by
  rw [e]
  exact q
def tBtw (i lo hi : Nat) : TE := fun σ H Q => ∃ c : Nat, σ[i]? = some (some (.str ⟨#[c]⟩)) ∧ Q (.bl (decide (lo ≤ c ∧ c ≤ hi))) H
theorem pe_btw {X : Cx} (i : Nat) {x a b : Str} {lo hi k1 k2 : Nat} {p1 p2 p3 pos : Pos} (ea : a.cps.toList = [lo]) (eb : b.cps.toList = [hi]) (hx : PE X (.Name x p2) (tVar i))
    (hm : lastMarks [.LtE, .LtE] [.Name x p2, .Constant (.str b) k2 p3] = false := by with_unfolding_all rfl) :
    PE X (.Compare (.Constant (.str a) k1 p1) [.LtE, .LtE] [.Name x p2, .Constant (.str b) k2 p3] pos) (tBtw i lo hi) := by
  refine pe_weak (pe_chain op_le_str op_le_str pe_str hx pe_str hm) ?_
  rintro σ H Q ⟨c, hc, q⟩
  refine ⟨_, hc, _, _, rfl, rfl, _, rfl, ?_⟩
  have e1 : (!decide (((⟨#[c]⟩ : Str).cps.toList) < a.cps.toList)) = decide (lo ≤ c) := by
    rw [ea]
    show (!decide (([c] : List Nat) < [lo])) = decide (lo ≤ c)
    rw [decide_eq_decide.mpr (lt_one (a := c) (b := lo))]
    by_cases h : lo ≤ c
    · rw [decide_eq_true h, decide_eq_false (by omega)]; rfl
    · rw [decide_eq_false h, decide_eq_true (by omega)]; rfl
  have e2 : (!decide (b.cps.toList < ((⟨#[c]⟩ : Str).cps.toList))) = decide (c ≤ hi) := by
    rw [eb]
    show (!decide (([hi] : List Nat) < [c])) = decide (c ≤ hi)
    rw [decide_eq_decide.mpr (lt_one (a := hi) (b := c))]
    by_cases h : c ≤ hi
    · rw [decide_eq_true h, decide_eq_false (by omega)]; rfl
    · rw [decide_eq_false h, decide_eq_true (by omega)]; rfl
  rw [e1]
  by_cases h1 : lo ≤ c
  · rw [decide_eq_true h1, if_pos rfl]
    refine ⟨_, _, rfl, rfl, bl_to e2 (bl_to ?_ q)⟩
    by_cases h2 : c ≤ hi
    · rw [decide_eq_true h2, decide_eq_true ⟨h1, h2⟩]
    · rw [decide_eq_false h2, decide_eq_false (fun z => h2 z.2)]
  · rw [decide_eq_false h1, if_neg Bool.false_ne_true]
    exact bl_to (decide_eq_false (fun z => h1 z.1)).symm q
/-- x or y of two truths -/
theorem pe_orB {X : Cx} {a b : Expr} {rest : List Expr} {pos : Pos} {ta tb : TE} (ha : PE X a ta) (hb : PE X (.BoolOp .Or (b :: rest) pos) tb) :
    PE X (.BoolOp .Or (a :: b :: rest) pos) (tOrV ta tb) := pe_or ha hb
/-! ### what stands where -/
structure FnAt (K : PySem.W.Frag) (mg : Str → Option Value) (x : Str) (st : Stmt) : Prop where
  ex : ∃ f fd, Fun K x x st f fd ∧ mg x = some (.ref f)
def Ready (P : Program) (w : World) (K : PySem.W.Frag) (mg : Str → Option Value) (base : Heap) (k : Nat) (x : Str) (ps : List Str) (sp : Sp) : Prop :=
  ∃ f fd, mg x = some (.ref f) ∧ PySem.W.keepIn K (.ref f) = true ∧ Binds K fd ps [] ∧ FnOk P w K mg base CX0 k f fd ps sp
section
variable {P : Program} {w : World} {K : PySem.W.Frag} {mg : Str → Option Value} {base : Heap}
theorem ready_of {x : Str} {st : Stmt} {k : Nat} {ps : List Str} {sp : Sp} (A : FnAt K mg x st)
    (hb : ∀ (kV doc pm : Value) (an : Option Addr) (cdv ct : Value) (us : List Value), us.length = ps.length → bindArgs (PySem.W.fnOf x x (defArgs st) (defBody st) (defScope st) .none kV doc pm an cdv ct) ⟨us, []⟩ = pure (ps.zip us))
    (ok : ∀ f fd, Fun K x x st f fd → FnOk P w K mg base CX0 k f fd ps sp) : Ready P w K mg base k x ps sp := by
  obtain ⟨f, fd, F, g⟩ := A.ex
  exact ⟨f, fd, g, F.kp, F.binds hb, ok f fd F⟩
/-! ### the mathematics of signs -/
def isLet (c : Nat) : Bool := decide (97 ≤ c ∧ c ≤ 122) || decide (65 ≤ c ∧ c ≤ 90)
def isFig (c : Nat) : Bool := decide (48 ≤ c ∧ c ≤ 57)
def isSig (c : Nat) : Bool := decide (c = 10) || (decide (32 ≤ c ∧ c ≤ 126) && !decide (c = 37))
def atomSigns : List Nat := [33, 35, 36, 38, 39, 42, 43, 45, 46, 47, 61, 63, 94, 95, 96, 123, 124, 125, 126]
def isAtm (c : Nat) : Bool := isLet c || (isFig c || decide (c ∈ atomSigns))
def spSign (f : Nat → Bool) : Sp := fun vs H Q _ => ∃ c : Nat, vs = [.str ⟨#[c]⟩] ∧ Q (.bl (f c)) H
theorem scIsFigure : FnScope ["sign"] ["sign"] (defScope sIsFigure) := ⟨rfl, rfl, rfl, by decide +kernel, rfl, by decide +kernel, by decide +kernel⟩
theorem r_is_figure (A : FnAt K mg "is_figure" sIsFigure) : Ready P w K mg base 1 "is_figure" ["sign"] (spSign isFig) := by
  refine ready_of A (fun _ _ _ _ _ _ us hl => match us, hl with | [_], _ => rfl) fun f fd F => ?_
  refine F.ok scIsFigure (fun vs H Q E h => ?_) (fun cdv A outer s H vs Q E hr h => ?_)
  · obtain ⟨c, rfl, _⟩ := h
    rfl
  · obtain ⟨c, rfl, q⟩ := h
    exact ⟨_, pss_one (ps_ret (pe_btw (lo := 48) (hi := 57) 0 rfl rfl (pv 0))), c, rfl, q⟩
theorem str_one {c d : Nat} : (V.str ⟨#[c]⟩ = V.str ⟨#[d]⟩) ↔ c = d := by
  constructor
  · intro h
    injection h with h
    injection h with h
    have h2 := congrArg Array.toList h
    simpa using h2
  · intro h
    rw [h]
theorem scIsSign : FnScope ["sign"] ["sign"] (defScope sIsSign) := ⟨rfl, rfl, rfl, by decide +kernel, rfl, by decide +kernel, by decide +kernel⟩
theorem r_is_sign (A : FnAt K mg "_is_sign" sIsSign) (mo : mg "ord" = none) {tp : Tok} (mp : mg "PERCENT" = some (.int 37 tp)) : Ready P w K mg base 1 "_is_sign" ["sign"] (spSign isSig) := by
  refine ready_of A (fun _ _ _ _ _ _ us hl => match us, hl with | [_], _ => rfl) fun f fd F => ?_
  refine F.ok scIsSign (fun vs H Q E h => ?_) (fun cdv A outer s H vs Q E hr h => ?_)
  · obtain ⟨c, rfl, _⟩ := h
    rfl
  · obtain ⟨c, rfl, q⟩ := h
    refine ⟨_, pss_one (ps_ret (pe_or (pe_cmpR op_eq (pv 0) pe_str (nomark _)) (pe_one (pe_and (pe_btw (lo := 32) (hi := 126) 0 rfl rfl (pv 0))
      (pe_one (pe_cmpR op_ne (pe_callB call_ord (by rfl) mo (by decide +kernel) (pa_cons (pv 0) pa_nil)) (pe_glob (v := .int 37) rfl mp ⟨tp, rfl⟩) (nomark _))))))), ?_⟩
    refine ⟨_, rfl, rfl, _, rfl, ?_⟩
    have e1 : decide (V.str ⟨#[c]⟩ = V.str ("\n" : Str)) = decide (c = 10) := decide_eq_decide.mpr (str_one (d := 10))
    rw [e1]
    by_cases h1 : c = 10
    · rw [decide_eq_true h1, if_pos rfl]
      exact bl_to (by unfold isSig; rw [decide_eq_true h1]; rfl) q
    · rw [decide_eq_false h1, if_neg Bool.false_ne_true]
      refine ⟨c, rfl, _, rfl, ?_⟩
      by_cases h2 : 32 ≤ c ∧ c ≤ 126
      · rw [decide_eq_true h2, if_pos rfl]
        refine ⟨_, rfl, _, rfl, rfl, rfl, bl_to ?_ q⟩
        unfold isSig
        rw [decide_eq_false h1, decide_eq_true h2, Bool.false_or, Bool.true_and]
        show (!decide (V.int ((c : Nat) : Int) = V.int 37)) = !decide (c = 37)
        congr 1
        refine decide_eq_decide.mpr ⟨fun h => ?_, fun h => by rw [h]; rfl⟩
        injection h with h
        omega
      · rw [decide_eq_false h2, if_neg Bool.false_ne_true]
        exact bl_to (by unfold isSig; rw [decide_eq_false h1, decide_eq_false h2]; rfl) q
end
end FL

namespace FL
open PySem PySem.Spec PyProof.Rows L2
section
variable {P : Program} {w : World} {K : PySem.W.Frag} {mg : Str → Option Value} {base : Heap}
theorem szl {n : Nat} (h : n ≤ 10000) : n < sizeLine := Nat.lt_of_le_of_lt h (by decide)
theorem same_new {H : Hp} {p : Addr} {o : HO} (h : H p = none) : Same H (upd H p o) := fun b x e => by
  rw [upd_ne (ne_of_none e h)]
  exact e
/-- a store to what was not there at the start -/
theorem same_set {H H1 : Hp} {p : Addr} {o : HO} (s : Same H H1) (h : H p = none) : Same H (upd H1 p o) := fun b x e => by
  rw [upd_ne (ne_of_none e h)]
  exact s b x e
theorem take_more {α : Type} {l : List α} {i : Nat} {x : α} (h : l[i]? = some x) : l.take (i + 1) = l.take i ++ [x] := by
  rw [List.take_add_one, h]
  rfl
def allSig (l : List Nat) : Bool := l.all isSig
def isLn (l : List Nat) : Bool := allSig l && !decide (10 ∈ l)
/-- of a text f of its signs; of what is none, False -/
def spLine (K : PySem.W.Frag) (f : List Nat → Bool) : Sp := fun vs H Q _ => ∃ v, vs = [v] ∧
  ((∃ z : Str, v = .str z ∧ z.length ≤ 10000 ∧ ∀ H', Same H H' → Q (.bl (f z.cps.toList)) H') ∨ (∃ t, TyX K H v t ∧ PySem.W.kitOne K t (.type "str") = some false ∧ Q (.bl false) H))
theorem scIsText : FnScope ["value", "sign"] ["value"] (defScope sIsText) := ⟨rfl, rfl, rfl, by decide +kernel, rfl, by decide +kernel, by decide +kernel⟩
theorem r_is_text (A : FnAt K mg "is_text" sIsText) (RS : Ready P w K mg base 1 "_is_sign" ["sign"] (spSign isSig)) (mi : mg "isinstance" = none) (ms : mg "str" = none) (ma : mg "all" = none) :
    Ready P w K mg base 2 "is_text" ["value"] (spLine K allSig) := by
  obtain ⟨fS, fdS, gS, kS, bS, GS⟩ := RS
  refine ready_of A (fun _ _ _ _ _ _ us hl => match us, hl with | [_], _ => rfl) fun f fd F => ?_
  refine F.ok scIsText (fun vs H Q E h => ?_) (fun cdv A outer s H vs Q E hr h => ?_)
  · obtain ⟨v, rfl, _⟩ := h
    rfl
  · obtain ⟨v, rfl, q⟩ := h
    refine ⟨_, pss_one (ps_ret (pe_and (pe_callB call_isi (by rfl) mi (by decide +kernel) (pa_cons (pv 0) (pa_cons (pe_bltn (v := .ty "str") (by rfl) ms (by decide +kernel) rfl) pa_nil)))
      (pe_one (pe_callB (cr_all rfl) (by rfl) ma (by decide +kernel) (pa_cons (pe_lc (own := [("sign", 1)]) (g := gName 1) (tt := tYes) (by rfl) scIsText.nd (pi_str (pv 0))
        (blkOk_by (own := [("sign", 1)]) (N := ["value", "sign"]) (sc := defScope sIsText) (by decide +kernel)) (fun _ _ _ _ _ => pg_name (i := 1) scIsText.nd rfl (Or.inl rfl)) (fun _ _ _ _ _ => pts_nil)
        (fun _ _ _ _ _ => pe_call GS hr (by rfl) gS kS bS .nil pass0 (pa_cons (pv 1) pa_nil))) pa_nil))))), ?_⟩
    rcases q with ⟨z, rfl, hz, q⟩ | ⟨t, ht, hk, q⟩
    · refine ⟨_, rfl, _, _, .type "str", .type "str", true, rfl, ClsV.ty "str", .base (.str z), kit_ty (by decide +kernel), true, rfl, iteT ?_⟩
      refine ⟨_, rfl, z, rfl, fun D hD => ?_⟩
      refine lc_it walk_str (fun i H' => Same H H' ∧ H' D = some (.lst ((z.cps.toList.take i).map fun c => V.bl (isSig c)))) ⟨same_new hD, upd_same⟩ (fun _ _ _ _ => trivial) (fun i x H1 H2 hi hp hy => ?_) (fun H1 hp => ?_)
      · obtain ⟨rfl, c, hc, rfl⟩ := hy
        obtain ⟨sm, hd⟩ := hp
        have hc' : z.cps.toList[i]? = some c := by
          rw [Array.getElem?_toList]
          exact hc
        refine ⟨rfl, ?_⟩
        unfold tYes
        refine iteT ?_
        refine ⟨_, rfl, c, rfl, _, hd, ?_, same_set sm hD, ?_⟩
        · rw [List.length_map]
          exact Nat.lt_of_le_of_lt (List.length_take_le _ _) (szl (by have h2 : z.cps.size = z.length := rfl; omega))
        · rw [upd_same, take_more hc', List.map_append]
          rfl
      · obtain ⟨sm, hd⟩ := hp
        have e : z.cps.toList.take z.cps.size = z.cps.toList := List.take_of_length_le (by simp)
        rw [e] at hd
        refine ⟨D, z.cps.toList.map isSig, rfl, SqL.of (by rw [List.map_map]; exact hd), bl_to ?_ (q H1 sm)⟩
        unfold allSig
        rw [List.all_map]
        rfl
    · exact ⟨_, rfl, _, _, t, .type "str", false, rfl, ClsV.ty "str", ht, hk, false, rfl, iteF q⟩
theorem scIsLine : FnScope ["value"] ["value"] (defScope sIsLine) := ⟨rfl, rfl, rfl, by decide +kernel, rfl, by decide +kernel, by decide +kernel⟩
theorem r_is_line (A : FnAt K mg "is_line" sIsLine) (RS : Ready P w K mg base 2 "is_text" ["value"] (spLine K allSig)) :
    Ready P w K mg base 3 "is_line" ["value"] (spLine K isLn) := by
  obtain ⟨fS, fdS, gS, kS, bS, GS⟩ := RS
  refine ready_of A (fun _ _ _ _ _ _ us hl => match us, hl with | [_], _ => rfl) fun f fd F => ?_
  refine F.ok scIsLine (fun vs H Q E h => ?_) (fun cdv A outer s H vs Q E hr h => ?_)
  · obtain ⟨v, rfl, _⟩ := h
    rfl
  · obtain ⟨v, rfl, q⟩ := h
    refine ⟨_, pss_one (ps_ret (pe_and (pe_call GS hr (by rfl) gS kS bS .nil pass0 (pa_cons (pv 0) pa_nil)) (pe_one (pe_cmpR op_notIn_sign pe_str (pv 0) (by rfl))))), ?_⟩
    refine ⟨_, rfl, v, rfl, ?_⟩
    rcases q with ⟨z, rfl, hz, q⟩ | ⟨t, ht, hk, q⟩
    · refine .inl ⟨z, rfl, hz, fun H' sm => ⟨_, rfl, ?_⟩⟩
      by_cases h1 : allSig z.cps.toList = true
      · rw [h1, if_pos rfl]
        refine ⟨_, rfl, 10, z, rfl, rfl, bl_to ?_ (q H' sm)⟩
        unfold isLn
        rw [h1]
        rfl
      · rw [eq_false_of_ne_true h1, if_neg Bool.false_ne_true]
        refine bl_to ?_ (q H' sm)
        unfold isLn
        rw [eq_false_of_ne_true h1]
        rfl
    · exact .inr ⟨t, ht, hk, false, rfl, iteF q⟩
theorem len_cps (z : Str) : z.cps.toList.length = z.length := by simp [Str.length]
end
end FL

namespace FL
open PySem PySem.Spec PyProof.Rows L2
section
variable {P : Program} {w : World} {K : PySem.W.Frag} {mg : Str → Option Value} {base : Heap}
def spCellAt (K : PySem.W.Frag) : Sp := fun vs H Q _ => ∃ (a : Addr) (ns : List Int) (k : Nat), vs = [.ref a, .int (k : Nat)] ∧ SqL K H a (ns.map V.int) ∧ ∀ x : Int, Q (.int x) H
theorem scCellAt : FnScope ["_law_script", "_law_k"] ["_law_script", "_law_k"] (defScope sCellAt) := ⟨rfl, rfl, rfl, by decide +kernel, rfl, by decide +kernel, by decide +kernel⟩
theorem r_cell_at (A : FnAt K mg "_law_cell_at" sCellAt) (ml : mg "len" = none) : Ready P w K mg base 1 "_law_cell_at" ["_law_script", "_law_k"] (spCellAt K) := by
  refine ready_of A (fun _ _ _ _ _ _ us hl => match us, hl with | [_, _], _ => rfl) fun f fd F => ?_
  refine F.ok scCellAt (fun vs H Q E h => ?_) (fun cdv A outer s H vs Q E hr h => ?_)
  · obtain ⟨a, ns, k, rfl, _⟩ := h
    rfl
  · obtain ⟨a, ns, k, rfl, hS, q⟩ := h
    refine ⟨_, pss_cons (ps_if (pt_cmpR op_lt (pv 1) (pe_callB call_len_seq (by rfl) ml PySem.boot_len (pa_cons (pv 0) pa_nil)) (nomark _)) (pss_one (ps_ret (pe_ix ix_list (pv 0) (pv 1) (fun _ _ => rfl)))) pss_nil)
      (pss_one (ps_ret pe_int)), ?_⟩
    refine ⟨_, rfl, _, rfl, a, _, rfl, .inl hS, _, _, rfl, rfl, _, rfl, ite2 (fun h => ?_) (fun h => ?_)⟩
    · have h1 : k < ns.length := by
        have := of_decide_eq_true h
        rw [List.length_map] at this
        omega
      refine ⟨_, rfl, _, rfl, a, _, _, _, rfl, rfl, hS, atI_nat (v := .int ns[k]) ?_, q _⟩
      rw [List.getElem?_map, List.getElem?_eq_getElem h1]
      rfl
    · exact q 0
def spMixed : Sp := fun vs H Q _ => ∃ (c k : Int), vs = [.int c, .int k] ∧ ∀ r : Int, 0 ≤ r → r < 2147483563 → Q (.int r) H
theorem scMixed : FnScope ["_law_cell", "_law_k", "_law_low"] ["_law_cell", "_law_k"] (defScope sMixed) := ⟨rfl, rfl, rfl, by decide +kernel, rfl, by decide +kernel, by decide +kernel⟩
theorem r_mixed (A : FnAt K mg "_law_mixed" sMixed) : Ready P w K mg base 1 "_law_mixed" ["_law_cell", "_law_k"] spMixed := by
  refine ready_of A (fun _ _ _ _ _ _ us hl => match us, hl with | [_, _], _ => rfl) fun f fd F => ?_
  refine F.ok scMixed (fun vs H Q E h => ?_) (fun cdv A outer s H vs Q E hr h => ?_)
  · obtain ⟨c, k, rfl, _⟩ := h
    rfl
  · obtain ⟨c, k, rfl, q⟩ := h
    refine ⟨_, pss_cons (ps_set (i := 2) scMixed.nd rfl (.inl rfl) (pe_op op_add (pe_op op_mod (pv 0) pe_int) (pe_op op_mul (pe_op op_fdivW (pv 0) pe_int) pe_int)))
      (pss_cons (ps_set (i := 2) scMixed.nd rfl (.inl rfl) (pe_op op_mod (pe_op op_mul (pe_op op_add (pe_op op_add (pv 2) (pe_op op_mul pe_int (pv 1))) pe_int) pe_int) pe_int))
      (pss_cons (ps_set (i := 2) scMixed.nd rfl (.inl rfl) (pe_op op_mod (pe_op op_mul (pv 2) (pe_op op_add (pe_op op_add (pe_op op_fdivN (pv 2) pe_int) pe_int) (pv 1))) pe_int))
      (pss_one (ps_ret (pe_op op_mod (pe_op op_mul (pv 2) (pe_op op_add (pe_op op_fdivN (pv 2) pe_int) pe_int)) pe_int))))), ?_⟩
    refine ⟨_, rfl, _, _, rfl, rfl, (show (0 : Int) < 2147483629 by decide), _, rfl, _, _, rfl, rfl, wide_div (b := 40) (by decide) (by decide) (by decide) (by decide), _, _, rfl, rfl, .inr (by decide), _, _, rfl, rfl, ?_⟩
    generalize c % 2147483629 + c / 2147483629 * 30011 = x1
    refine ⟨_, rfl, _, rfl, _, _, rfl, rfl, .inl (by decide), _, _, rfl, rfl, _, _, rfl, rfl, _, _, rfl, rfl, .inr (by decide), _, _, rfl, rfl, (show (0 : Int) < 2147483629 by decide), ?_⟩
    have a2 := Int.emod_nonneg ((x1 + 69621 * k + 1) * 48271) (by decide : (2147483629 : Int) ≠ 0)
    have b2 := Int.emod_lt_of_pos ((x1 + 69621 * k + 1) * 48271) (by decide : (0 : Int) < 2147483629)
    generalize ((x1 + 69621 * k + 1) * 48271) % 2147483629 = x2 at a2 b2
    refine ⟨_, rfl, _, rfl, _, _, rfl, rfl, ⟨by decide, by decide⟩, _, _, rfl, rfl, _, rfl, _, _, rfl, rfl, _, _, rfl, rfl, .inl ⟨by omega, by omega⟩, _, _, rfl, rfl, (show (0 : Int) < 2147483587 by decide), ?_⟩
    generalize hX : x2 * (x2.fdiv 907 + 16831 + k) = X3
    have a3 := Int.emod_nonneg X3 (by decide : (2147483587 : Int) ≠ 0)
    have b3 := Int.emod_lt_of_pos X3 (by decide : (0 : Int) < 2147483587)
    generalize X3 % 2147483587 = x3 at a3 b3
    refine ⟨_, rfl, _, rfl, _, _, rfl, rfl, ⟨by decide, by decide⟩, _, _, rfl, rfl, _, _, rfl, rfl, .inl ⟨by omega, by omega⟩, _, _, rfl, rfl, (show (0 : Int) < 2147483563 by decide), ?_⟩
    exact q _ (Int.emod_nonneg _ (by decide)) (Int.emod_lt_of_pos _ (by decide))
/-- a source: three numbers at a -/
def Src (H : Hp) (a : Addr) : Prop := ∃ x y z : Int, H a = some (.lst [.int x, .int y, .int z])
def spSource (K : PySem.W.Frag) : Sp := fun vs H Q _ => ∃ (a : Addr) (ns : List Int) (k : Nat), vs = [.ref a, .int (k : Nat)] ∧ SqL K H a (ns.map V.int) ∧ ∀ H' p, Same H H' → H p = none → Src H' p → Q (.ref p) H'
theorem scSource : FnScope ["_law_script", "_law_k", "_law_cell"] ["_law_script", "_law_k"] (defScope sSource) := ⟨rfl, rfl, rfl, by decide +kernel, rfl, by decide +kernel, by decide +kernel⟩
theorem r_source (A : FnAt K mg "_law_source" sSource) (RC : Ready P w K mg base 1 "_law_cell_at" ["_law_script", "_law_k"] (spCellAt K)) (RM : Ready P w K mg base 1 "_law_mixed" ["_law_cell", "_law_k"] spMixed) (ml : mg "len" = none) :
    Ready P w K mg base 2 "_law_source" ["_law_script", "_law_k"] (spSource K) := by
  obtain ⟨f1, fd1, g1, k1, b1, G1⟩ := RC
  obtain ⟨f2, fd2, g2, k2, b2, G2⟩ := RM
  refine ready_of A (fun _ _ _ _ _ _ us hl => match us, hl with | [_, _], _ => rfl) fun f fd F => ?_
  refine F.ok scSource (fun vs H Q E h => ?_) (fun cdv A outer s H vs Q E hr h => ?_)
  · obtain ⟨a, ns, k, rfl, _⟩ := h
    rfl
  · obtain ⟨a, ns, k, rfl, hS, q⟩ := h
    have ix : ∀ e1 e2, PlainIx (.Name e1 e2) := fun _ _ _ _ => rfl
    refine ⟨_, pss_cons (ps_if (pt_cmpR op_lt (pv 1) (pe_callB call_len_seq (by rfl) ml PySem.boot_len (pa_cons (pv 0) pa_nil)) (nomark _))
        (pss_one (ps_ret (pe_lst (pa_cons (pe_ix ix_list (pv 0) (pv 1) (fun _ _ => rfl)) (pa_cons (pe_ix ix_list (pv 0) (pv 1) (fun _ _ => rfl)) (pa_cons pe_int pa_nil)))))) pss_nil)
      (pss_cons (ps_set (i := 2) scSource.nd rfl (.inl rfl) (pe_call G2 hr (by rfl) g2 k2 b2 .nil pass0 (pa_cons (pe_call G1 hr (by rfl) g1 k1 b1 .nil pass0 (pa_cons (pv 0) (pa_cons pe_int pa_nil))) (pa_cons (pe_op op_add pe_int (pv 1)) pa_nil))))
      (pss_one (ps_ret (pe_lst (pa_cons (pv 2) (pa_cons (pv 2) (pa_cons pe_int pa_nil))))))), ?_⟩
    refine ⟨_, rfl, _, rfl, a, _, rfl, .inl hS, _, _, rfl, rfl, _, rfl, ite2 (fun h => ?_) (fun h => ?_)⟩
    · have h1 : k < ns.length := by
        have := of_decide_eq_true h
        rw [List.length_map] at this
        omega
      have g : (ns.map V.int)[k]? = some (.int ns[k]) := by
        rw [List.getElem?_map, List.getElem?_eq_getElem h1]
        rfl
      refine ⟨_, rfl, _, rfl, a, _, _, _, rfl, rfl, hS, atI_nat g, _, rfl, _, rfl, a, _, _, _, rfl, rfl, hS, atI_nat g, (by show 3 ≤ sizeLine; decide), fun l hl => ?_⟩
      exact q _ l (same_new hl) hl ⟨_, _, _, upd_same⟩
    · refine ⟨_, rfl, a, ns, 0, rfl, hS, fun x => ⟨_, rfl, _, _, rfl, rfl, x, _, rfl, fun r _ _ => ?_⟩⟩
      refine ⟨_, rfl, _, rfl, (by show 3 ≤ sizeLine; decide), fun l hl => ?_⟩
      exact q _ l (same_new hl) hl ⟨_, _, _, upd_same⟩
def spNext : Sp := fun vs H Q _ => ∃ (a : Addr) (m : Nat) (x y z : Int), vs = [.ref a, .int (m : Nat)] ∧ 1 ≤ m ∧ m ≤ 100000 ∧ H a = some (.lst [.int x, .int y, .int z]) ∧
  ∀ (r : Nat) (x' z' : Int), r < m → Q (.int (r : Nat)) (upd H a (.lst [.int x', .int y, .int z']))
theorem scNext : FnScope ["_law_source_here", "_law_many", "_law_found"] ["_law_source_here", "_law_many"] (defScope sNext) := ⟨rfl, rfl, rfl, by decide +kernel, rfl, by decide +kernel, by decide +kernel⟩
theorem r_next (A : FnAt K mg "_law_next" sNext) (RM : Ready P w K mg base 1 "_law_mixed" ["_law_cell", "_law_k"] spMixed) : Ready P w K mg base 2 "_law_next" ["_law_source_here", "_law_many"] spNext := by
  obtain ⟨f2, fd2, g2, k2, b2, G2⟩ := RM
  refine ready_of A (fun _ _ _ _ _ _ us hl => match us, hl with | [_, _], _ => rfl) fun f fd F => ?_
  refine F.ok scNext (fun vs H Q E h => ?_) (fun cdv A outer s H vs Q E hr h => ?_)
  · obtain ⟨a, m, x, y, z, rfl, _⟩ := h
    rfl
  · obtain ⟨a, m, x, y, z, rfl, hm1, hm2, hS, q⟩ := h
    refine ⟨_, pss_cons (ps_if (pt_cmpR op_ge (pe_ix ix_list (pv 0) pe_int (fun _ _ => rfl)) (pe_op op_pow pe_int pe_int) (nomark _))
        (pss_cons (ps_set (i := 2) scNext.nd rfl (.inl rfl) (pe_op op_mod (pe_ix ix_list (pv 0) pe_int (fun _ _ => rfl)) (pv 1)))
          (pss_cons (ps_asg (pe_op op_fdivN (pe_ix ix_list (pv 0) pe_int (fun _ _ => rfl)) (pv 1)) (pg_sub (pv 0) pe_int set_list))
          (pss_one (ps_ret (pv 2))))) pss_nil)
      (pss_cons (ps_asg (pe_op op_add (pe_ix ix_list (pv 0) pe_int (fun _ _ => rfl)) pe_int) (pg_sub (pv 0) pe_int set_list))
      (pss_one (ps_ret (pe_op op_mod (pe_call G2 hr (by rfl) g2 k2 b2 .nil pass0 (pa_cons (pe_ix ix_list (pv 0) pe_int (fun _ _ => rfl)) (pa_cons (pe_ix ix_list (pv 0) pe_int (fun _ _ => rfl)) pa_nil))) (pv 1))))), ?_⟩
    have hm0 : (0 : Int) < (m : Int) := by omega
    refine ⟨_, rfl, a, _, _, .int x, rfl, rfl, SqL.of hS, rfl, _, _, rfl, rfl, ⟨by decide, by decide, by decide⟩, _, _, rfl, rfl, _, rfl, ite2 (fun h => ?_) (fun h => ?_)⟩
    · refine ⟨_, rfl, a, _, _, .int x, rfl, rfl, SqL.of hS, rfl, _, rfl, _, _, rfl, rfl, hm0, ?_⟩
      refine ⟨_, rfl, a, _, _, .int x, rfl, rfl, SqL.of hS, rfl, _, rfl, _, _, rfl, rfl, ⟨by omega, by omega⟩, _, rfl, a, _, _, 0, rfl, rfl, hS, rfl, ?_⟩
      have h1 := Int.emod_nonneg x (by omega : (m : Int) ≠ 0)
      have h2 := Int.emod_lt_of_pos x hm0
      have e : ((x % (m : Int)).toNat : Int) = x % (m : Int) := Int.toNat_of_nonneg h1
      refine ⟨_, rfl, ?_⟩
      have := q (x % (m : Int)).toNat (x.fdiv m) z (by omega)
      rw [e] at this
      exact this
    · refine ⟨_, rfl, a, _, _, .int z, rfl, rfl, SqL.of hS, rfl, _, _, rfl, rfl, _, rfl, a, _, _, 2, rfl, rfl, hS, rfl, ?_⟩
      refine ⟨_, rfl, a, _, _, .int y, rfl, rfl, SqL.of upd_same, rfl, _, rfl, a, _, _, .int (z + 1), rfl, rfl, SqL.of upd_same, rfl, y, _, rfl, fun r _ _ => ?_⟩
      refine ⟨_, rfl, _, _, rfl, rfl, hm0, ?_⟩
      have h1 := Int.emod_nonneg r (by omega : (m : Int) ≠ 0)
      have h2 := Int.emod_lt_of_pos r hm0
      have e : ((r % (m : Int)).toNat : Int) = r % (m : Int) := Int.toNat_of_nonneg h1
      have := q (r % (m : Int)).toNat x (z + 1) (by omega)
      rw [e] at this
      exact this
end
end FL

namespace FL
open PySem PySem.Spec PyProof.Rows L2
section
variable {P : Program} {w : World} {K : PySem.W.Frag} {mg : Str → Option Value} {base : Heap}
/-- only the source at a has changed, and new things came -/
structure Drawn (a : Addr) (H H' : Hp) : Prop where
  old : ∀ b o, b ≠ a → H b = some o → H' b = some o
  src : Src H' a
theorem Drawn.refl {a : Addr} {H : Hp} (h : Src H a) : Drawn a H H := ⟨fun _ _ _ h => h, h⟩
theorem Drawn.trans {a : Addr} {H H1 H2 : Hp} (x : Drawn a H H1) (y : Drawn a H1 H2) : Drawn a H H2 := ⟨fun b o n h => y.old b o n (x.old b o n h), y.src⟩
theorem Drawn.same {a : Addr} {H H1 H2 : Hp} (x : Drawn a H H1) (s : Same H1 H2) : Drawn a H H2 :=
  ⟨fun b o n h => s b o (x.old b o n h), let ⟨p, q, r, e⟩ := x.src; ⟨p, q, r, s _ _ e⟩⟩
theorem drawn_upd {a : Addr} {H : Hp} {x y z : Int} : Drawn a H (upd H a (.lst [.int x, .int y, .int z])) := ⟨fun b o n h => by rw [upd_ne n]; exact h, ⟨x, y, z, upd_same⟩⟩
theorem drawn_set {a p : Addr} {H H1 : Hp} {o : HO} (x : Drawn a H H1) (h : H p = none) (n : a ≠ p) : Drawn a H (upd H1 p o) :=
  ⟨fun b u nb e => by rw [upd_ne (ne_of_none e h)]; exact x.old b u nb e, let ⟨u, v, r, e⟩ := x.src; ⟨u, v, r, by rw [upd_ne n]; exact e⟩⟩
theorem joinL_nil : ∀ L : List (List Nat), TL.joinL [] L = L.flatten
  | [] => rfl
  | [p] => by simp [TL.joinL]
  | p :: q :: r => by
    have := joinL_nil (q :: r)
    show p ++ ([] ++ TL.joinL [] (q :: r)) = _
    rw [List.nil_append, this]
    rfl
theorem join_codes (ys : List Str) : (Txt.join ("" : Str) ys).cps.toList = (ys.map fun y => y.cps.toList).flatten := by
  have e : TL.tl ("" : Str) = [] := by decide +kernel
  have h := TL.tl_join ("" : Str) ys
  rw [← TL.join_eq, e, joinL_nil] at h
  exact h
theorem sum_one {ys : List Str} (h : ∀ t ∈ ys, t.length ≤ 1) : (ys.map (·.length)).sum ≤ ys.length := by
  induction ys with
  | nil => exact Nat.le_refl _
  | cons y r ih =>
    have h1 := h y (List.mem_cons_self ..)
    have h2 := ih fun t ht => h t (List.mem_cons_of_mem _ ht)
    rw [List.map_cons, List.sum_cons, List.length_cons]
    omega
theorem codes_one (c : Nat) : (⟨#[c]⟩ : Str).cps.toList = [c] := rfl
theorem flat_ones {ys : List Str} {l : List Nat} (h : ∀ t ∈ ys, ∃ c ∈ l, t = ⟨#[c]⟩) : (∀ c ∈ (ys.map fun y => y.cps.toList).flatten, c ∈ l) ∧ ((ys.map fun y => y.cps.toList).flatten).length = ys.length := by
  induction ys with
  | nil => exact ⟨fun c hc => by simp at hc, rfl⟩
  | cons y r ih =>
    obtain ⟨i1, i2⟩ := ih fun t ht => h t (List.mem_cons_of_mem _ ht)
    obtain ⟨c, hc, rfl⟩ := h y (List.mem_cons_self ..)
    rw [List.map_cons, List.flatten_cons]
    show (∀ d ∈ [c] ++ _, d ∈ l) ∧ ([c] ++ _).length = _
    refine ⟨fun d hd => ?_, by rw [List.length_append, i2, List.length_cons]; simp; omega⟩
    rcases List.mem_append.mp hd with hd | hd
    · rw [List.mem_singleton.mp hd]; exact hc
    · exact i1 d hd
def spSigns : Sp := fun vs H Q _ => ∃ (a : Addr) (s : Str) (m : Nat), vs = [.ref a, .str s, .int (m : Nat)] ∧ 1 ≤ s.length ∧ s.length ≤ 10000 ∧ m ≤ 10000 ∧ Src H a ∧
  ∀ (t : Str) (H' : Hp), (∀ c ∈ t.cps.toList, c ∈ s.cps.toList) → t.length = m → Drawn a H H' → Q (.str t) H'
end
end FL

namespace FL
open PySem PySem.Spec PyProof.Rows L2
/-! ### the class of a caught error that has a dict of its own -/
section
open PySem.W PySem.Calls
theorem cls_found {K : Frag} {D : Addr} {oo : Option Obj} (G : ExcC K D) : findObj K D oo "__class__" = some (.bind (.builtin "getset_descriptor.__get__") (.builtin "object.__class__")) := by
  obtain ⟨cd, hc, _⟩ := any_some G.hd
  unfold findObj
  rw [hc, Option.bind_some, G.ha, Option.bind_some]
  simp [G.hn, G.ht]
theorem cls_of_exc {prog : Program} {w : World} {A : Around} {E : Value → Shared → Prop} {s : Shared} {K : Frag} {x D : Addr} {ox : Obj} {oo : Option Obj} {Q : Option Value → Shared → Prop}
    (G : ExcC K D) (Y : K.In s.heap) (J : InstAt s.heap x ox D oo) (q : Q (some (.ref D)) { s with toks := s.toks + 1 }) : wpAny (model prog w) A (getAttr? (.ref x) "__class__") Q E s := by
  have found := cls_found (oo := oo) G
  obtain ⟨hh, gg, dd, tt, oos⟩ := s
  have t0 : Looks (model prog w) hh (typeOf (.ref x)) (.ref D) := J.type
  have t1 := looks_findIn (M := model prog w) Y G.hg
  have t2 := looks_findIn (M := model prog w) Y G.hk
  have t3 := looks_find (M := model prog w) Y J found
  have isB : Looks (model prog w) hh (isInstance (.ref x) (.type "BaseException")) true := t0.andThen (looks_subIn Y G.hs)
  have n0 : (false && onTheHeap (Value.builtin "BaseException.__getattribute__")) = false := rfl
  have n1 : (onTheHeap (Value.ref D) && Value.builtin "BaseException.__getattribute__" == Value.builtin "object.__getattribute__") = false := by
    rw [show (Value.builtin "BaseException.__getattribute__" == Value.builtin "object.__getattribute__") = false by decide +kernel]
    rfl
  unfold getAttr? getAttrBy? getAttrBy
  refine wpAny_bind (wpAny_mkText (wpAny_bind (wpAny_attempt (wpAny_holding (wpAny_bind (t0.at (wpAny_bind (t1.at ?_))))))))
  refine (show wpAny (model prog w) A (if (onTheHeap (Value.ref D) && Value.builtin "BaseException.__getattribute__" == Value.builtin "object.__getattribute__") = true then _ else _) _ _ _ from ?_)
  rw [n1, if_neg Bool.false_ne_true]
  unfold getAttrByItsOwn hookBefore
  refine wpAny_bind ?_
  rw [if_pos (show onTheHeap (Value.ref D) = true from rfl)]
  refine t2.at (wpAny_bind (wpAny_attempt (wpAny_holding ?_)))
  unfold callGetattribute
  rw [n0, if_neg Bool.false_ne_true]
  unfold boundAndCalled
  rw [PySem.F.excAttr_ValueError.ga.bind (.ref x)]
  refine wpAny_bind (wpAny_pure ?_)
  refine (show wpAny (model prog w) _ (call (.builtin "BaseException.__getattribute__") [.ref x, .str "__class__" tt]) _ _ _ from ?_)
  refine wpAny_call (codeAny_call_builtin PySem.F.excAttr_ValueError.ga.plain PySem.F.entry_bexc_ga ?_)
  refine @check_slot (model prog w) _ _ ⟨hh, gg, dd, tt + 1, oos⟩ "BaseException.__getattribute__" "BaseException" "__getattribute__" (.ref x) [.str "__class__" tt] [] _ (by decide +kernel) (by decide +kernel) isB (PySem.F.args_bexc_ga (.ref x) (.str "__class__" tt)) ?_
  unfold Builtin.«object.__getattribute__»
  refine wpAny_bind (wpAny_of_eq (a := ((Value.ref x : Value), [Value.str "__class__" tt])) (by first | rfl | (simp only [slotArgs]; rfl)) ?_)
  refine wpAny_bind (wpAny_pure (wpAny_bind (t0.at (wpAny_bind (t3.at ?_)))))
  refine (show wpAny (model prog w) _ (holding [Value.builtin "object.__class__"] (call (.builtin "getset_descriptor.__get__") [.builtin "object.__class__", .ref x, .ref D]) >>= ret) _ _ _ from ?_)
  refine wpAny_bind (wpAny_holding (wpAny_call (class_get (s := ⟨hh, gg, dd, tt + 1, oos⟩) (ox := ox) (od := oo) Y J G.hm (wpAny_pure ?_))))
  refine (show wpAny (model prog w) _ (handedOut (.ref D)) _ _ _ from ?_)
  rw [handedOut_of (v := .ref D) rfl]
  first
    | exact wpAny_pure (wpAny_pure q)
    | exact wpAny_pure q
    | exact wpAny_pure (wpAny_bind (wpAny_pure (wpAny_pure q)))
/-- an own class at D stands in the written part as a class -/
theorem cls_there {K : Frag} {D : Addr} (h : hasDictIn K D = true) : ∃ c d' cd sl, K.lookup D = some ⟨c, d', .cls cd, sl⟩ := by
  obtain ⟨cd, hc, _⟩ := any_some h
  unfold clsIn at hc
  split at hc
  · rename_i c' d' cd' sl' ho
    exact ⟨c', d', cd', sl', ho⟩
  · cases hc
theorem kitx_excD {K : Frag} {x D : Addr} {ox : Obj} {oo : Option Obj} (G : ExcC K D) : KitX K (.ref x) (.ref D) (fun h => InstAt h x ox D oo) where
  ty := fun _ _ _ J => J.type
  it := fun _ _ Y _ => by
    obtain ⟨c', d', cd', sl', ho⟩ := cls_there G.hd
    intro A' Q' E' s' k q
    unfold isType loadHead
    exact wpAny_bind (wpAny_loadPart (k _ _ (Y _ _ ho)) (wpAny_pure q))
  ne := fun h tp dd its n sl Y htp => by
    obtain ⟨c', d', cd', sl', ho⟩ := cls_there G.hd
    refine Bool.eq_false_iff.mpr fun z => ?_
    have e : D = tp := Value.ref.inj (beq_iff_eq.mp z)
    subst e
    have z2 := (Y _ _ ho).symm.trans htp
    cases z2
  ca := fun Y J k => cls_of_exc G Y J k
end
theorem kit_same {K : PySem.W.Frag} {C : Addr} : PySem.W.kitOne K (.ref C) (.ref C) = some true := by
  unfold PySem.W.kitOne
  rw [if_pos (beq_self_eq_true _)]
theorem kit_own {K : PySem.W.Frag} {C D : Addr} {b : Bool} (n : ((Value.ref C) == (Value.ref D)) = false) (t : PySem.W.typeIn K (.ref D) = some (.type "type")) (d : PySem.W.hasDictIn K D = true) (s : PySem.W.subIn K (.ref C) (.ref D) = some b) : PySem.W.kitOne K (.ref C) (.ref D) = some b := by
  obtain ⟨cd, hc, _⟩ := PySem.W.any_some d
  unfold PySem.W.kitOne
  rw [if_neg (by rw [n]; exact Bool.false_ne_true)]
  show (if ((PySem.W.clsIn K D).isSome && PySem.W.typeIn K (.ref D) == some (.type "type")) = true then PySem.W.subIn K (.ref C) (.ref D) else none) = some b
  rw [hc, t, if_pos (by rfl)]
  exact s
/-- isinstance(e, c), e the caught error at a, its own dict at dd -/
def rIsD (K : PySem.W.Frag) (D a : Addr) (dd : Addr) : List V → Hp → VK → Prop := fun xs H Q => ∃ (c : V) (cv : Value) (b : Bool) (fs : List (Str × V)), xs = [.ref a, c] ∧ H dd = some (.xd fs) ∧ (∀ u, RelV c u → u = cv) ∧ PySem.W.kitOne K (.ref D) cv = some b ∧ Q (.bl b) H
theorem call_isD {X : Cx} {a D dd : Addr} {oe : Obj} {pn : List (Addr × Obj)} (G : ExcC X.K D) (hz : Zc (.ref D) (some dd) oe) (hf : ∃ vs, oe.data = .fields vs) : CallR (X.suite a ((a, oe) :: pn)) (.builtin "isinstance") (rIsD X.K D a dd) := by
  intro pins s σ H xs us Q I r h
  obtain ⟨c, cv, b, fs, rfl, hd, hcv, e, q⟩ := h
  obtain ⟨u1, u2, rfl, rx, rt⟩ := vals2 r
  cases rx
  have ec := hcv _ rt
  subst ec
  obtain ⟨hget, _⟩ := I.pin (a, oe) (List.mem_append.mpr (.inl List.mem_cons_self))
  obtain ⟨vs, hv⟩ := hf
  have hx : ObjOk X.prog X.w H s.heap dd (.xd fs) := I.hok dd _ hd
  obtain ⟨mA, hns, _⟩ := hx
  obtain ⟨od, ho, _⟩ := lookIn_ns hns
  have J : PySem.W.InstAt s.heap a oe D (some od) := ⟨hget, hz.1, by unfold PySem.W.notCls; rw [hv] <;> rfl, by rw [hz.2]; exact ho⟩
  exact PySem.W.kia_one (kitx_excD G) I.kIn J e (fun z => nomatch z) fun tk => ⟨.bl b, H, I.kept (t' := tk) fun _ _ z => z, rfl, q⟩
/-- the same, where it is told only later which class and which dict the caught error has -/
def rIsG (K : PySem.W.Frag) (D a : Addr) (cls : Value) (d : Option Addr) : List V → Hp → VK → Prop := fun xs H Q => cls = .ref D ∧ ∃ dd, d = some dd ∧ rIsD K D a dd xs H Q
theorem call_isG {X : Cx} {a D : Addr} {cls : Value} {d : Option Addr} {oe : Obj} {pn : List (Addr × Obj)} (G : ExcC X.K D) (hz : Zc cls d oe) (hf : ∃ vs, oe.data = .fields vs) : CallR (X.suite a ((a, oe) :: pn)) (.builtin "isinstance") (rIsG X.K D a cls d) := by
  intro pins s σ H xs us Q I r h
  obtain ⟨rfl, dd, rfl, h⟩ := h
  exact call_isD G hz hf pins s σ H xs us Q I r h
/-! ### C.__init__(self, ..), C an own class -/
structure ClsFn (K : PySem.W.Frag) (C fI : Addr) : Prop where
  ga : PySem.W.specialIn K (.ref C) "__getattribute__" = some (some (.builtin "type.__getattribute__"))
  rd : PySem.W.readsIn K C (.type "type") = true
  at_ : PySem.W.findCls K (.ref C) (.type "type") "__init__" = some (.val (.ref fI))
  kp : PySem.W.keepIn K (.ref fI) = true
theorem pe_cinit {X : Cx} {x : Str} {C fI : Addr} {CX : CXT} {k : Nat} {fd : FuncData} {ps : List Str} {sp : Sp} {ds : List Value} {dvs : List V} {E : XK} {e : Expr} {es : List Expr} {t : TA} {p1 p2 pos : Pos} {pl : Sem Bool} (T : ClsFn X.K C fI) (F : FnOk X.prog X.w X.K X.mg X.base CX k fI fd ps sp) (hr : Room k X.A)
    (hg : Gl X x) (hm : X.mg x = some (.ref C)) (hb : Binds X.K fd ps ds) (hd : Vals dvs ds) (hx : Passes CX X E) (ha : PA X (e :: es) t)
    (hc : eval (.Call (.Attribute (.Name x p1) "__init__" p2) (e :: es) [] pos) X.env = (do
      let ov ← eval (.Name x p1) X.env
      standAt p2.atName
      let (f, first) ← holding [ov] (getMethod ov "__init__" pl)
      callWith pos f first (backTo pos (starEach (e :: es) X.env)) (backToKw pos (keywordEach [] X.env))) := by rfl)
    (hdb : (x == ("__debug__" : Str)) = false := by decide) (he : starEach (e :: es) X.env = (false, eval e X.env) :: starEach es X.env := by rfl) (hpl : (backTo pos (starEach es X.env)).any (·.1) = false := by rfl) :
    PE X (.Call (.Attribute (.Name x p1) "__init__" p2) (e :: es) [] pos) (tCall sp dvs E t) := by
  refine ⟨fun pins s σ H Q I h => ?_⟩
  refine PySem.W.methodCall_KW (ld_glob I hg hm ?_ hdb) hc
  refine PySem.W.method_cls I.kIn T.ga (ClX.getcval_ok (v := .ref fI) (u := .ref fI) I ⟨T.rd, T.ga⟩ ⟨T.at_, rfl⟩ fun s1 I1 => ?_)
  refine (show wpAny (model X.prog X.w) X.A (callWith pos (.ref fI) [] (backTo pos (starEach (e :: es) X.env)) []) _ _ _ from ?_)
  refine PySem.W.callWith_K (h₀ := X.base) I.ok.mod.kin T.kp (thn (ha.run pos pins s1 σ H _ I1 h) fun us s2 ⟨vs, H1, I2, r, q⟩ => ⟨I2.kIn, ?_⟩) he hpl
  exact run_fn F hr hb hd hx I2 r q
section
variable {P : Program} {w : World} {K : PySem.W.Frag} {mg : Str → Option Value} {base : Heap}
abbrev sLE : Stmt := inClass cLetterError 0
abbrev FunA (K : PySem.W.Frag) (qual : Str) (st : Stmt) (dvs : List V) (f : Addr) (fd : FuncData) : Prop := FunD K "__init__" qual (defArgs st) (defBody st) (defScope st) dvs [] f fd
def spLE (K : PySem.W.Frag) : Sp := fun vs H Q _ => ∃ (a C : Addr) (v : V), vs = [.ref a, v] ∧ OexC K C ∧ H a = some (exo a C none) ∧ Q .non H
theorem scLE : FnScope ["self", "why"] ["self", "why"] (defScope sLE) := ⟨rfl, rfl, rfl, by decide +kernel, rfl, by decide +kernel, by decide +kernel⟩
theorem ok_LE {f : Addr} {fd : FuncData} (F : FunA K "LetterError.__init__" sLE [.str ""] f fd) (mV : mg "ValueError" = none) (vV : PySem.W.findCls K (.type "ValueError") (.type "type") "__init__" = some (.val (.builtin "ValueError.__init__"))) :
    FnOk P w K mg base CX0 1 f fd ["self", "why"] (spLE K) := by
  refine FunD.ok F scLE (fun vs H Q E h => ?_) (fun cdv A outer s H vs Q E hr h => ?_)
  · obtain ⟨a, C, v, rfl, _⟩ := h
    rfl
  · obtain ⟨a, C, v, rfl, T, hH, q⟩ := h
    refine ⟨_, pss_one (ps_expr (pe_veinit (by rfl) mV vV (pa_cons (pv 0) (pa_cons (pv 1) pa_nil)))), ?_⟩
    exact ⟨_, rfl, _, rfl, a, C, [v], rfl, by show 1 ≤ 1000; decide, T, hH, q⟩
theorem bind_LE {f : Addr} {fd : FuncData} (F : FunA K "LetterError.__init__" sLE [.str ""] f fd) : ∃ ds, Vals [] ds ∧ Binds K fd ["self", "why"] ds :=
  FunD.binds1 (ps := ["self", "why"]) F 2 1 (by simp) rfl fun T kV doc pm an cdv ct us its hu hi => match us, its, hu, hi with | [_, _], [_], _, _ => ⟨_, rfl, rfl⟩
/-- C(why, y): a new error of the class at C, its field set -/
def spFld (C : Addr) (fld : Str) : Sp := fun vs H Q _ => ∃ (a : Addr) (v y : V), vs = [.ref a, v, y] ∧ H a = some (exo a C none) ∧ ∀ dx, H dx = none → dx ≠ a → Q .non (upd (upd H dx (exd dx [(fld, y)])) a (exo a C (some dx)))
/-- what a raise of C(..) asks and gives -/
structure MkFld (P : Program) (w : World) (K : PySem.W.Frag) (mg : Str → Option Value) (base : Heap) (x : Str) (C : Addr) (fld : Str) : Prop where
  T : OexC K C
  g : mg x = some (.ref C)
  init : ∃ fI fd, PySem.W.findIn K (.ref C) "__init__" = some (some (.ref fI)) ∧ PySem.W.typeIn K (.ref fI) = some (.type "function") ∧ FnOk P w K mg base CX0 2 fI fd ["self", "why", fld] (spFld C fld) ∧
    (∃ ds, Vals [] ds ∧ Binds K fd ["self", "why", fld] ds) ∧ ∃ ds, Vals [.int 0] ds ∧ Binds K fd ["self", "why", fld] ds
/-- the leaf: what the raise gives -/
theorem mk_leaf {C : Addr} {fld : Str} {v y : V} {vs dvs : List V} {H1 : Hp} {Q : XK} (hv : vs ++ dvs = [v, y]) (hl : vs.length ≤ 2) (h : ∀ (d : Addr) (H' : Hp), Same H1 H' → H1 d = none → H' d = some (.xd [(fld, y)]) → Q (.ref C) (some d) H') :
    vs.length ≤ 1000 ∧ ∀ a, H1 a = none → spFld C fld (.ref a :: (vs ++ dvs)) (upd H1 a (exo a C none))
      (fun v H2 => v = .non ∧ ∃ (d : Addr) (fs : List (Str × V)), H2 a = some (exo a C (some d)) ∧ H2 d = some (exd d fs) ∧ H1 d = none ∧ Q (.ref C) (some d) (upd (del H2 a) d (.xd fs))) (fun _ _ _ => False) := by
  refine ⟨by omega, fun a na => ⟨a, v, y, by rw [hv], upd_same, fun dx n1 n2 => ?_⟩⟩
  rw [upd_ne n2] at n1
  refine ⟨rfl, dx, [(fld, y)], upd_same, by rw [upd_ne n2, upd_same], n1, h dx _ (fun b o e => ?_) n1 upd_same⟩
  have hb1 : b ≠ a := ne_of_none e na
  have hb2 : b ≠ dx := ne_of_none e n1
  rw [upd_ne hb2, del_ne hb1, upd_ne hb1, upd_ne hb2, upd_ne hb1]
  exact e
theorem pmk_fld {X : Cx} {x fld : Str} {C : Addr} {e : Expr} {es : List Expr} {ta : TA} {p pos : Pos} (M : MkFld X.prog X.w X.K X.mg X.base x C fld) (hr : Room (2 + 1) X.A) (hg : Gl X x) (ha : PA X (e :: es) ta) (dvs : List V) (hdv : dvs = [] ∨ dvs = [.int 0])
    (hdb : (x == ("__debug__" : Str)) = false := by decide) (he : starEach (e :: es) X.env = (false, eval e X.env) :: starEach es X.env := by rfl) (hpl : (backTo pos (starEach es X.env)).any (·.1) = false := by rfl) :
    PMk X (.Call (.Name x p) (e :: es) [] pos) (tMkO C (spFld C fld) dvs ta) := by
  obtain ⟨fI, fd, iC, tI, F1, ⟨ds1, v1, b1⟩, ⟨ds2, v2, b2⟩⟩ := M.init
  rcases hdv with rfl | rfl
  · exact pmk_oex M.T iC tI F1 hr b1 v1 pass0 hg M.g ha hdb he hpl
  · exact pmk_oex M.T iC tI F1 hr b2 v2 pass0 hg M.g ha hdb he hpl
end
end FL

namespace FL
open PySem PySem.Spec PyProof.Rows L2
/-! ### texts as lists of signs -/
def mk (l : List Nat) : Str := ⟨l.toArray⟩
theorem mk_codes (l : List Nat) : (mk l).cps.toList = l := by simp [mk]
theorem mk_of (z : Str) : mk z.cps.toList = z := TL.mk_tl z
theorem mk_eq {z : Str} {l : List Nat} (h : z.cps.toList = l) : z = mk l := by rw [← h, mk_of]
theorem mk_inj {l m : List Nat} (h : mk l = mk m) : l = m := by rw [← mk_codes l, h, mk_codes]
theorem mk_len (l : List Nat) : (mk l).length = l.length := by simp [mk, Str.length]
theorem mk_one (c : Nat) : mk [c] = ⟨#[c]⟩ := rfl
theorem mk_app (l m : List Nat) : mk l ++ mk m = mk (l ++ m) := by
  have h : (mk l ++ mk m).cps.toList = l ++ m := by
    have := TL.tl_append (mk l) (mk m)
    show (mk l ++ mk m).cps.toList = l ++ m
    rw [show (mk l ++ mk m).cps.toList = (mk l).cps.toList ++ (mk m).cps.toList from this, mk_codes, mk_codes]
  exact mk_eq h
/-! ### slices -/
theorem cutS_one (z : Str) (p : Nat) : (cutS z (some (p : Nat)) (some ((p + 1 : Nat) : Int))).cps.toList = (z.cps.toList.drop p).take 1 := by
  unfold cutS
  rw [HT.sIx_nat, HT.sIx_nat]
  show (List.take _ (List.drop _ _)) = _
  have hl := len_cps z
  by_cases h : p < z.length
  · rw [Nat.min_eq_left (by omega), Nat.min_eq_left (by omega), show p + 1 - p = 1 by omega]
  · rw [Nat.min_eq_right (by omega), Nat.min_eq_right (by omega), Nat.sub_self, List.take_zero, List.drop_eq_nil_of_le (by omega)]
    rfl
theorem cutS_nat (z : Str) {i j : Nat} (h1 : i ≤ z.length) (h2 : j ≤ z.length) : (cutS z (some (i : Nat)) (some (j : Nat))).cps.toList = (z.cps.toList.drop i).take (j - i) := by
  unfold cutS
  rw [HT.sIx_nat, HT.sIx_nat]
  show (List.take _ (List.drop _ _)) = _
  rw [Nat.min_eq_left h1, Nat.min_eq_left h2]
theorem cps_at {z : Str} {p c : Nat} (h : z.cps[p]? = some c) : z.cps.toList[p]? = some c := by rw [Array.getElem?_toList]; exact h
theorem drop_at {l : List Nat} {p c : Nat} (h : l[p]? = some c) : l.drop p = c :: l.drop (p + 1) := by
  have hb : p < l.length := (List.getElem?_eq_some_iff.mp h).1
  have e : l[p] = c := (List.getElem?_eq_some_iff.mp h).2
  rw [List.drop_eq_getElem_cons hb, e]
section
variable {P : Program} {w : World} {K : PySem.W.Frag} {mg : Str → Option Value} {base : Heap}
theorem sign_is {c d : Nat} {x : Str} (hx : x = ⟨#[d]⟩) : decide (V.str ⟨#[c]⟩ = V.str x) = decide (c = d) := by
  rw [hx]
  exact decide_eq_decide.mpr str_one
def ReadyX (P : Program) (w : World) (K : PySem.W.Frag) (mg : Str → Option Value) (base : Heap) (k : Nat) (x : Str) (ps : List Str) (sp : Sp) : Prop :=
  ∃ f fd, mg x = some (.ref f) ∧ PySem.W.keepIn K (.ref f) = true ∧ Binds K fd ps [] ∧ FnOk P w K mg base (L2.CX P w) k f fd ps sp
theorem readyX_of {x : Str} {st : Stmt} {k : Nat} {ps : List Str} {sp : Sp} (A : FnAt K mg x st)
    (hb : ∀ (kV doc pm : Value) (an : Option Addr) (cdv ct : Value) (us : List Value), us.length = ps.length → bindArgs (PySem.W.fnOf x x (defArgs st) (defBody st) (defScope st) .none kV doc pm an cdv ct) ⟨us, []⟩ = pure (ps.zip us))
    (ok : ∀ f fd, Fun K x x st f fd → FnOk P w K mg base (L2.CX P w) k f fd ps sp) : ReadyX P w K mg base k x ps sp := by
  obtain ⟨f, fd, F, g⟩ := A.ex
  exact ⟨f, fd, g, F.kp, F.binds hb, ok f fd F⟩
/-- v is no text without line feeds -/
def NoLine (K : PySem.W.Frag) (H : Hp) (v : V) : Prop := (∃ z : Str, v = .str z ∧ z.length ≤ 10000 ∧ isLn z.cps.toList = false) ∨ (∃ t, TyX K H v t ∧ PySem.W.kitOne K t (.type "str") = some false)
/-- an error of the class at C with its field at y is wished for -/
def Fails (C : Addr) (fld : Str) (y : Int) (H : Hp) (E : XK) : Prop := ∀ (d : Addr) H', Same H H' → H d = none → H' d = some (.xd [(fld, .int y)]) → E (.ref C) (some d) H'
theorem Fails.later {C : Addr} {fld : Str} {y : Int} {H H1 : Hp} {E : XK} (h : Fails C fld y H E) (s : Same H H1) : Fails C fld y H1 E := fun d H' s' n e => h d H' (s.trans s') (Same.free s n) e
theorem len_append (a b : Str) : (a ++ b).length = a.length + b.length := by
  have := TL.tl_append a b
  rw [← len_cps, ← len_cps, ← len_cps]
  rw [show (a ++ b).cps.toList = a.cps.toList ++ b.cps.toList from this, List.length_append]
end
end FL

namespace FL
open PySem PySem.Spec PyProof.Rows L2
theorem strOk_of {z : Str} (h : ∀ c ∈ z.cps.toList, c < 128) : PyData.strOk z = true := by
  unfold PyData.strOk
  rw [← Array.all_toList]
  refine List.all_eq_true.mpr fun c hc => decide_eq_true ?_
  have := h c hc
  omega
theorem canLayAll_of : ∀ {ds : List PyData}, (∀ d ∈ ds, d.canLay0 = true) → PyData.canLayAll0 ds = true
  | [], _ => by simp [PyData.canLayAll0]
  | d :: r, h => by
    rw [PyData.canLayAll0, h d (List.mem_cons_self ..), canLayAll_of fun x hx => h x (List.mem_cons_of_mem _ hx)]
    rfl
theorem depthAll_of {k : Nat} : ∀ {ds : List PyData}, (∀ d ∈ ds, d.depth ≤ k) → PyData.depthAll ds ≤ k
  | [], _ => by simp [PyData.depthAll]
  | d :: r, h => by
    rw [PyData.depthAll]
    exact Nat.max_le.mpr ⟨h d (List.mem_cons_self ..), depthAll_of fun x hx => h x (List.mem_cons_of_mem _ hx)⟩
theorem canLay_str {z : Str} (h : PyData.strOk z = true) : (PyData.str z).canLay0 = true := by
  unfold PyData.canLay0
  exact h
theorem shaped_of {d : PyData} (h : d.canLay0 = true) (k : d.depth ≤ 64) : SeqAt.shaped d = true := by
  unfold SeqAt.shaped
  rw [h, decide_eq_true k]
  rfl
theorem shaped_strs {zs : List Str} (h : ∀ z ∈ zs, PyData.strOk z = true) : SeqAt.shaped (.list (zs.map PyData.str)) = true := by
  refine shaped_of ?_ ?_
  · rw [PyData.canLay0]
    refine canLayAll_of fun d hd => ?_
    obtain ⟨z, hz, rfl⟩ := List.mem_map.mp hd
    exact canLay_str (h z hz)
  · rw [PyData.depth]
    have : PyData.depthAll (zs.map PyData.str) ≤ 0 := depthAll_of fun d hd => by
      obtain ⟨z, hz, rfl⟩ := List.mem_map.mp hd
      rw [PyData.depth]
      exact Nat.le_refl _
    omega
theorem dp_strs {K : PySem.W.Frag} {H : Hp} : ∀ zs : List Str, DpAll K H (zs.map V.str) (zs.map PyData.str)
  | [] => .nil
  | z :: r => .cons (.str z) (dp_strs r)
theorem eqv_nil (ds : List PyData) : PyData.eqv (.list ds) (.list []) = ds.isEmpty := by
  cases ds <;> simp [PyData.eqv, PyData.eqvAll]
theorem same_drawn {H H1 H2 : Hp} {p : Addr} (s : Same H H1) (n : H p = none) (d : Drawn p H1 H2) : Same H H2 := fun b o e => d.old b o (ne_of_none e n) (s b o e)
theorem app_codes (a b : Str) : (a ++ b).cps.toList = a.cps.toList ++ b.cps.toList := TL.tl_append a b
/-- a list of texts as data: in order, and itself -/
theorem strs_ok {zs : List Str} (h : ∀ z ∈ zs, PyData.strOk z = true) : SeqAt.shaped (.list (zs.map PyData.str)) = true ∧ PyData.eqv (.list (zs.map PyData.str)) (.list (zs.map PyData.str)) = true := by
  have hs := shaped_strs h
  exact ⟨hs, SeqAt.eqv_refl _ (Bool.and_eq_true_iff.mp hs).1⟩
end FL


namespace FL
open PySem PySem.Spec PyProof.Rows L2
/-! ### lists of whole numbers -/
def iv (l : List Nat) : List V := l.map fun n : Nat => V.int (n : Int)
theorem iv_len (l : List Nat) : (iv l).length = l.length := List.length_map ..
theorem iv_app (l m : List Nat) : iv (l ++ m) = iv l ++ iv m := List.map_append ..
theorem iv_at {l : List Nat} {i n : Nat} (h : l[i]? = some n) : (iv l)[i]? = some (.int (n : Int)) := by
  unfold iv
  rw [List.getElem?_map, h]
  rfl
theorem iv_take (l : List Nat) (n : Nat) : iv (l.take n) = (iv l).take n := List.map_take ..
theorem iv_drop (l : List Nat) (n : Nat) : iv (l.drop n) = (iv l).drop n := List.map_drop ..
theorem iv_inj {l m : List Nat} (h : iv l = iv m) : l = m := by
  induction l generalizing m with
  | nil => cases m with
    | nil => rfl
    | cons b r => cases h
  | cons a r ih => cases m with
    | nil => cases h
    | cons b s =>
      have h1 := (List.cons.inj h).1
      have h2 := (List.cons.inj h).2
      injection h1 with h1
      rw [show a = b by omega, ih h2]
def idt (l : List Nat) : List PyData := l.map fun n : Nat => PyData.int (n : Int)
theorem dp_ints {K : PySem.W.Frag} {H : Hp} : ∀ l : List Nat, DpAll K H (iv l) (idt l)
  | [] => .nil
  | z :: r => .cons (.int _) (dp_ints r)
theorem shaped_ints (l : List Nat) : SeqAt.shaped (.list (idt l)) = true := by
  refine shaped_of ?_ ?_
  · rw [PyData.canLay0]
    refine canLayAll_of fun d hd => ?_
    obtain ⟨z, hz, rfl⟩ := List.mem_map.mp hd
    rw [PyData.canLay0]
  · rw [PyData.depth]
    have : PyData.depthAll (idt l) ≤ 0 := depthAll_of fun d hd => by
      obtain ⟨z, hz, rfl⟩ := List.mem_map.mp hd
      rw [PyData.depth]
      exact Nat.le_refl _
    omega
theorem eqv_ints_all : ∀ l m : List Nat, PyData.eqvAll (idt l) (idt m) = decide (l = m)
  | [], [] => by simp [idt, PyData.eqvAll]
  | [], b :: s => by simp [idt, PyData.eqvAll]
  | a :: r, [] => by simp [idt, PyData.eqvAll]
  | a :: r, b :: s => by
    have ih := eqv_ints_all r s
    show PyData.eqvAll (PyData.int a :: idt r) (PyData.int b :: idt s) = _
    rw [PyData.eqvAll, ih]
    have e : PyData.eqv (.int (a : Int)) (.int (b : Int)) = decide (a = b) := by
      simp only [PyData.eqv]
      by_cases h : a = b
      · subst h; simp
      · rw [decide_eq_false h]
        simp [h]
        try omega
    rw [e]
    by_cases h1 : a = b <;> by_cases h2 : r = s <;> simp [h1, h2]
theorem eqv_ints (l m : List Nat) : PyData.eqv (.list (idt l)) (.list (idt m)) = decide (l = m) := by
  rw [← eqv_ints_all]
  simp only [PyData.eqv]
/-- two lists of whole numbers as data -/
theorem dpl {K : PySem.W.Frag} {H : Hp} {a : Addr} {l : List Nat} (h : H a = some (.lst (iv l))) : Dp K H (.ref a) (.list (idt l)) := .lst (SqL.of h) (dp_ints l)
theorem dplS {K : PySem.W.Frag} {H : Hp} {a : Addr} {l : List Nat} (h : SqL K H a (iv l)) : Dp K H (.ref a) (.list (idt l)) := .lst h (dp_ints l)
/-! ### whole numbers -/
inductive Whole (K : PySem.W.Frag) (H : Hp) : V → Option Int → Prop
  | int (n : Int) : Whole K H (.int n) (some n)
  | bl (b : Bool) : Whole K H (.bl b) none
  | oth {v : V} {t : Value} (h : TyX K H v t) (k : PySem.W.kitOne K t (.type "int") = some false) : Whole K H v none
theorem TyOf.same {K : PySem.W.Frag} {H H' : Hp} {v : V} {t : Value} (s : Same H H') (h : TyOf K H v t) : TyOf K H' v t := by
  cases h with
  | non => exact .non
  | bl x => exact .bl x
  | int i => exact .int i
  | str x => exact .str x
  | flt x => exact .flt x
  | lst e => exact .lst (s _ _ e)
  | frz e => exact .frz (s _ _ e)
  | tup e => exact .tup (s _ _ e)
  | dK e => exact .dK (s _ _ e)
  | dT e => exact .dT (s _ _ e)
  | ins e cl ha hn htk hm => exact .ins (s _ _ e) cl ha hn htk hm
theorem TyX.same {K : PySem.W.Frag} {H H' : Hp} {v : V} {t : Value} (s : Same H H') (h : TyX K H v t) : TyX K H' v t := by
  cases h with
  | base h => exact .base (TyOf.same s h)
  | byt b => exact .byt b
  | set e => exact .set (s _ _ e)
  | kList e c => exact .kList e c
  | kTuple e c => exact .kTuple e c
  | kDict e c => exact .kDict e c
  | fTuple e => exact .fTuple (s _ _ e)
  | fDict e => exact .fDict (s _ _ e)
theorem Whole.same {K : PySem.W.Frag} {H H' : Hp} {v : V} {o : Option Int} (s : Same H H') (h : Whole K H v o) : Whole K H' v o := by
  cases h with
  | int n => exact .int n
  | bl b => exact .bl b
  | oth h k => exact .oth (TyX.same s h) k
/-- a def by another global name -/
structure FnAs (K : PySem.W.Frag) (mg : Str → Option Value) (x y : Str) (st : Stmt) : Prop where
  ex : ∃ f fd, Fun K y y st f fd ∧ mg x = some (.ref f)
section
variable {P : Program} {w : World} {K : PySem.W.Frag} {mg : Str → Option Value} {base : Heap}
theorem FnAt.as {x : Str} {st : Stmt} (A : FnAt K mg x st) : FnAs K mg x x st := ⟨A.ex⟩
theorem ready_as {x y : Str} {st : Stmt} {k : Nat} {ps : List Str} {sp : Sp} (A : FnAs K mg x y st)
    (hb : ∀ (kV doc pm : Value) (an : Option Addr) (cdv ct : Value) (us : List Value), us.length = ps.length → bindArgs (PySem.W.fnOf y y (defArgs st) (defBody st) (defScope st) .none kV doc pm an cdv ct) ⟨us, []⟩ = pure (ps.zip us))
    (ok : ∀ f fd, Fun K y y st f fd → FnOk P w K mg base CX0 k f fd ps sp) : Ready P w K mg base k x ps sp := by
  obtain ⟨f, fd, F, g⟩ := A.ex
  exact ⟨f, fd, g, F.kp, F.binds hb, ok f fd F⟩
def spWhole (K : PySem.W.Frag) (f : Option Int → Bool) : Sp := fun vs H Q _ => ∃ v o, vs = [v] ∧ Whole K H v o ∧ Q (.bl (f o)) H
theorem scIsWhole : FnScope ["value"] ["value"] (defScope sIsWhole) := ⟨rfl, rfl, rfl, by decide +kernel, rfl, by decide +kernel, by decide +kernel⟩
theorem r_is_whole (A : FnAt K mg "is_whole" sIsWhole) (m_isinstance : mg "isinstance" = none) (m_int : mg "int" = none) (m_bool : mg "bool" = none) : Ready P w K mg base 1 "is_whole" ["value"] (spWhole K Option.isSome) := by
  refine ready_of A (fun _ _ _ _ _ _ us hl => match us, hl with | [_], _ => rfl) fun f fd F => ?_
  refine F.ok scIsWhole (fun vs H Q E h => ?_) (fun cdv A outer s H vs Q E hr h => ?_)
  · obtain ⟨v, o, rfl, _⟩ := h
    rfl
  · obtain ⟨v, o, rfl, hw, q⟩ := h
    refine ⟨_, pss_one (ps_ret (pe_and (pe_callB call_isi (by rfl) m_isinstance (by decide +kernel) (pa_cons (pv 0) (pa_cons (pe_bltn (v := .ty "int") (by rfl) m_int (by decide +kernel) rfl) pa_nil))) (pe_one (pe_not (pe_callB call_isi (by rfl) m_isinstance (by decide +kernel) (pa_cons (pv 0) (pa_cons (pe_bltn (v := .ty "bool") (by rfl) m_bool (by decide +kernel) rfl) pa_nil))))))), ?_⟩
    cases hw with
    | int n =>
      refine ⟨_, rfl, _, _, .type "int", .type "int", true, rfl, ClsV.ty "int", .base (.int n), kit_ty (by decide +kernel), true, rfl, iteT ?_⟩
      exact ⟨_, rfl, _, _, .type "int", .type "bool", false, rfl, ClsV.ty "bool", .base (.int n), kit_ty (by decide +kernel), false, rfl, q⟩
    | bl b =>
      refine ⟨_, rfl, _, _, .type "bool", .type "int", true, rfl, ClsV.ty "int", .base (.bl b), kit_ty (by decide +kernel), true, rfl, iteT ?_⟩
      exact ⟨_, rfl, _, _, .type "bool", .type "bool", true, rfl, ClsV.ty "bool", .base (.bl b), kit_ty (by decide +kernel), true, rfl, q⟩
    | oth h k =>
      exact ⟨_, rfl, _, _, _, .type "int", false, rfl, ClsV.ty "int", h, k, false, rfl, iteF q⟩
def isSgnI (n : Int) : Bool := decide (32 ≤ n ∧ n ≤ 65535)
def isOctI (n : Int) : Bool := decide (0 ≤ n ∧ n ≤ 255)
theorem rng_b {a b c : Int} : (if decide (a ≤ b) = true then decide (b ≤ c) else false) = decide (a ≤ b ∧ b ≤ c) := by
  by_cases h1 : a ≤ b <;> by_cases h2 : b ≤ c <;> simp [h1, h2]
/-- is a list all of whose things are such whole numbers; of a list told by what its things are, of no list, False -/
def spAll (K : PySem.W.Frag) (f : Option Int → Bool) : Sp := fun vs H Q _ => ∃ v, vs = [v] ∧
  ((∃ a xs os, v = .ref a ∧ H a = some (.lst xs) ∧ xs.length ≤ 10000 ∧ Paired (Whole K H) xs os ∧ ∀ H', Same H H' → Q (.bl (os.all f)) H') ∨
   (∃ t, TyX K H v t ∧ PySem.W.kitOne K t (.type "list") = some false ∧ Q (.bl false) H))
theorem paired_at {α β : Type} {R : α → β → Prop} : ∀ {xs : List α} {os : List β} {i : Nat} {x : α}, Paired R xs os → xs[i]? = some x → ∃ o, os[i]? = some o ∧ R x o
  | _, _, _, _, .nil, h => by simp at h
  | _, _, 0, _, .cons h _, e => by
    injection e with e
    subst e
    exact ⟨_, rfl, h⟩
  | _, _, i + 1, _, .cons _ t, e => paired_at (i := i) t e
theorem whole_ints {K : PySem.W.Frag} {H : Hp} : ∀ l : List Nat, Paired (Whole K H) (iv l) (l.map fun n : Nat => some (n : Int))
  | [] => .nil
  | n :: r => .cons (.int _) (whole_ints r)
theorem all_oct {l : List Nat} (h : ∀ n ∈ l, n < 256) : (l.map fun n : Nat => some (n : Int)).all (fun o => o.any isOctI) = true := by
  rw [List.all_map]
  refine List.all_eq_true.mpr fun n hn => ?_
  have := h n hn
  show isOctI (n : Int) = true
  exact decide_eq_true (by omega)
theorem all_sgn {l : List Nat} (h : ∀ n ∈ l, 32 ≤ n ∧ n ≤ 65535) : (l.map fun n : Nat => some (n : Int)).all (fun o => o.any isSgnI) = true := by
  rw [List.all_map]
  refine List.all_eq_true.mpr fun n hn => ?_
  have := h n hn
  show isSgnI (n : Int) = true
  exact decide_eq_true (by omega)
end
end FL


namespace FL
open PySem PySem.Spec PyProof.Rows L2
/-! ### C(why), C an own exception class without an own __init__, its base's one sets no field -/
section
variable {X : Cx} {e : Expr} {es : List Expr} {ta : TA} {p pos : Pos}
theorem mk_endN {pins : List (Addr × Obj)} {σ : L2.St} {H1 H2 : Hp} {hp hp2 h2 : Heap} {g1 g2 : Array GenState} {d1 d2 : PySem.Drawn} {t1 t2 : Nat} {os1 os2 : OsState} {a C : Addr} (I1 : Inv X pins σ H1 ⟨hp, g1, d1, t1, os1⟩)
    (ha : hp.objs.size ≤ a) (k : ∀ b o, hp.get? b = some o → hp2.get? b = some o) (un : Un (frs X.stack) [] (upd H1 a (exo a C none)) H2 hp2 h2) (hok : HOk X.prog X.w H2 h2) (ho : os2 = os1) (hb : AllBare g2)
    (ea : H2 a = some (exo a C none)) :
    ∃ (t0 : Addr) (G : Heap), Inv X pins σ (del H2 a) ⟨G, g2, d2, t2, os2⟩ ∧ (∀ b o, G.get? b = some o → h2.get? b = some o) ∧ G.get? a = none ∧
      h2.get? a = some ({ cls := .ref C, dict := none, data := .fields #[.ref t0, .none, .none, .none, .bool false, .none] } : Obj) ∧ (del H2 a) a = none := by
  obtain ⟨t0, hoe⟩ := exo_at hok ea
  have hn : H1 a = none := I1.hok.fresh ha
  obtain ⟨G, g1', g2'⟩ := restrict h2 fun b => decide (b ≠ a)
  have gk : ∀ b, b ≠ a → G.get? b = h2.get? b := fun b hb => g1' b (decide_eq_true hb)
  have ge : G.get? a = none := g2' a (by simp)
  have nha : ∀ {b : Addr} {o : Obj}, hp.get? b = some o → b ≠ a := fun {b o} z => Nat.ne_of_lt (Nat.lt_of_lt_of_le (Heap.lt_size z) ha)
  have up : ∀ {b : Addr}, b ≠ a → H1 b = none → upd H1 a (exo a C none) b = none := fun {b} hb n => by rw [upd_ne hb]; exact n
  have U : Un (frs X.stack) [] H1 (del H2 a) hp G := {
    keep := fun b o z n hf hx => by
      rw [gk b (nha z)]
      exact un.keep b o (k b o z) (up (nha z) n) hf hx
    slot := fun b o z n hf hx => by
      rw [gk b (nha z)]
      exact un.slot b o (k b o z) (up (nha z) n) hf hx
    free := fun b o z n hx => by
      rw [del_ne (nha z)]
      exact un.free b o (k b o z) (up (nha z) n) hx
    there := fun b o z hx => by
      rw [gk b (nha z)]
      exact un.there b o (k b o z) hx
    tups := fun b xs z => by
      rw [del_ne (ne_of_none z hn)]
      exact un.tups b xs (by rw [upd_ne (ne_of_none z hn)]; exact z)
    frzs := fun b o v z => by
      rw [del_ne (ne_of_none z hn)]
      exact un.frzs b o v (by rw [upd_ne (ne_of_none z hn)]; exact z)
    tbls := fun b ps z => by
      rw [del_ne (ne_of_none z hn)]
      exact un.tbls b ps (by rw [upd_ne (ne_of_none z hn)]; exact z) }
  have hok3 : HOk X.prog X.w (del H2 a) G := fun b o z => by
    have hba : b ≠ a := fun e => by
      rw [e, del_same] at z
      cases z
    rw [del_ne hba] at z
    have noa : ∀ {c : Addr}, H2 c = some (.own b) → c ≠ a := fun {c} hc => at_ne ea hc exo_own
    exact (hok b o z).stay (fun c v hc y => by
        have hca : c ≠ a := by
          rcases hc with hc | hc
          · rw [hc]
            exact hba
          · exact noa hc
        rw [gk c hca]
        exact y)
      (fun c hc => by rw [del_ne (noa hc)]; exact hc) (fun c xs hc => by rw [del_ne (at_ne ea hc exo_tup)]; exact hc)
  have J : Inv X pins σ (del H2 a) ⟨G, g2, d2, t2, os2⟩ := I1.call' (ch := []) ho U hok3 hb (fun b z => absurd z (by simp))
  refine ⟨t0, G, J, fun b o z => ?_, ge, hoe, del_same⟩
  by_cases hba : b = a
  · rw [hba, ge] at z
    cases z
  · exact (gk b hba).symm.trans z
/-- what a raise of such a C(..) asks -/
structure MkN (P : Program) (w : World) (K : PySem.W.Frag) (mg : Str → Option Value) (base : Heap) (x : Str) (C : Addr) : Prop where
  T : OexC K C
  g : mg x = some (.ref C)
  init : ∃ fI fd, PySem.W.findIn K (.ref C) "__init__" = some (some (.ref fI)) ∧ PySem.W.typeIn K (.ref fI) = some (.type "function") ∧ FnOk P w K mg base CX0 1 fI fd ["self", "why"] (spLE K) ∧ ∃ ds, Vals [] ds ∧ Binds K fd ["self", "why"] ds
theorem del_upd {H : Hp} {a : Addr} {o : HO} (h : H a = none) : del (upd H a o) a = H := by
  funext b
  by_cases e : b = a
  · rw [e, del_same, h]
  · rw [del_ne e, upd_ne e]
theorem pmk_non {x : Str} {C : Addr} (M : MkN X.prog X.w X.K X.mg X.base x C) (hr : Room (1 + 1) X.A) (hg : Gl X x) (ha : PA X (e :: es) ta)
    (hdb : (x == ("__debug__" : Str)) = false := by decide) (he : starEach (e :: es) X.env = (false, eval e X.env) :: starEach es X.env := by rfl) (hpl : (backTo pos (starEach es X.env)).any (·.1) = false := by rfl) :
    PMk X (.Call (.Name x p) (e :: es) [] pos) (fun σ H Q => ta σ H fun vs H1 => (∃ v, vs = [v]) ∧ Q (.ref C) none H1) := by
  intro pins s σ H Q I h
  obtain ⟨T, hm, fI, fd, iC, tI, F1, ds, hd, hb⟩ := M
  obtain ⟨nm, q, N, bs, bm, sn, sub, ab, col, dd, k0, k1, k2, k3, k5, hC, hbm⟩ := T.cls
  refine wpAny_Call_Name_kw (ld_glob I hg hm ?_ hdb)
  refine PySem.W.callWith_K (h₀ := X.base) I.ok.mod.kin T.kC (thn (ha.run pos pins s σ H _ I h) fun us s1 ⟨vs, H1, I1, r1, ⟨w0, hz⟩, q1⟩ => ⟨I1.kIn, ?_⟩) he hpl
  subst hz
  show wpAny _ _ (call (.ref C) us) _ _ _
  obtain ⟨hp, g, dr, tk, os⟩ := s1
  have hsz : hp.objs.size ≤ hp.objs.size + 1 := Nat.le_succ _
  have hn : H1 (hp.objs.size + 1) = none := I1.hok.fresh hsz
  have kk : ∀ b o, hp.get? b = some o → ((hp.push (PySem.W.kdv_tup us)).push (PySem.HandSPX.excO C hp.objs.size)).get? b = some o := fun b o e => Heap.get?_push_of_some _ (Heap.get?_push_of_some _ e)
  have hget : ((hp.push (PySem.W.kdv_tup us)).push (PySem.HandSPX.excO C hp.objs.size)).get? (hp.objs.size + 1) = some (PySem.HandSPX.excO C hp.objs.size) := by heap_get
  have I2 : Inv X pins σ (upd H1 (hp.objs.size + 1) (exo (hp.objs.size + 1) C none)) ⟨(hp.push (PySem.W.kdv_tup us)).push (PySem.HandSPX.excO C hp.objs.size), g, dr, tk, os⟩ :=
    I1.laid (t' := tk) (a := hp.objs.size + 1) (o := exo (hp.objs.size + 1) C none) (h' := (hp.push (PySem.W.kdv_tup us)).push (PySem.HandSPX.excO C hp.objs.size)) kk hsz (exo_ok hget)
  have r2 : Vals (V.ref (hp.objs.size + 1) :: ([w0] ++ [])) (Value.ref (hp.objs.size + 1) :: (us ++ ds)) := .cons rfl (r1.append hd)
  have hq : spLE X.K [.ref (hp.objs.size + 1), w0] (upd H1 (hp.objs.size + 1) (exo (hp.objs.size + 1) C none)) (fun v H2 => v = .non ∧ H2 (hp.objs.size + 1) = some (exo (hp.objs.size + 1) C none) ∧ Q (.ref C) none (del H2 (hp.objs.size + 1))) (fun _ _ _ => False) :=
    ⟨_, C, w0, rfl, T, upd_same, rfl, upd_same, by rw [del_upd hn]; exact q1⟩
  have hl : (Value.ref (hp.objs.size + 1) :: us ++ ds).length = 2 := by
    exact r2.length.symm
  have hus : us.length ≤ sizeLine := by
    rw [← Paired.length r1, sizeLine_eq]
    show 1 ≤ _
    omega
  refine wpAny_call (PySem.HandSPX.call_own F.excBase_ValueError (fun Y => PySem.HandSPX.refsVE_contains Y bm hbm) (I1.kIn _ _ hC) (PySem.W.looks_findIn I1.kIn iC) (fun self => PySem.W.bind_fn I1.kIn self tI) hus
    (codeAny_mono (F1.run _ X.stack _ _ ⟨Value.ref (hp.objs.size + 1) :: us, []⟩ (Value.ref (hp.objs.size + 1) :: (us ++ ds)) _ _ (fun _ _ _ => False) (hr.make C us []) (I2.env0.make C us []) (hb _ (Value.ref (hp.objs.size + 1) :: us) I2.kIn hl) r2 hq) fun r s' hq' => ?_))
  cases r with
  | error er => exact pass0 pins σ _ _ er s' I2 hq'
  | ok fl =>
    cases fl with
    | ret u =>
      obtain ⟨v, H2, os2, bare2, un2, hok2, rv, ev, ea, q2⟩ := hq'
      subst ev
      obtain ⟨h2, g2, d2, t2, os'⟩ := s'
      obtain ⟨t0, G, J, kG, ge, hoe, na⟩ := mk_endN (d2 := d2) (t2 := t2) I1 hsz kk un2 hok2 os2 bare2 ea
      exact ⟨rv, _, _, _, ⟨G, g2, d2, t2, os'⟩, _, .ref C, none, rfl, J, kG, ge, hoe, ⟨rfl, rfl⟩, rfl, rfl, na, rfl, bare2, raises_own T.exC T.tyC, q2⟩
    | next => exact False.elim hq'
    | brk => exact False.elim hq'
    | cont => exact False.elim hq'
end
theorem pe_callN0 {X : Cx} {CX : CXT} {k : Nat} {f : Addr} {fd : FuncData} {ps ks : List Str} {sp : Sp} {E : XK} {x : Str} {p pos : Pos} {kws : List Keyword} {tk : TA} {g : List Value → List Value → List Value} {gV : List V → List V → List V}
    (F : FnOk X.prog X.w X.K X.mg X.base CX k f fd ps sp) (hr : Room k X.A) (hg : Gl X x) (hm : X.mg x = some (.ref f)) (hk : PySem.W.keepIn X.K (.ref f) = true) (hb : KBn X.K fd ps 0 ks g gV) (hx : Passes CX X E)
    (hkw : PK X kws tk) (hall : (backToKw pos (keywordEach kws X.env)).all (·.1.isSome) = true := by rfl) (hks : (backToKw pos (keywordEach kws X.env)).filterMap (·.1) = ks := by rfl)
    (hdb : (x == ("__debug__" : Str)) = false := by decide) (hpl : ((backTo pos (starEach [] X.env)).any (·.1) || (backToKw pos (keywordEach kws X.env)).any (·.1.isNone)) = false := by rfl) :
    PE X (.Call (.Name x p) [] kws pos) (fun σ H Q => tk σ H fun zs H1 => zs.length = ks.length ∧ sp (gV [] zs) H1 Q E) := by
  refine ⟨fun pins s σ H Q I h => ?_⟩
  refine wpAny_Call_Name_kw (ld_glob I hg hm ?_ hdb)
  refine PySem.W.callWith_KW0 (h₀ := X.base) I.ok.mod.kin hk hall (thn (hkw.run pos pins s σ H _ I h) fun ws s2 ⟨zs, H2, I2, rz, l2, q2⟩ => ⟨I2.kIn, ?_⟩) hpl
  rw [hks]
  exact run_fnN (us := []) (vs := []) F hr hb hx I2 .nil rz rfl l2 q2
def swp {α : Type} : List α → List α
  | [a, b] => [b, a]
  | l => l
section
variable {P : Program} {w : World} {K : PySem.W.Frag} {mg : Str → Option Value} {base : Heap}
/-- f(x=..): all by keywords, in the def's order -/
abbrev KBs (K : PySem.W.Frag) (fd : FuncData) (ps : List Str) := KBn K fd ps 0 ps (fun _ ws => ws) (fun _ zs => zs)
theorem kb_of {x : Str} {st : Stmt} {f : Addr} {fd : FuncData} {ps : List Str} (F : Fun K x x st f fd)
    (hk : ∀ (kV doc pm : Value) (an : Option Addr) (cdv ct : Value) (ws : List Value), ws.length = ps.length → bindArgs (PySem.W.fnOf x x (defArgs st) (defBody st) (defScope st) .none kV doc pm an cdv ct) ⟨[], ps.zip ws⟩ = pure (ps.zip ws)) : KBs K fd ps := by
  obtain ⟨oc, od, kV, doc, pm, an, cdv, ct, osl, rfl, lk, hcd⟩ := F.ex
  refine ⟨fun s us ws _ hu hw => ?_, fun _ r => r⟩
  match us, hu with
  | [], _ => exact .of_eq (hk _ _ _ _ _ _ ws hw)
/-- two by keywords, the other way round -/
abbrev KBr (K : PySem.W.Frag) (fd : FuncData) (p q : Str) := KBn K fd [p, q] 0 [q, p] (fun _ ws => swp ws) (fun _ zs => swp zs)
theorem kbr_of {x : Str} {st : Stmt} {f : Addr} {fd : FuncData} {p q : Str} (F : Fun K x x st f fd)
    (hk : ∀ (kV doc pm : Value) (an : Option Addr) (cdv ct : Value) (a b : Value), bindArgs (PySem.W.fnOf x x (defArgs st) (defBody st) (defScope st) .none kV doc pm an cdv ct) ⟨[], [(q, a), (p, b)]⟩ = pure [(p, b), (q, a)]) : KBr K fd p q := by
  obtain ⟨oc, od, kV, doc, pm, an, cdv, ct, osl, rfl, lk, hcd⟩ := F.ex
  refine ⟨fun s us ws _ hu hw => ?_, fun {vs us zs ws} _ r => ?_⟩
  · match us, ws, hu, hw with
    | [], [a, b], _, _ => exact .of_eq (hk _ _ _ _ _ _ a b)
  · cases r with
    | nil => exact .nil
    | cons r1 r2 =>
      cases r2 with
      | nil => exact .cons r1 .nil
      | cons r3 r4 =>
        cases r4 with
        | nil => exact .cons r3 (.cons r1 .nil)
        | cons r5 r6 => exact .cons r1 (.cons r3 (.cons r5 r6))
def ReadyKX (P : Program) (w : World) (K : PySem.W.Frag) (mg : Str → Option Value) (base : Heap) (k : Nat) (x : Str) (ps : List Str) (sp : Sp) (kb : FuncData → Prop) : Prop :=
  ∃ f fd, mg x = some (.ref f) ∧ PySem.W.keepIn K (.ref f) = true ∧ Binds K fd ps [] ∧ kb fd ∧ FnOk P w K mg base (L2.CX P w) k f fd ps sp
theorem ReadyKX.x {k : Nat} {x : Str} {ps : List Str} {sp : Sp} {kb : FuncData → Prop} (R : ReadyKX P w K mg base k x ps sp kb) : ReadyX P w K mg base k x ps sp :=
  let ⟨f, fd, g, kp, b, _, G⟩ := R
  ⟨f, fd, g, kp, b, G⟩
theorem readyKX_of {x : Str} {st : Stmt} {k : Nat} {ps : List Str} {sp : Sp} {kb : FuncData → Prop} (A : FnAt K mg x st)
    (hb : ∀ (kV doc pm : Value) (an : Option Addr) (cdv ct : Value) (us : List Value), us.length = ps.length → bindArgs (PySem.W.fnOf x x (defArgs st) (defBody st) (defScope st) .none kV doc pm an cdv ct) ⟨us, []⟩ = pure (ps.zip us))
    (hk : ∀ f fd, Fun K x x st f fd → kb fd)
    (ok : ∀ f fd, Fun K x x st f fd → FnOk P w K mg base (L2.CX P w) k f fd ps sp) : ReadyKX P w K mg base k x ps sp kb := by
  obtain ⟨f, fd, F, g⟩ := A.ex
  exact ⟨f, fd, g, F.kp, F.binds hb, hk f fd F, ok f fd F⟩
end
end FL


namespace FL
open PySem PySem.Spec PyProof.Rows L2
/-! ### numbers by a format -/
section
open Builtin Builtin.Str Builtin.Int Builtin.Float
/-- the codes of a number's figures -/
def dgs (b : Nat) (f : Char → Char) (n : Nat) : List Nat := (Nat.toDigits b n).map fun c => (f c).toNat
/-- s the sign, D the figures, filled up by 0 to w -/
def fld (w : Nat) (s D : List Nat) : List Nat :=
  let ds := if D.isEmpty then [] else List.replicate (((w : Int) - ((s.length : Int) + ((0 : Nat) : Int) + ((0 : Nat) : Int))).toNat - D.length) 48 ++ D
  List.replicate 0 48 ++ s ++ [] ++ List.replicate ((w : Int) - ((s.length : Int) + ((0 : Nat) : Int) + ((0 : Nat) : Int)) - (ds.length : Int)).toNat 48 ++ ds ++ [] ++ List.replicate 0 48
theorem fld_of {w : Nat} {D : List Nat} (h : D ≠ []) : fld w [] D = List.replicate (w - D.length) 48 ++ D := by
  unfold fld
  have h1 : D.isEmpty = false := by cases D with
    | nil => exact absurd rfl h
    | cons a r => rfl
  simp only [h1, List.length_nil, Bool.false_eq_true, if_false, List.replicate_zero, List.nil_append, List.append_nil]
  have h2 : (((w : Int) - (((0 : Nat) : Int) + ((0 : Nat) : Int) + ((0 : Nat) : Int))).toNat) = w := by omega
  rw [h2]
  have h3 : ((w : Int) - (((0 : Nat) : Int) + ((0 : Nat) : Int) + ((0 : Nat) : Int)) - ((List.replicate (w - D.length) 48 ++ D).length : Int)).toNat = 0 := by
    rw [List.length_append, List.length_replicate]
    omega
  rw [h3]
  rfl
theorem neg_no (n : Nat) : (if decide ((n : Int) < 0) = true then [45] else ([] : List Nat)) = [] := if_neg (by rw [decide_eq_false (by omega : ¬ (n : Int) < 0)]; exact Bool.false_ne_true)
theorem small_log {n : Nat} (h : n < 10000) : (n : Int).natAbs.log2 < 1920 := by
  rw [Int.natAbs_natCast]
  by_cases h0 : n = 0
  · subst h0; decide
  · have h1 : n.log2 < 14 := (Nat.log2_lt h0).mpr (Nat.lt_of_lt_of_le h (by decide))
    omega
theorem dgs_lt {b n : Nat} {f : Char → Char} (h : n < b) : dgs b f n = [(f n.digitChar).toNat] := by
  unfold dgs
  rw [Nat.toDigits_of_lt_base h]
  rfl
theorem dgs_ge {b n : Nat} {f : Char → Char} (h1 : 1 < b) (h : b ≤ n) : dgs b f n = dgs b f (n / b) ++ [(f (n % b).digitChar).toNat] := by
  unfold dgs
  rw [Nat.toDigits_of_base_le h1 h, List.map_append]
  rfl
theorem dig10 : ∀ k, k < 10 → (id k.digitChar).toNat = 48 + k := by decide
def hexd (k : Nat) : Nat := if k < 10 then 48 + k else 55 + k
theorem dig16 : ∀ k, k < 16 → (k.digitChar.toUpper).toNat = hexd k := by decide +kernel
def hex2 (n : Nat) : List Nat := [hexd (n / 16), hexd (n % 16)]
def dec2 (n : Nat) : List Nat := [48 + n / 10, 48 + n % 10]
def dec4 (n : Nat) : List Nat := [48 + n / 1000, 48 + n / 100 % 10, 48 + n / 10 % 10, 48 + n % 10]
/-- without a 0 ahead -/
def decs (n : Nat) : List Nat := if n < 10 then [48 + n] else if n < 100 then [48 + n / 10, 48 + n % 10] else if n < 1000 then [48 + n / 100, 48 + n / 10 % 10, 48 + n % 10] else dec4 n
theorem dgs10 {n : Nat} (h : n < 10000) : dgs 10 id n = decs n := by
  unfold decs
  split
  · rename_i h1
    rw [dgs_lt h1, dig10 n h1]
  · split
    · rename_i h1 h2
      rw [dgs_ge (by decide) (by omega), dgs_lt (by omega), dig10 _ (by omega), dig10 _ (by omega)]
      rfl
    · split
      · rename_i h1 h2 h3
        rw [dgs_ge (by decide) (by omega), dgs_ge (by decide) (by omega), dgs_lt (by omega), dig10 _ (by omega), dig10 _ (by omega), dig10 _ (by omega), Nat.div_div_eq_div_mul]
        rfl
      · rw [dgs_ge (by decide) (by omega), dgs_ge (by decide) (by omega), dgs_ge (by decide) (by omega), dgs_lt (by omega), dig10 _ (by omega), dig10 _ (by omega), dig10 _ (by omega), dig10 _ (by omega)]
        unfold dec4
        rw [show n / 1000 = n / 10 / 10 / 10 by omega, show n / 100 % 10 = n / 10 / 10 % 10 by omega]
        rfl
theorem fld2 {n : Nat} (h : n < 100) : fld 2 (if decide ((n : Int) < 0) = true then [45] else []) (dgs 10 id n) = dec2 n := by
  rw [neg_no, dgs10 (by omega)]
  unfold decs dec2
  split
  · rename_i h1
    rw [fld_of (by simp), show n / 10 = 0 by omega, show n % 10 = n by omega]
    rfl
  · rw [fld_of (by simp)]
    rfl
theorem fld4 {n : Nat} (h : n < 10000) : fld 4 (if decide ((n : Int) < 0) = true then [45] else []) (dgs 10 id n) = dec4 n := by
  rw [neg_no, dgs10 h]
  unfold decs
  split
  · rw [fld_of (by simp)]
    unfold dec4
    rw [show n / 1000 = 0 by omega, show n / 100 % 10 = 0 by omega, show n / 10 % 10 = 0 by omega, show n % 10 = n by omega]
    rfl
  · split
    · rw [fld_of (by simp)]
      unfold dec4
      rw [show n / 1000 = 0 by omega, show n / 100 % 10 = 0 by omega, show n / 10 % 10 = n / 10 by omega]
      rfl
    · split
      · rw [fld_of (by simp)]
        unfold dec4
        rw [show n / 1000 = 0 by omega, show n / 100 % 10 = n / 100 by omega]
        rfl
      · rw [fld_of (by simp [dec4])]
        rfl
theorem fldX {n : Nat} (h : n < 256) : fld 2 (if decide ((n : Int) < 0) = true then [45] else []) (dgs 16 Char.toUpper n) = hex2 n := by
  rw [neg_no]
  unfold hex2
  by_cases h1 : n < 16
  · rw [dgs_lt h1, dig16 n h1, fld_of (by simp), show n / 16 = 0 by omega, show n % 16 = n by omega]
    rfl
  · rw [dgs_ge (by decide) (by omega), dgs_lt (by omega), dig16 _ (by omega), dig16 _ (by omega), fld_of (by simp)]
    rfl
theorem fmt_X (t u : Tok) (n : Nat) : Gives («int.__format__» ⟨[.int (n : Int) t, .str "02X" u], []⟩) (.str ⟨(fld 2 (if decide ((n : Int) < 0) = true then [45] else []) (dgs 16 Char.toUpper n)).toArray⟩) := by
  exact .of_eq rfl
theorem fmt_02d (t u : Tok) (n : Nat) (h : (n : Int).natAbs.log2 < 1920) : Gives («int.__format__» ⟨[.int (n : Int) t, .str "02d" u], []⟩) (.str ⟨(fld 2 (if decide ((n : Int) < 0) = true then [45] else []) (dgs 10 id n)).toArray⟩) := by
  refine (show Gives (Bind.bind (overDigitLimit? (n : Int)) _) _ from ?_)
  rw [PySem.overDigitLimit_small h]
  exact .of_eq rfl
theorem fmt_04d (t u : Tok) (n : Nat) (h : (n : Int).natAbs.log2 < 1920) : Gives («int.__format__» ⟨[.int (n : Int) t, .str "04d" u], []⟩) (.str ⟨(fld 4 (if decide ((n : Int) < 0) = true then [45] else []) (dgs 10 id n)).toArray⟩) := by
  refine (show Gives (Bind.bind (overDigitLimit? (n : Int)) _) _ from ?_)
  rw [PySem.overDigitLimit_small h]
  exact .of_eq rfl
end
section
variable {X : Cx} {e : Expr} {te : TE} {k : Nat} {p1 p2 pos : Pos}
/-- {e:sp}, e a whole number from 0 on below b -/
def tFmtS (f : Nat → List Nat) (b : Nat) (te : TE) : TE := fun σ H Q => te σ H fun x H1 => ∃ n : Nat, x = .int (n : Int) ∧ n < b ∧ Q (.str (mk (f n))) H1
theorem pe_fmtS {sp : Str} {f : Nat → List Nat} {b : Nat} (hne : (sp.length == 0) = false) (hsz : sp.length ≤ sizeLine) (hf : ∀ n, n < b → (f n).length ≤ 100)
    (g : ∀ (t u : Tok) (n : Nat), n < b → Gives (Builtin.«int.__format__» ⟨[.int (n : Int) t, .str sp u], []⟩) (.str (mk (f n)))) (he : PE X e te) :
    PE X (.FormattedValue e (-1) (some (.JoinedStr [.Constant (.str sp) k p1] p2)) pos) (tFmtS f b te) := by
  refine ⟨fun pins s σ H Q I h => ?_⟩
  refine wpAny_FormattedValue_spec (thn (he.run pins s σ H _ I h) fun v s1 hv => ?_)
  obtain ⟨x, H1, I1, r1, n, rfl, hn, q⟩ := hv
  obtain ⟨t, rfl⟩ := r1
  refine thn ((pe_joined1 pe_str).run pins s1 σ H1 (fun y H2 => y = .str sp ∧ H2 = H1) I1 ⟨rfl, rfl⟩) fun r s2 hr => ?_
  obtain ⟨y, H2, I2, r2, rfl, rfl⟩ := hr
  obtain ⟨u, rfl⟩ := r2
  refine ⟨sp, u, rfl, ?_⟩
  refine wpAny_formatField_spec hne (fun s' => typeIs_int s' _ t) F.slot_int_format F.entry_int_format (fun a b => F.args_int_format_2 a b) (fun u => g t u n hn) ⟨.str (mk (f n)), _, I2.tok _, ⟨_, rfl⟩, q⟩ hsz ?_
  rw [mk_len]
  exact Nat.le_of_lt (szl (by have := hf n hn; omega))
theorem pe_fmtX (he : PE X e te) : PE X (.FormattedValue e (-1) (some (.JoinedStr [.Constant (.str "02X") k p1] p2)) pos) (tFmtS hex2 256 te) :=
  pe_fmtS (by decide +kernel) (by decide +kernel) (fun _ _ => by simp [hex2]) (fun t u n hn => by have := fmt_X t u n; rw [fldX hn] at this; exact this) he
theorem pe_fmt2 (he : PE X e te) : PE X (.FormattedValue e (-1) (some (.JoinedStr [.Constant (.str "02d") k p1] p2)) pos) (tFmtS dec2 100 te) :=
  pe_fmtS (by decide +kernel) (by decide +kernel) (fun _ _ => by simp [dec2]) (fun t u n hn => by have := fmt_02d t u n (small_log (by omega)); rw [fld2 hn] at this; exact this) he
theorem pe_fmt4 (he : PE X e te) : PE X (.FormattedValue e (-1) (some (.JoinedStr [.Constant (.str "04d") k p1] p2)) pos) (tFmtS dec4 10000 te) :=
  pe_fmtS (by decide +kernel) (by decide +kernel) (fun _ _ => by simp [dec4]) (fun t u n hn => by have := fmt_04d t u n (small_log hn); rw [fld4 hn] at this; exact this) he
/-- str(n) -/
theorem toString_codes {n : Nat} (h : n < 10000) : ((toString (n : Int) : String) : Str) = mk (decs n) := by
  refine mk_eq ?_
  rw [← dgs10 h]
  exact TL.tl_num n
end
end FL


namespace FL
open PySem PySem.Spec PyProof.Rows L2
/-! ### the calendar -/
def dAhead (y : Nat) : Nat := 365 * (y - 1) + (y - 1) / 4 - (y - 1) / 100 + (y - 1) / 400
def leap (y : Nat) : Bool := decide (y % 4 = 0 ∧ (y % 100 ≠ 0 ∨ y % 400 = 0))
def mDays : List Nat := [31, 28, 31, 30, 31, 30, 31, 31, 30, 31, 30, 31]
def daysOf (y m : Nat) : Nat := if m = 1 ∧ leap y = true then 29 else mDays.getD m 0
def cum (y : Nat) : Nat → Nat
  | 0 => 0
  | m + 1 => cum y m + daysOf y m
theorem dAhead_succ {y : Nat} (h : 1 ≤ y) : dAhead (y + 1) = dAhead y + 365 + (if leap y = true then 1 else 0) := by
  unfold dAhead leap
  rw [show y + 1 - 1 = y by omega]
  obtain ⟨k, rfl⟩ : ∃ k, y = k + 1 := ⟨y - 1, by omega⟩
  rw [show k + 1 - 1 = k by omega]
  by_cases h1 : (k + 1) % 4 = 0 ∧ ((k + 1) % 100 ≠ 0 ∨ (k + 1) % 400 = 0)
  · rw [if_pos (decide_eq_true h1)]
    omega
  · rw [if_neg (fun z => h1 (of_decide_eq_true z))]
    omega
theorem dAhead_mono {a : Nat} (h1 : 1 ≤ a) : ∀ {b : Nat}, a < b → dAhead (a + 1) ≤ dAhead b
  | 0, h => by omega
  | b + 1, h => by
    by_cases e : a = b
    · rw [e]; exact Nat.le_refl _
    · have ih := dAhead_mono h1 (b := b) (by omega)
      have := dAhead_succ (y := b) (by omega)
      omega
theorem daysOf_le (y m : Nat) : daysOf y m ≤ 31 := by
  unfold daysOf
  split
  · omega
  · by_cases h : m < 12
    · exact (by decide : ∀ m, m < 12 → mDays.getD m 0 ≤ 31) m h
    · rw [List.getD_eq_getElem?_getD, List.getElem?_eq_none (by show 12 ≤ m; omega)]
      simp
theorem daysOf_ge {y m : Nat} (h : m < 12) : 28 ≤ daysOf y m := by
  unfold daysOf
  split
  · omega
  · exact (by decide : ∀ m, m < 12 → 28 ≤ mDays.getD m 0) m h
theorem cum12 (y : Nat) : cum y 12 = 365 + (if leap y = true then 1 else 0) := by
  have e : cum y 12 = 0 + daysOf y 0 + daysOf y 1 + daysOf y 2 + daysOf y 3 + daysOf y 4 + daysOf y 5 + daysOf y 6 + daysOf y 7 + daysOf y 8 + daysOf y 9 + daysOf y 10 + daysOf y 11 := rfl
  rw [e]
  unfold daysOf mDays
  by_cases h : leap y = true
  · simp [h]
  · simp [h]
theorem cum_mono {y : Nat} : ∀ {a b : Nat}, a ≤ b → cum y a ≤ cum y b
  | a, 0, h => by rw [show a = 0 by omega]; exact Nat.le_refl _
  | a, b + 1, h => by
    by_cases e : a = b + 1
    · rw [e]; exact Nat.le_refl _
    · have := cum_mono (y := y) (a := a) (b := b) (by omega)
      show cum y a ≤ cum y b + daysOf y b
      omega
structure Day (y m d : Nat) : Prop where
  y1 : 1 ≤ y
  y2 : y ≤ 9999
  m1 : 1 ≤ m
  m2 : m ≤ 12
  d1 : 1 ≤ d
  d2 : d ≤ daysOf y (m - 1)
def dayNo (y m d : Nat) : Nat := dAhead y + cum y (m - 1) + d - 1
theorem Day.rest {y m d : Nat} (D : Day y m d) : cum y (m - 1) + (d - 1) < cum y 12 := by
  have h1 := cum_mono (y := y) (a := m - 1 + 1) (b := 12) (by have := D.m1; have := D.m2; omega)
  have h2 : cum y (m - 1 + 1) = cum y (m - 1) + daysOf y (m - 1) := rfl
  have := D.d1
  have := D.d2
  omega
theorem Day.year {y m d : Nat} (D : Day y m d) : dAhead y ≤ dayNo y m d ∧ dayNo y m d < dAhead (y + 1) := by
  have h1 := D.rest
  rw [cum12] at h1
  rw [dAhead_succ D.y1]
  unfold dayNo
  have := D.d1
  omega
theorem dAhead_big : dAhead 10000 = 3652059 := by decide
theorem Day.lt {y m d : Nat} (D : Day y m d) : dayNo y m d < 3652059 := by
  have h := D.year.2
  by_cases e : y = 9999
  · subst e
    exact h
  · have := dAhead_mono D.y1 (show y < 9999 by have := D.y2; omega)
    have h2 : dAhead 9999 ≤ 3652059 := by decide
    omega
def mons : List Str := ["Jan", "Feb", "Mar", "Apr", "May", "Jun", "Jul", "Aug", "Sep", "Oct", "Nov", "Dec"]
def week : List Str := ["Mon", "Tue", "Wed", "Thu", "Fri", "Sat", "Sun"]
def monC (m : Nat) : List Nat := (mons.getD m "").cps.toList
def weekC (n : Nat) : List Nat := (week.getD n "").cps.toList
theorem mons_len : ∀ z ∈ mons, z.length = 3 := by decide +kernel
theorem week_len : ∀ z ∈ week, z.length = 3 := by decide +kernel
def clockC (s : Nat) : List Nat := dec2 (s / 3600) ++ [58] ++ dec2 (s % 3600 / 60) ++ [58] ++ dec2 (s % 3600 % 60)
def zoneC (o : Int) : List Nat := (if o < 0 then 45 else 43) :: (dec2 (o.natAbs / 60) ++ dec2 (o.natAbs % 60))
def dayC (y m d : Nat) : List Nat := decs d ++ [32] ++ monC (m - 1) ++ [32] ++ dec4 y
def dateC (y m d s : Nat) (o : Int) : List Nat := weekC (dayNo y m d % 7) ++ [44, 32] ++ dayC y m d ++ [32] ++ clockC s ++ [32] ++ zoneC o
section
variable {P : Program} {w : World} {K : PySem.W.Frag} {mg : Str → Option Value} {base : Heap}
def spDAhead : Sp := fun vs H Q _ => ∃ y : Nat, vs = [.int (y : Int)] ∧ 1 ≤ y ∧ Q (.int (dAhead y : Nat)) H
theorem scDaysAhead : FnScope ["year", "years"] ["year"] (defScope sDaysAhead) := ⟨rfl, rfl, rfl, by decide +kernel, rfl, by decide +kernel, by decide +kernel⟩
theorem r_days_ahead (A : FnAt K mg "_days_ahead" sDaysAhead) : Ready P w K mg base 1 "_days_ahead" ["year"] spDAhead := by
  refine ready_of A (fun _ _ _ _ _ _ us hl => match us, hl with | [_], _ => rfl) fun f fd F => ?_
  refine F.ok scDaysAhead (fun vs H Q E h => ?_) (fun cdv A outer s H vs Q E hr h => ?_)
  · obtain ⟨y, rfl, _⟩ := h
    rfl
  · obtain ⟨y, rfl, hy, q⟩ := h
    have sc := scDaysAhead
    refine ⟨_, pss_cons (ps_set (i := 1) sc.nd rfl (.inl rfl) (pe_op op_sub (pv 0) pe_int))
      (pss_one (ps_ret (pe_op op_add (pe_op op_sub (pe_op op_add (pe_op op_mul pe_int (pv 1)) (pe_op op_fdiv (pv 1) pe_int)) (pe_op op_fdiv (pv 1) pe_int)) (pe_op op_fdiv (pv 1) pe_int)))), ?_⟩
    obtain ⟨k, rfl⟩ : ∃ k, y = k + 1 := ⟨y - 1, by omega⟩
    refine ⟨_, rfl, _, _, rfl, rfl, ?_⟩
    dsimp only
    rw [show (((k + 1 : Nat) : Int) - 1) = (k : Int) by omega]
    refine ⟨_, rfl, _, _, rfl, rfl, .inl ⟨by decide, by decide⟩, _, rfl, _, _, rfl, rfl, ⟨by decide, by decide⟩, _, _, rfl, rfl, _, rfl, _, _, rfl, rfl, ⟨by decide, by decide⟩, _, _, rfl, rfl, _, rfl, _, _, rfl, rfl, ⟨by decide, by decide⟩, _, _, rfl, rfl, ?_⟩
    have e : ((365 * (k : Int) + (k : Int) / 4 - (k : Int) / 100 + (k : Int) / 400)) = ((dAhead (k + 1) : Nat) : Int) := by
      unfold dAhead
      rw [show k + 1 - 1 = k by omega]
      omega
    dsimp only
    rw [e]
    exact q
def spDaysOf : Sp := fun vs H Q _ => ∃ y m : Nat, vs = [.int (y : Int), .int (m : Int)] ∧ 1 ≤ y ∧ m < 12 ∧ Q (.int (daysOf y m : Nat)) H
theorem scDaysOf : FnScope ["year", "month"] ["year", "month"] (defScope sDaysOf) := ⟨rfl, rfl, rfl, by decide +kernel, rfl, by decide +kernel, by decide +kernel⟩
theorem r_days_of (A : FnAt K mg "_days_of" sDaysOf) (R : Ready P w K mg base 1 "_days_ahead" ["year"] spDAhead) {t1 : Tok} (m_FEBRUARY : mg "FEBRUARY" = some (.int 1 t1)) {a_MONTH_DAYS : Addr} (m_MONTH_DAYS : mg "MONTH_DAYS" = some (.ref a_MONTH_DAYS)) (hMD : ∀ H, SqT K H a_MONTH_DAYS (mDays.map fun n : Nat => V.int (n : Int))) :
    Ready P w K mg base 2 "_days_of" ["year", "month"] spDaysOf := by
  obtain ⟨f1, fd1, g1, k1, b1, G1⟩ := R
  refine ready_of A (fun _ _ _ _ _ _ us hl => match us, hl with | [_, _], _ => rfl) fun f fd F => ?_
  refine F.ok scDaysOf (fun vs H Q E h => ?_) (fun cdv A outer s H vs Q E hr h => ?_)
  · obtain ⟨y, m, rfl, _⟩ := h
    rfl
  · obtain ⟨y, m, rfl, hy, hm, q⟩ := h
    have sc := scDaysOf
    refine ⟨_, pss_cons (ps_if (PW.pt (pw_and (pt_cmpR op_eq (pv 1) (pe_glob (v := .int 1) rfl m_FEBRUARY ⟨_, rfl⟩) (nomark _)) (pw_and1 (pt_cmpR op_eq (pe_op op_sub (pe_call G1 (hr.mono (by decide)) (by rfl) g1 k1 b1 .nil pass0 (pa_cons (pe_op op_add (pv 0) pe_int) pa_nil)) (pe_call G1 (hr.mono (by decide)) (by rfl) g1 k1 b1 .nil pass0 (pa_cons (pv 0) pa_nil))) pe_int (nomark _)))))
        (pss_one (ps_ret pe_int))
        pss_nil)
      (pss_one (ps_ret (pe_ix ix_tup (pe_glob (v := .ref a_MONTH_DAYS) rfl m_MONTH_DAYS rfl) (pv 1) (fun _ _ => rfl)))), ?_⟩
    have hmd : mDays[m]? = some (mDays.getD m 0) := by
      rw [List.getD_eq_getElem?_getD, List.getElem?_eq_getElem (show m < mDays.length from hm)]
      rfl
    have tail : ¬ (m = 1 ∧ leap y = true) → Q (.int (mDays.getD m 0 : Nat)) H := fun h => by
      unfold daysOf at q
      rw [if_neg h] at q
      exact q
    have hix : atI (mDays.map fun n : Nat => V.int (n : Int)) (m : Int) = some (.int (mDays.getD m 0 : Nat)) := atI_nat (by rw [List.getElem?_map, hmd]; rfl)
    refine ⟨_, rfl, rfl, _, rfl, ?_⟩
    by_cases h1 : m = 1
    · subst h1
      refine iteT ?_
      refine ⟨_, rfl, _, _, rfl, rfl, y + 1, rfl, by omega, _, rfl, y, rfl, hy, _, _, rfl, rfl, rfl, _, rfl, ?_⟩
      have e := dAhead_succ hy
      refine ite2 (fun h => ?_) (fun h => ?_)
      · have h3 : (((dAhead (y + 1) : Nat) : Int) - ((dAhead y : Nat) : Int)) = 366 := V.int.inj (of_decide_eq_true h)
        have h2 : leap y = true := by
          cases hl : leap y with
          | true => rfl
          | false =>
            rw [hl, if_neg Bool.false_ne_true] at e
            omega
        unfold daysOf at q
        rw [if_pos ⟨rfl, h2⟩] at q
        exact q
      · have h3 : ¬ (((dAhead (y + 1) : Nat) : Int) - ((dAhead y : Nat) : Int)) = 366 := fun z => h (decide_eq_true (congrArg V.int z))
        refine ⟨_, rfl, a_MONTH_DAYS, _, _, _, rfl, rfl, hMD H, hix, tail fun z => h3 ?_⟩
        rw [if_pos z.2] at e
        omega
    · rw [show decide (V.int (m : Nat) = V.int 1) = false from decide_eq_false fun z => by injection z with z; omega]
      refine iteF ⟨_, rfl, a_MONTH_DAYS, _, _, _, rfl, rfl, hMD H, hix, tail fun z => h1 z.1⟩
def spYearOf : Sp := fun vs H Q _ => ∃ n y : Nat, vs = [.int (n : Int)] ∧ 1 ≤ y ∧ dAhead y ≤ n ∧ n < dAhead (y + 1) ∧ Q (.int (y : Nat)) H
theorem scYearOf : FnScope ["number", "year"] ["number"] (defScope sYearOf) := ⟨rfl, rfl, rfl, by decide +kernel, rfl, by decide +kernel, by decide +kernel⟩
theorem r_year_of (A : FnAt K mg "_year_of" sYearOf) (R : Ready P w K mg base 1 "_days_ahead" ["year"] spDAhead) : Ready P w K mg base 2 "_year_of" ["number"] spYearOf := by
  obtain ⟨f1, fd1, g1, k1, b1, G1⟩ := R
  refine ready_of A (fun _ _ _ _ _ _ us hl => match us, hl with | [_], _ => rfl) fun f fd F => ?_
  refine F.ok scYearOf (fun vs H Q E h => ?_) (fun cdv A outer s H vs Q E hr h => ?_)
  · obtain ⟨n, y, rfl, _⟩ := h
    rfl
  · obtain ⟨n, y, rfl, hy, hlo, hhi, q⟩ := h
    have sc := scYearOf
    refine ⟨_, pss_cons (ps_set (i := 1) sc.nd rfl (.inl rfl) (pe_op op_add (pe_op op_fdiv (pv 0) pe_int) pe_int))
      (pss_cons (ps_while PassesOwn.never (pt_cmpR op_gt (pe_call G1 (hr.mono (by decide)) (by rfl) g1 k1 b1 .nil pass0 (pa_cons (pv 1) pa_nil)) (pv 0) (nomark _))
        (pss_one (ps_aug (i := 1) sc.nd rfl (.inl rfl) pe_int ip_sub)))
      (pss_one (ps_ret (pv 1)))), ?_⟩
    refine ⟨_, rfl, _, _, rfl, rfl, ⟨by decide, by decide⟩, _, _, rfl, rfl, ?_⟩
    have h0 : y ≤ n / 365 + 1 := by
      unfold dAhead at hlo
      omega
    refine ⟨fun m σ H' => ∃ yy : Nat, σ = [some (.int (n : Nat)), some (.int (yy : Nat))] ∧ H' = H ∧ y ≤ yy ∧ m = yy, ⟨n / 365 + 1, n / 365 + 1, rfl, rfl, h0, rfl⟩, fun m σ H' hW => ?_⟩
    obtain ⟨yy, rfl, rfl, hyy, hm⟩ := hW
    refine ⟨_, rfl, yy, rfl, by omega, _, rfl, _, _, rfl, rfl, _, rfl, ?_⟩
    by_cases h1 : yy = y
    · rw [decide_eq_false (by rw [h1]; omega : ¬ ((n : Int) < (dAhead yy : Nat)))]
      exact iteF ⟨_, rfl, by rw [h1]; exact q⟩
    · have := dAhead_mono hy (show y < yy by omega)
      rw [decide_eq_true (by omega : ((n : Int) < (dAhead yy : Nat)))]
      refine iteT ⟨fun σ' H'' => ∃ y' : Nat, σ' = [some (.int (n : Nat)), some (.int (y' : Nat))] ∧ H'' = H' ∧ y ≤ y' ∧ y' < yy, fun σ' H'' hN => ?_, ?_⟩
      · obtain ⟨y', rfl, rfl, a1, a2⟩ := hN
        exact ⟨y', by omega, y', rfl, rfl, a1, rfl⟩
      · refine ⟨_, rfl, _, _, rfl, rfl, yy - 1, ?_, rfl, by omega, by omega⟩
        rw [show (((yy - 1 : Nat)) : Int) = (yy : Int) - 1 by omega]
        rfl
end
end FL


namespace FL
open PySem PySem.Spec PyProof.Rows L2
theorem e0 : ("" : Str) = mk [] := by decide +kernel
theorem fit {l : List Nat} (h : l.length ≤ 10000) : (mk l).length ≤ sizeLine := by rw [mk_len]; exact Nat.le_of_lt (szl h)
theorem e32 : (" " : Str) = mk [32] := by decide +kernel
theorem e58 : (":" : Str) = mk [58] := by decide +kernel
theorem e43 : ("+" : Str) = mk [43] := by decide +kernel
theorem e45 : ("-" : Str) = mk [45] := by decide +kernel
theorem e44 : (", " : Str) = mk [44, 32] := by decide +kernel
theorem cat_mk {a b : Str} {l m : List Nat} (ha : a = mk l) (hb : b = mk m) : a ++ b = mk (l ++ m) := by rw [ha, hb, mk_app]
theorem eE : Str.empty = mk [] := rfl
theorem fitE {x : Str} {l : List Nat} (h : x = mk l) (hl : l.length ≤ 10000) : x.length ≤ sizeLine := by rw [h]; exact fit hl
theorem dec2_len (n : Nat) : (dec2 n).length = 2 := rfl
theorem dec4_len (n : Nat) : (dec4 n).length = 4 := rfl
theorem decs_len (n : Nat) : (decs n).length ≤ 4 := by
  unfold decs
  split
  · simp
  · split
    · simp
    · split
      · simp
      · simp [dec4]
theorem monC_len (m : Nat) : (monC m).length ≤ 3 := by
  unfold monC
  by_cases h : m < 12
  · rw [List.getD_eq_getElem?_getD, List.getElem?_eq_getElem (show m < mons.length from h)]
    have := mons_len _ (List.getElem_mem (show m < mons.length from h))
    rw [len_cps]
    show (mons[m]'h).length ≤ 3
    omega
  · rw [List.getD_eq_getElem?_getD, List.getElem?_eq_none (by show 12 ≤ m; omega)]
    decide +kernel
theorem mon_at {m : Nat} (h : m < 12) : mons[m]? = some (mk (monC m)) := by
  unfold monC
  rw [List.getD_eq_getElem?_getD, List.getElem?_eq_getElem (show m < mons.length from h)]
  show some _ = some (mk (mons[m]'h).cps.toList)
  rw [mk_of]
  rfl
theorem week_at {m : Nat} (h : m < 7) : week[m]? = some (mk (weekC m)) := by
  unfold weekC
  rw [List.getD_eq_getElem?_getD, List.getElem?_eq_getElem (show m < week.length from h)]
  show some _ = some (mk (week[m]'h).cps.toList)
  rw [mk_of]
  rfl
theorem weekC_len {m : Nat} (h : m < 7) : (weekC m).length = 3 := by
  have h1 := week_at h
  have := week_len _ (List.mem_of_getElem? h1)
  rw [mk_len] at this
  exact this
section
variable {P : Program} {w : World} {K : PySem.W.Frag} {mg : Str → Option Value} {base : Heap}
def spShowDay : Sp := fun vs H Q _ => ∃ n y m d : Nat, vs = [.int (n : Int)] ∧ Day y m d ∧ n = dayNo y m d ∧ Q (.str (mk (dayC y m d))) H
theorem scShowDay : FnScope ["number", "year", "rest", "month"] ["number"] (defScope sShowDay) := ⟨rfl, rfl, rfl, by decide +kernel, rfl, by decide +kernel, by decide +kernel⟩
theorem r_show_day (A : FnAt K mg "_show_day" sShowDay) (R1 : Ready P w K mg base 2 "_year_of" ["number"] spYearOf) (R2 : Ready P w K mg base 1 "_days_ahead" ["year"] spDAhead) (R3 : Ready P w K mg base 2 "_days_of" ["year", "month"] spDaysOf)
    {a_MONTHS : Addr} (m_MONTHS : mg "MONTHS" = some (.ref a_MONTHS)) (hM : ∀ H, SqT K H a_MONTHS (mons.map V.str)) : Ready P w K mg base 3 "_show_day" ["number"] spShowDay := by
  obtain ⟨f1, fd1, g1, k1, b1, G1⟩ := R1
  obtain ⟨f2, fd2, g2, k2, b2, G2⟩ := R2
  obtain ⟨f3, fd3, g3, k3, b3, G3⟩ := R3
  refine ready_of A (fun _ _ _ _ _ _ us hl => match us, hl with | [_], _ => rfl) fun f fd F => ?_
  refine F.ok scShowDay (fun vs H Q E h => ?_) (fun cdv A outer s H vs Q E hr h => ?_)
  · obtain ⟨n, y, m, d, rfl, _⟩ := h
    rfl
  · obtain ⟨n, y, m, d, rfl, D, hn, q⟩ := h
    have sc := scShowDay
    refine ⟨_, pss_cons (ps_set (i := 1) sc.nd rfl (.inl rfl) (pe_call G1 (hr.mono (by decide)) (by rfl) g1 k1 b1 .nil pass0 (pa_cons (pv 0) pa_nil)))
      (pss_cons (ps_set (i := 2) sc.nd rfl (.inl rfl) (pe_op op_sub (pv 0) (pe_call G2 (hr.mono (by decide)) (by rfl) g2 k2 b2 .nil pass0 (pa_cons (pv 1) pa_nil))))
      (pss_cons (ps_set (i := 3) sc.nd rfl (.inl rfl) pe_int)
      (pss_cons (ps_while PassesOwn.never (pt_cmpR op_ge (pv 2) (pe_call G3 (hr.mono (by decide)) (by rfl) g3 k3 b3 .nil pass0 (pa_cons (pv 1) (pa_cons (pv 3) pa_nil))) (nomark _))
        (pss_cons (ps_aug (i := 2) sc.nd rfl (.inl rfl) (pe_call G3 (hr.mono (by decide)) (by rfl) g3 k3 b3 .nil pass0 (pa_cons (pv 1) (pa_cons (pv 3) pa_nil))) ip_sub)
          (pss_one (ps_aug (i := 3) sc.nd rfl (.inl rfl) pe_int ip_add))))
      (pss_one (ps_ret (pe_joined (.cons (pe_fmt (pe_op op_add (pv 2) pe_int)) (.cons pe_str (.cons (pe_fmt (pe_ix ix_tup (pe_glob (v := .ref a_MONTHS) rfl m_MONTHS rfl) (pv 3) (fun _ _ => rfl))) (.cons pe_str (.cons (pe_fmt4 (pv 1)) .nil))))))))))), ?_⟩
    have hy := D.year
    rw [← hn] at hy
    refine ⟨_, rfl, n, y, rfl, D.y1, hy.1, hy.2, ?_⟩
    refine ⟨_, rfl, _, rfl, y, rfl, D.y1, _, _, rfl, rfl, ?_⟩
    have e1 : ((n : Int) - (dAhead y : Nat)) = ((cum y (m - 1) + (d - 1) - cum y 0 : Nat) : Int) := by
      rw [hn]
      unfold dayNo
      have := D.d1
      show _ = ((cum y (m - 1) + (d - 1) - 0 : Nat) : Int)
      omega
    dsimp only
    rw [e1]
    refine ⟨fun k σ H' => ∃ j : Nat, σ = [some (.int (n : Nat)), some (.int (y : Nat)), some (.int ((cum y (m - 1) + (d - 1) - cum y j : Nat) : Int)), some (.int (j : Nat))] ∧ H' = H ∧ j ≤ m - 1 ∧ k = m - 1 - j, ⟨m - 1, 0, rfl, rfl, Nat.zero_le _, rfl⟩, fun k σ H' hW => ?_⟩
    obtain ⟨j, rfl, rfl, hj, hk⟩ := hW
    have hm2 := D.m2
    have hd1 := D.d1
    have hd2 := D.d2
    refine ⟨_, rfl, _, rfl, _, rfl, y, j, rfl, D.y1, by omega, _, _, rfl, rfl, _, rfl, ?_⟩
    by_cases h1 : j = m - 1
    · rw [decide_eq_false (by rw [h1]; omega : ¬ ((daysOf y j : Nat) : Int) ≤ ((cum y (m - 1) + (d - 1) - cum y j : Nat) : Int))]
      refine iteF ?_
      rw [h1]
      rw [show cum y (m - 1) + (d - 1) - cum y (m - 1) = d - 1 by omega]
      have hd31 := daysOf_le y (m - 1)
      refine ⟨_, rfl, _, _, rfl, rfl, .inr ⟨(d : Int), ?_, small_log (n := d) (by omega), ?_⟩⟩
      · show V.int (((d - 1 : Nat) : Int) + 1) = V.int (d : Int)
        rw [show (((d - 1 : Nat) : Int) + 1) = (d : Int) by omega]
      have c1 : Str.empty ++ ((toString (d : Int) : String) : Str) = mk ([] ++ decs d) := cat_mk eE (toString_codes (by omega))
      have hdl := decs_len d
      refine ⟨_, rfl, fitE c1 (by rw [List.nil_append]; omega), ?_⟩
      have c2 := cat_mk c1 e32
      refine ⟨_, rfl, fitE c2 (by rw [List.length_append, List.nil_append]; show _ + 1 ≤ _; omega), ?_⟩
      have hml := monC_len (m - 1)
      refine ⟨_, rfl, a_MONTHS, _, _, .str (mk (monC (m - 1))), rfl, rfl, hM _, atI_nat (by rw [List.getElem?_map, mon_at (by omega)]; rfl), .inl ⟨_, rfl, fit (by omega), ?_⟩⟩
      have c3 := cat_mk c2 (rfl : mk (monC (m - 1)) = mk (monC (m - 1)))
      refine ⟨_, rfl, fitE c3 (by rw [List.length_append, List.length_append, List.nil_append]; show _ + 1 + _ ≤ _; omega), ?_⟩
      have c4 := cat_mk c3 e32
      refine ⟨_, rfl, fitE c4 (by rw [List.length_append, List.length_append, List.length_append, List.nil_append]; show _ + 1 + _ + 1 ≤ _; omega), ?_⟩
      refine ⟨_, rfl, y, rfl, by have := D.y2; omega, ?_⟩
      have c5 := cat_mk c4 (rfl : mk (dec4 y) = mk (dec4 y))
      refine ⟨_, rfl, fitE c5 (by rw [List.length_append, List.length_append, List.length_append, List.length_append, List.nil_append, dec4_len]; show _ + 1 + _ + 1 + 4 ≤ _; omega), ?_⟩
      show Q (.str _) H'
      rw [c5]
      exact q
    · have hc : cum y j + daysOf y j ≤ cum y (m - 1) := cum_mono (y := y) (a := j + 1) (b := m - 1) (by omega)
      rw [decide_eq_true (by omega : ((daysOf y j : Nat) : Int) ≤ ((cum y (m - 1) + (d - 1) - cum y j : Nat) : Int))]
      refine iteT ⟨fun σ' H'' => ∃ j' : Nat, σ' = [some (.int (n : Nat)), some (.int (y : Nat)), some (.int ((cum y (m - 1) + (d - 1) - cum y j' : Nat) : Int)), some (.int (j' : Nat))] ∧ H'' = H' ∧ j' ≤ m - 1 ∧ j < j', fun σ' H'' hN => ?_, ?_⟩
      · obtain ⟨j', rfl, rfl, a1, a2⟩ := hN
        exact ⟨m - 1 - j', by omega, j', rfl, rfl, a1, rfl⟩
      · refine ⟨_, rfl, _, rfl, _, rfl, y, j, rfl, D.y1, by omega, _, _, rfl, rfl, ?_⟩
        refine ⟨_, rfl, _, _, rfl, rfl, j + 1, ?_, rfl, by omega, by omega⟩
        have e2 : (((cum y (m - 1) + (d - 1) - cum y j : Nat) : Int) - (daysOf y j : Nat)) = ((cum y (m - 1) + (d - 1) - cum y (j + 1) : Nat) : Int) := by
          show _ = ((cum y (m - 1) + (d - 1) - (cum y j + daysOf y j) : Nat) : Int)
          omega
        rw [← e2]
        rfl
def spShowClock : Sp := fun vs H Q _ => ∃ s : Nat, vs = [.int (s : Int)] ∧ s < 86400 ∧ ∀ H', Same H H' → Q (.str (mk (clockC s))) H'
theorem scShowClock : FnScope ["second", "hour", "rest", "minute", "second_left"] ["second"] (defScope sShowClock) := ⟨rfl, rfl, rfl, by decide +kernel, rfl, by decide +kernel, by decide +kernel⟩
theorem r_show_clock (A : FnAt K mg "_show_clock" sShowClock) (m_divmod : mg "divmod" = none) {t1 t2 : Tok} (m_HOUR : mg "HOUR" = some (.int 3600 t1)) (m_MINUTE : mg "MINUTE" = some (.int 60 t2)) : Ready P w K mg base 1 "_show_clock" ["second"] spShowClock := by
  refine ready_of A (fun _ _ _ _ _ _ us hl => match us, hl with | [_], _ => rfl) fun f fd F => ?_
  refine F.ok scShowClock (fun vs H Q E h => ?_) (fun cdv A outer s H vs Q E hr h => ?_)
  · obtain ⟨s, rfl, _⟩ := h
    rfl
  · obtain ⟨s, rfl, hs, q⟩ := h
    have sc := scShowClock
    refine ⟨_, pss_cons (ps_asg (pe_callB call_divmod (by rfl) m_divmod (by decide +kernel) (pa_cons (pv 0) (pa_cons (pe_glob (v := .int 3600) rfl m_HOUR ⟨_, rfl⟩) pa_nil))) (pg_tup rfl (pgs_cons (pg_name (i := 1) sc.nd rfl (.inl rfl)) (pgs_cons (pg_name (i := 2) sc.nd rfl (.inl rfl)) pgs_nil))))
      (pss_cons (ps_asg (pe_callB call_divmod (by rfl) m_divmod (by decide +kernel) (pa_cons (pv 2) (pa_cons (pe_glob (v := .int 60) rfl m_MINUTE ⟨_, rfl⟩) pa_nil))) (pg_tup rfl (pgs_cons (pg_name (i := 3) sc.nd rfl (.inl rfl)) (pgs_cons (pg_name (i := 4) sc.nd rfl (.inl rfl)) pgs_nil))))
      (pss_one (ps_ret (pe_joined (.cons (pe_fmt2 (pv 1)) (.cons pe_str (.cons (pe_fmt2 (pv 3)) (.cons pe_str (.cons (pe_fmt2 (pv 4)) .nil))))))))), ?_⟩
    refine ⟨_, rfl, _, _, rfl, ⟨by decide, by decide⟩, fun p1 n1 => ?_⟩
    refine ⟨p1, _, rfl, SqT.of upd_same, rfl, _, _, rfl, _, _, rfl, rfl, ?_⟩
    refine ⟨_, rfl, _, _, rfl, ⟨by decide, by decide⟩, fun p2 n2 => ?_⟩
    refine ⟨p2, _, rfl, SqT.of upd_same, rfl, _, _, rfl, _, _, rfl, rfl, ?_⟩
    refine ⟨_, rfl, s / 3600, rfl, by omega, ?_⟩
    have c1 := cat_mk eE (rfl : mk (dec2 (s / 3600)) = _)
    refine ⟨_, rfl, fitE c1 (by simp [dec2_len]), ?_⟩
    have c2 := cat_mk c1 e58
    refine ⟨_, rfl, fitE c2 (by simp [dec2_len]), ?_⟩
    refine ⟨_, rfl, s % 3600 / 60, rfl, by omega, ?_⟩
    have c3 := cat_mk c2 (rfl : mk (dec2 (s % 3600 / 60)) = _)
    refine ⟨_, rfl, fitE c3 (by simp [dec2_len]), ?_⟩
    have c4 := cat_mk c3 e58
    refine ⟨_, rfl, fitE c4 (by simp [dec2_len]), ?_⟩
    refine ⟨_, rfl, s % 3600 % 60, rfl, by omega, ?_⟩
    have c5 := cat_mk c4 (rfl : mk (dec2 (s % 3600 % 60)) = _)
    refine ⟨_, rfl, fitE c5 (by simp [dec2_len]), ?_⟩
    show Q (.str _) _
    rw [c5]
    exact q _ ((same_new n1).trans (same_new n2))
def spShowOffset : Sp := fun vs H Q _ => ∃ o : Int, vs = [.int o] ∧ -1439 ≤ o ∧ o ≤ 1439 ∧ ∀ H', Same H H' → Q (.str (mk (zoneC o))) H'
theorem scShowOffset : FnScope ["offset", "hours", "minutes"] ["offset"] (defScope sShowOffset) := ⟨rfl, rfl, rfl, by decide +kernel, rfl, by decide +kernel, by decide +kernel⟩
theorem r_show_offset (A : FnAt K mg "_show_offset" sShowOffset) (m_divmod : mg "divmod" = none) (m_abs : mg "abs" = none) : Ready P w K mg base 1 "_show_offset" ["offset"] spShowOffset := by
  refine ready_of A (fun _ _ _ _ _ _ us hl => match us, hl with | [_], _ => rfl) fun f fd F => ?_
  refine F.ok scShowOffset (fun vs H Q E h => ?_) (fun cdv A outer s H vs Q E hr h => ?_)
  · obtain ⟨s, rfl, _⟩ := h
    rfl
  · obtain ⟨o, rfl, h1, h2, q⟩ := h
    have sc := scShowOffset
    refine ⟨_, pss_cons (ps_asg (pe_callB call_divmod (by rfl) m_divmod (by decide +kernel) (pa_cons (pe_callB call_abs (by rfl) m_abs (by decide +kernel) (pa_cons (pv 0) pa_nil)) (pa_cons pe_int pa_nil))) (pg_tup rfl (pgs_cons (pg_name (i := 1) sc.nd rfl (.inl rfl)) (pgs_cons (pg_name (i := 2) sc.nd rfl (.inl rfl)) pgs_nil))))
      (pss_cons (ps_if (pt_cmpR op_lt (pv 0) pe_int (nomark _))
        (pss_one (ps_ret (pe_joined (.cons pe_str (.cons (pe_fmt2 (pv 1)) (.cons (pe_fmt2 (pv 2)) .nil))))))
        pss_nil)
      (pss_one (ps_ret (pe_joined (.cons pe_str (.cons (pe_fmt2 (pv 1)) (.cons (pe_fmt2 (pv 2)) .nil))))))), ?_⟩
    have ea : (if o < 0 then -o else o) = (o.natAbs : Int) := by split <;> omega
    refine ⟨_, rfl, _, rfl, ?_⟩
    rw [ea]
    refine ⟨_, _, rfl, ⟨by decide, by decide⟩, fun p1 n1 => ?_⟩
    refine ⟨p1, _, rfl, SqT.of upd_same, rfl, _, _, rfl, _, _, rfl, rfl, ?_⟩
    have hz : zoneC o = (if o < 0 then 45 else 43) :: (dec2 (o.natAbs / 60) ++ dec2 (o.natAbs % 60)) := rfl
    refine ⟨_, rfl, _, _, rfl, rfl, _, rfl, ite2 (fun h => ?_) (fun h => ?_)⟩
    · have hn := of_decide_eq_true h
      rw [if_pos hn] at hz
      have c1 := cat_mk eE e45
      refine ⟨_, rfl, fitE c1 (by simp), ?_⟩
      refine ⟨_, rfl, o.natAbs / 60, rfl, by omega, ?_⟩
      have c2 := cat_mk c1 (rfl : mk (dec2 (o.natAbs / 60)) = _)
      refine ⟨_, rfl, fitE c2 (by simp [dec2_len]), ?_⟩
      refine ⟨_, rfl, o.natAbs % 60, rfl, by omega, ?_⟩
      have c3 := cat_mk c2 (rfl : mk (dec2 (o.natAbs % 60)) = _)
      refine ⟨_, rfl, fitE c3 (by simp [dec2_len]), ?_⟩
      show Q (.str _) _
      rw [c3]
      rw [hz] at q
      exact q _ (same_new n1)
    · have hn : ¬ o < 0 := fun z => h (decide_eq_true z)
      rw [if_neg hn] at hz
      have c1 := cat_mk eE e43
      refine ⟨_, rfl, fitE c1 (by simp), ?_⟩
      refine ⟨_, rfl, o.natAbs / 60, rfl, by omega, ?_⟩
      have c2 := cat_mk c1 (rfl : mk (dec2 (o.natAbs / 60)) = _)
      refine ⟨_, rfl, fitE c2 (by simp [dec2_len]), ?_⟩
      refine ⟨_, rfl, o.natAbs % 60, rfl, by omega, ?_⟩
      have c3 := cat_mk c2 (rfl : mk (dec2 (o.natAbs % 60)) = _)
      refine ⟨_, rfl, fitE c3 (by simp [dec2_len]), ?_⟩
      show Q (.str _) _
      rw [c3]
      rw [hz] at q
      exact q _ (same_new n1)
theorem dAhead_2000 : dAhead 2000 = 730119 := by decide
def spShowDateX : Sp := fun vs H Q _ => ∃ (M o : Int) (y m d s : Nat), vs = [.int M, .int o] ∧ -1439 ≤ o ∧ o ≤ 1439 ∧ Day y m d ∧ s < 86400 ∧ M + o * 60 = 86400 * ((dayNo y m d : Int) - 730119) + s ∧ ∀ H', Same H H' → Q (.str (mk (dateC y m d s o))) H'
theorem scShowDate : FnScope ["moment", "offset", "day", "second", "number", "name"] ["moment", "offset"] (defScope sShowDate) := ⟨rfl, rfl, rfl, by decide +kernel, rfl, by decide +kernel, by decide +kernel⟩
theorem x_show_date {CN : Addr} (MNoDate : MkN P w K mg base "NoDate" CN) (A : FnAt K mg "show_date" sShowDate) (R1 : Ready P w K mg base 1 "is_whole" ["value"] (spWhole K Option.isSome)) (R2 : Ready P w K mg base 1 "_days_ahead" ["year"] spDAhead)
    (R3 : Ready P w K mg base 3 "_show_day" ["number"] spShowDay) (R4 : Ready P w K mg base 1 "_show_clock" ["second"] spShowClock) (R5 : Ready P w K mg base 1 "_show_offset" ["offset"] spShowOffset) (m_divmod : mg "divmod" = none) (m_len : mg "len" = none)
    {t1 t2 t3 t4 : Tok} (m_GREATEST_OFFSET : mg "GREATEST_OFFSET" = some (.int 1439 t1)) (m_MINUTE : mg "MINUTE" = some (.int 60 t2)) (m_DAY : mg "DAY" = some (.int 86400 t3)) (m_LAST_YEAR : mg "LAST_YEAR" = some (.int 9999 t4))
    {a_WEEK : Addr} (m_WEEK : mg "WEEK" = some (.ref a_WEEK)) (hW : ∀ H, SqT K H a_WEEK (week.map V.str)) : ReadyX P w K mg base 4 "show_date" ["moment", "offset"] spShowDateX := by
  obtain ⟨f1, fd1, g1, k1, b1, G1⟩ := R1
  obtain ⟨f2, fd2, g2, k2, b2, G2⟩ := R2
  obtain ⟨f3, fd3, g3, k3, b3, G3⟩ := R3
  obtain ⟨f4, fd4, g4, k4, b4, G4⟩ := R4
  obtain ⟨f5, fd5, g5, k5, b5, G5⟩ := R5
  refine readyX_of A (fun _ _ _ _ _ _ us hl => match us, hl with | [_, _], _ => rfl) fun f fd F => ?_
  refine F.okX scShowDate (fun vs H Q E h => ?_) (fun cdv A outer s H vs Q E hr h => ?_)
  · obtain ⟨M, o, y, m, d, s, rfl, _⟩ := h
    rfl
  · obtain ⟨M, o, y, m, d, sc0, rfl, ho1, ho2, D, hs, hT, q⟩ := h
    have sc := scShowDate
    refine ⟨_, pss_cons (ps_if (PW.pt (pw_or (pt_not (pt_val (pe_call G1 (hr.mono (by decide)) (by rfl) g1 k1 b1 .nil pass0 (pa_cons (pv 0) pa_nil)))) (pw_or (pt_not (pt_val (pe_call G1 (hr.mono (by decide)) (by rfl) g1 k1 b1 .nil pass0 (pa_cons (pv 1) pa_nil)))) (pw_or1 (pt_not (pt_chain op_le op_le (pe_un un_neg (pe_glob (v := .int 1439) rfl m_GREATEST_OFFSET ⟨_, rfl⟩)) (pv 1) (pe_glob (v := .int 1439) rfl m_GREATEST_OFFSET ⟨_, rfl⟩) (by with_unfolding_all rfl)))))))
        (pss_one (ps_raise rfl (takes_of rfl rfl rfl rfl) (pmk_non MNoDate (hr.mono (by decide)) (by rfl) (pa_cons pe_str pa_nil))))
        pss_nil)
      (pss_cons (ps_asg (pe_callB call_divmod (by rfl) m_divmod (by decide +kernel) (pa_cons (pe_op op_add (pv 0) (pe_op op_mul (pv 1) (pe_glob (v := .int 60) rfl m_MINUTE ⟨_, rfl⟩))) (pa_cons (pe_glob (v := .int 86400) rfl m_DAY ⟨_, rfl⟩) pa_nil))) (pg_tup rfl (pgs_cons (pg_name (i := 2) sc.nd rfl (.inl rfl)) (pgs_cons (pg_name (i := 3) sc.nd rfl (.inl rfl)) pgs_nil))))
      (pss_cons (ps_set (i := 4) sc.nd rfl (.inl rfl) (pe_op op_add (pv 2) (pe_call G2 (hr.mono (by decide)) (by rfl) g2 k2 b2 .nil pass0 (pa_cons pe_int pa_nil))))
      (pss_cons (ps_if (pt_not (pt_chain op_le op_lt pe_int (pv 4) (pe_call G2 (hr.mono (by decide)) (by rfl) g2 k2 b2 .nil pass0 (pa_cons (pe_op op_add (pe_glob (v := .int 9999) rfl m_LAST_YEAR ⟨_, rfl⟩) pe_int) pa_nil)) (by with_unfolding_all rfl)))
        (pss_one (ps_raise rfl (takes_of rfl rfl rfl rfl) (pmk_non MNoDate (hr.mono (by decide)) (by rfl) (pa_cons pe_str pa_nil))))
        pss_nil)
      (pss_cons (ps_set (i := 5) sc.nd rfl (.inl rfl) (pe_ix ix_tup (pe_glob (v := .ref a_WEEK) rfl m_WEEK rfl) (pe_op op_mod (pv 4) (pe_callB call_len_seq (by rfl) m_len PySem.boot_len (pa_cons (pe_glob (v := .ref a_WEEK) rfl m_WEEK rfl) pa_nil))) (fun _ _ => rfl)))
      (pss_one (ps_ret (pe_joined (.cons (pe_fmt (pv 5)) (.cons pe_str (.cons (pe_fmt (pe_call G3 (hr.mono (by decide)) (by rfl) g3 k3 b3 .nil pass0 (pa_cons (pv 4) pa_nil))) (.cons pe_str (.cons (pe_fmt (pe_call G4 (hr.mono (by decide)) (by rfl) g4 k4 b4 .nil pass0 (pa_cons (pv 3) pa_nil))) (.cons pe_str (.cons (pe_fmt (pe_call G5 (hr.mono (by decide)) (by rfl) g5 k5 b5 .nil pass0 (pa_cons (pv 1) pa_nil))) .nil)))))))))))))), ?_⟩
    refine ⟨_, rfl, _, _, rfl, .int M, _, rfl, iteF ?_⟩
    refine ⟨_, rfl, _, _, rfl, .int o, _, rfl, iteF ?_⟩
    refine ⟨_, rfl, _, rfl, _, _, rfl, rfl, _, rfl, ?_⟩
    rw [decide_eq_true (by omega : (-1439 : Int) ≤ o)]
    refine iteT ⟨_, _, rfl, rfl, _, rfl, iteNS (by omega : o ≤ 1439) ?_⟩
    refine ⟨_, rfl, _, rfl, _, _, rfl, rfl, .inr ⟨by decide, by decide⟩, _, _, rfl, rfl, M + o * 60, 86400, rfl, ⟨by decide, by decide⟩, fun p1 n1 => ?_⟩
    rw [show (M + o * 60) / 86400 = ((dayNo y m d : Int) - 730119) by omega, show (M + o * 60) % 86400 = (sc0 : Int) by omega]
    refine ⟨p1, _, rfl, SqT.of upd_same, rfl, _, _, rfl, _, _, rfl, rfl, ?_⟩
    have s1 : Same H (upd H p1 (.tup [.int ((dayNo y m d : Int) - 730119), .int (sc0 : Int)])) := same_new n1
    generalize upd H p1 (.tup [.int ((dayNo y m d : Int) - 730119), .int (sc0 : Int)]) = H1 at s1
    refine ⟨_, rfl, 2000, rfl, by decide, _, _, rfl, rfl, ?_⟩
    dsimp only
    rw [show ((dayNo y m d : Int) - 730119) + ((dAhead 2000 : Nat) : Int) = ((dayNo y m d : Nat) : Int) by rw [dAhead_2000]; omega]
    refine ⟨_, rfl, _, _, rfl, rfl, _, rfl, ?_⟩
    rw [decide_eq_true (by omega : (0 : Int) ≤ ((dayNo y m d : Nat) : Int))]
    have hlt : ((dayNo y m d : Nat) : Int) < ((dAhead 10000 : Nat) : Int) := by
      rw [dAhead_big]
      have := D.lt
      omega
    have eK : [V.int ((9999 : Int) + 1)] = [V.int ((10000 : Nat) : Int)] := congrArg (fun i => [V.int i]) (by decide)
    refine iteT ⟨_, _, rfl, rfl, 10000, eK, by decide, _, _, rfl, rfl, _, rfl, ?_⟩
    generalize dAhead 10000 = big at hlt
    refine iteNS hlt ?_
    have h7 : dayNo y m d % 7 < 7 := Nat.mod_lt _ (by decide)
    refine ⟨_, rfl, a_WEEK, _, rfl, .inr (hW _), _, _, rfl, rfl, (by show (0 : Int) < 7; decide), a_WEEK, _, _, .str (mk (weekC (dayNo y m d % 7))), rfl, rfl, hW _, atI_nat (j := dayNo y m d % 7) (by rw [List.getElem?_map, week_at h7]; rfl), ?_⟩
    have wl := weekC_len h7
    have dl : (dayC y m d).length ≤ 20 := by
      unfold dayC
      have := decs_len d
      have := monC_len (m - 1)
      simp only [List.length_append, dec4_len, List.length_singleton]
      omega
    have cl : (clockC sc0).length = 8 := rfl
    have zl : (zoneC o).length = 5 := rfl
    refine ⟨_, rfl, .inl ⟨_, rfl, fit (by omega), ?_⟩⟩
    have c1 := cat_mk eE (rfl : mk (weekC (dayNo y m d % 7)) = _)
    refine ⟨_, rfl, fitE c1 (by simp; omega), ?_⟩
    have c2 := cat_mk c1 e44
    refine ⟨_, rfl, fitE c2 (by simp; omega), ?_⟩
    refine ⟨_, rfl, dayNo y m d, y, m, d, rfl, D, rfl, .inl ⟨_, rfl, fit (by omega), ?_⟩⟩
    have c3 := cat_mk c2 (rfl : mk (dayC y m d) = _)
    refine ⟨_, rfl, fitE c3 (by simp; omega), ?_⟩
    have c4 := cat_mk c3 e32
    refine ⟨_, rfl, fitE c4 (by simp; omega), ?_⟩
    refine ⟨_, rfl, sc0, rfl, hs, fun H2 s2 => .inl ⟨_, rfl, fit (by omega), ?_⟩⟩
    have c5 := cat_mk c4 (rfl : mk (clockC sc0) = _)
    refine ⟨_, rfl, fitE c5 (by simp; omega), ?_⟩
    have c6 := cat_mk c5 e32
    refine ⟨_, rfl, fitE c6 (by simp; omega), ?_⟩
    refine ⟨_, rfl, o, rfl, ho1, ho2, fun H3 s3 => .inl ⟨_, rfl, fit (by omega), ?_⟩⟩
    have c7 := cat_mk c6 (rfl : mk (zoneC o) = _)
    refine ⟨_, rfl, fitE c7 (by simp; omega), ?_⟩
    show Q (.str _) _
    rw [c7]
    exact q _ ((s1.trans s2).trans s3)
end
end FL


namespace FL
open PySem PySem.Spec PyProof.Rows L2
/-! ### the mirror of the readers -/
def figsVal (t : List Nat) : Nat := NumText.digitsVal t
def readFig (t szs : List Nat) (lo hi : Nat) : Option Nat :=
  if t.length ∈ szs ∧ t.all isFig = true ∧ lo ≤ figsVal t ∧ figsVal t ≤ hi then some (figsVal t) else none
def monIx (z : Str) : Option Nat := mons.findIdx? fun x => decide (x = z)
def readDay (d mo y : Str) : Option Nat := match monIx mo with
  | none => none
  | some k => match readFig y.cps.toList [4] 1 9999 with
    | none => none
    | some y => match readFig d.cps.toList [1, 2] 1 (daysOf y k) with
      | none => none
      | some d => some (dAhead y + cum y k + d - 1)
def clock3 (ps : List Str) : Option Nat := match ps with
  | [a, b, c] => match readFig a.cps.toList [2] 0 23 with
    | none => none
    | some h => match readFig b.cps.toList [2] 0 59 with
      | none => none
      | some m => match readFig c.cps.toList [2] 0 59 with
        | none => none
        | some s => some (h * 3600 + m * 60 + s)
  | _ => none
def readClock (z : Str) : Option Nat := clock3 (if (Txt.split z ":").length = 2 then Txt.split z ":" ++ [("00" : Str)] else Txt.split z ":")
theorem mon_some {z : Str} {k : Nat} (h : monIx z = some k) : k < 12 ∧ mons[k]? = some z ∧ ∀ m, m < k → mons[m]? ≠ some z := by
  unfold monIx at h
  rw [List.findIdx?_eq_some_iff_getElem] at h
  obtain ⟨hk, h1, h2⟩ := h
  have h1' := of_decide_eq_true h1
  refine ⟨hk, by rw [List.getElem?_eq_getElem hk, h1'], fun m hm e => ?_⟩
  have h3 := h2 m hm
  rw [List.getElem?_eq_getElem (show m < mons.length by omega)] at e
  injection e with e
  exact h3 (decide_eq_true e)
theorem mon_none {z : Str} (h : monIx z = none) : z ∉ mons := by
  unfold monIx at h
  rw [List.findIdx?_eq_none_iff] at h
  intro hz
  have := h z hz
  rw [decide_eq_true rfl] at this
  cases this
theorem eqV_str (a b : Str) : eqV (.str a) (.str b) = decide (a = b) := by
  show (a == b) = decide (a = b)
  by_cases h : a = b
  · rw [decide_eq_true h, h]; exact beq_self_eq_true b
  · rw [decide_eq_false h]; exact beq_false_of_ne h
theorem inV_strs (z : Str) (l : List Str) : inV (.str z) (l.map V.str) = decide (z ∈ l) := by
  unfold inV
  rw [List.any_map]
  by_cases h : z ∈ l
  · rw [decide_eq_true h]
    exact List.any_eq_true.mpr ⟨z, h, by show eqV (.str z) (.str z) = true; rw [eqV_str, decide_eq_true rfl]⟩
  · rw [decide_eq_false h, List.any_eq_false]
    intro x hx
    show ¬ eqV (.str x) (.str z) = true
    rw [eqV_str, decide_eq_false (fun (e : x = z) => h (e ▸ hx))]
    exact Bool.false_ne_true
theorem eqV_int (a b : Int) : eqV (.int a) (.int b) = decide (a = b) := by
  show (a == b) = decide (a = b)
  by_cases h : a = b
  · rw [decide_eq_true h, h]; exact beq_self_eq_true b
  · rw [decide_eq_false h]; exact beq_false_of_ne h
theorem inV_ints (n : Nat) (l : List Nat) : inV (.int (n : Int)) (l.map fun n : Nat => V.int (n : Int)) = decide (n ∈ l) := by
  unfold inV
  rw [List.any_map]
  by_cases h : n ∈ l
  · rw [decide_eq_true h]
    exact List.any_eq_true.mpr ⟨n, h, by show eqV (.int (n : Int)) (.int (n : Int)) = true; rw [eqV_int, decide_eq_true rfl]⟩
  · rw [decide_eq_false h, List.any_eq_false]
    intro x hx
    show ¬ eqV (.int (x : Int)) (.int (n : Int)) = true
    rw [eqV_int, decide_eq_false (fun e => h (by have : x = n := by omega
                                                 exact this ▸ hx))]
    exact Bool.false_ne_true
theorem flat_strs (l : List Str) : (l.map V.str).all flatV = true := by
  rw [List.all_map]
  exact List.all_eq_true.mpr fun _ _ => rfl
theorem flat_ints (l : List Nat) : (l.map fun n : Nat => V.int (n : Int)).all flatV = true := by
  rw [List.all_map]
  exact List.all_eq_true.mpr fun _ _ => rfl
section
variable {P : Program} {w : World} {K : PySem.W.Frag} {mg : Str → Option Value} {base : Heap}
/-- gives f of it, or refuses -/
def Opt {α : Type} (o : Option α) (CN : Addr) (H : Hp) (Q : α → Hp → Prop) (E : XK) : Prop := (∀ x, o = some x → ∀ H', Same H H' → Q x H') ∧ (o = none → ∀ H', Same H H' → E (.ref CN) none H')
theorem Opt.later {α : Type} {o : Option α} {CN : Addr} {H H1 : Hp} {Q : α → Hp → Prop} {E : XK} (h : Opt o CN H Q E) (s : Same H H1) : Opt o CN H1 Q E := ⟨fun x e H' s' => h.1 x e H' (s.trans s'), fun e H' s' => h.2 e H' (s.trans s')⟩
def spReadFig (K : PySem.W.Frag) (CN : Addr) : Sp := fun vs H Q E => ∃ (z : Str) (a : Addr) (szs : List Nat) (lo hi : Nat), vs = [.str z, .ref a, .int (lo : Int), .int (hi : Int)] ∧ z.length ≤ 600 ∧ H a = some (.tup (szs.map fun n : Nat => V.int (n : Int))) ∧ 0 ∉ szs ∧
  Opt (readFig z.cps.toList szs lo hi) CN H (fun n H' => Q (.int (n : Nat)) H') E
theorem scReadFigures : FnScope ["text", "sizes", "least", "greatest", "number", "sign"] ["text", "sizes", "least", "greatest"] (defScope sReadFigures) := ⟨rfl, rfl, rfl, by decide +kernel, rfl, by decide +kernel, by decide +kernel⟩
theorem x_read_figures {CN : Addr} (MNoDate : MkN P w K mg base "NoDate" CN) (A : FnAt K mg "_read_figures" sReadFigures) (R1 : Ready P w K mg base 1 "is_figure" ["sign"] (spSign isFig)) (m_all : mg "all" = none) (m_int : mg "int" = none) (m_len : mg "len" = none) :
    ReadyX P w K mg base 3 "_read_figures" ["text", "sizes", "least", "greatest"] (spReadFig K CN) := by
  obtain ⟨f1, fd1, g1, k1, b1, G1⟩ := R1
  refine readyX_of A (fun _ _ _ _ _ _ us hl => match us, hl with | [_, _, _, _], _ => rfl) fun f fd F => ?_
  refine F.okX scReadFigures (fun vs H Q E h => ?_) (fun cdv A outer s H vs Q E hr h => ?_)
  · obtain ⟨z, a, szs, lo, hi, rfl, _⟩ := h
    rfl
  · obtain ⟨z, a, szs, lo, hi, rfl, hz, ha, h0, q⟩ := h
    have sc := scReadFigures
    refine ⟨_, pss_cons (ps_if (PW.pt (pw_or (pt_cmpR op_notIn_seq (pe_callB call_len_str (by rfl) m_len PySem.boot_len (pa_cons (pv 0) pa_nil)) (pv 1) (by rfl)) (pw_or1 (pt_not (pt_val (pe_callB (cr_all rfl) (by rfl) m_all (by decide +kernel) (pa_cons (pe_lc (own := [("sign", 5)]) (g := gName 5) (tt := tYes) (by rfl) sc.nd (pi_str (pv 0)) (blkOk_by (own := [("sign", 5)]) (N := ["text", "sizes", "least", "greatest", "number", "sign"]) (sc := defScope sReadFigures) (by decide +kernel)) (fun _ _ _ _ _ => (pg_name (i := 5) sc.nd rfl (.inl rfl))) (fun _ _ _ _ _ => pts_nil) (fun _ _ _ _ _ => (pe_call G1 (hr.mono (by decide)) (by rfl) g1 k1 b1 .nil pass0 (pa_cons (pv 5) pa_nil)))) pa_nil)))))))
        (pss_one (ps_raise rfl (takes_of rfl rfl rfl rfl) (pmk_non MNoDate (hr.mono (by decide)) (by rfl) (pa_cons pe_str pa_nil))))
        pss_nil)
      (pss_cons (ps_set (i := 4) sc.nd rfl (.inl rfl) (pe_callTy call_int_str (by rfl) m_int (by decide +kernel) (pa_cons (pv 0) pa_nil)))
      (pss_cons (ps_if (pt_not (pt_chain op_le op_le (pv 2) (pv 4) (pv 3) (by with_unfolding_all rfl)))
        (pss_one (ps_raise rfl (takes_of rfl rfl rfl rfl) (pmk_non MNoDate (hr.mono (by decide)) (by rfl) (pa_cons pe_str pa_nil))))
        pss_nil)
      (pss_one (ps_ret (pv 4))))), ?_⟩
    refine ⟨_, rfl, _, rfl, Nat.le_of_lt (szl (by omega)), _, rfl, a, _, rfl, .inr (SqT.of ha), rfl, flat_ints szs, _, rfl, ?_⟩
    rw [show (inV (.int (z.length : Nat)) (szs.map fun n : Nat => V.int (n : Int))) = decide (z.length ∈ szs) from inV_ints _ _]
    have hl := len_cps z
    by_cases h1 : z.length ∈ szs
    · rw [decide_eq_true h1]
      refine iteF ?_
      refine ⟨_, rfl, z, rfl, fun D hD => ?_⟩
      refine lc_it walk_str (fun i H' => Same H H' ∧ H' D = some (.lst ((z.cps.toList.take i).map fun c => V.bl (isFig c)))) ⟨same_new hD, upd_same⟩ (fun _ _ _ _ => trivial) (fun i x H1 H2 hi2 hp hy => ?_) (fun H1 hp => ?_)
      · obtain ⟨rfl, c, hc, rfl⟩ := hy
        obtain ⟨sm, hd⟩ := hp
        have hc' := cps_at hc
        refine ⟨rfl, ?_⟩
        unfold tYes
        refine iteT ?_
        refine ⟨_, rfl, c, rfl, _, hd, ?_, same_set sm hD, ?_⟩
        · rw [List.length_map]
          exact Nat.lt_of_le_of_lt (List.length_take_le _ _) (szl (by have h2 : z.cps.size = z.length := rfl; omega))
        · rw [upd_same, take_more hc', List.map_append]
          rfl
      · obtain ⟨sm, hd⟩ := hp
        have e : z.cps.toList.take z.cps.size = z.cps.toList := List.take_of_length_le (by simp)
        rw [e] at hd
        refine ⟨D, z.cps.toList.map isFig, rfl, SqL.of (by rw [List.map_map]; exact hd), _, rfl, ?_⟩
        rw [show (z.cps.toList.map isFig).all id = z.cps.toList.all isFig from by rw [List.all_map]; rfl]
        by_cases h2 : z.cps.toList.all isFig = true
        · rw [h2]
          refine iteF ?_
          have hne : z.cps.toList ≠ [] := fun e => by
            rw [← hl, e] at h1
            exact h0 h1
          have hv : intText? z = some ((figsVal z.cps.toList : Nat) : Int) := by
            have := SX.int_S (a := z.cps.toList) (by
              rw [List.all_eq_true] at h2 ⊢
              intro x hx
              have := of_decide_eq_true (h2 x hx)
              simp only [Bool.and_eq_true, decide_eq_true_eq]
              exact this) hne (by omega)
            exact this
          refine ⟨_, rfl, z, _, rfl, hv, by omega, ?_⟩
          refine ⟨_, rfl, _, rfl, _, _, rfl, rfl, _, rfl, ?_⟩
          by_cases h3 : lo ≤ figsVal z.cps.toList
          · rw [decide_eq_true (by omega : (lo : Int) ≤ ((figsVal z.cps.toList : Nat) : Int))]
            refine iteT ⟨_, rfl, _, _, rfl, rfl, _, rfl, ?_⟩
            by_cases h4 : figsVal z.cps.toList ≤ hi
            · refine iteNS (by omega : ((figsVal z.cps.toList : Nat) : Int) ≤ (hi : Int)) ?_
              exact ⟨_, rfl, q.1 _ (if_pos ⟨by rw [hl]; exact h1, h2, h3, h4⟩) H1 sm⟩
            · rw [decide_eq_false (by omega : ¬ ((figsVal z.cps.toList : Nat) : Int) ≤ (hi : Int))]
              exact iteT ⟨⟨_, rfl⟩, q.2 (if_neg fun z => h4 z.2.2.2) H1 sm⟩
          · rw [decide_eq_false (by omega : ¬ (lo : Int) ≤ ((figsVal z.cps.toList : Nat) : Int))]
            exact iteF ⟨_, rfl, iteT ⟨⟨_, rfl⟩, q.2 (if_neg fun z => h3 z.2.2.1) H1 sm⟩⟩
        · rw [eq_false_of_ne_true h2]
          exact iteT ⟨⟨_, rfl⟩, q.2 (if_neg fun z => h2 z.2.1) H1 sm⟩
    · rw [decide_eq_false h1]
      exact iteT (iteT ⟨⟨_, rfl⟩, q.2 (if_neg fun z => h1 (by rw [← hl]; exact z.1)) H (Same.refl H)⟩)
def spReadDay (CN : Addr) : Sp := fun vs H Q E => ∃ d mo y : Str, vs = [.str d, .str mo, .str y] ∧ d.length ≤ 600 ∧ mo.length ≤ 600 ∧ y.length ≤ 600 ∧ Opt (readDay d mo y) CN H (fun n H' => Q (.int (n : Nat)) H') E
theorem scReadDay : FnScope ["day", "month", "year", "month_number", "year_number", "day_number", "ahead", "number"] ["day", "month", "year"] (defScope sReadDay) := ⟨rfl, rfl, rfl, by decide +kernel, rfl, by decide +kernel, by decide +kernel⟩
theorem x_read_day {CN : Addr} (MNoDate : MkN P w K mg base "NoDate" CN) (A : FnAt K mg "_read_day" sReadDay) (R1 : ReadyX P w K mg base 3 "_read_figures" ["text", "sizes", "least", "greatest"] (spReadFig K CN)) (R2 : Ready P w K mg base 2 "_days_of" ["year", "month"] spDaysOf)
    (R3 : Ready P w K mg base 1 "_days_ahead" ["year"] spDAhead) (m_range : mg "range" = none) (m_sum : mg "sum" = none) {t1 : Tok} (m_LAST_YEAR : mg "LAST_YEAR" = some (.int 9999 t1)) {a_MONTHS : Addr} (m_MONTHS : mg "MONTHS" = some (.ref a_MONTHS)) (hM : ∀ H, SqT K H a_MONTHS (mons.map V.str)) (kM : ∃ o, K.lookup a_MONTHS = some o ∧ o.cls = .type "tuple" ∧ o.dict = none) :
    ReadyX P w K mg base 4 "_read_day" ["day", "month", "year"] (spReadDay CN) := by
  obtain ⟨f1, fd1, g1, k1, b1, G1⟩ := R1
  obtain ⟨f2, fd2, g2, k2, b2, G2⟩ := R2
  obtain ⟨f3, fd3, g3, k3, b3, G3⟩ := R3
  refine readyX_of A (fun _ _ _ _ _ _ us hl => match us, hl with | [_, _, _], _ => rfl) fun f fd F => ?_
  refine F.okX scReadDay (fun vs H Q E h => ?_) (fun cdv A outer s H vs Q E hr h => ?_)
  · obtain ⟨d, mo, y, rfl, _⟩ := h
    rfl
  · obtain ⟨d, mo, y, rfl, hd, hmo, hy, q⟩ := h
    have sc := scReadDay
    refine ⟨_, pss_cons (ps_if (pt_cmpR op_notIn_seq (pv 1) (pe_glob (v := .ref a_MONTHS) rfl m_MONTHS rfl) (by rfl))
        (pss_one (ps_raise rfl (takes_of rfl rfl rfl rfl) (pmk_non MNoDate (hr.mono (by decide)) (by rfl) (pa_cons pe_str pa_nil))))
        pss_nil)
      (pss_cons (ps_set (i := 3) sc.nd rfl (.inl rfl) (pe_bm PySem.F.plainAttrs_tuple PySem.F.slot_tuple_index PySem.F.type_tuple_index mt_tup_index (pe_glob (v := .ref a_MONTHS) rfl m_MONTHS rfl) (pa_cons (pv 1) pa_nil)))
      (pss_cons (ps_set (i := 4) sc.nd rfl (.inr rfl) (pe_call G1 (hr.mono (by decide)) (by rfl) g1 k1 b1 .nil (E := E) (passes_call (takes_of rfl rfl rfl rfl) (fun _ _ _ _ h => h)) (pa_cons (pv 2) (pa_cons (pe_tup (pa_cons pe_int pa_nil)) (pa_cons pe_int (pa_cons (pe_glob (v := .int 9999) rfl m_LAST_YEAR ⟨_, rfl⟩) pa_nil))))))
      (pss_cons (ps_set (i := 5) sc.nd rfl (.inl rfl) (pe_call G1 (hr.mono (by decide)) (by rfl) g1 k1 b1 .nil (E := E) (passes_call (takes_of rfl rfl rfl rfl) (fun _ _ _ _ h => h)) (pa_cons (pv 0) (pa_cons (pe_tup (pa_cons pe_int (pa_cons pe_int pa_nil))) (pa_cons pe_int (pa_cons (pe_call G2 (hr.mono (by decide)) (by rfl) g2 k2 b2 .nil pass0 (pa_cons (pv 4) (pa_cons (pv 3) pa_nil))) pa_nil))))))
      (pss_cons (ps_set (i := 6) sc.nd rfl (.inl rfl) (pe_callB (cr_sum rfl) (by rfl) m_sum (by decide +kernel) (pa_cons (pe_lc (own := [("number", 7)]) (g := gName 7) (tt := tYes) (by rfl) sc.nd (pi_range1 (by rfl) m_range (pa_cons (pv 3) pa_nil)) (blkOk_by (own := [("number", 7)]) (N := ["day", "month", "year", "month_number", "year_number", "day_number", "ahead", "number"]) (sc := defScope sReadDay) (by decide +kernel)) (fun _ _ _ _ _ => (pg_name (i := 7) sc.nd rfl (.inl rfl))) (fun _ _ _ _ _ => pts_nil) (fun _ _ _ _ _ => (pe_call G2 (hr.mono (by decide)) (by rfl) g2 k2 b2 .nil pass0 (pa_cons (pv 4) (pa_cons (pv 7) pa_nil))))) pa_nil)))
      (pss_one (ps_ret (pe_op op_sub (pe_op op_add (pe_op op_add (pe_call G3 (hr.mono (by decide)) (by rfl) g3 k3 b3 .nil pass0 (pa_cons (pv 4) pa_nil)) (pv 6)) (pv 5)) pe_int))))))), ?_⟩
    refine ⟨_, rfl, a_MONTHS, _, rfl, .inr (hM _), rfl, flat_strs mons, _, rfl, ?_⟩
    rw [show inV (.str mo) (mons.map V.str) = decide (mo ∈ mons) from inV_strs _ _]
    unfold readDay at q
    cases hk : monIx mo with
    | none =>
      rw [hk] at q
      rw [decide_eq_false (mon_none hk)]
      exact iteT ⟨⟨_, rfl⟩, q.2 rfl H (Same.refl H)⟩
    | some k =>
      rw [hk] at q
      dsimp only at q
      obtain ⟨hk12, hk1, hk2⟩ := mon_some hk
      rw [decide_eq_true (List.mem_of_getElem? hk1)]
      refine iteF ?_
      refine ⟨.inr (.inl ⟨rfl, kM⟩), _, rfl, a_MONTHS, mons, mo, k, rfl, rfl, hM _, hk1, hk2, ?_⟩
      refine ⟨_, rfl, (by show 1 ≤ sizeLine; decide), fun p1 n1 => ?_⟩
      have s1 : Same H (upd H p1 (.tup [.int 4])) := same_new n1
      refine ⟨y, p1, [4], 1, 9999, rfl, hy, upd_same, by decide, fun yy eyy H2 s2 => ?_, fun eno H2 s2 => ?_⟩
      · rw [eyy] at q
        dsimp only at q
        have hyy : 1 ≤ yy := by
          unfold readFig at eyy
          split at eyy
          · rename_i g
            injection eyy with eyy
            omega
          · cases eyy
        have s3 : Same H H2 := s1.trans s2
        refine ⟨_, rfl, (by show 2 ≤ sizeLine; decide), fun p2 n2 => ?_⟩
        have s4 : Same H (upd H2 p2 (.tup [.int 1, .int 2])) := s3.trans (same_new n2)
        refine ⟨_, rfl, _, rfl, yy, k, rfl, hyy, hk12, ?_⟩
        refine ⟨d, p2, [1, 2], 1, daysOf yy k, rfl, hd, upd_same, by decide, fun dd edd H5 s5 => ?_, fun eno H5 s5 => ?_⟩
        · rw [edd] at q
          have s6 := s4.trans s5
          refine ⟨_, rfl, k, rfl, by omega, by omega, fun D hD => ?_⟩
          refine lc_it walk_range (fun i H' => Same H5 H' ∧ H' D = some (.lst (((List.range i).map fun m => ((daysOf yy m : Nat) : Int)).map V.int))) ⟨same_new hD, upd_same⟩ (fun _ _ _ _ => trivial) (fun i x H6 H7 hi hp hyx => ?_) (fun H6 hp => ?_)
          · obtain ⟨sm, hdl⟩ := hp
            obtain ⟨rfl, hx⟩ := hyx
            have hx' : x = .int (i : Nat) := by
              rw [hx]
              exact congrArg V.int (Int.zero_add _)
            subst hx'
            refine ⟨rfl, ?_⟩
            unfold tYes
            refine iteT ?_
            refine ⟨_, rfl, _, rfl, yy, i, rfl, hyy, by omega, _, hdl, ?_, same_set sm hD, ?_⟩
            · rw [List.length_map, List.length_map, List.length_range]
              exact szl (by omega)
            · rw [upd_same, List.range_succ, List.map_append, List.map_append]
              rfl
          · obtain ⟨sm, hdl⟩ := hp
            refine ⟨D, _, rfl, SqL.of hdl, ?_⟩
            have hsum : ∀ k, ((List.range k).map fun m => ((daysOf yy m : Nat) : Int)).sum = ((cum yy k : Nat) : Int) := fun k => by
              induction k with
              | zero => rfl
              | succ k ih =>
                rw [List.range_succ, List.map_append, List.sum_append, ih]
                show ((cum yy k : Nat) : Int) + (((daysOf yy k : Nat) : Int) + 0) = ((cum yy k + daysOf yy k : Nat) : Int)
                omega
            have hks : ((List.range ((k : Int)).toNat).map fun m => ((daysOf yy m : Nat) : Int)).sum = ((cum yy k : Nat) : Int) := by
              rw [Int.toNat_natCast]
              exact hsum k
            refine ⟨_, rfl, yy, rfl, hyy, _, rfl, _, _, rfl, rfl, _, rfl, _, _, rfl, rfl, _, _, rfl, rfl, ?_⟩
            have hdd : 1 ≤ dd := by
              unfold readFig at edd
              split at edd
              · rename_i g
                injection edd with edd
                omega
              · cases edd
            have hq : Q (V.int ((dAhead yy + cum yy k + dd - 1 : Nat) : Int)) H6 := q.1 _ rfl H6 (s6.trans sm)
            have e9 : ((((dAhead yy : Nat) : Int) + ((List.range ((k : Int)).toNat).map fun m => ((daysOf yy m : Nat) : Int)).sum) + (dd : Int) - 1) = ((dAhead yy + cum yy k + dd - 1 : Nat) : Int) := by
              rw [hks]
              omega
            rw [← e9] at hq
            exact hq
        · exact q.2 (by rw [eno]) _ (s4.trans s5)
      · exact q.2 (by rw [eno]) _ (s1.trans s2)
def spReadClock (CN : Addr) : Sp := fun vs H Q E => ∃ z : Str, vs = [.str z] ∧ z.length ≤ 600 ∧ (∀ y ∈ Txt.split z (":" : Str), y.length ≤ 600) ∧ Opt (readClock z) CN H (fun n H' => Q (.int (n : Nat)) H') E
theorem scReadClock : FnScope ["text", "pieces", "hour", "minute"] ["text"] (defScope sReadClock) := ⟨rfl, rfl, rfl, by decide +kernel, rfl, by decide +kernel, by decide +kernel⟩
theorem x_read_clock {CN : Addr} (MNoDate : MkN P w K mg base "NoDate" CN) (A : FnAt K mg "_read_clock" sReadClock) (R1 : ReadyX P w K mg base 3 "_read_figures" ["text", "sizes", "least", "greatest"] (spReadFig K CN)) (m_len : mg "len" = none)
    {t1 t2 : Tok} (m_HOUR : mg "HOUR" = some (.int 3600 t1)) (m_MINUTE : mg "MINUTE" = some (.int 60 t2)) : ReadyX P w K mg base 4 "_read_clock" ["text"] (spReadClock CN) := by
  obtain ⟨f1, fd1, g1, k1, b1, G1⟩ := R1
  refine readyX_of A (fun _ _ _ _ _ _ us hl => match us, hl with | [_], _ => rfl) fun f fd F => ?_
  refine F.okX scReadClock (fun vs H Q E h => ?_) (fun cdv A outer s H vs Q E hr h => ?_)
  · obtain ⟨z, rfl, _⟩ := h
    rfl
  · obtain ⟨z, rfl, hz, hps, q⟩ := h
    have sc := scReadClock
    refine ⟨_, pss_cons (ps_set (i := 1) sc.nd rfl (.inl rfl) (pe_split (pv 0) pe_str))
      (pss_cons (ps_if (pt_cmpR op_eq (pe_callB call_len_seq (by rfl) m_len PySem.boot_len (pa_cons (pv 1) pa_nil)) pe_int (nomark _))
        (pss_one (ps_expr (pe_bm PySem.F.plainAttrs_list PySem.F.slot_list_append PySem.F.type_list_append mt_append (pv 1) (pa_cons pe_str pa_nil))))
        pss_nil)
      (pss_cons (ps_if (pt_cmpR op_ne (pe_callB call_len_seq (by rfl) m_len PySem.boot_len (pa_cons (pv 1) pa_nil)) pe_int (nomark _))
        (pss_one (ps_raise rfl (takes_of rfl rfl rfl rfl) (pmk_non MNoDate (hr.mono (by decide)) (by rfl) (pa_cons pe_str pa_nil))))
        pss_nil)
      (pss_cons (ps_set (i := 2) sc.nd rfl (.inl rfl) (pe_call G1 (hr.mono (by decide)) (by rfl) g1 k1 b1 .nil (E := E) (passes_call (takes_of rfl rfl rfl rfl) (fun _ _ _ _ h => h)) (pa_cons (pe_ix ix_list (pv 1) pe_int (fun _ _ => rfl)) (pa_cons (pe_tup (pa_cons pe_int pa_nil)) (pa_cons pe_int (pa_cons pe_int pa_nil))))))
      (pss_cons (ps_set (i := 3) sc.nd rfl (.inl rfl) (pe_call G1 (hr.mono (by decide)) (by rfl) g1 k1 b1 .nil (E := E) (passes_call (takes_of rfl rfl rfl rfl) (fun _ _ _ _ h => h)) (pa_cons (pe_ix ix_list (pv 1) pe_int (fun _ _ => rfl)) (pa_cons (pe_tup (pa_cons pe_int pa_nil)) (pa_cons pe_int (pa_cons pe_int pa_nil))))))
      (pss_one (ps_ret (pe_op op_add (pe_op op_add (pe_op op_mul (pv 2) (pe_glob (v := .int 3600) rfl m_HOUR ⟨_, rfl⟩)) (pe_op op_mul (pv 3) (pe_glob (v := .int 60) rfl m_MINUTE ⟨_, rfl⟩))) (pe_call G1 (hr.mono (by decide)) (by rfl) g1 k1 b1 .nil (E := E) (passes_call (takes_of rfl rfl rfl rfl) (fun _ _ _ _ h => h)) (pa_cons (pe_ix ix_list (pv 1) pe_int (fun _ _ => rfl)) (pa_cons (pe_tup (pa_cons pe_int pa_nil)) (pa_cons pe_int (pa_cons pe_int pa_nil)))))))))))), ?_⟩
    refine ⟨_, rfl, ⟨_, rfl⟩, _, _, rfl, rfl, by decide +kernel, by rw [sizeLine_eq]; omega, fun p1 n1 => ?_⟩
    unfold readClock at q
    have hpl : (Txt.split z (":" : Str)).length ≤ 602 := by
      have := PyProof.Rows.split_le z (":" : Str)
      omega
    generalize Txt.split z (":" : Str) = ps at q hps hpl
    refine ⟨_, rfl, p1, _, rfl, .inl (SqL.of upd_same), rfl, _, rfl, ?_⟩
    rw [List.length_map]
    refine ite2 (fun h => ?pos) (fun h => ?neg)
    case' pos =>
      have h2 : ps.length = 2 := by have := V.int.inj (of_decide_eq_true h); omega
      rw [if_pos h2] at q
      refine ⟨_, rfl, .inl ⟨rfl, _, SqL.of upd_same⟩, p1, _, _, rfl, rfl, upd_same, by rw [List.length_map]; exact szl (by omega), ?_⟩
      have hq : upd (upd H p1 (.lst (ps.map V.str))) p1 (.lst (ps.map V.str ++ [V.str ("00" : Str)])) p1 = some (.lst ((ps ++ [("00" : Str)]).map V.str)) := by
        rw [upd_same, List.map_append]
        rfl
      have sm : Same H (upd (upd H p1 (.lst (ps.map V.str))) p1 (.lst (ps.map V.str ++ [V.str ("00" : Str)]))) := same_set (same_new n1) n1
      have hqs : ∀ y ∈ ps ++ [("00" : Str)], y.length ≤ 600 := fun y hy => by
        rcases List.mem_append.mp hy with hy | hy
        · exact hps y hy
        · rw [List.mem_singleton.mp hy]
          decide +kernel
      have hql : (ps ++ [("00" : Str)]).length ≤ 700 := by rw [List.length_append]; show _ + 1 ≤ _; omega
      generalize ps ++ [("00" : Str)] = qs at q hq hqs hql
      generalize upd (upd H p1 (.lst (ps.map V.str))) p1 (.lst (ps.map V.str ++ [V.str ("00" : Str)])) = H2 at hq sm
    case' neg =>
      have h2 : ¬ ps.length = 2 := fun z => h (decide_eq_true (congrArg V.int (by omega)))
      rw [if_neg h2] at q
      have hq : upd H p1 (.lst (ps.map V.str)) p1 = some (.lst (ps.map V.str)) := upd_same
      have sm : Same H (upd H p1 (.lst (ps.map V.str))) := same_new n1
      have hqs := hps
      have hql : ps.length ≤ 700 := by omega
      generalize upd H p1 (.lst (ps.map V.str)) = H2 at hq sm
      generalize ps = qs at q hq hqs hql
    all_goals
      clear h2 h
      refine ⟨_, rfl, p1, _, rfl, .inl (SqL.of hq), rfl, _, rfl, ?_⟩
      rw [List.length_map]
      match qs, q, hq, hqs, hql with
      | [], q, hq, hqs, _ => exact iteT ⟨⟨_, rfl⟩, q.2 rfl _ sm⟩
      | [_], q, hq, hqs, _ => exact iteT ⟨⟨_, rfl⟩, q.2 rfl _ sm⟩
      | [_, _], q, hq, hqs, _ => exact iteT ⟨⟨_, rfl⟩, q.2 rfl _ sm⟩
      | x :: y :: u :: v :: r, q, hq, hqs, _ =>
        rw [show decide (V.int ((x :: y :: u :: v :: r).length : Nat) = V.int 3) = false from decide_eq_false fun z => by
          have := V.int.inj z
          simp only [List.length_cons] at this
          omega]
        exact iteT ⟨⟨_, rfl⟩, q.2 rfl _ sm⟩
      | [a, b, c], q, hq, hqs, _ =>
        refine iteF ?_
        unfold clock3 at q
        dsimp only at q
        refine ⟨_, rfl, p1, _, _, .str a, rfl, rfl, SqL.of hq, rfl, (by show 1 ≤ sizeLine; decide), fun p2 n2 => ?_⟩
        refine ⟨a, p2, [2], 0, 23, rfl, hqs a (by simp), upd_same, by decide, fun hh eh H3 s3 => ?_, fun eno H3 s3 => ?_⟩
        · rw [eh] at q
          dsimp only at q
          have t3 : Same H2 H3 := (same_new n2).trans s3
          refine ⟨_, rfl, p1, _, _, .str b, rfl, rfl, SqL.of (t3 _ _ hq), rfl, (by show 1 ≤ sizeLine; decide), fun p3 n3 => ?_⟩
          refine ⟨b, p3, [2], 0, 59, rfl, hqs b (by simp), upd_same, by decide, fun mm em H4 s4 => ?_, fun eno H4 s4 => ?_⟩
          · rw [em] at q
            dsimp only at q
            have t4 : Same H2 H4 := t3.trans ((same_new n3).trans s4)
            refine ⟨_, rfl, _, _, rfl, rfl, .inr ⟨by decide, by decide⟩, _, rfl, _, _, rfl, rfl, .inr ⟨by decide, by decide⟩, _, _, rfl, rfl, ?_⟩
            refine ⟨_, rfl, p1, _, _, .str c, rfl, rfl, SqL.of (t4 _ _ hq), rfl, (by show 1 ≤ sizeLine; decide), fun p4 n4 => ?_⟩
            refine ⟨c, p4, [2], 0, 59, rfl, hqs c (by simp), upd_same, by decide, fun ss es H5 s5 => ?_, fun eno H5 s5 => ?_⟩
            · rw [es] at q
              exact ⟨_, _, rfl, rfl, q.1 _ rfl H5 (sm.trans (t4.trans ((same_new n4).trans s5)))⟩
            · rw [eno] at q
              exact q.2 rfl H5 (sm.trans (t4.trans ((same_new n4).trans s5)))
          · rw [eno] at q
            exact q.2 rfl H4 (sm.trans (t3.trans ((same_new n3).trans s4)))
        · rw [eno] at q
          exact q.2 rfl H3 (sm.trans ((same_new n2).trans s3))
/-- the minutes of an offset's text -/
def readOff (z : Str) : Option Int :=
  if z = ("UT" : Str) then some 0
  else if Txt.startswith z ("+" : Str) = false ∧ Txt.startswith z ("-" : Str) = false then none
  else if z.length ≠ 5 then none
  else match readFig (cutS z (some 1) (some 3)).cps.toList [2] 0 23 with
    | none => none
    | some h => match readFig (cutS z (some 3) (some 5)).cps.toList [2] 0 59 with
      | none => none
      | some m => some (if Txt.startswith z ("-" : Str) = true then -(((h * 60 + m : Nat) : Int)) else ((h * 60 + m : Nat) : Int))
def spReadOff (CN : Addr) : Sp := fun vs H Q E => ∃ z : Str, vs = [.str z] ∧ z.length ≤ 600 ∧ Opt (readOff z) CN H (fun n H' => Q (.int n) H') E
theorem cutS_le (z : Str) (i j : Option Int) : (cutS z i j).length ≤ z.length := by
  unfold cutS
  rw [← len_cps, ← len_cps]
  show ((List.take _ (List.drop _ _)).toArray.toList).length ≤ _
  rw [List.length_take, List.length_drop]
  omega
theorem scReadOffset : FnScope ["text", "minutes"] ["text"] (defScope sReadOffset) := ⟨rfl, rfl, rfl, by decide +kernel, rfl, by decide +kernel, by decide +kernel⟩
theorem x_read_offset {CN : Addr} (MNoDate : MkN P w K mg base "NoDate" CN) (A : FnAt K mg "_read_offset" sReadOffset) (R1 : ReadyX P w K mg base 3 "_read_figures" ["text", "sizes", "least", "greatest"] (spReadFig K CN)) (m_len : mg "len" = none) :
    ReadyX P w K mg base 4 "_read_offset" ["text"] (spReadOff CN) := by
  obtain ⟨f1, fd1, g1, k1, b1, G1⟩ := R1
  refine readyX_of A (fun _ _ _ _ _ _ us hl => match us, hl with | [_], _ => rfl) fun f fd F => ?_
  refine F.okX scReadOffset (fun vs H Q E h => ?_) (fun cdv A outer s H vs Q E hr h => ?_)
  · obtain ⟨z, rfl, _⟩ := h
    rfl
  · obtain ⟨z, rfl, hz, q⟩ := h
    have sc := scReadOffset
    refine ⟨_, pss_cons (ps_if (pt_cmpR op_eq (pv 0) pe_str (nomark _))
        (pss_one (ps_ret pe_int))
        pss_nil)
      (pss_cons (ps_if (PW.pt (pw_and (pt_not (pt_val (pe_m1 PySem.F.slot_str_startswith PySem.F.type_str_startswith mt_startswith (pv 0) pe_str))) (pw_and1 (pt_not (pt_val (pe_m1 PySem.F.slot_str_startswith PySem.F.type_str_startswith mt_startswith (pv 0) pe_str))))))
        (pss_one (ps_raise rfl (takes_of rfl rfl rfl rfl) (pmk_non MNoDate (hr.mono (by decide)) (by rfl) (pa_cons pe_str pa_nil))))
        pss_nil)
      (pss_cons (ps_if (pt_cmpR op_ne (pe_callB call_len_str (by rfl) m_len PySem.boot_len (pa_cons (pv 0) pa_nil)) pe_int (nomark _))
        (pss_one (ps_raise rfl (takes_of rfl rfl rfl rfl) (pmk_non MNoDate (hr.mono (by decide)) (by rfl) (pa_cons pe_str pa_nil))))
        pss_nil)
      (pss_cons (ps_set (i := 1) sc.nd rfl (.inl rfl) (pe_op op_add (pe_op op_mul (pe_call G1 (hr.mono (by decide)) (by rfl) g1 k1 b1 .nil (E := E) (passes_call (takes_of rfl rfl rfl rfl) (fun _ _ _ _ h => h)) (pa_cons (pe_slice sl_str (pv 0) (po_some pe_int) (po_some pe_int)) (pa_cons (pe_tup (pa_cons pe_int pa_nil)) (pa_cons pe_int (pa_cons pe_int pa_nil))))) pe_int) (pe_call G1 (hr.mono (by decide)) (by rfl) g1 k1 b1 .nil (E := E) (passes_call (takes_of rfl rfl rfl rfl) (fun _ _ _ _ h => h)) (pa_cons (pe_slice sl_str (pv 0) (po_some pe_int) (po_some pe_int)) (pa_cons (pe_tup (pa_cons pe_int pa_nil)) (pa_cons pe_int (pa_cons pe_int pa_nil)))))))
      (pss_cons (ps_if (pt_val (pe_m1 PySem.F.slot_str_startswith PySem.F.type_str_startswith mt_startswith (pv 0) pe_str))
        (pss_one (ps_ret (pe_un un_neg (pv 1))))
        pss_nil)
      (pss_one (ps_ret (pv 1))))))), ?_⟩
    unfold readOff at q
    refine ⟨_, rfl, rfl, _, rfl, ite2 (fun h => ?_) (fun h => ?_)⟩
    · have h1 : z = ("UT" : Str) := V.str.inj (of_decide_eq_true h)
      rw [if_pos h1] at q
      exact q.1 _ rfl H (Same.refl H)
    · have h1 : ¬ z = ("UT" : Str) := fun e => h (decide_eq_true (congrArg V.str e))
      rw [if_neg h1] at q
      refine ⟨_, rfl, ⟨_, rfl⟩, _, _, rfl, rfl, _, rfl, ?_⟩
      have rest : (Txt.startswith z ("+" : Str) = true ∨ Txt.startswith z ("-" : Str) = true) ∨ (Txt.startswith z ("+" : Str) = false ∧ Txt.startswith z ("-" : Str) = false) := by
        cases Txt.startswith z ("+" : Str) <;> cases Txt.startswith z ("-" : Str) <;> simp
      rcases rest with hp | hn
      case' inr =>
        rw [if_pos hn] at q
        rw [hn.1]
        refine iteT ⟨_, rfl, ⟨_, rfl⟩, _, _, rfl, rfl, _, rfl, ?_⟩
        rw [hn.2]
        exact iteT ⟨⟨_, rfl⟩, q.2 rfl H (Same.refl H)⟩
      have hnn : ¬ (Txt.startswith z ("+" : Str) = false ∧ Txt.startswith z ("-" : Str) = false) := fun e => by
        rcases hp with hp | hp
        · rw [e.1] at hp; cases hp
        · rw [e.2] at hp; cases hp
      rw [if_neg hnn] at q
      have l1 : (cutS z (some 1) (some 3)).length ≤ 600 := by have := cutS_le z (some 1) (some 3); omega
      have l2 : (cutS z (some 3) (some 5)).length ≤ 600 := by have := cutS_le z (some 3) (some 5); omega
      cases hb : Txt.startswith z ("-" : Str)
      case' false =>
        have ha : Txt.startswith z ("+" : Str) = true := by
          rcases hp with hp | hp
          · exact hp
          · rw [hb] at hp; cases hp
        rw [ha]
        refine iteF ?_
      case' true =>
        cases ha : Txt.startswith z ("+" : Str)
        case' false => refine iteT ⟨_, rfl, ⟨_, rfl⟩, _, _, rfl, rfl, _, rfl, ?_⟩
        case' false => rw [hb]
        case' false => refine iteF ?_
        case' true => refine iteF ?_
      all_goals
        rw [hb] at q
        refine ⟨_, rfl, _, rfl, Nat.le_of_lt (szl (by omega)), rfl, _, rfl, ?_⟩
        by_cases h5 : z.length = 5
        case neg =>
          rw [if_pos h5] at q
          rw [show decide (V.int (z.length : Nat) = V.int 5) = false from decide_eq_false fun e => h5 (by have := V.int.inj e; omega)]
          exact iteT ⟨⟨_, rfl⟩, q.2 rfl H (Same.refl H)⟩
        rw [if_neg (fun e => e h5)] at q
        rw [show decide (V.int (z.length : Nat) = V.int 5) = true from decide_eq_true (congrArg V.int (by omega))]
        refine iteF ?_
        refine ⟨_, rfl, _, rfl, _, rfl, z, rfl, Nat.le_of_lt (szl (by omega)), (by show 1 ≤ sizeLine; decide), fun p1 n1 => ?_⟩
        refine ⟨_, p1, [2], 0, 23, rfl, l1, upd_same, by decide, fun hh eh H3 s3 => ?_, fun eno H3 s3 => ?_⟩
        case refine_2 =>
          rw [eno] at q
          exact q.2 rfl H3 ((same_new n1).trans s3)
        rw [eh] at q
        dsimp only at q
        have hhb : hh ≤ 23 := by
          unfold readFig at eh
          split at eh
          · rename_i g
            injection eh with eh
            omega
          · cases eh
        have t3 : Same H H3 := (same_new n1).trans s3
        refine ⟨_, _, rfl, rfl, .inr ⟨by decide, by decide⟩, _, rfl, _, rfl, _, rfl, z, rfl, Nat.le_of_lt (szl (by omega)), (by show 1 ≤ sizeLine; decide), fun p2 n2 => ?_⟩
        refine ⟨_, p2, [2], 0, 59, rfl, l2, upd_same, by decide, fun mm em H4 s4 => ?_, fun eno H4 s4 => ?_⟩
        case refine_2 =>
          rw [eno] at q
          exact q.2 rfl H4 (t3.trans ((same_new n2).trans s4))
        rw [em] at q
        dsimp only at q
        have t4 : Same H H4 := t3.trans ((same_new n2).trans s4)
        refine ⟨_, _, rfl, rfl, ?_⟩
        refine ⟨_, rfl, ⟨_, rfl⟩, _, _, rfl, rfl, _, rfl, ?_⟩
        rw [hb]
        first
          | exact iteF ⟨_, rfl, q.1 _ rfl H4 t4⟩
          | exact iteT ⟨_, rfl, _, rfl, q.1 _ rfl H4 t4⟩
end
end FL


namespace FL
open PySem PySem.Spec PyProof.Rows L2
def date5 (d mo y c o : Str) (wk : Nat → Bool) : Option (Int × Int) := match readDay d mo y with
  | none => none
  | some n => if wk n = false then none else match readClock c with
    | none => none
    | some s => match readOff o with
      | none => none
      | some m => some (((n : Int) - 730119) * 86400 + s - m * 60, m)
def wkOk (u : Str) (n : Nat) : Bool := decide (u = mk (weekC (n % 7) ++ [44]))
def dateP : List Str → Option (Int × Int)
  | [d, mo, y, c, o] => date5 d mo y c o fun _ => true
  | [u, d, mo, y, c, o] => date5 d mo y c o (wkOk u)
  | _ => none
def piecesOf (z : Str) : List Str := (Txt.split z (" " : Str)).filter fun y => !decide (y = ("" : Str))
def readDate (z : Str) : Option (Int × Int) := dateP (piecesOf z)
structure PcOk (z : Str) : Prop where
  len : z.length ≤ 600
  ln : isLn z.cps.toList = true
  ps : ∀ y ∈ Txt.split z (" " : Str), y.length ≤ 600 ∧ ∀ x ∈ Txt.split y (":" : Str), x.length ≤ 600
theorem filt_more {α : Type} (p : α → Bool) {l : List α} {i : Nat} {x : α} (h : l[i]? = some x) : (l.take (i + 1)).filter p = (l.take i).filter p ++ (if p x = true then [x] else []) := by
  rw [take_more h, List.filter_append]
  by_cases hp : p x = true
  · rw [if_pos hp, List.filter_cons, if_pos hp, List.filter_nil]
  · rw [if_neg hp, List.filter_cons, if_neg hp, List.filter_nil]
section
variable {P : Program} {w : World} {K : PySem.W.Frag} {mg : Str → Option Value} {base : Heap}
def spReadDateX (K : PySem.W.Frag) (CN : Addr) : Sp := fun vs H Q E => ∃ v, vs = [v] ∧
  ((∃ z : Str, v = .str z ∧ PcOk z ∧ (∀ r, readDate z = some r → ∀ H' T, Same H H' → H T = none → H' T = some (.tup [.int r.1, .int r.2]) → Q (.ref T) H') ∧ (readDate z = none → ∀ H', Same H H' → E (.ref CN) none H')) ∨
   (NoLine K H v ∧ ∀ H', Same H H' → E (.ref CN) none H'))
theorem scReadDate : FnScope ["text", "pieces", "day", "month", "year", "clock", "offset", "number", "second", "minutes", "moment", "piece"] ["text"] (defScope sReadDate) := ⟨rfl, rfl, rfl, by decide +kernel, rfl, by decide +kernel, by decide +kernel⟩
theorem x_read_date {CN : Addr} (MNoDate : MkN P w K mg base "NoDate" CN) (A : FnAt K mg "read_date" sReadDate) (R1 : Ready P w K mg base 3 "is_line" ["value"] (spLine K isLn)) (R2 : ReadyX P w K mg base 4 "_read_day" ["day", "month", "year"] (spReadDay CN))
    (R3 : ReadyX P w K mg base 4 "_read_clock" ["text"] (spReadClock CN)) (R4 : ReadyX P w K mg base 4 "_read_offset" ["text"] (spReadOff CN)) (R5 : Ready P w K mg base 1 "_days_ahead" ["year"] spDAhead) (m_len : mg "len" = none)
    {t1 t2 : Tok} (m_DAY : mg "DAY" = some (.int 86400 t1)) (m_MINUTE : mg "MINUTE" = some (.int 60 t2)) {a_WEEK : Addr} (m_WEEK : mg "WEEK" = some (.ref a_WEEK)) (hW : ∀ H, SqT K H a_WEEK (week.map V.str)) :
    ReadyX P w K mg base 5 "read_date" ["text"] (spReadDateX K CN) := by
  obtain ⟨f1, fd1, g1, k1, b1, G1⟩ := R1
  obtain ⟨f2, fd2, g2, k2, b2, G2⟩ := R2
  obtain ⟨f3, fd3, g3, k3, b3, G3⟩ := R3
  obtain ⟨f4, fd4, g4, k4, b4, G4⟩ := R4
  obtain ⟨f5, fd5, g5, k5, b5, G5⟩ := R5
  refine readyX_of A (fun _ _ _ _ _ _ us hl => match us, hl with | [_], _ => rfl) fun f fd F => ?_
  refine F.okX scReadDate (fun vs H Q E h => ?_) (fun cdv A outer s H vs Q E hr h => ?_)
  · obtain ⟨v, rfl, _⟩ := h
    rfl
  · obtain ⟨v, rfl, h⟩ := h
    have sc := scReadDate
    refine ⟨_, pss_cons (ps_if (pt_not (pt_val (pe_call G1 (hr.mono (by decide)) (by rfl) g1 k1 b1 .nil pass0 (pa_cons (pv 0) pa_nil))))
        (pss_one (ps_raise rfl (takes_of rfl rfl rfl rfl) (pmk_non MNoDate (hr.mono (by decide)) (by rfl) (pa_cons pe_str pa_nil))))
        pss_nil)
      (pss_cons (ps_setLc (i := 1) (own := [("piece", 11)]) (g := gName 11) (by rfl) sc.nd rfl rfl (sw_true rfl rfl rfl (by decide +kernel)) (pi_list (pe_split (pv 0) pe_str)) (blkOk_by (own := [("piece", 11)]) (N := ["text", "pieces", "day", "month", "year", "clock", "offset", "number", "second", "minutes", "moment", "piece"]) (sc := defScope sReadDate) (by decide +kernel)) (fun _ _ _ _ _ => (pg_name (i := 11) sc.nd rfl (.inl rfl))) (fun _ _ _ _ _ => (pts_one (pt_cmpR op_ne (pv 11) pe_str (nomark _)))) (fun _ _ _ _ _ => (pv 11)))
      (pss_cons (ps_if (PW.pt (pw_and (pt_cmpR op_ne (pe_callB call_len_seq (by rfl) m_len PySem.boot_len (pa_cons (pv 1) pa_nil)) pe_int (nomark _)) (pw_and1 (pt_cmpR op_ne (pe_callB call_len_seq (by rfl) m_len PySem.boot_len (pa_cons (pv 1) pa_nil)) pe_int (nomark _)))))
        (pss_one (ps_raise rfl (takes_of rfl rfl rfl rfl) (pmk_non MNoDate (hr.mono (by decide)) (by rfl) (pa_cons pe_str pa_nil))))
        pss_nil)
      (pss_cons (ps_asg (pe_slice sl_list (pv 1) (po_some (pe_un un_neg pe_int)) po_none) (pg_lst rfl (pgs_cons (pg_name (i := 2) sc.nd rfl (.inl rfl)) (pgs_cons (pg_name (i := 3) sc.nd rfl (.inl rfl)) (pgs_cons (pg_name (i := 4) sc.nd rfl (.inl rfl)) (pgs_cons (pg_name (i := 5) sc.nd rfl (.inl rfl)) (pgs_cons (pg_name (i := 6) sc.nd rfl (.inl rfl)) pgs_nil)))))))
      (pss_cons (ps_set (i := 7) sc.nd rfl (.inl rfl) (pe_call G2 (hr.mono (by decide)) (by rfl) g2 k2 b2 .nil (E := E) (passes_call (takes_of rfl rfl rfl rfl) (fun _ _ _ _ h => h)) (pa_cons (pv 2) (pa_cons (pv 3) (pa_cons (pv 4) pa_nil)))))
      (pss_cons (ps_if (PW.pt (pw_and (pt_cmpR op_eq (pe_callB call_len_seq (by rfl) m_len PySem.boot_len (pa_cons (pv 1) pa_nil)) pe_int (nomark _)) (pw_and1 (pt_cmpR op_ne (pe_ix ix_list (pv 1) pe_int (fun _ _ => rfl)) (pe_op op_add_str (pe_ix ix_tup (pe_glob (v := .ref a_WEEK) rfl m_WEEK rfl) (pe_op op_mod (pv 7) (pe_callB call_len_seq (by rfl) m_len PySem.boot_len (pa_cons (pe_glob (v := .ref a_WEEK) rfl m_WEEK rfl) pa_nil))) (fun _ _ => rfl)) pe_str) (nomark _)))))
        (pss_one (ps_raise rfl (takes_of rfl rfl rfl rfl) (pmk_non MNoDate (hr.mono (by decide)) (by rfl) (pa_cons pe_str pa_nil))))
        pss_nil)
      (pss_cons (ps_set (i := 8) sc.nd rfl (.inl rfl) (pe_call G3 (hr.mono (by decide)) (by rfl) g3 k3 b3 .nil (E := E) (passes_call (takes_of rfl rfl rfl rfl) (fun _ _ _ _ h => h)) (pa_cons (pv 5) pa_nil)))
      (pss_cons (ps_set (i := 9) sc.nd rfl (.inl rfl) (pe_call G4 (hr.mono (by decide)) (by rfl) g4 k4 b4 .nil (E := E) (passes_call (takes_of rfl rfl rfl rfl) (fun _ _ _ _ h => h)) (pa_cons (pv 6) pa_nil)))
      (pss_cons (ps_set (i := 10) sc.nd rfl (.inl rfl) (pe_op op_sub (pe_op op_add (pe_op op_mul (pe_op op_sub (pv 7) (pe_call G5 (hr.mono (by decide)) (by rfl) g5 k5 b5 .nil pass0 (pa_cons pe_int pa_nil))) (pe_glob (v := .int 86400) rfl m_DAY ⟨_, rfl⟩)) (pv 8)) (pe_op op_mul (pv 9) (pe_glob (v := .int 60) rfl m_MINUTE ⟨_, rfl⟩))))
      (pss_one (ps_ret (pe_tup (pa_cons (pv 10) (pa_cons (pv 9) pa_nil))))))))))))), ?_⟩
    rcases h with ⟨z, rfl, hz, q, qe⟩ | ⟨hno, qe⟩
    case inr =>
      rcases hno with ⟨z, rfl, hzl, hzn⟩ | ⟨t, ht, hk⟩
      · refine ⟨_, rfl, _, rfl, .inl ⟨z, rfl, hzl, fun H' s => ?_⟩⟩
        rw [hzn]
        exact ⟨_, rfl, iteT ⟨⟨_, rfl⟩, qe H' s⟩⟩
      · exact ⟨_, rfl, _, rfl, .inr ⟨t, ht, hk, _, rfl, iteT ⟨⟨_, rfl⟩, qe H (Same.refl H)⟩⟩⟩
    refine ⟨_, rfl, _, rfl, .inl ⟨z, rfl, by have := hz.len; omega, fun H0 s0 => ?_⟩⟩
    rw [hz.ln]
    refine ⟨_, rfl, iteF ?_⟩
    refine ⟨_, rfl, ⟨_, rfl⟩, _, _, rfl, rfl, by decide +kernel, by have := hz.len; rw [sizeLine_eq]; omega, fun p1 n1 => ?_⟩
    have hpl : (Txt.split z (" " : Str)).length ≤ 602 := by
      have := PyProof.Rows.split_le z (" " : Str)
      have := hz.len
      omega
    have hps := hz.ps
    unfold readDate piecesOf at q qe
    generalize Txt.split z (" " : Str) = ws at q qe hps hpl
    refine ⟨p1, rfl, ⟨_, SqL.of upd_same⟩, fun D hD => ?_⟩
    have s1 : Same H (upd H0 p1 (.lst (ws.map V.str))) := s0.trans (same_new n1)
    have hp1 : (upd H0 p1 (.lst (ws.map V.str))) p1 = some (.lst (ws.map V.str)) := upd_same
    generalize upd H0 p1 (.lst (ws.map V.str)) = H1 at s1 hp1 hD
    refine lc_it (walk_list (K := K) (a := p1) (xs := ws.map V.str)) (fun i H' => Same H1 H' ∧ H' D = some (.lst (((ws.take i).filter fun y => !decide (y = ("" : Str))).map V.str))) ⟨same_new hD, upd_same⟩ (fun i H' _ p => SqL.of (p.1 _ _ hp1)) (fun i x H2 H3 hi hp hy => ?_) (fun H2 hp => ?_)
    · obtain ⟨rfl, hx⟩ := hy
      obtain ⟨sm, hd⟩ := hp
      rw [List.length_map] at hi
      have hw := List.getElem?_eq_getElem hi
      rw [List.getElem?_map, hw] at hx
      injection hx with hx
      subst hx
      refine ⟨rfl, ?_⟩
      refine ⟨_, rfl, rfl, _, rfl, ?_⟩
      have hfm := filt_more (fun y : Str => !decide (y = ("" : Str))) hw
      have hdec : decide (V.str ws[i] = V.str ("" : Str)) = decide (ws[i] = ("" : Str)) := decide_eq_decide.mpr ⟨fun e => V.str.inj e, fun e => congrArg V.str e⟩
      rw [hdec]
      by_cases he : ws[i] = ("" : Str)
      · rw [decide_eq_true he]
        refine iteF ?_
        refine ⟨sm, ?_⟩
        rw [hfm, decide_eq_true he]
        simpa using hd
      · rw [decide_eq_false he]
        refine iteT ?_
        refine ⟨_, rfl, _, hd, ?_, same_set sm hD, ?_⟩
        · rw [List.length_map]
          refine Nat.lt_of_le_of_lt (List.length_filter_le _ _) (Nat.lt_of_le_of_lt (List.length_take_le _ _) (szl (by omega)))
        · rw [upd_same, hfm, decide_eq_false he, List.map_append]
          rfl
    · obtain ⟨sm, hd⟩ := hp
      rw [List.length_map, List.take_length] at hd
      have hps2 : ∀ y ∈ ws.filter (fun y => !decide (y = ("" : Str))), y.length ≤ 600 ∧ ∀ x ∈ Txt.split y (":" : Str), x.length ≤ 600 := fun y hy => hps y (List.mem_filter.mp hy).1
      generalize ws.filter (fun y => !decide (y = ("" : Str))) = ps at q qe hps2 hd
      have s2 : Same H H2 := s1.trans sm
      refine ⟨_, rfl, D, _, rfl, .inl (SqL.of hd), rfl, _, rfl, ?_⟩
      rw [List.length_map]
      have bad : dateP ps = none → ∀ H', Same H H' → E (.ref CN) none H' := qe
      match ps, q, qe, hd, hps2, bad with
      | [], q, qe, hd, hps2, bad =>
        refine iteT ?_
        exact ⟨_, rfl, D, _, rfl, .inl (SqL.of hd), rfl, _, rfl, iteT ⟨⟨_, rfl⟩, bad rfl _ s2⟩⟩
      | [_], q, qe, hd, hps2, bad =>
        refine iteT ?_
        exact ⟨_, rfl, D, _, rfl, .inl (SqL.of hd), rfl, _, rfl, iteT ⟨⟨_, rfl⟩, bad rfl _ s2⟩⟩
      | [_, _], q, qe, hd, hps2, bad =>
        refine iteT ?_
        exact ⟨_, rfl, D, _, rfl, .inl (SqL.of hd), rfl, _, rfl, iteT ⟨⟨_, rfl⟩, bad rfl _ s2⟩⟩
      | [_, _, _], q, qe, hd, hps2, bad =>
        refine iteT ?_
        exact ⟨_, rfl, D, _, rfl, .inl (SqL.of hd), rfl, _, rfl, iteT ⟨⟨_, rfl⟩, bad rfl _ s2⟩⟩
      | [_, _, _, _], q, qe, hd, hps2, bad =>
        refine iteT ?_
        exact ⟨_, rfl, D, _, rfl, .inl (SqL.of hd), rfl, _, rfl, iteT ⟨⟨_, rfl⟩, bad rfl _ s2⟩⟩
      | [d, mo, y, c, o], q, qe, hd, hps2, bad =>
        refine iteF ?_
        unfold dateP date5 at q qe
        dsimp only at q qe
        refine ⟨_, rfl, _, rfl, _, rfl, D, _, rfl, SqL.of hd, fun p2 n2 => ?_⟩
        rw [show cutV (([d, mo, y, c, o] : List Str).map V.str) (some (-5)) none = ([d, mo, y, c, o] : List Str).map V.str from rfl]
        refine ⟨p2, _, rfl, SqL.of upd_same, rfl, _, _, rfl, _, _, rfl, _, _, rfl, _, _, rfl, _, _, rfl, rfl, ?_⟩
        have s3 : Same H (upd H2 p2 (.lst (([d, mo, y, c, o] : List Str).map V.str))) := s2.trans (same_new n2)
        have hd3 := same_new (o := .lst (([d, mo, y, c, o] : List Str).map V.str)) n2 _ _ hd
        generalize upd H2 p2 (.lst (([d, mo, y, c, o] : List Str).map V.str)) = H3 at s3 hd3
        refine ⟨_, rfl, _, rfl, _, rfl, d, mo, y, rfl, (hps2 d (by simp)).1, (hps2 mo (by simp)).1, (hps2 y (by simp)).1, fun n en H4 s4 => ?_, fun eno H4 s4 => ?_⟩
        case refine_2 =>
          rw [eno] at qe
          exact qe rfl H4 (s3.trans s4)
        rw [en] at q qe
        dsimp only at q qe
        have hd4 := s4 _ _ hd3
        refine ⟨_, rfl, D, _, rfl, .inl (SqL.of hd4), rfl, _, rfl, ?_⟩
        refine iteF ?_
        rw [if_neg (by decide)] at q qe
        refine ⟨_, rfl, c, rfl, (hps2 c (by simp)).1, (hps2 c (by simp)).2, fun ss es H5 s5 => ?_, fun eno H5 s5 => ?_⟩
        case refine_2 =>
          rw [eno] at qe
          exact qe rfl H5 ((s3.trans s4).trans s5)
        rw [es] at q qe
        dsimp only at q qe
        refine ⟨_, rfl, o, rfl, (hps2 o (by simp)).1, fun mm em H6 s6 => ?_, fun eno H6 s6 => ?_⟩
        case refine_2 =>
          rw [eno] at qe
          exact qe rfl H6 (((s3.trans s4).trans s5).trans s6)
        rw [em] at q
        dsimp only at q
        refine ⟨_, rfl, 2000, rfl, by decide, _, _, rfl, rfl, _, _, rfl, rfl, .inr ⟨by decide, by decide⟩, _, rfl, _, _, rfl, rfl, _, rfl, _, _, rfl, rfl, .inr ⟨by decide, by decide⟩, _, _, rfl, rfl, ?_⟩
        refine ⟨_, rfl, _, rfl, (by show 2 ≤ sizeLine; decide), fun T nT => ?_⟩
        have s7 : Same H H6 := ((s3.trans s4).trans s5).trans s6
        refine q _ rfl _ T (s7.trans (same_new nT)) (Same.free s7 nT) ?_
        rw [upd_same]
        show some (HO.tup [V.int (((n : Int) - ((dAhead 2000 : Nat) : Int)) * 86400 + (ss : Int) - mm * 60), V.int mm]) = _
        rw [dAhead_2000]
        rfl
      | [u, d, mo, y, c, o], q, qe, hd, hps2, bad =>
        refine iteT ?_
        refine ⟨_, rfl, D, _, rfl, .inl (SqL.of hd), rfl, _, rfl, iteF ?_⟩
        unfold dateP date5 at q qe
        dsimp only at q qe
        refine ⟨_, rfl, _, rfl, _, rfl, D, _, rfl, SqL.of hd, fun p2 n2 => ?_⟩
        rw [show cutV (([u, d, mo, y, c, o] : List Str).map V.str) (some (-5)) none = ([d, mo, y, c, o] : List Str).map V.str from rfl]
        refine ⟨p2, _, rfl, SqL.of upd_same, rfl, _, _, rfl, _, _, rfl, _, _, rfl, _, _, rfl, _, _, rfl, rfl, ?_⟩
        have s3 : Same H (upd H2 p2 (.lst (([d, mo, y, c, o] : List Str).map V.str))) := s2.trans (same_new n2)
        have hd3 := same_new (o := .lst (([d, mo, y, c, o] : List Str).map V.str)) n2 _ _ hd
        generalize upd H2 p2 (.lst (([d, mo, y, c, o] : List Str).map V.str)) = H3 at s3 hd3
        refine ⟨_, rfl, _, rfl, _, rfl, d, mo, y, rfl, (hps2 d (by simp)).1, (hps2 mo (by simp)).1, (hps2 y (by simp)).1, fun n en H4 s4 => ?_, fun eno H4 s4 => ?_⟩
        case refine_2 =>
          rw [eno] at qe
          exact qe rfl H4 (s3.trans s4)
        rw [en] at q qe
        dsimp only at q qe
        have hd4 := s4 _ _ hd3
        refine ⟨_, rfl, D, _, rfl, .inl (SqL.of hd4), rfl, _, rfl, ?_⟩
        refine iteT ?_
        have h7 : n % 7 < 7 := Nat.mod_lt _ (by decide)
        have wl := weekC_len h7
        refine ⟨_, rfl, D, _, _, .str u, rfl, rfl, SqL.of hd4, rfl, ?_⟩
        refine ⟨_, rfl, a_WEEK, _, rfl, .inr (hW _), _, _, rfl, rfl, (by show (0 : Int) < 7; decide), a_WEEK, _, _, .str (mk (weekC (n % 7))), rfl, rfl, hW _, atI_nat (j := n % 7) (by rw [List.getElem?_map, week_at h7]; rfl), ?_⟩
        have ecm : ("," : Str) = mk [44] := by decide +kernel
        have c1 : mk (weekC (n % 7)) ++ ("," : Str) = mk (weekC (n % 7) ++ [44]) := cat_mk rfl ecm
        refine ⟨_, _, rfl, rfl, (by rw [← len_append]; exact fitE c1 (by simp; omega)), rfl, _, rfl, ?_⟩
        rw [c1]
        have hwk : decide (V.str u = V.str (mk (weekC (n % 7) ++ [44]))) = wkOk u n := decide_eq_decide.mpr ⟨fun e => V.str.inj e, fun e => congrArg V.str e⟩
        rw [hwk]
        cases hu : wkOk u n
        case false =>
          rw [hu, if_pos rfl] at qe
          exact iteT ⟨⟨_, rfl⟩, qe rfl H4 (s3.trans s4)⟩
        rw [hu, if_neg (by decide)] at q qe
        refine iteF ?_
        refine ⟨_, rfl, c, rfl, (hps2 c (by simp)).1, (hps2 c (by simp)).2, fun ss es H5 s5 => ?_, fun eno H5 s5 => ?_⟩
        case refine_2 =>
          rw [eno] at qe
          exact qe rfl H5 ((s3.trans s4).trans s5)
        rw [es] at q qe
        dsimp only at q qe
        refine ⟨_, rfl, o, rfl, (hps2 o (by simp)).1, fun mm em H6 s6 => ?_, fun eno H6 s6 => ?_⟩
        case refine_2 =>
          rw [eno] at qe
          exact qe rfl H6 (((s3.trans s4).trans s5).trans s6)
        rw [em] at q
        dsimp only at q
        refine ⟨_, rfl, 2000, rfl, by decide, _, _, rfl, rfl, _, _, rfl, rfl, .inr ⟨by decide, by decide⟩, _, rfl, _, _, rfl, rfl, _, rfl, _, _, rfl, rfl, .inr ⟨by decide, by decide⟩, _, _, rfl, rfl, ?_⟩
        refine ⟨_, rfl, _, rfl, (by show 2 ≤ sizeLine; decide), fun T nT => ?_⟩
        have s7 : Same H H6 := ((s3.trans s4).trans s5).trans s6
        refine q _ rfl _ T (s7.trans (same_new nT)) (Same.free s7 nT) ?_
        rw [upd_same]
        show some (HO.tup [V.int (((n : Int) - ((dAhead 2000 : Nat) : Int)) * 86400 + (ss : Int) - mm * 60), V.int mm]) = _
        rw [dAhead_2000]
        rfl
      | x1 :: x2 :: x3 :: x4 :: x5 :: x6 :: x7 :: r, q, qe, hd, hps2, bad =>
        have hlong : ∀ k : Int, k ≤ 6 → decide (V.int ((x1 :: x2 :: x3 :: x4 :: x5 :: x6 :: x7 :: r).length : Nat) = V.int k) = false := fun k hk => decide_eq_false fun z => by
          have := V.int.inj z
          simp only [List.length_cons] at this
          omega
        rw [hlong 5 (by decide)]
        refine iteT ?_
        refine ⟨_, rfl, D, _, rfl, .inl (SqL.of hd), rfl, _, rfl, ?_⟩
        rw [List.length_map, hlong 6 (by decide)]
        exact iteT ⟨⟨_, rfl⟩, bad rfl _ s2⟩
end
end FL


namespace FL
open PySem PySem.Spec PyProof.Rows L2
theorem fold_rep (c : Nat) : ∀ (n : Nat) (acc : Array Nat), ((List.replicate n #[c]).foldl (· ++ ·) acc).toList = acc.toList ++ List.replicate n c
  | 0, acc => by simp
  | n + 1, acc => by
    rw [List.replicate_succ, List.foldl_cons, fold_rep c n, List.replicate_succ, Array.toList_append]
    simp
theorem op_mulS {X : Cx} : OpR X (binaryOp .Mult) (fun x y H Q => ∃ (c k : Nat), x = .str ⟨#[c]⟩ ∧ y = .int (k : Nat) ∧ k ≤ 10000 ∧ Q (.str (mk (List.replicate k c))) H) := by
  intro pins s σ H x y v u Q I rx ry h
  obtain ⟨c, k, rfl, rfl, hk, q⟩ := h
  obtain ⟨t, rfl⟩ := rx
  obtain ⟨t', rfl⟩ := ry
  by_cases h0 : k = 0
  · subst h0
    exact PySem.P.mul_str_none (by decide) (by decide) ⟨.str (mk []), H, I.tok _, ⟨_, rfl⟩, q⟩
  · have hl1 : (⟨#[c]⟩ : Str).length = 1 := rfl
    refine PySem.P.mul_str ?_ ?_ ?_ ?_
    · rw [decide_eq_false (by omega : ¬ ((k : Int) < -(2 ^ 63))), decide_eq_false (by omega : ¬ ((k : Int) ≥ 2 ^ 63))]
      rfl
    · intro _ _
      rw [hl1]
      have : (1 : Int) ≤ (2 ^ 63 - 1) / (k : Int) := by
        refine (Int.le_ediv_iff_mul_le (by omega)).mpr ?_
        omega
      omega
    · intro _ _
      rw [hl1, Int.toNat_natCast, Nat.one_mul]
      exact decide_eq_false (Nat.not_lt.mpr (Nat.le_of_lt (szl hk)))
    · rw [if_neg (by omega : ¬ ((k : Int) < 1))]
      by_cases h1 : k = 1
      · subst h1
        rw [if_pos (by rfl)]
        exact ⟨.str (mk [c]), H, I, ⟨t, rfl⟩, q⟩
      · rw [if_neg (by rw [hl1]; simp; omega), Int.toNat_natCast]
        have e : (⟨(List.replicate k (⟨#[c]⟩ : Str).cps).foldl (· ++ ·) #[]⟩ : Str) = mk (List.replicate k c) := mk_eq (by
          show ((List.replicate k #[c]).foldl (· ++ ·) #[]).toList = _
          rw [fold_rep]
          rfl)
        rw [e]
        refine ⟨?_, .str (mk (List.replicate k c)), H, I.tok _, ⟨_, rfl⟩, q⟩
        rw [mk_len, List.length_replicate]
        exact Nat.le_of_lt (szl hk)
theorem drawn_newM {a p : Addr} {H H1 : Hp} {o : HO} (x : Drawn a H H1) (n : H1 p = none) : Drawn a H (upd H1 p o) := x.same (same_new n)
theorem Src.neM {H : Hp} {a q : Addr} (s : Src H a) (n : H q = none) : q ≠ a := fun e => by
  obtain ⟨x, y, z, h⟩ := s
  rw [e, h] at n
  cases n
/-- a thing drawn: its number is less than m -/
def spNextM : Sp := fun vs H Q _ => ∃ (a : Addr) (m : Nat), vs = [.ref a, .int (m : Nat)] ∧ 1 ≤ m ∧ m ≤ 100000 ∧ Src H a ∧ ∀ (r : Nat) H', r < m → Drawn a H H' → Q (.int (r : Nat)) H'
theorem pickM {p : V → Prop} {xs : List V} {r : Nat} (h : r < xs.length) (hp : ∀ v ∈ xs, p v) : ∃ v, atI xs (r : Int) = some v ∧ p v :=
  ⟨xs[r]'h, atI_nat (List.getElem?_eq_getElem h), hp _ (List.getElem_mem h)⟩
theorem kn {H : Hp} {q p : Addr} {o x : HO} (h : H q = some o) (n : H p = none) : upd H p x q = some o := by
  rw [upd_ne (ne_of_none h n)]
  exact h
theorem free_drawn {a p : Addr} {H H1 : Hp} (x : Drawn a H H1) (h : H1 p = none) : H p = none := by
  cases e : H p with
  | none => rfl
  | some o =>
    rw [x.old p o (x.src.neM h) e] at h
    cases h
section
variable {P : Program} {w : World} {K : PySem.W.Frag} {mg : Str → Option Value} {base : Heap}
theorem next_m (R : Ready P w K mg base 2 "_law_next" ["_law_source_here", "_law_many"] spNext) : Ready P w K mg base 2 "_law_next" ["_law_source_here", "_law_many"] spNextM := by
  obtain ⟨f, fd, g, k, b, G⟩ := R
  refine ⟨f, fd, g, k, b, G.imp fun vs H Q E h => ?_⟩
  obtain ⟨a, m, rfl, h1, h2, ⟨x, y, z, hs⟩, q⟩ := h
  exact ⟨a, m, x, y, z, rfl, h1, h2, hs, fun r x' z' hr => q r _ hr drawn_upd⟩
end
end FL


namespace FL
open PySem PySem.Spec PyProof.Rows L2
/-- a date by its calendar -/
structure When where
  y : Nat
  m : Nat
  d : Nat
  h : Nat
  mi : Nat
  s : Nat
  o : Int
def wnV (t : When) : List V := [.int (t.y : Int), .int (t.m : Int), .int (t.d : Int), .int (t.h : Int), .int (t.mi : Int), .int (t.s : Int), .int t.o]
structure OkW (t : When) : Prop where
  D : Day t.y t.m t.d
  h : t.h < 24
  mi : t.mi < 60
  s : t.s < 60
  o1 : -1439 ≤ t.o
  o2 : t.o ≤ 1439
def secW (t : When) : Nat := t.h * 3600 + t.mi * 60 + t.s
def momW (t : When) : Int := 60 * (60 * (24 * ((dayNo t.y t.m t.d : Int) - 730119) + t.h) + t.mi - t.o) + t.s
def txtW (t : When) : List Nat := dateC t.y t.m t.d (secW t) t.o
/-- of the number's text -/
theorem two_codes {n : Nat} (h : n < 100) : (if n < 10 then [48] else []) ++ decs n = dec2 n := by
  unfold decs dec2
  by_cases h1 : n < 10
  · rw [if_pos h1, if_pos h1, show n / 10 = 0 by omega, show n % 10 = n by omega]
    rfl
  · rw [if_neg h1, if_neg h1, if_pos h]
    rfl
theorem year_codes {n : Nat} (h : n < 10000) : List.replicate (4 - (decs n).length) 48 ++ decs n = dec4 n := by
  unfold decs dec4
  split
  · rw [show n / 1000 = 0 by omega, show n / 100 % 10 = 0 by omega, show n / 10 % 10 = 0 by omega, show n % 10 = n by omega]
    rfl
  · split
    · rw [show n / 1000 = 0 by omega, show n / 100 % 10 = 0 by omega, show n / 10 % 10 = n / 10 by omega]
      rfl
    · split
      · rw [show n / 1000 = 0 by omega, show n / 100 % 10 = n / 100 by omega]
        rfl
      · rfl
theorem e48 : ("0" : Str) = mk [48] := by decide +kernel
section
variable {P : Program} {w : World} {K : PySem.W.Frag} {mg : Str → Option Value} {base : Heap}
def spTwo : Sp := fun vs H Q _ => ∃ n : Nat, vs = [.int (n : Int)] ∧ n < 100 ∧ ∀ H', Same H H' → Q (.str (mk (dec2 n))) H'
theorem scLawTwo : FnScope ["_law_number"] ["_law_number"] (defScope sLawTwo) := ⟨rfl, rfl, rfl, by decide +kernel, rfl, by decide +kernel, by decide +kernel⟩
theorem r_two (A : FnAt K mg "_law_two" sLawTwo) (m_int : mg "int" = none) (m_str : mg "str" = none) : Ready P w K mg base 1 "_law_two" ["_law_number"] spTwo := by
  refine ready_of A (fun _ _ _ _ _ _ us hl => match us, hl with | [_], _ => rfl) fun f fd F => ?_
  refine F.ok scLawTwo (fun vs H Q E h => ?_) (fun cdv A outer s H vs Q E hr h => ?_)
  · obtain ⟨n, rfl, _⟩ := h
    rfl
  · obtain ⟨n, rfl, hn, q⟩ := h
    have sc := scLawTwo
    refine ⟨_, pss_one (ps_ret (pe_op op_add_str (pe_ix ix_list (pe_lst (pa_cons pe_str (pa_cons pe_str pa_nil))) (pe_callTy call_int1 (by rfl) m_int (by decide +kernel) (pa_cons (pe_cmpR op_lt (pv 0) pe_int (nomark _)) pa_nil)) (fun _ _ => rfl)) (pe_callTy call_str_int (by rfl) m_str (by decide +kernel) (pa_cons (pv 0) pa_nil)))), ?_⟩
    have hl := decs_len n
    refine ⟨(by show 2 ≤ sizeLine; decide), fun p np => ?_⟩
    refine ⟨_, rfl, _, _, rfl, rfl, .inr ⟨_, rfl, ?_⟩⟩
    by_cases h1 : n < 10
    · rw [decide_eq_true (by omega : (n : Int) < 10)]
      refine ⟨p, _, _, .str ("0" : Str), rfl, rfl, SqL.of upd_same, rfl, ?_⟩
      have c := cat_mk e48 (toString_codes (n := n) (by omega))
      refine ⟨_, rfl, _, rfl, small_log (by omega), _, _, rfl, rfl, (by rw [← len_append]; exact fitE c (by simp; omega)), ?_⟩
      rw [c]
      have := two_codes hn
      rw [if_pos h1] at this
      rw [this]
      exact q _ (same_new np)
    · rw [decide_eq_false (by omega : ¬ (n : Int) < 10)]
      refine ⟨p, _, _, .str ("" : Str), rfl, rfl, SqL.of upd_same, rfl, ?_⟩
      have c := cat_mk e0 (toString_codes (n := n) (by omega))
      refine ⟨_, rfl, _, rfl, small_log (by omega), _, _, rfl, rfl, (by rw [← len_append]; exact fitE c (by simp; omega)), ?_⟩
      rw [c]
      have := two_codes hn
      rw [if_neg h1] at this
      rw [this]
      exact q _ (same_new np)
end
end FL

namespace FL
open PySem PySem.Spec PyProof.Rows L2
end FL

namespace FL
open PySem PySem.Spec PyProof.Rows L2
/-! ### what is written is read -/
theorem starts_one {u : Str} {k : Nat} (hu : u = mk [k]) (x : Str) : Txt.startswith x u = decide (x.cps.toList.head? = some k) := by
  unfold Txt.startswith
  have l1 : u.length = 1 := by rw [hu, mk_len]; rfl
  have c1 : u.cps.toList = [k] := by rw [hu, mk_codes]
  rw [PySem.StrLaws.subAt_eq, l1, c1, List.drop_zero]
  have hx := len_cps x
  generalize x.cps.toList = l at hx ⊢
  cases l with
  | nil =>
    rw [decide_eq_false (by rw [← hx]; simp)]
    rfl
  | cons c r =>
    rw [decide_eq_true (by rw [← hx, List.length_cons]; omega), Bool.true_and]
    show ([c] == [k]) = _
    by_cases h : c = k
    · subst h
      simp
    · rw [decide_eq_false (by simpa using h)]
      simpa using h
theorem fig_of {k : Nat} (h : k ≤ 9) : isFig (48 + k) = true := decide_eq_true (by omega)
theorem fig_dec2 {n : Nat} (h : n < 100) (lo hi : Nat) (h1 : lo ≤ n) (h2 : n ≤ hi) (szs : List Nat) (hs : 2 ∈ szs) : readFig (dec2 n) szs lo hi = some n := by
  have e : figsVal (dec2 n) = n := by
    show (0 * 10 + (48 + n / 10 - 48)) * 10 + (48 + n % 10 - 48) = n
    omega
  have ha : (dec2 n).all isFig = true := by
    show (isFig (48 + n / 10) && (isFig (48 + n % 10) && true)) = true
    rw [fig_of (k := n / 10) (by omega), fig_of (k := n % 10) (by omega)]
    rfl
  unfold readFig
  rw [e, if_pos ⟨hs, ha, h1, h2⟩]
theorem fig_dec4 {n : Nat} (h1 : 1 ≤ n) (h2 : n ≤ 9999) : readFig (dec4 n) [4] 1 9999 = some n := by
  have e : figsVal (dec4 n) = n := by
    show (((0 * 10 + (48 + n / 1000 - 48)) * 10 + (48 + n / 100 % 10 - 48)) * 10 + (48 + n / 10 % 10 - 48)) * 10 + (48 + n % 10 - 48) = n
    omega
  have ha : (dec4 n).all isFig = true := by
    show (isFig (48 + n / 1000) && (isFig (48 + n / 100 % 10) && (isFig (48 + n / 10 % 10) && (isFig (48 + n % 10) && true)))) = true
    rw [fig_of (k := n / 1000) (by omega), fig_of (k := n / 100 % 10) (by omega), fig_of (k := n / 10 % 10) (by omega), fig_of (k := n % 10) (by omega)]
    rfl
  unfold readFig
  rw [e, if_pos ⟨by simp [dec4], ha, h1, h2⟩]
theorem fig_decs {n hi : Nat} (h1 : 1 ≤ n) (h2 : n ≤ hi) (h3 : hi ≤ 31) : readFig (decs n) [1, 2] 1 hi = some n := by
  unfold decs
  split
  · rename_i h
    unfold readFig
    have e : figsVal [48 + n] = n := by
      show 0 * 10 + (48 + n - 48) = n
      omega
    have ha : [48 + n].all isFig = true := by
      show (isFig (48 + n) && true) = true
      rw [fig_of (by omega)]
      rfl
    rw [e, if_pos ⟨by simp, ha, h1, h2⟩]
  · rw [if_pos (by omega)]
    exact fig_dec2 (by omega) 1 hi h1 h2 [1, 2] (by simp)
theorem mon_ix : ∀ k, k < 12 → monIx (mk (monC k)) = some k := by decide +kernel
theorem day_read {y m d : Nat} (D : Day y m d) {t : List Nat} (ht : readFig t [1, 2] 1 (daysOf y (m - 1)) = some d) : readDay (mk t) (mk (monC (m - 1))) (mk (dec4 y)) = some (dayNo y m d) := by
  unfold readDay
  rw [mon_ix _ (by have := D.m2; have := D.m1; omega)]
  dsimp only
  rw [mk_codes, fig_dec4 D.y1 D.y2]
  dsimp only
  rw [mk_codes, ht]
  rfl
theorem decs_read {y m d : Nat} (D : Day y m d) : readFig (decs d) [1, 2] 1 (daysOf y (m - 1)) = some d := fig_decs D.d1 D.d2 (daysOf_le _ _)
theorem split_at {z u : Str} {k : Nat} {ps : List (List Nat)} (hu : u = mk [k]) (hk : k < 256) (hne : ps ≠ []) (hp : ∀ p ∈ ps, k ∉ p) (hz : z = Txt.join u (ps.map mk)) : Txt.split z u = ps.map mk := by
  rw [hz]
  refine TL.split_join (s := k) (S := []) ?_ ?_ (by simpa using hne) fun p h => ?_
  · show u.cps.toList = [k]
    rw [hu, mk_codes]
  · rw [hu]
    show (#[k] : Array Nat).all (· < 256) = true
    simpa using hk
  · obtain ⟨q, hq, rfl⟩ := List.mem_map.mp h
    show k ∉ (mk q).cps.toList
    rw [mk_codes]
    exact hp q hq
theorem join_mk {u : Str} {k : Nat} (hu : u = mk [k]) (ps : List (List Nat)) : Txt.join u (ps.map mk) = mk (TL.joinL [k] ps) := by
  refine mk_eq ?_
  show TL.tl _ = _
  rw [TL.join_eq, TL.tl_join]
  have e : TL.tl u = [k] := by
    show u.cps.toList = [k]
    rw [hu, mk_codes]
  rw [e, List.map_map]
  congr 1
  exact (List.map_congr_left (fun p _ => mk_codes p)).trans (List.map_id _)
theorem no_dec2 (n k : Nat) (hk : k < 48) : k ∉ dec2 n := by
  unfold dec2
  simp only [List.mem_cons, List.not_mem_nil, or_false]
  omega
theorem clock_read {s : Nat} (h : s < 86400) : readClock (mk (clockC s)) = some s ∧ ∀ x ∈ Txt.split (mk (clockC s)) (":" : Str), x.length ≤ 600 := by
  have no : ∀ n, n < 100 → 58 ∉ dec2 n := fun n hn => by
    unfold dec2
    simp only [List.mem_cons, List.not_mem_nil, or_false]
    omega
  have e : Txt.split (mk (clockC s)) (":" : Str) = [dec2 (s / 3600), dec2 (s % 3600 / 60), dec2 (s % 3600 % 60)].map mk := by
    refine split_at e58 (by decide) (by simp) (fun p hp => ?_) ?_
    · simp only [List.mem_cons, List.not_mem_nil, or_false] at hp
      rcases hp with rfl | rfl | rfl
      · exact no _ (by omega)
      · exact no _ (by omega)
      · exact no _ (by omega)
    · rw [join_mk e58]
      rfl
  refine ⟨?_, fun x hx => ?_⟩
  · unfold readClock
    rw [e]
    show clock3 [mk (dec2 (s / 3600)), mk (dec2 (s % 3600 / 60)), mk (dec2 (s % 3600 % 60))] = some s
    unfold clock3
    dsimp only
    rw [mk_codes, fig_dec2 (by omega) 0 23 (by omega) (by omega) [2] (by simp)]
    dsimp only
    rw [mk_codes, fig_dec2 (by omega) 0 59 (by omega) (by omega) [2] (by simp)]
    dsimp only
    rw [mk_codes, fig_dec2 (by omega) 0 59 (by omega) (by omega) [2] (by simp)]
    dsimp only
    congr 1
    omega
  · rw [e] at hx
    obtain ⟨p, hp, rfl⟩ := List.mem_map.mp hx
    simp only [List.mem_cons, List.not_mem_nil, or_false] at hp
    rcases hp with rfl | rfl | rfl <;> (rw [mk_len]; show 2 ≤ 600; omega)
theorem cut2 (c a b d e : Nat) : (cutS (mk [c, a, b, d, e]) (some 1) (some 3)).cps.toList = [a, b] ∧ (cutS (mk [c, a, b, d, e]) (some 3) (some 5)).cps.toList = [d, e] := by
  constructor
  · rw [show ((1 : Int)) = ((1 : Nat) : Int) from rfl, show ((3 : Int)) = ((3 : Nat) : Int) from rfl, cutS_nat _ (by rw [mk_len]; show 1 ≤ 5; omega) (by rw [mk_len]; show 3 ≤ 5; omega), mk_codes]
    rfl
  · rw [show ((5 : Int)) = ((5 : Nat) : Int) from rfl, show ((3 : Int)) = ((3 : Nat) : Int) from rfl, cutS_nat _ (by rw [mk_len]; show 3 ≤ 5; omega) (by rw [mk_len]; show 5 ≤ 5; omega), mk_codes]
    rfl
/-- a sign, hours, minutes -/
theorem off_read {c n : Nat} (hc : c = 43 ∨ c = 45) (hn : n ≤ 1439) : readOff (mk (c :: (dec2 (n / 60) ++ dec2 (n % 60)))) = some (if c = 45 then -(n : Int) else (n : Int)) := by
  have hz : mk (c :: (dec2 (n / 60) ++ dec2 (n % 60))) = mk [c, 48 + n / 60 / 10, 48 + n / 60 % 10, 48 + n % 60 / 10, 48 + n % 60 % 10] := rfl
  have hcut := cut2 c (48 + n / 60 / 10) (48 + n / 60 % 10) (48 + n % 60 / 10) (48 + n % 60 % 10)
  rw [← hz] at hcut
  have hl : (mk (c :: (dec2 (n / 60) ++ dec2 (n % 60)))).length = 5 := by rw [mk_len]; rfl
  have h1 : Txt.startswith (mk (c :: (dec2 (n / 60) ++ dec2 (n % 60)))) ("+" : Str) = decide (c = 43) := by
    rw [starts_one e43, mk_codes]
    simp
  have h2 : Txt.startswith (mk (c :: (dec2 (n / 60) ++ dec2 (n % 60)))) ("-" : Str) = decide (c = 45) := by
    rw [starts_one e45, mk_codes]
    simp
  unfold readOff
  rw [if_neg (fun e => by
    have := congrArg Str.length e
    rw [hl] at this
    exact absurd this (by decide +kernel)), h1, h2, if_neg (fun e => by
    rcases hc with rfl | rfl
    · cases e.1
    · cases e.2), if_neg (fun e => e hl)]
  rw [hcut.1, hcut.2]
  rw [show [48 + n / 60 / 10, 48 + n / 60 % 10] = dec2 (n / 60) from rfl, show [48 + n % 60 / 10, 48 + n % 60 % 10] = dec2 (n % 60) from rfl]
  rw [fig_dec2 (by omega) 0 23 (by omega) (by omega) [2] (by simp)]
  dsimp only
  rw [fig_dec2 (by omega) 0 59 (by omega) (by omega) [2] (by simp)]
  dsimp only
  rw [show n / 60 * 60 + n % 60 = n by omega]
  by_cases h : c = 45
  · rw [if_pos h, if_pos (decide_eq_true h)]
  · rw [if_neg h, if_neg (by rw [decide_eq_false h]; exact Bool.false_ne_true)]
theorem zone_read {o : Int} (h1 : -1439 ≤ o) (h2 : o ≤ 1439) : readOff (mk (zoneC o)) = some o := by
  unfold zoneC
  rw [off_read (n := o.natAbs) (by split <;> simp) (by omega)]
  by_cases h : o < 0
  · rw [if_pos h]
    show some (-(o.natAbs : Int)) = some o
    congr 1
    omega
  · rw [if_neg h]
    show some ((o.natAbs : Int)) = some o
    congr 1
    omega
/-- signs of a date's words -/
def okD (c : Nat) : Bool := isSig c && (!decide (c = 10) && !decide (c = 32))
theorem ok_fig {k : Nat} (h : k ≤ 9) : okD (48 + k) = true := (by decide : ∀ k, k ≤ 9 → okD (48 + k) = true) k h
theorem ok_mon : ∀ m, m < 12 → (monC m).all okD = true := by decide +kernel
theorem ok_week : ∀ m, m < 7 → (weekC m).all okD = true := by decide +kernel
theorem ok_dec2 {n : Nat} (h : n < 100) : (dec2 n).all okD = true := by
  show (okD (48 + n / 10) && (okD (48 + n % 10) && true)) = true
  rw [ok_fig (by omega), ok_fig (by omega)]
  rfl
theorem ok_dec4 {n : Nat} (h : n < 10000) : (dec4 n).all okD = true := by
  show (okD (48 + n / 1000) && (okD (48 + n / 100 % 10) && (okD (48 + n / 10 % 10) && (okD (48 + n % 10) && true)))) = true
  rw [ok_fig (by omega), ok_fig (by omega), ok_fig (by omega), ok_fig (by omega)]
  rfl
theorem ok_decs {n : Nat} (h : n < 100) : (decs n).all okD = true := by
  unfold decs
  split
  · show (okD (48 + n) && true) = true
    rw [ok_fig (by omega)]
    rfl
  · exact ok_dec2 h
theorem ok_clock {s : Nat} (h : s < 86400) : (clockC s).all okD = true := by
  unfold clockC
  rw [List.all_append, List.all_append, List.all_append, List.all_append, ok_dec2 (by omega), ok_dec2 (by omega), ok_dec2 (by omega)]
  decide
theorem ok_zone {o : Int} (h1 : -1439 ≤ o) (h2 : o ≤ 1439) : (zoneC o).all okD = true := by
  unfold zoneC
  rw [List.all_cons, List.all_append, ok_dec2 (by omega), ok_dec2 (by omega)]
  split <;> decide
theorem decs_ne (n : Nat) : decs n ≠ [] := by
  unfold decs
  split
  · simp
  · split
    · simp
    · split
      · simp
      · simp [dec4]
def pcs (t : When) : List (List Nat) := [weekC (dayNo t.y t.m t.d % 7) ++ [44], decs t.d, monC (t.m - 1), dec4 t.y, clockC (secW t), zoneC t.o]
theorem OkW.sec {t : When} (ok : OkW t) : secW t < 86400 := by
  unfold secW
  have := ok.h
  have := ok.mi
  have := ok.s
  omega
theorem OkW.d31 {t : When} (ok : OkW t) : t.d ≤ 31 := Nat.le_trans ok.D.d2 (daysOf_le _ _)
theorem pcs_ok {t : When} (ok : OkW t) : ∀ p ∈ pcs t, p.all okD = true ∧ p ≠ [] ∧ p.length ≤ 20 := by
  intro p hp
  have h7 : dayNo t.y t.m t.d % 7 < 7 := Nat.mod_lt _ (by decide)
  have hd := ok.d31
  have hm1 := ok.D.m1
  have hm2 := ok.D.m2
  have hy := ok.D.y2
  simp only [pcs, List.mem_cons, List.not_mem_nil, or_false] at hp
  rcases hp with rfl | rfl | rfl | rfl | rfl | rfl
  · refine ⟨?_, by simp, by rw [List.length_append, weekC_len h7]; decide⟩
    rw [List.all_append, ok_week _ h7]
    decide
  · exact ⟨ok_decs (by omega), decs_ne _, by have := decs_len t.d; omega⟩
  · exact ⟨ok_mon _ (by omega), (by decide +kernel : ∀ m, m < 12 → monC m ≠ []) _ (by omega), by have := monC_len (t.m - 1); omega⟩
  · exact ⟨ok_dec4 (by omega), by simp [dec4], by simp [dec4]⟩
  · exact ⟨ok_clock ok.sec, by simp [clockC, dec2], by simp [clockC, dec2]⟩
  · exact ⟨ok_zone ok.o1 ok.o2, by simp [zoneC], by simp [zoneC, dec2]⟩
theorem joinL_mem {k c : Nat} : ∀ {ps : List (List Nat)}, c ∈ TL.joinL [k] ps → c = k ∨ ∃ p ∈ ps, c ∈ p
  | [], h => by simp [TL.joinL] at h
  | [p], h => by
    simp only [TL.joinL] at h
    exact .inr ⟨p, by simp, h⟩
  | p :: q :: r, h => by
    have h : c ∈ p ++ ([k] ++ TL.joinL [k] (q :: r)) := h
    rcases List.mem_append.mp h with h | h
    · exact .inr ⟨p, by simp, h⟩
    · rcases List.mem_append.mp h with h | h
      · exact .inl (List.mem_singleton.mp h)
      · rcases joinL_mem h with h | ⟨x, hx, hc⟩
        · exact .inl h
        · exact .inr ⟨x, List.mem_cons_of_mem _ hx, hc⟩
theorem joinL_len {k n : Nat} : ∀ {ps : List (List Nat)}, (∀ p ∈ ps, p.length ≤ n) → (TL.joinL [k] ps).length ≤ ps.length * (n + 1)
  | [], _ => by simp [TL.joinL]
  | [p], h => by
    have := h p (by simp)
    show p.length ≤ _
    simp only [List.length_cons, List.length_nil]
    omega
  | p :: q :: r, h => by
    have h1 := h p (by simp)
    have ih := joinL_len (k := k) (n := n) (ps := q :: r) fun x hx => h x (List.mem_cons_of_mem _ hx)
    show (p ++ ([k] ++ TL.joinL [k] (q :: r))).length ≤ (r.length + 1 + 1) * (n + 1)
    rw [List.length_append, List.length_append, List.length_singleton]
    have e : (r.length + 1 + 1) * (n + 1) = (q :: r).length * (n + 1) + (n + 1) := by
      rw [List.length_cons, Nat.add_mul (r.length + 1) 1, Nat.one_mul]
    omega
/-- a text of such words, blanks in rows between and about them -/
theorem words_pc {ps : List (List Nat)} (hp : ∀ p ∈ ps, p.all okD = true ∧ p.length ≤ 20) (hl : ps.length ≤ 28) (hne : ps ≠ []) :
    Txt.split (mk (TL.joinL [32] ps)) (" " : Str) = ps.map mk ∧ isLn (TL.joinL [32] ps) = true ∧ (mk (TL.joinL [32] ps)).length ≤ 600 := by
  refine ⟨split_at e32 (by decide) hne (fun p h => ?_) (join_mk e32 ps).symm, ?_, ?_⟩
  · intro hc
    have := List.all_eq_true.mp (hp p h).1 32 hc
    exact absurd this (by decide)
  · have hs : ∀ c ∈ TL.joinL [32] ps, isSig c = true ∧ c ≠ 10 := fun c hc => by
      rcases joinL_mem hc with rfl | ⟨p, h, hcp⟩
      · decide
      · have := List.all_eq_true.mp (hp p h).1 c hcp
        unfold okD at this
        simp only [Bool.and_eq_true, Bool.not_eq_true', decide_eq_false_iff_not] at this
        exact ⟨this.1, this.2.1⟩
    unfold isLn allSig
    rw [List.all_eq_true.mpr fun c hc => (hs c hc).1, decide_eq_false fun h => (hs 10 h).2 rfl]
    rfl
  · rw [mk_len]
    have := joinL_len (k := 32) (n := 20) fun p h => (hp p h).2
    have h2 : ps.length * (20 + 1) ≤ 28 * (20 + 1) := Nat.mul_le_mul_right _ hl
    omega
theorem filt_ne {ps : List (List Nat)} : ((ps.map mk).filter fun y => !decide (y = ("" : Str))) = (ps.filter fun p => !p.isEmpty).map mk := by
  induction ps with
  | nil => rfl
  | cons p r ih =>
    rw [List.map_cons, List.filter_cons, List.filter_cons, ih]
    cases p with
    | nil => rw [if_neg (by rw [← e0]; simp), if_neg (by simp)]
    | cons a s =>
      have hne : ¬ mk (a :: s) = ("" : Str) := fun z => by
        rw [e0] at z
        exact absurd (mk_inj z) (by simp)
      rw [if_pos (by rw [decide_eq_false hne]; rfl), if_pos (by rfl), List.map_cons]
theorem txt_join (t : When) : txtW t = TL.joinL [32] (pcs t) := by
  unfold txtW dateC dayC pcs
  simp [TL.joinL]
theorem part_one {p : List Nat} (h : 58 ∉ p) (hl : p.length ≤ 20) : ∀ x ∈ Txt.split (mk p) (":" : Str), x.length ≤ 600 := by
  have e : Txt.split (mk p) (":" : Str) = [p].map mk := by
    refine split_at e58 (by decide) (by simp) (fun q hq => ?_) ?_
    · rw [List.mem_singleton.mp hq]
      exact h
    · rw [join_mk e58]
      rfl
  intro x hx
  rw [e] at hx
  obtain ⟨q, hq, rfl⟩ := List.mem_map.mp hx
  rw [List.mem_singleton.mp hq, mk_len]
  omega
theorem no58_dec2 {n : Nat} (h : n < 100) : 58 ∉ dec2 n := by
  unfold dec2
  simp only [List.mem_cons, List.not_mem_nil, or_false]
  omega
theorem no58_dec4 {n : Nat} (h : n < 10000) : 58 ∉ dec4 n := by
  unfold dec4
  simp only [List.mem_cons, List.not_mem_nil, or_false]
  omega
theorem no58_decs {n : Nat} (h : n < 100) : 58 ∉ decs n := by
  unfold decs
  split
  · simp only [List.mem_cons, List.not_mem_nil, or_false]
    omega
  · exact no58_dec2 h
theorem no58_zone {o : Int} (h1 : -1439 ≤ o) (h2 : o ≤ 1439) : 58 ∉ zoneC o := by
  unfold zoneC
  intro h
  rcases List.mem_cons.mp h with h | h
  · split at h <;> cases h
  · rcases List.mem_append.mp h with h | h
    · exact no58_dec2 (by omega) h
    · exact no58_dec2 (by omega) h
theorem no58_mon : ∀ m, m < 12 → 58 ∉ monC m := by decide +kernel
theorem no58_week : ∀ m, m < 7 → 58 ∉ weekC m ++ [44] := by decide +kernel
theorem pcs_parts {t : When} (ok : OkW t) : ∀ p ∈ pcs t, ∀ x ∈ Txt.split (mk p) (":" : Str), x.length ≤ 600 := by
  intro p hp
  have hl := (pcs_ok ok p hp).2.2
  have hd := ok.d31
  have hm1 := ok.D.m1
  have hm2 := ok.D.m2
  have hy := ok.D.y2
  simp only [pcs, List.mem_cons, List.not_mem_nil, or_false] at hp
  rcases hp with rfl | rfl | rfl | rfl | rfl | rfl
  · exact part_one (no58_week _ (Nat.mod_lt _ (by decide))) hl
  · exact part_one (no58_decs (by omega)) hl
  · exact part_one (no58_mon _ (by omega)) hl
  · exact part_one (no58_dec4 (by omega)) hl
  · exact (clock_read ok.sec).2
  · exact part_one (no58_zone ok.o1 ok.o2) hl
theorem date_read {t : When} (ok : OkW t) {u : Nat → Bool} (hu : u (dayNo t.y t.m t.d) = true) : date5 (mk (decs t.d)) (mk (monC (t.m - 1))) (mk (dec4 t.y)) (mk (clockC (secW t))) (mk (zoneC t.o)) u = some (momW t, t.o) := by
  unfold date5
  rw [day_read ok.D (decs_read ok.D)]
  dsimp only
  rw [if_neg (by rw [hu]; decide), (clock_read ok.sec).1]
  dsimp only
  rw [zone_read ok.o1 ok.o2]
  dsimp only
  congr 2
  unfold momW secW
  omega
theorem txt_ok {t : When} (ok : OkW t) : PcOk (mk (txtW t)) ∧ readDate (mk (txtW t)) = some (momW t, t.o) := by
  have hw := words_pc (ps := pcs t) (fun p hp => ⟨(pcs_ok ok p hp).1, (pcs_ok ok p hp).2.2⟩) (by simp [pcs]) (by simp [pcs])
  rw [← txt_join] at hw
  refine ⟨⟨hw.2.2, by rw [mk_codes]; exact hw.2.1, fun y hy => ?_⟩, ?_⟩
  · rw [hw.1] at hy
    obtain ⟨p, hp, rfl⟩ := List.mem_map.mp hy
    exact ⟨by rw [mk_len]; have := (pcs_ok ok p hp).2.2; omega, pcs_parts ok p hp⟩
  · unfold readDate piecesOf
    rw [hw.1, filt_ne]
    have hf : (pcs t).filter (fun p => !p.isEmpty) = pcs t := List.filter_eq_self.mpr fun p hp => by
      have := (pcs_ok ok p hp).2.1
      cases p with
      | nil => exact absurd rfl this
      | cons a s => rfl
    rw [hf]
    show date5 (mk (decs t.d)) (mk (monC (t.m - 1))) (mk (dec4 t.y)) (mk (clockC (secW t))) (mk (zoneC t.o)) (wkOk (mk (weekC (dayNo t.y t.m t.d % 7) ++ [44]))) = _
    exact date_read ok (decide_eq_true rfl)
end FL

namespace FL
open PySem PySem.Spec PyProof.Rows L2
theorem e44c : ("," : Str) = mk [44] := by decide +kernel
theorem clock_of {t : When} (ok : OkW t) : TL.joinL [58] [dec2 t.h, dec2 t.mi, dec2 t.s] = clockC (secW t) := by
  have h1 := ok.h
  have h2 := ok.mi
  have h3 := ok.s
  unfold clockC secW
  rw [show (t.h * 3600 + t.mi * 60 + t.s) / 3600 = t.h by omega, show (t.h * 3600 + t.mi * 60 + t.s) % 3600 / 60 = t.mi by omega, show (t.h * 3600 + t.mi * 60 + t.s) % 3600 % 60 = t.s by omega]
  simp [TL.joinL]
theorem len_sum (u : Str) (ps : List (List Nat)) {n : Nat} (h : ∀ p ∈ ps, p.length ≤ n) : ((ps.map mk).map (·.length)).sum ≤ ps.length * n := by
  induction ps with
  | nil => simp
  | cons p r ih =>
    have h1 := h p (by simp)
    have h2 := ih fun x hx => h x (List.mem_cons_of_mem _ hx)
    rw [List.map_cons, List.map_cons, List.sum_cons, mk_len, List.length_cons, Nat.add_mul, Nat.one_mul]
    omega
end FL

namespace FL
open PySem PySem.Spec PyProof.Rows L2
theorem mom_day {t : When} (ok : OkW t) : momW t + t.o * 60 = 86400 * ((dayNo t.y t.m t.d : Int) - 730119) + (secW t : Nat) := by
  unfold momW secW
  omega
/-! ### each day has its date -/
theorem year_ex : ∀ (k N : Nat), N < dAhead (k + 1) → ∃ y, 1 ≤ y ∧ y ≤ k ∧ dAhead y ≤ N ∧ N < dAhead (y + 1)
  | 0, N, h => by
    have : dAhead (0 + 1) = 0 := by decide
    omega
  | k + 1, N, h => by
    by_cases h1 : N < dAhead (k + 1)
    · obtain ⟨y, a, b, c, d⟩ := year_ex k N h1
      exact ⟨y, a, by omega, c, d⟩
    · exact ⟨k + 1, by omega, by omega, by omega, h⟩
theorem month_ex (y : Nat) : ∀ (k r : Nat), r < cum y k → ∃ m, 1 ≤ m ∧ m ≤ k ∧ cum y (m - 1) ≤ r ∧ r < cum y m
  | 0, r, h => by
    have : cum y 0 = 0 := rfl
    omega
  | k + 1, r, h => by
    by_cases h1 : r < cum y k
    · obtain ⟨m, a, b, c, d⟩ := month_ex y k r h1
      exact ⟨m, a, by omega, c, d⟩
    · exact ⟨k + 1, by omega, by omega, by rw [Nat.add_sub_cancel]; omega, h⟩
theorem cum_last {y m : Nat} (h : 1 ≤ m) : cum y m = cum y (m - 1) + daysOf y (m - 1) := by
  obtain ⟨j, rfl⟩ : ∃ j, m = j + 1 := ⟨m - 1, by omega⟩
  rfl
theorem day_ex {N : Nat} (h : N < 3652059) : ∃ y m d, Day y m d ∧ dayNo y m d = N := by
  obtain ⟨y, y1, y2, a, b⟩ := year_ex 9999 N (by rw [dAhead_big]; exact h)
  rw [dAhead_succ y1, Nat.add_assoc, ← cum12 y] at b
  obtain ⟨m, m1, m2, c, d⟩ := month_ex y 12 (N - dAhead y) (by omega)
  have e := cum_last (y := y) m1
  refine ⟨y, m, N - dAhead y - cum y (m - 1) + 1, ⟨y1, y2, m1, m2, by omega, by omega⟩, ?_⟩
  unfold dayNo
  omega
theorem when_ex {M o : Int} (h1 : -1439 ≤ o) (h2 : o ≤ 1439) (lo : 0 ≤ (M + o * 60) / 86400 + 730119) (hi : (M + o * 60) / 86400 + 730119 < 3652059) : ∃ t : When, OkW t ∧ momW t = M ∧ t.o = o := by
  obtain ⟨y, m, d, D, hn⟩ := day_ex (N := ((M + o * 60) / 86400 + 730119).toNat) (by omega)
  obtain ⟨s, hs⟩ : ∃ s : Nat, (s : Int) = (M + o * 60) % 86400 := ⟨((M + o * 60) % 86400).toNat, by omega⟩
  refine ⟨⟨y, m, d, s / 3600, s % 3600 / 60, s % 3600 % 60, o⟩, ⟨D, by show s / 3600 < 24; omega, by show s % 3600 / 60 < 60; omega, by show s % 3600 % 60 < 60; omega, h1, h2⟩, ?_, rfl⟩
  unfold momW
  show 60 * (60 * (24 * ((dayNo y m d : Int) - 730119) + ((s / 3600 : Nat) : Int)) + ((s % 3600 / 60 : Nat) : Int) - o) + ((s % 3600 % 60 : Nat) : Int) = M
  rw [hn]
  omega
theorem day_in {t : When} (ok : OkW t) (h2 : 2 ≤ t.y) (h9 : t.y ≤ 9500) : 365 ≤ dayNo t.y t.m t.d ∧ dayNo t.y t.m t.d < 3500000 := by
  have h := ok.D.year
  have e2 : dAhead 2 = 365 := by decide
  have e9 : dAhead 9501 < 3500000 := by decide
  constructor
  · by_cases e : t.y = 2
    · rw [e] at h
      rw [e]
      omega
    · have h3 := dAhead_mono (a := 2) (by decide) (b := t.y) (by omega)
      have h4 : dAhead 2 ≤ dAhead (2 + 1) := by decide
      omega
  · by_cases e : t.y = 9500
    · rw [e] at h
      have h3 : dAhead (9500 + 1) = dAhead 9501 := rfl
      rw [e]
      omega
    · have h3 := dAhead_mono (a := t.y) (by omega) (b := 9501) (by omega)
      omega
/-- any offset's date of a moment near a date -/
theorem when_near {t : When} (ok : OkW t) (h2 : 2 ≤ t.y) (h9 : t.y ≤ 9500) {e o : Int} (h3 : -1000000 ≤ e) (h4 : e ≤ 1000000) (h5 : -1439 ≤ o) (h6 : o ≤ 1439) : ∃ t' : When, OkW t' ∧ momW t' = momW t + e ∧ t'.o = o := by
  have hd := day_in ok h2 h9
  have hm := mom_day ok
  have hs := ok.sec
  have ho1 := ok.o1
  have ho2 := ok.o2
  exact when_ex h5 h6 (by omega) (by omega)
/-! ### four hundred years later -/
theorem leap400 (y : Nat) : leap (y + 400) = leap y := by
  unfold leap
  refine decide_eq_decide.mpr ⟨fun h => ⟨by omega, by omega⟩, fun h => ⟨by omega, by omega⟩⟩
theorem daysOf400 (y m : Nat) : daysOf (y + 400) m = daysOf y m := by
  unfold daysOf
  rw [leap400]
theorem cum400 (y : Nat) : ∀ m, cum (y + 400) m = cum y m
  | 0 => rfl
  | m + 1 => by
    show cum (y + 400) m + daysOf (y + 400) m = cum y m + daysOf y m
    rw [cum400 y m, daysOf400]
theorem dAhead400 {y : Nat} (h : 1 ≤ y) : dAhead (y + 400) = dAhead y + 146097 := by
  obtain ⟨k, rfl⟩ : ∃ k, y = k + 1 := ⟨y - 1, by omega⟩
  unfold dAhead
  rw [show k + 1 + 400 - 1 = k + 400 by omega, show k + 1 - 1 = k by omega]
  omega
def later (t : When) : When := ⟨t.y + 400, t.m, t.d, t.h, t.mi, t.s, t.o⟩
theorem later_no {t : When} (ok : OkW t) : dayNo (t.y + 400) t.m t.d = dayNo t.y t.m t.d + 146097 := by
  unfold dayNo
  rw [dAhead400 ok.D.y1, cum400]
  have := ok.D.d1
  omega
theorem later_ok {t : When} (ok : OkW t) (h : t.y ≤ 9599) : OkW (later t) := by
  refine ⟨⟨by show 1 ≤ t.y + 400; omega, by show t.y + 400 ≤ 9999; omega, ok.D.m1, ok.D.m2, ok.D.d1, ?_⟩, ok.h, ok.mi, ok.s, ok.o1, ok.o2⟩
  show t.d ≤ daysOf (t.y + 400) (t.m - 1)
  rw [daysOf400]
  exact ok.D.d2
theorem later_mom {t : When} (ok : OkW t) : momW (later t) = momW t + 146097 * 86400 := by
  unfold momW later
  dsimp only
  rw [later_no ok]
  omega
theorem later_pcs {t : When} (ok : OkW t) : pcs (later t) = [weekC (dayNo t.y t.m t.d % 7) ++ [44], decs t.d, monC (t.m - 1), dec4 (t.y + 400), clockC (secW t), zoneC t.o] := by
  have e : pcs (later t) = [weekC (dayNo (t.y + 400) t.m t.d % 7) ++ [44], decs t.d, monC (t.m - 1), dec4 (t.y + 400), clockC (secW t), zoneC t.o] := rfl
  rw [e, later_no ok, show (dayNo t.y t.m t.d + 146097) % 7 = dayNo t.y t.m t.d % 7 by omega]
theorem okD_lt {c : Nat} (h : okD c = true) : c < 128 := by
  unfold okD isSig at h
  simp only [Bool.and_eq_true, Bool.or_eq_true, decide_eq_true_eq] at h
  omega
theorem pcs_str {t : When} (ok : OkW t) : ∀ z ∈ (pcs t).map mk, PyData.strOk z = true := by
  intro z hz
  obtain ⟨p, hp, rfl⟩ := List.mem_map.mp hz
  refine strOk_of fun c hc => ?_
  rw [mk_codes] at hc
  exact okD_lt (List.all_eq_true.mp (pcs_ok ok p hp).1 c hc)
theorem txt_split {t : When} (ok : OkW t) : Txt.split (mk (txtW t)) (" " : Str) = (pcs t).map mk ∧ (mk (txtW t)).length ≤ 600 := by
  have hw := words_pc (ps := pcs t) (fun p hp => ⟨(pcs_ok ok p hp).1, (pcs_ok ok p hp).2.2⟩) (by simp [pcs]) (by simp [pcs])
  rw [← txt_join] at hw
  exact ⟨hw.1, hw.2.2⟩
theorem SqL.kp {K : PySem.W.Frag} {H : Hp} {p q : Addr} {xs : List V} {o : HO} (h : H p = some (.lst xs)) (n : H q = none) : SqL K (upd H q o) p xs := SqL.of (kn h n)
theorem pair_sh (x y : Int) : SeqAt.shaped (.tuple [.int x, .int y]) = true := shaped_of (by simp [PyData.canLay0, PyData.canLayAll0]) (by simp [PyData.depth, PyData.depthAll])
theorem pair_eq (x y : Int) : PyData.eqv (.tuple [.int x, .int y]) (.tuple [.int x, .int y]) = true := SeqAt.eqv_refl _ (Bool.and_eq_true_iff.mp (pair_sh x y)).1
theorem pair_dp {K : PySem.W.Frag} {H : Hp} {p : Addr} {x y : Int} (h : H p = some (.tup [.int x, .int y])) : Dp K H (.ref p) (.tuple [.int x, .int y]) := .tup (SqT.of h) (.cons (.int _) (.cons (.int _) .nil))
theorem txt_inj {t u : When} (h1 : OkW t) (h2 : OkW u) (e : txtW t = txtW u) : momW t = momW u := by
  have a := (txt_ok h1).2
  rw [e, (txt_ok h2).2] at a
  injection a with a
  injection a with a b
  exact a.symm
section
variable {P : Program} {w : World} {K : PySem.W.Frag} {mg : Str → Option Value} {base : Heap}
/-- of a date's moment and offset its text -/
def spShowW : Sp := fun vs H Q _ => ∃ (M o : Int) (t : When), vs = [.int M, .int o] ∧ OkW t ∧ momW t = M ∧ t.o = o ∧ ∀ H', Same H H' → Q (.str (mk (txtW t))) H'
theorem show_w {k : Nat} (R : ReadyX P w K mg base k "show_date" ["moment", "offset"] spShowDateX) : ReadyX P w K mg base k "show_date" ["moment", "offset"] spShowW := by
  obtain ⟨f, fd, g, kk, b, G⟩ := R
  refine ⟨f, fd, g, kk, b, G.imp fun vs H Q E h => ?_⟩
  obtain ⟨M, o, t, rfl, ok, rfl, rfl, q⟩ := h
  exact ⟨momW t, t.o, t.y, t.m, t.d, secW t, rfl, ok.o1, ok.o2, ok.D, ok.sec, mom_day ok, q⟩
/-- of a date's text its moment and offset -/
def spReadW : Sp := fun vs H Q _ => ∃ t : When, vs = [.str (mk (txtW t))] ∧ OkW t ∧ ∀ H' T, Same H H' → H T = none → H' T = some (.tup [.int (momW t), .int t.o]) → Q (.ref T) H'
theorem read_w {k : Nat} {CN : Addr} (R : ReadyX P w K mg base k "read_date" ["text"] (spReadDateX K CN)) : ReadyX P w K mg base k "read_date" ["text"] spReadW := by
  obtain ⟨f, fd, g, kk, b, G⟩ := R
  refine ⟨f, fd, g, kk, b, G.imp fun vs H Q E h => ?_⟩
  obtain ⟨t, rfl, ok, q⟩ := h
  obtain ⟨pok, hrd⟩ := txt_ok ok
  refine ⟨_, rfl, .inl ⟨_, rfl, pok, fun r er H' T s nT hT => ?_, fun no => by rw [hrd] at no; cases no⟩⟩
  rw [hrd] at er
  injection er with er
  subst er
  exact q H' T s nT hT
end
end FL

namespace FL
open PySem PySem.Spec PyProof.Rows L2
structure YearOk (y s : Nat) (o : Int) : Prop where
  y1 : 1 ≤ y
  y2 : y ≤ 9999
  s : s < 86400
  o1 : -1439 ≤ o
  o2 : o ≤ 1439
def wn (y m d s : Nat) (o : Int) : When := ⟨y, m, d, s / 3600, s % 3600 / 60, s % 3600 % 60, o⟩
theorem wn_sec (y m d s : Nat) (o : Int) : secW (wn y m d s o) = s := by
  unfold secW wn
  dsimp only
  omega
theorem wn_ok {y m d s : Nat} {o : Int} (Y : YearOk y s o) (D : Day y m d) : OkW (wn y m d s o) := by
  have := Y.s
  exact ⟨D, by show s / 3600 < 24; omega, by show s % 3600 / 60 < 60; omega, by show s % 3600 % 60 < 60; omega, Y.o1, Y.o2⟩
def rowP (y m d s : Nat) (o : Int) : List (List Nat) := [decs d, monC (m - 1), dec4 y, clockC s, zoneC o]
def rowC (y m d s : Nat) (o : Int) : List Nat := TL.joinL [32] (rowP y m d s o)
theorem pcs_wn (y m d s : Nat) (o : Int) : pcs (wn y m d s o) = (weekC (dayNo y m d % 7) ++ [44]) :: rowP y m d s o := by
  unfold pcs rowP
  rw [wn_sec]
  rfl
theorem txt_wn (y m d s : Nat) (o : Int) : txtW (wn y m d s o) = weekC (dayNo y m d % 7) ++ [44, 32] ++ rowC y m d s o := by
  rw [txt_join, pcs_wn]
  show (weekC (dayNo y m d % 7) ++ [44]) ++ ([32] ++ TL.joinL [32] (rowP y m d s o)) = _
  unfold rowC
  simp
theorem row_good {y m d s : Nat} {o : Int} (Y : YearOk y s o) (hm1 : 1 ≤ m) (hm2 : m ≤ 12) (hd : d ≤ 33) : ∀ p ∈ rowP y m d s o, (p.all okD = true ∧ p.length ≤ 20 ∧ ∀ x ∈ Txt.split (mk p) (":" : Str), x.length ≤ 600) ∧ p ≠ [] := by
  intro p hp
  have hy := Y.y2
  simp only [rowP, List.mem_cons, List.not_mem_nil, or_false] at hp
  rcases hp with rfl | rfl | rfl | rfl | rfl
  · have := decs_len d
    exact ⟨⟨ok_decs (by omega), by omega, part_one (no58_decs (by omega)) (by omega)⟩, decs_ne _⟩
  · have := monC_len (m - 1)
    exact ⟨⟨ok_mon _ (by omega), by omega, part_one (no58_mon _ (by omega)) (by omega)⟩, (by decide +kernel : ∀ m, m < 12 → monC m ≠ []) _ (by omega)⟩
  · exact ⟨⟨ok_dec4 (by omega), by simp [dec4_len], part_one (no58_dec4 (by omega)) (by simp [dec4_len])⟩, by simp [dec4]⟩
  · exact ⟨⟨ok_clock Y.s, by simp [clockC, dec2], (clock_read Y.s).2⟩, by simp [clockC, dec2]⟩
  · exact ⟨⟨ok_zone Y.o1 Y.o2, by simp [zoneC, dec2], part_one (no58_zone Y.o1 Y.o2) (by simp [zoneC, dec2])⟩, by simp [zoneC]⟩
theorem ps_okay {ps : List (List Nat)} (h : ∀ p ∈ ps, (p.all okD = true ∧ p.length ≤ 20 ∧ ∀ x ∈ Txt.split (mk p) (":" : Str), x.length ≤ 600) ∧ p ≠ []) (hl : ps.length ≤ 25) (hne : ps ≠ []) :
    PcOk (mk (TL.joinL [32] ps)) ∧ readDate (mk (TL.joinL [32] ps)) = dateP (ps.map mk) := by
  have hw := words_pc (ps := ps) (fun p hp => ⟨(h p hp).1.1, (h p hp).1.2.1⟩) (by omega) hne
  refine ⟨⟨hw.2.2, by rw [mk_codes]; exact hw.2.1, fun y hy => ?_⟩, ?_⟩
  · rw [hw.1] at hy
    obtain ⟨p, hp, rfl⟩ := List.mem_map.mp hy
    exact ⟨by rw [mk_len]; have := (h p hp).1.2.1; omega, (h p hp).1.2.2⟩
  · unfold readDate piecesOf
    rw [hw.1, filt_ne]
    congr 2
    refine List.filter_eq_self.mpr fun p hp => ?_
    have := (h p hp).2
    cases p with
    | nil => exact absurd rfl this
    | cons a s => rfl
theorem figs_decs : ∀ d, d < 34 → figsVal (decs d) = d := by decide +kernel
theorem day_none {y m d : Nat} (y1 : 1 ≤ y) (y2 : y ≤ 9999) (hm1 : 1 ≤ m) (hm2 : m ≤ 12) (hd : d < 34) (hn : d = 0 ∨ daysOf y (m - 1) < d) : readDay (mk (decs d)) (mk (monC (m - 1))) (mk (dec4 y)) = none := by
  unfold readDay
  rw [mon_ix _ (by omega)]
  dsimp only
  rw [mk_codes, fig_dec4 y1 y2]
  dsimp only
  rw [mk_codes, show readFig (decs d) [1, 2] 1 (daysOf y (m - 1)) = none by
    unfold readFig
    rw [figs_decs d hd, if_neg (by omega)]]
def momD (y m d s : Nat) (o : Int) : Int := momW (wn y m d s o)
theorem row_read {y m d s : Nat} {o : Int} (Y : YearOk y s o) (D : Day y m d) : PcOk (mk (rowC y m d s o)) ∧ readDate (mk (rowC y m d s o)) = some (momD y m d s o, o) := by
  have hd := Nat.le_trans D.d2 (daysOf_le _ _)
  obtain ⟨a, b⟩ := ps_okay (row_good (d := d) Y D.m1 D.m2 (by omega)) (by simp [rowP]) (by simp [rowP])
  refine ⟨a, ?_⟩
  unfold rowC
  rw [b]
  have := date_read (wn_ok Y D) (u := fun _ => true) rfl
  rw [wn_sec] at this
  exact this
theorem row_none {y m d s : Nat} {o : Int} (Y : YearOk y s o) (hm1 : 1 ≤ m) (hm2 : m ≤ 12) (hd : d ≤ 33) (hn : d = 0 ∨ daysOf y (m - 1) < d) : PcOk (mk (rowC y m d s o)) ∧ readDate (mk (rowC y m d s o)) = none := by
  obtain ⟨a, b⟩ := ps_okay (row_good (d := d) Y hm1 hm2 hd) (by simp [rowP]) (by simp [rowP])
  refine ⟨a, ?_⟩
  unfold rowC
  rw [b]
  show date5 (mk (decs d)) (mk (monC (m - 1))) (mk (dec4 y)) (mk (clockC s)) (mk (zoneC o)) (fun _ => true) = none
  unfold date5
  rw [day_none Y.y1 Y.y2 hm1 hm2 (by omega) hn]
theorem weekC_inj : ∀ a, a < 7 → ∀ b, b < 7 → weekC a = weekC b → a = b := by decide +kernel
/-- with a day of the week ahead of it -/
theorem wrow_read {y m d s k : Nat} {o : Int} (Y : YearOk y s o) (D : Day y m d) (hk : k < 7) :
    PcOk (mk (weekC k ++ [44, 32] ++ rowC y m d s o)) ∧ readDate (mk (weekC k ++ [44, 32] ++ rowC y m d s o)) = if k = dayNo y m d % 7 then some (momD y m d s o, o) else none := by
  have hd := Nat.le_trans D.d2 (daysOf_le _ _)
  have e : weekC k ++ [44, 32] ++ rowC y m d s o = TL.joinL [32] ((weekC k ++ [44]) :: rowP y m d s o) := by
    show _ = (weekC k ++ [44]) ++ ([32] ++ TL.joinL [32] (rowP y m d s o))
    unfold rowC
    simp
  have hg : ∀ p ∈ (weekC k ++ [44]) :: rowP y m d s o, (p.all okD = true ∧ p.length ≤ 20 ∧ ∀ x ∈ Txt.split (mk p) (":" : Str), x.length ≤ 600) ∧ p ≠ [] := fun p hp => by
    rcases List.mem_cons.mp hp with rfl | hp
    · refine ⟨⟨?_, by rw [List.length_append, weekC_len hk]; decide, part_one (no58_week _ hk) (by rw [List.length_append, weekC_len hk]; decide)⟩, by simp⟩
      rw [List.all_append, ok_week _ hk]
      decide
    · exact row_good (d := d) Y D.m1 D.m2 (by omega) p hp
  obtain ⟨a, b⟩ := ps_okay hg (by simp [rowP]) (by simp)
  rw [e]
  refine ⟨a, ?_⟩
  rw [b]
  show date5 (mk (decs d)) (mk (monC (m - 1))) (mk (dec4 y)) (mk (clockC s)) (mk (zoneC o)) (wkOk (mk (weekC k ++ [44]))) = _
  have h7 : dayNo y m d % 7 < 7 := Nat.mod_lt _ (by decide)
  by_cases h : k = dayNo y m d % 7
  · rw [if_pos h]
    have := date_read (wn_ok Y D) (u := wkOk (mk (weekC k ++ [44]))) (by show decide (mk (weekC k ++ [44]) = mk (weekC (dayNo y m d % 7) ++ [44])) = true; rw [h]; exact decide_eq_true rfl)
    rw [wn_sec] at this
    exact this
  · rw [if_neg h]
    unfold date5
    rw [day_read D (decs_read D)]
    dsimp only
    have hw : wkOk (mk (weekC k ++ [44])) (dayNo y m d) = false := decide_eq_false fun z => h (weekC_inj _ hk _ h7 (List.append_cancel_right (mk_inj z)))
    rw [if_pos hw]
section
variable {P : Program} {w : World} {K : PySem.W.Frag} {mg : Str → Option Value} {base : Heap}
def spTold : Sp := fun vs H Q _ => ∃ z : Str, vs = [.str z] ∧ PcOk z ∧ (∀ M o, readDate z = some (M, o) → ∀ H', Same H H' → Q (.int M) H') ∧ (readDate z = none → ∀ H', Same H H' → Q .non H')
theorem scLawTold : FnScope ["_law_row"] ["_law_row"] (defScope sLawTold) := ⟨rfl, rfl, rfl, by decide +kernel, rfl, by decide +kernel, by decide +kernel⟩
theorem r_told {CN : Addr} (A : FnAt K mg "_law_told" sLawTold) (RD : ReadyX P w K mg base 5 "read_date" ["text"] (spReadDateX K CN)) (gN : mg "NoDate" = some (.ref CN)) (te : PySem.W.exmOne K (.ref CN) (.ref CN) = some true) :
    Ready P w K mg base 6 "_law_told" ["_law_row"] spTold := by
  obtain ⟨f1, fd1, g1, k1, b1, G1⟩ := RD
  refine ready_of A (fun _ _ _ _ _ _ us hl => match us, hl with | [_], _ => rfl) fun f fd F => ?_
  refine F.ok scLawTold (fun vs H Q E h => ?_) (fun cdv A outer s H vs Q E hr h => ?_)
  · obtain ⟨z, rfl, _⟩ := h
    rfl
  · obtain ⟨z, rfl, pok, q, qn⟩ := h
    have sc := scLawTold
    refine ⟨_, pss_one (ps_try_only (c := .ref CN) (tb := fun W => tRet (tOp (rIxT K) (tCallS (spReadDateX K CN) (WE W) (tCons (tVar 0) tNil)) (tC (.int 0)))) (ts := fun _ _ _ => tRet (tC .non)) (Wout := fun _ _ _ _ => False) rfl rfl ⟨rfl, by decide, Or.inl gN⟩ takes0
        (fun W pn xe tk _ => pss_one (ps_ret (by exact (pe_ix ix_tup (pe_callS G1 hr rfl g1 k1 b1 (fun σ => passAt tk σ) (by exact (pa_cons (pv 0) pa_nil))) pe_int (fun _ _ => rfl)))))
        (fun a oe cls d pn hz hf => pss_one (ps_ret pe_non))), ?_⟩
    refine ⟨_, rfl, _, rfl, .inl ⟨z, rfl, pok, fun r er H' T s nT hT => ?_, fun no H' s => ?_⟩⟩
    · exact ⟨T, _, _, .int r.1, rfl, rfl, SqT.of hT, rfl, q r.1 r.2 er H' s⟩
    · exact ⟨true, te, fun _ a na => qn no H' s, fun z => by cases z⟩
def spWeeks : Sp := fun vs H Q _ => ∃ (y m d s : Nat) (o : Int), vs = [.str (mk (rowC y m d s o))] ∧ YearOk y s o ∧ Day y m d ∧ ∀ H' p, Same H H' → H p = none → H' p = some (.lst [.str (mk (weekC (dayNo y m d % 7)))]) → Q (.ref p) H'
theorem scLawWeeks : FnScope ["_law_row", "_law_week", "_law_word"] ["_law_row"] (defScope sLawWeeks) := ⟨rfl, rfl, rfl, by decide +kernel, rfl, by decide +kernel, by decide +kernel⟩
theorem rowC_len {y m d s : Nat} {o : Int} (Y : YearOk y s o) (hm1 : 1 ≤ m) (hm2 : m ≤ 12) (hd : d ≤ 33) : (rowC y m d s o).length ≤ 200 := by
  have := joinL_len (k := 32) (n := 20) (ps := rowP y m d s o) fun p hp => (row_good (d := d) Y hm1 hm2 hd p hp).1.2.1
  have e : (rowP y m d s o).length = 5 := rfl
  rw [e] at this
  exact Nat.le_trans this (by decide)
theorem one_of {k : Nat} (h : k < 7) : ((List.range 7).filter fun j => decide (j = k)) = [k] := (by decide : ∀ k, k < 7 → ((List.range 7).filter fun j => decide (j = k)) = [k]) k h
theorem r_weeks (A : FnAt K mg "_law_weeks" sLawWeeks) (R : Ready P w K mg base 6 "_law_told" ["_law_row"] spTold) : Ready P w K mg base 7 "_law_weeks" ["_law_row"] spWeeks := by
  obtain ⟨f1, fd1, g1, k1, b1, G1⟩ := R
  refine ready_of A (fun _ _ _ _ _ _ us hl => match us, hl with | [_], _ => rfl) fun f fd F => ?_
  refine F.ok scLawWeeks (fun vs H Q E h => ?_) (fun cdv A outer s H vs Q E hr h => ?_)
  · obtain ⟨y, m, d, s, o, rfl, _⟩ := h
    rfl
  · obtain ⟨y, m, d, sec, o, rfl, Y, D, q⟩ := h
    have sc := scLawWeeks
    refine ⟨_, pss_cons (ps_set (i := 1) sc.nd rfl (.inl rfl) (pe_lst (pa_cons pe_str (pa_cons pe_str (pa_cons pe_str (pa_cons pe_str (pa_cons pe_str (pa_cons pe_str (pa_cons pe_str pa_nil)))))))))
      (pss_one (ps_ret (pe_lc (own := [("_law_word", 2)]) (g := gName 2) (by rfl) sc.nd (pi_list (pv 1)) (blkOk_by (own := [("_law_word", 2)]) (N := ["_law_row", "_law_week", "_law_word"]) (sc := defScope sLawWeeks) (by decide +kernel)) (fun _ _ _ _ _ => (pg_name (i := 2) sc.nd rfl (.inl rfl))) (fun _ _ _ _ _ => (pts_one (pt_cmpR op_notN (pe_call G1 (hr.mono (by decide)) (by rfl) g1 k1 b1 .nil pass0 (pa_cons (pe_op op_add_str (pe_op op_add_str (pv 2) pe_str) (pv 0)) pa_nil)) pe_non (nomark _)))) (fun _ _ _ _ _ => (pv 2))))), ?_⟩
    have hd31 := Nat.le_trans D.d2 (daysOf_le _ _)
    have hrl := rowC_len (s := sec) (o := o) (d := d) Y D.m1 D.m2 (by omega)
    have h7 : dayNo y m d % 7 < 7 := Nat.mod_lt _ (by decide)
    refine ⟨(by show 7 ≤ sizeLine; decide), fun p np => ?_⟩
    have hp1 : (upd H p (.lst [.str "Mon", .str "Tue", .str "Wed", .str "Thu", .str "Fri", .str "Sat", .str "Sun"])) p = some (.lst (week.map V.str)) := upd_same
    have s1 : Same H (upd H p (.lst [.str "Mon", .str "Tue", .str "Wed", .str "Thu", .str "Fri", .str "Sat", .str "Sun"])) := same_new np
    generalize upd H p (.lst [.str "Mon", .str "Tue", .str "Wed", .str "Thu", .str "Fri", .str "Sat", .str "Sun"]) = H1 at hp1 s1 ⊢
    refine ⟨_, rfl, p, rfl, ⟨_, SqL.of hp1⟩, fun D2 hD2 => ?_⟩
    refine lc_it (walk_list (K := K) (a := p) (xs := week.map V.str)) (fun i H' => Same H1 H' ∧ H' D2 = some (.lst (((List.range i).filter fun j => decide (j = dayNo y m d % 7)).map fun j => V.str (mk (weekC j))))) ⟨same_new hD2, upd_same⟩ (fun i H' _ p => SqL.of (p.1 _ _ hp1)) (fun i x H2 H3 hi hp hy => ?_) (fun H2 hp => ?_)
    · obtain ⟨rfl, hx⟩ := hy
      obtain ⟨sm, hd⟩ := hp
      have hi : i < 7 := hi
      rw [List.getElem?_map, week_at hi] at hx
      injection hx with hx
      subst hx
      refine ⟨rfl, ?_⟩
      have c1 := cat_mk (rfl : mk (weekC i) = _) e44
      have c2 := cat_mk c1 (rfl : mk (rowC y m d sec o) = _)
      have hwl := weekC_len hi
      refine ⟨_, rfl, _, _, rfl, rfl, (by rw [← len_append]; exact fitE c1 (by simp; omega)), ?_⟩
      refine ⟨_, rfl, _, _, rfl, rfl, (by rw [← len_append]; exact fitE c2 (by simp; omega)), ?_⟩
      rw [c2]
      obtain ⟨pok, hrd⟩ := wrow_read (k := i) Y D hi
      rw [List.range_succ, List.filter_append] 
      refine ⟨_, rfl, pok, fun M o' e H4 s4 => ?_, fun e H4 s4 => ?_⟩
      · rw [hrd] at e
        have hik : i = dayNo y m d % 7 := by
          by_cases h : i = dayNo y m d % 7
          · exact h
          · rw [if_neg h] at e
            cases e
        refine ⟨rfl, _, rfl, ?_⟩
        rw [decide_eq_false (show ¬ V.int M = V.non from fun z => by cases z)]
        refine iteT ⟨_, rfl, _, s4 _ _ hd, ?_, same_set (sm.trans s4) hD2, ?_⟩
        · rw [List.length_map]
          exact Nat.lt_of_le_of_lt (List.length_filter_le _ _) (by rw [List.length_range]; exact szl (by omega))
        · rw [upd_same, List.filter_cons, if_pos (decide_eq_true hik), List.map_append]
          rfl
      · rw [hrd] at e
        have hik : ¬ i = dayNo y m d % 7 := fun h => by
          rw [if_pos h] at e
          cases e
        refine ⟨rfl, _, rfl, ?_⟩
        rw [decide_eq_true (rfl : V.non = V.non)]
        refine iteF ⟨sm.trans s4, ?_⟩
        rw [List.filter_cons, if_neg (fun z => hik (of_decide_eq_true z)), List.filter_nil, List.append_nil]
        exact s4 _ _ hd
    · obtain ⟨sm, hd⟩ := hp
      have hd : H2 D2 = some (.lst (((List.range 7).filter fun j => decide (j = dayNo y m d % 7)).map fun j => V.str (mk (weekC j)))) := hd
      rw [one_of h7] at hd
      exact q H2 D2 (s1.trans sm) (Same.free s1 hD2) hd
end
end FL

namespace FL
open PySem PySem.Spec PyProof.Rows L2
theorem cut_from (z : Str) {p : Nat} (h : p ≤ z.length) : (cutS z (some (p : Nat)) none).cps.toList = z.cps.toList.drop p := by
  unfold cutS
  rw [HT.sIx_none, HT.sIx_nat, Nat.min_eq_left h]
  show (List.take _ (List.drop p _)) = _
  exact List.take_of_length_le (by rw [List.length_drop, len_cps]; omega)
theorem cut_to (z : Str) {p : Nat} (h : p ≤ z.length) : (cutS z none (some (p : Nat))).cps.toList = z.cps.toList.take p := by
  unfold cutS
  rw [HT.sIx_none, HT.sIx_nat, Nat.min_eq_left h]
  show (List.take _ (List.drop 0 _)) = _
  rw [List.drop_zero, Nat.sub_zero]
theorem cut_wk {k : Nat} (hk : k < 7) (row : List Nat) : cutS (mk (weekC k ++ [44, 32] ++ row)) (some 3) none = mk ([44, 32] ++ row) ∧ cutS (mk (weekC k ++ [44, 32] ++ row)) none (some 3) = mk (weekC k) := by
  have hl := weekC_len hk
  have h3 : 3 ≤ (mk (weekC k ++ [44, 32] ++ row)).length := by
    rw [mk_len]
    simp only [List.length_append]
    omega
  constructor
  · refine mk_eq ?_
    rw [show (3 : Int) = ((3 : Nat) : Int) from rfl, cut_from _ h3, mk_codes, List.append_assoc, List.drop_append_of_le_length (by omega), List.drop_eq_nil_of_le (by omega), List.nil_append]
  · refine mk_eq ?_
    rw [show (3 : Int) = ((3 : Nat) : Int) from rfl, cut_to _ h3, mk_codes, List.append_assoc, List.take_append_of_le_length (by omega), List.take_of_length_le (by omega)]
def restC (y s : Nat) (o : Int) : List Nat := dec4 y ++ [32] ++ clockC s ++ [32] ++ zoneC o
theorem row_rest (y m d s : Nat) (o : Int) : rowC y m d s o = decs d ++ [32] ++ monC (m - 1) ++ [32] ++ restC y s o := by
  show decs d ++ ([32] ++ (monC (m - 1) ++ ([32] ++ (dec4 y ++ ([32] ++ (clockC s ++ ([32] ++ zoneC o))))))) = _
  unfold restC
  simp only [List.append_assoc]
theorem restC_len {y s : Nat} {o : Int} : (restC y s o).length = 19 := by
  unfold restC
  simp [dec4_len, clockC, zoneC, dec2_len]
def dayV (y m s : Nat) (o : Int) (i : Nat) : List V := [.int (momD y m (i + 1) s o), .str (mk (weekC (dayNo y m (i + 1) % 7)))]
def DaysAt (H : Hp) (y m s : Nat) (o : Int) (Ts : List Addr) : Prop := ∀ i T, Ts[i]? = some T → H T = some (.tup (dayV y m s o i))
section
variable {P : Program} {w : World} {K : PySem.W.Frag} {mg : Str → Option Value} {base : Heap}
def spDays : Sp := fun vs H Q _ => ∃ (y m s : Nat) (o : Int) (sa : Addr) (some' : List Int), vs = [.str (mk (monC (m - 1))), .str (mk (restC y s o)), .int o, .ref sa] ∧ YearOk y s o ∧ 1 ≤ m ∧ m ≤ 12 ∧ H sa = some (.lst (some'.map V.int)) ∧
  ∀ H' p Ts, Same H H' → H p = none → H' p = some (.lst (Ts.map V.ref)) → Ts.length = daysOf y (m - 1) → DaysAt H' y m s o Ts → Q (.ref p) H'
theorem scLawDays : FnScope ["_law_month", "_law_rest", "_law_offset", "_law_some", "_law_found", "_law_day", "_law_row", "_law_moment", "_law_shown"] ["_law_month", "_law_rest", "_law_offset", "_law_some"] (defScope sLawDays) := ⟨rfl, rfl, rfl, by decide +kernel, rfl, by decide +kernel, by decide +kernel⟩
theorem r_days (A : FnAt K mg "_law_days" sLawDays) (R1 : Ready P w K mg base 6 "_law_told" ["_law_row"] spTold) (R2 : ReadyX P w K mg base 4 "show_date" ["moment", "offset"] spShowDateX) (R3 : Ready P w K mg base 7 "_law_weeks" ["_law_row"] spWeeks) (m_len : mg "len" = none) (m_range : mg "range" = none) (m_str : mg "str" = none) :
    Ready P w K mg base 8 "_law_days" ["_law_month", "_law_rest", "_law_offset", "_law_some"] spDays := by
  obtain ⟨f1, fd1, g1, k1, b1, G1⟩ := R1
  obtain ⟨f2, fd2, g2, k2, b2, G2⟩ := show_w R2
  obtain ⟨f3, fd3, g3, k3, b3, G3⟩ := R3
  refine ready_of A (fun _ _ _ _ _ _ us hl => match us, hl with | [_, _, _, _], _ => rfl) fun f fd F => ?_
  refine F.ok scLawDays (fun vs H Q E h => ?_) (fun cdv A outer s H vs Q E hr h => ?_)
  · obtain ⟨y, m, s, o, sa, so, rfl, _⟩ := h
    rfl
  · obtain ⟨y, m, sec, o, sa, so, rfl, Y, hm1, hm2, hsa, q⟩ := h
    have sc := scLawDays
    refine ⟨_, pss_cons (ps_set (i := 4) sc.nd rfl (.inl rfl) (pe_lst pa_nil))
      (pss_cons (ps_for PassesOwn.never rfl (pi_range1 (by rfl) m_range (pa_cons pe_int pa_nil)) (pg_name (i := 5) sc.nd rfl (.inl rfl))
        (pss_cons (ps_set (i := 6) sc.nd rfl (.inl rfl) (pe_op op_add_str (pe_op op_add_str (pe_op op_add_str (pe_op op_add_str (pe_callTy call_str_int (by rfl) m_str (by decide +kernel) (pa_cons (pv 5) pa_nil)) pe_str) (pv 0)) pe_str) (pv 1)))
          (pss_cons (ps_set (i := 7) sc.nd rfl (.inl rfl) (pe_call G1 (hr.mono (by decide)) (by rfl) g1 k1 b1 .nil pass0 (pa_cons (pv 6) pa_nil)))
          (pss_cons (ps_if (pt_cmpR op_ne (pe_cmpR op_isN (pv 7) pe_non (nomark _)) (pe_or (pe_cmpR op_eq (pv 5) pe_int (nomark _)) (pe_or (pe_cmpR op_gt (pv 5) (pe_op op_add (pe_callB call_len_seq (by rfl) m_len PySem.boot_len (pa_cons (pv 4) pa_nil)) pe_int) (nomark _)) (pe_one (pe_and (pe_cmpR op_gt (pv 5) pe_int (nomark _)) (pe_one (pe_cmpR op_isN (pv 7) pe_non (nomark _))))))) (nomark _))
            (pss_one (ps_ret pe_non))
            pss_nil)
          (pss_one (ps_if (pt_cmpR op_notN (pv 7) pe_non (nomark _))
            (pss_cons (ps_set (i := 8) sc.nd rfl (.inl rfl) (pe_call G2 (hr.mono (by decide)) (by rfl) g2 k2 b2 .nil passL (pa_cons (pv 7) (pa_cons (pv 2) pa_nil))))
              (pss_cons (ps_if (PW.pt (pw_or (pt_cmpR op_ne (pe_slice sl_str (pv 8) (po_some pe_int) po_none) (pe_op op_add_str pe_str (pv 6)) (nomark _)) (pw_or1 (PW.pt (pw_and (pt_cmpR op_in_seq (pv 5) (pv 3) (by rfl)) (pw_and1 (pt_cmpR (op_neD hr.units) (pe_call G3 (hr.mono (by decide)) (by rfl) g3 k3 b3 .nil pass0 (pa_cons (pv 6) pa_nil)) (pe_lst (pa_cons (pe_slice sl_str (pv 8) po_none (po_some pe_int)) pa_nil)) (nomark _))))))))
                (pss_one (ps_ret pe_non))
                pss_nil)
              (pss_one (ps_expr (pe_bm PySem.F.plainAttrs_list PySem.F.slot_list_append PySem.F.type_list_append mt_append (pv 4) (pa_cons (pe_tup (pa_cons (pv 7) (pa_cons (pe_slice sl_str (pv 8) po_none (po_some pe_int)) pa_nil))) pa_nil))))))
            pss_nil))))))
      (pss_one (ps_ret (pv 4)))), ?_⟩
    refine ⟨(by show 0 ≤ sizeLine; decide), fun p np => ?_⟩
    refine ⟨34, rfl, by decide, by decide, ?_⟩
    have hn31 := daysOf_le y (m - 1)
    have hn28 := daysOf_ge (y := y) (m := m - 1) (by omega)
    obtain ⟨n, hn⟩ : ∃ n, n = daysOf y (m - 1) := ⟨_, rfl⟩
    rw [← hn] at hn31 hn28
    have hsa1 : (upd H p (.lst [])) sa = some (.lst (so.map V.int)) := kn hsa np
    refine for_it walk_range (fun i σ H' => ∃ (Ts : List Addr) (y5 y6 y7 y8 : Option V), σ = [some (.str (mk (monC (m - 1)))), some (.str (mk (restC y sec o))), some (.int o), some (.ref sa), some (.ref p), y5, y6, y7, y8] ∧ Same H H' ∧ H' p = some (.lst (Ts.map V.ref)) ∧ Ts.length = min (i - 1) n ∧ DaysAt H' y m sec o Ts)
      ⟨[], none, none, none, none, rfl, same_new np, upd_same, by simp, fun i T h => by simp at h⟩ (fun _ _ _ _ _ => trivial) (fun d x σ H1 H2 hi hp hy => ?_) (fun σ H1 hp => ?_)
    case refine_2 =>
      obtain ⟨Ts, y5, y6, y7, y8, rfl, sm, hp1, hl, hT⟩ := hp
      refine ⟨_, rfl, q H1 p Ts sm np hp1 ?_ hT⟩
      rw [hl, ← hn]
      show min (34 - 1) n = n
      omega
    obtain ⟨Ts, y5, y6, y7, y8, rfl, sm, hp1, hl, hT⟩ := hp
    obtain ⟨rfl, hxv⟩ := hy
    have hi : d < 34 := hi
    have hx' : x = .int (d : Nat) := by
      rw [hxv]
      exact congrArg V.int (Int.zero_add _)
    subst hx'
    have hdl := decs_len d
    have hml := monC_len (m - 1)
    have hrl := restC_len (y := y) (s := sec) (o := o)
    have c1 := cat_mk (toString_codes (n := d) (by omega)) e32
    have c2 := cat_mk c1 (rfl : mk (monC (m - 1)) = _)
    have c3 := cat_mk c2 e32
    have c4 := cat_mk c3 (rfl : mk (restC y sec o) = _)
    refine ⟨_, rfl, _, rfl, small_log (by omega), _, _, rfl, rfl, (by rw [← len_append]; exact fitE c1 (by simp; omega)), ?_⟩
    refine ⟨_, rfl, _, _, rfl, rfl, (by rw [← len_append]; exact fitE c2 (by simp; omega)), ?_⟩
    refine ⟨_, _, rfl, rfl, (by rw [← len_append]; exact fitE c3 (by simp; omega)), ?_⟩
    refine ⟨_, rfl, _, _, rfl, rfl, (by rw [← len_append]; exact fitE c4 (by simp; omega)), ?_⟩
    rw [c4, ← row_rest]
    have hrow := rowC_len (s := sec) (o := o) (d := d) Y hm1 hm2 (by omega)
    by_cases hv : 1 ≤ d ∧ d ≤ n
    · have D : Day y m d := ⟨Y.y1, Y.y2, hm1, hm2, hv.1, by omega⟩
      obtain ⟨pok, hrd⟩ := row_read Y D
      refine ⟨_, rfl, _, rfl, pok, fun M o' e H3 s3 => ?_, fun e => by rw [hrd] at e; cases e⟩
      rw [hrd] at e
      injection e with e
      injection e with e1 e2
      subst e1
      subst e2
      have hp3 := s3 _ _ hp1
      refine ⟨_, rfl, rfl, _, rfl, rfl, _, rfl, ?_⟩
      rw [decide_eq_false (show ¬ V.int ((d : Nat) : Int) = V.int 0 from fun z => by have := V.int.inj z; omega)]
      refine iteF ⟨_, rfl, _, rfl, p, _, rfl, .inl (SqL.of hp3), _, _, rfl, rfl, _, _, rfl, rfl, _, rfl, ?_⟩
      refine ite2 (fun h => absurd (of_decide_eq_true h) (by rw [List.length_map]; omega)) (fun h0 => ?_)
      have h7 : dayNo y m d % 7 < 7 := Nat.mod_lt _ (by decide)
      have ok := wn_ok Y D
      obtain ⟨hA, hB⟩ := strs_ok (zs := [mk (weekC (dayNo y m d % 7))]) (fun z hz => by
        rw [List.mem_singleton.mp hz]
        refine strOk_of fun c hc => ?_
        rw [mk_codes] at hc
        exact okD_lt (List.all_eq_true.mp (ok_week _ h7) c hc))
      have hwl := weekC_len h7
      have c5 := cat_mk e44 (rfl : mk (rowC y m d sec o) = _)
      have fint : ∀ (Hx : Hp), Same H3 Hx → Hx p = some (.lst (Ts.map V.ref)) → ∀ T, Hx T = none → ∃ (Ts' : List Addr) (y5 y6 y7 y8 : Option V), [some (V.str (mk (monC (m - 1)))), some (.str (mk (restC y sec o))), some (.int o), some (.ref sa), some (.ref p), some (.int (d : Nat)), some (.str (mk (rowC y m d sec o))), some (.int (momD y m d sec o)), some (.str (mk (weekC (dayNo y m d % 7) ++ [44, 32] ++ rowC y m d sec o)))] = [some (.str (mk (monC (m - 1)))), some (.str (mk (restC y sec o))), some (.int o), some (.ref sa), some (.ref p), y5, y6, y7, y8] ∧ Same H (upd (upd Hx T (.tup [.int (momD y m d sec o), .str (mk (weekC (dayNo y m d % 7)))])) p (.lst (Ts.map V.ref ++ [.ref T]))) ∧ (upd (upd Hx T (.tup [.int (momD y m d sec o), .str (mk (weekC (dayNo y m d % 7)))])) p (.lst (Ts.map V.ref ++ [.ref T]))) p = some (.lst (Ts'.map V.ref)) ∧ Ts'.length = min (d + 1 - 1) n ∧ DaysAt (upd (upd Hx T (.tup [.int (momD y m d sec o), .str (mk (weekC (dayNo y m d % 7)))])) p (.lst (Ts.map V.ref ++ [.ref T]))) y m sec o Ts' := fun Hx sx hpx T nT => by
        have hTp : T ≠ p := Ne.symm (ne_of_none hpx nT)
        refine ⟨Ts ++ [T], _, _, _, _, rfl, same_set ((sm.trans s3).trans (sx.trans (same_new nT))) np, ?_, ?_, fun j U hU => ?_⟩
        · rw [upd_same, List.map_append]
          rfl
        · rw [List.length_append, hl]
          show min (d - 1) n + 1 = min (d + 1 - 1) n
          omega
        · have hj := (List.getElem?_eq_some_iff.mp hU).1
          rw [List.length_append] at hj
          have hj : j < Ts.length + 1 := hj
          by_cases e : j < Ts.length
          · rw [List.getElem?_append_left e] at hU
            have hU1 := hT j U hU
            have hUp : U ≠ p := fun z => by
              rw [z, hp1] at hU1
              cases hU1
            rw [upd_ne hUp]
            exact kn (sx _ _ (s3 _ _ hU1)) nT
          · rw [List.getElem?_append_right (by omega), show j - Ts.length = 0 by omega] at hU
            injection hU with hU
            subst hU
            rw [upd_ne hTp, upd_same]
            unfold dayV
            rw [show j + 1 = d by omega]
      by_cases h28 : (28 : Int) < (d : Nat)
      case' pos =>
        refine ⟨_, rfl, _, _, rfl, rfl, _, rfl, ?_⟩
        dsimp only
        rw [decide_eq_true h28]
        refine iteT ⟨_, rfl, rfl, rfl, _, rfl, iteNS (c := V.bl (decide (V.int (momD y m d sec o) = V.non)) = V.bl (decide (V.int (momD y m d sec o) = V.non))) rfl ?_⟩
      case' neg =>
        refine ⟨_, rfl, _, _, rfl, rfl, _, rfl, ?_⟩
        dsimp only
        rw [decide_eq_false h28]
        refine iteF ⟨rfl, _, rfl, iteNS (c := V.bl (decide (V.int (momD y m d sec o) = V.non)) = V.bl false) (by rw [decide_eq_false (show ¬ V.int (momD y m d sec o) = V.non from fun z => by cases z)]) ?_⟩
      all_goals
        refine ⟨_, rfl, rfl, _, rfl, ?_⟩
        rw [decide_eq_false (show ¬ V.int (momD y m d sec o) = V.non from fun z => by cases z)]
        refine iteT ⟨_, rfl, _, rfl, _, _, wn y m d sec o, rfl, ok, rfl, rfl, fun H5 s5 => ?_⟩
        rw [txt_wn]
        refine ⟨_, rfl, _, rfl, _, rfl, fit (by simp; omega), ?_⟩
        rw [(cut_wk h7 _).1]
        refine ⟨_, rfl, _, _, rfl, rfl, (by rw [← len_append]; exact fitE c5 (by simp; omega)), rfl, _, rfl, iteNS (c := V.str (mk ([44, 32] ++ rowC y m d sec o)) = V.str (", " ++ mk (rowC y m d sec o))) (by rw [c5]) ?_⟩
        have hsa5 := s5 _ _ (s3 _ _ (sm _ _ hsa))
        have hp5 := s5 _ _ hp3
        refine ⟨_, rfl, _, rfl, sa, _, rfl, .inl (SqL.of hsa5), rfl, List.all_eq_true.mpr (fun v hv => by obtain ⟨i, _, rfl⟩ := List.mem_map.mp hv; rfl), _, rfl, ite2 (fun h => ?_) (fun h => ?_)⟩
        · refine ⟨_, rfl, y, m, d, sec, o, rfl, Y, D, fun H6 p6 s6 n6 h6 => ?_⟩
          refine ⟨_, rfl, _, rfl, _, rfl, fit (by simp; omega), ?_⟩
          rw [(cut_wk h7 _).2]
          refine ⟨(by show 1 ≤ sizeLine; decide), fun p7 n7 => ?_⟩
          refine ⟨_, _, .lst (SqL.of (kn h6 n7)) (dp_strs [mk (weekC (dayNo y m d % 7))]), .lst (SqL.of upd_same) (dp_strs [mk (weekC (dayNo y m d % 7))]), hA, hA, _, rfl, ?_⟩
          rw [hB]
          refine iteF ?_
          have hp7 := kn (x := .lst [.str (mk (weekC (dayNo y m d % 7)))]) (s6 _ _ hp5) n7
          refine ⟨_, rfl, .inl ⟨rfl, _, SqL.of hp7⟩, _, rfl, _, rfl, _, rfl, _, rfl, fit (by simp; omega), ?_⟩
          rw [(cut_wk h7 _).2]
          refine ⟨(by show 2 ≤ sizeLine; decide), fun T nT => ?_⟩
          refine ⟨p, _, _, rfl, rfl, kn hp7 nT, by rw [List.length_map]; exact szl (by omega), ?_⟩
          exact fint _ ((s5.trans s6).trans (same_new n7)) hp7 T nT
        · refine ⟨_, rfl, .inl ⟨rfl, _, SqL.of hp5⟩, _, rfl, _, rfl, _, rfl, _, rfl, fit (by simp; omega), ?_⟩
          rw [(cut_wk h7 _).2]
          refine ⟨(by show 2 ≤ sizeLine; decide), fun T nT => ?_⟩
          refine ⟨p, _, _, rfl, rfl, kn hp5 nT, by rw [List.length_map]; exact szl (by omega), ?_⟩
          exact fint _ s5 hp5 T nT
    · have hbad : d = 0 ∨ n < d := by omega
      obtain ⟨pok, hrd⟩ := row_none (s := sec) (o := o) (d := d) Y hm1 hm2 (by omega) (by rw [← hn]; exact hbad)
      refine ⟨_, rfl, _, rfl, pok, (fun M o' e => by rw [hrd] at e; cases e), fun _ H3 s3 => ?_⟩
      have hp3 := s3 _ _ hp1
      refine ⟨_, rfl, rfl, _, rfl, rfl, _, rfl, ?_⟩
      have fin : ∃ (Ts' : List Addr) (z5 z6 z7 z8 : Option V), [some (V.str (mk (monC (m - 1)))), some (.str (mk (restC y sec o))), some (.int o), some (.ref sa), some (.ref p), some (.int (d : Nat)), some (.str (mk (rowC y m d sec o))), some .non, y8] = [some (.str (mk (monC (m - 1)))), some (.str (mk (restC y sec o))), some (.int o), some (.ref sa), some (.ref p), z5, z6, z7, z8] ∧ Same H H3 ∧ H3 p = some (.lst (Ts'.map V.ref)) ∧ Ts'.length = min (d + 1 - 1) n ∧ DaysAt H3 y m sec o Ts' := by
        refine ⟨Ts, _, _, _, _, rfl, sm.trans s3, hp3, ?_, fun j U hU => s3 _ _ (hT j U hU)⟩
        rw [hl]
        omega
      by_cases h0 : d = 0
      · rw [decide_eq_true (show V.int ((d : Nat) : Int) = V.int 0 by rw [h0]; rfl)]
        refine iteT ⟨rfl, _, rfl, iteNS (c := V.bl (decide (V.non = V.non)) = V.bl true) (by rw [decide_eq_true rfl]) ?_⟩
        refine ⟨_, rfl, rfl, _, rfl, ?_⟩
        rw [decide_eq_true (rfl : V.non = V.non)]
        exact iteF fin
      · rw [decide_eq_false (show ¬ V.int ((d : Nat) : Int) = V.int 0 from fun z => by have := V.int.inj z; omega)]
        refine iteF ⟨_, rfl, _, rfl, p, _, rfl, .inl (SqL.of hp3), _, _, rfl, rfl, _, _, rfl, rfl, _, rfl, ?_⟩
        dsimp only
        by_cases h1 : (((Ts.map V.ref).length : Nat) : Int) + 1 < (d : Nat)
        · rw [decide_eq_true h1]
          refine iteT ⟨rfl, _, rfl, iteNS (c := V.bl (decide (V.non = V.non)) = V.bl true) (by rw [decide_eq_true rfl]) ?_⟩
          refine ⟨_, rfl, rfl, _, rfl, ?_⟩
          rw [decide_eq_true (rfl : V.non = V.non)]
          exact iteF fin
        · rw [decide_eq_false h1]
          rw [List.length_map] at h1
          refine iteF ⟨_, rfl, _, _, rfl, rfl, _, rfl, ?_⟩
          dsimp only
          rw [decide_eq_true (show (28 : Int) < (d : Nat) by omega)]
          refine iteT ⟨_, rfl, rfl, rfl, _, rfl, iteNS (c := V.bl (decide (V.non = V.non)) = V.bl (decide (V.non = V.non))) rfl ?_⟩
          refine ⟨_, rfl, rfl, _, rfl, ?_⟩
          rw [decide_eq_true (rfl : V.non = V.non)]
          exact iteF fin
end
end FL

namespace FL
open PySem PySem.Spec PyProof.Rows L2
def mom0 (y s : Nat) (o : Int) : Int := ((dAhead y : Int) - 730119) * 86400 + s - o * 60
theorem dayNo_at {y m i : Nat} (hm : 1 ≤ m) : dayNo y m (i + 1) = dAhead y + (cum y (m - 1) + i) := by
  unfold dayNo
  omega
theorem momD_at {y m s : Nat} {o : Int} (Y : YearOk y s o) {i : Nat} (hm1 : 1 ≤ m) (hm2 : m ≤ 12) (hi : i < daysOf y (m - 1)) : momD y m (i + 1) s o = mom0 y s o + 86400 * ((cum y (m - 1) + i : Nat) : Int) := by
  have D : Day y m (i + 1) := ⟨Y.y1, Y.y2, hm1, hm2, by omega, by omega⟩
  have h := mom_day (wn_ok Y D)
  rw [wn_sec] at h
  have h : momD y m (i + 1) s o + o * 60 = 86400 * ((dayNo y m (i + 1) : Int) - 730119) + (s : Nat) := h
  rw [dayNo_at hm1] at h
  unfold mom0
  omega
def yearV (y s : Nat) (o : Int) (k : Nat) : List V := [.int (mom0 y s o + 86400 * (k : Nat)), .str (mk (weekC ((dAhead y + k) % 7)))]
def YearAt (H : Hp) (y s : Nat) (o : Int) (Us : List Addr) : Prop := ∀ k U, Us[k]? = some U → H U = some (.tup (yearV y s o k))
theorem dayV_year {y m s : Nat} {o : Int} (Y : YearOk y s o) {i : Nat} (hm1 : 1 ≤ m) (hm2 : m ≤ 12) (hi : i < daysOf y (m - 1)) : dayV y m s o i = yearV y s o (cum y (m - 1) + i) := by
  unfold dayV yearV
  rw [momD_at Y hm1 hm2 hi, dayNo_at hm1]
theorem year_more {H H' : Hp} {y m s : Nat} {o : Int} {Us Ts : List Addr} (Y : YearOk y s o) (hm1 : 1 ≤ m) (hm2 : m ≤ 12) (sm : Same H H') (h1 : YearAt H y s o Us) (hl : Us.length = cum y (m - 1)) (h2 : DaysAt H' y m s o Ts) (hl2 : Ts.length = daysOf y (m - 1)) : YearAt H' y s o (Us ++ Ts) ∧ (Us ++ Ts).length = cum y m := by
  constructor
  · intro k U hU
    by_cases e : k < Us.length
    · rw [List.getElem?_append_left e] at hU
      exact sm _ _ (h1 k U hU)
    · rw [List.getElem?_append_right (by omega)] at hU
      have hk := (List.getElem?_eq_some_iff.mp hU).1
      rw [h2 _ U hU, dayV_year Y hm1 hm2 (by omega), show cum y (m - 1) + (k - Us.length) = k by omega]
  · rw [List.length_append, hl, hl2]
    exact (cum_last hm1).symm
theorem week8 : ∀ a, a < 7 → (week ++ [("Mon" : Str)])[a + 1]? = some (mk (weekC ((a + 1) % 7))) := by decide +kernel
theorem week8_at : ∀ a, a < 7 → (week ++ [("Mon" : Str)])[a]? = some (mk (weekC a)) := by decide +kernel
theorem week8_no : ∀ a, a < 7 → ∀ b, b < a → (week ++ [("Mon" : Str)])[b]? ≠ some (mk (weekC a)) := by decide +kernel
theorem mod_is (y k : Nat) : decide (V.int ((y : Int) % (k : Nat)) = V.int 0) = decide (y % k = 0) := decide_eq_decide.mpr ⟨fun e => by have := V.int.inj e; omega, fun e => congrArg V.int (by omega)⟩
section
variable {P : Program} {w : World} {K : PySem.W.Frag} {mg : Str → Option Value} {base : Heap}
def spYear : Sp := fun vs H Q _ => ∃ (y h mi s : Nat) (o : Int) (ca sa : Addr) (so : List Int), vs = [.int (y : Nat), .ref ca, .int o, .ref sa] ∧ 1 ≤ y ∧ y ≤ 9999 ∧ h < 24 ∧ mi < 60 ∧ s < 60 ∧ -1439 ≤ o ∧ o ≤ 1439 ∧
  H ca = some (.lst [.int (h : Nat), .int (mi : Nat), .int (s : Nat)]) ∧ H sa = some (.lst (so.map V.int)) ∧ ∀ H', Q (.bl true) H'
theorem scLawYearRight : FnScope ["_law_year", "_law_clock", "_law_offset", "_law_some", "_law_months", "_law_rest", "_law_days_here", "_law_month", "_law_found", "_law_leap", "_law_week", "_law_k", "_law_one"] ["_law_year", "_law_clock", "_law_offset", "_law_some"] (defScope sLawYearRight) := ⟨rfl, rfl, rfl, by decide +kernel, rfl, by decide +kernel, by decide +kernel⟩
theorem r_year_right (A : FnAt K mg "_law_year_right" sLawYearRight) (R1 : Ready P w K mg base 1 "_law_two" ["_law_number"] spTwo) (R2 : Ready P w K mg base 8 "_law_days" ["_law_month", "_law_rest", "_law_offset", "_law_some"] spDays) (m_len : mg "len" = none) (m_range : mg "range" = none) (m_str : mg "str" = none) (m_abs : mg "abs" = none) (m_int : mg "int" = none) :
    Ready P w K mg base 9 "_law_year_right" ["_law_year", "_law_clock", "_law_offset", "_law_some"] spYear := by
  obtain ⟨f1, fd1, g1, k1, b1, G1⟩ := R1
  obtain ⟨f2, fd2, g2, k2, b2, G2⟩ := R2
  refine ready_of A (fun _ _ _ _ _ _ us hl => match us, hl with | [_, _, _, _], _ => rfl) fun f fd F => ?_
  refine F.ok scLawYearRight (fun vs H Q E h => ?_) (fun cdv A outer s H vs Q E hr h => ?_)
  · obtain ⟨y, h, mi, s, o, ca, sa, so, rfl, _⟩ := h
    rfl
  · obtain ⟨y, h, mi, sec0, o, ca, sa, so, rfl, hy1, hy2, hh, hmi, hs0, ho1, ho2, hca, hsa, q⟩ := h
    have sc := scLawYearRight
    refine ⟨_, pss_cons (ps_set (i := 4) sc.nd rfl (.inl rfl) (pe_lst (pa_cons pe_str (pa_cons pe_str (pa_cons pe_str (pa_cons pe_str (pa_cons pe_str (pa_cons pe_str (pa_cons pe_str (pa_cons pe_str (pa_cons pe_str (pa_cons pe_str (pa_cons pe_str (pa_cons pe_str pa_nil))))))))))))))
      (pss_cons (ps_set (i := 5) sc.nd rfl (.inl rfl) (pe_op op_add_str (pe_op op_add_str (pe_op op_add_str (pe_op op_mulS pe_str (pe_op op_sub pe_int (pe_callB call_len_str (by rfl) m_len PySem.boot_len (pa_cons (pe_callTy call_str_int (by rfl) m_str (by decide +kernel) (pa_cons (pv 0) pa_nil)) pa_nil)))) (pe_callTy call_str_int (by rfl) m_str (by decide +kernel) (pa_cons (pv 0) pa_nil))) pe_str) (pe_join pe_str (pe_lc (own := [("_law_one", 12)]) (g := gName 12) (tt := tYes) (by rfl) sc.nd (pi_list (pv 1)) (blkOk_by (own := [("_law_one", 12)]) (N := ["_law_year", "_law_clock", "_law_offset", "_law_some", "_law_months", "_law_rest", "_law_days_here", "_law_month", "_law_found", "_law_leap", "_law_week", "_law_k", "_law_one"]) (sc := defScope sLawYearRight) (by decide +kernel)) (fun _ _ _ _ _ => (pg_name (i := 12) sc.nd rfl (.inl rfl))) (fun _ _ _ _ _ => pts_nil) (fun _ _ _ _ _ => (pe_call G1 (hr.mono (by decide)) (by rfl) g1 k1 b1 .nil pass0 (pa_cons (pv 12) pa_nil)))))))
      (pss_cons (ps_set (i := 5) sc.nd rfl (.inl rfl) (pe_op op_add_str (pe_op op_add_str (pv 5) pe_str) (pe_item_str pe_str (pe_callTy call_int1 (by rfl) m_int (by decide +kernel) (pa_cons (pe_cmpR op_lt (pv 2) pe_int (nomark _)) pa_nil)) (fun _ _ => rfl))))
      (pss_cons (ps_set (i := 5) sc.nd rfl (.inl rfl) (pe_op op_add_str (pe_op op_add_str (pv 5) (pe_call G1 (hr.mono (by decide)) (by rfl) g1 k1 b1 .nil pass0 (pa_cons (pe_op op_fdiv (pe_callB call_abs (by rfl) m_abs (by decide +kernel) (pa_cons (pv 2) pa_nil)) pe_int) pa_nil))) (pe_call G1 (hr.mono (by decide)) (by rfl) g1 k1 b1 .nil pass0 (pa_cons (pe_op op_mod (pe_callB call_abs (by rfl) m_abs (by decide +kernel) (pa_cons (pv 2) pa_nil)) pe_int) pa_nil))))
      (pss_cons (ps_set (i := 6) sc.nd rfl (.inl rfl) (pe_lst pa_nil))
      (pss_cons (ps_for PassesOwn.never rfl (pi_list (pv 4)) (pg_name (i := 7) sc.nd rfl (.inl rfl))
        (pss_cons (ps_set (i := 8) sc.nd rfl (.inl rfl) (pe_call G2 (hr.mono (by decide)) (by rfl) g2 k2 b2 .nil pass0 (pa_cons (pv 7) (pa_cons (pv 5) (pa_cons (pv 2) (pa_cons (pv 3) pa_nil))))))
          (pss_cons (ps_if (pt_cmpR op_isN (pv 8) pe_non (nomark _))
            (pss_one (ps_ret pe_bl))
            pss_nil)
          (pss_one (ps_set (i := 6) sc.nd rfl (.inl rfl) (pe_op op_cat (pv 6) (pv 8)))))))
      (pss_cons (ps_set (i := 9) sc.nd rfl (.inl rfl) (pe_and (pe_cmpR op_eq (pe_op op_mod (pv 0) pe_int) pe_int (nomark _)) (pe_one (pe_or (pe_cmpR op_ne (pe_op op_mod (pv 0) pe_int) pe_int (nomark _)) (pe_one (pe_cmpR op_eq (pe_op op_mod (pv 0) pe_int) pe_int (nomark _)))))))
      (pss_cons (ps_if (pt_cmpR op_ne (pe_callB call_len_seq (by rfl) m_len PySem.boot_len (pa_cons (pv 6) pa_nil)) (pe_op op_add pe_int (pe_callTy call_int1 (by rfl) m_int (by decide +kernel) (pa_cons (pv 9) pa_nil))) (nomark _))
        (pss_one (ps_ret pe_bl))
        pss_nil)
      (pss_cons (ps_set (i := 10) sc.nd rfl (.inl rfl) (pe_lst (pa_cons pe_str (pa_cons pe_str (pa_cons pe_str (pa_cons pe_str (pa_cons pe_str (pa_cons pe_str (pa_cons pe_str (pa_cons pe_str pa_nil))))))))))
      (pss_cons (ps_for PassesOwn.never rfl (pi_range2 (by rfl) m_range (pa_cons pe_int (pa_cons (pe_callB call_len_seq (by rfl) m_len PySem.boot_len (pa_cons (pv 6) pa_nil)) pa_nil))) (pg_name (i := 11) sc.nd rfl (.inl rfl))
        (pss_one (ps_if (PW.pt (pw_or (pt_cmpR op_ne (pe_op op_sub (pe_ix ix_tup (pe_ix ix_list (pv 6) (pv 11) (fun _ _ => rfl)) pe_int (fun _ _ => rfl)) (pe_ix ix_tup (pe_ix ix_list (pv 6) (pe_op op_sub (pv 11) pe_int) (fun _ _ => rfl)) pe_int (fun _ _ => rfl))) pe_int (nomark _)) (pw_or1 (pt_cmpR op_ne (pe_ix ix_tup (pe_ix ix_list (pv 6) (pv 11) (fun _ _ => rfl)) pe_int (fun _ _ => rfl)) (pe_ix ix_list (pv 10) (pe_op op_add (pe_bm PySem.F.plainAttrs_list PySem.F.slot_list_index PySem.F.type_list_index mt_index (pv 10) (pa_cons (pe_ix ix_tup (pe_ix ix_list (pv 6) (pe_op op_sub (pv 11) pe_int) (fun _ _ => rfl)) pe_int (fun _ _ => rfl)) pa_nil)) pe_int) (fun _ _ => rfl)) (nomark _)))))
            (pss_one (ps_ret pe_bl))
            pss_nil)))
      (pss_one (ps_ret pe_bl))))))))))), ?_⟩
    obtain ⟨sec, hsec⟩ : ∃ sec, sec = h * 3600 + mi * 60 + sec0 := ⟨_, rfl⟩
    have Y : YearOk y sec o := ⟨hy1, hy2, by omega, ho1, ho2⟩
    have hclk : TL.joinL [58] ([h, mi, sec0].map dec2) = clockC sec := by
      have D0 : Day 2000 1 1 := ⟨by decide, by decide, by decide, by decide, by decide, by decide⟩
      have := clock_of (t := ⟨2000, 1, 1, h, mi, sec0, 0⟩) ⟨D0, hh, hmi, hs0, (show (-1439 : Int) ≤ 0 by decide), (show (0 : Int) ≤ 1439 by decide)⟩
      rw [hsec]
      exact this
    -- the months
    refine ⟨(by show 12 ≤ sizeLine; decide), fun pm nm => ?_⟩
    have hpm : (upd H pm (.lst [.str "Jan", .str "Feb", .str "Mar", .str "Apr", .str "May", .str "Jun", .str "Jul", .str "Aug", .str "Sep", .str "Oct", .str "Nov", .str "Dec"])) pm = some (.lst (mons.map V.str)) := upd_same
    have s1 : Same H (upd H pm (.lst [.str "Jan", .str "Feb", .str "Mar", .str "Apr", .str "May", .str "Jun", .str "Jul", .str "Aug", .str "Sep", .str "Oct", .str "Nov", .str "Dec"])) := same_new nm
    generalize upd H pm (.lst [.str "Jan", .str "Feb", .str "Mar", .str "Apr", .str "May", .str "Jun", .str "Jul", .str "Aug", .str "Sep", .str "Oct", .str "Nov", .str "Dec"]) = H1 at hpm s1 ⊢
    -- the rest of a row
    have hl := decs_len y
    have et := toString_codes (n := y) (by omega)
    refine ⟨_, rfl, _, rfl, small_log (by omega), _, rfl, fitE et (by omega), _, _, rfl, rfl, ?_⟩
    refine ⟨48, 4 - (decs y).length, rfl, ?_, by omega, ?_⟩
    · show V.int (4 - ((((toString (y : Int) : String) : Str).length : Nat) : Int)) = _
      rw [et, mk_len]
      exact congrArg V.int (by omega)
    have c1 := cat_mk (rfl : mk (List.replicate (4 - (decs y).length) 48) = _) et
    rw [year_codes (by omega)] at c1
    refine ⟨_, rfl, _, rfl, small_log (by omega), _, _, rfl, rfl, (by rw [← len_append]; exact fitE c1 (by simp [dec4_len])), ?_⟩
    have c2 := cat_mk c1 e32
    refine ⟨_, _, rfl, rfl, (by rw [← len_append]; exact fitE c2 (by simp [dec4_len])), ?_⟩
    have hca1 := s1 _ _ hca
    refine ⟨⟨_, rfl⟩, _, rfl, ca, rfl, ⟨_, SqL.of hca1⟩, fun D hD => ?_⟩
    obtain ⟨l, hlq⟩ : ∃ l, l = [h, mi, sec0] := ⟨_, rfl⟩
    have hall : ∀ n ∈ l, n < 100 := fun n hn => by
      rw [hlq] at hn
      simp only [List.mem_cons, List.not_mem_nil, or_false] at hn
      rcases hn with rfl | rfl | rfl <;> omega
    have hlen3 : l.length = 3 := by rw [hlq]; rfl
    rw [← hlq] at hclk
    have hca2 : H1 ca = some (.lst (l.map fun n : Nat => V.int (n : Int))) := by rw [hlq]; exact hca1
    refine lc_it (walk_list (K := K) (a := ca) (xs := l.map fun n : Nat => V.int (n : Int))) (fun i H' => Same H1 H' ∧ H' D = some (.lst ((((l.take i).map dec2).map mk).map V.str))) ⟨same_new hD, upd_same⟩ (fun i H' _ p => SqL.of (p.1 _ _ hca2)) (fun i x H2 H3 hi hp hy => ?_) (fun H2 hp => ?_)
    · obtain ⟨rfl, hx⟩ := hy
      obtain ⟨sm, hd⟩ := hp
      rw [List.length_map] at hi
      have hn := List.getElem?_eq_getElem hi
      rw [List.getElem?_map, hn] at hx
      injection hx with hx
      subst hx
      refine ⟨rfl, ?_⟩
      unfold tYes
      refine iteT ?_
      refine ⟨_, rfl, l[i], rfl, hall _ (List.getElem_mem hi), fun H4 s4 => ⟨_, s4 _ _ hd, ?_, same_set (sm.trans s4) hD, ?_⟩⟩
      · rw [List.length_map, List.length_map, List.length_map]
        exact Nat.lt_of_le_of_lt (List.length_take_le _ _) (szl (by omega))
      · rw [upd_same, take_more hn, List.map_append, List.map_append, List.map_append]
        rfl
    obtain ⟨sm2, hd⟩ := hp
    rw [List.length_map, List.take_length] at hd
    have s2 := s1.trans sm2
    have hj : Txt.join (":" : Str) ((l.map dec2).map mk) = mk (clockC sec) := by rw [join_mk e58, hclk]
    refine ⟨(":" : Str), D, _, rfl, rfl, .inl (SqL.of hd), ?_, ?_⟩
    · have h1 := len_sum (":" : Str) (l.map dec2) (n := 2) fun p hp => by
        obtain ⟨n, _, rfl⟩ := List.mem_map.mp hp
        exact Nat.le_refl 2
      have h2 : (":" : Str).length = 1 := by decide +kernel
      rw [h2]
      simp only [List.length_map, hlen3] at h1 ⊢
      omega
    rw [hj]
    have hcl : (clockC sec).length = 8 := rfl
    have c3 := cat_mk c2 (rfl : mk (clockC sec) = _)
    refine ⟨_, _, rfl, rfl, (by rw [← len_append]; exact fitE c3 (by simp [dec4_len]; omega)), ?_⟩
    have c4 := cat_mk c3 e32
    refine ⟨_, rfl, _, _, rfl, rfl, (by rw [← len_append]; exact fitE c4 (by simp [dec4_len]; omega)), ?_⟩
    refine ⟨_, rfl, _, _, rfl, rfl, .inr ⟨_, rfl, ?_⟩⟩
    have signs_cut : ("+-" : Str).length = 2 := by decide +kernel
    have hz : zoneC o = (if o < 0 then 45 else 43) :: (dec2 (o.natAbs / 60) ++ dec2 (o.natAbs % 60)) := rfl
    obtain ⟨sg, hsg, hzz⟩ : ∃ sg : Nat, sg = (if o < 0 then 45 else 43) ∧ zoneC o = [sg] ++ dec2 (o.natAbs / 60) ++ dec2 (o.natAbs % 60) := ⟨_, rfl, by rw [hz]; simp⟩
    refine ⟨("+-" : Str), (if o < 0 then 1 else 0), sg, rfl, ?_, ?_, ?_, ?_, ?_, ?_⟩
    · by_cases h : o < 0
      · rw [decide_eq_true h, if_pos h]
        rfl
      · rw [decide_eq_false h, if_neg h]
        rfl
    · split <;> decide
    · split <;> decide
    · rw [signs_cut]
      split <;> decide
    · rw [hsg]
      by_cases h : o < 0
      · rw [if_pos h, if_pos h]
        decide +kernel
      · rw [if_neg h, if_neg h]
        decide +kernel
    have e1 : (⟨#[sg]⟩ : Str) = mk [sg] := rfl
    have c5 := cat_mk c4 e1
    refine ⟨_, _, rfl, rfl, (by rw [← len_append]; exact fitE c5 (by simp [dec4_len]; omega)), ?_⟩
    have ea : (if o < 0 then -o else o) = (o.natAbs : Int) := by split <;> omega
    refine ⟨_, rfl, _, rfl, _, rfl, ?_⟩
    rw [ea]
    refine ⟨_, _, rfl, rfl, ⟨by decide, by decide⟩, o.natAbs / 60, rfl, by omega, fun H3 s3 => ?_⟩
    have c6 := cat_mk c5 (rfl : mk (dec2 (o.natAbs / 60)) = _)
    refine ⟨_, _, rfl, rfl, (by rw [← len_append]; exact fitE c6 (by simp [dec4_len, dec2_len]; omega)), ?_⟩
    refine ⟨_, rfl, _, rfl, ?_⟩
    rw [ea]
    refine ⟨_, _, rfl, rfl, (by show (0 : Int) < 60; decide), o.natAbs % 60, rfl, by omega, fun H4 s4 => ?_⟩
    have c7 := cat_mk c6 (rfl : mk (dec2 (o.natAbs % 60)) = _)
    refine ⟨_, _, rfl, rfl, (by rw [← len_append]; exact fitE c7 (by simp [dec4_len, dec2_len]; omega)), ?_⟩
    have er : dec4 y ++ [32] ++ clockC sec ++ [32] ++ [sg] ++ dec2 (o.natAbs / 60) ++ dec2 (o.natAbs % 60) = restC y sec o := by
      unfold restC
      rw [hzz]
      simp only [List.append_assoc]
    rw [c7, er]
    have t4 : Same H1 H4 := (sm2.trans s3).trans s4
    refine ⟨(by show 0 ≤ sizeLine; decide), fun p0 n0 => ?_⟩
    refine ⟨_, rfl, pm, rfl, ⟨_, SqL.of (kn (t4 _ _ hpm) n0)⟩, ?_⟩
    refine for_it (walk_list (K := K) (a := pm) (xs := mons.map V.str)) (fun j σ H' => ∃ (p : Addr) (Us : List Addr) (y7 y8 : Option V), σ = [some (.int (y : Nat)), some (.ref ca), some (.int o), some (.ref sa), some (.ref pm), some (.str (mk (restC y sec o))), some (.ref p), y7, y8, none, none, none, none] ∧ Same H1 H' ∧ H' p = some (.lst (Us.map V.ref)) ∧ Us.length = cum y j ∧ YearAt H' y sec o Us)
      ⟨p0, [], none, none, rfl, t4.trans (same_new n0), upd_same, rfl, (fun k U h => by simp at h)⟩ (fun j σ H' _ hp => ?_) (fun j x σ H5 H6 hj hp hy => ?_) (fun σ H5 hp => ?_)
    · obtain ⟨p, Us, y7, y8, rfl, sm, _⟩ := hp
      exact SqL.of (sm _ _ hpm)
    · obtain ⟨p, Us, y7, y8, rfl, sm, hp5, hlen, hY⟩ := hp
      obtain ⟨rfl, hx⟩ := hy
      have hj : j < 12 := hj
      rw [List.getElem?_map, mon_at hj] at hx
      injection hx with hx
      subst hx
      refine ⟨_, rfl, _, rfl, _, rfl, _, rfl, y, j + 1, sec, o, sa, so, rfl, Y, by omega, by omega, sm _ _ (s1 _ _ hsa), fun H7 pf Ts s7 n7 h7 hl7 hT7 => ?_⟩
      refine ⟨_, rfl, rfl, _, rfl, ?_⟩
      rw [decide_eq_false (show ¬ V.ref pf = V.non from fun z => by cases z)]
      have hcm := cum_mono (y := y) (a := j) (b := 12) (by omega)
      have hc12 := cum12 y
      have hl366 : cum y 12 ≤ 366 := by
        rw [hc12]
        split <;> omega
      have hd31 := daysOf_le y (j + 1 - 1)
      refine iteF ⟨_, rfl, _, rfl, p, pf, _, _, rfl, rfl, s7 _ _ hp5, h7, ?_, fun pn nn => ?_⟩
      · rw [List.length_map, List.length_map, sizeLine_eq]
        omega
      · obtain ⟨a1, a2⟩ := year_more (m := j + 1) Y (by omega) (by omega) (s7.trans (same_new nn)) hY (by rw [Nat.add_sub_cancel]; exact hlen) (fun i T hT => same_new nn _ _ (hT7 i T hT)) hl7
        exact ⟨pn, Us ++ Ts, _, _, rfl, (sm.trans s7).trans (same_new nn), by rw [upd_same, List.map_append], a2, a1⟩
    obtain ⟨p, Us, y7, y8, rfl, sm, hp5, hlen, hY⟩ := hp
    have hlen : Us.length = cum y 12 := hlen
    have hl366 : cum y 12 ≤ 366 := by
      rw [cum12 y]
      split <;> omega
    have hc12 := cum12 y
    -- whether it is a leap year
    refine ⟨_, rfl, _, _, rfl, rfl, (by show (0 : Int) < 4; decide), rfl, _, rfl, ?_⟩
    rw [show decide (V.int ((y : Int) % 4) = V.int 0) = decide (y % 4 = 0) from mod_is y 4]
    unfold leap at hc12
    by_cases h4 : y % 4 = 0
    case' neg =>
      rw [decide_eq_false h4]
      refine iteF ?_
      rw [decide_eq_false fun e => h4 e.1] at hc12
    case' pos =>
      rw [decide_eq_true h4]
      refine iteT ⟨_, rfl, _, _, rfl, rfl, (by show (0 : Int) < 100; decide), rfl, _, rfl, ?_⟩
      rw [show decide (V.int ((y : Int) % 100) = V.int 0) = decide (y % 100 = 0) from mod_is y 100]
      by_cases h1 : y % 100 = 0
      case' pos =>
        rw [decide_eq_true h1]
        refine iteF ⟨_, rfl, _, _, rfl, rfl, (by show (0 : Int) < 400; decide), rfl, ?_⟩
        rw [show decide (y % 4 = 0 ∧ (y % 100 ≠ 0 ∨ y % 400 = 0)) = decide (V.int ((y : Int) % 400) = V.int 0) from (decide_eq_decide.mpr ⟨fun e => e.2.resolve_left fun z => z h1, fun e => ⟨h4, .inr e⟩⟩).trans (mod_is y 400).symm] at hc12
      case' neg =>
        rw [decide_eq_false h1]
        refine iteT ?_
        rw [decide_eq_true ⟨h4, .inl h1⟩] at hc12
    all_goals
      refine ⟨_, rfl, p, _, rfl, .inl (SqL.of hp5), _, rfl, .inr ⟨_, rfl, _, _, rfl, rfl, rfl, _, rfl, iteNS ?_ ?_⟩⟩
      · rw [List.length_map, hlen, hc12]
        first
          | rfl
          | (split <;> rfl)
      refine ⟨(by show 8 ≤ sizeLine; decide), fun pw nw => ?_⟩
      have hpw : (upd H5 pw (.lst [.str "Mon", .str "Tue", .str "Wed", .str "Thu", .str "Fri", .str "Sat", .str "Sun", .str "Mon"])) pw = some (.lst ((week ++ [("Mon" : Str)]).map V.str)) := upd_same
      have s8 : Same H5 (upd H5 pw (.lst [.str "Mon", .str "Tue", .str "Wed", .str "Thu", .str "Fri", .str "Sat", .str "Sun", .str "Mon"])) := same_new nw
      generalize upd H5 pw (.lst [.str "Mon", .str "Tue", .str "Wed", .str "Thu", .str "Fri", .str "Sat", .str "Sun", .str "Mon"]) = H8 at hpw s8 ⊢
      have hp8 := s8 _ _ hp5
      refine ⟨_, rfl, p, _, rfl, .inl (SqL.of hp8), 1, (((Us.map V.ref).length : Nat) : Int), rfl, ⟨by decide, by decide, by omega, by rw [List.length_map]; omega⟩, ?_⟩
      refine for_it walk_range (fun i σ H' => ∃ (y11 : Option V), σ = [some (.int (y : Nat)), some (.ref ca), some (.int o), some (.ref sa), some (.ref pm), some (.str (mk (restC y sec o))), some (.ref p), y7, y8, _, some (.ref pw), y11, none] ∧ H' = H8) ⟨none, rfl, rfl⟩ (fun _ _ _ _ _ => trivial) (fun i x σ H9 H10 hi hp hy => ?_) (fun σ H9 hp => q H9)
      obtain ⟨y11, rfl, rfl⟩ := hp
      obtain ⟨rfl, hxv⟩ := hy
      have hi : i < ((((Us.map V.ref).length : Nat) : Int) - 1).toNat := hi
      rw [List.length_map] at hi
      have hx' : x = .int ((i + 1 : Nat) : Int) := by
        rw [hxv]
        exact congrArg V.int (by omega)
      subst hx'
      have hi1 : i + 1 < Us.length := by omega
      have hU1 := List.getElem?_eq_getElem hi1
      have hU0 := List.getElem?_eq_getElem (show i < Us.length by omega)
      generalize Us[i + 1] = U1 at hU1
      generalize Us[i]'(by omega) = U0 at hU0
      have at1 : atI (Us.map V.ref) ((i + 1 : Nat) : Int) = some (.ref U1) := atI_nat (by rw [List.getElem?_map, hU1]; rfl)
      have at0 : atI (Us.map V.ref) (((i + 1 : Nat) : Int) - 1) = some (.ref U0) := by
        rw [show (((i + 1 : Nat) : Int) - 1) = ((i : Nat) : Int) by omega]
        exact atI_nat (by rw [List.getElem?_map, hU0]; rfl)
      have v1 := s8 _ _ (hY _ _ hU1)
      have v0 := s8 _ _ (hY _ _ hU0)
      obtain ⟨wk, hwk, hwk7⟩ : ∃ wk, wk = (dAhead y + i) % 7 ∧ wk < 7 := ⟨_, rfl, Nat.mod_lt _ (by decide)⟩
      have ew : (dAhead y + (i + 1)) % 7 = (wk + 1) % 7 := by omega
      unfold yearV at v1 v0
      rw [ew] at v1
      rw [← hwk] at v0
      refine ⟨_, rfl, _, rfl, p, _, _, .ref U1, rfl, rfl, SqL.of hp8, at1, U1, _, _, .int (mom0 y sec o + 86400 * ((i + 1 : Nat) : Int)), rfl, rfl, SqT.of v1, rfl, ?_⟩
      refine ⟨_, rfl, _, rfl, _, _, rfl, rfl, p, _, _, .ref U0, rfl, rfl, SqL.of hp8, at0, U0, _, _, .int (mom0 y sec o + 86400 * ((i : Nat) : Int)), rfl, rfl, SqT.of v0, rfl, _, _, rfl, rfl, rfl, _, rfl, iteNS ?_ ?_⟩
      · exact congrArg V.int (by omega)
      refine ⟨_, rfl, _, rfl, p, _, _, .ref U1, rfl, rfl, SqL.of hp8, at1, U1, _, _, .str (mk (weekC ((wk + 1) % 7))), rfl, rfl, SqT.of v1, rfl, ?_⟩
      refine ⟨_, rfl, _, rfl, .inl ⟨rfl, _, SqL.of hpw⟩, _, rfl, _, rfl, _, _, rfl, rfl, p, _, _, .ref U0, rfl, rfl, SqL.of hp8, at0, U0, _, _, .str (mk (weekC wk)), rfl, rfl, SqT.of v0, rfl, ?_⟩
      refine ⟨pw, _, _, wk, .str (mk (weekC wk)), rfl, rfl, SqL.of hpw, rfl, by decide +kernel, by rw [List.getElem?_map, week8_at wk hwk7]; rfl, ?_, fun b z hb hz => ?_, ?_⟩
      · show (mk (weekC wk) == mk (weekC wk)) = true
        exact beq_self_eq_true _
      · rw [List.getElem?_map] at hz
        cases hw : (week ++ [("Mon" : Str)])[b]? with
        | none =>
          rw [hw] at hz
          cases hz
        | some u =>
          rw [hw] at hz
          injection hz with hz
          subst hz
          show (u == mk (weekC wk)) = false
          exact beq_eq_false_iff_ne.mpr fun e => week8_no wk hwk7 b hb (by rw [hw, e])
      refine ⟨_, _, rfl, rfl, pw, _, _, .str (mk (weekC ((wk + 1) % 7))), rfl, rfl, SqL.of hpw, ?_, rfl, _, rfl, iteNS rfl ?_⟩
      · exact atI_nat (j := wk + 1) (by rw [List.getElem?_map, week8 wk hwk7]; rfl)
      exact ⟨_, rfl, rfl⟩
end
end FL

namespace FL
open PySem PySem.Spec PyProof PyProof.Rows L2
/-- two lists put together, however they are known -/
def rCatS (K : PySem.W.Frag) : R2 := fun x y H Q => ∃ l b xs zs, x = .ref l ∧ y = .ref b ∧ SqL K H l xs ∧ SqL K H b zs ∧ xs.length + zs.length ≤ sizeLine ∧ ∀ p, H p = none → Q (.ref p) (upd H p (.lst (xs ++ zs)))
theorem op_catS {X : Cx} : OpR X (binaryOp .Add) (rCatS X.K) := by
  intro pins s σ H x y v u Q I rx ry h
  obtain ⟨l, b, xs, zs, rfl, rfl, hH, hB, hz, q⟩ := h
  cases rx
  cases ry
  obtain ⟨its, r, pl, z⟩ := I.list hH
  obtain ⟨its2, r2, pl2, z2⟩ := I.list hB
  obtain ⟨⟨cls, dd, data, sl⟩, n, ho, hc, hd0, hd⟩ := pl
  obtain ⟨⟨cls2, dd2, data2, sl2⟩, n2, ho2, hc2, hd02, hd2⟩ := pl2
  simp only at hc hd0 hd hc2 hd02 hd2
  subst hc hd0 hd hc2 hd02 hd2
  have l1 := r.length
  have l2 := r2.length
  have e : its.toArray ++ its2.toArray = (its ++ its2).toArray := by simp
  refine concat_meets ⟨_, ho, rfl⟩ ⟨_, ho2, rfl⟩ noFill_list_add seq_list_add PySem.F.slot_list_add PySem.F.entry_list_add (PySem.F.args_list_add_2 _ _) (list_addW l b its.toArray its2.toArray n n2 none none sl sl2 (by simp; omega)) ⟨ho, ho2, ?_⟩
  rw [e]
  exact ⟨.ref _, _, I.lnew (t' := s.toks) (r.append r2) (by rw [List.length_append]; omega), rfl, q _ I.fresh⟩
def IsYear (v : V) : Prop := ∃ y : Nat, v = .int (y : Nat) ∧ 1 ≤ y ∧ y ≤ 9999
def IsOfs (v : V) : Prop := ∃ o : Int, v = .int o ∧ -1439 ≤ o ∧ o ≤ 1439
section
variable {P : Program} {w : World} {K : PySem.W.Frag} {mg : Str → Option Value} {base : Heap}
def spLaw (K : PySem.W.Frag) : Sp := fun vs H Q _ => ∃ (a : Addr) (ns : List Int), vs = [.ref a] ∧ SqL K H a (ns.map V.int) ∧ ns.length ≤ 63 ∧ ∀ H', Q (.bl true) H'
theorem scLaw : FnScope ["_law_script", "_law_cell", "_law_source_here", "_law_some", "_law_year", "_law_clock", "_law_offset"] ["_law_script"] (defScope sLaw) := ⟨rfl, rfl, rfl, by decide +kernel, rfl, by decide +kernel, by decide +kernel⟩
theorem ok_law {f : Addr} {fd : FuncData} (F : Fun K "law" "law" sLaw f fd) (R1 : Ready P w K mg base 2 "_law_next" ["_law_source_here", "_law_many"] spNext) (R2 : Ready P w K mg base 9 "_law_year_right" ["_law_year", "_law_clock", "_law_offset", "_law_some"] spYear) :
    FnOk P w K mg base CX0 10 f fd ["_law_script"] (spLaw K) := by
  obtain ⟨f1, fd1, g1, k1, b1, G1⟩ := next_m R1
  obtain ⟨f2, fd2, g2, k2, b2, G2⟩ := R2
  refine F.ok scLaw (fun vs H Q E h => ?_) (fun cdv A outer s H vs Q E hr h => ?_)
  · obtain ⟨a, ns, rfl, _⟩ := h
    rfl
  · obtain ⟨a, ns, rfl, hS, hns, q⟩ := h
    have sc := scLaw
    refine ⟨_, pss_cons (ps_set (i := 1) sc.nd rfl (.inl rfl) (pe_ix ix_list (pe_op op_catS (pv 0) (pe_lst (pa_cons pe_int pa_nil))) pe_int (fun _ _ => rfl)))
      (pss_cons (ps_set (i := 2) sc.nd rfl (.inl rfl) (pe_lst (pa_cons (pv 1) (pa_cons (pv 1) (pa_cons pe_int pa_nil)))))
      (pss_cons (ps_set (i := 3) sc.nd rfl (.inl rfl) (pe_lst (pa_cons (pe_op op_add pe_int (pe_call G1 (hr.mono (by decide)) (by rfl) g1 k1 b1 .nil pass0 (pa_cons (pv 2) (pa_cons pe_int pa_nil)))) (pa_cons pe_int (pa_cons pe_int (pa_cons (pe_op op_mul pe_int (pe_op op_add pe_int (pe_call G1 (hr.mono (by decide)) (by rfl) g1 k1 b1 .nil pass0 (pa_cons (pv 2) (pa_cons pe_int pa_nil))))) pa_nil))))))
      (pss_cons (ps_expr (pe_bm PySem.F.plainAttrs_list PySem.F.slot_list_append PySem.F.type_list_append mt_append (pv 3) (pa_cons (pe_op op_mul pe_int (pe_op op_add pe_int (pe_call G1 (hr.mono (by decide)) (by rfl) g1 k1 b1 .nil pass0 (pa_cons (pv 2) (pa_cons pe_int pa_nil))))) pa_nil)))
      (pss_cons (ps_set (i := 4) sc.nd rfl (.inl rfl) (pe_ix ix_list (pe_op op_cat (pv 3) (pe_lst (pa_cons (pe_op op_add pe_int (pe_call G1 (hr.mono (by decide)) (by rfl) g1 k1 b1 .nil pass0 (pa_cons (pv 2) (pa_cons pe_int pa_nil)))) pa_nil))) (pe_call G1 (hr.mono (by decide)) (by rfl) g1 k1 b1 .nil pass0 (pa_cons (pv 2) (pa_cons pe_int pa_nil))) (fun _ _ => rfl)))
      (pss_cons (ps_set (i := 5) sc.nd rfl (.inl rfl) (pe_lst (pa_cons (pe_call G1 (hr.mono (by decide)) (by rfl) g1 k1 b1 .nil pass0 (pa_cons (pv 2) (pa_cons pe_int pa_nil))) (pa_cons (pe_call G1 (hr.mono (by decide)) (by rfl) g1 k1 b1 .nil pass0 (pa_cons (pv 2) (pa_cons pe_int pa_nil))) (pa_cons (pe_call G1 (hr.mono (by decide)) (by rfl) g1 k1 b1 .nil pass0 (pa_cons (pv 2) (pa_cons pe_int pa_nil))) pa_nil)))))
      (pss_cons (ps_set (i := 6) sc.nd rfl (.inl rfl) (pe_ix ix_list (pe_lst (pa_cons pe_int (pa_cons (pe_op op_sub pe_int pe_int) (pa_cons (pe_op op_sub (pe_call G1 (hr.mono (by decide)) (by rfl) g1 k1 b1 .nil pass0 (pa_cons (pv 2) (pa_cons pe_int pa_nil))) pe_int) pa_nil)))) (pe_call G1 (hr.mono (by decide)) (by rfl) g1 k1 b1 .nil pass0 (pa_cons (pv 2) (pa_cons pe_int pa_nil))) (fun _ _ => rfl)))
      (pss_one (ps_ret (pe_call G2 (hr.mono (by decide)) (by rfl) g2 k2 b2 .nil pass0 (pa_cons (pv 4) (pa_cons (pv 5) (pa_cons (pv 6) (pa_cons (pe_lst (pa_cons pe_int (pa_cons (pe_op op_add pe_int (pe_call G1 (hr.mono (by decide)) (by rfl) g1 k1 b1 .nil pass0 (pa_cons (pv 2) (pa_cons pe_int pa_nil)))) (pa_cons (pe_op op_add pe_int (pe_call G1 (hr.mono (by decide)) (by rfl) g1 k1 b1 .nil pass0 (pa_cons (pv 2) (pa_cons pe_int pa_nil)))) pa_nil)))) pa_nil))))))))))))), ?_⟩
    refine ⟨_, rfl, (by show 1 ≤ sizeLine; decide), fun p0 n0 => ?_⟩
    refine ⟨a, p0, _, _, rfl, rfl, (same_new n0).seq hS, SqL.of upd_same, by rw [List.length_map, sizeLine_eq]; show ns.length + 1 ≤ _; omega, fun p1 n1 => ?_⟩
    obtain ⟨c, hc⟩ : ∃ c : Int, atI (ns.map V.int ++ [V.int 0]) 0 = some (.int c) := by
      cases ns with
      | nil => exact ⟨0, rfl⟩
      | cons x r => exact ⟨x, atI_nat (j := 0) rfl⟩
    refine ⟨p1, _, _, .int c, rfl, rfl, SqL.of upd_same, hc, ?_⟩
    refine ⟨_, rfl, _, rfl, (by show 3 ≤ sizeLine; decide), fun sr nsr => ?_⟩
    obtain ⟨H0, hH0⟩ : ∃ H0, H0 = upd (upd (upd H p0 (.lst [.int 0])) p1 (.lst (ns.map V.int ++ [.int 0]))) sr (.lst [.int c, .int c, .int 0]) := ⟨_, rfl⟩
    have hsr : Src H0 sr := ⟨c, c, 0, by rw [hH0]; exact upd_same⟩
    rw [← hH0]
    clear n0 n1 nsr hH0
    have d0 := Drawn.refl hsr
    refine ⟨_, rfl, sr, 9999, rfl, by decide, by decide, d0.src, fun r1 H1 hr1 d1 => ⟨_, _, rfl, rfl, ?_⟩⟩
    refine ⟨_, rfl, sr, 99, rfl, by decide, by decide, d1.src, fun r2 H2 hr2 d2 => ⟨_, _, rfl, rfl, _, _, rfl, rfl, .inl ⟨by decide, by decide⟩, ?_⟩⟩
    have t2 := d1.trans d2
    refine ⟨(by show 4 ≤ sizeLine; decide), fun ps nps => ?_⟩
    have t3 := drawn_newM (o := .lst [.int (1 + (r1 : Nat)), .int 1, .int 9999, .int (100 * (1 + (r2 : Nat)))]) t2 nps
    have nps0 := free_drawn t2 nps
    have hps : (upd H2 ps (.lst [.int (1 + (r1 : Nat)), .int 1, .int 9999, .int (100 * (1 + (r2 : Nat)))])) ps = some (.lst [.int (1 + (r1 : Nat)), .int 1, .int 9999, .int (100 * (1 + (r2 : Nat)))]) := upd_same
    generalize upd H2 ps (.lst [.int (1 + (r1 : Nat)), .int 1, .int 9999, .int (100 * (1 + (r2 : Nat)))]) = H3 at t3 hps ⊢
    have pssr : ps ≠ sr := hsr.neM nps0
    refine ⟨_, rfl, .inl ⟨rfl, _, SqL.of hps⟩, _, rfl, sr, 24, rfl, by decide, by decide, t3.src, fun r4 H4 hr4 d4 => ⟨_, _, rfl, rfl, _, _, rfl, rfl, .inl ⟨by decide, by decide⟩, ?_⟩⟩
    have hps4 := d4.old ps _ pssr hps
    refine ⟨ps, _, _, rfl, rfl, hps4, szl (show 4 ≤ 10000 by decide), ?_⟩
    have t4 := drawn_set (o := .lst ([.int (1 + (r1 : Nat)), .int 1, .int 9999, .int (100 * (1 + (r2 : Nat)))] ++ [V.int (400 * (1 + (r4 : Nat)))])) (t3.trans d4) nps0 (Ne.symm pssr)
    have hps5 : (upd H4 ps (.lst ([.int (1 + (r1 : Nat)), .int 1, .int 9999, .int (100 * (1 + (r2 : Nat)))] ++ [V.int (400 * (1 + (r4 : Nat)))]))) ps = some (.lst ([.int (1 + (r1 : Nat)), .int 1, .int 9999, .int (100 * (1 + (r2 : Nat)))] ++ [V.int (400 * (1 + (r4 : Nat)))])) := upd_same
    generalize upd H4 ps (.lst ([.int (1 + (r1 : Nat)), .int 1, .int 9999, .int (100 * (1 + (r2 : Nat)))] ++ [V.int (400 * (1 + (r4 : Nat)))])) = H5 at t4 hps5 ⊢
    refine ⟨_, rfl, _, rfl, sr, 70, rfl, by decide, by decide, t4.src, fun r6 H6 hr6 d6 => ⟨_, _, rfl, rfl, ?_⟩⟩
    have t6 := t4.trans d6
    refine ⟨(by show 1 ≤ sizeLine; decide), fun q1 m1 => ?_⟩
    have t7 := drawn_newM (o := .lst [.int (1970 + (r6 : Nat))]) t6 m1
    refine ⟨ps, q1, _, _, rfl, rfl, kn (d6.old ps _ pssr hps5) m1, upd_same, (by show 5 + 1 ≤ sizeLine; decide), fun q2 m2 => ?_⟩
    have t8 := drawn_newM (o := .lst ([.int (1 + (r1 : Nat)), .int 1, .int 9999, .int (100 * (1 + (r2 : Nat)))] ++ [V.int (400 * (1 + (r4 : Nat)))] ++ [.int (1970 + (r6 : Nat))])) t7 m2
    refine ⟨_, rfl, sr, 6, rfl, by decide, by decide, t8.src, fun r9 H9 hr9 d9 => ?_⟩
    obtain ⟨v1, hv1, y, rfl, hy1, hy2⟩ := pickM (p := IsYear) (xs := [V.int (1 + (r1 : Nat)), V.int 1, V.int 9999, V.int (100 * (1 + (r2 : Nat)))] ++ [V.int (400 * (1 + (r4 : Nat)))] ++ [V.int (1970 + (r6 : Nat))]) (r := r9) hr9 (fun v hv => by
      have hv : v ∈ [V.int (1 + (r1 : Nat)), .int 1, .int 9999, .int (100 * (1 + (r2 : Nat))), .int (400 * (1 + (r4 : Nat))), .int (1970 + (r6 : Nat))] := hv
      simp only [List.mem_cons, List.not_mem_nil, or_false] at hv
      rcases hv with rfl | rfl | rfl | rfl | rfl | rfl
      · exact ⟨1 + r1, rfl, by omega, by omega⟩
      · exact ⟨1, rfl, by omega, by omega⟩
      · exact ⟨9999, rfl, by omega, by omega⟩
      · exact ⟨100 * (1 + r2), rfl, by omega, by omega⟩
      · exact ⟨400 * (1 + r4), rfl, by omega, by omega⟩
      · exact ⟨1970 + r6, rfl, by omega, by omega⟩)
    have t9 := t8.trans d9
    refine ⟨q2, _, _, .int (y : Nat), rfl, rfl, SqL.of (d9.old q2 _ (t7.src.neM m2) upd_same), hv1, ?_⟩
    -- the clock
    refine ⟨_, rfl, sr, 24, rfl, by decide, by decide, t9.src, fun c1 H10 hc1 d10 => ?_⟩
    have t10 := t9.trans d10
    refine ⟨_, rfl, sr, 60, rfl, by decide, by decide, t10.src, fun c2 H11 hc2 d11 => ?_⟩
    have t11 := t10.trans d11
    refine ⟨_, rfl, sr, 60, rfl, by decide, by decide, t11.src, fun c3 H12 hc3 d12 => ?_⟩
    have t12 := t11.trans d12
    refine ⟨(by show 3 ≤ sizeLine; decide), fun ca nca => ?_⟩
    have hca : (upd H12 ca (.lst [.int (c1 : Nat), .int (c2 : Nat), .int (c3 : Nat)])) ca = some (.lst [.int (c1 : Nat), .int (c2 : Nat), .int (c3 : Nat)]) := upd_same
    have t13 := drawn_newM (o := .lst [.int (c1 : Nat), .int (c2 : Nat), .int (c3 : Nat)]) t12 nca
    have casr : ca ≠ sr := t12.src.neM nca
    generalize upd H12 ca (.lst [.int (c1 : Nat), .int (c2 : Nat), .int (c3 : Nat)]) = H13 at hca t13 ⊢
    -- the offset
    refine ⟨_, _, rfl, rfl, _, rfl, sr, 2879, rfl, by decide, by decide, t13.src, fun r14 H14 hr14 d14 => ⟨_, _, rfl, rfl, ?_⟩⟩
    have t14 := t13.trans d14
    have hca14 := d14.old ca _ casr hca
    refine ⟨(by show 3 ≤ sizeLine; decide), fun qe ne => ?_⟩
    have t15 := drawn_newM (o := .lst [.int 0, .int (0 - 480), .int ((r14 : Nat) - 1439)]) t14 ne
    refine ⟨_, rfl, sr, 3, rfl, by decide, by decide, t15.src, fun r16 H16 hr16 d16 => ?_⟩
    obtain ⟨v4, hv4, off, rfl, ho1, ho2⟩ := pickM (p := IsOfs) (xs := [V.int 0, V.int (0 - 480), V.int ((r14 : Nat) - 1439)]) (r := r16) hr16 (fun v hv => by
      simp only [List.mem_cons, List.not_mem_nil, or_false] at hv
      rcases hv with rfl | rfl | rfl <;> exact ⟨_, rfl, by omega, by omega⟩)
    have t16 := t15.trans d16
    refine ⟨qe, _, _, .int off, rfl, rfl, SqL.of (d16.old qe _ (t14.src.neM ne) upd_same), hv4, ?_⟩
    have hca16 := d16.old ca _ casr (kn hca14 ne)
    refine ⟨_, rfl, _, rfl, _, rfl, ?_⟩
    refine ⟨_, rfl, sr, 4, rfl, by decide, by decide, t16.src, fun r17 H17 hr17 d17 => ⟨_, _, rfl, rfl, ?_⟩⟩
    have t17 := t16.trans d17
    refine ⟨_, rfl, sr, 26, rfl, by decide, by decide, t17.src, fun r18 H18 hr18 d18 => ⟨_, _, rfl, rfl, ?_⟩⟩
    refine ⟨(by show 3 ≤ sizeLine; decide), fun pz nz => ?_⟩
    have hca18 := kn (x := .lst [.int 1, .int (28 + (r17 : Nat)), .int (2 + (r18 : Nat))]) (d18.old ca _ casr (d17.old ca _ casr hca16)) nz
    exact ⟨y, c1, c2, c3, off, ca, pz, [1, 28 + (r17 : Nat), 2 + (r18 : Nat)], rfl, hy1, hy2, hc1, hc2, hc3, ho1, ho2, hca18, upd_same, q⟩
end
end FL

namespace FL
open PySem PySem.Spec PyProof.Rows L2
theorem all_mk {l : PySem.W.OpenLaw} {w : World} {K : PySem.W.Frag} {h : Heap} {mg : Str → Option Value} {fa f1 f2 f3 f4 f5 f6 f7 f8 f9 f10 f11 f12 f13 f14 f15 f16 f17 f18 f19 f20 f21 f22 f23 f24 f25 : Addr} (X : K.In h) (G : h.Ns mainGlobals mg) (hfa : mg "law" = some (.ref fa))
    {od1 an1 od2 an2 od3 an3 od4 an4 od5 an5 od6 an6 od7 an7 od8 an8 od9 an9 od10 an10 od11 an11 od12 an12 od13 an13 od14 an14 od15 an15 od16 an16 od17 an17 od18 an18 od19 an19 od20 an20 od21 an21 od22 an22 od23 an23 od24 an24 od25 an25 : Option Addr} {sl1 sl2 sl3 sl4 sl5 sl6 sl7 sl8 sl9 sl10 sl11 sl12 sl13 sl14 sl15 sl16 sl17 sl18 sl19 sl20 sl21 sl22 sl23 sl24 sl25 : Array (Option Value)} {oc1 kV1 dc1 pm1 cd1 ct1 oc2 kV2 dc2 pm2 cd2 ct2 oc3 kV3 dc3 pm3 cd3 ct3 oc4 kV4 dc4 pm4 cd4 ct4 oc5 kV5 dc5 pm5 cd5 ct5 oc6 kV6 dc6 pm6 cd6 ct6 oc7 kV7 dc7 pm7 cd7 ct7 oc8 kV8 dc8 pm8 cd8 ct8 oc9 kV9 dc9 pm9 cd9 ct9 oc10 kV10 dc10 pm10 cd10 ct10 oc11 kV11 dc11 pm11 cd11 ct11 oc12 kV12 dc12 pm12 cd12 ct12 oc13 kV13 dc13 pm13 cd13 ct13 oc14 kV14 dc14 pm14 cd14 ct14 oc15 kV15 dc15 pm15 cd15 ct15 oc16 kV16 dc16 pm16 cd16 ct16 oc17 kV17 dc17 pm17 cd17 ct17 oc18 kV18 dc18 pm18 cd18 ct18 oc19 kV19 dc19 pm19 cd19 ct19 oc20 kV20 dc20 pm20 cd20 ct20 oc21 kV21 dc21 pm21 cd21 ct21 oc22 kV22 dc22 pm22 cd22 ct22 oc23 kV23 dc23 pm23 cd23 ct23 oc24 kV24 dc24 pm24 cd24 ct24 oc25 kV25 dc25 pm25 cd25 ct25 : Value} {tk1 tk2 tk3 tk4 tk5 tk6 tk7 : Tok}
    {CL fL TL : Addr} {odL anL odTL : Option Addr} {slL slTL : Array (Option Value)} {ocL kVL dcL pmL cdL ctL ocTL : Value} {tkL : Tok} {nTL : Nat}
    {CN NCN : Addr} {nmCN qCN : Str} {bsCN bmCN : List Value} {snCN : List Str} {subCN : List Value} {abCN : Bool} {colCN : Option Bool} {ddCN : Option Addr} {m0CN m1CN m2CN m3CN m5CN : Option Value}
    {a_WEEK : Addr} {n_WEEK : Nat} {sl_WEEK : Array (Option Value)} {kWEEK0 kWEEK1 kWEEK2 kWEEK3 kWEEK4 kWEEK5 kWEEK6 : Tok}
    {a_MONTHS : Addr} {n_MONTHS : Nat} {sl_MONTHS : Array (Option Value)} {kMONTHS0 kMONTHS1 kMONTHS2 kMONTHS3 kMONTHS4 kMONTHS5 kMONTHS6 kMONTHS7 kMONTHS8 kMONTHS9 kMONTHS10 kMONTHS11 : Tok}
    {a_MONTH_DAYS : Addr} {n_MONTH_DAYS : Nat} {sl_MONTH_DAYS : Array (Option Value)} {kMONTH_DAYS0 kMONTH_DAYS1 kMONTH_DAYS2 kMONTH_DAYS3 kMONTH_DAYS4 kMONTH_DAYS5 kMONTH_DAYS6 kMONTH_DAYS7 kMONTH_DAYS8 kMONTH_DAYS9 kMONTH_DAYS10 kMONTH_DAYS11 : Tok}
    (gL : PySem.W.nsIn K mainGlobals "LetterError" = some (some (.ref CL)))
    (iL : PySem.W.findIn K (.ref CL) "__init__" = some (some (.ref fL)))
    (lL : K.lookup fL = some ⟨ocL, odL, .func (PySem.W.fnOf "__init__" "LetterError.__init__" (defArgs sLE) (defBody sLE) (defScope sLE) (.ref TL) kVL dcL pmL anL cdL ctL), slL⟩)
    (cL : PySem.W.codeIn K cdL "LetterError.__init__" = true)
    (kL : PySem.W.keepIn K (.ref fL) = true)
    (dL : K.lookup TL = some ⟨ocTL, odTL, .seq #[.str ("" : Str) tkL] nTL, slTL⟩)
    (gaL : PySem.W.specialIn K (.ref CL) "__getattribute__" = some (some (.builtin "type.__getattribute__")))
    (rdL : PySem.W.readsIn K CL (.type "type") = true)
    (atL : PySem.W.findCls K (.ref CL) (.type "type") "__init__" = some (.val (.ref fL)))
    (vV : PySem.W.findCls K (.type "ValueError") (.type "type") "__init__" = some (.val (.builtin "ValueError.__init__")))
    (zVE : PySem.W.nsIn K mainGlobals "ValueError" = some none)
    (exL : PySem.W.subIn K (.ref CL) (.type "BaseException") = some true)
    (hdL : PySem.W.hasDictIn K CL = true)
    (tyL : PySem.W.typeIn K (.ref CL) = some (.type "type"))
    (tifL : PySem.W.typeIn K (.ref fL) = some (.type "function"))
    (gCN : PySem.W.nsIn K mainGlobals "NoDate" = some (some (.ref CN)))
    (xCN : K.lookup CN = some (excClassObj nmCN qCN CN NCN bsCN bmCN true snCN subCN abCN colCN ddCN m0CN m1CN m2CN m3CN m5CN "ValueError.__new__"))
    (rvCN : PySem.HandSPX.refsVE bmCN = true)
    (saCN : PySem.W.findIn K (.ref CN) "__setattr__" = some (some (.builtin "object.__setattr__")))
    (exCN : PySem.W.subIn K (.ref CN) (.type "BaseException") = some true)
    (tyCN : PySem.W.typeIn K (.ref CN) = some (.type "type"))
    (kcCN : PySem.W.keepIn K (.ref CN) = true)
    (iCN : PySem.W.findIn K (.ref CN) "__init__" = some (some (.ref fL)))
    (hgCN : PySem.W.findIn K (.ref CN) "__getattribute__" = some (some (.builtin "BaseException.__getattribute__")))
    (hkCN : PySem.W.findIn K (.ref CN) "__getattr__" = some none)
    (hdCN : PySem.W.hasDictIn K CN = true)
    (haCN : PySem.W.findIn K (.ref CN) "__class__" = some (some (.builtin "object.__class__")))
    (hmCN : PySem.W.mroIn K CN (.type "object") = some true)
    (suCN : PySem.W.subIn K (.ref CN) (.ref CL) = some true)
    (hn0 : PySem.W.specialIn K (.builtin "object.__class__") "__get__" = some (some (.builtin "getset_descriptor.__get__")))
    (ht0 : PySem.W.takesIn K (.builtin "object.__class__") = some true)
    (g_WEEK : PySem.W.nsIn K mainGlobals "WEEK" = some (some (.ref a_WEEK)))
    (l_WEEK : K.lookup a_WEEK = some ⟨.type "tuple", none, .seq #[.str "Mon" kWEEK0, .str "Tue" kWEEK1, .str "Wed" kWEEK2, .str "Thu" kWEEK3, .str "Fri" kWEEK4, .str "Sat" kWEEK5, .str "Sun" kWEEK6] n_WEEK, sl_WEEK⟩)
    (g_MONTHS : PySem.W.nsIn K mainGlobals "MONTHS" = some (some (.ref a_MONTHS)))
    (l_MONTHS : K.lookup a_MONTHS = some ⟨.type "tuple", none, .seq #[.str "Jan" kMONTHS0, .str "Feb" kMONTHS1, .str "Mar" kMONTHS2, .str "Apr" kMONTHS3, .str "May" kMONTHS4, .str "Jun" kMONTHS5, .str "Jul" kMONTHS6, .str "Aug" kMONTHS7, .str "Sep" kMONTHS8, .str "Oct" kMONTHS9, .str "Nov" kMONTHS10, .str "Dec" kMONTHS11] n_MONTHS, sl_MONTHS⟩)
    (g_MONTH_DAYS : PySem.W.nsIn K mainGlobals "MONTH_DAYS" = some (some (.ref a_MONTH_DAYS)))
    (l_MONTH_DAYS : K.lookup a_MONTH_DAYS = some ⟨.type "tuple", none, .seq #[.int 31 kMONTH_DAYS0, .int 28 kMONTH_DAYS1, .int 31 kMONTH_DAYS2, .int 30 kMONTH_DAYS3, .int 31 kMONTH_DAYS4, .int 30 kMONTH_DAYS5, .int 31 kMONTH_DAYS6, .int 31 kMONTH_DAYS7, .int 30 kMONTH_DAYS8, .int 31 kMONTH_DAYS9, .int 30 kMONTH_DAYS10, .int 31 kMONTH_DAYS11] n_MONTH_DAYS, sl_MONTH_DAYS⟩)
    (suSelf : PySem.W.subIn K (.ref CN) (.ref CN) = some true)
    (a1 : PySem.W.nsIn K mainGlobals "is_text" = some (some (.ref f1))) (l1 : K.lookup f1 = some ⟨oc1, od1, .func (PySem.W.fnOf "is_text" "is_text" (defArgs sIsText) (defBody sIsText) (defScope sIsText) .none kV1 dc1 pm1 an1 cd1 ct1), sl1⟩) (c1 : PySem.W.codeIn K cd1 "is_text" = true) (k1 : PySem.W.keepIn K (.ref f1) = true)
    (a2 : PySem.W.nsIn K mainGlobals "is_line" = some (some (.ref f2))) (l2 : K.lookup f2 = some ⟨oc2, od2, .func (PySem.W.fnOf "is_line" "is_line" (defArgs sIsLine) (defBody sIsLine) (defScope sIsLine) .none kV2 dc2 pm2 an2 cd2 ct2), sl2⟩) (c2 : PySem.W.codeIn K cd2 "is_line" = true) (k2 : PySem.W.keepIn K (.ref f2) = true)
    (a3 : PySem.W.nsIn K mainGlobals "is_figure" = some (some (.ref f3))) (l3 : K.lookup f3 = some ⟨oc3, od3, .func (PySem.W.fnOf "is_figure" "is_figure" (defArgs sIsFigure) (defBody sIsFigure) (defScope sIsFigure) .none kV3 dc3 pm3 an3 cd3 ct3), sl3⟩) (c3 : PySem.W.codeIn K cd3 "is_figure" = true) (k3 : PySem.W.keepIn K (.ref f3) = true)
    (a4 : PySem.W.nsIn K mainGlobals "is_whole" = some (some (.ref f4))) (l4 : K.lookup f4 = some ⟨oc4, od4, .func (PySem.W.fnOf "is_whole" "is_whole" (defArgs sIsWhole) (defBody sIsWhole) (defScope sIsWhole) .none kV4 dc4 pm4 an4 cd4 ct4), sl4⟩) (c4 : PySem.W.codeIn K cd4 "is_whole" = true) (k4 : PySem.W.keepIn K (.ref f4) = true)
    (a5 : PySem.W.nsIn K mainGlobals "_is_sign" = some (some (.ref f5))) (l5 : K.lookup f5 = some ⟨oc5, od5, .func (PySem.W.fnOf "_is_sign" "_is_sign" (defArgs sIsSign) (defBody sIsSign) (defScope sIsSign) .none kV5 dc5 pm5 an5 cd5 ct5), sl5⟩) (c5 : PySem.W.codeIn K cd5 "_is_sign" = true) (k5 : PySem.W.keepIn K (.ref f5) = true)
    (a6 : PySem.W.nsIn K mainGlobals "show_date" = some (some (.ref f6))) (l6 : K.lookup f6 = some ⟨oc6, od6, .func (PySem.W.fnOf "show_date" "show_date" (defArgs sShowDate) (defBody sShowDate) (defScope sShowDate) .none kV6 dc6 pm6 an6 cd6 ct6), sl6⟩) (c6 : PySem.W.codeIn K cd6 "show_date" = true) (k6 : PySem.W.keepIn K (.ref f6) = true)
    (a7 : PySem.W.nsIn K mainGlobals "read_date" = some (some (.ref f7))) (l7 : K.lookup f7 = some ⟨oc7, od7, .func (PySem.W.fnOf "read_date" "read_date" (defArgs sReadDate) (defBody sReadDate) (defScope sReadDate) .none kV7 dc7 pm7 an7 cd7 ct7), sl7⟩) (c7 : PySem.W.codeIn K cd7 "read_date" = true) (k7 : PySem.W.keepIn K (.ref f7) = true)
    (a8 : PySem.W.nsIn K mainGlobals "_days_ahead" = some (some (.ref f8))) (l8 : K.lookup f8 = some ⟨oc8, od8, .func (PySem.W.fnOf "_days_ahead" "_days_ahead" (defArgs sDaysAhead) (defBody sDaysAhead) (defScope sDaysAhead) .none kV8 dc8 pm8 an8 cd8 ct8), sl8⟩) (c8 : PySem.W.codeIn K cd8 "_days_ahead" = true) (k8 : PySem.W.keepIn K (.ref f8) = true)
    (a9 : PySem.W.nsIn K mainGlobals "_days_of" = some (some (.ref f9))) (l9 : K.lookup f9 = some ⟨oc9, od9, .func (PySem.W.fnOf "_days_of" "_days_of" (defArgs sDaysOf) (defBody sDaysOf) (defScope sDaysOf) .none kV9 dc9 pm9 an9 cd9 ct9), sl9⟩) (c9 : PySem.W.codeIn K cd9 "_days_of" = true) (k9 : PySem.W.keepIn K (.ref f9) = true)
    (a10 : PySem.W.nsIn K mainGlobals "_year_of" = some (some (.ref f10))) (l10 : K.lookup f10 = some ⟨oc10, od10, .func (PySem.W.fnOf "_year_of" "_year_of" (defArgs sYearOf) (defBody sYearOf) (defScope sYearOf) .none kV10 dc10 pm10 an10 cd10 ct10), sl10⟩) (c10 : PySem.W.codeIn K cd10 "_year_of" = true) (k10 : PySem.W.keepIn K (.ref f10) = true)
    (a11 : PySem.W.nsIn K mainGlobals "_show_day" = some (some (.ref f11))) (l11 : K.lookup f11 = some ⟨oc11, od11, .func (PySem.W.fnOf "_show_day" "_show_day" (defArgs sShowDay) (defBody sShowDay) (defScope sShowDay) .none kV11 dc11 pm11 an11 cd11 ct11), sl11⟩) (c11 : PySem.W.codeIn K cd11 "_show_day" = true) (k11 : PySem.W.keepIn K (.ref f11) = true)
    (a12 : PySem.W.nsIn K mainGlobals "_show_clock" = some (some (.ref f12))) (l12 : K.lookup f12 = some ⟨oc12, od12, .func (PySem.W.fnOf "_show_clock" "_show_clock" (defArgs sShowClock) (defBody sShowClock) (defScope sShowClock) .none kV12 dc12 pm12 an12 cd12 ct12), sl12⟩) (c12 : PySem.W.codeIn K cd12 "_show_clock" = true) (k12 : PySem.W.keepIn K (.ref f12) = true)
    (a13 : PySem.W.nsIn K mainGlobals "_show_offset" = some (some (.ref f13))) (l13 : K.lookup f13 = some ⟨oc13, od13, .func (PySem.W.fnOf "_show_offset" "_show_offset" (defArgs sShowOffset) (defBody sShowOffset) (defScope sShowOffset) .none kV13 dc13 pm13 an13 cd13 ct13), sl13⟩) (c13 : PySem.W.codeIn K cd13 "_show_offset" = true) (k13 : PySem.W.keepIn K (.ref f13) = true)
    (a14 : PySem.W.nsIn K mainGlobals "_read_day" = some (some (.ref f14))) (l14 : K.lookup f14 = some ⟨oc14, od14, .func (PySem.W.fnOf "_read_day" "_read_day" (defArgs sReadDay) (defBody sReadDay) (defScope sReadDay) .none kV14 dc14 pm14 an14 cd14 ct14), sl14⟩) (c14 : PySem.W.codeIn K cd14 "_read_day" = true) (k14 : PySem.W.keepIn K (.ref f14) = true)
    (a15 : PySem.W.nsIn K mainGlobals "_read_clock" = some (some (.ref f15))) (l15 : K.lookup f15 = some ⟨oc15, od15, .func (PySem.W.fnOf "_read_clock" "_read_clock" (defArgs sReadClock) (defBody sReadClock) (defScope sReadClock) .none kV15 dc15 pm15 an15 cd15 ct15), sl15⟩) (c15 : PySem.W.codeIn K cd15 "_read_clock" = true) (k15 : PySem.W.keepIn K (.ref f15) = true)
    (a16 : PySem.W.nsIn K mainGlobals "_read_offset" = some (some (.ref f16))) (l16 : K.lookup f16 = some ⟨oc16, od16, .func (PySem.W.fnOf "_read_offset" "_read_offset" (defArgs sReadOffset) (defBody sReadOffset) (defScope sReadOffset) .none kV16 dc16 pm16 an16 cd16 ct16), sl16⟩) (c16 : PySem.W.codeIn K cd16 "_read_offset" = true) (k16 : PySem.W.keepIn K (.ref f16) = true)
    (a17 : PySem.W.nsIn K mainGlobals "_read_figures" = some (some (.ref f17))) (l17 : K.lookup f17 = some ⟨oc17, od17, .func (PySem.W.fnOf "_read_figures" "_read_figures" (defArgs sReadFigures) (defBody sReadFigures) (defScope sReadFigures) .none kV17 dc17 pm17 an17 cd17 ct17), sl17⟩) (c17 : PySem.W.codeIn K cd17 "_read_figures" = true) (k17 : PySem.W.keepIn K (.ref f17) = true)
    (a18 : PySem.W.nsIn K mainGlobals "_law_mixed" = some (some (.ref f18))) (l18 : K.lookup f18 = some ⟨oc18, od18, .func (PySem.W.fnOf "_law_mixed" "_law_mixed" (defArgs sMixed) (defBody sMixed) (defScope sMixed) .none kV18 dc18 pm18 an18 cd18 ct18), sl18⟩) (c18 : PySem.W.codeIn K cd18 "_law_mixed" = true) (k18 : PySem.W.keepIn K (.ref f18) = true)
    (a19 : PySem.W.nsIn K mainGlobals "_law_next" = some (some (.ref f19))) (l19 : K.lookup f19 = some ⟨oc19, od19, .func (PySem.W.fnOf "_law_next" "_law_next" (defArgs sNext) (defBody sNext) (defScope sNext) .none kV19 dc19 pm19 an19 cd19 ct19), sl19⟩) (c19 : PySem.W.codeIn K cd19 "_law_next" = true) (k19 : PySem.W.keepIn K (.ref f19) = true)
    (a20 : PySem.W.nsIn K mainGlobals "_law_told" = some (some (.ref f20))) (l20 : K.lookup f20 = some ⟨oc20, od20, .func (PySem.W.fnOf "_law_told" "_law_told" (defArgs sLawTold) (defBody sLawTold) (defScope sLawTold) .none kV20 dc20 pm20 an20 cd20 ct20), sl20⟩) (c20 : PySem.W.codeIn K cd20 "_law_told" = true) (k20 : PySem.W.keepIn K (.ref f20) = true)
    (a21 : PySem.W.nsIn K mainGlobals "_law_two" = some (some (.ref f21))) (l21 : K.lookup f21 = some ⟨oc21, od21, .func (PySem.W.fnOf "_law_two" "_law_two" (defArgs sLawTwo) (defBody sLawTwo) (defScope sLawTwo) .none kV21 dc21 pm21 an21 cd21 ct21), sl21⟩) (c21 : PySem.W.codeIn K cd21 "_law_two" = true) (k21 : PySem.W.keepIn K (.ref f21) = true)
    (a22 : PySem.W.nsIn K mainGlobals "_law_weeks" = some (some (.ref f22))) (l22 : K.lookup f22 = some ⟨oc22, od22, .func (PySem.W.fnOf "_law_weeks" "_law_weeks" (defArgs sLawWeeks) (defBody sLawWeeks) (defScope sLawWeeks) .none kV22 dc22 pm22 an22 cd22 ct22), sl22⟩) (c22 : PySem.W.codeIn K cd22 "_law_weeks" = true) (k22 : PySem.W.keepIn K (.ref f22) = true)
    (a23 : PySem.W.nsIn K mainGlobals "_law_days" = some (some (.ref f23))) (l23 : K.lookup f23 = some ⟨oc23, od23, .func (PySem.W.fnOf "_law_days" "_law_days" (defArgs sLawDays) (defBody sLawDays) (defScope sLawDays) .none kV23 dc23 pm23 an23 cd23 ct23), sl23⟩) (c23 : PySem.W.codeIn K cd23 "_law_days" = true) (k23 : PySem.W.keepIn K (.ref f23) = true)
    (a24 : PySem.W.nsIn K mainGlobals "_law_year_right" = some (some (.ref f24))) (l24 : K.lookup f24 = some ⟨oc24, od24, .func (PySem.W.fnOf "_law_year_right" "_law_year_right" (defArgs sLawYearRight) (defBody sLawYearRight) (defScope sLawYearRight) .none kV24 dc24 pm24 an24 cd24 ct24), sl24⟩) (c24 : PySem.W.codeIn K cd24 "_law_year_right" = true) (k24 : PySem.W.keepIn K (.ref f24) = true)
    (a25 : PySem.W.nsIn K mainGlobals "law" = some (some (.ref f25))) (l25 : K.lookup f25 = some ⟨oc25, od25, .func (PySem.W.fnOf "law" "law" (defArgs sLaw) (defBody sLaw) (defScope sLaw) .none kV25 dc25 pm25 an25 cd25 ct25), sl25⟩) (c25 : PySem.W.codeIn K cd25 "law" = true) (k25 : PySem.W.keepIn K (.ref f25) = true)
    (z1 : PySem.W.nsIn K mainGlobals "isinstance" = some none) (z2 : PySem.W.nsIn K mainGlobals "int" = some none) (z3 : PySem.W.nsIn K mainGlobals "bool" = some none) (z4 : PySem.W.nsIn K mainGlobals "str" = some none) (z5 : PySem.W.nsIn K mainGlobals "list" = some none) (z6 : PySem.W.nsIn K mainGlobals "all" = some none) (z7 : PySem.W.nsIn K mainGlobals "len" = some none) (z8 : PySem.W.nsIn K mainGlobals "range" = some none) (z9 : PySem.W.nsIn K mainGlobals "ord" = some none) (z10 : PySem.W.nsIn K mainGlobals "divmod" = some none) (z11 : PySem.W.nsIn K mainGlobals "abs" = some none) (z12 : PySem.W.nsIn K mainGlobals "sum" = some none) (v1 : PySem.W.nsIn K mainGlobals "PERCENT" = some (some (.int 37 tk1))) (v2 : PySem.W.nsIn K mainGlobals "LAST_YEAR" = some (some (.int 9999 tk2))) (v3 : PySem.W.nsIn K mainGlobals "GREATEST_OFFSET" = some (some (.int 1439 tk3))) (v4 : PySem.W.nsIn K mainGlobals "MINUTE" = some (some (.int 60 tk4))) (v5 : PySem.W.nsIn K mainGlobals "HOUR" = some (some (.int 3600 tk5))) (v6 : PySem.W.nsIn K mainGlobals "DAY" = some (some (.int 86400 tk6))) (v7 : PySem.W.nsIn K mainGlobals "FEBRUARY" = some (some (.int 1 tk7))) :
    ∃ fd : FuncData, (∀ (s : Shared) (v : Value), BindsTo s fd ⟨[v], []⟩ [("_law_script", v)]) ∧ ∀ base : Heap, K.In base → base.Ns mainGlobals mg → FnOk l.prog w K mg base CX0 10 fa fd ["_law_script"] (spLaw K) := by
  have e := hfa.symm.trans (PySem.W.mg_of X G a25)
  cases e
  have m_ValueError : mg "ValueError" = none := PySem.W.mg_none_of X G zVE
  have m_LetterError := PySem.W.mg_of X G gL
  have FL : FunA K "LetterError.__init__" sLE [.str ""] fL _ := ⟨⟨_, _, _, _, _, _, _, _, _, _, rfl, lL, cL, .inr ⟨by simp, TL, _, [.str ("" : Str) tkL], nTL, rfl, dL, rfl, .cons ⟨tkL, rfl⟩ .nil⟩, .inl rfl⟩, kL⟩
  have TLc : ClsFn K CL fL := ⟨gaL, rdL, atL, kL⟩
  have m_NoDate := PySem.W.mg_of X G gCN
  have OCN : OexC K CN := ⟨⟨nmCN, qCN, NCN, bsCN, bmCN, snCN, subCN, abCN, colCN, ddCN, m0CN, m1CN, m2CN, m3CN, m5CN, xCN, rvCN⟩, saCN, exCN, tyCN, kcCN⟩
  have ECCN : ExcC K CN := ⟨hgCN, hkCN, exCN, hdCN, haCN, hn0, ht0, hmCN⟩
  have teCN : PySem.W.exmOne K (.ref CN) (.ref CL) = some true := PySem.W.exm_ref exL hdL tyL suCN
  have XFCN : XfC K CN := ⟨hgCN, hkCN, exCN, hdCN⟩
  have A1 : FnAt K mg "is_text" sIsText := ⟨f1, _, fun_mk (st := sIsText) l1 c1 k1, PySem.W.mg_of X G a1⟩
  have A2 : FnAt K mg "is_line" sIsLine := ⟨f2, _, fun_mk (st := sIsLine) l2 c2 k2, PySem.W.mg_of X G a2⟩
  have A3 : FnAt K mg "is_figure" sIsFigure := ⟨f3, _, fun_mk (st := sIsFigure) l3 c3 k3, PySem.W.mg_of X G a3⟩
  have A4 : FnAt K mg "is_whole" sIsWhole := ⟨f4, _, fun_mk (st := sIsWhole) l4 c4 k4, PySem.W.mg_of X G a4⟩
  have A5 : FnAt K mg "_is_sign" sIsSign := ⟨f5, _, fun_mk (st := sIsSign) l5 c5 k5, PySem.W.mg_of X G a5⟩
  have A6 : FnAt K mg "show_date" sShowDate := ⟨f6, _, fun_mk (st := sShowDate) l6 c6 k6, PySem.W.mg_of X G a6⟩
  have A7 : FnAt K mg "read_date" sReadDate := ⟨f7, _, fun_mk (st := sReadDate) l7 c7 k7, PySem.W.mg_of X G a7⟩
  have A8 : FnAt K mg "_days_ahead" sDaysAhead := ⟨f8, _, fun_mk (st := sDaysAhead) l8 c8 k8, PySem.W.mg_of X G a8⟩
  have A9 : FnAt K mg "_days_of" sDaysOf := ⟨f9, _, fun_mk (st := sDaysOf) l9 c9 k9, PySem.W.mg_of X G a9⟩
  have A10 : FnAt K mg "_year_of" sYearOf := ⟨f10, _, fun_mk (st := sYearOf) l10 c10 k10, PySem.W.mg_of X G a10⟩
  have A11 : FnAt K mg "_show_day" sShowDay := ⟨f11, _, fun_mk (st := sShowDay) l11 c11 k11, PySem.W.mg_of X G a11⟩
  have A12 : FnAt K mg "_show_clock" sShowClock := ⟨f12, _, fun_mk (st := sShowClock) l12 c12 k12, PySem.W.mg_of X G a12⟩
  have A13 : FnAt K mg "_show_offset" sShowOffset := ⟨f13, _, fun_mk (st := sShowOffset) l13 c13 k13, PySem.W.mg_of X G a13⟩
  have A14 : FnAt K mg "_read_day" sReadDay := ⟨f14, _, fun_mk (st := sReadDay) l14 c14 k14, PySem.W.mg_of X G a14⟩
  have A15 : FnAt K mg "_read_clock" sReadClock := ⟨f15, _, fun_mk (st := sReadClock) l15 c15 k15, PySem.W.mg_of X G a15⟩
  have A16 : FnAt K mg "_read_offset" sReadOffset := ⟨f16, _, fun_mk (st := sReadOffset) l16 c16 k16, PySem.W.mg_of X G a16⟩
  have A17 : FnAt K mg "_read_figures" sReadFigures := ⟨f17, _, fun_mk (st := sReadFigures) l17 c17 k17, PySem.W.mg_of X G a17⟩
  have A18 : FnAt K mg "_law_mixed" sMixed := ⟨f18, _, fun_mk (st := sMixed) l18 c18 k18, PySem.W.mg_of X G a18⟩
  have A19 : FnAt K mg "_law_next" sNext := ⟨f19, _, fun_mk (st := sNext) l19 c19 k19, PySem.W.mg_of X G a19⟩
  have A20 : FnAt K mg "_law_told" sLawTold := ⟨f20, _, fun_mk (st := sLawTold) l20 c20 k20, PySem.W.mg_of X G a20⟩
  have A21 : FnAt K mg "_law_two" sLawTwo := ⟨f21, _, fun_mk (st := sLawTwo) l21 c21 k21, PySem.W.mg_of X G a21⟩
  have A22 : FnAt K mg "_law_weeks" sLawWeeks := ⟨f22, _, fun_mk (st := sLawWeeks) l22 c22 k22, PySem.W.mg_of X G a22⟩
  have A23 : FnAt K mg "_law_days" sLawDays := ⟨f23, _, fun_mk (st := sLawDays) l23 c23 k23, PySem.W.mg_of X G a23⟩
  have A24 : FnAt K mg "_law_year_right" sLawYearRight := ⟨f24, _, fun_mk (st := sLawYearRight) l24 c24 k24, PySem.W.mg_of X G a24⟩
  have F25 := fun_mk (st := sLaw) l25 c25 k25
  have m_WEEK := PySem.W.mg_of X G g_WEEK
  have hWEEK : ∀ H, SqT K H a_WEEK (week.map V.str) := fun H => .inr ⟨_, _, _, l_WEEK, rfl, rfl, (by show 7 ≤ sizeLine; decide), (.cons ⟨_, rfl⟩ (.cons ⟨_, rfl⟩ (.cons ⟨_, rfl⟩ (.cons ⟨_, rfl⟩ (.cons ⟨_, rfl⟩ (.cons ⟨_, rfl⟩ (.cons ⟨_, rfl⟩ .nil)))))))⟩
  have kWEEK : ∃ o, K.lookup a_WEEK = some o ∧ o.cls = .type "tuple" ∧ o.dict = none := ⟨_, l_WEEK, rfl, rfl⟩
  have m_MONTHS := PySem.W.mg_of X G g_MONTHS
  have hMONTHS : ∀ H, SqT K H a_MONTHS (mons.map V.str) := fun H => .inr ⟨_, _, _, l_MONTHS, rfl, rfl, (by show 12 ≤ sizeLine; decide), (.cons ⟨_, rfl⟩ (.cons ⟨_, rfl⟩ (.cons ⟨_, rfl⟩ (.cons ⟨_, rfl⟩ (.cons ⟨_, rfl⟩ (.cons ⟨_, rfl⟩ (.cons ⟨_, rfl⟩ (.cons ⟨_, rfl⟩ (.cons ⟨_, rfl⟩ (.cons ⟨_, rfl⟩ (.cons ⟨_, rfl⟩ (.cons ⟨_, rfl⟩ .nil))))))))))))⟩
  have kMONTHS : ∃ o, K.lookup a_MONTHS = some o ∧ o.cls = .type "tuple" ∧ o.dict = none := ⟨_, l_MONTHS, rfl, rfl⟩
  have m_MONTH_DAYS := PySem.W.mg_of X G g_MONTH_DAYS
  have hMONTH_DAYS : ∀ H, SqT K H a_MONTH_DAYS (mDays.map fun n : Nat => V.int (n : Int)) := fun H => .inr ⟨_, _, _, l_MONTH_DAYS, rfl, rfl, (by show 12 ≤ sizeLine; decide), (.cons ⟨_, rfl⟩ (.cons ⟨_, rfl⟩ (.cons ⟨_, rfl⟩ (.cons ⟨_, rfl⟩ (.cons ⟨_, rfl⟩ (.cons ⟨_, rfl⟩ (.cons ⟨_, rfl⟩ (.cons ⟨_, rfl⟩ (.cons ⟨_, rfl⟩ (.cons ⟨_, rfl⟩ (.cons ⟨_, rfl⟩ (.cons ⟨_, rfl⟩ .nil))))))))))))⟩
  have kMONTH_DAYS : ∃ o, K.lookup a_MONTH_DAYS = some o ∧ o.cls = .type "tuple" ∧ o.dict = none := ⟨_, l_MONTH_DAYS, rfl, rfl⟩
  have m_isinstance : mg "isinstance" = none := PySem.W.mg_none_of X G z1
  have m_int : mg "int" = none := PySem.W.mg_none_of X G z2
  have m_bool : mg "bool" = none := PySem.W.mg_none_of X G z3
  have m_str : mg "str" = none := PySem.W.mg_none_of X G z4
  have m_list : mg "list" = none := PySem.W.mg_none_of X G z5
  have m_all : mg "all" = none := PySem.W.mg_none_of X G z6
  have m_len : mg "len" = none := PySem.W.mg_none_of X G z7
  have m_range : mg "range" = none := PySem.W.mg_none_of X G z8
  have m_ord : mg "ord" = none := PySem.W.mg_none_of X G z9
  have m_divmod : mg "divmod" = none := PySem.W.mg_none_of X G z10
  have m_abs : mg "abs" = none := PySem.W.mg_none_of X G z11
  have m_sum : mg "sum" = none := PySem.W.mg_none_of X G z12
  have m_PERCENT := PySem.W.mg_of X G v1
  have m_LAST_YEAR := PySem.W.mg_of X G v2
  have m_GREATEST_OFFSET := PySem.W.mg_of X G v3
  have m_MINUTE := PySem.W.mg_of X G v4
  have m_HOUR := PySem.W.mg_of X G v5
  have m_DAY := PySem.W.mg_of X G v6
  have m_FEBRUARY := PySem.W.mg_of X G v7
  refine ⟨PySem.W.fnOf "law" "law" (defArgs sLaw) (defBody sLaw) (defScope sLaw) .none kV25 dc25 pm25 an25 cd25 ct25, fun s v => .of_eq rfl, fun base _ _ => ?_⟩
  have MCN : MkN l.prog w K mg base "NoDate" CN := ⟨OCN, m_NoDate, fL, _, iCN, tifL, ok_LE FL m_ValueError vV, bind_LE FL⟩
  have P1 := r_is_figure (P := l.prog) (w := w) (base := base) A3
  have P2 := r_is_sign (P := l.prog) (w := w) (base := base) A5 m_ord m_PERCENT
  have P3 := r_is_text A1 P2 m_isinstance m_str m_all
  have P4 := r_is_line A2 P3
  have P5 := r_is_whole (P := l.prog) (w := w) (base := base) A4 m_isinstance m_int m_bool
  have P6 := r_days_ahead (P := l.prog) (w := w) (base := base) A8
  have P7 := r_days_of A9 P6 m_FEBRUARY m_MONTH_DAYS hMONTH_DAYS
  have P8 := r_year_of A10 P6
  have P9 := r_show_day A11 P8 P6 P7 m_MONTHS hMONTHS
  have P10 := r_show_clock (P := l.prog) (w := w) (base := base) A12 m_divmod m_HOUR m_MINUTE
  have P11 := r_show_offset (P := l.prog) (w := w) (base := base) A13 m_divmod m_abs
  have P12 := x_show_date MCN A6 P5 P6 P9 P10 P11 m_divmod m_len m_GREATEST_OFFSET m_MINUTE m_DAY m_LAST_YEAR m_WEEK hWEEK
  have P13 := x_read_figures MCN A17 P1 m_all m_int m_len
  have P14 := x_read_day MCN A14 P13 P7 P6 m_range m_sum m_LAST_YEAR m_MONTHS hMONTHS kMONTHS
  have P15 := x_read_clock MCN A15 P13 m_len m_HOUR m_MINUTE
  have P16 := x_read_offset MCN A16 P13 m_len
  have P17 := x_read_date MCN A7 P4 P14 P15 P16 P6 m_len m_DAY m_MINUTE m_WEEK hWEEK
  have S2 := r_mixed (P := l.prog) (w := w) (base := base) A18
  have S4 := r_next A19 S2
  have teS : PySem.W.exmOne K (.ref CN) (.ref CN) = some true := PySem.W.exm_ref exCN hdCN tyCN suSelf
  have W1 := r_told A20 P17 m_NoDate teS
  have W2 := r_two (P := l.prog) (w := w) (base := base) A21 m_int m_str
  have W3 := r_weeks A22 W1
  have W4 := r_days A23 W1 P12 W3 m_len m_range m_str
  have W5 := r_year_right A24 W2 W4 m_len m_range m_str m_abs m_int
  exact ok_law F25 S4 W5
end FL
open PySem PySem.W PyProof.Rows
set_option maxRecDepth 100000 in
set_option maxHeartbeats 8000000 in
theorem PySem.Challenge.cw_foldletter_k30_whole_a_year_day_by_day_holds : PySem.Challenge.rw_foldletter_k30_whole_a_year_day_by_day.Holds := by
  w_on; o_law; k_head; (case hw => w_witness2)
  k_fill
  refine L2.walk_of (l := PySem.Challenge.rw_foldletter_k30_whole_a_year_day_by_day) (n := 63) (k := 10) (x := "_law_script") (CX := fun _ => L2.CX0) (sp := fun w => FL.spLaw _) rfl (by decide) rfl ⟨rfl, by decide, by decide⟩ (fun w h Y => PySem.W.kIn_of Y) ?F (fun _ _ a ns hl _ hS => ⟨a, ns, rfl, hS, hl, fun _ => rfl⟩) (fun _ _ _ _ _ h => h)
  case F =>
    intro w mg fa h KX G hmg
    refine' FL.all_mk KX G hmg ?gL ?iL ?lL ?cL ?kL ?dL ?gaL ?rdL ?atL ?vV ?zVE ?exL ?hdL ?tyL ?tifL ?gCN ?xCN ?rvCN ?saCN ?exCN ?tyCN ?kcCN ?iCN ?hgCN ?hkCN ?hdCN ?haCN ?hmCN ?suCN ?hn0 ?ht0 ?g_WEEK ?l_WEEK ?g_MONTHS ?l_MONTHS ?g_MONTH_DAYS ?l_MONTH_DAYS ?suSelf ?a1 ?l1 ?c1 ?k1 ?a2 ?l2 ?c2 ?k2 ?a3 ?l3 ?c3 ?k3 ?a4 ?l4 ?c4 ?k4 ?a5 ?l5 ?c5 ?k5 ?a6 ?l6 ?c6 ?k6 ?a7 ?l7 ?c7 ?k7 ?a8 ?l8 ?c8 ?k8 ?a9 ?l9 ?c9 ?k9 ?a10 ?l10 ?c10 ?k10 ?a11 ?l11 ?c11 ?k11 ?a12 ?l12 ?c12 ?k12 ?a13 ?l13 ?c13 ?k13 ?a14 ?l14 ?c14 ?k14 ?a15 ?l15 ?c15 ?k15 ?a16 ?l16 ?c16 ?k16 ?a17 ?l17 ?c17 ?k17 ?a18 ?l18 ?c18 ?k18 ?a19 ?l19 ?c19 ?k19 ?a20 ?l20 ?c20 ?k20 ?a21 ?l21 ?c21 ?k21 ?a22 ?l22 ?c22 ?k22 ?a23 ?l23 ?c23 ?k23 ?a24 ?l24 ?c24 ?k24 ?a25 ?l25 ?c25 ?k25 ?z1 ?z2 ?z3 ?z4 ?z5 ?z6 ?z7 ?z8 ?z9 ?z10 ?z11 ?z12 ?v1 ?v2 ?v3 ?v4 ?v5 ?v6 ?v7
    (case gL => k_is); (case iL => k_is); (case lL => k_is); (case cL => k_is); (case kL => k_is); (case dL => k_is); (case gaL => k_is); (case rdL => k_is); (case atL => k_is); (case vV => k_is); (case zVE => k_is); (case exL => k_is); (case hdL => k_is); (case tyL => k_is); (case tifL => k_is); (case gCN => k_is); (case xCN => k_is); (case rvCN => first | rfl | k_is); (case saCN => k_is); (case exCN => k_is); (case tyCN => k_is); (case kcCN => k_is); (case iCN => k_is); (case hgCN => k_is); (case hkCN => k_is); (case hdCN => k_is); (case haCN => k_is); (case hmCN => k_is); (case suCN => k_is); (case hn0 => k_is); (case ht0 => k_is); (case g_WEEK => k_is); (case l_WEEK => k_is); (case g_MONTHS => k_is); (case l_MONTHS => k_is); (case g_MONTH_DAYS => k_is); (case l_MONTH_DAYS => k_is); (case suSelf => k_is); (case a1 => k_is); (case l1 => k_is); (case c1 => k_is); (case k1 => k_is); (case a2 => k_is); (case l2 => k_is); (case c2 => k_is); (case k2 => k_is); (case a3 => k_is); (case l3 => k_is); (case c3 => k_is); (case k3 => k_is); (case a4 => k_is); (case l4 => k_is); (case c4 => k_is); (case k4 => k_is); (case a5 => k_is); (case l5 => k_is); (case c5 => k_is); (case k5 => k_is); (case a6 => k_is); (case l6 => k_is); (case c6 => k_is); (case k6 => k_is); (case a7 => k_is); (case l7 => k_is); (case c7 => k_is); (case k7 => k_is); (case a8 => k_is); (case l8 => k_is); (case c8 => k_is); (case k8 => k_is); (case a9 => k_is); (case l9 => k_is); (case c9 => k_is); (case k9 => k_is); (case a10 => k_is); (case l10 => k_is); (case c10 => k_is); (case k10 => k_is); (case a11 => k_is); (case l11 => k_is); (case c11 => k_is); (case k11 => k_is); (case a12 => k_is); (case l12 => k_is); (case c12 => k_is); (case k12 => k_is); (case a13 => k_is); (case l13 => k_is); (case c13 => k_is); (case k13 => k_is); (case a14 => k_is); (case l14 => k_is); (case c14 => k_is); (case k14 => k_is); (case a15 => k_is); (case l15 => k_is); (case c15 => k_is); (case k15 => k_is); (case a16 => k_is); (case l16 => k_is); (case c16 => k_is); (case k16 => k_is); (case a17 => k_is); (case l17 => k_is); (case c17 => k_is); (case k17 => k_is); (case a18 => k_is); (case l18 => k_is); (case c18 => k_is); (case k18 => k_is); (case a19 => k_is); (case l19 => k_is); (case c19 => k_is); (case k19 => k_is); (case a20 => k_is); (case l20 => k_is); (case c20 => k_is); (case k20 => k_is); (case a21 => k_is); (case l21 => k_is); (case c21 => k_is); (case k21 => k_is); (case a22 => k_is); (case l22 => k_is); (case c22 => k_is); (case k22 => k_is); (case a23 => k_is); (case l23 => k_is); (case c23 => k_is); (case k23 => k_is); (case a24 => k_is); (case l24 => k_is); (case c24 => k_is); (case k24 => k_is); (case a25 => k_is); (case l25 => k_is); (case c25 => k_is); (case k25 => k_is); (case z1 => k_is); (case z2 => k_is); (case z3 => k_is); (case z4 => k_is); (case z5 => k_is); (case z6 => k_is); (case z7 => k_is); (case z8 => k_is); (case z9 => k_is); (case z10 => k_is); (case z11 => k_is); (case z12 => k_is); (case v1 => k_is); (case v2 => k_is); (case v3 => k_is); (case v4 => k_is); (case v5 => k_is); (case v6 => k_is); (case v7 => k_is)
