import PyProof.Rows.All
import Wide.All
import OpenK.AllK
import Wide.FinOn
import PySem.Challenge.RW_foldletter_k04_whole_heads_there_and_bac
import HandS.ForMost
import HandS.Walk
import HandS.IsInst
import HandS.Wide
import HandS.ReplaceDef
import HandS.ReplaceLit
import HandS.ReplaceList
import HandS.StrMore
import HandS.ExcInit
import HandS.ExcIs
import HandS.ExcField
import HandS.Defaults
import HandS.TryOnly
import HandS.WordsExc
import HandS.Rev
import HandS.Conv
import HandS.ClsMeth
import HandS.FStr
import HandS.Flow
import HandS.Style
import HandS.Strs
import PyProof.FString3
set_option Elab.async false
set_option linter.all false
set_option maxRecDepth 100000
set_option maxHeartbeats 4000000
namespace FL
open PySem PySem.Spec PyProof.Rows L2
def topS (i : Nat) : Stmt := PySem.Challenge.pw_foldletter_k04_whole_heads_there_and_bac.main.body.getD i (.Pass ⟨0, 0, 0, 0⟩)
abbrev cLetterError : Stmt := topS 1
abbrev cNoHead : Stmt := topS 2
abbrev sIsText : Stmt := topS 5
abbrev sIsLine : Stmt := topS 6
abbrev sIsLetter : Stmt := topS 7
abbrev sIsFigure : Stmt := topS 8
abbrev sIsSign : Stmt := topS 9
abbrev sFold : Stmt := topS 13
abbrev sReadHeads : Stmt := topS 14
abbrev sBeginsHead : Stmt := topS 15
abbrev sIsName : Stmt := topS 16
abbrev sIsValue : Stmt := topS 17
abbrev sIsNameSign : Stmt := topS 18
abbrev sFoldPlace : Stmt := topS 19
abbrev sMayFold : Stmt := topS 20
abbrev sHeadEnd : Stmt := topS 21
abbrev sHeadOf : Stmt := topS 22
abbrev sCellAt : Stmt := topS 24
abbrev sMixed : Stmt := topS 25
abbrev sSource : Stmt := topS 26
abbrev sNext : Stmt := topS 27
abbrev sSigns : Stmt := topS 28
abbrev sLawName : Stmt := topS 29
abbrev sLawValue : Stmt := topS 30
abbrev sLawHeads : Stmt := topS 31
abbrev sLawFits : Stmt := topS 32
abbrev sLawHeadRight : Stmt := topS 33
abbrev sLaw : Stmt := topS 34
end FL

namespace FL
open PySem PySem.Spec PyProof.Rows L2
/-! ### small words -/
theorem pe_weak {X : Cx} {e : Expr} {t t' : TE} (h : PE X e t) (m : ∀ σ H Q, t' σ H Q → t σ H Q) : PE X e t' := ⟨fun pins s σ H Q I q => h.run pins s σ H Q I (m σ H Q q)⟩
theorem lt_one {a b : Nat} : ((([a] : List Nat) < [b])) ↔ a < b := by
  rw [List.cons_lt_cons_iff]
  simp
theorem bl_to {Q : V → Hp → Prop} {H : Hp} {a b : Bool} (e : a = b) (q : Q (.bl b) H) : Q (.bl a) H := by
  rw [e]
  exact q
def tBtw (i lo hi : Nat) : TE := fun σ H Q => ∃ c : Nat, σ[i]? = some (some (.str ⟨#[c]⟩)) ∧ Q (.bl (decide (lo ≤ c ∧ c ≤ hi))) H
theorem pe_btw {X : Cx} (i : Nat) {x a b : Str} {lo hi k1 k2 : Nat} {p1 p2 p3 pos : Pos} (ea : a.cps.toList = [lo]) (eb : b.cps.toList = [hi]) (hx : PE X (.Name x p2) (tVar i))
    (hm : lastMarks [.LtE, .LtE] [.Name x p2, .Constant (.str b) k2 p3] = false := by with_unfolding_all rfl) :
    PE X (.Compare (.Constant (.str a) k1 p1) [.LtE, .LtE] [.Name x p2, .Constant (.str b) k2 p3] pos) (tBtw i lo hi) := by
  refine pe_weak (pe_chain op_le_str op_le_str pe_str hx pe_str hm) ?_
  rintro σ H Q ⟨c, hc, q⟩
  refine ⟨_, hc, _, _, rfl, rfl, _, rfl, ?_⟩
  have e1 : (!decide (((⟨#[c]⟩ : Str).cps.toList) < a.cps.toList)) = decide (lo ≤ c) := by
    rw [ea]
    show (!decide (([c] : List Nat) < [lo])) = decide (lo ≤ c)
    rw [decide_eq_decide.mpr (lt_one (a := c) (b := lo))]
    by_cases h : lo ≤ c
    · rw [decide_eq_true h, decide_eq_false (by omega)]; rfl
    · rw [decide_eq_false h, decide_eq_true (by omega)]; rfl
  have e2 : (!decide (b.cps.toList < ((⟨#[c]⟩ : Str).cps.toList))) = decide (c ≤ hi) := by
    rw [eb]
    show (!decide (([hi] : List Nat) < [c])) = decide (c ≤ hi)
    rw [decide_eq_decide.mpr (lt_one (a := hi) (b := c))]
    by_cases h : c ≤ hi
    · rw [decide_eq_true h, decide_eq_false (by omega)]; rfl
    · rw [decide_eq_false h, decide_eq_true (by omega)]; rfl
  rw [e1]
  by_cases h1 : lo ≤ c
  · rw [decide_eq_true h1, if_pos rfl]
    refine ⟨_, _, rfl, rfl, bl_to e2 (bl_to ?_ q)⟩
    by_cases h2 : c ≤ hi
    · rw [decide_eq_true h2, decide_eq_true ⟨h1, h2⟩]
    · rw [decide_eq_false h2, decide_eq_false (fun z => h2 z.2)]
  · rw [decide_eq_false h1, if_neg Bool.false_ne_true]
    exact bl_to (decide_eq_false (fun z => h1 z.1)).symm q
/-- x or y of two truths -/
theorem pe_orB {X : Cx} {a b : Expr} {rest : List Expr} {pos : Pos} {ta tb : TE} (ha : PE X a ta) (hb : PE X (.BoolOp .Or (b :: rest) pos) tb) :
    PE X (.BoolOp .Or (a :: b :: rest) pos) (tOrV ta tb) := pe_or ha hb
/-! ### what stands where -/
structure FnAt (K : PySem.W.Frag) (mg : Str → Option Value) (x : Str) (st : Stmt) : Prop where
  ex : ∃ f fd, Fun K x x st f fd ∧ mg x = some (.ref f)
def Ready (P : Program) (w : World) (K : PySem.W.Frag) (mg : Str → Option Value) (base : Heap) (k : Nat) (x : Str) (ps : List Str) (sp : Sp) : Prop :=
  ∃ f fd, mg x = some (.ref f) ∧ PySem.W.keepIn K (.ref f) = true ∧ Binds K fd ps [] ∧ FnOk P w K mg base CX0 k f fd ps sp
section
variable {P : Program} {w : World} {K : PySem.W.Frag} {mg : Str → Option Value} {base : Heap}
theorem ready_of {x : Str} {st : Stmt} {k : Nat} {ps : List Str} {sp : Sp} (A : FnAt K mg x st)
    (hb : ∀ (kV doc pm : Value) (an : Option Addr) (cdv ct : Value) (us : List Value), us.length = ps.length → bindArgs (PySem.W.fnOf x x (defArgs st) (defBody st) (defScope st) .none kV doc pm an cdv ct) ⟨us, []⟩ = pure (ps.zip us))
    (ok : ∀ f fd, Fun K x x st f fd → FnOk P w K mg base CX0 k f fd ps sp) : Ready P w K mg base k x ps sp := by
  obtain ⟨f, fd, F, g⟩ := A.ex
  exact ⟨f, fd, g, F.kp, F.binds hb, ok f fd F⟩
/-! ### the mathematics of signs -/
def isLet (c : Nat) : Bool := decide (97 ≤ c ∧ c ≤ 122) || decide (65 ≤ c ∧ c ≤ 90)
def isFig (c : Nat) : Bool := decide (48 ≤ c ∧ c ≤ 57)
def isSig (c : Nat) : Bool := decide (c = 10) || (decide (32 ≤ c ∧ c ≤ 126) && !decide (c = 37))
def atomSigns : List Nat := [33, 35, 36, 38, 39, 42, 43, 45, 46, 47, 61, 63, 94, 95, 96, 123, 124, 125, 126]
def isAtm (c : Nat) : Bool := isLet c || (isFig c || decide (c ∈ atomSigns))
def spSign (f : Nat → Bool) : Sp := fun vs H Q _ => ∃ c : Nat, vs = [.str ⟨#[c]⟩] ∧ Q (.bl (f c)) H
theorem scIsLetter : FnScope ["sign"] ["sign"] (defScope sIsLetter) := ⟨rfl, rfl, rfl, by decide +kernel, rfl, by decide +kernel, by decide +kernel⟩
theorem r_is_letter (A : FnAt K mg "is_letter" sIsLetter) : Ready P w K mg base 1 "is_letter" ["sign"] (spSign isLet) := by
  refine ready_of A (fun _ _ _ _ _ _ us hl => match us, hl with | [_], _ => rfl) fun f fd F => ?_
  refine F.ok scIsLetter (fun vs H Q E h => ?_) (fun cdv A outer s H vs Q E hr h => ?_)
  · obtain ⟨c, rfl, _⟩ := h
    rfl
  · obtain ⟨c, rfl, q⟩ := h
    refine ⟨_, pss_one (ps_ret (pe_or (pe_btw (lo := 97) (hi := 122) 0 rfl rfl (pv 0)) (pe_one (pe_btw (lo := 65) (hi := 90) 0 rfl rfl (pv 0))))), ?_⟩
    refine ⟨c, rfl, _, rfl, ?_⟩
    by_cases h1 : 97 ≤ c ∧ c ≤ 122
    · rw [decide_eq_true h1, if_pos rfl]
      exact bl_to (by unfold isLet; rw [decide_eq_true h1]; rfl) q
    · rw [decide_eq_false h1, if_neg Bool.false_ne_true]
      exact ⟨c, rfl, bl_to (by unfold isLet; rw [decide_eq_false h1]; rfl) q⟩
theorem scIsFigure : FnScope ["sign"] ["sign"] (defScope sIsFigure) := ⟨rfl, rfl, rfl, by decide +kernel, rfl, by decide +kernel, by decide +kernel⟩
theorem r_is_figure (A : FnAt K mg "is_figure" sIsFigure) : Ready P w K mg base 1 "is_figure" ["sign"] (spSign isFig) := by
  refine ready_of A (fun _ _ _ _ _ _ us hl => match us, hl with | [_], _ => rfl) fun f fd F => ?_
  refine F.ok scIsFigure (fun vs H Q E h => ?_) (fun cdv A outer s H vs Q E hr h => ?_)
  · obtain ⟨c, rfl, _⟩ := h
    rfl
  · obtain ⟨c, rfl, q⟩ := h
    exact ⟨_, pss_one (ps_ret (pe_btw (lo := 48) (hi := 57) 0 rfl rfl (pv 0))), c, rfl, q⟩
theorem str_one {c d : Nat} : (V.str ⟨#[c]⟩ = V.str ⟨#[d]⟩) ↔ c = d := by
  constructor
  · intro h
    injection h with h
    injection h with h
    have h2 := congrArg Array.toList h
    simpa using h2
  · intro h
    rw [h]
theorem scIsSign : FnScope ["sign"] ["sign"] (defScope sIsSign) := ⟨rfl, rfl, rfl, by decide +kernel, rfl, by decide +kernel, by decide +kernel⟩
theorem r_is_sign (A : FnAt K mg "_is_sign" sIsSign) (mo : mg "ord" = none) {tp : Tok} (mp : mg "PERCENT" = some (.int 37 tp)) : Ready P w K mg base 1 "_is_sign" ["sign"] (spSign isSig) := by
  refine ready_of A (fun _ _ _ _ _ _ us hl => match us, hl with | [_], _ => rfl) fun f fd F => ?_
  refine F.ok scIsSign (fun vs H Q E h => ?_) (fun cdv A outer s H vs Q E hr h => ?_)
  · obtain ⟨c, rfl, _⟩ := h
    rfl
  · obtain ⟨c, rfl, q⟩ := h
    refine ⟨_, pss_one (ps_ret (pe_or (pe_cmpR op_eq (pv 0) pe_str (nomark _)) (pe_one (pe_and (pe_btw (lo := 32) (hi := 126) 0 rfl rfl (pv 0))
      (pe_one (pe_cmpR op_ne (pe_callB call_ord (by rfl) mo (by decide +kernel) (pa_cons (pv 0) pa_nil)) (pe_glob (v := .int 37) rfl mp ⟨tp, rfl⟩) (nomark _))))))), ?_⟩
    refine ⟨_, rfl, rfl, _, rfl, ?_⟩
    have e1 : decide (V.str ⟨#[c]⟩ = V.str ("\n" : Str)) = decide (c = 10) := decide_eq_decide.mpr (str_one (d := 10))
    rw [e1]
    by_cases h1 : c = 10
    · rw [decide_eq_true h1, if_pos rfl]
      exact bl_to (by unfold isSig; rw [decide_eq_true h1]; rfl) q
    · rw [decide_eq_false h1, if_neg Bool.false_ne_true]
      refine ⟨c, rfl, _, rfl, ?_⟩
      by_cases h2 : 32 ≤ c ∧ c ≤ 126
      · rw [decide_eq_true h2, if_pos rfl]
        refine ⟨_, rfl, _, rfl, rfl, rfl, bl_to ?_ q⟩
        unfold isSig
        rw [decide_eq_false h1, decide_eq_true h2, Bool.false_or, Bool.true_and]
        show (!decide (V.int ((c : Nat) : Int) = V.int 37)) = !decide (c = 37)
        congr 1
        refine decide_eq_decide.mpr ⟨fun h => ?_, fun h => by rw [h]; rfl⟩
        injection h with h
        omega
      · rw [decide_eq_false h2, if_neg Bool.false_ne_true]
        exact bl_to (by unfold isSig; rw [decide_eq_false h1, decide_eq_false h2]; rfl) q
end
end FL


namespace FL
open PySem PySem.Spec PyProof.Rows L2
section
variable {P : Program} {w : World} {K : PySem.W.Frag} {mg : Str → Option Value} {base : Heap}
theorem szl {n : Nat} (h : n ≤ 10000) : n < sizeLine := Nat.lt_of_le_of_lt h (by decide)
theorem same_new {H : Hp} {p : Addr} {o : HO} (h : H p = none) : Same H (upd H p o) := fun b x e => by
  rw [upd_ne (ne_of_none e h)]
  exact e
/-- a store to what was not there at the start -/
theorem same_set {H H1 : Hp} {p : Addr} {o : HO} (s : Same H H1) (h : H p = none) : Same H (upd H1 p o) := fun b x e => by
  rw [upd_ne (ne_of_none e h)]
  exact s b x e
theorem take_more {α : Type} {l : List α} {i : Nat} {x : α} (h : l[i]? = some x) : l.take (i + 1) = l.take i ++ [x] := by
  rw [List.take_add_one, h]
  rfl
def allSig (l : List Nat) : Bool := l.all isSig
def isLn (l : List Nat) : Bool := allSig l && !decide (10 ∈ l)
/-- of a text f of its signs; of what is none, False -/
def spLine (K : PySem.W.Frag) (f : List Nat → Bool) : Sp := fun vs H Q _ => ∃ v, vs = [v] ∧
  ((∃ z : Str, v = .str z ∧ z.length ≤ 10000 ∧ ∀ H', Same H H' → Q (.bl (f z.cps.toList)) H') ∨ (∃ t, TyX K H v t ∧ PySem.W.kitOne K t (.type "str") = some false ∧ Q (.bl false) H))
theorem scIsText : FnScope ["value", "sign"] ["value"] (defScope sIsText) := ⟨rfl, rfl, rfl, by decide +kernel, rfl, by decide +kernel, by decide +kernel⟩
theorem r_is_text (A : FnAt K mg "is_text" sIsText) (RS : Ready P w K mg base 1 "_is_sign" ["sign"] (spSign isSig)) (mi : mg "isinstance" = none) (ms : mg "str" = none) (ma : mg "all" = none) :
    Ready P w K mg base 2 "is_text" ["value"] (spLine K allSig) := by
  obtain ⟨fS, fdS, gS, kS, bS, GS⟩ := RS
  refine ready_of A (fun _ _ _ _ _ _ us hl => match us, hl with | [_], _ => rfl) fun f fd F => ?_
  refine F.ok scIsText (fun vs H Q E h => ?_) (fun cdv A outer s H vs Q E hr h => ?_)
  · obtain ⟨v, rfl, _⟩ := h
    rfl
  · obtain ⟨v, rfl, q⟩ := h
    refine ⟨_, pss_one (ps_ret (pe_and (pe_callB call_isi (by rfl) mi (by decide +kernel) (pa_cons (pv 0) (pa_cons (pe_bltn (v := .ty "str") (by rfl) ms (by decide +kernel) rfl) pa_nil)))
      (pe_one (pe_callB (cr_all rfl) (by rfl) ma (by decide +kernel) (pa_cons (pe_lc (own := [("sign", 1)]) (g := gName 1) (tt := tYes) (by rfl) scIsText.nd (pi_str (pv 0))
        (blkOk_by (own := [("sign", 1)]) (N := ["value", "sign"]) (sc := defScope sIsText) (by decide +kernel)) (fun _ _ _ _ _ => pg_name (i := 1) scIsText.nd rfl (Or.inl rfl)) (fun _ _ _ _ _ => pts_nil)
        (fun _ _ _ _ _ => pe_call GS hr (by rfl) gS kS bS .nil pass0 (pa_cons (pv 1) pa_nil))) pa_nil))))), ?_⟩
    rcases q with ⟨z, rfl, hz, q⟩ | ⟨t, ht, hk, q⟩
    · refine ⟨_, rfl, _, _, .type "str", .type "str", true, rfl, ClsV.ty "str", .base (.str z), kit_ty (by decide +kernel), true, rfl, iteT ?_⟩
      refine ⟨_, rfl, z, rfl, fun D hD => ?_⟩
      refine lc_it walk_str (fun i H' => Same H H' ∧ H' D = some (.lst ((z.cps.toList.take i).map fun c => V.bl (isSig c)))) ⟨same_new hD, upd_same⟩ (fun _ _ _ _ => trivial) (fun i x H1 H2 hi hp hy => ?_) (fun H1 hp => ?_)
      · obtain ⟨rfl, c, hc, rfl⟩ := hy
        obtain ⟨sm, hd⟩ := hp
        have hc' : z.cps.toList[i]? = some c := by
          rw [Array.getElem?_toList]
          exact hc
        refine ⟨rfl, ?_⟩
        unfold tYes
        refine iteT ?_
        refine ⟨_, rfl, c, rfl, _, hd, ?_, same_set sm hD, ?_⟩
        · rw [List.length_map]
          exact Nat.lt_of_le_of_lt (List.length_take_le _ _) (szl (by have h2 : z.cps.size = z.length := rfl; omega))
        · rw [upd_same, take_more hc', List.map_append]
          rfl
      · obtain ⟨sm, hd⟩ := hp
        have e : z.cps.toList.take z.cps.size = z.cps.toList := List.take_of_length_le (by simp)
        rw [e] at hd
        refine ⟨D, z.cps.toList.map isSig, rfl, SqL.of (by rw [List.map_map]; exact hd), bl_to ?_ (q H1 sm)⟩
        unfold allSig
        rw [List.all_map]
        rfl
    · exact ⟨_, rfl, _, _, t, .type "str", false, rfl, ClsV.ty "str", ht, hk, false, rfl, iteF q⟩
theorem scIsLine : FnScope ["value"] ["value"] (defScope sIsLine) := ⟨rfl, rfl, rfl, by decide +kernel, rfl, by decide +kernel, by decide +kernel⟩
theorem r_is_line (A : FnAt K mg "is_line" sIsLine) (RS : Ready P w K mg base 2 "is_text" ["value"] (spLine K allSig)) :
    Ready P w K mg base 3 "is_line" ["value"] (spLine K isLn) := by
  obtain ⟨fS, fdS, gS, kS, bS, GS⟩ := RS
  refine ready_of A (fun _ _ _ _ _ _ us hl => match us, hl with | [_], _ => rfl) fun f fd F => ?_
  refine F.ok scIsLine (fun vs H Q E h => ?_) (fun cdv A outer s H vs Q E hr h => ?_)
  · obtain ⟨v, rfl, _⟩ := h
    rfl
  · obtain ⟨v, rfl, q⟩ := h
    refine ⟨_, pss_one (ps_ret (pe_and (pe_call GS hr (by rfl) gS kS bS .nil pass0 (pa_cons (pv 0) pa_nil)) (pe_one (pe_cmpR op_notIn_sign pe_str (pv 0) (by rfl))))), ?_⟩
    refine ⟨_, rfl, v, rfl, ?_⟩
    rcases q with ⟨z, rfl, hz, q⟩ | ⟨t, ht, hk, q⟩
    · refine .inl ⟨z, rfl, hz, fun H' sm => ⟨_, rfl, ?_⟩⟩
      by_cases h1 : allSig z.cps.toList = true
      · rw [h1, if_pos rfl]
        refine ⟨_, rfl, 10, z, rfl, rfl, bl_to ?_ (q H' sm)⟩
        unfold isLn
        rw [h1]
        rfl
      · rw [eq_false_of_ne_true h1, if_neg Bool.false_ne_true]
        refine bl_to ?_ (q H' sm)
        unfold isLn
        rw [eq_false_of_ne_true h1]
        rfl
    · exact .inr ⟨t, ht, hk, false, rfl, iteF q⟩
theorem len_cps (z : Str) : z.cps.toList.length = z.length := by simp [Str.length]
end
end FL


namespace FL
open PySem PySem.Spec PyProof.Rows L2
section
variable {P : Program} {w : World} {K : PySem.W.Frag} {mg : Str → Option Value} {base : Heap}
def spCellAt (K : PySem.W.Frag) : Sp := fun vs H Q _ => ∃ (a : Addr) (ns : List Int) (k : Nat), vs = [.ref a, .int (k : Nat)] ∧ SqL K H a (ns.map V.int) ∧ ∀ x : Int, Q (.int x) H
theorem scCellAt : FnScope ["_law_script", "_law_k"] ["_law_script", "_law_k"] (defScope sCellAt) := ⟨rfl, rfl, rfl, by decide +kernel, rfl, by decide +kernel, by decide +kernel⟩
theorem r_cell_at (A : FnAt K mg "_law_cell_at" sCellAt) (ml : mg "len" = none) : Ready P w K mg base 1 "_law_cell_at" ["_law_script", "_law_k"] (spCellAt K) := by
  refine ready_of A (fun _ _ _ _ _ _ us hl => match us, hl with | [_, _], _ => rfl) fun f fd F => ?_
  refine F.ok scCellAt (fun vs H Q E h => ?_) (fun cdv A outer s H vs Q E hr h => ?_)
  · obtain ⟨a, ns, k, rfl, _⟩ := h
    rfl
  · obtain ⟨a, ns, k, rfl, hS, q⟩ := h
    refine ⟨_, pss_cons (ps_if (pt_cmpR op_lt (pv 1) (pe_callB call_len_seq (by rfl) ml PySem.boot_len (pa_cons (pv 0) pa_nil)) (nomark _)) (pss_one (ps_ret (pe_ix ix_list (pv 0) (pv 1) (fun _ _ => rfl)))) pss_nil)
      (pss_one (ps_ret pe_int)), ?_⟩
    refine ⟨_, rfl, _, rfl, a, _, rfl, .inl hS, _, _, rfl, rfl, _, rfl, ite2 (fun h => ?_) (fun h => ?_)⟩
    · have h1 : k < ns.length := by
        have := of_decide_eq_true h
        rw [List.length_map] at this
        omega
      refine ⟨_, rfl, _, rfl, a, _, _, _, rfl, rfl, hS, atI_nat (v := .int ns[k]) ?_, q _⟩
      rw [List.getElem?_map, List.getElem?_eq_getElem h1]
      rfl
    · exact q 0
def spMixed : Sp := fun vs H Q _ => ∃ (c k : Int), vs = [.int c, .int k] ∧ ∀ r : Int, 0 ≤ r → r < 2147483563 → Q (.int r) H
theorem scMixed : FnScope ["_law_cell", "_law_k", "_law_low"] ["_law_cell", "_law_k"] (defScope sMixed) := ⟨rfl, rfl, rfl, by decide +kernel, rfl, by decide +kernel, by decide +kernel⟩
theorem r_mixed (A : FnAt K mg "_law_mixed" sMixed) : Ready P w K mg base 1 "_law_mixed" ["_law_cell", "_law_k"] spMixed := by
  refine ready_of A (fun _ _ _ _ _ _ us hl => match us, hl with | [_, _], _ => rfl) fun f fd F => ?_
  refine F.ok scMixed (fun vs H Q E h => ?_) (fun cdv A outer s H vs Q E hr h => ?_)
  · obtain ⟨c, k, rfl, _⟩ := h
    rfl
  · obtain ⟨c, k, rfl, q⟩ := h
    refine ⟨_, pss_cons (ps_set (i := 2) scMixed.nd rfl (.inl rfl) (pe_op op_add (pe_op op_mod (pv 0) pe_int) (pe_op op_mul (pe_op op_fdivW (pv 0) pe_int) pe_int)))
      (pss_cons (ps_set (i := 2) scMixed.nd rfl (.inl rfl) (pe_op op_mod (pe_op op_mul (pe_op op_add (pe_op op_add (pv 2) (pe_op op_mul pe_int (pv 1))) pe_int) pe_int) pe_int))
      (pss_cons (ps_set (i := 2) scMixed.nd rfl (.inl rfl) (pe_op op_mod (pe_op op_mul (pv 2) (pe_op op_add (pe_op op_add (pe_op op_fdivN (pv 2) pe_int) pe_int) (pv 1))) pe_int))
      (pss_one (ps_ret (pe_op op_mod (pe_op op_mul (pv 2) (pe_op op_add (pe_op op_fdivN (pv 2) pe_int) pe_int)) pe_int))))), ?_⟩
    refine ⟨_, rfl, _, _, rfl, rfl, (show (0 : Int) < 2147483629 by decide), _, rfl, _, _, rfl, rfl, wide_div (b := 40) (by decide) (by decide) (by decide) (by decide), _, _, rfl, rfl, .inr (by decide), _, _, rfl, rfl, ?_⟩
    generalize c % 2147483629 + c / 2147483629 * 30011 = x1
    refine ⟨_, rfl, _, rfl, _, _, rfl, rfl, .inl (by decide), _, _, rfl, rfl, _, _, rfl, rfl, _, _, rfl, rfl, .inr (by decide), _, _, rfl, rfl, (show (0 : Int) < 2147483629 by decide), ?_⟩
    have a2 := Int.emod_nonneg ((x1 + 69621 * k + 1) * 48271) (by decide : (2147483629 : Int) ≠ 0)
    have b2 := Int.emod_lt_of_pos ((x1 + 69621 * k + 1) * 48271) (by decide : (0 : Int) < 2147483629)
    generalize ((x1 + 69621 * k + 1) * 48271) % 2147483629 = x2 at a2 b2
    refine ⟨_, rfl, _, rfl, _, _, rfl, rfl, ⟨by decide, by decide⟩, _, _, rfl, rfl, _, rfl, _, _, rfl, rfl, _, _, rfl, rfl, .inl ⟨by omega, by omega⟩, _, _, rfl, rfl, (show (0 : Int) < 2147483587 by decide), ?_⟩
    generalize hX : x2 * (x2.fdiv 907 + 16831 + k) = X3
    have a3 := Int.emod_nonneg X3 (by decide : (2147483587 : Int) ≠ 0)
    have b3 := Int.emod_lt_of_pos X3 (by decide : (0 : Int) < 2147483587)
    generalize X3 % 2147483587 = x3 at a3 b3
    refine ⟨_, rfl, _, rfl, _, _, rfl, rfl, ⟨by decide, by decide⟩, _, _, rfl, rfl, _, _, rfl, rfl, .inl ⟨by omega, by omega⟩, _, _, rfl, rfl, (show (0 : Int) < 2147483563 by decide), ?_⟩
    exact q _ (Int.emod_nonneg _ (by decide)) (Int.emod_lt_of_pos _ (by decide))
/-- a source: three numbers at a -/
def Src (H : Hp) (a : Addr) : Prop := ∃ x y z : Int, H a = some (.lst [.int x, .int y, .int z])
def spSource (K : PySem.W.Frag) : Sp := fun vs H Q _ => ∃ (a : Addr) (ns : List Int) (k : Nat), vs = [.ref a, .int (k : Nat)] ∧ SqL K H a (ns.map V.int) ∧ ∀ H' p, Same H H' → H p = none → Src H' p → Q (.ref p) H'
theorem scSource : FnScope ["_law_script", "_law_k", "_law_cell"] ["_law_script", "_law_k"] (defScope sSource) := ⟨rfl, rfl, rfl, by decide +kernel, rfl, by decide +kernel, by decide +kernel⟩
theorem r_source (A : FnAt K mg "_law_source" sSource) (RC : Ready P w K mg base 1 "_law_cell_at" ["_law_script", "_law_k"] (spCellAt K)) (RM : Ready P w K mg base 1 "_law_mixed" ["_law_cell", "_law_k"] spMixed) (ml : mg "len" = none) :
    Ready P w K mg base 2 "_law_source" ["_law_script", "_law_k"] (spSource K) := by
  obtain ⟨f1, fd1, g1, k1, b1, G1⟩ := RC
  obtain ⟨f2, fd2, g2, k2, b2, G2⟩ := RM
  refine ready_of A (fun _ _ _ _ _ _ us hl => match us, hl with | [_, _], _ => rfl) fun f fd F => ?_
  refine F.ok scSource (fun vs H Q E h => ?_) (fun cdv A outer s H vs Q E hr h => ?_)
  · obtain ⟨a, ns, k, rfl, _⟩ := h
    rfl
  · obtain ⟨a, ns, k, rfl, hS, q⟩ := h
    have ix : ∀ e1 e2, PlainIx (.Name e1 e2) := fun _ _ _ _ => rfl
    refine ⟨_, pss_cons (ps_if (pt_cmpR op_lt (pv 1) (pe_callB call_len_seq (by rfl) ml PySem.boot_len (pa_cons (pv 0) pa_nil)) (nomark _))
        (pss_one (ps_ret (pe_lst (pa_cons (pe_ix ix_list (pv 0) (pv 1) (fun _ _ => rfl)) (pa_cons (pe_ix ix_list (pv 0) (pv 1) (fun _ _ => rfl)) (pa_cons pe_int pa_nil)))))) pss_nil)
      (pss_cons (ps_set (i := 2) scSource.nd rfl (.inl rfl) (pe_call G2 hr (by rfl) g2 k2 b2 .nil pass0 (pa_cons (pe_call G1 hr (by rfl) g1 k1 b1 .nil pass0 (pa_cons (pv 0) (pa_cons pe_int pa_nil))) (pa_cons (pe_op op_add pe_int (pv 1)) pa_nil))))
      (pss_one (ps_ret (pe_lst (pa_cons (pv 2) (pa_cons (pv 2) (pa_cons pe_int pa_nil))))))), ?_⟩
    refine ⟨_, rfl, _, rfl, a, _, rfl, .inl hS, _, _, rfl, rfl, _, rfl, ite2 (fun h => ?_) (fun h => ?_)⟩
    · have h1 : k < ns.length := by
        have := of_decide_eq_true h
        rw [List.length_map] at this
        omega
      have g : (ns.map V.int)[k]? = some (.int ns[k]) := by
        rw [List.getElem?_map, List.getElem?_eq_getElem h1]
        rfl
      refine ⟨_, rfl, _, rfl, a, _, _, _, rfl, rfl, hS, atI_nat g, _, rfl, _, rfl, a, _, _, _, rfl, rfl, hS, atI_nat g, (by show 3 ≤ sizeLine; decide), fun l hl => ?_⟩
      exact q _ l (same_new hl) hl ⟨_, _, _, upd_same⟩
    · refine ⟨_, rfl, a, ns, 0, rfl, hS, fun x => ⟨_, rfl, _, _, rfl, rfl, x, _, rfl, fun r _ _ => ?_⟩⟩
      refine ⟨_, rfl, _, rfl, (by show 3 ≤ sizeLine; decide), fun l hl => ?_⟩
      exact q _ l (same_new hl) hl ⟨_, _, _, upd_same⟩
def spNext : Sp := fun vs H Q _ => ∃ (a : Addr) (m : Nat) (x y z : Int), vs = [.ref a, .int (m : Nat)] ∧ 1 ≤ m ∧ m ≤ 100000 ∧ H a = some (.lst [.int x, .int y, .int z]) ∧
  ∀ (r : Nat) (x' z' : Int), r < m → Q (.int (r : Nat)) (upd H a (.lst [.int x', .int y, .int z']))
theorem scNext : FnScope ["_law_source_here", "_law_many", "_law_found"] ["_law_source_here", "_law_many"] (defScope sNext) := ⟨rfl, rfl, rfl, by decide +kernel, rfl, by decide +kernel, by decide +kernel⟩
theorem r_next (A : FnAt K mg "_law_next" sNext) (RM : Ready P w K mg base 1 "_law_mixed" ["_law_cell", "_law_k"] spMixed) : Ready P w K mg base 2 "_law_next" ["_law_source_here", "_law_many"] spNext := by
  obtain ⟨f2, fd2, g2, k2, b2, G2⟩ := RM
  refine ready_of A (fun _ _ _ _ _ _ us hl => match us, hl with | [_, _], _ => rfl) fun f fd F => ?_
  refine F.ok scNext (fun vs H Q E h => ?_) (fun cdv A outer s H vs Q E hr h => ?_)
  · obtain ⟨a, m, x, y, z, rfl, _⟩ := h
    rfl
  · obtain ⟨a, m, x, y, z, rfl, hm1, hm2, hS, q⟩ := h
    refine ⟨_, pss_cons (ps_if (pt_cmpR op_ge (pe_ix ix_list (pv 0) pe_int (fun _ _ => rfl)) (pe_op op_pow pe_int pe_int) (nomark _))
        (pss_cons (ps_set (i := 2) scNext.nd rfl (.inl rfl) (pe_op op_mod (pe_ix ix_list (pv 0) pe_int (fun _ _ => rfl)) (pv 1)))
          (pss_cons (ps_asg (pe_op op_fdivN (pe_ix ix_list (pv 0) pe_int (fun _ _ => rfl)) (pv 1)) (pg_sub (pv 0) pe_int set_list))
          (pss_one (ps_ret (pv 2))))) pss_nil)
      (pss_cons (ps_asg (pe_op op_add (pe_ix ix_list (pv 0) pe_int (fun _ _ => rfl)) pe_int) (pg_sub (pv 0) pe_int set_list))
      (pss_one (ps_ret (pe_op op_mod (pe_call G2 hr (by rfl) g2 k2 b2 .nil pass0 (pa_cons (pe_ix ix_list (pv 0) pe_int (fun _ _ => rfl)) (pa_cons (pe_ix ix_list (pv 0) pe_int (fun _ _ => rfl)) pa_nil))) (pv 1))))), ?_⟩
    have hm0 : (0 : Int) < (m : Int) := by omega
    refine ⟨_, rfl, a, _, _, .int x, rfl, rfl, SqL.of hS, rfl, _, _, rfl, rfl, ⟨by decide, by decide, by decide⟩, _, _, rfl, rfl, _, rfl, ite2 (fun h => ?_) (fun h => ?_)⟩
    · refine ⟨_, rfl, a, _, _, .int x, rfl, rfl, SqL.of hS, rfl, _, rfl, _, _, rfl, rfl, hm0, ?_⟩
      refine ⟨_, rfl, a, _, _, .int x, rfl, rfl, SqL.of hS, rfl, _, rfl, _, _, rfl, rfl, ⟨by omega, by omega⟩, _, rfl, a, _, _, 0, rfl, rfl, hS, rfl, ?_⟩
      have h1 := Int.emod_nonneg x (by omega : (m : Int) ≠ 0)
      have h2 := Int.emod_lt_of_pos x hm0
      have e : ((x % (m : Int)).toNat : Int) = x % (m : Int) := Int.toNat_of_nonneg h1
      refine ⟨_, rfl, ?_⟩
      have := q (x % (m : Int)).toNat (x.fdiv m) z (by omega)
      rw [e] at this
      exact this
    · refine ⟨_, rfl, a, _, _, .int z, rfl, rfl, SqL.of hS, rfl, _, _, rfl, rfl, _, rfl, a, _, _, 2, rfl, rfl, hS, rfl, ?_⟩
      refine ⟨_, rfl, a, _, _, .int y, rfl, rfl, SqL.of upd_same, rfl, _, rfl, a, _, _, .int (z + 1), rfl, rfl, SqL.of upd_same, rfl, y, _, rfl, fun r _ _ => ?_⟩
      refine ⟨_, rfl, _, _, rfl, rfl, hm0, ?_⟩
      have h1 := Int.emod_nonneg r (by omega : (m : Int) ≠ 0)
      have h2 := Int.emod_lt_of_pos r hm0
      have e : ((r % (m : Int)).toNat : Int) = r % (m : Int) := Int.toNat_of_nonneg h1
      have := q (r % (m : Int)).toNat x (z + 1) (by omega)
      rw [e] at this
      exact this
end
end FL


namespace FL
open PySem PySem.Spec PyProof.Rows L2
section
variable {P : Program} {w : World} {K : PySem.W.Frag} {mg : Str → Option Value} {base : Heap}
/-- only the source at a has changed, and new things came -/
structure Drawn (a : Addr) (H H' : Hp) : Prop where
  old : ∀ b o, b ≠ a → H b = some o → H' b = some o
  src : Src H' a
theorem Drawn.refl {a : Addr} {H : Hp} (h : Src H a) : Drawn a H H := ⟨fun _ _ _ h => h, h⟩
theorem Drawn.trans {a : Addr} {H H1 H2 : Hp} (x : Drawn a H H1) (y : Drawn a H1 H2) : Drawn a H H2 := ⟨fun b o n h => y.old b o n (x.old b o n h), y.src⟩
theorem Drawn.same {a : Addr} {H H1 H2 : Hp} (x : Drawn a H H1) (s : Same H1 H2) : Drawn a H H2 :=
  ⟨fun b o n h => s b o (x.old b o n h), let ⟨p, q, r, e⟩ := x.src; ⟨p, q, r, s _ _ e⟩⟩
theorem drawn_upd {a : Addr} {H : Hp} {x y z : Int} : Drawn a H (upd H a (.lst [.int x, .int y, .int z])) := ⟨fun b o n h => by rw [upd_ne n]; exact h, ⟨x, y, z, upd_same⟩⟩
theorem drawn_set {a p : Addr} {H H1 : Hp} {o : HO} (x : Drawn a H H1) (h : H p = none) (n : a ≠ p) : Drawn a H (upd H1 p o) :=
  ⟨fun b u nb e => by rw [upd_ne (ne_of_none e h)]; exact x.old b u nb e, let ⟨u, v, r, e⟩ := x.src; ⟨u, v, r, by rw [upd_ne n]; exact e⟩⟩
theorem joinL_nil : ∀ L : List (List Nat), TL.joinL [] L = L.flatten
  | [] => rfl
  | [p] => by simp [TL.joinL]
  | p :: q :: r => by
    have := joinL_nil (q :: r)
    show p ++ ([] ++ TL.joinL [] (q :: r)) = _
    rw [List.nil_append, this]
    rfl
theorem join_codes (ys : List Str) : (Txt.join ("" : Str) ys).cps.toList = (ys.map fun y => y.cps.toList).flatten := by
  have e : TL.tl ("" : Str) = [] := by decide +kernel
  have h := TL.tl_join ("" : Str) ys
  rw [← TL.join_eq, e, joinL_nil] at h
  exact h
theorem sum_one {ys : List Str} (h : ∀ t ∈ ys, t.length ≤ 1) : (ys.map (·.length)).sum ≤ ys.length := by
  induction ys with
  | nil => exact Nat.le_refl _
  | cons y r ih =>
    have h1 := h y (List.mem_cons_self ..)
    have h2 := ih fun t ht => h t (List.mem_cons_of_mem _ ht)
    rw [List.map_cons, List.sum_cons, List.length_cons]
    omega
theorem codes_one (c : Nat) : (⟨#[c]⟩ : Str).cps.toList = [c] := rfl
theorem flat_ones {ys : List Str} {l : List Nat} (h : ∀ t ∈ ys, ∃ c ∈ l, t = ⟨#[c]⟩) : (∀ c ∈ (ys.map fun y => y.cps.toList).flatten, c ∈ l) ∧ ((ys.map fun y => y.cps.toList).flatten).length = ys.length := by
  induction ys with
  | nil => exact ⟨fun c hc => by simp at hc, rfl⟩
  | cons y r ih =>
    obtain ⟨i1, i2⟩ := ih fun t ht => h t (List.mem_cons_of_mem _ ht)
    obtain ⟨c, hc, rfl⟩ := h y (List.mem_cons_self ..)
    rw [List.map_cons, List.flatten_cons]
    show (∀ d ∈ [c] ++ _, d ∈ l) ∧ ([c] ++ _).length = _
    refine ⟨fun d hd => ?_, by rw [List.length_append, i2, List.length_cons]; simp; omega⟩
    rcases List.mem_append.mp hd with hd | hd
    · rw [List.mem_singleton.mp hd]; exact hc
    · exact i1 d hd
def spSigns : Sp := fun vs H Q _ => ∃ (a : Addr) (s : Str) (m : Nat), vs = [.ref a, .str s, .int (m : Nat)] ∧ 1 ≤ s.length ∧ s.length ≤ 10000 ∧ m ≤ 10000 ∧ Src H a ∧
  ∀ (t : Str) (H' : Hp), (∀ c ∈ t.cps.toList, c ∈ s.cps.toList) → t.length = m → Drawn a H H' → Q (.str t) H'
theorem scSigns : FnScope ["_law_source_here", "_law_signs_here", "_law_many", "_law_k"] ["_law_source_here", "_law_signs_here", "_law_many"] (defScope sSigns) := ⟨rfl, rfl, rfl, by decide +kernel, rfl, by decide +kernel, by decide +kernel⟩
theorem r_signs (A : FnAt K mg "_law_signs" sSigns) (RN : Ready P w K mg base 2 "_law_next" ["_law_source_here", "_law_many"] spNext) (ml : mg "len" = none) (mr : mg "range" = none) :
    Ready P w K mg base 3 "_law_signs" ["_law_source_here", "_law_signs_here", "_law_many"] spSigns := by
  obtain ⟨f2, fd2, g2, k2, b2, G2⟩ := RN
  refine ready_of A (fun _ _ _ _ _ _ us hl => match us, hl with | [_, _, _], _ => rfl) fun f fd F => ?_
  refine F.ok scSigns (fun vs H Q E h => ?_) (fun cdv A outer s H vs Q E hr h => ?_)
  · obtain ⟨a, s, m, rfl, _⟩ := h
    rfl
  · obtain ⟨a, z, m, rfl, hz1, hz2, hm, hS, q⟩ := h
    refine ⟨_, pss_one (ps_ret (pe_join pe_str (pe_lc (own := [("_law_k", 3)]) (g := gName 3) (tt := tYes) (by rfl) scSigns.nd (pi_range1 (by rfl) mr (pa_cons (pv 2) pa_nil))
      (blkOk_by (own := [("_law_k", 3)]) (N := ["_law_source_here", "_law_signs_here", "_law_many", "_law_k"]) (sc := defScope sSigns) (by decide +kernel)) (fun _ _ _ _ _ => pg_name (i := 3) scSigns.nd rfl (Or.inl rfl)) (fun _ _ _ _ _ => pts_nil)
      (fun _ _ _ _ _ => pe_item_str (pv 1) (pe_call G2 hr (by rfl) g2 k2 b2 .nil pass0 (pa_cons (pv 0) (pa_cons (pe_callB call_len_str (by rfl) ml PySem.boot_len (pa_cons (pv 1) pa_nil)) pa_nil))) (fun _ _ => rfl))))), ?_⟩
    refine ⟨⟨_, rfl⟩, _, rfl, m, rfl, by omega, by omega, fun D hD => ?_⟩
    have hDa : a ≠ D := fun e => by
      obtain ⟨x, y, u, hx⟩ := hS
      rw [e, hD] at hx
      cases hx
    rw [Int.toNat_natCast]
    refine lc_it walk_range (fun i H' => Drawn a H H' ∧ ∃ ys : List Str, H' D = some (.lst (ys.map V.str)) ∧ ys.length = i ∧ ∀ t ∈ ys, ∃ c ∈ z.cps.toList, t = ⟨#[c]⟩) ⟨drawn_set (Drawn.refl hS) hD hDa, [], upd_same, rfl, fun _ h => by simp at h⟩ (fun _ _ _ _ => trivial) (fun i x H1 H2 hi hp hy => ?_) (fun H1 hp => ?_)
    · obtain ⟨rfl, rfl⟩ := hy
      obtain ⟨dr, ys, hd, hy1, hy2⟩ := hp
      obtain ⟨x, y, u, hx⟩ := dr.src
      refine ⟨rfl, ?_⟩
      unfold tYes
      refine iteT ?_
      refine ⟨_, rfl, _, rfl, _, rfl, z, rfl, Nat.le_of_lt (szl hz2), a, z.length, x, y, u, rfl, hz1, by omega, hx, fun r x' z' hr' => ?_⟩
      have hc : z.cps[r]? = some (z.cps[r]'hr') := Array.getElem?_eq_getElem hr'
      refine ⟨z, r, _, rfl, rfl, by omega, by omega, by omega, by rw [Int.toNat_natCast]; exact hc, ?_⟩
      have hd' : (upd H2 a (.lst [.int x', .int y, .int z'])) D = some (.lst (ys.map V.str)) := by rw [upd_ne hDa.symm]; exact hd
      refine ⟨_, hd', ?_, ?_, ys ++ [⟨#[z.cps[r]'hr']⟩], ?_, ?_, ?_⟩
      · rw [List.length_map]
        exact szl (by omega)
      · exact drawn_set (dr.trans drawn_upd) hD hDa
      · rw [upd_same, List.map_append]
        rfl
      · rw [List.length_append, hy1]
        rfl
      · intro t ht
        rcases List.mem_append.mp ht with ht | ht
        · exact hy2 t ht
        · exact ⟨_, Array.mem_def.mp (Array.getElem_mem hr'), List.mem_singleton.mp ht⟩
    · obtain ⟨dr, ys, hd, hy1, hy2⟩ := hp
      have h3 := sum_one (ys := ys) fun t ht => by
        obtain ⟨c, _, rfl⟩ := hy2 t ht
        exact Nat.le_refl 1
      obtain ⟨h4, h5⟩ := flat_ones hy2
      rw [← join_codes] at h4 h5
      have e0 : ("" : Str).length = 0 := by decide +kernel
      refine ⟨("" : Str), D, ys, rfl, rfl, .inl (SqL.of hd), ?_, q _ H1 h4 ?_ dr⟩
      · rw [e0]
        omega
      · rw [← len_cps, h5, hy1]
end
end FL


namespace FL
open PySem PySem.Spec PyProof.Rows L2
/-! ### the class of a caught error that has a dict of its own -/
section
open PySem.W PySem.Calls
theorem cls_found {K : Frag} {D : Addr} {oo : Option Obj} (G : ExcC K D) : findObj K D oo "__class__" = some (.bind (.builtin "getset_descriptor.__get__") (.builtin "object.__class__")) := by
  obtain ⟨cd, hc, _⟩ := any_some G.hd
  unfold findObj
  rw [hc, Option.bind_some, G.ha, Option.bind_some]
  simp [G.hn, G.ht]
theorem cls_of_exc {prog : Program} {w : World} {A : Around} {E : Value → Shared → Prop} {s : Shared} {K : Frag} {x D : Addr} {ox : Obj} {oo : Option Obj} {Q : Option Value → Shared → Prop}
    (G : ExcC K D) (Y : K.In s.heap) (J : InstAt s.heap x ox D oo) (q : Q (some (.ref D)) { s with toks := s.toks + 1 }) : wpAny (model prog w) A (getAttr? (.ref x) "__class__") Q E s := by
  have found := cls_found (oo := oo) G
  obtain ⟨hh, gg, dd, tt, oos⟩ := s
  have t0 : Looks (model prog w) hh (typeOf (.ref x)) (.ref D) := J.type
  have t1 := looks_findIn (M := model prog w) Y G.hg
  have t2 := looks_findIn (M := model prog w) Y G.hk
  have t3 := looks_find (M := model prog w) Y J found
  have isB : Looks (model prog w) hh (isInstance (.ref x) (.type "BaseException")) true := t0.andThen (looks_subIn Y G.hs)
  have n0 : (false && onTheHeap (Value.builtin "BaseException.__getattribute__")) = false := rfl
  have n1 : (onTheHeap (Value.ref D) && Value.builtin "BaseException.__getattribute__" == Value.builtin "object.__getattribute__") = false := by
    rw [show (Value.builtin "BaseException.__getattribute__" == Value.builtin "object.__getattribute__") = false by decide +kernel]
    rfl
  unfold getAttr? getAttrBy? getAttrBy
  refine wpAny_bind (wpAny_mkText (wpAny_bind (wpAny_attempt (wpAny_holding (wpAny_bind (t0.at (wpAny_bind (t1.at ?_))))))))
  refine (show wpAny (model prog w) A (if (onTheHeap (Value.ref D) && Value.builtin "BaseException.__getattribute__" == Value.builtin "object.__getattribute__") = true then _ else _) _ _ _ from ?_)
  rw [n1, if_neg Bool.false_ne_true]
  unfold getAttrByItsOwn hookBefore
  refine wpAny_bind ?_
  rw [if_pos (show onTheHeap (Value.ref D) = true from rfl)]
  refine t2.at (wpAny_bind (wpAny_attempt (wpAny_holding ?_)))
  unfold callGetattribute
  rw [n0, if_neg Bool.false_ne_true]
  unfold boundAndCalled
  rw [PySem.F.excAttr_ValueError.ga.bind (.ref x)]
  refine wpAny_bind (wpAny_pure ?_)
  refine (show wpAny (model prog w) _ (call (.builtin "BaseException.__getattribute__") [.ref x, .str "__class__" tt]) _ _ _ from ?_)
  refine wpAny_call (codeAny_call_builtin PySem.F.excAttr_ValueError.ga.plain PySem.F.entry_bexc_ga ?_)
  refine @check_slot (model prog w) _ _ ⟨hh, gg, dd, tt + 1, oos⟩ "BaseException.__getattribute__" "BaseException" "__getattribute__" (.ref x) [.str "__class__" tt] [] _ (by decide +kernel) (by decide +kernel) isB (PySem.F.args_bexc_ga (.ref x) (.str "__class__" tt)) ?_
  unfold Builtin.«object.__getattribute__»
  refine wpAny_bind (wpAny_of_eq (a := ((Value.ref x : Value), [Value.str "__class__" tt])) (by first | rfl | (simp only [slotArgs]; rfl)) ?_)
  refine wpAny_bind (wpAny_pure (wpAny_bind (t0.at (wpAny_bind (t3.at ?_)))))
  refine (show wpAny (model prog w) _ (holding [Value.builtin "object.__class__"] (call (.builtin "getset_descriptor.__get__") [.builtin "object.__class__", .ref x, .ref D]) >>= ret) _ _ _ from ?_)
  refine wpAny_bind (wpAny_holding (wpAny_call (class_get (s := ⟨hh, gg, dd, tt + 1, oos⟩) (ox := ox) (od := oo) Y J G.hm (wpAny_pure ?_))))
  refine (show wpAny (model prog w) _ (handedOut (.ref D)) _ _ _ from ?_)
  rw [handedOut_of (v := .ref D) rfl]
  first
    | exact wpAny_pure (wpAny_pure q)
    | exact wpAny_pure q
    | exact wpAny_pure (wpAny_bind (wpAny_pure (wpAny_pure q)))
/-- an own class at D stands in the written part as a class -/
theorem cls_there {K : Frag} {D : Addr} (h : hasDictIn K D = true) : ∃ c d' cd sl, K.lookup D = some ⟨c, d', .cls cd, sl⟩ := by
  obtain ⟨cd, hc, _⟩ := any_some h
  unfold clsIn at hc
  split at hc
  · rename_i c' d' cd' sl' ho
    exact ⟨c', d', cd', sl', ho⟩
  · cases hc
theorem kitx_excD {K : Frag} {x D : Addr} {ox : Obj} {oo : Option Obj} (G : ExcC K D) : KitX K (.ref x) (.ref D) (fun h => InstAt h x ox D oo) where
  ty := fun _ _ _ J => J.type
  it := fun _ _ Y _ => by
    obtain ⟨c', d', cd', sl', ho⟩ := cls_there G.hd
    intro A' Q' E' s' k q
    unfold isType loadHead
    exact wpAny_bind (wpAny_loadPart (k _ _ (Y _ _ ho)) (wpAny_pure q))
  ne := fun h tp dd its n sl Y htp => by
    obtain ⟨c', d', cd', sl', ho⟩ := cls_there G.hd
    refine Bool.eq_false_iff.mpr fun z => ?_
    have e : D = tp := Value.ref.inj (beq_iff_eq.mp z)
    subst e
    have z2 := (Y _ _ ho).symm.trans htp
    cases z2
  ca := fun Y J k => cls_of_exc G Y J k
end
theorem kit_same {K : PySem.W.Frag} {C : Addr} : PySem.W.kitOne K (.ref C) (.ref C) = some true := by
  unfold PySem.W.kitOne
  rw [if_pos (beq_self_eq_true _)]
theorem kit_own {K : PySem.W.Frag} {C D : Addr} {b : Bool} (n : ((Value.ref C) == (Value.ref D)) = false) (t : PySem.W.typeIn K (.ref D) = some (.type "type")) (d : PySem.W.hasDictIn K D = true) (s : PySem.W.subIn K (.ref C) (.ref D) = some b) : PySem.W.kitOne K (.ref C) (.ref D) = some b := by
  obtain ⟨cd, hc, _⟩ := PySem.W.any_some d
  unfold PySem.W.kitOne
  rw [if_neg (by rw [n]; exact Bool.false_ne_true)]
  show (if ((PySem.W.clsIn K D).isSome && PySem.W.typeIn K (.ref D) == some (.type "type")) = true then PySem.W.subIn K (.ref C) (.ref D) else none) = some b
  rw [hc, t, if_pos (by rfl)]
  exact s
/-- isinstance(e, c), e the caught error at a, its own dict at dd -/
def rIsD (K : PySem.W.Frag) (D a : Addr) (dd : Addr) : List V → Hp → VK → Prop := fun xs H Q => ∃ (c : V) (cv : Value) (b : Bool) (fs : List (Str × V)), xs = [.ref a, c] ∧ H dd = some (.xd fs) ∧ (∀ u, RelV c u → u = cv) ∧ PySem.W.kitOne K (.ref D) cv = some b ∧ Q (.bl b) H
theorem call_isD {X : Cx} {a D dd : Addr} {oe : Obj} {pn : List (Addr × Obj)} (G : ExcC X.K D) (hz : Zc (.ref D) (some dd) oe) (hf : ∃ vs, oe.data = .fields vs) : CallR (X.suite a ((a, oe) :: pn)) (.builtin "isinstance") (rIsD X.K D a dd) := by
  intro pins s σ H xs us Q I r h
  obtain ⟨c, cv, b, fs, rfl, hd, hcv, e, q⟩ := h
  obtain ⟨u1, u2, rfl, rx, rt⟩ := vals2 r
  cases rx
  have ec := hcv _ rt
  subst ec
  obtain ⟨hget, _⟩ := I.pin (a, oe) (List.mem_append.mpr (.inl List.mem_cons_self))
  obtain ⟨vs, hv⟩ := hf
  have hx : ObjOk X.prog X.w H s.heap dd (.xd fs) := I.hok dd _ hd
  obtain ⟨mA, hns, _⟩ := hx
  obtain ⟨od, ho, _⟩ := lookIn_ns hns
  have J : PySem.W.InstAt s.heap a oe D (some od) := ⟨hget, hz.1, by unfold PySem.W.notCls; rw [hv] <;> rfl, by rw [hz.2]; exact ho⟩
  exact PySem.W.kia_one (kitx_excD G) I.kIn J e (fun z => nomatch z) fun tk => ⟨.bl b, H, I.kept (t' := tk) fun _ _ z => z, rfl, q⟩
/-- the same, where it is told only later which class and which dict the caught error has -/
def rIsG (K : PySem.W.Frag) (D a : Addr) (cls : Value) (d : Option Addr) : List V → Hp → VK → Prop := fun xs H Q => cls = .ref D ∧ ∃ dd, d = some dd ∧ rIsD K D a dd xs H Q
theorem call_isG {X : Cx} {a D : Addr} {cls : Value} {d : Option Addr} {oe : Obj} {pn : List (Addr × Obj)} (G : ExcC X.K D) (hz : Zc cls d oe) (hf : ∃ vs, oe.data = .fields vs) : CallR (X.suite a ((a, oe) :: pn)) (.builtin "isinstance") (rIsG X.K D a cls d) := by
  intro pins s σ H xs us Q I r h
  obtain ⟨rfl, dd, rfl, h⟩ := h
  exact call_isD G hz hf pins s σ H xs us Q I r h
/-! ### C.__init__(self, ..), C an own class -/
structure ClsFn (K : PySem.W.Frag) (C fI : Addr) : Prop where
  ga : PySem.W.specialIn K (.ref C) "__getattribute__" = some (some (.builtin "type.__getattribute__"))
  rd : PySem.W.readsIn K C (.type "type") = true
  at_ : PySem.W.findCls K (.ref C) (.type "type") "__init__" = some (.val (.ref fI))
  kp : PySem.W.keepIn K (.ref fI) = true
theorem pe_cinit {X : Cx} {x : Str} {C fI : Addr} {CX : CXT} {k : Nat} {fd : FuncData} {ps : List Str} {sp : Sp} {ds : List Value} {dvs : List V} {E : XK} {e : Expr} {es : List Expr} {t : TA} {p1 p2 pos : Pos} {pl : Sem Bool} (T : ClsFn X.K C fI) (F : FnOk X.prog X.w X.K X.mg X.base CX k fI fd ps sp) (hr : Room k X.A)
    (hg : Gl X x) (hm : X.mg x = some (.ref C)) (hb : Binds X.K fd ps ds) (hd : Vals dvs ds) (hx : Passes CX X E) (ha : PA X (e :: es) t)
    (hc : eval (.Call (.Attribute (.Name x p1) "__init__" p2) (e :: es) [] pos) X.env = (do
      let ov ← eval (.Name x p1) X.env
      standAt p2.atName
      let (f, first) ← holding [ov] (getMethod ov "__init__" pl)
      callWith pos f first (backTo pos (starEach (e :: es) X.env)) (backToKw pos (keywordEach [] X.env))) := by rfl)
    (hdb : (x == ("__debug__" : Str)) = false := by decide) (he : starEach (e :: es) X.env = (false, eval e X.env) :: starEach es X.env := by rfl) (hpl : (backTo pos (starEach es X.env)).any (·.1) = false := by rfl) :
    PE X (.Call (.Attribute (.Name x p1) "__init__" p2) (e :: es) [] pos) (tCall sp dvs E t) := by
  refine ⟨fun pins s σ H Q I h => ?_⟩
  refine PySem.W.methodCall_KW (ld_glob I hg hm ?_ hdb) hc
  refine PySem.W.method_cls I.kIn T.ga (ClX.getcval_ok (v := .ref fI) (u := .ref fI) I ⟨T.rd, T.ga⟩ ⟨T.at_, rfl⟩ fun s1 I1 => ?_)
  refine (show wpAny (model X.prog X.w) X.A (callWith pos (.ref fI) [] (backTo pos (starEach (e :: es) X.env)) []) _ _ _ from ?_)
  refine PySem.W.callWith_K (h₀ := X.base) I.ok.mod.kin T.kp (thn (ha.run pos pins s1 σ H _ I1 h) fun us s2 ⟨vs, H1, I2, r, q⟩ => ⟨I2.kIn, ?_⟩) he hpl
  exact run_fn F hr hb hd hx I2 r q
section
variable {P : Program} {w : World} {K : PySem.W.Frag} {mg : Str → Option Value} {base : Heap}
abbrev sLE : Stmt := inClass cLetterError 0
abbrev FunA (K : PySem.W.Frag) (qual : Str) (st : Stmt) (dvs : List V) (f : Addr) (fd : FuncData) : Prop := FunD K "__init__" qual (defArgs st) (defBody st) (defScope st) dvs [] f fd
def spLE (K : PySem.W.Frag) : Sp := fun vs H Q _ => ∃ (a C : Addr) (v : V), vs = [.ref a, v] ∧ OexC K C ∧ H a = some (exo a C none) ∧ Q .non H
theorem scLE : FnScope ["self", "why"] ["self", "why"] (defScope sLE) := ⟨rfl, rfl, rfl, by decide +kernel, rfl, by decide +kernel, by decide +kernel⟩
theorem ok_LE {f : Addr} {fd : FuncData} (F : FunA K "LetterError.__init__" sLE [.str ""] f fd) (mV : mg "ValueError" = none) (vV : PySem.W.findCls K (.type "ValueError") (.type "type") "__init__" = some (.val (.builtin "ValueError.__init__"))) :
    FnOk P w K mg base CX0 1 f fd ["self", "why"] (spLE K) := by
  refine FunD.ok F scLE (fun vs H Q E h => ?_) (fun cdv A outer s H vs Q E hr h => ?_)
  · obtain ⟨a, C, v, rfl, _⟩ := h
    rfl
  · obtain ⟨a, C, v, rfl, T, hH, q⟩ := h
    refine ⟨_, pss_one (ps_expr (pe_veinit (by rfl) mV vV (pa_cons (pv 0) (pa_cons (pv 1) pa_nil)))), ?_⟩
    exact ⟨_, rfl, _, rfl, a, C, [v], rfl, by show 1 ≤ 1000; decide, T, hH, q⟩
theorem bind_LE {f : Addr} {fd : FuncData} (F : FunA K "LetterError.__init__" sLE [.str ""] f fd) : ∃ ds, Vals [] ds ∧ Binds K fd ["self", "why"] ds :=
  FunD.binds1 (ps := ["self", "why"]) F 2 1 (by simp) rfl fun T kV doc pm an cdv ct us its hu hi => match us, its, hu, hi with | [_, _], [_], _, _ => ⟨_, rfl, rfl⟩
/-- C(why, y): a new error of the class at C, its field set -/
def spFld (C : Addr) (fld : Str) : Sp := fun vs H Q _ => ∃ (a : Addr) (v y : V), vs = [.ref a, v, y] ∧ H a = some (exo a C none) ∧ ∀ dx, H dx = none → dx ≠ a → Q .non (upd (upd H dx (exd dx [(fld, y)])) a (exo a C (some dx)))
/-- what a raise of C(..) asks and gives -/
structure MkFld (P : Program) (w : World) (K : PySem.W.Frag) (mg : Str → Option Value) (base : Heap) (x : Str) (C : Addr) (fld : Str) : Prop where
  T : OexC K C
  g : mg x = some (.ref C)
  init : ∃ fI fd, PySem.W.findIn K (.ref C) "__init__" = some (some (.ref fI)) ∧ PySem.W.typeIn K (.ref fI) = some (.type "function") ∧ FnOk P w K mg base CX0 2 fI fd ["self", "why", fld] (spFld C fld) ∧
    (∃ ds, Vals [] ds ∧ Binds K fd ["self", "why", fld] ds) ∧ ∃ ds, Vals [.int 0] ds ∧ Binds K fd ["self", "why", fld] ds
/-- the leaf: what the raise gives -/
theorem mk_leaf {C : Addr} {fld : Str} {v y : V} {vs dvs : List V} {H1 : Hp} {Q : XK} (hv : vs ++ dvs = [v, y]) (hl : vs.length ≤ 2) (h : ∀ (d : Addr) (H' : Hp), Same H1 H' → H1 d = none → H' d = some (.xd [(fld, y)]) → Q (.ref C) (some d) H') :
    vs.length ≤ 1000 ∧ ∀ a, H1 a = none → spFld C fld (.ref a :: (vs ++ dvs)) (upd H1 a (exo a C none))
      (fun v H2 => v = .non ∧ ∃ (d : Addr) (fs : List (Str × V)), H2 a = some (exo a C (some d)) ∧ H2 d = some (exd d fs) ∧ H1 d = none ∧ Q (.ref C) (some d) (upd (del H2 a) d (.xd fs))) (fun _ _ _ => False) := by
  refine ⟨by omega, fun a na => ⟨a, v, y, by rw [hv], upd_same, fun dx n1 n2 => ?_⟩⟩
  rw [upd_ne n2] at n1
  refine ⟨rfl, dx, [(fld, y)], upd_same, by rw [upd_ne n2, upd_same], n1, h dx _ (fun b o e => ?_) n1 upd_same⟩
  have hb1 : b ≠ a := ne_of_none e na
  have hb2 : b ≠ dx := ne_of_none e n1
  rw [upd_ne hb2, del_ne hb1, upd_ne hb1, upd_ne hb2, upd_ne hb1]
  exact e
theorem pmk_fld {X : Cx} {x fld : Str} {C : Addr} {e : Expr} {es : List Expr} {ta : TA} {p pos : Pos} (M : MkFld X.prog X.w X.K X.mg X.base x C fld) (hr : Room (2 + 1) X.A) (hg : Gl X x) (ha : PA X (e :: es) ta) (dvs : List V) (hdv : dvs = [] ∨ dvs = [.int 0])
    (hdb : (x == ("__debug__" : Str)) = false := by decide) (he : starEach (e :: es) X.env = (false, eval e X.env) :: starEach es X.env := by rfl) (hpl : (backTo pos (starEach es X.env)).any (·.1) = false := by rfl) :
    PMk X (.Call (.Name x p) (e :: es) [] pos) (tMkO C (spFld C fld) dvs ta) := by
  obtain ⟨fI, fd, iC, tI, F1, ⟨ds1, v1, b1⟩, ⟨ds2, v2, b2⟩⟩ := M.init
  rcases hdv with rfl | rfl
  · exact pmk_oex M.T iC tI F1 hr b1 v1 pass0 hg M.g ha hdb he hpl
  · exact pmk_oex M.T iC tI F1 hr b2 v2 pass0 hg M.g ha hdb he hpl
end
end FL


namespace FL
open PySem PySem.Spec PyProof.Rows L2
/-! ### texts as lists of signs -/
def mk (l : List Nat) : Str := ⟨l.toArray⟩
theorem mk_codes (l : List Nat) : (mk l).cps.toList = l := by simp [mk]
theorem mk_of (z : Str) : mk z.cps.toList = z := TL.mk_tl z
theorem mk_eq {z : Str} {l : List Nat} (h : z.cps.toList = l) : z = mk l := by rw [← h, mk_of]
theorem mk_inj {l m : List Nat} (h : mk l = mk m) : l = m := by rw [← mk_codes l, h, mk_codes]
theorem mk_len (l : List Nat) : (mk l).length = l.length := by simp [mk, Str.length]
theorem mk_one (c : Nat) : mk [c] = ⟨#[c]⟩ := rfl
theorem mk_app (l m : List Nat) : mk l ++ mk m = mk (l ++ m) := by
  have h : (mk l ++ mk m).cps.toList = l ++ m := by
    have := TL.tl_append (mk l) (mk m)
    show (mk l ++ mk m).cps.toList = l ++ m
    rw [show (mk l ++ mk m).cps.toList = (mk l).cps.toList ++ (mk m).cps.toList from this, mk_codes, mk_codes]
  exact mk_eq h
/-! ### slices -/
theorem cutS_one (z : Str) (p : Nat) : (cutS z (some (p : Nat)) (some ((p + 1 : Nat) : Int))).cps.toList = (z.cps.toList.drop p).take 1 := by
  unfold cutS
  rw [HT.sIx_nat, HT.sIx_nat]
  show (List.take _ (List.drop _ _)) = _
  have hl := len_cps z
  by_cases h : p < z.length
  · rw [Nat.min_eq_left (by omega), Nat.min_eq_left (by omega), show p + 1 - p = 1 by omega]
  · rw [Nat.min_eq_right (by omega), Nat.min_eq_right (by omega), Nat.sub_self, List.take_zero, List.drop_eq_nil_of_le (by omega)]
    rfl
theorem cutS_nat (z : Str) {i j : Nat} (h1 : i ≤ z.length) (h2 : j ≤ z.length) : (cutS z (some (i : Nat)) (some (j : Nat))).cps.toList = (z.cps.toList.drop i).take (j - i) := by
  unfold cutS
  rw [HT.sIx_nat, HT.sIx_nat]
  show (List.take _ (List.drop _ _)) = _
  rw [Nat.min_eq_left h1, Nat.min_eq_left h2]
theorem cps_at {z : Str} {p c : Nat} (h : z.cps[p]? = some c) : z.cps.toList[p]? = some c := by rw [Array.getElem?_toList]; exact h
theorem drop_at {l : List Nat} {p c : Nat} (h : l[p]? = some c) : l.drop p = c :: l.drop (p + 1) := by
  have hb : p < l.length := (List.getElem?_eq_some_iff.mp h).1
  have e : l[p] = c := (List.getElem?_eq_some_iff.mp h).2
  rw [List.drop_eq_getElem_cons hb, e]
section
variable {P : Program} {w : World} {K : PySem.W.Frag} {mg : Str → Option Value} {base : Heap}
theorem sign_is {c d : Nat} {x : Str} (hx : x = ⟨#[d]⟩) : decide (V.str ⟨#[c]⟩ = V.str x) = decide (c = d) := by
  rw [hx]
  exact decide_eq_decide.mpr str_one
def ReadyX (P : Program) (w : World) (K : PySem.W.Frag) (mg : Str → Option Value) (base : Heap) (k : Nat) (x : Str) (ps : List Str) (sp : Sp) : Prop :=
  ∃ f fd, mg x = some (.ref f) ∧ PySem.W.keepIn K (.ref f) = true ∧ Binds K fd ps [] ∧ FnOk P w K mg base (L2.CX P w) k f fd ps sp
theorem readyX_of {x : Str} {st : Stmt} {k : Nat} {ps : List Str} {sp : Sp} (A : FnAt K mg x st)
    (hb : ∀ (kV doc pm : Value) (an : Option Addr) (cdv ct : Value) (us : List Value), us.length = ps.length → bindArgs (PySem.W.fnOf x x (defArgs st) (defBody st) (defScope st) .none kV doc pm an cdv ct) ⟨us, []⟩ = pure (ps.zip us))
    (ok : ∀ f fd, Fun K x x st f fd → FnOk P w K mg base (L2.CX P w) k f fd ps sp) : ReadyX P w K mg base k x ps sp := by
  obtain ⟨f, fd, F, g⟩ := A.ex
  exact ⟨f, fd, g, F.kp, F.binds hb, ok f fd F⟩
/-- v is no text without line feeds -/
def NoLine (K : PySem.W.Frag) (H : Hp) (v : V) : Prop := (∃ z : Str, v = .str z ∧ z.length ≤ 10000 ∧ isLn z.cps.toList = false) ∨ (∃ t, TyX K H v t ∧ PySem.W.kitOne K t (.type "str") = some false)
/-- an error of the class at C with its field at y is wished for -/
def Fails (C : Addr) (fld : Str) (y : Int) (H : Hp) (E : XK) : Prop := ∀ (d : Addr) H', Same H H' → H d = none → H' d = some (.xd [(fld, .int y)]) → E (.ref C) (some d) H'
theorem Fails.later {C : Addr} {fld : Str} {y : Int} {H H1 : Hp} {E : XK} (h : Fails C fld y H E) (s : Same H H1) : Fails C fld y H1 E := fun d H' s' n e => h d H' (s.trans s') (Same.free s n) e
theorem len_append (a b : Str) : (a ++ b).length = a.length + b.length := by
  have := TL.tl_append a b
  rw [← len_cps, ← len_cps, ← len_cps]
  rw [show (a ++ b).cps.toList = a.cps.toList ++ b.cps.toList from this, List.length_append]
end
end FL


namespace FL
open PySem PySem.Spec PyProof.Rows L2
/-! ### blanks at the ends -/
def is32 (c : Nat) : Bool := decide (c = 32)
def lst32 (l : List Nat) : List Nat := l.dropWhile is32
def stripL (l : List Nat) : List Nat := (lst32 (lst32 l).reverse).reverse
theorem drop_tw (p : Nat → Bool) : ∀ l : List Nat, l.drop (l.takeWhile p).length = l.dropWhile p
  | [] => rfl
  | c :: r => by
    by_cases h : p c = true
    · rw [List.takeWhile_cons, if_pos h, List.dropWhile_cons, if_pos h]
      exact drop_tw p r
    · rw [List.takeWhile_cons, if_neg h, List.dropWhile_cons, if_neg h]
      rfl
theorem blank_has : (" " : Str).cps.contains = is32 := by
  funext c
  have e : (" " : Str).cps = #[32] := by decide +kernel
  rw [e]
  unfold is32
  by_cases h : c = 32
  · subst h
    simp
  · simp [h]
theorem strip_codes (x : Str) : (Txt.stripChars x (" " : Str)).cps.toList = stripL x.cps.toList := by
  unfold Txt.stripChars
  rw [blank_has, PyProof.Rows.stripBy_eq, PySem.StrLaws.strSub_toList]
  unfold PySem.stripHi PySem.stripLo
  rw [if_pos rfl, if_pos rfl, drop_tw]
  have hx := len_cps x
  generalize x.cps.toList = l at hx ⊢
  unfold stripL lst32
  generalize hM : l.dropWhile is32 = M
  have hlen : M.length = l.length - (l.takeWhile is32).length := by
    rw [← hM, ← drop_tw, List.length_drop]
  have h1 : (M.reverse.takeWhile is32).length ≤ M.length := by
    have := (List.takeWhile_prefix (p := is32) (l := M.reverse)).length_le
    rwa [List.length_reverse] at this
  rw [← drop_tw is32 M.reverse, ← hx]
  rw [show l.length - (M.reverse.takeWhile is32).length - (l.takeWhile is32).length = M.length - (M.reverse.takeWhile is32).length by omega]
  rw [List.drop_reverse, List.reverse_reverse]
theorem strip_len (x : Str) : (Txt.stripChars x (" " : Str)).length ≤ x.length := PyProof.Rows.len_stripChars _ _
def noBlank (l : List Nat) : Bool := decide (l.head? ≠ some 32)
theorem lst32_id {l : List Nat} : lst32 l = l ↔ l.head? ≠ some 32 := by
  unfold lst32
  cases l with
  | nil => simp
  | cons c r =>
    rw [List.dropWhile_cons]
    by_cases h : c = 32
    · subst h
      have e : is32 32 = true := rfl
      rw [if_pos e]
      constructor
      · intro z
        have := congrArg List.length z
        have h2 := (List.dropWhile_suffix (l := r) is32).length_le
        rw [List.length_cons] at this
        omega
      · intro z
        exact absurd rfl z
    · have e : is32 c = false := decide_eq_false h
      rw [e, if_neg Bool.false_ne_true]
      simp [h]
theorem lst32_head (l : List Nat) : (lst32 l).head? ≠ some 32 := by
  unfold lst32
  induction l with
  | nil => simp
  | cons c r ih =>
    rw [List.dropWhile_cons]
    by_cases h : c = 32
    · subst h
      have e : is32 32 = true := rfl
      rw [if_pos e]
      exact ih
    · have e : is32 c = false := decide_eq_false h
      rw [e, if_neg Bool.false_ne_true]
      simp [h]
/-- no blank at its begin or its end -/
def trim (l : List Nat) : Prop := l.head? ≠ some 32 ∧ l.reverse.head? ≠ some 32
theorem stripL_id {l : List Nat} : stripL l = l ↔ trim l := by
  constructor
  · intro h
    have h1 : l.reverse.head? ≠ some 32 := by
      rw [← h]
      unfold stripL
      rw [List.reverse_reverse]
      exact lst32_head _
    refine ⟨?_, h1⟩
    have hl := congrArg List.length h
    have a1 : (lst32 l).length ≤ l.length := (List.dropWhile_suffix (l := l) is32).length_le
    have a2 : (stripL l).length ≤ (lst32 l).length := by
      unfold stripL
      rw [List.length_reverse]
      have := (List.dropWhile_suffix (l := (lst32 l).reverse) is32).length_le
      rwa [List.length_reverse] at this
    have e : lst32 l = l := (List.dropWhile_suffix (l := l) is32).eq_of_length (by
      show (lst32 l).length = l.length
      omega)
    exact lst32_id.mp e
  · intro h
    unfold stripL
    rw [lst32_id.mpr h.1, lst32_id.mpr h.2, List.reverse_reverse]
theorem trim_strip (l : List Nat) : trim (stripL l) := by
  unfold stripL trim
  rw [List.reverse_reverse]
  refine ⟨?_, lst32_head _⟩
  generalize hm : lst32 l = m
  have hh : m.head? ≠ some 32 := hm ▸ lst32_head l
  have hp : (lst32 m.reverse).reverse <+: m := by
    have := List.reverse_prefix.mpr (List.dropWhile_suffix (l := m.reverse) is32)
    rwa [List.reverse_reverse] at this
  obtain ⟨t, ht⟩ := hp
  intro z
  apply hh
  rw [← ht]
  cases hq : (lst32 m.reverse).reverse with
  | nil => rw [hq] at z; simp at z
  | cons a b => rw [hq] at z; simpa using z
theorem strip_sub (l : List Nat) : ∀ c ∈ stripL l, c ∈ l := fun c hc => by
  unfold stripL lst32 at hc
  have h1 := (List.dropWhile_suffix (l := (l.dropWhile is32).reverse) is32).subset (List.mem_reverse.mp hc)
  exact (List.dropWhile_suffix (l := l) is32).subset (List.mem_reverse.mp h1)
/-! ### names and values -/
def isNmS (c : Nat) : Bool := isLet c || (isFig c || decide (c = 45))
def isNm (l : List Nat) : Bool := isLn l && (decide (1 ≤ l.length ∧ l.length ≤ 30) && (isLet (l.getD 0 0) && l.all isNmS))
def isVal (l : List Nat) : Bool := isLn l && decide (stripL l = l)
section
variable {P : Program} {w : World} {K : PySem.W.Frag} {mg : Str → Option Value} {base : Heap}
theorem scIsNameSign : FnScope ["sign"] ["sign"] (defScope sIsNameSign) := ⟨rfl, rfl, rfl, by decide +kernel, rfl, by decide +kernel, by decide +kernel⟩
theorem r_is_name_sign (A : FnAt K mg "_is_name_sign" sIsNameSign) (RL : Ready P w K mg base 1 "is_letter" ["sign"] (spSign isLet)) (RF : Ready P w K mg base 1 "is_figure" ["sign"] (spSign isFig)) :
    Ready P w K mg base 2 "_is_name_sign" ["sign"] (spSign isNmS) := by
  obtain ⟨f1, fd1, g1, k1, b1, G1⟩ := RL
  obtain ⟨f2, fd2, g2, k2, b2, G2⟩ := RF
  refine ready_of A (fun _ _ _ _ _ _ us hl => match us, hl with | [_], _ => rfl) fun f fd F => ?_
  refine F.ok scIsNameSign (fun vs H Q E h => ?_) (fun cdv A outer s H vs Q E hr h => ?_)
  · obtain ⟨c, rfl, _⟩ := h
    rfl
  · obtain ⟨c, rfl, q⟩ := h
    refine ⟨_, pss_one (ps_ret (pe_or (pe_call G1 hr (by rfl) g1 k1 b1 .nil pass0 (pa_cons (pv 0) pa_nil)) (pe_or (pe_call G2 hr (by rfl) g2 k2 b2 .nil pass0 (pa_cons (pv 0) pa_nil))
      (pe_one (pe_cmpR op_eq (pv 0) pe_str (nomark _)))))), ?_⟩
    refine ⟨_, rfl, c, rfl, _, rfl, ?_⟩
    cases h1 : isLet c with
    | true =>
      rw [if_pos rfl]
      exact bl_to (by unfold isNmS; rw [h1]; rfl) q
    | false =>
      rw [if_neg Bool.false_ne_true]
      refine ⟨_, rfl, c, rfl, _, rfl, ?_⟩
      cases h2 : isFig c with
      | true =>
        rw [if_pos rfl]
        exact bl_to (by unfold isNmS; rw [h1, h2]; rfl) q
      | false =>
        rw [if_neg Bool.false_ne_true]
        refine ⟨_, rfl, rfl, bl_to ?_ q⟩
        rw [show decide (V.str ⟨#[c]⟩ = V.str ("-" : Str)) = decide (c = 45) from sign_is rfl]
        unfold isNmS
        rw [h1, h2]
        rfl
theorem scIsName : FnScope ["value", "sign"] ["value"] (defScope sIsName) := ⟨rfl, rfl, rfl, by decide +kernel, rfl, by decide +kernel, by decide +kernel⟩
theorem r_is_name (A : FnAt K mg "is_name" sIsName) (RI : Ready P w K mg base 3 "is_line" ["value"] (spLine K isLn)) (RL : Ready P w K mg base 1 "is_letter" ["sign"] (spSign isLet)) (RS : Ready P w K mg base 2 "_is_name_sign" ["sign"] (spSign isNmS))
    (ml : mg "len" = none) (ma : mg "all" = none) {tp : Tok} (mp : mg "NAME_SIZE" = some (.int 30 tp)) : Ready P w K mg base 4 "is_name" ["value"] (spLine K isNm) := by
  obtain ⟨f1, fd1, g1, k1, b1, G1⟩ := RI
  obtain ⟨f2, fd2, g2, k2, b2, G2⟩ := RL
  obtain ⟨f3, fd3, g3, k3, b3, G3⟩ := RS
  refine ready_of A (fun _ _ _ _ _ _ us hl => match us, hl with | [_], _ => rfl) fun f fd F => ?_
  refine F.ok scIsName (fun vs H Q E h => ?_) (fun cdv A outer s H vs Q E hr h => ?_)
  · obtain ⟨v, rfl, _⟩ := h
    rfl
  · obtain ⟨v, rfl, q⟩ := h
    have hr2 : Room 2 _ := hr.mono (by decide)
    refine ⟨_, pss_cons (ps_if (PW.pt (pw_or (pt_not (pt_val (pe_call G1 hr (by rfl) g1 k1 b1 .nil pass0 (pa_cons (pv 0) pa_nil))))
        (pw_or1 (pt_not (pt_chain op_le op_le pe_int (pe_callB call_len_str (by rfl) ml PySem.boot_len (pa_cons (pv 0) pa_nil)) (pe_glob (v := .int 30) rfl mp ⟨tp, rfl⟩)))))) (pss_one (ps_ret pe_bl)) pss_nil)
      (pss_one (ps_ret (pe_and (pe_call G2 (hr.mono (by decide)) (by rfl) g2 k2 b2 .nil pass0 (pa_cons (pe_item_str (pv 0) pe_int (fun _ _ => rfl)) pa_nil))
        (pe_one (pe_callB (cr_all rfl) (by rfl) ma (by decide +kernel) (pa_cons (pe_lc (own := [("sign", 1)]) (g := gName 1) (tt := tYes) (by rfl) scIsName.nd (pi_str (pv 0))
        (blkOk_by (own := [("sign", 1)]) (N := ["value", "sign"]) (sc := defScope sIsName) (by decide +kernel)) (fun _ _ _ _ _ => pg_name (i := 1) scIsName.nd rfl (Or.inl rfl)) (fun _ _ _ _ _ => pts_nil)
        (fun _ _ _ _ _ => pe_call G3 hr2 (by rfl) g3 k3 b3 .nil pass0 (pa_cons (pv 1) pa_nil))) pa_nil)))))), ?_⟩
    refine ⟨_, rfl, v, rfl, ?_⟩
    rcases q with ⟨z, rfl, hz, q⟩ | ⟨t, ht, hk, q⟩
    · refine .inl ⟨z, rfl, hz, fun H0 s0 => ⟨_, rfl, ?_⟩⟩
      have hzl := len_cps z
      cases hl : isLn z.cps.toList with
      | false =>
        refine iteT (iteT (bl_to ?_ (q H0 s0)))
        unfold isNm
        rw [hl]
        rfl
      | true =>
        refine iteF ?_
        refine ⟨_, rfl, z, rfl, Nat.le_of_lt (szl hz), _, _, rfl, rfl, _, rfl, ?_⟩
        by_cases h1 : (1 : Int) ≤ (z.length : Int)
        · rw [decide_eq_true h1, if_pos rfl]
          refine ⟨_, _, rfl, rfl, _, rfl, ?_⟩
          by_cases h2 : (z.length : Int) ≤ 30
          · rw [decide_eq_true h2]
            refine iteF ?_
            have hc : z.cps[0]? = some (z.cps[0]'(by have : z.cps.size = z.length := rfl; omega)) := Array.getElem?_eq_getElem _
            generalize z.cps[0]'(by have : z.cps.size = z.length := rfl; omega) = c0 at hc
            have hcd : z.cps.toList.getD 0 0 = c0 := by
              rw [List.getD_eq_getElem?_getD, cps_at hc]
              rfl
            refine ⟨_, rfl, z, 0, c0, rfl, rfl, by decide, by decide, by omega, hc, c0, rfl, _, rfl, ?_⟩
            have e0 : isNm z.cps.toList = (isLet c0 && z.cps.toList.all isNmS) := by
              unfold isNm
              rw [hl, hcd, decide_eq_true (by omega : 1 ≤ z.cps.toList.length ∧ z.cps.toList.length ≤ 30)]
              rfl
            cases h3 : isLet c0 with
            | false => exact iteF (bl_to (by rw [e0, h3]; rfl) (q H0 s0))
            | true =>
              refine iteT ?_
              refine ⟨_, rfl, z, rfl, fun D hD => ?_⟩
              refine lc_it walk_str (fun i H' => Same H0 H' ∧ H' D = some (.lst ((z.cps.toList.take i).map fun c => V.bl (isNmS c)))) ⟨same_new hD, upd_same⟩ (fun _ _ _ _ => trivial) (fun i x H1 H2 hi hp hy => ?_) (fun H1 hp => ?_)
              · obtain ⟨rfl, c, hc1, rfl⟩ := hy
                obtain ⟨sm, hd⟩ := hp
                refine ⟨rfl, ?_⟩
                unfold tYes
                refine iteT ?_
                refine ⟨_, rfl, c, rfl, _, hd, ?_, same_set sm hD, ?_⟩
                · rw [List.length_map]
                  exact Nat.lt_of_le_of_lt (List.length_take_le _ _) (szl (by have h2 : z.cps.size = z.length := rfl; omega))
                · rw [upd_same, take_more (cps_at hc1), List.map_append]
                  rfl
              · obtain ⟨sm, hd⟩ := hp
                have e : z.cps.toList.take z.cps.size = z.cps.toList := List.take_of_length_le (by simp)
                rw [e] at hd
                refine ⟨D, z.cps.toList.map isNmS, rfl, SqL.of (by rw [List.map_map]; exact hd), bl_to ?_ (q H1 (s0.trans sm))⟩
                rw [e0, h3, List.all_map]
                rfl
          · rw [decide_eq_false h2]
            refine iteT (bl_to ?_ (q H0 s0))
            unfold isNm
            rw [decide_eq_false (by omega : ¬ (1 ≤ z.cps.toList.length ∧ z.cps.toList.length ≤ 30)), hl]
            rfl
        · rw [decide_eq_false h1, if_neg Bool.false_ne_true]
          refine ⟨_, rfl, ?_⟩
          refine iteT (bl_to ?_ (q H0 s0))
          unfold isNm
          rw [decide_eq_false (by omega : ¬ (1 ≤ z.cps.toList.length ∧ z.cps.toList.length ≤ 30)), hl]
          rfl
    · exact .inr ⟨t, ht, hk, ⟨_, rfl, iteT (iteT q)⟩⟩
end
end FL


namespace FL
open PySem PySem.Spec PyProof.Rows L2
section
variable {P : Program} {w : World} {K : PySem.W.Frag} {mg : Str → Option Value} {base : Heap}
abbrev sNH : Stmt := inClass cNoHead 0
theorem scNH : FnScope ["self", "why", "line"] ["self", "why", "line"] (defScope sNH) := ⟨rfl, rfl, rfl, by decide +kernel, rfl, by decide +kernel, by decide +kernel⟩
theorem ok_NH {C CL fL f : Addr} {fd fdL : FuncData} (F : FunA K "NoHead.__init__" sNH [.int 0] f fd) (FL : FunA K "LetterError.__init__" sLE [.str ""] fL fdL) (TL : ClsFn K CL fL) (gL : mg "LetterError" = some (.ref CL)) (mV : mg "ValueError" = none)
    (vV : PySem.W.findCls K (.type "ValueError") (.type "type") "__init__" = some (.val (.builtin "ValueError.__init__"))) (T : OexC K C) (hno : PySem.W.findIn K (.ref C) "line" = some none) :
    FnOk P w K mg base CX0 2 f fd ["self", "why", "line"] (spFld C "line") := by
  have GL : FnOk P w K mg base CX0 1 fL fdL ["self", "why"] (spLE K) := ok_LE FL mV vV
  obtain ⟨ds, vds, bds⟩ := bind_LE FL
  refine FunD.ok F scNH (fun vs H Q E h => ?_) (fun cdv A outer s H vs Q E hr h => ?_)
  · obtain ⟨a, v, y, rfl, _⟩ := h
    rfl
  · obtain ⟨a, v, y, rfl, hH, q⟩ := h
    refine ⟨_, pss_cons (ps_expr (pe_cinit TL GL hr (by rfl) gL bds vds pass0 (pa_cons (pv 0) (pa_cons (pv 1) pa_nil)))) (pss_one (ps_ost (pv 0) (pv 2))), ?_⟩
    refine ⟨_, rfl, _, rfl, a, C, v, rfl, T, hH, ?_⟩
    exact ⟨_, rfl, _, rfl, a, C, rfl, T, hno, .inl ⟨hH, fun dx n1 n2 => q dx n1 n2⟩⟩
theorem mk_NH {C CL fL f : Addr} {fd fdL : FuncData} (F : FunA K "NoHead.__init__" sNH [.int 0] f fd) (FL : FunA K "LetterError.__init__" sLE [.str ""] fL fdL) (TL : ClsFn K CL fL) (gL : mg "LetterError" = some (.ref CL)) (mV : mg "ValueError" = none)
    (vV : PySem.W.findCls K (.type "ValueError") (.type "type") "__init__" = some (.val (.builtin "ValueError.__init__"))) (T : OexC K C) (hno : PySem.W.findIn K (.ref C) "line" = some none) (g : mg "NoHead" = some (.ref C))
    (iC : PySem.W.findIn K (.ref C) "__init__" = some (some (.ref f))) (tI : PySem.W.typeIn K (.ref f) = some (.type "function")) : MkFld P w K mg base "NoHead" C "line" :=
  ⟨T, g, f, fd, iC, tI, ok_NH F FL TL gL mV vV T hno,
    FunD.binds1 (ps := ["self", "why", "line"]) F 3 1 (by simp) rfl fun T kV doc pm an cdv ct us its hu hi => match us, its, hu, hi with | [_, _, _], [_], _, _ => ⟨_, rfl, rfl⟩,
    FunD.binds1 (ps := ["self", "why", "line"]) F 2 0 (by simp) rfl fun T kV doc pm an cdv ct us its hu hi => match us, its, hu, hi with | [_, _], [_], _, _ => ⟨_, rfl, rfl⟩⟩
end
end FL


namespace FL
open PySem PySem.Spec PyProof.Rows L2
theorem strOk_of {z : Str} (h : ∀ c ∈ z.cps.toList, c < 128) : PyData.strOk z = true := by
  unfold PyData.strOk
  rw [← Array.all_toList]
  refine List.all_eq_true.mpr fun c hc => decide_eq_true ?_
  have := h c hc
  omega
theorem canLayAll_of : ∀ {ds : List PyData}, (∀ d ∈ ds, d.canLay0 = true) → PyData.canLayAll0 ds = true
  | [], _ => by simp [PyData.canLayAll0]
  | d :: r, h => by
    rw [PyData.canLayAll0, h d (List.mem_cons_self ..), canLayAll_of fun x hx => h x (List.mem_cons_of_mem _ hx)]
    rfl
theorem depthAll_of {k : Nat} : ∀ {ds : List PyData}, (∀ d ∈ ds, d.depth ≤ k) → PyData.depthAll ds ≤ k
  | [], _ => by simp [PyData.depthAll]
  | d :: r, h => by
    rw [PyData.depthAll]
    exact Nat.max_le.mpr ⟨h d (List.mem_cons_self ..), depthAll_of fun x hx => h x (List.mem_cons_of_mem _ hx)⟩
theorem canLay_str {z : Str} (h : PyData.strOk z = true) : (PyData.str z).canLay0 = true := by
  unfold PyData.canLay0
  exact h
theorem shaped_of {d : PyData} (h : d.canLay0 = true) (k : d.depth ≤ 64) : SeqAt.shaped d = true := by
  unfold SeqAt.shaped
  rw [h, decide_eq_true k]
  rfl
theorem shaped_strs {zs : List Str} (h : ∀ z ∈ zs, PyData.strOk z = true) : SeqAt.shaped (.list (zs.map PyData.str)) = true := by
  refine shaped_of ?_ ?_
  · rw [PyData.canLay0]
    refine canLayAll_of fun d hd => ?_
    obtain ⟨z, hz, rfl⟩ := List.mem_map.mp hd
    exact canLay_str (h z hz)
  · rw [PyData.depth]
    have : PyData.depthAll (zs.map PyData.str) ≤ 0 := depthAll_of fun d hd => by
      obtain ⟨z, hz, rfl⟩ := List.mem_map.mp hd
      rw [PyData.depth]
      exact Nat.le_refl _
    omega
theorem dp_strs {K : PySem.W.Frag} {H : Hp} : ∀ zs : List Str, DpAll K H (zs.map V.str) (zs.map PyData.str)
  | [] => .nil
  | z :: r => .cons (.str z) (dp_strs r)
theorem eqv_nil (ds : List PyData) : PyData.eqv (.list ds) (.list []) = ds.isEmpty := by
  cases ds <;> simp [PyData.eqv, PyData.eqvAll]
theorem same_drawn {H H1 H2 : Hp} {p : Addr} (s : Same H H1) (n : H p = none) (d : Drawn p H1 H2) : Same H H2 := fun b o e => d.old b o (ne_of_none e n) (s b o e)
theorem app_codes (a b : Str) : (a ++ b).cps.toList = a.cps.toList ++ b.cps.toList := TL.tl_append a b
/-- a list of texts as data: in order, and itself -/
theorem strs_ok {zs : List Str} (h : ∀ z ∈ zs, PyData.strOk z = true) : SeqAt.shaped (.list (zs.map PyData.str)) = true ∧ PyData.eqv (.list (zs.map PyData.str)) (.list (zs.map PyData.str)) = true := by
  have hs := shaped_strs h
  exact ⟨hs, SeqAt.eqv_refl _ (Bool.and_eq_true_iff.mp hs).1⟩
end FL


namespace FL
open PySem PySem.Spec PyProof.Rows L2
theorem szl3 {n : Nat} (h : n ≤ 100000) : n < sizeLine := Nat.lt_of_le_of_lt h (by decide)
theorem starts_blank (x : Str) : Txt.startswith x (" " : Str) = decide (x.cps.toList.head? = some 32) := by
  unfold Txt.startswith
  have l1 : (" " : Str).length = 1 := by decide +kernel
  have c1 : (" " : Str).cps.toList = [32] := by decide +kernel
  rw [PySem.StrLaws.subAt_eq, l1, c1, List.drop_zero]
  have hx := len_cps x
  generalize x.cps.toList = l at hx ⊢
  cases l with
  | nil =>
    rw [decide_eq_false (by rw [← hx]; simp)]
    rfl
  | cons c r =>
    rw [decide_eq_true (by rw [← hx, List.length_cons]; omega), Bool.true_and]
    show ([c] == [32]) = _
    by_cases h : c = 32
    · subst h
      rfl
    · rw [decide_eq_false (by simpa using h)]
      simpa using h
theorem cutV_nat (xs : List V) {i j : Nat} (h1 : i ≤ xs.length) (h2 : j ≤ xs.length) : cutV xs (some (i : Nat)) (some (j : Nat)) = (xs.drop i).take (j - i) := by
  unfold cutV
  rw [HT.sIx_nat, HT.sIx_nat, Nat.min_eq_left h1, Nat.min_eq_left h2]
theorem cutV_from (xs : List V) {i : Nat} (h1 : i ≤ xs.length) : cutV xs (some (i : Nat)) none = xs.drop i := by
  unfold cutV
  rw [HT.sIx_nat, HT.sIx_none, Nat.min_eq_left h1]
  exact List.take_of_length_le (by rw [List.length_drop]; exact Nat.le_refl _)
/-! ### the mirror -/
abbrev Ln := List Nat
def contB (l : Ln) : Bool := decide (l.head? = some 32)
def headEnd (ls : List Ln) (b : Nat) : Nat := b + 1 + ((ls.drop (b + 1)).takeWhile contB).length
def headOf : List Ln → Option (Ln × Ln)
  | [] => none
  | l :: r => if 58 ∈ l then (if isNm (l.takeWhile fun c => !decide (c = 58)) = true then some (l.takeWhile (fun c => !decide (c = 58)), stripL ((l.dropWhile fun c => !decide (c = 58)).drop 1 ++ r.flatten)) else none) else none
def readR (ls : List Ln) : Nat → Nat → Option (Except Nat (List (Ln × Ln)))
  | 0, b => if b < ls.length then none else some (.ok [])
  | n + 1, b => if b < ls.length then (match headOf ((ls.drop b).take (headEnd ls b - b)) with
      | none => some (.error b)
      | some h => (readR ls n (headEnd ls b)).map fun r => match r with
        | .ok hs => .ok (h :: hs)
        | .error p => .error p) else some (.ok [])
def glueH (dn : List (Ln × Ln)) : Except Nat (List (Ln × Ln)) → Except Nat (List (Ln × Ln))
  | .ok hs => .ok (dn ++ hs)
  | .error p => .error p
theorem takeWhile_le {α : Type} (p : α → Bool) (l : List α) : (l.takeWhile p).length ≤ l.length := (List.takeWhile_prefix (p := p) (l := l)).length_le
theorem headEnd_le {ls : List Ln} {b : Nat} (h : b < ls.length) : b < headEnd ls b ∧ headEnd ls b ≤ ls.length := by
  unfold headEnd
  have := takeWhile_le contB (ls.drop (b + 1))
  rw [List.length_drop] at this
  omega
def heV (h : Ln × Ln) : List V := [.str (mk h.1), .str (mk h.2)]
def HeadsAt (H0 H : Hp) (Ts : List Addr) (hs : List (Ln × Ln)) : Prop := Paired (fun T x => H0 T = none ∧ H T = some (.tup (heV x))) Ts hs
theorem HeadsAt.same {H0 H H' : Hp} {Ts : List Addr} {hs : List (Ln × Ln)} (h : HeadsAt H0 H Ts hs) (k : ∀ T x, T ∈ Ts → H T = some (.tup (heV x)) → H' T = some (.tup (heV x))) : HeadsAt H0 H' Ts hs := by
  unfold HeadsAt at h ⊢
  induction h with
  | nil => exact .nil
  | cons a b ih => exact .cons ⟨a.1, k _ _ (List.mem_cons_self ..) a.2⟩ (ih fun T x hT => k T x (List.mem_cons_of_mem _ hT))
/-- whether v is a text without line feeds is b -/
def IsLnV (K : PySem.W.Frag) (H : Hp) (v : V) (b : Bool) : Prop := (∃ z : Str, v = .str z ∧ z.length ≤ 10000 ∧ b = isLn z.cps.toList) ∨ (b = false ∧ ∃ t, TyX K H v t ∧ PySem.W.kitOne K t (.type "str") = some false)
def codesOf (zs : List Str) : List Ln := zs.map fun z => z.cps.toList
def total (zs : List Str) : Nat := (zs.map (·.length)).sum
theorem total_mem {zs : List Str} {z : Str} (h : z ∈ zs) : z.length ≤ total zs := by
  unfold total
  induction zs with
  | nil => cases h
  | cons a r ih =>
    rw [List.map_cons, List.sum_cons]
    rcases List.mem_cons.mp h with rfl | h
    · omega
    · have := ih h
      omega
theorem total_sub : ∀ {as zs : List Str}, List.Sublist as zs → total as ≤ total zs := fun {as zs} h => by
  unfold total
  induction h with
  | slnil => exact Nat.le_refl _
  | cons a _ ih => rw [List.map_cons, List.sum_cons]; omega
  | cons_cons a _ ih => rw [List.map_cons, List.map_cons, List.sum_cons, List.sum_cons]; omega
section
variable {P : Program} {w : World} {K : PySem.W.Frag} {mg : Str → Option Value} {base : Heap}
def spHeadEnd : Sp := fun vs H Q _ => ∃ (a : Addr) (zs : List Str) (b : Nat), vs = [.ref a, .int (b : Nat)] ∧ H a = some (.lst (zs.map V.str)) ∧ b < zs.length ∧ Q (.int (headEnd (codesOf zs) b : Nat)) H
theorem scHeadEnd : FnScope ["lines", "begin", "end"] ["lines", "begin"] (defScope sHeadEnd) := ⟨rfl, rfl, rfl, by decide +kernel, rfl, by decide +kernel, by decide +kernel⟩
theorem r_head_end (A : FnAt K mg "_head_end" sHeadEnd) (ml : mg "len" = none) : Ready P w K mg base 1 "_head_end" ["lines", "begin"] spHeadEnd := by
  refine ready_of A (fun _ _ _ _ _ _ us hl => match us, hl with | [_, _], _ => rfl) fun f fd F => ?_
  refine F.ok scHeadEnd (fun vs H Q E h => ?_) (fun cdv A outer s H vs Q E hr h => ?_)
  · obtain ⟨a, zs, b, rfl, _⟩ := h
    rfl
  · obtain ⟨a, zs, b, rfl, hH, hb, q⟩ := h
    have sc := scHeadEnd
    refine ⟨_, pss_cons (ps_set (i := 2) sc.nd rfl (.inl rfl) (pe_op op_add (pv 1) pe_int))
      (pss_cons (ps_while PassesOwn.never (PW.pt (pw_and (pt_cmpR op_lt (pv 2) (pe_callB call_len_seq (by rfl) ml PySem.boot_len (pa_cons (pv 0) pa_nil)) (nomark _))
        (pw_and1 (pt_val (pe_bm PySem.F.plainAttrs_str PySem.F.slot_str_startswith PySem.F.type_str_startswith mt_startswith (pe_ix ix_list (pv 0) (pv 2) (fun _ _ => rfl)) (pa_cons pe_str pa_nil))))))
        (pss_one (ps_aug (i := 2) sc.nd rfl (.inl rfl) pe_int ip_add)))
      (pss_one (ps_ret (pv 2)))), ?_⟩
    refine ⟨_, rfl, _, _, rfl, rfl, ?_⟩
    refine ⟨fun m σ H' => ∃ e : Nat, σ = [some (.ref a), some (.int b), some (.int (e : Nat))] ∧ H' = H ∧ e ≤ zs.length ∧ m = zs.length - e ∧ headEnd (codesOf zs) b = e + (((codesOf zs).drop e).takeWhile contB).length,
      ⟨zs.length - (b + 1), b + 1, rfl, rfl, hb, rfl, rfl⟩, fun m σ H' hW => ?_⟩
    obtain ⟨e, rfl, rfl, he, rfl, hE⟩ := hW
    have hcl : (codesOf zs).length = zs.length := List.length_map ..
    refine ⟨_, rfl, _, rfl, a, _, rfl, .inl (SqL.of hH), _, _, rfl, rfl, _, rfl, ?_⟩
    rw [List.length_map]
    by_cases h1 : e < zs.length
    · rw [decide_eq_true (by omega : (e : Int) < (zs.length : Int))]
      have hd : (codesOf zs).drop e = (zs[e]).cps.toList :: (codesOf zs).drop (e + 1) := by
        rw [List.drop_eq_getElem_cons (by omega)]
        simp [codesOf]
      refine iteT ⟨_, rfl, _, rfl, a, _, _, .str zs[e], rfl, rfl, SqL.of hH, atI_nat (by rw [List.getElem?_map, List.getElem?_eq_getElem h1]; rfl), rfl, _, _, rfl, rfl, _, rfl, ?_⟩
      rw [starts_blank]
      rw [hd, List.takeWhile_cons] at hE
      by_cases hc : (zs[e]).cps.toList.head? = some 32
      · rw [decide_eq_true hc]
        have hcb : contB (zs[e]).cps.toList = true := decide_eq_true hc
        rw [if_pos hcb, List.length_cons] at hE
        refine iteT ⟨fun σ' H'' => ∃ e' : Nat, σ' = [some (.ref a), some (.int b), some (.int (e' : Nat))] ∧ H'' = H' ∧ e' = e + 1, fun σ' H'' hN => ?_, ?_⟩
        · obtain ⟨e', rfl, rfl, rfl⟩ := hN
          exact ⟨_, (by omega : zs.length - (e + 1) < zs.length - e), e + 1, rfl, rfl, h1, rfl, by omega⟩
        · exact ⟨_, rfl, _, _, rfl, rfl, e + 1, rfl, rfl, rfl⟩
      · rw [decide_eq_false hc]
        have hcb : contB (zs[e]).cps.toList = false := decide_eq_false hc
        rw [hcb, if_neg Bool.false_ne_true] at hE
        refine iteF ⟨_, rfl, ?_⟩
        rw [hE] at q
        exact q
    · rw [decide_eq_false (by omega : ¬ (e : Int) < (zs.length : Int))]
      refine iteF (iteF ⟨_, rfl, ?_⟩)
      rw [List.drop_eq_nil_of_le (by omega)] at hE
      rw [hE] at q
      exact q
def spHeadOf (C : Addr) : Sp := fun vs H Q E => ∃ (a : Addr) (zs : List Str) (n : Nat), vs = [.ref a, .int (n : Nat)] ∧ H a = some (.lst (zs.map V.str)) ∧ zs ≠ [] ∧ total zs ≤ 10000 ∧ zs.length ≤ 90000 ∧
  (∀ h, headOf (codesOf zs) = some h → ∀ H' T, Same H H' → H T = none → H' T = some (.tup (heV h)) → Q (.ref T) H') ∧ (headOf (codesOf zs) = none → Fails C "line" (n : Nat) H E)
theorem split_colon {l : Ln} (h : 58 ∈ l) : l = l.takeWhile (fun c => !decide (c = 58)) ++ [58] ++ (l.dropWhile fun c => !decide (c = 58)).drop 1 ∧ 58 ∉ l.takeWhile (fun c => !decide (c = 58)) := by
  induction l with
  | nil => cases h
  | cons c r ih =>
    by_cases hc : c = 58
    · subst hc
      simp
    · have hr : 58 ∈ r := by
        rcases List.mem_cons.mp h with e | e
        · exact absurd e.symm hc
        · exact e
      obtain ⟨h1, h2⟩ := ih hr
      have e : (!decide (c = 58)) = true := by rw [decide_eq_false hc]; rfl
      rw [List.takeWhile_cons, List.dropWhile_cons, if_pos e, if_pos e]
      refine ⟨by rw [List.cons_append, List.cons_append, ← h1], fun z => ?_⟩
      rcases List.mem_cons.mp z with e | e
      · exact hc e.symm
      · exact h2 e
def begB (l : Ln) : Bool := decide (58 ∈ l) && isNm (l.takeWhile fun c => !decide (c = 58))
def spBegins : Sp := fun vs H Q _ => ∃ z : Str, vs = [.str z] ∧ z.length ≤ 10000 ∧ ∀ H', Same H H' → Q (V.bl (begB z.cps.toList)) H'
theorem part_colon {z : Str} (hm : 58 ∈ z.cps.toList) : Txt.partition z (":" : Str) = (mk (z.cps.toList.takeWhile fun c => !decide (c = 58)), (":" : Str), mk ((z.cps.toList.dropWhile fun c => !decide (c = 58)).drop 1)) := by
  have ec : (":" : Str).cps.toList = [58] := by decide +kernel
  obtain ⟨hs1, hs2⟩ := split_colon hm
  have hz2 : z = mk (z.cps.toList.takeWhile fun c => !decide (c = 58)) ++ (":" : Str) ++ mk ((z.cps.toList.dropWhile fun c => !decide (c = 58)).drop 1) := by
    rw [mk_eq ec, mk_app, mk_app, ← hs1, mk_of]
  have hp := TL.partition_app (y := (":" : Str)) (s := 58) (S := []) ec (a := mk (z.cps.toList.takeWhile fun c => !decide (c = 58))) (b := mk ((z.cps.toList.dropWhile fun c => !decide (c = 58)).drop 1)) (by
    show 58 ∉ (mk _).cps.toList
    rw [mk_codes]
    exact hs2)
  rw [← hz2] at hp
  exact hp
theorem scBeginsHead : FnScope ["line", "name", "colon", "_"] ["line"] (defScope sBeginsHead) := ⟨rfl, rfl, rfl, by decide +kernel, rfl, by decide +kernel, by decide +kernel⟩
theorem r_begins_head (A : FnAt K mg "begins_head" sBeginsHead) (RN : Ready P w K mg base 4 "is_name" ["value"] (spLine K isNm)) : Ready P w K mg base 5 "begins_head" ["line"] spBegins := by
  obtain ⟨f1, fd1, g1, k1, b1, G1⟩ := RN
  refine ready_of A (fun _ _ _ _ _ _ us hl => match us, hl with | [_], _ => rfl) fun f fd F => ?_
  refine F.ok scBeginsHead (fun vs H Q E h => ?_) (fun cdv A outer s H vs Q E hr h => ?_)
  · obtain ⟨z, rfl, _⟩ := h
    rfl
  · obtain ⟨z, rfl, hz, q⟩ := h
    have sc := scBeginsHead
    refine ⟨_, pss_cons (ps_asg (pe_bm PySem.F.plainAttrs_str PySem.F.slot_str_partition PySem.F.type_str_partition mt_partition (pv 0) (pa_cons pe_str pa_nil)) (pg_tup rfl (pgs_cons (pg_name (i := 1) sc.nd rfl (.inl rfl)) (pgs_cons (pg_name (i := 2) sc.nd rfl (.inl rfl)) (pgs_cons (pg_name (i := 3) sc.nd rfl (.inl rfl)) pgs_nil)))))
      (pss_one (ps_ret (pe_and (pe_cmpR op_eq (pv 2) pe_str (nomark _)) (pe_one (pe_call G1 (hr.mono (by decide)) (by rfl) g1 k1 b1 .nil pass0 (pa_cons (pv 1) pa_nil)))))), ?_⟩
    have lc : (":" : Str).length = 1 := by decide +kernel
    refine ⟨_, rfl, rfl, z, _, rfl, rfl, by rw [lc]; rfl, Nat.le_of_lt (szl hz), fun T nT => ?_⟩
    by_cases hm : 58 ∈ z.cps.toList
    · rw [part_colon hm]
      have hnl : (z.cps.toList.takeWhile fun c => !decide (c = 58)).length ≤ 10000 := by
        have := takeWhile_le (fun c => !decide (c = 58)) z.cps.toList
        rw [len_cps] at this
        omega
      have hb : begB z.cps.toList = isNm (z.cps.toList.takeWhile fun c => !decide (c = 58)) := by
        unfold begB
        rw [decide_eq_true hm, Bool.true_and]
      rw [hb] at q
      generalize (z.cps.toList.takeWhile fun c => !decide (c = 58)) = nm at hnl q ⊢
      generalize ((z.cps.toList.dropWhile fun c => !decide (c = 58)).drop 1) = rs
      have sT : Same H (upd H T (.tup [.str (mk nm), .str (":" : Str), .str (mk rs)])) := same_new nT
      refine ⟨T, _, rfl, SqT.of upd_same, rfl, _, _, rfl, _, _, rfl, _, _, rfl, rfl, ?_⟩
      refine ⟨_, rfl, rfl, _, rfl, ?_⟩
      rw [show decide (V.str (":" : Str) = V.str (":" : Str)) = true by decide +kernel]
      refine iteT ?_
      refine ⟨_, rfl, _, rfl, .inl ⟨mk nm, rfl, by rw [mk_len]; exact hnl, fun H1 s1 => ?_⟩⟩
      rw [mk_codes]
      exact q _ (sT.trans s1)
    · have ec : (":" : Str).cps.toList = [58] := by decide +kernel
      have hp := TL.partition_none (y := (":" : Str)) (s := 58) (S := []) ec (a := z) hm
      rw [hp]
      have hb : begB z.cps.toList = false := by
        unfold begB
        rw [decide_eq_false hm, Bool.false_and]
      rw [hb] at q
      refine ⟨T, _, rfl, SqT.of upd_same, rfl, _, _, rfl, _, _, rfl, _, _, rfl, rfl, ?_⟩
      refine ⟨_, rfl, rfl, _, rfl, ?_⟩
      rw [show decide (V.str Str.empty = V.str (":" : Str)) = false by decide +kernel]
      exact iteF (q _ (same_new nT))
theorem scHeadOf : FnScope ["lines", "number", "name", "_", "rest"] ["lines", "number"] (defScope sHeadOf) := ⟨rfl, rfl, rfl, by decide +kernel, rfl, by decide +kernel, by decide +kernel⟩
theorem x_head_of {C : Addr} (M : MkFld P w K mg base "NoHead" C "line") (A : FnAt K mg "_head_of" sHeadOf) (RB : Ready P w K mg base 5 "begins_head" ["line"] spBegins) : ReadyX P w K mg base 6 "_head_of" ["lines", "number"] (spHeadOf C) := by
  obtain ⟨f1, fd1, g1, k1, b1, G1⟩ := RB
  refine readyX_of A (fun _ _ _ _ _ _ us hl => match us, hl with | [_, _], _ => rfl) fun f fd F => ?_
  refine F.okX scHeadOf (fun vs H Q E h => ?_) (fun cdv A outer s H vs Q E hr h => ?_)
  · obtain ⟨a, zs, n, rfl, _⟩ := h
    rfl
  · obtain ⟨a, zs, n, rfl, hH, hne, htot, hlen, q, qe⟩ := h
    have sc := scHeadOf
    refine ⟨_, pss_cons (ps_if (pt_not (pt_val (pe_call G1 hr (by rfl) g1 k1 b1 .nil pass0 (pa_cons (pe_ix ix_list (pv 0) pe_int (fun _ _ => rfl)) pa_nil))))
        (pss_one (ps_raise rfl (takes_of rfl rfl rfl rfl) (pmk_fld M (hr.mono (by decide)) (by rfl) (pa_cons pe_str (pa_cons (pv 1) pa_nil)) [] (.inl rfl))))
        pss_nil)
      (pss_cons (ps_asg (pe_bm PySem.F.plainAttrs_str PySem.F.slot_str_partition PySem.F.type_str_partition mt_partition (pe_ix ix_list (pv 0) pe_int (fun _ _ => rfl)) (pa_cons pe_str pa_nil)) (pg_tup rfl (pgs_cons (pg_name (i := 2) sc.nd rfl (.inl rfl)) (pgs_cons (pg_name (i := 3) sc.nd rfl (.inl rfl)) (pgs_cons (pg_name (i := 4) sc.nd rfl (.inl rfl)) pgs_nil)))))
      (pss_one (ps_ret (pe_tup (pa_cons (pv 2) (pa_cons (pe_bm PySem.F.plainAttrs_str PySem.F.slot_str_strip PySem.F.type_str_strip mt_stripChars (pe_op op_add_str (pv 4) (pe_join pe_str (pe_slice sl_list (pv 0) (po_some pe_int) po_none))) (pa_cons pe_str pa_nil)) pa_nil)))))), ?_⟩
    obtain ⟨z, r, rfl⟩ : ∃ z r, zs = z :: r := by
      cases zs with
      | nil => exact absurd rfl hne
      | cons z r => exact ⟨z, r, rfl⟩
    have hz : z.length ≤ 10000 := Nat.le_trans (total_mem (List.mem_cons_self ..)) htot
    have ec : (":" : Str).cps.toList = [58] := by decide +kernel
    have lc : (":" : Str).length = 1 := by decide +kernel
    have e0 : ("" : Str).cps.toList = [] := by decide +kernel
    have l0 : ("" : Str).length = 0 := by decide +kernel
    have hho : headOf (codesOf (z :: r)) = if begB z.cps.toList = true then some (z.cps.toList.takeWhile (fun c => !decide (c = 58)), stripL ((z.cps.toList.dropWhile fun c => !decide (c = 58)).drop 1 ++ (codesOf r).flatten)) else none := by
      show (if 58 ∈ z.cps.toList then (if isNm (z.cps.toList.takeWhile fun c => !decide (c = 58)) = true then _ else none) else none) = _
      unfold begB
      by_cases hm : 58 ∈ z.cps.toList
      · rw [if_pos hm, decide_eq_true hm, Bool.true_and]
        rfl
      · rw [if_neg hm, decide_eq_false hm, Bool.false_and, if_neg Bool.false_ne_true]
    refine ⟨_, rfl, a, _, 0, .str z, rfl, rfl, SqL.of hH, atI_nat (j := 0) rfl, z, rfl, hz, fun H1 s1 => ⟨_, rfl, ?_⟩⟩
    cases hbg : begB z.cps.toList with
    | false =>
      rw [hbg, if_neg Bool.false_ne_true] at hho
      exact iteT ⟨_, rfl, mk_leaf rfl (Nat.le_refl _) (Fails.later (qe hho) s1)⟩
    | true =>
      rw [hbg, if_pos rfl] at hho
      have hm : 58 ∈ z.cps.toList := by
        unfold begB at hbg
        rw [Bool.and_eq_true] at hbg
        exact of_decide_eq_true hbg.1
      have hHa := s1 _ _ hH
      refine iteF ⟨_, rfl, a, _, 0, .str z, rfl, rfl, SqL.of hHa, atI_nat (j := 0) rfl, rfl, z, _, rfl, rfl, by rw [lc]; rfl, Nat.le_of_lt (szl hz), fun T nT => ?_⟩
      rw [part_colon hm]
      have hrl : ((z.cps.toList.dropWhile fun c => !decide (c = 58)).drop 1).length ≤ z.length := by
        rw [List.length_drop]
        have := (List.dropWhile_suffix (l := z.cps.toList) (fun c => !decide (c = 58))).length_le
        rw [len_cps] at this
        omega
      generalize (z.cps.toList.takeWhile fun c => !decide (c = 58)) = nm at hho ⊢
      generalize ((z.cps.toList.dropWhile fun c => !decide (c = 58)).drop 1) = rs at hho hrl ⊢
      refine ⟨T, _, rfl, SqT.of upd_same, rfl, _, _, rfl, _, _, rfl, _, _, rfl, rfl, ?_⟩
      have sT : Same H1 (upd H1 T (.tup [.str (mk nm), .str (":" : Str), .str (mk rs)])) := same_new nT
      have hH1 := sT _ _ hHa
      refine ⟨_, rfl, _, rfl, ⟨_, rfl⟩, _, rfl, 1, rfl, a, _, rfl, SqL.of hH1, fun p np => ?_⟩
      have hcut : cutV ((z :: r).map V.str) (some 1) none = r.map V.str := cutV_from (i := 1) _ (by simp)
      refine ⟨("" : Str), p, r, rfl, rfl, .inl (SqL.of (by rw [upd_same, hcut])), ?_, _, _, rfl, rfl, ?_, rfl, _, _, rfl, rfl, ?_, (by show 2 ≤ sizeLine; decide), fun T2 nT2 => ?_⟩
      · rw [l0]
        have : total (z :: r) = z.length + total r := rfl
        show total r + _ ≤ _
        omega
      · have hj : (Txt.join ("" : Str) r).length ≤ 10000 := by
          rw [← len_cps, join_codes, List.length_flatten, List.map_map]
          have : total (z :: r) = z.length + total r := rfl
          have e : (List.map (List.length ∘ fun y => y.cps.toList) r).sum = total r := by
            exact congrArg List.sum (List.map_congr_left fun y _ => len_cps y)
          rw [e]
          omega
        rw [mk_len]
        exact Nat.le_of_lt (szl3 (by omega))
      · have hj : (Txt.join ("" : Str) r).length ≤ 10000 := by
          rw [← len_cps, join_codes, List.length_flatten, List.map_map]
          have : total (z :: r) = z.length + total r := rfl
          have e : (List.map (List.length ∘ fun y => y.cps.toList) r).sum = total r := by
            exact congrArg List.sum (List.map_congr_left fun y _ => len_cps y)
          rw [e]
          omega
        rw [len_append, mk_len]
        exact Nat.le_of_lt (szl3 (by omega))
      · refine q _ hho _ T2 (((s1.trans sT).trans (same_new np)).trans (same_new nT2)) (Same.free ((s1.trans sT).trans (same_new np)) nT2) ?_
        rw [upd_same]
        have ev : Txt.stripChars (mk rs ++ Txt.join ("" : Str) r) (" " : Str) = mk (stripL (rs ++ (codesOf r).flatten)) := mk_eq (by
          rw [strip_codes, app_codes, mk_codes, join_codes]
          rfl)
        rw [ev]
        rfl
def spReadX (K : PySem.W.Frag) (C : Addr) : Sp := fun vs H Q E => ∃ v : V, vs = [v] ∧
  ((∃ t, TyX K H v t ∧ PySem.W.kitOne K t (.type "list") = some false ∧ Fails C "line" 0 H E) ∨
    (∃ (a : Addr) (us : List (V × Bool)), v = .ref a ∧ H a = some (.lst (us.map (·.1))) ∧ us.length ≤ 9000 ∧ (∀ H', Same H H' → ∀ u ∈ us, IsLnV K H' u.1 u.2) ∧
      ((us.all (·.2) = false ∧ Fails C "line" 0 H E) ∨ (us.all (·.2) = true ∧ ∃ (zs : List Str) (n : Nat) (r : Except Nat (List (Ln × Ln))), us.map (·.1) = zs.map V.str ∧ total zs ≤ 10000 ∧ readR (codesOf zs) n 0 = some r ∧
        (∀ hs, r = .ok hs → ∀ H' D Ts, Same H H' → H D = none → H' D = some (.lst (Ts.map V.ref)) → HeadsAt H H' Ts hs → Q (.ref D) H') ∧ ∀ p : Nat, r = .error p → Fails C "line" (p : Nat) H E))))
theorem scReadHeads : FnScope ["lines", "heads", "begin", "end", "line"] ["lines"] (defScope sReadHeads) := ⟨rfl, rfl, rfl, by decide +kernel, rfl, by decide +kernel, by decide +kernel⟩
theorem x_read_heads {C : Addr} (M : MkFld P w K mg base "NoHead" C "line") (A : FnAt K mg "read_heads" sReadHeads) (RI : Ready P w K mg base 3 "is_line" ["value"] (spLine K isLn)) (RE : Ready P w K mg base 1 "_head_end" ["lines", "begin"] spHeadEnd)
    (RO : ReadyX P w K mg base 6 "_head_of" ["lines", "number"] (spHeadOf C)) (mi : mg "isinstance" = none) (mli : mg "list" = none) (ma : mg "all" = none) (ml : mg "len" = none) : ReadyX P w K mg base 7 "read_heads" ["lines"] (spReadX K C) := by
  obtain ⟨f1, fd1, g1, k1, b1, G1⟩ := RI
  obtain ⟨f2, fd2, g2, k2, b2, G2⟩ := RE
  obtain ⟨f3, fd3, g3, k3, b3, G3⟩ := RO
  refine readyX_of A (fun _ _ _ _ _ _ us hl => match us, hl with | [_], _ => rfl) fun f fd F => ?_
  refine F.okX scReadHeads (fun vs H Q E h => ?_) (fun cdv A outer s H vs Q E hr h => ?_)
  · obtain ⟨v, rfl, _⟩ := h
    rfl
  · obtain ⟨v, rfl, h⟩ := h
    have sc := scReadHeads
    have hr3 : Room 3 _ := hr.mono (by decide)
    refine ⟨_, pss_cons (ps_if (PW.pt (pw_or (pt_not (pt_val (pe_callB call_isi (by rfl) mi (by decide +kernel) (pa_cons (pv 0) (pa_cons (pe_bltn (v := .ty "list") (by rfl) mli (by decide +kernel) rfl) pa_nil)))))
        (pw_or1 (pt_not (pt_val (pe_callB (cr_all rfl) (by rfl) ma (by decide +kernel) (pa_cons (pe_lc (own := [("line", 4)]) (g := gName 4) (tt := tYes) (by rfl) sc.nd (pi_list (pv 0))
          (blkOk_by (own := [("line", 4)]) (N := ["lines", "heads", "begin", "end", "line"]) (sc := defScope sReadHeads) (by decide +kernel)) (fun _ _ _ _ _ => pg_name (i := 4) sc.nd rfl (Or.inl rfl)) (fun _ _ _ _ _ => pts_nil)
          (fun _ _ _ _ _ => pe_call G1 hr3 (by rfl) g1 k1 b1 .nil pass0 (pa_cons (pv 4) pa_nil))) pa_nil))))))) (pss_one (ps_raise rfl (takes_of rfl rfl rfl rfl) (pmk_fld M hr3 (by rfl) (pa_cons pe_str pa_nil) [.int 0] (.inr rfl)))) pss_nil)
      (pss_cons (ps_set (i := 1) sc.nd rfl (.inl rfl) (pe_lst pa_nil))
      (pss_cons (ps_set (i := 2) sc.nd rfl (.inl rfl) pe_int)
      (pss_cons (ps_while (passes_of rfl) (pt_cmpR op_lt (pv 2) (pe_callB call_len_seq (by rfl) ml PySem.boot_len (pa_cons (pv 0) pa_nil)) (nomark _))
        (pss_cons (ps_set (i := 3) sc.nd rfl (.inl rfl) (pe_call G2 (hr.mono (by decide)) (by rfl) g2 k2 b2 .nil pass0 (pa_cons (pv 0) (pa_cons (pv 2) pa_nil))))
        (pss_cons (ps_expr (pe_bm PySem.F.plainAttrs_list PySem.F.slot_list_append PySem.F.type_list_append mt_append (pv 1) (pa_cons (pe_call G3 hr (by rfl) g3 k3 b3 .nil (E := E) (passes_call (takes_of rfl rfl rfl rfl) (fun _ _ _ _ h => h))
          (pa_cons (pe_slice sl_list (pv 0) (po_some (pv 2)) (po_some (pv 3))) (pa_cons (pv 2) pa_nil))) pa_nil)))
        (pss_one (ps_set (i := 2) sc.nd rfl (.inl rfl) (pv 3))))))
      (pss_one (ps_ret (pv 1)))))), ?_⟩
    rcases h with ⟨t, ht, hk, qe⟩ | ⟨a, us, rfl, hH, hul, hus, h⟩
    · exact ⟨_, rfl, _, _, t, .type "list", false, rfl, ClsV.ty "list", ht, hk, false, rfl, iteT (iteT (mk_leaf rfl (by decide) qe))⟩
    · refine ⟨_, rfl, _, _, .type "list", .type "list", true, rfl, ClsV.ty "list", .base (.lst hH), kit_ty (by decide +kernel), true, rfl, iteF ?_⟩
      refine ⟨_, rfl, a, rfl, ⟨_, SqL.of hH⟩, fun D hD => ?_⟩
      have hDa : D ≠ a := fun e => by rw [e, hH] at hD; cases hD
      refine lc_it (walk_list (K := K) (a := a) (xs := us.map (·.1))) (fun i H' => Same H H' ∧ H' D = some (.lst ((us.take i).map fun u => V.bl u.2))) ⟨same_new hD, upd_same⟩ (fun i H' _ p => SqL.of (p.1 _ _ hH)) (fun i x H1 H2 hi hp hy => ?_) (fun H1 hp => ?_)
      · obtain ⟨rfl, hx⟩ := hy
        obtain ⟨sm, hd⟩ := hp
        rw [List.length_map] at hi
        have hu : us[i]? = some us[i] := List.getElem?_eq_getElem hi
        rw [List.getElem?_map, hu] at hx
        injection hx with hx
        subst hx
        refine ⟨rfl, ?_⟩
        unfold tYes
        refine iteT ?_
        have key : ∀ H9, Same H2 H9 → ∃ acc, H9 D = some (.lst acc) ∧ acc.length < sizeLine ∧ (Same H (upd H9 D (.lst (acc ++ [V.bl us[i].2]))) ∧ (upd H9 D (.lst (acc ++ [V.bl us[i].2]))) D = some (.lst ((us.take (i + 1)).map fun u => V.bl u.2))) := fun H9 s9 => by
          refine ⟨_, s9 _ _ hd, ?_, same_set (sm.trans s9) hD, ?_⟩
          · rw [List.length_map]
            exact Nat.lt_of_le_of_lt (List.length_take_le _ _) (szl (by omega))
          · rw [upd_same, take_more hu, List.map_append]
            rfl
        refine ⟨_, rfl, us[i].1, rfl, ?_⟩
        rcases hus H2 sm us[i] (List.getElem_mem hi) with ⟨z, hz1, hz2, hz3⟩ | ⟨hz, t, ht, hk⟩
        · refine .inl ⟨z, hz1, hz2, fun H9 s9 => ?_⟩
          rw [← hz3]
          exact key H9 s9
        · refine .inr ⟨t, ht, hk, ?_⟩
          have := key H2 (Same.refl H2)
          rw [hz] at this
          exact this
      · obtain ⟨sm, hd⟩ := hp
        have e : us.take (us.map (·.1)).length = us := List.take_of_length_le (by rw [List.length_map]; exact Nat.le_refl _)
        rw [e] at hd
        refine ⟨D, us.map (·.2), rfl, SqL.of (by rw [List.map_map]; exact hd), ?_⟩
        have eall : (us.map (·.2)).all id = us.all (·.2) := by rw [List.all_map]; rfl
        rw [eall]
        rcases h with ⟨hall, qe⟩ | ⟨hall, zs, n, r, huz, htot, hR, q, qe⟩
        · rw [hall]
          exact ⟨_, rfl, iteT (mk_leaf rfl (by decide) (Fails.later qe sm))⟩
        · rw [hall]
          refine ⟨_, rfl, iteF ?_⟩
          rw [huz] at hH
          have hzl : zs.length ≤ 9000 := by
            have := congrArg List.length huz
            rw [List.length_map, List.length_map] at this
            omega
          have hcl : (codesOf zs).length = zs.length := List.length_map ..
          refine ⟨Nat.zero_le _, fun L nL0 => ?_⟩
          have nL : H L = none := Same.free sm nL0
          refine ⟨fun m σ H' => ∃ (n b : Nat) (Ts : List Addr) (dn : List (Ln × Ln)) (r' : Except Nat (List (Ln × Ln))) (y3 y4 : Option V), σ = [some (.ref a), some (.ref L), some (.int (b : Nat)), y3, y4] ∧ Same H H' ∧ H' L = some (.lst (Ts.map V.ref)) ∧ HeadsAt H H' Ts dn ∧ readR (codesOf zs) n b = some r' ∧ r = glueH dn r' ∧ dn.length ≤ b ∧ b ≤ zs.length ∧ m = n,
            ⟨n, n, 0, [], [], r, none, none, rfl, same_set sm nL, upd_same, .nil, hR, by cases r <;> rfl, Nat.le_refl _, Nat.zero_le _, rfl⟩, fun m σ H' hW => ?_⟩
          obtain ⟨n', b, Ts, dn, r', y3, y4, rfl, sm2, hL, hT, hC, hr', hdn, hb, rfl⟩ := hW
          refine ⟨_, rfl, _, rfl, a, _, rfl, .inl (SqL.of (sm2 _ _ hH)), _, _, rfl, rfl, _, rfl, ?_⟩
          rw [List.length_map]
          by_cases h1 : b < zs.length
          · rw [decide_eq_true (by omega : (b : Int) < (zs.length : Int))]
            cases m with
            | zero =>
              exfalso
              unfold readR at hC
              rw [if_pos (by omega)] at hC
              cases hC
            | succ n' =>
              unfold readR at hC
              rw [if_pos (by omega)] at hC
              obtain ⟨he1, he2⟩ := headEnd_le (ls := codesOf zs) (b := b) (by omega)
              rw [hcl] at he2
              refine iteT ⟨fun σ' H'' => ∃ (b : Nat) (Ts : List Addr) (dn : List (Ln × Ln)) (r' : Except Nat (List (Ln × Ln))) (y3 y4 : Option V), σ' = [some (.ref a), some (.ref L), some (.int (b : Nat)), y3, y4] ∧ Same H H'' ∧ H'' L = some (.lst (Ts.map V.ref)) ∧ HeadsAt H H'' Ts dn ∧ readR (codesOf zs) n' b = some r' ∧ r = glueH dn r' ∧ dn.length ≤ b ∧ b ≤ zs.length, fun σ' H'' hN => ?_, ?_⟩
              · obtain ⟨b, Ts, dn, r2, y3, y4, a1, a2, a3, a4, a5, a6, a7, a8⟩ := hN
                exact ⟨n', Nat.lt_succ_self _, n', b, Ts, dn, r2, y3, y4, a1, a2, a3, a4, a5, a6, a7, a8, rfl⟩
              · refine ⟨_, rfl, _, rfl, a, zs, b, rfl, sm2 _ _ hH, h1, ?_⟩
                generalize hE : headEnd (codesOf zs) b = e at hC he1 he2 ⊢
                refine ⟨_, rfl, .inl ⟨rfl, _, SqL.of hL⟩, _, rfl, _, rfl, _, rfl, _, rfl, _, rfl, a, _, rfl, SqL.of (sm2 _ _ hH), fun p np => ?_⟩
                have hcut : cutV (zs.map V.str) (some (b : Nat)) (some (e : Nat)) = ((zs.drop b).take (e - b)).map V.str := by
                  rw [cutV_nat _ (by rw [List.length_map]; omega) (by rw [List.length_map]; omega), List.map_take, List.map_drop]
                have hco : codesOf ((zs.drop b).take (e - b)) = ((codesOf zs).drop b).take (e - b) := by
                  unfold codesOf
                  rw [List.map_take, List.map_drop]
                have hsl : ((zs.drop b).take (e - b)).length ≤ 9000 := by
                  rw [List.length_take, List.length_drop]
                  omega
                have hpl : ((zs.drop b).take (e - b)) ≠ [] := fun z => by
                  have := congrArg List.length z
                  rw [List.length_take, List.length_drop, List.length_nil] at this
                  omega
                refine ⟨_, rfl, p, (zs.drop b).take (e - b), b, rfl, by rw [upd_same, hcut], hpl, Nat.le_trans (total_sub ((List.take_sublist _ _).trans (List.drop_sublist _ _))) htot, by omega, fun h hh H3 T s3 nT hT3 => ?_, fun hh => ?_⟩
                · rw [hco] at hh
                  rw [hh] at hC
                  obtain ⟨r2, hr1, hr2⟩ := Option.map_eq_some_iff.mp hC
                  have s4 : Same H' H3 := (same_new np).trans s3
                  have nT0 : H T = none := Same.free (sm2.trans (same_new np)) nT
                  have hL3 := s4 _ _ hL
                  have nT1 : H' T = none := Same.free (same_new np) nT
                  have hLT : L ≠ T := ne_of_none hL nT1
                  have hlen : dn.length = Ts.length := (Paired.length hT).symm
                  refine ⟨L, _, _, rfl, rfl, hL3, by rw [List.length_map]; exact szl (by omega), ?_⟩
                  have hT4 : (upd H3 L (.lst (Ts.map V.ref ++ [V.ref T]))) T = some (.tup (heV h)) := by rw [upd_ne hLT.symm]; exact hT3
                  refine ⟨_, rfl, e, Ts ++ [T], dn ++ [h], r2, _, _, rfl, same_set (sm2.trans s4) nL, ?_, ?_, hr1, ?_, by rw [List.length_append, List.length_singleton]; omega, he2⟩
                  · rw [upd_same, List.map_append]
                    rfl
                  · refine Paired.snoc (HeadsAt.same hT fun T' x _ hx => ?_) ⟨nT0, hT4⟩
                    have hne : T' ≠ L := fun e => by
                      rw [e, hL] at hx
                      cases hx
                    rw [upd_ne hne]
                    exact s4 _ _ hx
                  · rw [hr', ← hr2]
                    cases r2 with
                    | ok ws => show Except.ok (dn ++ _) = Except.ok ((dn ++ _) ++ _); rw [List.append_assoc]; rfl
                    | error q => rfl
                · rw [hco] at hh
                  rw [hh] at hC
                  injection hC with hC
                  rw [← hC] at hr'
                  exact (Fails.later (qe b hr') (sm2.trans (same_new np)))
          · rw [decide_eq_false (by omega : ¬ (b : Int) < (zs.length : Int))]
            refine iteF ⟨_, rfl, ?_⟩
            have hr0 : r' = .ok [] := by
              cases m with
              | zero =>
                unfold readR at hC
                rw [if_neg (by omega)] at hC
                injection hC with hC
                exact hC.symm
              | succ n' =>
                unfold readR at hC
                rw [if_neg (by omega)] at hC
                injection hC with hC
                exact hC.symm
            rw [hr0] at hr'
            have hr2 : r = .ok dn := by
              rw [hr']
              show Except.ok (dn ++ []) = _
              rw [List.append_nil]
            exact q dn hr2 H' L Ts sm2 nL hL hT
end
end FL

namespace FL
open PySem PySem.Spec PyProof.Rows L2
/-! ### where a line is folded -/
def mayF (l : List Nat) (p : Nat) : Bool := decide (l[p]? = some 32) && !decide (l[p - 1]? = some 32)
/-- the place o at which a line is folded, from first on -/
structure IsPlace (l : List Nat) (first : Nat) (o : Option Nat) : Prop where
  none_ : o = none → l.length ≤ 72 ∨ ∀ p, first ≤ p → p < l.length → mayF l p = false
  some_ : ∀ c, o = some c → 72 < l.length ∧ first ≤ c ∧ c < l.length ∧ mayF l c = true ∧ ((c ≤ 72 ∧ ∀ p, c < p → p ≤ 72 → mayF l p = false) ∨ (72 < c ∧ ∀ p, first ≤ p → p < c → mayF l p = false))
theorem is_none {l : List Nat} {first : Nat} (h : l.length ≤ 72 ∨ ∀ p, first ≤ p → p < l.length → mayF l p = false) : IsPlace l first none := ⟨fun _ => h, fun c hc => by cases hc⟩
theorem is_some {l : List Nat} {first c : Nat} (h : 72 < l.length ∧ first ≤ c ∧ c < l.length ∧ mayF l c = true ∧ ((c ≤ 72 ∧ ∀ p, c < p → p ≤ 72 → mayF l p = false) ∨ (72 < c ∧ ∀ p, first ≤ p → p < c → mayF l p = false))) : IsPlace l first (some c) :=
  ⟨fun z => (by cases z), fun d hd => Option.some.inj hd ▸ h⟩
theorem IsPlace.uniq {l : List Nat} {first : Nat} {a b : Option Nat} (x : IsPlace l first a) (y : IsPlace l first b) : a = b := by
  have key : ∀ {a b : Option Nat}, IsPlace l first a → IsPlace l first b → ∀ c, a = some c → b = some c := fun {a b} x y c hc => by
    obtain ⟨h1, h2, h3, h4, h5⟩ := x.some_ c hc
    cases hb : b with
    | none =>
      rcases y.none_ hb with h | h
      · omega
      · rw [h c h2 h3] at h4
        cases h4
    | some d =>
      obtain ⟨g1, g2, g3, g4, g5⟩ := y.some_ d hb
      have : d = c := by
        rcases Nat.lt_trichotomy c d with h | h | h
        · exfalso
          rcases h5 with ⟨e1, e2⟩ | ⟨e1, e2⟩
          · rcases g5 with ⟨k1, k2⟩ | ⟨k1, k2⟩
            · rw [e2 d h k1] at g4; cases g4
            · rw [k2 c h2 h] at h4; cases h4
          · rcases g5 with ⟨k1, k2⟩ | ⟨k1, k2⟩
            · omega
            · rw [k2 c h2 h] at h4; cases h4
        · exact h.symm
        · exfalso
          rcases g5 with ⟨e1, e2⟩ | ⟨e1, e2⟩
          · rcases h5 with ⟨k1, k2⟩ | ⟨k1, k2⟩
            · rw [e2 c h k1] at h4; cases h4
            · rw [k2 d g2 h] at g4; cases g4
          · rcases h5 with ⟨k1, k2⟩ | ⟨k1, k2⟩
            · omega
            · rw [k2 d g2 h] at g4; cases g4
      rw [this]
  cases a with
  | some c => exact (key x y c rfl).symm
  | none =>
    cases b with
    | none => rfl
    | some d => exact key y x d rfl
/-- the lines of a head, folded -/
inductive Folded : List Nat → Nat → List (List Nat) → Prop
  | last {l : List Nat} {first : Nat} : IsPlace l first none → Folded l first [l]
  | more {l : List Nat} {first p : Nat} {r : List (List Nat)} : IsPlace l first (some p) → Folded (l.drop p) 1 r → Folded l first (l.take p :: r)
theorem Folded.uniq {l : List Nat} {first : Nat} {a : List (List Nat)} (x : Folded l first a) : ∀ {b : List (List Nat)}, Folded l first b → a = b := by
  induction x with
  | last h =>
    intro b y
    cases y with
    | last _ => rfl
    | more h2 _ => cases h.uniq h2
  | more h _ ih =>
    intro b y
    cases y with
    | last h2 => cases h.uniq h2
    | more h2 h3 =>
      have e := h.uniq h2
      injection e with e
      subst e
      rw [ih h3]
/-- the text of the lines, each with its line feed -/
def linesL (ls : List (List Nat)) : List Nat := (ls.map fun l => l ++ [10]).flatten
/-- what a head is written as -/
def FoldOut (n v out : List Nat) : Prop := (v = [] ∧ out = n ++ [58, 10]) ∨ (v ≠ [] ∧ ∃ ls, Folded (n ++ [58, 32] ++ v) (n.length + 2) ls ∧ out = linesL ls)
theorem FoldOut.uniq {n v a b : List Nat} (x : FoldOut n v a) (y : FoldOut n v b) : a = b := by
  rcases x with ⟨x1, x2⟩ | ⟨x1, ls, x2, x3⟩
  · rcases y with ⟨y1, y2⟩ | ⟨y1, _⟩
    · rw [x2, y2]
    · exact absurd x1 y1
  · rcases y with ⟨y1, y2⟩ | ⟨y1, ms, y2, y3⟩
    · exact absurd y1 x1
    · rw [x3, y3, x2.uniq y2]
theorem joinL_lines : ∀ ls : List (List Nat), ls ≠ [] → TL.joinL [10] ls ++ [10] = linesL ls
  | [], h => absurd rfl h
  | [p], _ => by simp [TL.joinL, linesL]
  | p :: q :: r, _ => by
    have ih := joinL_lines (q :: r) (by simp)
    show (p ++ ([10] ++ TL.joinL [10] (q :: r))) ++ [10] = (p ++ [10]) ++ linesL (q :: r)
    rw [← ih]
    simp
section
variable {P : Program} {w : World} {K : PySem.W.Frag} {mg : Str → Option Value} {base : Heap}
theorem scIsValue : FnScope ["value"] ["value"] (defScope sIsValue) := ⟨rfl, rfl, rfl, by decide +kernel, rfl, by decide +kernel, by decide +kernel⟩
theorem r_is_value (A : FnAt K mg "is_value" sIsValue) (RI : Ready P w K mg base 3 "is_line" ["value"] (spLine K isLn)) : Ready P w K mg base 4 "is_value" ["value"] (spLine K isVal) := by
  obtain ⟨f1, fd1, g1, k1, b1, G1⟩ := RI
  refine ready_of A (fun _ _ _ _ _ _ us hl => match us, hl with | [_], _ => rfl) fun f fd F => ?_
  refine F.ok scIsValue (fun vs H Q E h => ?_) (fun cdv A outer s H vs Q E hr h => ?_)
  · obtain ⟨v, rfl, _⟩ := h
    rfl
  · obtain ⟨v, rfl, q⟩ := h
    refine ⟨_, pss_one (ps_ret (pe_and (pe_call G1 hr (by rfl) g1 k1 b1 .nil pass0 (pa_cons (pv 0) pa_nil)) (pe_one (pe_cmpR op_eq (pv 0)
      (pe_bm PySem.F.plainAttrs_str PySem.F.slot_str_strip PySem.F.type_str_strip mt_stripChars (pv 0) (pa_cons pe_str pa_nil)) (nomark _))))), ?_⟩
    refine ⟨_, rfl, v, rfl, ?_⟩
    rcases q with ⟨z, rfl, hz, q⟩ | ⟨t, ht, hk, q⟩
    · refine .inl ⟨z, rfl, hz, fun H0 s0 => ⟨_, rfl, ?_⟩⟩
      cases hl : isLn z.cps.toList with
      | false => exact iteF (bl_to (by unfold isVal; rw [hl]; rfl) (q H0 s0))
      | true =>
        refine iteT ⟨_, rfl, _, rfl, rfl, z, _, rfl, rfl, Nat.le_of_lt (szl hz), rfl, bl_to ?_ (q H0 s0)⟩
        unfold isVal
        rw [hl, Bool.true_and]
        refine decide_eq_decide.mpr ⟨fun h => ?_, fun h => ?_⟩
        · injection h with h
          rw [← strip_codes, ← h]
        · have := mk_eq ((strip_codes z).trans h)
          rw [this, mk_of]
    · exact .inr ⟨t, ht, hk, ⟨_, rfl, iteF q⟩⟩
def spMay : Sp := fun vs H Q _ => ∃ (z : Str) (p : Nat), vs = [.str z, .int (p : Nat)] ∧ 1 ≤ p ∧ p < z.length ∧ z.length ≤ 10000 ∧ Q (.bl (mayF z.cps.toList p)) H
theorem scMayFold : FnScope ["line", "place"] ["line", "place"] (defScope sMayFold) := ⟨rfl, rfl, rfl, by decide +kernel, rfl, by decide +kernel, by decide +kernel⟩
theorem r_may_fold (A : FnAt K mg "_may_fold" sMayFold) : Ready P w K mg base 1 "_may_fold" ["line", "place"] spMay := by
  refine ready_of A (fun _ _ _ _ _ _ us hl => match us, hl with | [_, _], _ => rfl) fun f fd F => ?_
  refine F.ok scMayFold (fun vs H Q E h => ?_) (fun cdv A outer s H vs Q E hr h => ?_)
  · obtain ⟨z, p, rfl, _⟩ := h
    rfl
  · obtain ⟨z, p, rfl, h1, h2, hz, q⟩ := h
    refine ⟨_, pss_one (ps_ret (pe_and (pe_cmpR op_eq (pe_item_str (pv 0) (pv 1) (fun _ _ => rfl)) pe_str (nomark _)) (pe_one (pe_cmpR op_ne (pe_item_str (pv 0) (pe_op op_sub (pv 1) pe_int) (fun _ _ => rfl)) pe_str (nomark _))))), ?_⟩
    have hsz : z.cps.size = z.length := rfl
    obtain ⟨c, hc⟩ : ∃ c, z.cps[p]? = some c := ⟨_, Array.getElem?_eq_getElem (show p < z.cps.size from h2)⟩
    obtain ⟨d, hd⟩ : ∃ d, z.cps[p - 1]? = some d := ⟨_, Array.getElem?_eq_getElem (show p - 1 < z.cps.size by omega)⟩
    refine ⟨_, rfl, _, rfl, z, p, c, rfl, rfl, by omega, by omega, by omega, by rw [Int.toNat_natCast]; exact hc, rfl, _, rfl, ?_⟩
    rw [show decide (V.str ⟨#[c]⟩ = V.str (" " : Str)) = decide (c = 32) from sign_is rfl]
    have e : mayF z.cps.toList p = (decide (c = 32) && !decide (d = 32)) := by
      unfold mayF
      rw [cps_at hc, cps_at hd]
      simp
    refine ite2 (fun h => ?_) (fun h => ?_)
    · refine ⟨_, rfl, _, rfl, _, _, rfl, rfl, z, (p : Int) - 1, d, rfl, rfl, by omega, by omega, by omega, ?_, rfl, bl_to ?_ q⟩
      · rw [show ((p : Int) - 1).toNat = p - 1 by omega]
        exact hd
      · rw [show decide (V.str ⟨#[d]⟩ = V.str (" " : Str)) = decide (d = 32) from sign_is rfl, e, h]
        rfl
    · exact bl_to (by rw [e, eq_false_of_ne_true h]; rfl) q
def optV : Option Nat → V
  | none => .non
  | some p => .int (p : Nat)
def spPlace : Sp := fun vs H Q _ => ∃ (z : Str) (first : Nat), vs = [.str z, .int (first : Nat)] ∧ 1 ≤ first ∧ first ≤ 72 ∧ z.length ≤ 10000 ∧ ∀ o, IsPlace z.cps.toList first o → Q (optV o) H
theorem scFoldPlace : FnScope ["line", "first", "place"] ["line", "first"] (defScope sFoldPlace) := ⟨rfl, rfl, rfl, by decide +kernel, rfl, by decide +kernel, by decide +kernel⟩
theorem r_fold_place (A : FnAt K mg "_fold_place" sFoldPlace) (RM : Ready P w K mg base 1 "_may_fold" ["line", "place"] spMay) (ml : mg "len" = none) (mr : mg "range" = none) {tp : Tok} (mp : mg "WIDTH" = some (.int 72 tp)) :
    Ready P w K mg base 2 "_fold_place" ["line", "first"] spPlace := by
  obtain ⟨f1, fd1, g1, k1, b1, G1⟩ := RM
  refine ready_of A (fun _ _ _ _ _ _ us hl => match us, hl with | [_, _], _ => rfl) fun f fd F => ?_
  refine F.ok scFoldPlace (fun vs H Q E h => ?_) (fun cdv A outer s H vs Q E hr h => ?_)
  · obtain ⟨z, fi, rfl, _⟩ := h
    rfl
  · obtain ⟨z, fi, rfl, hf1, hf2, hz, q⟩ := h
    have sc := scFoldPlace
    refine ⟨_, pss_cons (ps_if (pt_cmpR op_le (pe_callB call_len_str (by rfl) ml PySem.boot_len (pa_cons (pv 0) pa_nil)) (pe_glob (v := .int 72) rfl mp ⟨tp, rfl⟩) (nomark _)) (pss_one (ps_ret pe_non)) pss_nil)
      (pss_cons (ps_for PassesOwn.never rfl (pi_range3 (by rfl) mr (pa_cons (pe_glob (v := .int 72) rfl mp ⟨tp, rfl⟩) (pa_cons (pe_op op_sub (pv 1) pe_int) (pa_cons (pe_un un_neg pe_int) pa_nil)))) (pg_name (i := 2) sc.nd rfl (.inl rfl))
        (pss_one (ps_if (pt_val (pe_call G1 hr (by rfl) g1 k1 b1 .nil pass0 (pa_cons (pv 0) (pa_cons (pv 2) pa_nil)))) (pss_one (ps_ret (pv 2))) pss_nil)))
      (pss_cons (ps_for PassesOwn.never rfl (pi_range2 (by rfl) mr (pa_cons (pe_op op_add (pe_glob (v := .int 72) rfl mp ⟨tp, rfl⟩) pe_int) (pa_cons (pe_callB call_len_str (by rfl) ml PySem.boot_len (pa_cons (pv 0) pa_nil)) pa_nil))) (pg_name (i := 2) sc.nd rfl (.inl rfl))
        (pss_one (ps_if (pt_val (pe_call G1 hr (by rfl) g1 k1 b1 .nil pass0 (pa_cons (pv 0) (pa_cons (pv 2) pa_nil)))) (pss_one (ps_ret (pv 2))) pss_nil)))
      (pss_one (ps_ret pe_non)))), ?_⟩
    have hzl := len_cps z
    refine ⟨_, rfl, z, rfl, Nat.le_of_lt (szl hz), _, _, rfl, rfl, _, rfl, ite2 (fun h => ?_) (fun h => ?_)⟩
    · have h72 := of_decide_eq_true h
      exact q none (is_none (.inl (by omega)))
    · have h72 : ¬ ((z.length : Int) ≤ 72) := fun z => h (decide_eq_true z)
      refine ⟨_, rfl, _, _, rfl, rfl, 1, rfl, 72, (fi : Int) - 1, -1, ((72 : Int) - ((fi : Int) - 1)).toNat, rfl, RgC.neg (by decide) (by decide) (by omega) (by omega), ?_⟩
      refine for_rangeC (fun i σ H' => ∃ y, σ = [some (.str z), some (.int (fi : Nat)), y] ∧ H' = H ∧ ∀ p, 72 < p + i → fi ≤ p → p ≤ 72 → mayF z.cps.toList p = false) ⟨none, rfl, rfl, fun p h1 _ h2 => by omega⟩ (fun i σ H' hi hp => ?_) (fun σ H' hp => ?_)
      · obtain ⟨y, rfl, rfl, hp⟩ := hp
        have hpl : ((72 : Int) + (i : Nat) * (-1)) = ((72 - i : Nat) : Int) := by omega
        refine ⟨_, rfl, _, rfl, z, 72 - i, by rw [hpl]; rfl, by omega, by omega, hz, _, rfl, ?_⟩
        cases hm : mayF z.cps.toList (72 - i) with
        | true =>
          refine iteT ⟨_, rfl, ?_⟩
          rw [hpl]
          exact q (some (72 - i)) (is_some ⟨by omega, by omega, by omega, hm, .inl ⟨by omega, fun p h1 h2 => hp p (by omega) (by omega) h2⟩⟩)
        | false =>
          refine iteF ⟨_, rfl, rfl, fun p h1 h2 h3 => ?_⟩
          by_cases e : p = 72 - i
          · rw [e]; exact hm
          · exact hp p (by omega) h2 h3
      · obtain ⟨y, rfl, rfl, hp⟩ := hp
        have hp' : ∀ p, fi ≤ p → p ≤ 72 → mayF z.cps.toList p = false := fun p h1 h2 => hp p (by omega) h1 h2
        refine ⟨_, _, rfl, rfl, _, rfl, z, rfl, Nat.le_of_lt (szl hz), 73, z.length, rfl, ⟨by decide, by decide, by omega, by omega⟩, ?_⟩
        refine for_range (fun i σ H'' => ∃ y, σ = [some (.str z), some (.int (fi : Nat)), y] ∧ H'' = H' ∧ ∀ p, fi ≤ p → p < 73 + i → mayF z.cps.toList p = false) ⟨y, rfl, rfl, fun p h1 h2 => hp' p h1 (by omega)⟩ (fun i σ H'' hi hq => ?_) (fun σ H'' hq => ?_)
        · obtain ⟨y2, rfl, rfl, hq⟩ := hq
          have hpl : ((73 : Int) + (i : Nat)) = ((73 + i : Nat) : Int) := by omega
          refine ⟨_, rfl, _, rfl, z, 73 + i, by rw [hpl]; rfl, by omega, by omega, hz, _, rfl, ?_⟩
          cases hm : mayF z.cps.toList (73 + i) with
          | true =>
            refine iteT ⟨_, rfl, ?_⟩
            rw [hpl]
            exact q (some (73 + i)) (is_some ⟨by omega, by omega, by omega, hm, .inr ⟨by omega, fun p h1 h2 => hq p h1 h2⟩⟩)
          | false =>
            refine iteF ⟨_, rfl, rfl, fun p h1 h2 => ?_⟩
            by_cases e : p = 73 + i
            · rw [e]; exact hm
            · exact hq p h1 (by omega)
        · obtain ⟨y2, rfl, rfl, hq⟩ := hq
          exact q none (is_none (.inr fun p h1 h2 => hq p h1 (by omega)))
end
end FL

namespace FL
open PySem PySem.Spec PyProof.Rows L2
theorem szl2 {n : Nat} (h : n ≤ 100000) : n < sizeLine := Nat.lt_of_le_of_lt h (by decide)
theorem cutS_to (z : Str) (p : Nat) : (cutS z none (some (p : Nat))).cps.toList = z.cps.toList.take p := by
  unfold cutS
  rw [HT.sIx_none, HT.sIx_nat]
  show (List.take _ (List.drop 0 _)) = _
  have hl := len_cps z
  rw [List.drop_zero, Nat.sub_zero]
  by_cases h : p ≤ z.length
  · rw [Nat.min_eq_left h]
  · rw [Nat.min_eq_right (by omega), List.take_of_length_le (by omega), List.take_of_length_le (by omega)]
theorem cutS_from (z : Str) {p : Nat} (h : p ≤ z.length) : (cutS z (some (p : Nat)) none).cps.toList = z.cps.toList.drop p := by
  unfold cutS
  rw [HT.sIx_none, HT.sIx_nat, Nat.min_eq_left h]
  show (List.take _ (List.drop p _)) = _
  exact List.take_of_length_le (by rw [List.length_drop, len_cps]; omega)
/-- v is no text of which f holds -/
def NoOf (f : List Nat → Bool) (K : PySem.W.Frag) (H : Hp) (v : V) : Prop := (∃ z : Str, v = .str z ∧ z.length ≤ 10000 ∧ f z.cps.toList = false) ∨ (∃ t, TyX K H v t ∧ PySem.W.kitOne K t (.type "str") = some false)
def spFoldX (K : PySem.W.Frag) (C : Addr) : Sp := fun vs H Q E => ∃ a b : V, vs = [a, b] ∧
  ((∃ n v : Str, a = .str n ∧ b = .str v ∧ n.length ≤ 10000 ∧ v.length ≤ 9000 ∧ isNm n.cps.toList = true ∧ isVal v.cps.toList = true ∧ ∀ out H', Same H H' → FoldOut n.cps.toList v.cps.toList out → Q (.str (mk out)) H') ∨
    (NoOf isNm K H a ∧ Fails C "line" 0 H E) ∨
    (∃ n : Str, a = .str n ∧ n.length ≤ 10000 ∧ isNm n.cps.toList = true ∧ (∀ H', Same H H' → NoOf isVal K H' b) ∧ Fails C "line" 0 H E))
theorem isNm_len {l : List Nat} (h : isNm l = true) : 1 ≤ l.length ∧ l.length ≤ 30 := by
  unfold isNm at h
  simp only [Bool.and_eq_true, decide_eq_true_eq] at h
  exact h.2.1
section
variable {P : Program} {w : World} {K : PySem.W.Frag} {mg : Str → Option Value} {base : Heap}
theorem scFold : FnScope ["name", "value", "line", "folded", "place"] ["name", "value"] (defScope sFold) := ⟨rfl, rfl, rfl, by decide +kernel, rfl, by decide +kernel, by decide +kernel⟩
theorem x_fold_of {C f : Addr} {fd : FuncData} (F : Fun K "fold" "fold" sFold f fd) (M : MkFld P w K mg base "NoHead" C "line") (RN : Ready P w K mg base 4 "is_name" ["value"] (spLine K isNm)) (RV : Ready P w K mg base 4 "is_value" ["value"] (spLine K isVal))
    (RP : Ready P w K mg base 2 "_fold_place" ["line", "first"] spPlace) (ml : mg "len" = none) : FnOk P w K mg base (L2.CX P w) 5 f fd ["name", "value"] (spFoldX K C) := by
  obtain ⟨f1, fd1, g1, k1, b1, G1⟩ := RN
  obtain ⟨f2, fd2, g2, k2, b2, G2⟩ := RV
  obtain ⟨f3, fd3, g3, k3, b3, G3⟩ := RP
  refine F.okX scFold (fun vs H Q E h => ?_) (fun cdv A outer s H vs Q E hr h => ?_)
  · obtain ⟨a, b, rfl, _⟩ := h
    rfl
  · obtain ⟨a, b, rfl, h⟩ := h
    have sc := scFold
    refine ⟨_, pss_cons (ps_if (pt_not (pt_val (pe_call G1 hr (by rfl) g1 k1 b1 .nil pass0 (pa_cons (pv 0) pa_nil)))) (pss_one (ps_raise rfl (takes_of rfl rfl rfl rfl) (pmk_fld M (hr.mono (by decide)) (by rfl) (pa_cons pe_str pa_nil) [.int 0] (.inr rfl)))) pss_nil)
      (pss_cons (ps_if (pt_not (pt_val (pe_call G2 hr (by rfl) g2 k2 b2 .nil pass0 (pa_cons (pv 1) pa_nil)))) (pss_one (ps_raise rfl (takes_of rfl rfl rfl rfl) (pmk_fld M (hr.mono (by decide)) (by rfl) (pa_cons pe_str pa_nil) [.int 0] (.inr rfl)))) pss_nil)
      (pss_cons (ps_if (pt_cmpR op_eq (pv 1) pe_str (nomark _)) (pss_one (ps_ret (pe_op op_add_str (pv 0) pe_str))) pss_nil)
      (pss_cons (ps_set (i := 2) sc.nd rfl (.inl rfl) (pe_op op_add_str (pe_op op_add_str (pv 0) pe_str) (pv 1)))
      (pss_cons (ps_set (i := 3) sc.nd rfl (.inl rfl) (pe_lst pa_nil))
      (pss_cons (ps_set (i := 4) sc.nd rfl (.inl rfl) (pe_call G3 (hr.mono (by decide)) (by rfl) g3 k3 b3 .nil pass0 (pa_cons (pv 2) (pa_cons (pe_op op_add (pe_callB call_len_str (by rfl) ml PySem.boot_len (pa_cons (pv 0) pa_nil)) pe_int) pa_nil))))
      (pss_cons (ps_while (passes_of rfl) (pt_cmpR op_notN (pv 4) pe_non (nomark _))
        (pss_cons (ps_expr (pe_bm PySem.F.plainAttrs_list PySem.F.slot_list_append PySem.F.type_list_append mt_append (pv 3) (pa_cons (pe_slice sl_str (pv 2) po_none (po_some (pv 4))) pa_nil)))
        (pss_cons (ps_set (i := 2) sc.nd rfl (.inl rfl) (pe_slice sl_str (pv 2) (po_some (pv 4)) po_none))
        (pss_one (ps_set (i := 4) sc.nd rfl (.inl rfl) (pe_call G3 (hr.mono (by decide)) (by rfl) g3 k3 b3 .nil pass0 (pa_cons (pv 2) (pa_cons pe_int pa_nil))))))))
      (pss_cons (ps_expr (pe_bm PySem.F.plainAttrs_list PySem.F.slot_list_append PySem.F.type_list_append mt_append (pv 3) (pa_cons (pv 2) pa_nil)))
      (pss_one (ps_ret (pe_op op_add_str (pe_join pe_str (pv 3)) pe_str)))))))))), ?_⟩
    have j10 : ("\n" : Str).cps.toList = [10] := by decide +kernel
    have l10 : ("\n" : Str).length = 1 := by decide +kernel
    have jc : (":\n" : Str).cps.toList = [58, 10] := by decide +kernel
    have lc : (":\n" : Str).length = 2 := by decide +kernel
    have jb : (": " : Str).cps.toList = [58, 32] := by decide +kernel
    have lb : (": " : Str).length = 2 := by decide +kernel
    have e00 : (("" : Str)).cps.toList = [] := by decide +kernel
    rcases h with ⟨n, v, rfl, rfl, hn, hv, hnm, hvl, q⟩ | ⟨hno, qe⟩ | ⟨n, rfl, hn, hnm, hno, qe⟩
    · have hn30 := isNm_len hnm
      rw [len_cps] at hn30
      refine ⟨_, rfl, _, rfl, .inl ⟨n, rfl, hn, fun H0 s0 => ⟨_, rfl, ?_⟩⟩⟩
      rw [hnm]
      refine iteF ?_
      refine ⟨_, rfl, _, rfl, .inl ⟨v, rfl, by omega, fun H1 s1 => ⟨_, rfl, ?_⟩⟩⟩
      rw [hvl]
      refine iteF ?_
      refine ⟨_, rfl, rfl, _, rfl, ?_⟩
      have e0 : decide (V.str v = V.str ("" : Str)) = decide (v.cps.toList = []) := decide_eq_decide.mpr ⟨fun h => by
        injection h with h
        rw [h]
        exact e00, fun h => by
        have : v = mk [] := mk_eq h
        rw [this]
        rfl⟩
      rw [e0]
      refine ite2 (fun h => ?_) (fun h => ?_)
      · have hv0 := of_decide_eq_true h
        refine ⟨_, rfl, _, _, rfl, rfl, by rw [lc]; exact Nat.le_of_lt (szl (by omega)), ?_⟩
        have e : n ++ (":\n" : Str) = mk (n.cps.toList ++ [58, 10]) := mk_eq (by rw [show (n ++ (":\n" : Str)).cps.toList = n.cps.toList ++ (":\n" : Str).cps.toList from TL.tl_append _ _, jc])
        rw [e]
        exact q _ H1 (s0.trans s1) (.inl ⟨hv0, rfl⟩)
      · have hv0 : v.cps.toList ≠ [] := fun z => h (decide_eq_true z)
        have e : n ++ (": " : Str) ++ v = mk (n.cps.toList ++ [58, 32] ++ v.cps.toList) := mk_eq (by
          rw [show (n ++ (": " : Str) ++ v).cps.toList = (n ++ (": " : Str)).cps.toList ++ v.cps.toList from TL.tl_append _ _, show (n ++ (": " : Str)).cps.toList = n.cps.toList ++ (": " : Str).cps.toList from TL.tl_append _ _, jb])
        have hll : (n ++ (": " : Str) ++ v).length = n.length + 2 + v.length := by rw [len_append, len_append, lb]
        refine ⟨_, rfl, _, _, rfl, rfl, by rw [lb]; exact Nat.le_of_lt (szl (by omega)), _, rfl, _, _, rfl, rfl, by rw [len_append, lb]; exact Nat.le_of_lt (szl (by omega)), ?_⟩
        refine ⟨Nat.zero_le _, fun D nD1 => ?_⟩
        have nD : H D = none := Same.free (s0.trans s1) nD1
        refine ⟨_, rfl, _, rfl, n, rfl, Nat.le_of_lt (szl hn), _, _, rfl, rfl, n ++ (": " : Str) ++ v, n.length + 2, rfl, by omega, by omega, by omega, fun o ho => ?_⟩
        generalize hL : n ++ (": " : Str) ++ v = L at hll ho ⊢
        have hLc : L.cps.toList = n.cps.toList ++ [58, 32] ++ v.cps.toList := by
          rw [← hL, e, mk_codes]
        refine ⟨fun m σ H' => ∃ (z : Str) (fi : Nat) (o : Option Nat) (ys : List Str), σ = [some (.str n), some (.str v), some (.str z), some (.ref D), some (optV o)] ∧ Same H H' ∧ H' D = some (.lst (ys.map V.str)) ∧ IsPlace z.cps.toList fi o ∧ 1 ≤ fi ∧
          (∀ rest, Folded z.cps.toList fi rest → Folded L.cps.toList (n.length + 2) (ys.map (fun y => y.cps.toList) ++ rest)) ∧ (ys.map (·.length)).sum + z.length = L.length ∧ ys.length + z.length ≤ L.length ∧ m = z.length,
          ⟨L.length, L, n.length + 2, o, [], rfl, same_set (s0.trans s1) nD, upd_same, ho, by omega, fun rest h => h, by simp, by simp, rfl⟩, fun m σ H' hW => ?_⟩
        obtain ⟨z, fi, o, ys, rfl, sm, hD, hP, hfi, hF, hs1, hs2, rfl⟩ := hW
        refine ⟨_, rfl, rfl, _, rfl, ?_⟩
        cases o with
        | none =>
          refine iteF ?_
          refine ⟨_, rfl, .inl ⟨rfl, _, SqL.of hD⟩, _, rfl, D, _, _, rfl, rfl, hD, by rw [List.length_map]; exact szl (by omega), ?_⟩
          have hD2 : (upd H' D (.lst (ys.map V.str ++ [V.str z]))) D = some (.lst ((ys ++ [z]).map V.str)) := by
            rw [upd_same, List.map_append]
            rfl
          have hsum : ((ys ++ [z]).map (·.length)).sum = L.length := by
            rw [List.map_append, List.sum_append]
            simpa using hs1
          refine ⟨⟨_, rfl⟩, _, rfl, ("\n" : Str), D, ys ++ [z], rfl, rfl, .inl (SqL.of hD2), ?_, _, _, rfl, rfl, ?_, ?_⟩
          · rw [hsum, l10, List.length_append, List.length_singleton]
            omega
          · rw [l10, ← len_cps]
            have ej : (Txt.join ("\n" : Str) (ys ++ [z])).cps.toList = TL.joinL [10] ((ys ++ [z]).map fun y => y.cps.toList) := by
              have h := TL.tl_join ("\n" : Str) (ys ++ [z])
              rw [← TL.join_eq, show TL.tl ("\n" : Str) = [10] from j10] at h
              exact h
            have hlen : (linesL ((ys ++ [z]).map fun y => y.cps.toList)).length = L.length + (ys ++ [z]).length := by
              rw [← hsum]
              generalize ys ++ [z] = ws
              induction ws with
              | nil => rfl
              | cons a b ih =>
                rw [List.map_cons, List.map_cons, List.sum_cons, List.length_cons]
                show ((a.cps.toList ++ [10]) ++ linesL _).length = _
                rw [List.length_append, ih, List.length_append, len_cps, List.length_singleton]
                omega
            have := joinL_lines ((ys ++ [z]).map fun y => y.cps.toList) (by simp)
            rw [← ej] at this
            have h3 := congrArg List.length this
            rw [List.length_append, hlen, List.length_singleton] at h3
            have h4 : (ys ++ [z]).length = ys.length + 1 := by simp
            exact Nat.le_of_lt (szl2 (by omega))
          · have ej : (Txt.join ("\n" : Str) (ys ++ [z]) ++ ("\n" : Str)) = mk (linesL ((ys ++ [z]).map fun y => y.cps.toList)) := mk_eq (by
              rw [show (Txt.join ("\n" : Str) (ys ++ [z]) ++ ("\n" : Str)).cps.toList = (Txt.join ("\n" : Str) (ys ++ [z])).cps.toList ++ ("\n" : Str).cps.toList from TL.tl_append _ _, j10, ← joinL_lines _ (by simp)]
              have h := TL.tl_join ("\n" : Str) (ys ++ [z])
              rw [← TL.join_eq, show TL.tl ("\n" : Str) = [10] from j10] at h
              rw [show (Txt.join ("\n" : Str) (ys ++ [z])).cps.toList = TL.joinL [10] ((ys ++ [z]).map fun y => y.cps.toList) from h])
            show Q (.str (Txt.join ("\n" : Str) (ys ++ [z]) ++ ("\n" : Str))) _
            rw [ej]
            refine q _ _ (same_set sm nD) (.inr ⟨hv0, _, ?_, rfl⟩)
            have := hF [z.cps.toList] (.last hP)
            rw [hLc] at this
            rw [len_cps, List.map_append]
            exact this
        | some p =>
          obtain ⟨p1, p2, p3, p4, _⟩ := hP.some_ p rfl
          rw [len_cps] at p3
          refine iteT ⟨fun σ' H'' => ∃ (z' : Str) (fi : Nat) (o : Option Nat) (ys : List Str), σ' = [some (.str n), some (.str v), some (.str z'), some (.ref D), some (optV o)] ∧ Same H H'' ∧ H'' D = some (.lst (ys.map V.str)) ∧ IsPlace z'.cps.toList fi o ∧ 1 ≤ fi ∧
            (∀ rest, Folded z'.cps.toList fi rest → Folded L.cps.toList (n.length + 2) (ys.map (fun y => y.cps.toList) ++ rest)) ∧ (ys.map (·.length)).sum + z'.length = L.length ∧ ys.length + z'.length ≤ L.length ∧ z'.length < z.length, fun σ' H'' hN => ?_, ?_⟩
          · obtain ⟨z', fi', o', ys', a1, a2, a3, a4, a5, a6, a7, a8, a9⟩ := hN
            exact ⟨z'.length, a9, z', fi', o', ys', a1, a2, a3, a4, a5, a6, a7, a8, rfl⟩
          · have c1 := cutS_to z p
            have c2 := cutS_from z (p := p) (by omega)
            have lc1 : (cutS z none (some (p : Nat))).length = p := by rw [← len_cps, c1, List.length_take, len_cps]; omega
            have lc2 : (cutS z (some (p : Nat)) none).length = z.length - p := by rw [← len_cps, c2, List.length_drop, len_cps]
            refine ⟨_, rfl, .inl ⟨rfl, _, SqL.of hD⟩, _, rfl, _, rfl, _, rfl, z, rfl, Nat.le_of_lt (szl (by omega)), D, _, _, rfl, rfl, hD, by rw [List.length_map]; exact szl (by omega), ?_⟩
            refine ⟨_, rfl, _, rfl, _, rfl, z, rfl, Nat.le_of_lt (szl (by omega)), ?_⟩
            refine ⟨_, rfl, cutS z (some (p : Nat)) none, 1, rfl, by decide, by decide, by omega, fun o' ho' => ?_⟩
            refine ⟨cutS z (some (p : Nat)) none, 1, o', ys ++ [cutS z none (some (p : Nat))], rfl, same_set sm nD, by rw [upd_same, List.map_append]; rfl, ho', by decide, fun rest hrest => ?_, ?_, ?_, by omega⟩
            · rw [List.map_append, List.append_assoc]
              refine hF _ ?_
              show Folded _ _ ((cutS z none (some (p : Nat))).cps.toList :: rest)
              rw [c1]
              exact .more hP (by rw [← c2]; exact hrest)
            · rw [List.map_append, List.sum_append]
              have : (([cutS z none (some (p : Nat))] : List Str).map (·.length)).sum = p := by simpa using lc1
              rw [this, lc2]
              omega
            · rw [List.length_append, List.length_singleton, lc2]
              omega
    · rcases hno with ⟨z, rfl, hz, hl⟩ | ⟨t, ht, hk⟩
      · refine ⟨_, rfl, _, rfl, .inl ⟨z, rfl, hz, fun H0 s0 => ⟨_, rfl, ?_⟩⟩⟩
        rw [hl]
        exact iteT (mk_leaf rfl (by decide) (Fails.later qe s0))
      · exact ⟨_, rfl, _, rfl, .inr ⟨t, ht, hk, ⟨_, rfl, iteT (mk_leaf rfl (by decide) qe)⟩⟩⟩
    · refine ⟨_, rfl, _, rfl, .inl ⟨n, rfl, hn, fun H0 s0 => ⟨_, rfl, ?_⟩⟩⟩
      rw [hnm]
      refine iteF ?_
      rcases hno H0 s0 with ⟨z, rfl, hz, hl⟩ | ⟨t, ht, hk⟩
      · refine ⟨_, rfl, _, rfl, .inl ⟨z, rfl, hz, fun H1 s1 => ⟨_, rfl, ?_⟩⟩⟩
        rw [hl]
        exact iteT (mk_leaf rfl (by decide) (Fails.later qe (s0.trans s1)))
      · exact ⟨_, rfl, _, rfl, .inr ⟨t, ht, hk, ⟨_, rfl, iteT (mk_leaf rfl (by decide) (Fails.later qe s0))⟩⟩⟩
theorem x_fold {C : Addr} (M : MkFld P w K mg base "NoHead" C "line") (A : FnAt K mg "fold" sFold) (RN : Ready P w K mg base 4 "is_name" ["value"] (spLine K isNm)) (RV : Ready P w K mg base 4 "is_value" ["value"] (spLine K isVal))
    (RP : Ready P w K mg base 2 "_fold_place" ["line", "first"] spPlace) (ml : mg "len" = none) : ReadyX P w K mg base 5 "fold" ["name", "value"] (spFoldX K C) :=
  readyX_of A (fun _ _ _ _ _ _ us hl => match us, hl with | [_, _], _ => rfl) fun _ _ F => x_fold_of F M RN RV RP ml
end
end FL

namespace FL
open PySem PySem.Spec PyProof.Rows L2
/-! ### a sign so many times -/
theorem fold_rep (c : Nat) : ∀ (n : Nat) (acc : Array Nat), ((List.replicate n #[c]).foldl (· ++ ·) acc).toList = acc.toList ++ List.replicate n c
  | 0, acc => by simp
  | n + 1, acc => by
    rw [List.replicate_succ, List.foldl_cons, fold_rep c n, List.replicate_succ, Array.toList_append]
    simp
theorem op_mulS {X : Cx} : OpR X (binaryOp .Mult) (fun x y H Q => ∃ (c k : Nat), x = .str ⟨#[c]⟩ ∧ y = .int (k : Nat) ∧ k ≤ 10000 ∧ Q (.str (mk (List.replicate k c))) H) := by
  intro pins s σ H x y v u Q I rx ry h
  obtain ⟨c, k, rfl, rfl, hk, q⟩ := h
  obtain ⟨t, rfl⟩ := rx
  obtain ⟨t', rfl⟩ := ry
  by_cases h0 : k = 0
  · subst h0
    exact PySem.P.mul_str_none (by decide) (by decide) ⟨.str (mk []), H, I.tok _, ⟨_, rfl⟩, q⟩
  · have hl1 : (⟨#[c]⟩ : Str).length = 1 := rfl
    refine PySem.P.mul_str ?_ ?_ ?_ ?_
    · rw [decide_eq_false (by omega : ¬ ((k : Int) < -(2 ^ 63))), decide_eq_false (by omega : ¬ ((k : Int) ≥ 2 ^ 63))]
      rfl
    · intro _ _
      rw [hl1]
      have : (1 : Int) ≤ (2 ^ 63 - 1) / (k : Int) := by
        refine (Int.le_ediv_iff_mul_le (by omega)).mpr ?_
        omega
      omega
    · intro _ _
      rw [hl1, Int.toNat_natCast, Nat.one_mul]
      exact decide_eq_false (Nat.not_lt.mpr (Nat.le_of_lt (szl hk)))
    · rw [if_neg (by omega : ¬ ((k : Int) < 1))]
      by_cases h1 : k = 1
      · subst h1
        rw [if_pos (by rfl)]
        exact ⟨.str (mk [c]), H, I, ⟨t, rfl⟩, q⟩
      · rw [if_neg (by rw [hl1]; simp; omega), Int.toNat_natCast]
        have e : (⟨(List.replicate k (⟨#[c]⟩ : Str).cps).foldl (· ++ ·) #[]⟩ : Str) = mk (List.replicate k c) := mk_eq (by
          show ((List.replicate k #[c]).foldl (· ++ ·) #[]).toList = _
          rw [fold_rep]
          rfl)
        rw [e]
        refine ⟨?_, .str (mk (List.replicate k c)), H, I.tok _, ⟨_, rfl⟩, q⟩
        rw [mk_len, List.length_replicate]
        exact Nat.le_of_lt (szl hk)
/-! ### what is drawn: names and values -/
def okS (c : Nat) : Bool := isSig c && (!decide (c = 10) && decide (c < 128))
theorem okS_lt {c : Nat} (h : okS c = true) : c < 128 := by
  unfold okS at h
  simp only [Bool.and_eq_true, decide_eq_true_eq] at h
  exact h.2.2
theorem isLn_okS {l : List Nat} (h : ∀ c ∈ l, okS c = true) : isLn l = true := by
  unfold isLn allSig
  have h1 : l.all isSig = true := List.all_eq_true.mpr fun c hc => by
    have := h c hc
    unfold okS at this
    simp only [Bool.and_eq_true] at this
    exact this.1
  have h2 : 10 ∉ l := fun hc => by
    have := h 10 hc
    exact absurd this (by decide)
  rw [h1, decide_eq_false h2]
  rfl
/-- a drawn name -/
structure GName (t : Str) : Prop where
  nm : isNm t.cps.toList = true
  ok : ∀ c ∈ t.cps.toList, okS c = true
/-- a drawn value -/
structure GVal (n : Nat) (t : Str) : Prop where
  vl : isVal t.cps.toList = true
  ok : ∀ c ∈ t.cps.toList, okS c = true
  len : t.length ≤ n
def nmS (c : Nat) : Bool := isNmS c && okS c
theorem gname_of {t : Str} (h1 : 1 ≤ t.length) (h2 : t.length ≤ 30) (h3 : isLet (t.cps.toList.getD 0 0) = true) (h4 : ∀ c ∈ t.cps.toList, nmS c = true) : GName t := by
  have ok : ∀ c ∈ t.cps.toList, okS c = true := fun c hc => by
    have := h4 c hc
    unfold nmS at this
    rw [Bool.and_eq_true] at this
    exact this.2
  refine ⟨?_, ok⟩
  unfold isNm
  have ha : t.cps.toList.all isNmS = true := List.all_eq_true.mpr fun c hc => by
    have := h4 c hc
    unfold nmS at this
    rw [Bool.and_eq_true] at this
    exact this.1
  rw [isLn_okS ok, h3, ha, decide_eq_true (by rw [len_cps]; exact ⟨h1, h2⟩)]
  rfl
def gnB (t : Str) : Bool := decide (1 ≤ t.length) && (decide (t.length ≤ 30) && (isLet (t.cps.toList.getD 0 0) && t.cps.toList.all nmS))
theorem gname_b {t : Str} (h : gnB t = true) : GName t := by
  unfold gnB at h
  simp only [Bool.and_eq_true, decide_eq_true_eq, List.all_eq_true] at h
  exact gname_of h.1 h.2.1 h.2.2.1 h.2.2.2
def known1 : List Str := ["From", "To", "Subject", "subject", "Date", "X-9", "a", "Seal", "Reply-To", "TO"]
def known2 : List Str := ["Kind-Of", "Kinds", "Code-2", "Seal-2"]
theorem known_ok : ∀ t ∈ known1 ++ known2, gnB t = true := by decide +kernel
def letters7 : Str := "abcxyzABCXYZ"
def figs7 : Str := "019-"
section
variable {P : Program} {w : World} {K : PySem.W.Frag} {mg : Str → Option Value} {base : Heap}
def spName : Sp := fun vs H Q _ => ∃ a : Addr, vs = [.ref a] ∧ Src H a ∧ ∀ (t : Str) H', GName t → Drawn a H H' → Q (.str t) H'
theorem scLawName : FnScope ["_law_source_here", "_law_known", "_law_letters"] ["_law_source_here"] (defScope sLawName) := ⟨rfl, rfl, rfl, by decide +kernel, rfl, by decide +kernel, by decide +kernel⟩
theorem drawn_new {a p : Addr} {H H1 : Hp} {o : HO} (x : Drawn a H H1) (n : H1 p = none) : Drawn a H (upd H1 p o) := x.same (same_new n)
theorem r_law_name (A : FnAt K mg "_law_name" sLawName) (RN : Ready P w K mg base 2 "_law_next" ["_law_source_here", "_law_many"] spNext) (RS : Ready P w K mg base 3 "_law_signs" ["_law_source_here", "_law_signs_here", "_law_many"] spSigns) :
    Ready P w K mg base 4 "_law_name" ["_law_source_here"] spName := by
  obtain ⟨f1, fd1, g1, k1, b1, G1⟩ := RN
  obtain ⟨f2, fd2, g2, k2, b2, G2⟩ := RS
  refine ready_of A (fun _ _ _ _ _ _ us hl => match us, hl with | [_], _ => rfl) fun f fd F => ?_
  refine F.ok scLawName (fun vs H Q E h => ?_) (fun cdv A outer s H vs Q E hr h => ?_)
  · obtain ⟨a, rfl, _⟩ := h
    rfl
  · obtain ⟨a, rfl, hS, q⟩ := h
    have sc := scLawName
    have hr2 : Room 2 _ := hr.mono (by decide)
    refine ⟨_, pss_cons (ps_set (i := 1) sc.nd rfl (.inl rfl) (pe_lst (pa_cons pe_str (pa_cons pe_str (pa_cons pe_str (pa_cons pe_str (pa_cons pe_str (pa_cons pe_str (pa_cons pe_str (pa_cons pe_str (pa_cons pe_str (pa_cons pe_str pa_nil))))))))))))
      (pss_cons (ps_set (i := 1) sc.nd rfl (.inl rfl) (pe_op op_cat (pv 1) (pe_lst (pa_cons pe_str (pa_cons pe_str (pa_cons pe_str (pa_cons pe_str pa_nil)))))))
      (pss_cons (ps_if (pt_cmpR op_gt (pe_call G1 hr2 (by rfl) g1 k1 b1 .nil pass0 (pa_cons (pv 0) (pa_cons pe_int pa_nil))) pe_int (nomark _)) (pss_one (ps_ret (pe_ix ix_list (pv 1) (pe_call G1 hr2 (by rfl) g1 k1 b1 .nil pass0 (pa_cons (pv 0) (pa_cons pe_int pa_nil))) (fun _ _ => rfl)))) pss_nil)
      (pss_cons (ps_set (i := 2) sc.nd rfl (.inl rfl) pe_str)
      (pss_one (ps_ret (pe_op op_add_str (pe_op op_add_str (pe_call G2 hr (by rfl) g2 k2 b2 .nil pass0 (pa_cons (pv 0) (pa_cons (pv 2) (pa_cons pe_int pa_nil))))
        (pe_call G2 hr (by rfl) g2 k2 b2 .nil pass0 (pa_cons (pv 0) (pa_cons (pe_op op_add_str (pv 2) pe_str) (pa_cons (pe_call G1 hr2 (by rfl) g1 k1 b1 .nil pass0 (pa_cons (pv 0) (pa_cons pe_int pa_nil))) pa_nil))))) pe_str)))))), ?_⟩
    refine ⟨(by show 10 ≤ sizeLine; decide), fun p1 n1 => ?_⟩
    have d1 : Drawn a H (upd H p1 (.lst (known1.map V.str))) := drawn_new (Drawn.refl hS) n1
    refine ⟨_, rfl, (by show 4 ≤ sizeLine; decide), fun p2 n2 => ?_⟩
    have hne : p1 ≠ p2 := ne_of_none upd_same n2
    have d2 : Drawn a H (upd (upd H p1 (.lst (known1.map V.str))) p2 (.lst (known2.map V.str))) := drawn_new d1 n2
    refine ⟨p1, p2, known1.map V.str, known2.map V.str, rfl, rfl, (show _ = some (HO.lst (known1.map V.str)) from by rw [upd_ne hne]; exact upd_same), (show _ = some (HO.lst (known2.map V.str)) from upd_same), (by decide), fun p3 n3 => ?_⟩
    have d3 : Drawn a H (upd (upd (upd H p1 (.lst (known1.map V.str))) p2 (.lst (known2.map V.str))) p3 (.lst (known1.map V.str ++ known2.map V.str))) := drawn_new d2 n3
    obtain ⟨x, y, u, hx⟩ := d3.src
    have hp3 : a ≠ p3 := let ⟨_, _, _, e⟩ := d2.src; ne_of_none e n3
    refine ⟨_, rfl, a, 3, x, y, u, rfl, by decide, by decide, hx, fun r1 x1 u1 hr1 => ?_⟩
    have d4 := d3.trans (drawn_upd (x := x1) (y := y) (z := u1))
    refine ⟨_, _, rfl, rfl, _, rfl, ite2 (fun h => ?_) (fun h => ?_)⟩
    · refine ⟨_, rfl, _, rfl, a, 14, x1, y, u1, rfl, by decide, by decide, upd_same, fun r2 x2 u2 hr2 => ?_⟩
      have hkl : (known1.map V.str ++ known2.map V.str).length = 14 := rfl
      have hk3 : (upd (upd (upd (upd (upd H p1 (.lst (known1.map V.str))) p2 (.lst (known2.map V.str))) p3 (.lst (known1.map V.str ++ known2.map V.str))) a (.lst [.int x1, .int y, .int u1])) a (.lst [.int x2, .int y, .int u2])) p3 = some (.lst (known1.map V.str ++ known2.map V.str)) := by
        rw [upd_ne hp3.symm, upd_ne hp3.symm, upd_same]
      have hmm : known1.map V.str ++ known2.map V.str = (known1 ++ known2).map V.str := (List.map_append ..).symm
      have hr2' : r2 < (known1 ++ known2).length := hr2
      refine ⟨p3, _, _, .str ((known1 ++ known2)[r2]'hr2'), rfl, rfl, SqL.of hk3, atI_nat (by rw [hmm, List.getElem?_map, List.getElem?_eq_getElem hr2']; rfl), ?_⟩
      exact q _ _ (gname_b (known_ok _ (List.getElem_mem hr2'))) (d4.trans drawn_upd)
    · refine ⟨_, rfl, _, rfl, a, letters7, 1, rfl, by decide +kernel, by decide +kernel, by decide, ⟨x1, y, u1, upd_same⟩, fun t1 H5 ht1 ht1l d5 => ?_⟩
      have lf : figs7.length = 4 := by decide +kernel
      have ll : letters7.length = 12 := by decide +kernel
      refine ⟨_, rfl, _, rfl, _, _, rfl, rfl, by rw [show ("019-" : Str).length = 4 from lf, show ("abcxyzABCXYZ" : Str).length = 12 from ll]; exact Nat.le_of_lt (szl (by omega)), ?_⟩
      obtain ⟨x5, y5, u5, hx5⟩ := d5.src
      refine ⟨_, rfl, a, 8, x5, y5, u5, rfl, by decide, by decide, hx5, fun r3 x6 u6 hr3 => ?_⟩
      have l2 : (letters7 ++ figs7).length = 16 := by rw [len_append, ll, lf]
      refine ⟨a, letters7 ++ figs7, r3, rfl, by rw [l2]; decide, by rw [l2]; decide, by omega, ⟨x6, y5, u6, upd_same⟩, fun t2 H7 ht2 ht2l d7 => ?_⟩
      have lq : ("q" : Str).length = 1 := by decide +kernel
      have eq' : ("q" : Str).cps.toList = [113] := by decide +kernel
      refine ⟨_, _, rfl, rfl, Nat.le_of_lt (szl (by omega)), _, _, rfl, rfl, by rw [len_append, lq]; exact Nat.le_of_lt (szl (by omega)), ?_⟩
      refine q (t1 ++ t2 ++ ("q" : Str)) _ (gname_of ?_ ?_ ?_ ?_) (((d4.trans d5).trans drawn_upd).trans d7)
      · rw [len_append, len_append, lq]; omega
      · rw [len_append, len_append, lq]; omega
      · have hc1 : t1.cps.toList.length = 1 := by rw [len_cps, ht1l]
        rw [app_codes, app_codes]
        match ht : t1.cps.toList, hc1 with
        | [c], _ =>
          have : ∀ c ∈ letters7.cps.toList, isLet c = true := by decide +kernel
          exact this c (ht1 c (by rw [ht]; simp))
      · intro c hc
        have k1 : ∀ c ∈ letters7.cps.toList, nmS c = true := by decide +kernel
        have k2 : ∀ c ∈ (letters7 ++ figs7).cps.toList, nmS c = true := by decide +kernel
        rw [app_codes, app_codes, eq'] at hc
        rcases List.mem_append.mp hc with hc | hc
        · rcases List.mem_append.mp hc with hc | hc
          · exact k1 c (ht1 c hc)
          · exact k2 c (ht2 c hc)
        · rw [List.mem_singleton.mp hc]
          decide
end
end FL

namespace FL
open PySem PySem.Spec PyProof.Rows L2
def vmenu : Str := " aaabbcz09.,:;=?_-+/<>()@#!$&'*[]\\\"^`{|}~AZ"
theorem vmenu_ok : ∀ c ∈ vmenu.cps.toList, okS c = true := by decide +kernel
theorem isVal_of {l : List Nat} (h1 : ∀ c ∈ l, okS c = true) (h2 : trim l) : isVal l = true := by
  unfold isVal
  rw [isLn_okS h1, decide_eq_true (stripL_id.mpr h2)]
  rfl
section
variable {P : Program} {w : World} {K : PySem.W.Frag} {mg : Str → Option Value} {base : Heap}
/-- one of some numbers, drawn -/
theorem pick {r : Nat} {ms : List Nat} (h : r < ms.length) : atI (ms.map fun m => V.int (m : Nat)) (r : Int) = some (.int (ms[r]'h : Nat)) :=
  atI_nat (by rw [List.getElem?_map, List.getElem?_eq_getElem h]; rfl)
def spValue : Sp := fun vs H Q _ => ∃ a : Addr, vs = [.ref a] ∧ Src H a ∧ ∀ (t : Str) H', GVal 500 t → Drawn a H H' → Q (.str t) H'
theorem scLawValue : FnScope ["_law_source_here", "_law_signs_here", "_law_found", "_law_k"] ["_law_source_here"] (defScope sLawValue) := ⟨rfl, rfl, rfl, by decide +kernel, rfl, by decide +kernel, by decide +kernel⟩
theorem r_law_value (A : FnAt K mg "_law_value" sLawValue) (RN : Ready P w K mg base 2 "_law_next" ["_law_source_here", "_law_many"] spNext) (RS : Ready P w K mg base 3 "_law_signs" ["_law_source_here", "_law_signs_here", "_law_many"] spSigns) (mr : mg "range" = none) :
    Ready P w K mg base 4 "_law_value" ["_law_source_here"] spValue := by
  obtain ⟨f1, fd1, g1, k1, b1, G1⟩ := RN
  obtain ⟨f2, fd2, g2, k2, b2, G2⟩ := RS
  refine ready_of A (fun _ _ _ _ _ _ us hl => match us, hl with | [_], _ => rfl) fun f fd F => ?_
  refine F.ok scLawValue (fun vs H Q E h => ?_) (fun cdv A outer s H vs Q E hr h => ?_)
  · obtain ⟨a, rfl, _⟩ := h
    rfl
  · obtain ⟨a, rfl, hS, q⟩ := h
    have sc := scLawValue
    have hr2 : Room 2 _ := hr.mono (by decide)
    refine ⟨_, pss_cons (ps_set (i := 1) sc.nd rfl (.inl rfl) pe_str)
      (pss_cons (ps_set (i := 2) sc.nd rfl (.inl rfl) pe_str)
      (pss_cons (ps_for PassesOwn.never rfl (pi_range1 (by rfl) mr (pa_cons (pe_call G1 hr2 (by rfl) g1 k1 b1 .nil pass0 (pa_cons (pv 0) (pa_cons (pe_ix ix_list (pe_lst (pa_cons pe_int (pa_cons pe_int (pa_cons pe_int pa_nil))))
            (pe_call G1 hr2 (by rfl) g1 k1 b1 .nil pass0 (pa_cons (pv 0) (pa_cons pe_int pa_nil))) (fun _ _ => rfl)) pa_nil))) pa_nil)) (pg_name (i := 3) sc.nd rfl (.inl rfl))
        (pss_cons (ps_set (i := 2) sc.nd rfl (.inl rfl) (pe_op op_add_str (pv 2) (pe_op op_mulS pe_str (pe_op op_add pe_int (pe_ix ix_list (pe_lst (pa_cons pe_int (pa_cons pe_int (pa_cons pe_int (pa_cons (pe_call G1 hr2 (by rfl) g1 k1 b1 .nil pass0 (pa_cons (pv 0) (pa_cons pe_int pa_nil))) pa_nil)))))
            (pe_call G1 hr2 (by rfl) g1 k1 b1 .nil pass0 (pa_cons (pv 0) (pa_cons pe_int pa_nil))) (fun _ _ => rfl))))))
        (pss_one (ps_set (i := 2) sc.nd rfl (.inl rfl) (pe_op op_add_str (pv 2) (pe_call G2 hr (by rfl) g2 k2 b2 .nil pass0 (pa_cons (pv 0) (pa_cons (pv 1) (pa_cons (pe_op op_add pe_int (pe_call G1 hr2 (by rfl) g1 k1 b1 .nil pass0 (pa_cons (pv 0) (pa_cons (pe_ix ix_list (pe_lst (pa_cons pe_int (pa_cons pe_int (pa_cons pe_int (pa_cons pe_int pa_nil)))))
            (pe_call G1 hr2 (by rfl) g1 k1 b1 .nil pass0 (pa_cons (pv 0) (pa_cons pe_int pa_nil))) (fun _ _ => rfl)) pa_nil)))) pa_nil)))))))))
      (pss_one (ps_ret (pe_bm PySem.F.plainAttrs_str PySem.F.slot_str_strip PySem.F.type_str_strip mt_stripChars (pv 2) (pa_cons pe_str pa_nil)))))), ?_⟩
    -- how many words
    obtain ⟨x, y, u, hx⟩ := hS
    refine ⟨_, rfl, (by show 3 ≤ sizeLine; decide), fun p1 n1 => ?_⟩
    have e1 : a ≠ p1 := ne_of_none hx n1
    have d1 := (Drawn.refl (⟨x, y, u, hx⟩ : Src H a)).same (same_new (o := .lst (([3, 4, 8] : List Nat).map fun m => V.int (m : Nat))) n1)
    refine ⟨_, rfl, a, 3, x, y, u, rfl, by decide, by decide, same_new n1 _ _ hx, fun r1 x1 u1 hr1 => ?_⟩
    have d2 := d1.trans (drawn_upd (x := x1) (y := y) (z := u1))
    have hr1' : r1 < ([3, 4, 8] : List Nat).length := hr1
    refine ⟨p1, ([3, 4, 8] : List Nat).map fun m => V.int (m : Nat), _, _, rfl, rfl, SqL.of (by rw [upd_ne e1.symm]; exact upd_same), pick hr1', ?_⟩
    have hm1 : 1 ≤ ([3, 4, 8] : List Nat)[r1]'hr1' ∧ ([3, 4, 8] : List Nat)[r1]'hr1' ≤ 8 := by
      have : ∀ m ∈ ([3, 4, 8] : List Nat), 1 ≤ m ∧ m ≤ 8 := by decide
      exact this _ (List.getElem_mem hr1')
    generalize ([3, 4, 8] : List Nat)[r1]'hr1' = M1 at hm1 ⊢
    refine ⟨a, M1, x1, y, u1, rfl, hm1.1, by omega, upd_same, fun nn x2 u2 hnn => ?_⟩
    have d3 := d2.trans (drawn_upd (x := x2) (y := y) (z := u2))
    refine ⟨(nn : Int), rfl, by omega, by omega, ?_⟩
    rw [Int.toNat_natCast]
    have l1 : (" " : Str).length = 1 := by decide +kernel
    have c32 : (V.str (" " : Str)) = .str ⟨#[32]⟩ := rfl
    refine for_it walk_range (fun i σ H' => ∃ (t : Str) (y3 : Option V), σ = [some (.ref a), some (.str vmenu), some (.str t), y3] ∧ Drawn a H H' ∧ (∀ c ∈ t.cps.toList, okS c = true) ∧ t.length ≤ 70 * i) ⟨("" : Str), none, rfl, d3, (by decide +kernel), by decide +kernel⟩ (fun _ _ _ _ _ => trivial) (fun i xx σ H1 H2 hi hp hy => ?_) (fun σ H1 hp => ?_)
    · obtain ⟨t, y3, rfl, dr, hok, hlen⟩ := hp
      obtain ⟨rfl, rfl⟩ := hy
      obtain ⟨x, y, u, hx⟩ := dr.src
      -- blanks
      refine ⟨_, rfl, _, rfl, a, 4, x, y, u, rfl, by decide, by decide, hx, fun r2 x3 u3 hr2' => ⟨(by show 4 ≤ sizeLine; decide), fun p2 n2 => ?_⟩⟩
      have d4 := (dr.trans (drawn_upd (x := x3) (y := y) (z := u3))).same (same_new (o := .lst (([0, 0, 0, r2] : List Nat).map fun m => V.int (m : Nat))) n2)
      have e2 : a ≠ p2 := ne_of_none upd_same n2
      refine ⟨_, rfl, a, 4, x3, y, u3, rfl, by decide, by decide, same_new n2 _ _ upd_same, fun r3 x4 u4 hr3 => ?_⟩
      have d5 := d4.trans (drawn_upd (x := x4) (y := y) (z := u4))
      have hr3' : r3 < ([0, 0, 0, r2] : List Nat).length := hr3
      refine ⟨p2, ([0, 0, 0, r2] : List Nat).map fun m => V.int (m : Nat), _, _, rfl, rfl, SqL.of (by rw [upd_ne e2.symm]; exact upd_same), pick hr3', _, _, rfl, rfl, ?_⟩
      have hm2 : ([0, 0, 0, r2] : List Nat)[r3]'hr3' ≤ 3 := by
        have : ∀ m ∈ ([0, 0, 0, r2] : List Nat), m ≤ 3 := fun m hm => by
          simp at hm
          omega
        exact this _ (List.getElem_mem hr3')
      generalize ([0, 0, 0, r2] : List Nat)[r3]'hr3' = M2 at hm2 ⊢
      refine ⟨32, 1 + M2, rfl, by show V.int (1 + (M2 : Int)) = V.int ((1 + M2 : Nat) : Int); rw [Int.natCast_add]; rfl, by omega, ?_⟩
      refine ⟨_, _, rfl, rfl, by rw [mk_len, List.length_replicate]; exact Nat.le_of_lt (szl (by omega)), ?_⟩
      -- signs
      refine ⟨_, rfl, _, rfl, _, rfl, _, rfl, (by show 4 ≤ sizeLine; decide), fun p3 n3 => ?_⟩
      have e3 : a ≠ p3 := ne_of_none upd_same n3
      have d6 := d5.same (same_new (o := .lst (([4, 9, 9, 60] : List Nat).map fun m => V.int (m : Nat))) n3)
      refine ⟨_, rfl, a, 4, x4, y, u4, rfl, by decide, by decide, same_new n3 _ _ upd_same, fun r4 x5 u5 hr4 => ?_⟩
      have d7 := d6.trans (drawn_upd (x := x5) (y := y) (z := u5))
      have hr4' : r4 < ([4, 9, 9, 60] : List Nat).length := hr4
      refine ⟨p3, ([4, 9, 9, 60] : List Nat).map fun m => V.int (m : Nat), _, _, rfl, rfl, SqL.of (by rw [upd_ne e3.symm]; exact upd_same), pick hr4', ?_⟩
      have hm3 : 1 ≤ ([4, 9, 9, 60] : List Nat)[r4]'hr4' ∧ ([4, 9, 9, 60] : List Nat)[r4]'hr4' ≤ 60 := by
        have : ∀ m ∈ ([4, 9, 9, 60] : List Nat), 1 ≤ m ∧ m ≤ 60 := by decide
        exact this _ (List.getElem_mem hr4')
      generalize ([4, 9, 9, 60] : List Nat)[r4]'hr4' = M3 at hm3 ⊢
      refine ⟨a, M3, x5, y, u5, rfl, hm3.1, by omega, upd_same, fun r5 x6 u6 hr5 => ?_⟩
      have d8 := d7.trans (drawn_upd (x := x6) (y := y) (z := u6))
      refine ⟨_, _, rfl, rfl, a, vmenu, 1 + r5, by show [V.ref a, .str vmenu, .int (1 + (r5 : Int))] = [V.ref a, .str vmenu, .int ((1 + r5 : Nat) : Int)]; rw [Int.natCast_add]; rfl, by decide +kernel, by decide +kernel, by omega, ⟨x6, y, u6, upd_same⟩, fun t2 H7 ht2 ht2l d9 => ?_⟩
      refine ⟨_, _, rfl, rfl, by rw [len_append, mk_len, List.length_replicate]; exact Nat.le_of_lt (szl (by omega)), ?_⟩
      refine ⟨t ++ mk (List.replicate (1 + M2) 32) ++ t2, _, rfl, d8.trans d9, fun c hc => ?_, by rw [len_append, len_append, mk_len, List.length_replicate]; omega⟩
      rw [app_codes, app_codes, mk_codes] at hc
      rcases List.mem_append.mp hc with hc | hc
      · rcases List.mem_append.mp hc with hc | hc
        · exact hok c hc
        · rw [List.eq_of_mem_replicate hc]
          decide
      · exact vmenu_ok c (ht2 c hc)
    · obtain ⟨t, y3, rfl, dr, hok, hlen⟩ := hp
      refine ⟨_, rfl, rfl, t, _, rfl, rfl, Nat.le_of_lt (szl (by omega)), q _ _ ⟨?_, ?_, ?_⟩ dr⟩
      · rw [strip_codes]
        exact isVal_of (fun c hc => hok c (strip_sub _ c hc)) (trim_strip _)
      · rw [strip_codes]
        exact fun c hc => hok c (strip_sub _ c hc)
      · have := strip_len t
        omega
end
end FL

namespace FL
open PySem PySem.Spec PyProof.Rows L2
def nmOf (l : Ln) : Ln := l.takeWhile fun c => !decide (c = 58)
def rawOf (l : Ln) : Ln := (l.dropWhile fun c => !decide (c = 58)).drop 1
/-- the lines of one head -/
structure Blk (n v : Ln) (ls : List Ln) : Prop where
  cut : ∃ f cs, ls = f :: cs ∧ contB f = false ∧ (∀ c ∈ cs, contB c = true) ∧ headOf (f :: cs) = some (n, v)
theorem tw_all {α : Type} {p : α → Bool} : ∀ {cs rest : List α}, (∀ c ∈ cs, p c = true) → (∀ x, rest.head? = some x → p x = false) → (cs ++ rest).takeWhile p = cs
  | [], [], _, _ => rfl
  | [], x :: r, _, h => by
    rw [List.nil_append, List.takeWhile_cons, if_neg (by rw [h x rfl]; exact Bool.false_ne_true)]
  | c :: r, rest, h1, h2 => by
    rw [List.cons_append, List.takeWhile_cons, if_pos (h1 c (List.mem_cons_self ..)), tw_all (fun d hd => h1 d (List.mem_cons_of_mem _ hd)) h2]
theorem read_blocks : ∀ (bs : List ((Ln × Ln) × List Ln)) (pre : List Ln), (∀ b ∈ bs, Blk b.1.1 b.1.2 b.2) → readR (pre ++ (bs.map (·.2)).flatten) bs.length pre.length = some (.ok (bs.map (·.1)))
  | [], pre, _ => by
    rw [List.length_nil, readR, if_neg (by simp)]
    rfl
  | b :: r, pre, h => by
    obtain ⟨f, cs, hb, hf, hcs, hh⟩ := (h b (List.mem_cons_self ..)).cut
    have hr : ∀ x, ((r.map (·.2)).flatten).head? = some x → contB x = false := fun x hx => by
      cases r with
      | nil => cases hx
      | cons b2 r2 =>
        obtain ⟨f2, cs2, hb2, hf2, _, _⟩ := (h b2 (by simp)).cut
        rw [List.map_cons, List.flatten_cons, hb2] at hx
        injection hx with hx
        rw [← hx]
        exact hf2
    have e1 : pre ++ ((b :: r).map (·.2)).flatten = pre ++ (f :: (cs ++ (r.map (·.2)).flatten)) := by
      rw [List.map_cons, List.flatten_cons, hb]
      rfl
    have ed : (pre ++ (f :: (cs ++ (r.map (·.2)).flatten))).drop (pre.length + 1) = cs ++ (r.map (·.2)).flatten := by
      rw [List.drop_append]
      simp
    have ee : headEnd (pre ++ (f :: (cs ++ (r.map (·.2)).flatten))) pre.length = pre.length + 1 + cs.length := by
      unfold headEnd
      rw [ed, tw_all hcs hr]
    have es : ((pre ++ (f :: (cs ++ (r.map (·.2)).flatten))).drop pre.length).take (pre.length + 1 + cs.length - pre.length) = f :: cs := by
      rw [List.drop_left, show pre.length + 1 + cs.length - pre.length = cs.length + 1 by omega, List.take_succ_cons, List.take_left]
    have ih := read_blocks r (pre ++ (f :: cs)) (fun b hb => h b (List.mem_cons_of_mem _ hb))
    have e2 : pre ++ (f :: cs) ++ (r.map (·.2)).flatten = pre ++ (f :: (cs ++ (r.map (·.2)).flatten)) := by simp
    have e3 : (pre ++ (f :: cs)).length = pre.length + 1 + cs.length := by simp; omega
    rw [e2, e3] at ih
    rw [e1, List.length_cons, readR, if_pos (by simp), ee, es, hh]
    dsimp only
    rw [ih]
    rfl
theorem lst_pad : ∀ (a : Nat) (l : List Nat), lst32 (List.replicate a 32 ++ l) = lst32 l
  | 0, l => rfl
  | a + 1, l => by
    rw [List.replicate_succ, List.cons_append]
    have e : lst32 (32 :: (List.replicate a 32 ++ l)) = lst32 (List.replicate a 32 ++ l) := rfl
    exact e.trans (lst_pad a l)
theorem lst_app {l m : List Nat} (h : lst32 l ≠ []) : lst32 (l ++ m) = lst32 l ++ m := by
  induction l with
  | nil => exact absurd rfl h
  | cons c r ih =>
    unfold lst32 at ih h ⊢
    rw [List.cons_append, List.dropWhile_cons, List.dropWhile_cons]
    rw [List.dropWhile_cons] at h
    by_cases hc : is32 c = true
    · rw [if_pos hc] at h ⊢
      rw [if_pos hc]
      exact ih h
    · rw [if_neg hc, if_neg hc]
      rfl
theorem strip_pad (a b : Nat) (v : Ln) : stripL (List.replicate a 32 ++ v ++ List.replicate b 32) = stripL v := by
  unfold stripL
  rw [List.append_assoc, lst_pad]
  by_cases hv : lst32 v = []
  · have hall : v = List.replicate v.length 32 := by
      have : ∀ l : List Nat, lst32 l = [] → l = List.replicate l.length 32 := fun l => by
        induction l with
        | nil => exact fun _ => rfl
        | cons c r ih =>
          intro h
          unfold lst32 at h ih
          rw [List.dropWhile_cons] at h
          by_cases hc : is32 c = true
          · rw [if_pos hc] at h
            have e : c = 32 := of_decide_eq_true hc
            rw [List.length_cons, List.replicate_succ, ← ih h, e]
          · rw [if_neg hc] at h
            cases h
      exact this v hv
    have e2 : lst32 (v ++ List.replicate b 32) = [] := by
      rw [hall, lst_pad]
      have := lst_pad b []
      rw [List.append_nil] at this
      rw [this]
      rfl
    rw [e2, hv]
  · rw [lst_app hv, List.reverse_append, List.reverse_replicate, lst_pad]
/-- a first line with the name, and what goes on from it -/
theorem blk_of {n v f : Ln} {cs : List Ln} {a b : Nat} {r : Ln} (hn : isNm n = true) (hv : isVal v = true) (hf : f = n ++ [58] ++ r) (hcs : ∀ c ∈ cs, contB c = true) (hr : r ++ cs.flatten = List.replicate a 32 ++ v ++ List.replicate b 32) : Blk n v (f :: cs) := by
  have hln : ∀ c ∈ n, isNmS c = true := by
    unfold isNm at hn
    simp only [Bool.and_eq_true, decide_eq_true_eq, List.all_eq_true] at hn
    exact hn.2.2.2
  have h58 : 58 ∉ n := fun h => absurd (hln 58 h) (by decide)
  have h32 : 32 ∉ n := fun h => absurd (hln 32 h) (by decide)
  have hlen := isNm_len hn
  have et : f.takeWhile (fun c => !decide (c = 58)) = n := by
    rw [hf, List.append_assoc]
    refine tw_all (fun c hc => ?_) (fun x hx => ?_)
    · have : c ≠ 58 := fun e => h58 (e ▸ hc)
      rw [decide_eq_false this]
      rfl
    · injection hx with hx
      rw [← hx]
      rfl
  have ed : (f.dropWhile (fun c => !decide (c = 58))).drop 1 = r := by
    have h1 := List.takeWhile_append_dropWhile (p := fun c => !decide (c = 58)) (l := f)
    rw [et] at h1
    have h2 : f.dropWhile (fun c => !decide (c = 58)) = [58] ++ r := by
      have : n ++ f.dropWhile (fun c => !decide (c = 58)) = n ++ ([58] ++ r) := by rw [h1, hf, List.append_assoc]
      exact List.append_cancel_left this
    rw [h2]
    rfl
  refine ⟨f, cs, rfl, ?_, hcs, ?_⟩
  · unfold contB
    refine decide_eq_false fun h => ?_
    rw [hf] at h
    cases n with
    | nil => simp at hlen
    | cons c s =>
      injection h with h
      exact h32 (by rw [h]; exact List.mem_cons_self ..)
  · show (if 58 ∈ f then _ else none) = _
    rw [if_pos (by rw [hf]; simp)]
    show (if isNm (f.takeWhile fun c => !decide (c = 58)) = true then some (f.takeWhile (fun c => !decide (c = 58)), stripL ((f.dropWhile fun c => !decide (c = 58)).drop 1 ++ cs.flatten)) else none) = _
    rw [et, if_pos hn, ed, hr]
    have hst : stripL v = v := by
      unfold isVal at hv
      simp only [Bool.and_eq_true, decide_eq_true_eq] at hv
      exact hv.2
    rw [strip_pad, hst]
/-- the lines of what fold gives -/
theorem folded_shape {l : Ln} {first : Nat} {ls : List Ln} (h : Folded l first ls) : 1 ≤ first → first ≤ l.length → ∃ f cs, ls = f :: cs ∧ f ++ cs.flatten = l ∧ (∀ c ∈ cs, contB c = true) ∧ l.take first = f.take first ∧ ls.length ≤ l.length := by
  induction h with
  | last hp => exact fun h1 h2 => ⟨_, [], rfl, by simp, fun c hc => (by cases hc), rfl, by simp; omega⟩
  | @more l first p r hp hr ih =>
    intro h1 h2
    obtain ⟨c1, c2, c3, c4, c5⟩ := hp.some_ p rfl
    obtain ⟨f, cs, e, e1, e2, e3, e4⟩ := ih (Nat.le_refl _) (by rw [List.length_drop]; omega)
    subst e
    refine ⟨l.take p, f :: cs, rfl, ?_, fun c hc => ?_, ?_, ?_⟩
    · rw [List.flatten_cons, e1, List.take_append_drop]
    · rcases List.mem_cons.mp hc with rfl | hc
      · unfold contB
        refine decide_eq_true ?_
        unfold mayF at c4
        simp only [Bool.and_eq_true, decide_eq_true_eq] at c4
        have hd := drop_at c4.1
        rw [hd] at e3
        cases c with
        | nil => simp at e3
        | cons x s =>
          have : (32 : Nat) = x := by simpa using e3
          rw [this]
          rfl
      · exact e2 c hc
    · rw [List.take_take, Nat.min_eq_left c2]
    · rw [List.length_cons]
      rw [List.length_drop] at e4
      omega
end FL

namespace FL
open PySem PySem.Spec PyProof.Rows L2
theorem flat_len (ls : List Ln) : ls.flatten.length = (ls.map (·.length)).sum := List.length_flatten
theorem fold_blk {n v out : Ln} (hn : isNm n = true) (hv : isVal v = true) (h : FoldOut n v out) : ∃ ls, out = linesL ls ∧ Blk n v ls ∧ (∀ l ∈ ls, ∀ c ∈ l, c = 58 ∨ c = 32 ∨ c ∈ n ∨ c ∈ v) ∧ ls.length ≤ n.length + 2 + v.length ∧ ls.flatten.length ≤ n.length + 2 + v.length := by
  rcases h with ⟨rfl, rfl⟩ | ⟨hv0, ls, hF, rfl⟩
  · refine ⟨[n ++ [58]], by simp [linesL], blk_of (a := 0) (b := 0) (r := []) hn hv (by simp) (fun c hc => by cases hc) (by simp), fun l hl c hc => ?_, by simp, by simp⟩
    rw [List.mem_singleton.mp hl] at hc
    rcases List.mem_append.mp hc with hc | hc
    · exact .inr (.inr (.inl hc))
    · exact .inl (List.mem_singleton.mp hc)
  · have hL : (n ++ [58, 32] ++ v).length = n.length + 2 + v.length := by simp; omega
    obtain ⟨f, cs, rfl, h1, h2, h3, h4⟩ := folded_shape hF (by omega) (by omega)
    have hpre : (n ++ [58, 32] ++ v).take (n.length + 2) = n ++ [58, 32] := List.take_left' (by simp)
    rw [hpre] at h3
    have hf : f = n ++ [58] ++ ([32] ++ f.drop (n.length + 2)) := by
      have := List.take_append_drop (n.length + 2) f
      rw [← h3] at this
      rw [← this]
      simp
    refine ⟨f :: cs, rfl, blk_of (a := 1) (b := 0) (r := [32] ++ f.drop (n.length + 2)) hn hv hf h2 ?_, fun l hl c hc => ?_, by rw [← hL]; exact h4, by rw [List.flatten_cons, h1, hL]; exact Nat.le_refl _⟩
    · have e : n ++ [58] ++ ([32] ++ f.drop (n.length + 2)) ++ cs.flatten = n ++ [58] ++ ([32] ++ v) := by
        rw [← hf, h1]
        simp
      rw [List.append_assoc] at e
      have := List.append_cancel_left e
      rw [this]
      simp
    · have hm : c ∈ n ++ [58, 32] ++ v := by
        rw [← h1, ← List.flatten_cons]
        exact List.mem_flatten.mpr ⟨l, hl, hc⟩
      simp only [List.mem_append, List.mem_cons, List.not_mem_nil, or_false] at hm
      rcases hm with (hm | hm | hm) | hm
      · exact .inr (.inr (.inl hm))
      · exact .inl hm
      · exact .inr (.inl hm)
      · exact .inr (.inr (.inr hm))
theorem HeadsAt.drawn {a : Addr} {H0 H H' : Hp} {Ts : List Addr} {hs : List (Ln × Ln)} (h : HeadsAt H0 H Ts hs) (ha : H0 a ≠ none) (d : Drawn a H H') : HeadsAt H0 H' Ts hs := by
  unfold HeadsAt at h ⊢
  induction h with
  | nil => exact .nil
  | cons x y ih => exact .cons ⟨x.1, d.old _ _ (fun e => ha (e ▸ x.1)) x.2⟩ ih
theorem HeadsAt.low {H0 H1 H : Hp} {Ts : List Addr} {hs : List (Ln × Ln)} (h : HeadsAt H1 H Ts hs) (k : ∀ T, H1 T = none → H0 T = none) : HeadsAt H0 H Ts hs := by
  unfold HeadsAt at h ⊢
  induction h with
  | nil => exact .nil
  | cons x y ih => exact .cons ⟨k _ x.1, x.2⟩ ih
structure GH (x : Ln × Ln) : Prop where
  nm : GName (mk x.1)
  vl : GVal 500 (mk x.2)
section
variable {P : Program} {w : World} {K : PySem.W.Frag} {mg : Str → Option Value} {base : Heap}
theorem Drawn.free {a : Addr} {H H' : Hp} (d : Drawn a H H') (ha : H a ≠ none) {b : Addr} (h : H' b = none) : H b = none := by
  cases e : H b with
  | none => rfl
  | some o =>
    by_cases n : b = a
    · obtain ⟨x, y, z, hx⟩ := d.src
      rw [n, hx] at h
      cases h
    · rw [d.old b o n e] at h
      cases h
def spHeads : Sp := fun vs H Q _ => ∃ (a : Addr) (m : Nat), vs = [.ref a, .int (m : Nat)] ∧ m ≤ 9 ∧ Src H a ∧ ∀ D Ts hs H', H D = none → H' D = some (.lst (Ts.map V.ref)) → HeadsAt H H' Ts hs → (∀ x ∈ hs, GH x) → hs.length ≤ m → Drawn a H H' → Q (.ref D) H'
theorem scHeads : FnScope ["_law_source_here", "_law_most", "_law_k"] ["_law_source_here", "_law_most"] (defScope sLawHeads) := ⟨rfl, rfl, rfl, by decide +kernel, rfl, by decide +kernel, by decide +kernel⟩
theorem r_heads (A : FnAt K mg "_law_heads" sLawHeads) (RN : Ready P w K mg base 2 "_law_next" ["_law_source_here", "_law_many"] spNext) (RNm : Ready P w K mg base 4 "_law_name" ["_law_source_here"] spName) (RV : Ready P w K mg base 4 "_law_value" ["_law_source_here"] spValue)
    (mr : mg "range" = none) : Ready P w K mg base 5 "_law_heads" ["_law_source_here", "_law_most"] spHeads := by
  obtain ⟨f1, fd1, g1, k1, b1, G1⟩ := RN
  obtain ⟨f2, fd2, g2, k2, b2, G2⟩ := RNm
  obtain ⟨f3, fd3, g3, k3, b3, G3⟩ := RV
  refine ready_of A (fun _ _ _ _ _ _ us hl => match us, hl with | [_, _], _ => rfl) fun f fd F => ?_
  refine F.ok scHeads (fun vs H Q E h => ?_) (fun cdv A outer s H vs Q E hr h => ?_)
  · obtain ⟨a, m, rfl, _⟩ := h
    rfl
  · obtain ⟨a, m, rfl, hm, hS, q⟩ := h
    have sc := scHeads
    have r2 : Room 2 _ := hr.mono (by decide)
    refine ⟨_, pss_one (ps_ret (pe_lc (own := [("_law_k", 2)]) (g := gName 2) (tt := tYes) (by rfl) sc.nd (pi_range1 (by rfl) mr (pa_cons (pe_call G1 r2 (by rfl) g1 k1 b1 .nil pass0 (pa_cons (pv 0) (pa_cons (pe_op op_add (pv 1) pe_int) pa_nil))) pa_nil))
      (blkOk_by (own := [("_law_k", 2)]) (N := ["_law_source_here", "_law_most", "_law_k"]) (sc := defScope sLawHeads) (by decide +kernel)) (fun _ _ _ _ _ => pg_name (i := 2) sc.nd rfl (Or.inl rfl)) (fun _ _ _ _ _ => pts_nil)
      (fun _ _ _ _ _ => pe_tup (pa_cons (pe_call G2 hr (by rfl) g2 k2 b2 .nil pass0 (pa_cons (pv 0) pa_nil)) (pa_cons (pe_call G3 hr (by rfl) g3 k3 b3 .nil pass0 (pa_cons (pv 0) pa_nil)) pa_nil))))), ?_⟩
    have d0 : Drawn a H H := Drawn.refl hS
    have ha0 : H a ≠ none := by
      obtain ⟨x, y, z, e⟩ := hS
      rw [e]
      simp
    obtain ⟨x, y, u, hx⟩ := hS
    refine ⟨_, rfl, _, rfl, _, _, rfl, rfl, a, m + 1, x, y, u, by show [V.ref a, .int ((m : Int) + 1)] = [V.ref a, .int ((m + 1 : Nat) : Int)]; rw [Int.natCast_add]; rfl, by omega, by omega, hx, fun r x1 u1 hr1 => ?_⟩
    have d1 := d0.trans (drawn_upd (x := x1) (y := y) (z := u1))
    have hs1 : (upd H a (.lst [.int x1, .int y, .int u1])) a = some (.lst [.int x1, .int y, .int u1]) := upd_same
    refine ⟨(r : Int), rfl, by omega, by omega, fun D hD => ?_⟩
    rw [Int.toNat_natCast]
    have eD : a ≠ D := ne_of_none hs1 hD
    have hD0 : H D = none := d1.free ha0 hD
    refine lc_it walk_range (fun i H' => Drawn a H H' ∧ ∃ Ts hs, H' D = some (.lst (Ts.map V.ref)) ∧ HeadsAt H H' Ts hs ∧ (∀ x ∈ hs, GH x) ∧ hs.length = i) ⟨d1.same (same_new hD), [], [], upd_same, .nil, (fun _ h => by cases h), rfl⟩ (fun _ _ _ _ => trivial) (fun j xx H4 H5 hj hp hy => ?_) (fun H4 hp => ?_)
    · obtain ⟨dr, Ts, hs, hd, hT, hg, hl⟩ := hp
      obtain ⟨rfl, rfl⟩ := hy
      refine ⟨rfl, ?_⟩
      unfold tYes
      refine iteT ?_
      refine ⟨_, rfl, a, rfl, dr.src, fun t H6 gt d6 => ?_⟩
      refine ⟨_, rfl, a, rfl, d6.src, fun v H7 gv d7 => ?_⟩
      refine ⟨(by show 2 ≤ sizeLine; decide), fun p np => ?_⟩
      have d67 := d6.trans d7
      have hd7 := d67.old _ _ eD.symm hd
      have hpD : p ≠ D := fun e => by rw [e, hd7] at np; cases np
      have hT7 := hT.drawn ha0 d67
      have d8 := (dr.trans d67).same (same_new (o := .tup [.str t, .str v]) np)
      refine ⟨_, same_new np _ _ hd7, ?_, drawn_set d8 hD0 eD, Ts ++ [p], hs ++ [(t.cps.toList, v.cps.toList)], by rw [upd_same, List.map_append]; rfl, ?_, fun x hx => ?_, by rw [List.length_append, List.length_singleton, hl]⟩
      · have : Ts.length = hs.length := Paired.length hT
        rw [List.length_map, this]
        exact szl (by omega)
      · refine Paired.snoc (HeadsAt.same hT7 fun T y _ hy => ?_) ⟨(dr.trans d67).free ha0 np, ?_⟩
        · have : T ≠ D := fun e => by
            rw [e, hd7] at hy
            cases hy
          rw [upd_ne this]
          exact same_new np _ _ hy
        · rw [upd_ne hpD, upd_same]
          show _ = some (HO.tup [.str (mk _), .str (mk _)])
          rw [mk_of, mk_of]
      · rcases List.mem_append.mp hx with hx | hx
        · exact hg x hx
        · rw [List.mem_singleton.mp hx]
          exact ⟨by show GName (mk _); rw [mk_of]; exact gt, by show GVal 500 (mk _); rw [mk_of]; exact gv⟩
    · obtain ⟨dr, Ts, hs, hd, hT, hg, hl⟩ := hp
      exact q D Ts hs H4 hD0 hd hT hg (by omega) dr
end
end FL

namespace FL
open PySem PySem.Spec PyProof.Rows L2
theorem total_codes : ∀ zs : List Str, total zs = (codesOf zs).flatten.length
  | [] => rfl
  | z :: r => by
    have ih := total_codes r
    show z.length + total r = (z.cps.toList ++ (codesOf r).flatten).length
    rw [List.length_append, len_cps, ih]
theorem codes_app (a b : List Str) : codesOf (a ++ b) = codesOf a ++ codesOf b := List.map_append
/-- the signs of the lines, and how many -/
structure OkLs (m : Nat) (zs : List Str) : Prop where
  ok : ∀ z ∈ zs, ∀ c ∈ z.cps.toList, okS c = true
  len : zs.length ≤ m
  tot : total zs ≤ m
theorem paired_at {α β : Type} {F : α → β → Prop} {as : List α} {bs : List β} (h : Paired F as bs) : ∀ {i : Nat}, i < as.length → ∃ a b, as[i]? = some a ∧ bs[i]? = some b ∧ F a b := by
  induction h with
  | nil => exact fun h => absurd h (by simp)
  | cons x y ih =>
    intro i hi
    cases i with
    | zero => exact ⟨_, _, rfl, rfl, x⟩
    | succ i =>
      obtain ⟨a, b, h1, h2, h3⟩ := ih (i := i) (by simpa using hi)
      exact ⟨a, b, by simpa using h1, by simpa using h2, h3⟩
theorem join_outs (outs : List Ln) : Txt.join ("" : Str) (outs.map mk) = mk outs.flatten := mk_eq (by
  rw [join_codes, List.map_map]
  congr 1
  rw [List.map_congr_left (f := (fun y : Str => y.cps.toList) ∘ mk) (g := id) (fun l _ => mk_codes l), List.map_id])
theorem outs_sum (outs : List Ln) : ((outs.map mk).map (·.length)).sum = outs.flatten.length := by
  rw [List.length_flatten, List.map_map]
  exact congrArg List.sum (List.map_congr_left fun l _ => mk_len l)
theorem codes_mk (ls : List Ln) : codesOf (ls.map mk) = ls := by
  unfold codesOf
  rw [List.map_map, List.map_congr_left (f := (fun z : Str => z.cps.toList) ∘ mk) (g := id) (fun l _ => mk_codes l), List.map_id]
def hsD (hs : List (Ln × Ln)) : List PyData := hs.map fun x => .tuple [.str (mk x.1), .str (mk x.2)]
theorem hs_dp {K : PySem.W.Frag} {H0 H : Hp} {Ts : List Addr} {hs : List (Ln × Ln)} (h : HeadsAt H0 H Ts hs) : DpAll K H (Ts.map V.ref) (hsD hs) := by
  unfold HeadsAt at h
  induction h with
  | nil => exact .nil
  | cons a b ih => exact .cons (.tup (SqT.of a.2) (.cons (.str _) (.cons (.str _) .nil))) ih
theorem hs_shaped {hs : List (Ln × Ln)} (h : ∀ x ∈ hs, (∀ c ∈ x.1, c < 128) ∧ ∀ c ∈ x.2, c < 128) : SeqAt.shaped (.list (hsD hs)) = true := by
  have one : ∀ x ∈ hs, (PyData.str (mk x.1)).canLay0 = true ∧ (PyData.str (mk x.2)).canLay0 = true := fun x hx =>
    ⟨canLay_str (strOk_of fun c hc => (h x hx).1 c (by rw [mk_codes] at hc; exact hc)), canLay_str (strOk_of fun c hc => (h x hx).2 c (by rw [mk_codes] at hc; exact hc))⟩
  refine shaped_of ?_ ?_
  · rw [PyData.canLay0]
    refine canLayAll_of fun d hd => ?_
    obtain ⟨x, hx, rfl⟩ := List.mem_map.mp hd
    rw [PyData.canLay0]
    refine canLayAll_of fun e he => ?_
    rcases List.mem_cons.mp he with rfl | he
    · exact (one x hx).1
    · rw [List.mem_singleton.mp he]
      exact (one x hx).2
  · rw [PyData.depth]
    have : PyData.depthAll (hsD hs) ≤ 1 := depthAll_of fun d hd => by
      obtain ⟨x, hx, rfl⟩ := List.mem_map.mp hd
      rw [PyData.depth]
      have : PyData.depthAll [PyData.str (mk x.1), PyData.str (mk x.2)] ≤ 0 := depthAll_of fun e he => by
        rcases List.mem_cons.mp he with rfl | he
        · rw [PyData.depth]; exact Nat.le_refl _
        · rw [List.mem_singleton.mp he, PyData.depth]; exact Nat.le_refl _
      omega
    omega
theorem hs_self {hs : List (Ln × Ln)} (h : SeqAt.shaped (.list (hsD hs)) = true) : PyData.eqv (.list (hsD hs)) (.list (hsD hs)) = true := SeqAt.eqv_refl _ (Bool.and_eq_true_iff.mp h).1
theorem isLn_ok2 {l : List Nat} (h : ∀ c ∈ l, okS c = true) : isLn l = true := isLn_okS h
theorem okS_10 {c : Nat} (h : okS c = true) : c ≠ 10 := fun e => by rw [e] at h; exact absurd h (by decide)
theorem linesL_app (a b : List Ln) : linesL (a ++ b) = linesL a ++ linesL b := by
  unfold linesL
  rw [List.map_append, List.flatten_append]
theorem linesL_flat (ls : List Ln) : (linesL ls).length = ls.flatten.length + ls.length := by
  induction ls with
  | nil => rfl
  | cons l r ih =>
    show ((l ++ [10]) ++ linesL r).length = (l ++ r.flatten).length + (r.length + 1)
    rw [List.length_append, ih, List.length_append, List.length_append, List.length_singleton]
    omega
theorem joinL_all : ∀ ls : List Ln, TL.joinL [10] (ls ++ [[]]) = linesL ls
  | [] => rfl
  | [p] => by simp [TL.joinL, linesL]
  | p :: q :: r => by
    have ih := joinL_all (q :: r)
    show p ++ ([10] ++ TL.joinL [10] (q :: r ++ [[]])) = (p ++ [10]) ++ linesL (q :: r)
    rw [ih, List.append_assoc]
/-- the lines of a text -/
theorem split_lines {ls : List Ln} (h : ∀ l ∈ ls, ∀ c ∈ l, okS c = true) : Txt.split (mk (linesL ls)) ("\n" : Str) = ls.map mk ++ [mk []] := by
  have e10 : TL.tl ("\n" : Str) = [10] := by decide +kernel
  have key : Txt.join ("\n" : Str) (ls.map mk ++ [mk []]) = mk (linesL ls) := by
    refine mk_eq ?_
    show TL.tl _ = _
    rw [TL.join_eq, TL.tl_join, e10, ← joinL_all, List.map_append, List.map_map]
    congr 1
    show ls.map (fun l => (mk l).cps.toList) ++ _ = _
    rw [List.map_congr_left (fun l _ => mk_codes l)]
    simp
    rfl
  rw [← key]
  refine TL.split_join (S := []) e10 (by decide +kernel) (by simp) fun p hp => ?_
  show 10 ∉ p.cps.toList
  rcases List.mem_append.mp hp with hp | hp
  · obtain ⟨l, hl, rfl⟩ := List.mem_map.mp hp
    rw [mk_codes]
    exact fun hc => okS_10 (h l hl 10 hc) rfl
  · rw [List.mem_singleton.mp hp, mk_codes]
    simp
theorem cutV_init (xs : List V) (x : V) : cutV (xs ++ [x]) none (some (-1)) = xs := by
  unfold cutV
  have e : HT.sIx (xs ++ [x]).length (xs ++ [x]).length (some (-1)) = xs.length := by
    have h1 : HT.sIx (xs ++ [x]).length (xs ++ [x]).length (some (-1)) = ((-1 : Int) + ((xs ++ [x]).length : Int)).toNat := rfl
    rw [h1, List.length_append, List.length_singleton]
    omega
  rw [e, HT.sIx_none, List.drop_zero, Nat.sub_zero]
  exact List.take_left
theorem paired_uniq {α β : Type} {F : α → β → Prop} (hF : ∀ a a' b, F a b → F a' b → a = a') {as as' : List α} {bs : List β} (h : Paired F as bs) : Paired F as' bs → as = as' := by
  intro h'
  induction h generalizing as' with
  | nil => cases h'; rfl
  | cons x y ih =>
    cases h' with
    | cons x' y' => rw [hF _ _ _ x x', ih y']
/-- what is written of heads, as blocks of lines -/
theorem outs_blks : ∀ {outs : List Ln} {hs : List (Ln × Ln)}, Paired (fun o x => FoldOut x.1 x.2 o) outs hs → (∀ x ∈ hs, GH x) → ∃ bs : List ((Ln × Ln) × List Ln), bs.map (·.1) = hs ∧ outs.flatten = linesL (bs.map (·.2)).flatten ∧ (∀ b ∈ bs, Blk b.1.1 b.1.2 b.2) ∧
    (∀ l ∈ (bs.map (·.2)).flatten, ∀ c ∈ l, okS c = true) ∧ (bs.map (·.2)).flatten.length ≤ 540 * hs.length ∧ (bs.map (·.2)).flatten.flatten.length ≤ 540 * hs.length
  | _, _, .nil, _ => ⟨[], rfl, rfl, (fun _ h => by cases h), (fun _ h => by cases h), Nat.zero_le _, Nat.zero_le _⟩
  | _, _, .cons (b := x) (l₂ := r) h y, hg => by
    obtain ⟨bs, e1, e2, e3, e4, e5, e6⟩ := outs_blks y fun z hz => hg z (List.mem_cons_of_mem _ hz)
    have g := hg x (List.mem_cons_self ..)
    have hn := g.nm.nm
    have hv := g.vl.vl
    rw [mk_codes] at hn hv
    have hnl := isNm_len hn
    have hvl := g.vl.len
    rw [mk_len] at hvl
    obtain ⟨ls, l1, l2, l3, l4, l5⟩ := fold_blk hn hv h
    refine ⟨(x, ls) :: bs, by rw [List.map_cons, e1], ?_, fun b hb => ?_, fun l hl c hc => ?_, ?_, ?_⟩
    · rw [List.flatten_cons, e2, l1, List.map_cons, List.flatten_cons, linesL_app]
    · rcases List.mem_cons.mp hb with rfl | hb
      · exact l2
      · exact e3 b hb
    · rw [List.map_cons, List.flatten_cons] at hl
      rcases List.mem_append.mp hl with hl | hl
      · rcases l3 l hl c hc with rfl | rfl | hc | hc
        · decide
        · decide
        · exact g.nm.ok c (by rw [mk_codes]; exact hc)
        · exact g.vl.ok c (by rw [mk_codes]; exact hc)
      · exact e4 l hl c hc
    · rw [List.map_cons, List.flatten_cons, List.length_append, List.length_cons, Nat.mul_succ]
      show ls.length + _ ≤ _
      omega
    · rw [List.map_cons, List.flatten_cons, List.flatten_append, List.length_append, List.length_cons, Nat.mul_succ]
      show ls.flatten.length + _ ≤ _
      omega
section
variable {P : Program} {w : World} {K : PySem.W.Frag} {mg : Str → Option Value} {base : Heap}
/-- lines that are heads, read -/
theorem sp_read {C : Addr} {H : Hp} {Q : VK} {E : XK} {a : Addr} {m n : Nat} {zs : List Str} {hs : List (Ln × Ln)} (hH : H a = some (.lst (zs.map V.str))) (hm : m ≤ 9000) (ok : OkLs m zs) (hR : readR (codesOf zs) n 0 = some (.ok hs))
    (q : ∀ H' D Ts, Same H H' → H D = none → H' D = some (.lst (Ts.map V.ref)) → HeadsAt H H' Ts hs → Q (.ref D) H') : spReadX K C [.ref a] H Q E := by
  have ht := ok.tot
  have hl := ok.len
  refine ⟨_, rfl, .inr ⟨a, zs.map fun z => (V.str z, isLn z.cps.toList), rfl, by rw [List.map_map]; exact hH, by rw [List.length_map]; omega, fun H' _ u hu => ?_, .inr ⟨?_, zs, n, .ok hs, by rw [List.map_map]; rfl, by omega, hR, fun hs' e H' D Ts s' nD hD hT => ?_, fun p e => by cases e⟩⟩⟩
  · obtain ⟨z, hz, rfl⟩ := List.mem_map.mp hu
    exact .inl ⟨z, rfl, by have := total_mem hz; omega, rfl⟩
  · rw [List.all_map]
    exact List.all_eq_true.mpr fun z hz => isLn_okS (ok.ok z hz)
  · injection e with e
    subst e
    exact q H' D Ts s' nD hD hT
/-- a head, folded -/
theorem sp_fold {C : Addr} {H : Hp} {Q : VK} {E : XK} {x : Ln × Ln} (g : GH x) (q : ∀ out H', Same H H' → FoldOut x.1 x.2 out → Q (.str (mk out)) H') : spFoldX K C [.str (mk x.1), .str (mk x.2)] H Q E := by
  have hn := g.nm.nm
  have hnl := isNm_len hn
  have hvl := g.vl.len
  rw [len_cps] at hnl
  refine ⟨_, _, rfl, .inl ⟨mk x.1, mk x.2, rfl, rfl, by omega, by omega, hn, g.vl.vl, fun out H' s' h => ?_⟩⟩
  rw [mk_codes, mk_codes] at h
  exact q out H' s' h
end
end FL

namespace FL
open PySem PySem.Spec PyProof.Rows L2
def fitsB (l : Ln) (first : Nat) : Prop := l.length ≤ 72 ∨ ∀ p, first ≤ p → p < l.length → mayF l p = false
structure Good (first : Nat) (l : Ln) : Prop where
  las : l.getLast? ≠ some 32
  fits : fitsB l first
theorem may_take {l : Ln} {c p : Nat} (h : p < c) : mayF (l.take c) p = mayF l p := by
  unfold mayF
  rw [List.getElem?_take_of_lt h, List.getElem?_take_of_lt (by omega : p - 1 < c)]
theorem last_at {l : Ln} (h : l ≠ []) : l.getLast? = l[l.length - 1]? := List.getLast?_eq_getElem?
theorem last_drop {l : Ln} {c : Nat} (h : c < l.length) : (l.drop c).getLast? = l.getLast? := by
  rw [List.getLast?_eq_getElem?, List.getLast?_eq_getElem?, List.length_drop, List.getElem?_drop]
  congr 1
  omega
theorem folded_good {l : Ln} {first : Nat} {ls : List Ln} (h : Folded l first ls) : 1 ≤ first → l.getLast? ≠ some 32 → ∃ f cs, ls = f :: cs ∧ Good first f ∧ ∀ c ∈ cs, Good 1 c := by
  induction h with
  | @last l first hp => exact fun h1 h2 => ⟨l, [], rfl, ⟨h2, hp.none_ rfl⟩, fun c hc => (by cases hc)⟩
  | @more l first p r hp hr ih =>
    intro h1 h2
    obtain ⟨c1, c2, c3, c4, c5⟩ := hp.some_ p rfl
    obtain ⟨f, cs, rfl, g1, g2⟩ := ih (Nat.le_refl _) (by rw [last_drop c3]; exact h2)
    refine ⟨l.take p, f :: cs, rfl, ⟨?_, ?_⟩, fun c hc => ?_⟩
    · have hl : (l.take p).length = p := by rw [List.length_take]; omega
      rw [List.getLast?_eq_getElem?, hl, List.getElem?_take_of_lt (by omega)]
      unfold mayF at c4
      simp only [Bool.and_eq_true, Bool.not_eq_true', decide_eq_false_iff_not] at c4
      exact c4.2
    · have hl : (l.take p).length = p := by rw [List.length_take]; omega
      rcases c5 with ⟨a, _⟩ | ⟨_, b⟩
      · exact .inl (by rw [hl]; exact a)
      · exact .inr fun q hq1 hq2 => by
          rw [hl] at hq2
          rw [may_take hq2]
          exact b q hq1 hq2
    · rcases List.mem_cons.mp hc with rfl | hc
      · exact g1
      · exact g2 c hc
theorem strip_ne {l : Ln} (h1 : l ≠ []) (h2 : l.getLast? ≠ some 32) : stripL l ≠ [] := fun h => by
  have hc : ∀ c ∈ l, c = 32 := by
    unfold stripL at h
    have h' := congrArg List.reverse h
    rw [List.reverse_reverse, List.reverse_nil] at h'
    have all : ∀ m : Ln, lst32 m = [] → ∀ c ∈ m, c = 32 := fun m => by
      induction m with
      | nil => exact fun _ c hc => by cases hc
      | cons a r ih =>
        intro hm c hc
        unfold lst32 at hm ih
        rw [List.dropWhile_cons] at hm
        by_cases ha : is32 a = true
        · rw [if_pos ha] at hm
          rcases List.mem_cons.mp hc with rfl | hc
          · exact of_decide_eq_true ha
          · exact ih hm c hc
        · rw [if_neg ha] at hm
          cases hm
    have hr := all _ h'
    by_cases e : lst32 l = []
    · exact all l e
    · exfalso
      cases hl : lst32 l with
      | nil => exact e hl
      | cons c r =>
        have hh := lst32_head l
        rw [hl] at hh hr
        exact hh (congrArg some (hr c (by simp)))
  have := hc (l.getLast h1) (List.getLast_mem h1)
  rw [List.getLast?_eq_some_getLast h1, this] at h2
  exact h2 rfl
/-- the lines that fold gives, as the promise asks them -/
theorem fold_right {n v out : Ln} (hn : isNm n = true) (hv : isVal v = true) (h : FoldOut n v out) : ∃ f cs, out = linesL (f :: cs) ∧ Good (n.length + 2) f ∧ (∀ c ∈ cs, Good 1 c ∧ contB c = true ∧ stripL c ≠ []) ∧
    (f :: cs).flatten = (if v = [] then n ++ [58] else n ++ [58, 32] ++ v) ∧ (∀ l ∈ f :: cs, ∀ c ∈ l, c = 58 ∨ c = 32 ∨ c ∈ n ∨ c ∈ v) ∧ (f :: cs).length ≤ n.length + 2 + v.length := by
  have hlen := isNm_len hn
  rcases h with ⟨rfl, rfl⟩ | ⟨hv0, ls, hF, rfl⟩
  · refine ⟨n ++ [58], [], by simp [linesL], ⟨by simp, .inl (by simp; omega)⟩, (fun c hc => by cases hc), by simp, fun l hl c hc => ?_, by simp⟩
    rw [List.mem_singleton.mp hl] at hc
    rcases List.mem_append.mp hc with hc | hc
    · exact .inr (.inr (.inl hc))
    · exact .inl (List.mem_singleton.mp hc)
  · have hL : (n ++ [58, 32] ++ v).length = n.length + 2 + v.length := by simp; omega
    have htr : trim v := by
      unfold isVal at hv
      simp only [Bool.and_eq_true, decide_eq_true_eq] at hv
      exact stripL_id.mp hv.2
    have hlast : (n ++ [58, 32] ++ v).getLast? ≠ some 32 := by
      have : (n ++ [58, 32] ++ v).getLast? = v.getLast? := by
        rw [List.getLast?_append]
        cases hh : v.getLast? with
        | none => exact absurd (List.getLast?_eq_none_iff.mp hh) hv0
        | some => rfl
      rw [this, ← List.head?_reverse]
      exact htr.2
    obtain ⟨f, cs, rfl, h1, h2, h3, h4⟩ := folded_shape hF (by omega) (by omega)
    obtain ⟨f', cs', e, g1, g2⟩ := folded_good hF (by omega) hlast
    injection e with e1 e2
    subst e1 e2
    refine ⟨f, cs, rfl, g1, fun c hc => ⟨g2 c hc, h2 c hc, strip_ne (fun e => ?_) (g2 c hc).las⟩, by rw [if_neg hv0, List.flatten_cons, h1], fun l hl c hc => ?_, by rw [← hL]; exact h4⟩
    · have := h2 c hc
      rw [e] at this
      cases this
    · have hm : c ∈ n ++ [58, 32] ++ v := by
        rw [← h1, ← List.flatten_cons]
        exact List.mem_flatten.mpr ⟨l, hl, hc⟩
      simp only [List.mem_append, List.mem_cons, List.not_mem_nil, or_false] at hm
      rcases hm with (hm | hm | hm) | hm
      · exact .inr (.inr (.inl hm))
      · exact .inl hm
      · exact .inr (.inl hm)
      · exact .inr (.inr (.inr hm))
end FL

namespace FL
open PySem PySem.Spec PyProof.Rows L2
theorem dp_ints {K : PySem.W.Frag} {H : Hp} : ∀ ns : List Int, DpAll K H (ns.map V.int) (ns.map PyData.int)
  | [] => .nil
  | z :: r => .cons (.int z) (dp_ints r)
theorem shaped_ints (ns : List Int) : SeqAt.shaped (.list (ns.map PyData.int)) = true := by
  refine shaped_of ?_ ?_
  · rw [PyData.canLay0]
    refine canLayAll_of fun d hd => ?_
    obtain ⟨z, hz, rfl⟩ := List.mem_map.mp hd
    rfl
  · rw [PyData.depth]
    have : PyData.depthAll (ns.map PyData.int) ≤ 0 := depthAll_of fun d hd => by
      obtain ⟨z, hz, rfl⟩ := List.mem_map.mp hd
      rw [PyData.depth]
      exact Nat.le_refl _
    omega
section
variable {P : Program} {w : World} {K : PySem.W.Frag} {mg : Str → Option Value} {base : Heap}
def spFits : Sp := fun vs H Q _ => ∃ (z : Str) (first : Nat), vs = [.str z, .int (first : Nat)] ∧ 1 ≤ first ∧ first ≤ 10000 ∧ z.length ≤ 10000 ∧ fitsB z.cps.toList first ∧ ∀ H', Same H H' → Q (.bl true) H'
theorem scFits : FnScope ["_law_line", "_law_first", "_law_at"] ["_law_line", "_law_first"] (defScope sLawFits) := ⟨rfl, rfl, rfl, by decide +kernel, rfl, by decide +kernel, by decide +kernel⟩
theorem r_fits (A : FnAt K mg "_law_fits" sLawFits) (ml : mg "len" = none) (mr : mg "range" = none) : Ready P w K mg base 1 "_law_fits" ["_law_line", "_law_first"] spFits := by
  refine ready_of A (fun _ _ _ _ _ _ us hl => match us, hl with | [_, _], _ => rfl) fun f fd F => ?_
  refine F.ok scFits (fun vs H Q E h => ?_) (fun cdv A outer s H vs Q E hr h => ?_)
  · obtain ⟨z, n, rfl, _⟩ := h
    rfl
  · obtain ⟨z, n, rfl, hn1, hn2, hz, hF, q⟩ := h
    have sc := scFits
    refine ⟨_, pss_cons (ps_if (pt_cmpR op_le (pe_callB call_len_str (by rfl) ml PySem.boot_len (pa_cons (pv 0) pa_nil)) pe_int (nomark _)) (pss_one (ps_ret pe_bl)) pss_nil)
      (pss_one (ps_ret (pe_cmpR (op_eqD hr.units) (pe_lc (own := [("_law_at", 2)]) (g := gName 2) (by rfl) sc.nd (pi_range2 (by rfl) mr (pa_cons (pv 1) (pa_cons (pe_callB call_len_str (by rfl) ml PySem.boot_len (pa_cons (pv 0) pa_nil)) pa_nil)))
        (blkOk_by (own := [("_law_at", 2)]) (N := ["_law_line", "_law_first", "_law_at"]) (sc := defScope sLawFits) (by decide +kernel)) (fun _ _ _ _ _ => pg_name (i := 2) sc.nd rfl (Or.inl rfl))
        (fun _ _ _ _ _ => pts_one (PW.pt (pw_and (pt_cmpR op_eq (pe_item_str (pv 0) (pv 2) (fun _ _ => rfl)) pe_str (nomark _)) (pw_and1 (pt_cmpR op_ne (pe_item_str (pv 0) (pe_op op_sub (pv 2) pe_int) (fun _ _ => rfl)) pe_str (nomark _))))))
        (fun _ _ _ _ _ => pv 2)) (pe_lst pa_nil) (nomark _)))), ?_⟩
    have hzl := len_cps z
    refine ⟨_, rfl, z, rfl, Nat.le_of_lt (szl hz), _, _, rfl, rfl, _, rfl, ite2 (fun h => ?_) (fun h => ?_)⟩
    · exact q H (Same.refl H)
    · have h72 : ¬ z.length ≤ 72 := fun hh => h (decide_eq_true (by omega))
      have hno : ∀ p, n ≤ p → p < z.length → mayF z.cps.toList p = false := fun p a b => by
        rcases hF with hF | hF
        · rw [hzl] at hF
          exact absurd hF h72
        · exact hF p a (by rw [hzl]; exact b)
      refine ⟨_, rfl, _, rfl, z, rfl, Nat.le_of_lt (szl hz), (n : Int), (z.length : Int), rfl, ⟨by omega, by omega, by omega, by omega⟩, fun D hD => ?_⟩
      rw [show ((z.length : Int) - (n : Int)).toNat = z.length - n by omega]
      refine lc_it walk_range (fun i H' => Same H H' ∧ H' D = some (.lst [])) ⟨same_new hD, upd_same⟩ (fun _ _ _ _ => trivial) (fun i x H1 H2 hi hp hy => ?_) (fun H1 hp => ?_)
      · obtain ⟨rfl, hxx⟩ := hy
        obtain ⟨sm, hd⟩ := hp
        have hpl : ((n : Int) + (i : Nat)) = ((n + i : Nat) : Int) := by omega
        have hx' : x = .int ((n + i : Nat) : Int) := by rw [hxx]; exact congrArg V.int hpl
        subst hx'
        have hlt : n + i < z.length := by omega
        obtain ⟨c, hc⟩ : ∃ c, z.cps[n + i]? = some c := ⟨_, Array.getElem?_eq_getElem (show n + i < z.cps.size from hlt)⟩
        obtain ⟨d, hdd⟩ : ∃ d, z.cps[n + i - 1]? = some d := ⟨_, Array.getElem?_eq_getElem (show n + i - 1 < z.cps.size from Nat.lt_of_le_of_lt (Nat.sub_le _ _) hlt)⟩
        have em : mayF z.cps.toList (n + i) = (decide (c = 32) && !decide (d = 32)) := by
          unfold mayF
          rw [cps_at hc, cps_at hdd]
          simp
        rw [hno (n + i) (by omega) hlt] at em
        refine ⟨rfl, ?_⟩
        refine ⟨_, rfl, _, rfl, z, ((n + i : Nat) : Int), c, rfl, rfl, by omega, by omega, by omega, by rw [Int.toNat_natCast]; exact hc, rfl, _, rfl, ?_⟩
        rw [show decide (V.str ⟨#[c]⟩ = V.str (" " : Str)) = decide (c = 32) from sign_is rfl]
        by_cases h1 : c = 32
        · rw [decide_eq_true h1]
          refine iteT ?_
          refine ⟨_, rfl, _, rfl, _, _, rfl, rfl, z, ((n + i : Nat) : Int) - 1, d, rfl, rfl, by omega, by omega, by omega, ?_, rfl, _, rfl, ?_⟩
          · rw [show (((n + i : Nat) : Int) - 1).toNat = n + i - 1 by omega]
            exact hdd
          · rw [show decide (V.str ⟨#[d]⟩ = V.str (" " : Str)) = decide (d = 32) from sign_is rfl]
            by_cases h2 : d = 32
            · rw [decide_eq_true h2]
              exact iteF ⟨sm, hd⟩
            · exfalso
              rw [decide_eq_true h1, decide_eq_false h2] at em
              cases em
        · rw [decide_eq_false h1]
          exact iteF (iteF ⟨sm, hd⟩)
      · obtain ⟨sm, hd⟩ := hp
        refine ⟨Nat.zero_le _, fun p np => ?_⟩
        refine ⟨_, _, .lst (SqL.of ((same_new np) _ _ hd)) .nil, .lst (SqL.of upd_same) .nil, by decide +kernel, by decide +kernel, ?_⟩
        rw [eqv_nil]
        exact q _ (sm.trans (same_new np))
end
end FL

namespace FL
open PySem PySem.Spec PyProof.Rows L2
theorem first_blank (z : Str) : decide (V.str (cutS z none (some ((1 : Nat) : Int))) = V.str (" " : Str)) = contB z.cps.toList := by
  unfold contB
  refine decide_eq_decide.mpr ⟨fun h => ?_, fun h => ?_⟩
  · injection h with h
    have := congrArg (fun s : Str => s.cps.toList) h
    rw [show (cutS z none (some ((1 : Nat) : Int))).cps.toList = _ from cutS_to z 1] at this
    cases hz : z.cps.toList with
    | nil => rw [hz] at this; cases this
    | cons c r =>
      rw [hz] at this
      have e : [c] = [32] := this
      injection e with e
      rw [e]
      rfl
  · have : cutS z none (some ((1 : Nat) : Int)) = mk [32] := mk_eq (by
      rw [cutS_to]
      cases hz : z.cps.toList with
      | nil => rw [hz] at h; cases h
      | cons c r =>
        rw [hz] at h
        injection h with h
        rw [h]
        rfl)
    rw [this]
    rfl
theorem last_blank {z : Str} (h : z.cps.toList.getLast? ≠ some 32) : decide (V.str (cutS z (some (-1)) none) = V.str (" " : Str)) = false := by
  refine decide_eq_false fun e => h ?_
  injection e with e
  have e2 := congrArg (fun s : Str => s.cps.toList) e
  have hl := len_cps z
  have hc : (cutS z (some (-1)) none).cps.toList = z.cps.toList.drop (z.length - 1) := by
    unfold cutS
    have e1 : HT.sIx z.length 0 (some (-1)) = z.length - 1 := by
      have : HT.sIx z.length 0 (some (-1)) = ((-1 : Int) + (z.length : Int)).toNat := rfl
      rw [this]
      omega
    rw [e1, HT.sIx_none]
    show (List.take _ (List.drop _ _)) = _
    exact List.take_of_length_le (by rw [List.length_drop, len_cps]; omega)
  have e3 : z.cps.toList.drop (z.length - 1) = [32] := by rw [← hc]; exact e2
  rw [List.getLast?_eq_getElem?, hl]
  have := congrArg (fun l : List Nat => l[0]?) e3
  rw [List.getElem?_drop] at this
  exact this
theorem mem_flat_len {l : Ln} : ∀ {ls : List Ln}, l ∈ ls → l.length ≤ ls.flatten.length
  | a :: r, h => by
    rw [List.flatten_cons, List.length_append]
    rcases List.mem_cons.mp h with rfl | h
    · omega
    · have := mem_flat_len h
      omega
section
variable {P : Program} {w : World} {K : PySem.W.Frag} {mg : Str → Option Value} {base : Heap}
def spRight : Sp := fun vs H Q _ => ∃ x : Ln × Ln, vs = [.str (mk x.1), .str (mk x.2)] ∧ GH x ∧ ∀ H', Same H H' → Q (.bl true) H'
theorem scRight : FnScope ["_law_title", "_law_worth", "_law_text", "_law_lines", "_law_k", "_law_line"] ["_law_title", "_law_worth"] (defScope sLawHeadRight) := ⟨rfl, rfl, rfl, by decide +kernel, rfl, by decide +kernel, by decide +kernel⟩
theorem r_right {C : Addr} (A : FnAt K mg "_law_head_right" sLawHeadRight) (RF : ReadyX P w K mg base 5 "fold" ["name", "value"] (spFoldX K C)) (RT : Ready P w K mg base 1 "_law_fits" ["_law_line", "_law_first"] spFits)
    (ml : mg "len" = none) (me : mg "enumerate" = none) (mt : mg "int" = none) : Ready P w K mg base 6 "_law_head_right" ["_law_title", "_law_worth"] spRight := by
  obtain ⟨f1, fd1, g1, k1, b1, G1⟩ := RF
  obtain ⟨f2, fd2, g2, k2, b2, G2⟩ := RT
  refine ready_of A (fun _ _ _ _ _ _ us hl => match us, hl with | [_, _], _ => rfl) fun f fd F => ?_
  refine F.ok scRight (fun vs H Q E h => ?_) (fun cdv A outer s H vs Q E hr h => ?_)
  · obtain ⟨x, rfl, _⟩ := h
    rfl
  · obtain ⟨x, rfl, g, q⟩ := h
    have sc := scRight
    have r1 : Room 1 _ := hr.mono (by decide)
    refine ⟨_, pss_cons (ps_set (i := 2) sc.nd rfl (.inl rfl) (pe_call G1 hr (by rfl) g1 k1 b1 .nil passL (pa_cons (pv 0) (pa_cons (pv 1) pa_nil))))
      (pss_cons (ps_set (i := 3) sc.nd rfl (.inl rfl) (pe_bm PySem.F.plainAttrs_str PySem.F.slot_str_split PySem.F.type_str_split mt_split (pv 2) (pa_cons pe_str pa_nil)))
      (pss_cons (ps_if (PW.pt (pw_or (pt_cmpR op_ne (pe_bm0 PySem.F.plainAttrs_list PySem.F.slot_list_pop PySem.F.type_list_pop mt_pop (pv 3)) pe_str (nomark _))
        (pw_or1 (pt_cmpR op_ne (pe_join pe_str (pv 3)) (pe_ix ix_list (pe_lst (pa_cons (pe_op op_add_str (pe_op op_add_str (pv 0) pe_str) (pv 1)) (pa_cons (pe_op op_add_str (pv 0) pe_str) pa_nil)))
          (pe_callTy call_int1 (by rfl) mt (by decide +kernel) (pa_cons (pe_cmpR op_eq (pv 1) pe_str (nomark _)) pa_nil)) (fun _ _ => rfl)) (nomark _))))) (pss_one (ps_ret pe_bl)) pss_nil)
      (pss_cons (ps_for PassesOwn.never rfl (pi_enum (by rfl) me (pa_cons (pv 3) pa_nil)) (pg_tup (by rfl) (pgs_cons (pg_name (i := 4) sc.nd rfl (.inl rfl)) (pgs_cons (pg_name (i := 5) sc.nd rfl (.inl rfl)) pgs_nil)))
        (pss_cons (ps_if (PW.pt (pw_or (PW.pt (pw_and (pt_cmpR op_gt (pv 4) pe_int (nomark _)) (pw_and1 (PW.pt (pw_or (pt_cmpR op_ne (pe_slice sl_str (pv 5) po_none (po_some pe_int)) pe_str (nomark _))
            (pw_or1 (pt_cmpR op_eq (pe_bm PySem.F.plainAttrs_str PySem.F.slot_str_strip PySem.F.type_str_strip mt_stripChars (pv 5) (pa_cons pe_str pa_nil)) pe_str (nomark _))))))))
            (pw_or1 (pt_cmpR op_eq (pe_slice sl_str (pv 5) (po_some (pe_un un_neg pe_int)) po_none) pe_str (nomark _))))) (pss_one (ps_ret pe_bl)) pss_nil)
        (pss_one (ps_if (pt_not (pt_val (pe_call G2 r1 (by rfl) g2 k2 b2 .nil pass0 (pa_cons (pv 5) (pa_cons (pe_ix ix_list (pe_lst (pa_cons (pe_op op_add (pe_callB call_len_str (by rfl) ml PySem.boot_len (pa_cons (pv 0) pa_nil)) pe_int) (pa_cons pe_int pa_nil)))
          (pe_callTy call_int1 (by rfl) mt (by decide +kernel) (pa_cons (pe_cmpR op_gt (pv 4) pe_int (nomark _)) pa_nil)) (fun _ _ => rfl)) pa_nil))))) (pss_one (ps_ret pe_bl)) pss_nil))))
      (pss_one (ps_ret pe_bl))))), ?_⟩
    have hn := g.nm.nm
    have hv := g.vl.vl
    have hvl := g.vl.len
    rw [mk_codes] at hn hv
    rw [mk_len] at hvl
    have hnl := isNm_len hn
    have l1 : (": " : Str).length = 2 := by decide +kernel
    have c1 : (": " : Str).cps.toList = [58, 32] := by decide +kernel
    have l2 : (":" : Str).length = 1 := by decide +kernel
    have c2 : (":" : Str).cps.toList = [58] := by decide +kernel
    refine ⟨_, rfl, _, rfl, ?_⟩
    unfold tNil
    refine sp_fold g fun out H1 s1 ho => ?_
    obtain ⟨f0, cs, rfl, gf, gc, hfl, hch, hlen⟩ := fold_right hn hv ho
    have hok : ∀ l ∈ f0 :: cs, ∀ c ∈ l, okS c = true := fun l hl c hc => by
      rcases hch l hl c hc with rfl | rfl | hc | hc
      · decide
      · decide
      · exact g.nm.ok c (by rw [mk_codes]; exact hc)
      · exact g.vl.ok c (by rw [mk_codes]; exact hc)
    have hfll : (f0 :: cs).flatten.length ≤ x.1.length + 2 + x.2.length := by
      rw [hfl]
      split <;> simp <;> omega
    have hsp := split_lines hok
    have hsz : (mk (linesL (f0 :: cs))).length + 2 ≤ sizeLine := by
      rw [mk_len, linesL_flat]
      exact Nat.le_trans (show _ ≤ 10000 by omega) (by decide)
    refine ⟨_, rfl, rfl, _, _, rfl, rfl, by decide +kernel, hsz, fun p np => ?_⟩
    have np0 : H p = none := Same.free s1 np
    have hsp2 : (Txt.split (mk (linesL (f0 :: cs))) ("\n" : Str)).map V.str = ((f0 :: cs).map mk).map V.str ++ [V.str (mk [])] := by rw [hsp, List.map_append]; rfl
    rw [hsp2]
    refine ⟨_, rfl, .inl ⟨rfl, _, SqL.of upd_same⟩, p, _, V.str (mk []), rfl, rfl, upd_same, by simp, ?_⟩
    rw [List.dropLast_concat]
    refine ⟨rfl, _, rfl, ?_⟩
    rw [show decide (V.str (mk []) = V.str ("" : Str)) = true from by decide +kernel]
    refine iteF ?_
    have s2 : Same H (upd (upd H1 p (.lst (((f0 :: cs).map mk).map V.str ++ [V.str (mk [])]))) p (.lst (((f0 :: cs).map mk).map V.str))) := same_set (same_set s1 np0) np0
    have hp2 : (upd (upd H1 p (.lst (((f0 :: cs).map mk).map V.str ++ [V.str (mk [])]))) p (.lst (((f0 :: cs).map mk).map V.str))) p = some (.lst (((f0 :: cs).map mk).map V.str)) := upd_same
    generalize (upd (upd H1 p (.lst (((f0 :: cs).map mk).map V.str ++ [V.str (mk [])]))) p (.lst (((f0 :: cs).map mk).map V.str))) = H2 at s2 hp2 ⊢
    have l0 : ("" : Str).length = 0 := by decide +kernel
    refine ⟨⟨_, rfl⟩, _, rfl, ("" : Str), p, (f0 :: cs).map mk, rfl, rfl, .inl (SqL.of hp2), by rw [outs_sum, l0]; omega, ?_⟩
    rw [join_outs, hfl]
    refine ⟨_, rfl, _, _, rfl, rfl, by rw [mk_len, l1]; exact Nat.le_of_lt (szl (by omega)), _, rfl, _, _, rfl, rfl, by rw [len_append, mk_len, mk_len, l1]; exact Nat.le_of_lt (szl (by omega)), ?_⟩
    refine ⟨_, rfl, _, _, rfl, rfl, by rw [mk_len, l2]; exact Nat.le_of_lt (szl (by omega)), (by show 2 ≤ sizeLine; decide), fun p2 np2 => ?_⟩
    have e00 : (("" : Str)).cps.toList = [] := by decide +kernel
    have ev : decide (V.str (mk x.2) = V.str ("" : Str)) = decide (x.2 = []) := decide_eq_decide.mpr ⟨fun h => by
      injection h with h
      have := congrArg (fun s : Str => s.cps.toList) h
      rw [show (mk x.2).cps.toList = x.2 from mk_codes _] at this
      exact this.trans e00, fun h => by
      rw [h]
      rfl⟩
    refine ⟨_, rfl, rfl, .inr ⟨_, rfl, ?_⟩⟩
    rw [ev]
    have two1 : mk x.1 ++ (": " : Str) ++ mk x.2 = mk (x.1 ++ [58, 32] ++ x.2) := mk_eq (by rw [app_codes, app_codes, mk_codes, mk_codes, c1])
    have two2 : mk x.1 ++ (":" : Str) = mk (x.1 ++ [58]) := mk_eq (by rw [app_codes, mk_codes, c2])
    rw [two1, two2]
    have s3 := same_new (o := .lst [V.str (mk (x.1 ++ [58, 32] ++ x.2)), V.str (mk (x.1 ++ [58]))]) np2
    have hp3 := s3 _ _ hp2
    have sH3 := s2.trans s3
    have at3 : (upd H2 p2 (.lst [V.str (mk (x.1 ++ [58, 32] ++ x.2)), V.str (mk (x.1 ++ [58]))])) p2 = some (.lst [V.str (mk (x.1 ++ [58, 32] ++ x.2)), V.str (mk (x.1 ++ [58]))]) := upd_same
    generalize (upd H2 p2 (.lst [V.str (mk (x.1 ++ [58, 32] ++ x.2)), V.str (mk (x.1 ++ [58]))])) = H3 at s3 hp3 sH3 at3 ⊢
    have pickv : atI [V.str (mk (x.1 ++ [58, 32] ++ x.2)), V.str (mk (x.1 ++ [58]))] (if decide (x.2 = []) = true then 1 else 0) = some (.str (mk (if x.2 = [] then x.1 ++ [58] else x.1 ++ [58, 32] ++ x.2))) := by
      by_cases hv0 : x.2 = []
      · rw [decide_eq_true hv0, if_pos rfl, if_pos hv0]
        rfl
      · rw [decide_eq_false hv0, if_neg Bool.false_ne_true, if_neg hv0]
        rfl
    refine ⟨p2, _, _, _, rfl, rfl, SqL.of at3, pickv, rfl, _, rfl, ?_⟩
    rw [decide_eq_true rfl]
    refine iteF ?_
    refine ⟨_, rfl, p, _, rfl, SqL.of hp3, ?_⟩
    refine for_it (walk_enum (K := K) (a := p) (xs := ((f0 :: cs).map mk).map V.str)) (fun i σ H' => ∃ y4 y5, σ = [some (.str (mk x.1)), some (.str (mk x.2)), some (.str (mk (linesL (f0 :: cs)))), some (.ref p), y4, y5] ∧ Same H3 H') ⟨none, none, rfl, Same.refl _⟩ (fun i σ H' _ hp => ?_) (fun i y σ H4 H5 hi hp hy => ?_) (fun σ H4 hp => ?_)
    · obtain ⟨y4, y5, rfl, sm⟩ := hp
      exact SqL.of (sm _ _ hp3)
    · obtain ⟨y4, y5, rfl, sm⟩ := hp
      obtain ⟨T, xx, yy, rfl, nT, rfl, hxx, hyy⟩ := hy
      injection hxx with hxx
      subst hxx
      rw [List.length_map, List.length_map] at hi
      have hyy : (((f0 :: cs).map mk).map V.str)[i]? = some yy := hyy
      have hz : (f0 :: cs)[i]? = some (f0 :: cs)[i] := List.getElem?_eq_getElem hi
      rw [List.getElem?_map, List.getElem?_map, hz] at hyy
      injection hyy with hyy
      subst hyy
      have hzl : ((f0 :: cs)[i]).length ≤ 10000 := by
        have h1 := mem_flat_len (List.getElem_mem hi)
        omega
      have hgood : Good (if i = 0 then x.1.length + 2 else 1) (f0 :: cs)[i] ∧ (i ≠ 0 → contB (f0 :: cs)[i] = true ∧ stripL (f0 :: cs)[i] ≠ []) := by
        cases i with
        | zero => exact ⟨gf, fun h => absurd rfl h⟩
        | succ k =>
          obtain ⟨a1, a2, a3⟩ := gc _ (List.getElem_mem (by simpa using hi : k < cs.length))
          exact ⟨a1, fun _ => ⟨a2, a3⟩⟩
      generalize (f0 :: cs)[i] = l at hz hzl hgood ⊢
      have hzs : (mk l).length ≤ sizeLine := by rw [mk_len]; exact Nat.le_of_lt (szl hzl)
      have sT := same_new (o := .tup [.int (i : Nat), .str (mk l)]) nT
      refine ⟨T, _, rfl, SqT.of upd_same, rfl, _, _, rfl, _, _, rfl, rfl, ?_⟩
      generalize (upd H4 T (.tup [.int (i : Nat), .str (mk l)])) = H5 at sT ⊢
      refine ⟨_, rfl, _, _, rfl, rfl, _, rfl, ?_⟩
      by_cases h0 : i = 0
      · rw [decide_eq_false (by omega : ¬ ((i : Int) > 0))]
        refine iteF (iteF ?_)
        refine ⟨_, rfl, 1, rfl, _, rfl, mk l, rfl, hzs, rfl, _, rfl, ?_⟩
        rw [show decide (V.str (cutS (mk l) (some (-1)) none) = V.str (" " : Str)) = false from last_blank (by rw [mk_codes]; exact hgood.1.las)]
        refine iteF ?_
        refine ⟨_, rfl, _, rfl, mk x.1, rfl, by rw [mk_len]; exact Nat.le_of_lt (szl (by omega)), _, _, rfl, rfl, (by show 2 ≤ sizeLine; decide), fun p3 np3 => ?_⟩
        have sp3 := same_new (o := .lst [V.int ((mk x.1).length + 2), V.int 1]) np3
        refine ⟨_, rfl, _, _, rfl, rfl, .inr ⟨_, rfl, ?_⟩⟩
        rw [decide_eq_false (by omega)]
        refine ⟨p3, _, 0, .int (x.1.length + 2 : Nat), rfl, rfl, SqL.of upd_same, ?_, mk l, x.1.length + 2, rfl, by omega, by omega, by rw [mk_len]; exact hzl, ?_, fun H7 s7 => ⟨_, rfl, iteF ⟨_, _, rfl, ((sm.trans sT).trans sp3).trans s7⟩⟩⟩
        · show some (V.int (((mk x.1).length : Int) + 2)) = _
          rw [mk_len]
          rfl
        · have := hgood.1.fits
          rw [if_pos h0] at this
          rw [mk_codes]
          exact this
      · rw [decide_eq_true (by omega : (i : Int) > 0)]
        obtain ⟨hc1, hc2⟩ := hgood.2 h0
        refine iteT ?_
        refine ⟨_, rfl, _, rfl, mk l, rfl, hzs, rfl, _, rfl, ?_⟩
        rw [show decide (V.str (cutS (mk l) none (some 1)) = V.str (" " : Str)) = true from (first_blank (mk l)).trans (by rw [mk_codes]; exact hc1)]
        refine iteF ?_
        refine ⟨_, rfl, rfl, _, _, rfl, rfl, hzs, rfl, _, rfl, ?_⟩
        rw [show decide (V.str (Txt.stripChars (mk l) (" " : Str)) = V.str ("" : Str)) = false from decide_eq_false fun e => hc2 (by
          injection e with e
          have := congrArg (fun s : Str => s.cps.toList) e
          rw [show (Txt.stripChars (mk l) (" " : Str)).cps.toList = _ from strip_codes _, mk_codes] at this
          exact this.trans e00)]
        refine iteF ?_
        refine ⟨_, rfl, 1, rfl, _, rfl, mk l, rfl, hzs, rfl, _, rfl, ?_⟩
        rw [show decide (V.str (cutS (mk l) (some (-1)) none) = V.str (" " : Str)) = false from last_blank (by rw [mk_codes]; exact hgood.1.las)]
        refine iteF ?_
        refine ⟨_, rfl, _, rfl, mk x.1, rfl, by rw [mk_len]; exact Nat.le_of_lt (szl (by omega)), _, _, rfl, rfl, (by show 2 ≤ sizeLine; decide), fun p3 np3 => ?_⟩
        have sp3 := same_new (o := .lst [V.int ((mk x.1).length + 2), V.int 1]) np3
        refine ⟨_, rfl, _, _, rfl, rfl, .inr ⟨_, rfl, ?_⟩⟩
        rw [decide_eq_true (by omega)]
        refine ⟨p3, _, 1, .int (1 : Nat), rfl, rfl, SqL.of upd_same, ?_, mk l, 1, rfl, by omega, by omega, by rw [mk_len]; exact hzl, ?_, fun H7 s7 => ⟨_, rfl, iteF ⟨_, _, rfl, ((sm.trans sT).trans sp3).trans s7⟩⟩⟩
        · rfl
        · have := hgood.1.fits
          rw [if_neg h0] at this
          rw [mk_codes]
          exact this
    · obtain ⟨y4, y5, rfl, sm⟩ := hp
      exact q H4 (sH3.trans sm)
end
end FL

namespace FL
open PySem PySem.Spec PyProof.Rows L2
section
variable {P : Program} {w : World} {K : PySem.W.Frag} {mg : Str → Option Value} {base : Heap}
abbrev N4 : List Str := ["_law_script", "_law_k", "_law_source_here", "_law_heads_told", "_law_text", "_law_lines", "_law_title", "_law_worth"]
abbrev own4 : List (Str × Nat) := [("_law_title", 6), ("_law_worth", 7)]
def spLaw (K : PySem.W.Frag) : Sp := fun vs H Q _ => ∃ (a : Addr) (ns : List Int), vs = [.ref a] ∧ SqL K H a (ns.map V.int) ∧ ns.length ≤ 63 ∧ ∀ H', Q (.bl true) H'
theorem scLaw : FnScope ["_law_script", "_law_k", "_law_source_here", "_law_heads_told", "_law_text", "_law_lines", "_law_title", "_law_worth"] ["_law_script"] (defScope sLaw) := ⟨rfl, rfl, rfl, by decide +kernel, rfl, by decide +kernel, by decide +kernel⟩
theorem ok_law {C f : Addr} {fd : FuncData} (F : Fun K "law" "law" sLaw f fd) (RSo : Ready P w K mg base 2 "_law_source" ["_law_script", "_law_k"] (spSource K)) (RH : Ready P w K mg base 5 "_law_heads" ["_law_source_here", "_law_most"] spHeads)
    (RG : Ready P w K mg base 6 "_law_head_right" ["_law_title", "_law_worth"] spRight) (RR : ReadyX P w K mg base 7 "read_heads" ["lines"] (spReadX K C)) (RF : ReadyX P w K mg base 5 "fold" ["name", "value"] (spFoldX K C))
    (ml : mg "len" = none) (mr : mg "range" = none) (mx : mg "max" = none) (mn : mg "min" = none) (ma : mg "all" = none) :
    FnOk P w K mg base CX0 8 f fd ["_law_script"] (spLaw K) := by
  obtain ⟨f1, fd1, g1, k1, b1, G1⟩ := RSo
  obtain ⟨f2, fd2, g2, k2, b2, G2⟩ := RH
  obtain ⟨f3, fd3, g3, k3, b3, G3⟩ := RG
  obtain ⟨f4, fd4, g4, k4, b4, G4⟩ := RR
  obtain ⟨f5, fd5, g5, k5, b5, G5⟩ := RF
  refine F.ok scLaw (fun vs H Q E h => ?_) (fun cdv A outer s H vs Q E hr h => ?_)
  · obtain ⟨a, ns, rfl, _⟩ := h
    rfl
  · obtain ⟨a, ns, rfl, hS, hns, q⟩ := h
    have sc := scLaw
    have r2 : Room 2 _ := hr.mono (by decide)
    have r5 : Room 5 _ := hr.mono (by decide)
    refine ⟨_, pss_cons (ps_for PassesOwn.never rfl (pi_range1 (by rfl) mr (pa_cons (pe_callB (call_max2 rfl) (by rfl) mx (by decide +kernel) (pa_cons pe_int (pa_cons (pe_callB (call_min2 rfl) (by rfl) mn (by decide +kernel) (pa_cons pe_int
          (pa_cons (pe_callB call_len_seq (by rfl) ml PySem.boot_len (pa_cons (pv 0) pa_nil)) pa_nil))) pa_nil))) pa_nil)) (pg_name (i := 1) sc.nd rfl (.inl rfl))
        (pss_cons (ps_set (i := 2) sc.nd rfl (.inl rfl) (pe_call G1 r2 (by rfl) g1 k1 b1 .nil pass0 (pa_cons (pv 0) (pa_cons (pv 1) pa_nil))))
        (pss_cons (ps_set (i := 3) sc.nd rfl (.inl rfl) (pe_call G2 r5 (by rfl) g2 k2 b2 .nil pass0 (pa_cons (pv 2) (pa_cons pe_int pa_nil))))
        (pss_cons (ps_set (i := 4) sc.nd rfl (.inl rfl) (pe_join pe_str (pe_lc (own := own4) (g := gTup K 2 (gCons (gName 6) (gCons (gName 7) gNil))) (tt := tYes) (te := tCall (spFoldX K C) [] E0 (tCons (tVar 6) (tCons (tVar 7) tNil))) (by rfl) sc.nd (pi_list (pv 3))
          (blkOk_by (own := own4) (N := N4) (sc := defScope sLaw) (by decide +kernel))
          (fun _ _ _ _ _ => pg_tup (by rfl) (pgs_cons (pg_name (i := 6) sc.nd rfl (Or.inl rfl)) (pgs_cons (pg_name (i := 7) sc.nd rfl (Or.inl rfl)) pgs_nil))) (fun _ _ _ _ _ => pts_nil)
          (fun _ _ _ _ _ => by exact (pe_call G5 r5 (by rfl) g5 k5 b5 .nil passL (pa_cons (pv 6) (pa_cons (pv 7) pa_nil)))))))
        (pss_cons (ps_set (i := 5) sc.nd rfl (.inl rfl) (pe_slice sl_list (pe_bm PySem.F.plainAttrs_str PySem.F.slot_str_split PySem.F.type_str_split mt_split (pv 4) (pa_cons pe_str pa_nil)) po_none (po_some (pe_un un_neg pe_int))))
        (pss_cons (ps_if (pt_cmpR (op_neD hr.units) (pe_call G4 hr (by rfl) g4 k4 b4 .nil passL (pa_cons (pv 5) pa_nil)) (pv 3) (nomark _)) (pss_one (ps_ret pe_bl)) pss_nil)
        (pss_one (ps_if (pt_not (pt_val (pe_callB (cr_all rfl) (by rfl) ma (by decide +kernel) (pa_cons (pe_lc (own := own4) (g := gTup K 2 (gCons (gName 6) (gCons (gName 7) gNil))) (tt := tYes) (te := tCall spRight [] E0 (tCons (tVar 6) (tCons (tVar 7) tNil))) (by rfl) sc.nd (pi_list (pv 3))
          (blkOk_by (own := own4) (N := N4) (sc := defScope sLaw) (by decide +kernel))
          (fun _ _ _ _ _ => pg_tup (by rfl) (pgs_cons (pg_name (i := 6) sc.nd rfl (Or.inl rfl)) (pgs_cons (pg_name (i := 7) sc.nd rfl (Or.inl rfl)) pgs_nil))) (fun _ _ _ _ _ => pts_nil)
          (fun _ _ _ _ _ => by exact (pe_call G3 (hr.mono (by decide)) (by rfl) g3 k3 b3 .nil pass0 (pa_cons (pv 6) (pa_cons (pv 7) pa_nil))))) pa_nil)))) (pss_one (ps_ret pe_bl)) pss_nil))))))))
      (pss_one (ps_ret (pe_cmpR (op_eqD hr.units) (pe_call G4 hr (by rfl) g4 k4 b4 .nil passL (pa_cons (pe_lst pa_nil) pa_nil)) (pe_lst pa_nil) (nomark _)))), ?_⟩
    have hlen : (ns.map V.int).length = ns.length := List.length_map ..
    refine ⟨_, rfl, a, _, rfl, .inl hS, ?_⟩
    rw [hlen]
    refine ⟨_, _, rfl, _, _, rfl, ?_⟩
    generalize hM : (if (if (ns.length : Int) < 3 then (ns.length : Int) else 3) > 1 then (if (ns.length : Int) < 3 then (ns.length : Int) else 3) else 1) = M
    have hM0 : 0 ≤ M ∧ M ≤ 100 := by
      rw [← hM]
      constructor <;> (split <;> split <;> omega)
    refine ⟨M, rfl, by omega, by omega, ?_⟩
    refine for_it walk_range (fun i σ H' => ∃ y1 y2 y3 y4 y5 y6 y7, σ = [some (.ref a), y1, y2, y3, y4, y5, y6, y7] ∧ Same H H') ⟨none, none, none, none, none, none, none, rfl, Same.refl H⟩ (fun _ _ _ _ _ => trivial) (fun i x σ H1 H2 hi hp hy => ?_) (fun σ H1 hp => ?_)
    rotate_left
    · refine ⟨Nat.zero_le _, fun p np => ?_⟩
      unfold tNil
      show spReadX K C [.ref p] _ _ _
      refine sp_read (m := 0) (zs := []) (n := 0) upd_same (by decide) ⟨(fun _ h => by cases h), Nat.le_refl _, Nat.le_refl _⟩ (rfl : readR (codesOf []) 0 0 = some (.ok [])) fun H2 D Ts s2 n2 h2 hh2 => ?_
      refine ⟨Nat.zero_le _, fun p2 np2 => ?_⟩
      have hT0 : Ts = [] := by
        cases hh2
        rfl
      subst hT0
      refine ⟨_, _, .lst (SqL.of ((same_new np2) _ _ h2)) .nil, .lst (SqL.of upd_same) .nil, by decide +kernel, by decide +kernel, ?_⟩
      exact q _
    obtain ⟨y1, y2, y3, y4, y5, y6, y7, rfl, sm⟩ := hp
    obtain ⟨rfl, hxv⟩ := hy
    have hx' : x = .int (i : Nat) := by
      rw [hxv]
      exact congrArg V.int (Int.zero_add _)
    subst hx'
    refine ⟨_, rfl, _, rfl, a, ns, i, rfl, sm.seq hS, fun H3 sr s3 nsr hsr => ?_⟩
    have nsr0 : H sr = none := Same.free sm nsr
    have s0 : Same H H3 := sm.trans s3
    have hsn : H3 sr ≠ none := by
      obtain ⟨x, y, z, e⟩ := hsr
      rw [e]
      simp
    refine ⟨_, rfl, sr, 6, rfl, by decide, hsr, fun HD Ts hs H7 nHD h7 hh7 hg hl d4 => ?_⟩
    have sH7 := same_drawn s0 nsr0 d4
    have sh := hs_shaped (hs := hs) (fun x hx => ⟨fun c hc => okS_lt ((hg x hx).nm.ok c (by rw [mk_codes]; exact hc)), fun c hc => okS_lt ((hg x hx).vl.ok c (by rw [mk_codes]; exact hc))⟩)
    refine ⟨⟨_, rfl⟩, _, rfl, HD, rfl, ⟨_, SqL.of h7⟩, fun D8 n8 => ?_⟩
    refine lc_it (walk_list (K := K) (a := HD) (xs := Ts.map V.ref)) (fun j H' => Same H7 H' ∧ ∃ outs : List Ln, H' D8 = some (.lst ((outs.map mk).map V.str)) ∧ Paired (fun o x => FoldOut x.1 x.2 o) outs (hs.take j)) ⟨same_new n8, [], upd_same, .nil⟩ (fun j H' _ p => SqL.of (p.1 _ _ h7)) (fun j x Hu Hv hj hp hy => ?_) (fun H8 hp => ?_)
    · obtain ⟨rfl, hx⟩ := hy
      obtain ⟨su, outs, hd, ho⟩ := hp
      rw [List.length_map] at hj
      obtain ⟨T, b, t1, t2, t3⟩ := paired_at hh7 hj
      rw [List.getElem?_map, t1] at hx
      injection hx with hx
      subst hx
      have gb := hg b (List.mem_of_getElem? t2)
      have hol : outs.length = (hs.take j).length := Paired.length ho
      have htl := List.length_take_le j hs
      have hjl : j < hs.length := (List.getElem?_eq_some_iff.mp t2).1
      refine ⟨T, heV b, rfl, SqT.of (su _ _ t3.2), rfl, _, _, rfl, _, _, rfl, rfl, rfl, ?_⟩
      unfold tYes
      refine iteT ?_
      refine ⟨_, rfl, _, rfl, ?_⟩
      unfold tNil
      refine sp_fold gb fun out H9 s9 hout => ⟨_, s9 _ _ hd, by rw [List.length_map, List.length_map]; exact szl (by omega), same_set (su.trans s9) n8, outs ++ [out], by rw [upd_same, List.map_append, List.map_append]; rfl, ?_⟩
      rw [take_more t2]
      exact Paired.snoc ho hout
    obtain ⟨sH8, outs, hdH8, hoH8⟩ := hp
    rw [List.length_map, List.take_of_length_le (by have := Paired.length hh7; omega)] at hoH8
    obtain ⟨bz, z1, z2, z3, z4, z5, z6⟩ := outs_blks hoH8 hg
    have l0 : ("" : Str).length = 0 := by decide +kernel
    refine ⟨("" : Str), D8, outs.map mk, rfl, rfl, .inl (SqL.of hdH8), by rw [outs_sum, l0, z2, linesL_flat]; omega, ?_⟩
    rw [join_outs, z2]
    have hHD8 := sH8 _ _ h7
    have hT8 : HeadsAt H3 H8 Ts hs := HeadsAt.same hh7 fun T x _ h => sH8 _ _ h
    have hsz : (mk (linesL (bz.map (·.2)).flatten)).length + 2 ≤ sizeLine := by
      rw [mk_len, linesL_flat]
      exact Nat.le_trans (show _ ≤ 10000 by omega) (by decide)
    refine ⟨_, rfl, rfl, _, _, rfl, rfl, by decide +kernel, hsz, fun p np => ⟨1, rfl, -1, rfl, p, _, rfl, SqL.of upd_same, fun p2 np2 => ?_⟩⟩
    have hsp := split_lines z4
    have hcut : cutV ((Txt.split (mk (linesL (bz.map (·.2)).flatten)) ("\n" : Str)).map V.str) none (some (-1)) = ((bz.map (·.2)).flatten.map mk).map V.str := by
      rw [hsp, List.map_append]
      exact cutV_init _ _
    have sHD : Same H8 _ := (same_new (o := .lst ((Txt.split (mk (linesL (bz.map (·.2)).flatten)) ("\n" : Str)).map V.str)) np).trans (same_new (o := .lst (cutV ((Txt.split (mk (linesL (bz.map (·.2)).flatten)) ("\n" : Str)).map V.str) none (some (-1)))) np2)
    have hR2 : readR (codesOf ((bz.map (·.2)).flatten.map mk)) bz.length 0 = some (.ok hs) := by
      have := read_blocks bz [] z3
      rw [List.nil_append, z1] at this
      rw [codes_mk]
      exact this
    refine ⟨_, rfl, ?_⟩
    unfold tNil
    show spReadX K C [.ref p2] _ _ _
    refine sp_read (m := 3300) (zs := (bz.map (·.2)).flatten.map mk) (by rw [upd_same, hcut]) (by decide) ⟨fun z hz c hc => ?_, by rw [List.length_map]; omega, by rw [total_codes, codes_mk]; omega⟩ hR2 fun H10 D10 T10 s10 n10 h10 hh10 => ?_
    · obtain ⟨l, hl, rfl⟩ := List.mem_map.mp hz
      rw [mk_codes] at hc
      exact z4 l hl c hc
    have s90 := sHD.trans s10
    have hHD10 := s90 _ _ hHD8
    have hT10 : HeadsAt H3 H10 Ts hs := HeadsAt.same hT8 fun T x _ h => s90 _ _ h
    refine ⟨_, rfl, _, _, .lst (SqL.of h10) (hs_dp hh10), .lst (SqL.of hHD10) (hs_dp hT10), sh, sh, _, rfl, ?_⟩
    rw [hs_self sh]
    refine iteF ?_
    refine ⟨_, rfl, HD, rfl, ⟨_, SqL.of hHD10⟩, fun D11 n11 => ?_⟩
    refine lc_it (walk_list (K := K) (a := HD) (xs := Ts.map V.ref)) (fun j H' => Same H10 H' ∧ H' D11 = some (.lst ((List.replicate j true).map V.bl))) ⟨same_new n11, upd_same⟩ (fun j H' _ p => SqL.of (p.1 _ _ hHD10)) (fun j x Hu Hv hj hp hy => ?_) (fun H11 hp => ?_)
    · obtain ⟨rfl, hx⟩ := hy
      obtain ⟨su, hd⟩ := hp
      rw [List.length_map] at hj
      obtain ⟨T, b, t1, t2, t3⟩ := paired_at hT10 hj
      rw [List.getElem?_map, t1] at hx
      injection hx with hx
      subst hx
      have gb := hg b (List.mem_of_getElem? t2)
      have hjl : j < hs.length := (List.getElem?_eq_some_iff.mp t2).1
      refine ⟨T, heV b, rfl, SqT.of (su _ _ t3.2), rfl, _, _, rfl, _, _, rfl, rfl, rfl, ?_⟩
      unfold tYes
      refine iteT ?_
      refine ⟨_, rfl, _, rfl, b, rfl, gb, fun H9 s9 => ⟨_, s9 _ _ hd, by rw [List.length_map, List.length_replicate]; exact szl (by omega), same_set (su.trans s9) n11, ?_⟩⟩
      rw [upd_same, List.replicate_succ', List.map_append]
      rfl
    obtain ⟨s11, hd11⟩ := hp
    refine ⟨D11, _, rfl, SqL.of hd11, ?_⟩
    have eall : (List.replicate (Ts.map V.ref).length true).all id = true := List.all_eq_true.mpr fun b hb => by rw [List.eq_of_mem_replicate hb]; rfl
    rw [eall]
    exact ⟨_, rfl, iteF ⟨_, _, _, _, _, _, _, rfl, ((sH7.trans sH8).trans s90).trans s11⟩⟩
end
end FL

namespace FL
open PySem PySem.Spec PyProof.Rows L2
theorem all_mk {l : PySem.W.OpenLaw} {w : World} {K : PySem.W.Frag} {h : Heap} {mg : Str → Option Value} {fa f1 f2 f3 f4 f5 f6 f7 f8 f9 f10 f11 f12 f13 f14 f15 f16 f17 f18 f19 f20 f21 f22 f23 f24 f25 f26 : Addr} (X : K.In h) (G : h.Ns mainGlobals mg) (hfa : mg "law" = some (.ref fa))
    {od1 an1 od2 an2 od3 an3 od4 an4 od5 an5 od6 an6 od7 an7 od8 an8 od9 an9 od10 an10 od11 an11 od12 an12 od13 an13 od14 an14 od15 an15 od16 an16 od17 an17 od18 an18 od19 an19 od20 an20 od21 an21 od22 an22 od23 an23 od24 an24 od25 an25 od26 an26 : Option Addr} {sl1 sl2 sl3 sl4 sl5 sl6 sl7 sl8 sl9 sl10 sl11 sl12 sl13 sl14 sl15 sl16 sl17 sl18 sl19 sl20 sl21 sl22 sl23 sl24 sl25 sl26 : Array (Option Value)} {oc1 kV1 dc1 pm1 cd1 ct1 oc2 kV2 dc2 pm2 cd2 ct2 oc3 kV3 dc3 pm3 cd3 ct3 oc4 kV4 dc4 pm4 cd4 ct4 oc5 kV5 dc5 pm5 cd5 ct5 oc6 kV6 dc6 pm6 cd6 ct6 oc7 kV7 dc7 pm7 cd7 ct7 oc8 kV8 dc8 pm8 cd8 ct8 oc9 kV9 dc9 pm9 cd9 ct9 oc10 kV10 dc10 pm10 cd10 ct10 oc11 kV11 dc11 pm11 cd11 ct11 oc12 kV12 dc12 pm12 cd12 ct12 oc13 kV13 dc13 pm13 cd13 ct13 oc14 kV14 dc14 pm14 cd14 ct14 oc15 kV15 dc15 pm15 cd15 ct15 oc16 kV16 dc16 pm16 cd16 ct16 oc17 kV17 dc17 pm17 cd17 ct17 oc18 kV18 dc18 pm18 cd18 ct18 oc19 kV19 dc19 pm19 cd19 ct19 oc20 kV20 dc20 pm20 cd20 ct20 oc21 kV21 dc21 pm21 cd21 ct21 oc22 kV22 dc22 pm22 cd22 ct22 oc23 kV23 dc23 pm23 cd23 ct23 oc24 kV24 dc24 pm24 cd24 ct24 oc25 kV25 dc25 pm25 cd25 ct25 oc26 kV26 dc26 pm26 cd26 ct26 : Value} {tk1 tk2 tk3 : Tok}
    {CL fL TL : Addr} {odL anL odTL : Option Addr} {slL slTL : Array (Option Value)} {ocL kVL dcL pmL cdL ctL ocTL : Value} {tkL : Tok} {nTL : Nat}
    {C fC TC NC : Addr} {nmC qC : Str} {bsC bmC : List Value} {snC : List Str} {subC : List Value} {abC : Bool} {colC : Option Bool} {ddC odC anC odTC : Option Addr} {m0C m1C m2C m3C m5C : Option Value} {slC slTC : Array (Option Value)} {ocC kVC dcC pmC cdC ctC ocTC : Value} {tkC : Tok} {nTC : Nat}
    (gL : PySem.W.nsIn K mainGlobals "LetterError" = some (some (.ref CL)))
    (iL : PySem.W.findIn K (.ref CL) "__init__" = some (some (.ref fL)))
    (lL : K.lookup fL = some ⟨ocL, odL, .func (PySem.W.fnOf "__init__" "LetterError.__init__" (defArgs sLE) (defBody sLE) (defScope sLE) (.ref TL) kVL dcL pmL anL cdL ctL), slL⟩)
    (cL : PySem.W.codeIn K cdL "LetterError.__init__" = true)
    (kL : PySem.W.keepIn K (.ref fL) = true)
    (dL : K.lookup TL = some ⟨ocTL, odTL, .seq #[.str ("" : Str) tkL] nTL, slTL⟩)
    (gaL : PySem.W.specialIn K (.ref CL) "__getattribute__" = some (some (.builtin "type.__getattribute__")))
    (rdL : PySem.W.readsIn K CL (.type "type") = true)
    (atL : PySem.W.findCls K (.ref CL) (.type "type") "__init__" = some (.val (.ref fL)))
    (vV : PySem.W.findCls K (.type "ValueError") (.type "type") "__init__" = some (.val (.builtin "ValueError.__init__")))
    (zVE : PySem.W.nsIn K mainGlobals "ValueError" = some none)
    (exL : PySem.W.subIn K (.ref CL) (.type "BaseException") = some true)
    (hdL : PySem.W.hasDictIn K CL = true)
    (tyL : PySem.W.typeIn K (.ref CL) = some (.type "type"))
    (gC : PySem.W.nsIn K mainGlobals "NoHead" = some (some (.ref C)))
    (xC : K.lookup C = some (excClassObj nmC qC C NC bsC bmC true snC subC abC colC ddC m0C m1C m2C m3C m5C "ValueError.__new__"))
    (rvC : PySem.HandSPX.refsVE bmC = true)
    (saC : PySem.W.findIn K (.ref C) "__setattr__" = some (some (.builtin "object.__setattr__")))
    (exC : PySem.W.subIn K (.ref C) (.type "BaseException") = some true)
    (tyC : PySem.W.typeIn K (.ref C) = some (.type "type"))
    (kcC : PySem.W.keepIn K (.ref C) = true)
    (noC : PySem.W.findIn K (.ref C) "line" = some none)
    (iC : PySem.W.findIn K (.ref C) "__init__" = some (some (.ref fC)))
    (tiC : PySem.W.typeIn K (.ref fC) = some (.type "function"))
    (lC : K.lookup fC = some ⟨ocC, odC, .func (PySem.W.fnOf "__init__" "NoHead.__init__" (defArgs sNH) (defBody sNH) (defScope sNH) (.ref TC) kVC dcC pmC anC cdC ctC), slC⟩)
    (cC : PySem.W.codeIn K cdC "NoHead.__init__" = true)
    (kC : PySem.W.keepIn K (.ref fC) = true)
    (dC : K.lookup TC = some ⟨ocTC, odTC, .seq #[.int 0 tkC] nTC, slTC⟩)
    (hgC : PySem.W.findIn K (.ref C) "__getattribute__" = some (some (.builtin "BaseException.__getattribute__")))
    (hkC : PySem.W.findIn K (.ref C) "__getattr__" = some none)
    (hdC : PySem.W.hasDictIn K C = true)
    (haC : PySem.W.findIn K (.ref C) "__class__" = some (some (.builtin "object.__class__")))
    (hmC : PySem.W.mroIn K C (.type "object") = some true)
    (suC : PySem.W.subIn K (.ref C) (.ref CL) = some true)
    (hn0 : PySem.W.specialIn K (.builtin "object.__class__") "__get__" = some (some (.builtin "getset_descriptor.__get__")))
    (ht0 : PySem.W.takesIn K (.builtin "object.__class__") = some true)
    (a1 : PySem.W.nsIn K mainGlobals "is_text" = some (some (.ref f1))) (l1 : K.lookup f1 = some ⟨oc1, od1, .func (PySem.W.fnOf "is_text" "is_text" (defArgs sIsText) (defBody sIsText) (defScope sIsText) .none kV1 dc1 pm1 an1 cd1 ct1), sl1⟩) (c1 : PySem.W.codeIn K cd1 "is_text" = true) (k1 : PySem.W.keepIn K (.ref f1) = true)
    (a2 : PySem.W.nsIn K mainGlobals "is_line" = some (some (.ref f2))) (l2 : K.lookup f2 = some ⟨oc2, od2, .func (PySem.W.fnOf "is_line" "is_line" (defArgs sIsLine) (defBody sIsLine) (defScope sIsLine) .none kV2 dc2 pm2 an2 cd2 ct2), sl2⟩) (c2 : PySem.W.codeIn K cd2 "is_line" = true) (k2 : PySem.W.keepIn K (.ref f2) = true)
    (a3 : PySem.W.nsIn K mainGlobals "is_letter" = some (some (.ref f3))) (l3 : K.lookup f3 = some ⟨oc3, od3, .func (PySem.W.fnOf "is_letter" "is_letter" (defArgs sIsLetter) (defBody sIsLetter) (defScope sIsLetter) .none kV3 dc3 pm3 an3 cd3 ct3), sl3⟩) (c3 : PySem.W.codeIn K cd3 "is_letter" = true) (k3 : PySem.W.keepIn K (.ref f3) = true)
    (a4 : PySem.W.nsIn K mainGlobals "is_figure" = some (some (.ref f4))) (l4 : K.lookup f4 = some ⟨oc4, od4, .func (PySem.W.fnOf "is_figure" "is_figure" (defArgs sIsFigure) (defBody sIsFigure) (defScope sIsFigure) .none kV4 dc4 pm4 an4 cd4 ct4), sl4⟩) (c4 : PySem.W.codeIn K cd4 "is_figure" = true) (k4 : PySem.W.keepIn K (.ref f4) = true)
    (a5 : PySem.W.nsIn K mainGlobals "_is_sign" = some (some (.ref f5))) (l5 : K.lookup f5 = some ⟨oc5, od5, .func (PySem.W.fnOf "_is_sign" "_is_sign" (defArgs sIsSign) (defBody sIsSign) (defScope sIsSign) .none kV5 dc5 pm5 an5 cd5 ct5), sl5⟩) (c5 : PySem.W.codeIn K cd5 "_is_sign" = true) (k5 : PySem.W.keepIn K (.ref f5) = true)
    (a6 : PySem.W.nsIn K mainGlobals "fold" = some (some (.ref f6))) (l6 : K.lookup f6 = some ⟨oc6, od6, .func (PySem.W.fnOf "fold" "fold" (defArgs sFold) (defBody sFold) (defScope sFold) .none kV6 dc6 pm6 an6 cd6 ct6), sl6⟩) (c6 : PySem.W.codeIn K cd6 "fold" = true) (k6 : PySem.W.keepIn K (.ref f6) = true)
    (a7 : PySem.W.nsIn K mainGlobals "read_heads" = some (some (.ref f7))) (l7 : K.lookup f7 = some ⟨oc7, od7, .func (PySem.W.fnOf "read_heads" "read_heads" (defArgs sReadHeads) (defBody sReadHeads) (defScope sReadHeads) .none kV7 dc7 pm7 an7 cd7 ct7), sl7⟩) (c7 : PySem.W.codeIn K cd7 "read_heads" = true) (k7 : PySem.W.keepIn K (.ref f7) = true)
    (a8 : PySem.W.nsIn K mainGlobals "begins_head" = some (some (.ref f8))) (l8 : K.lookup f8 = some ⟨oc8, od8, .func (PySem.W.fnOf "begins_head" "begins_head" (defArgs sBeginsHead) (defBody sBeginsHead) (defScope sBeginsHead) .none kV8 dc8 pm8 an8 cd8 ct8), sl8⟩) (c8 : PySem.W.codeIn K cd8 "begins_head" = true) (k8 : PySem.W.keepIn K (.ref f8) = true)
    (a9 : PySem.W.nsIn K mainGlobals "is_name" = some (some (.ref f9))) (l9 : K.lookup f9 = some ⟨oc9, od9, .func (PySem.W.fnOf "is_name" "is_name" (defArgs sIsName) (defBody sIsName) (defScope sIsName) .none kV9 dc9 pm9 an9 cd9 ct9), sl9⟩) (c9 : PySem.W.codeIn K cd9 "is_name" = true) (k9 : PySem.W.keepIn K (.ref f9) = true)
    (a10 : PySem.W.nsIn K mainGlobals "is_value" = some (some (.ref f10))) (l10 : K.lookup f10 = some ⟨oc10, od10, .func (PySem.W.fnOf "is_value" "is_value" (defArgs sIsValue) (defBody sIsValue) (defScope sIsValue) .none kV10 dc10 pm10 an10 cd10 ct10), sl10⟩) (c10 : PySem.W.codeIn K cd10 "is_value" = true) (k10 : PySem.W.keepIn K (.ref f10) = true)
    (a11 : PySem.W.nsIn K mainGlobals "_is_name_sign" = some (some (.ref f11))) (l11 : K.lookup f11 = some ⟨oc11, od11, .func (PySem.W.fnOf "_is_name_sign" "_is_name_sign" (defArgs sIsNameSign) (defBody sIsNameSign) (defScope sIsNameSign) .none kV11 dc11 pm11 an11 cd11 ct11), sl11⟩) (c11 : PySem.W.codeIn K cd11 "_is_name_sign" = true) (k11 : PySem.W.keepIn K (.ref f11) = true)
    (a12 : PySem.W.nsIn K mainGlobals "_fold_place" = some (some (.ref f12))) (l12 : K.lookup f12 = some ⟨oc12, od12, .func (PySem.W.fnOf "_fold_place" "_fold_place" (defArgs sFoldPlace) (defBody sFoldPlace) (defScope sFoldPlace) .none kV12 dc12 pm12 an12 cd12 ct12), sl12⟩) (c12 : PySem.W.codeIn K cd12 "_fold_place" = true) (k12 : PySem.W.keepIn K (.ref f12) = true)
    (a13 : PySem.W.nsIn K mainGlobals "_may_fold" = some (some (.ref f13))) (l13 : K.lookup f13 = some ⟨oc13, od13, .func (PySem.W.fnOf "_may_fold" "_may_fold" (defArgs sMayFold) (defBody sMayFold) (defScope sMayFold) .none kV13 dc13 pm13 an13 cd13 ct13), sl13⟩) (c13 : PySem.W.codeIn K cd13 "_may_fold" = true) (k13 : PySem.W.keepIn K (.ref f13) = true)
    (a14 : PySem.W.nsIn K mainGlobals "_head_end" = some (some (.ref f14))) (l14 : K.lookup f14 = some ⟨oc14, od14, .func (PySem.W.fnOf "_head_end" "_head_end" (defArgs sHeadEnd) (defBody sHeadEnd) (defScope sHeadEnd) .none kV14 dc14 pm14 an14 cd14 ct14), sl14⟩) (c14 : PySem.W.codeIn K cd14 "_head_end" = true) (k14 : PySem.W.keepIn K (.ref f14) = true)
    (a15 : PySem.W.nsIn K mainGlobals "_head_of" = some (some (.ref f15))) (l15 : K.lookup f15 = some ⟨oc15, od15, .func (PySem.W.fnOf "_head_of" "_head_of" (defArgs sHeadOf) (defBody sHeadOf) (defScope sHeadOf) .none kV15 dc15 pm15 an15 cd15 ct15), sl15⟩) (c15 : PySem.W.codeIn K cd15 "_head_of" = true) (k15 : PySem.W.keepIn K (.ref f15) = true)
    (a16 : PySem.W.nsIn K mainGlobals "_law_cell_at" = some (some (.ref f16))) (l16 : K.lookup f16 = some ⟨oc16, od16, .func (PySem.W.fnOf "_law_cell_at" "_law_cell_at" (defArgs sCellAt) (defBody sCellAt) (defScope sCellAt) .none kV16 dc16 pm16 an16 cd16 ct16), sl16⟩) (c16 : PySem.W.codeIn K cd16 "_law_cell_at" = true) (k16 : PySem.W.keepIn K (.ref f16) = true)
    (a17 : PySem.W.nsIn K mainGlobals "_law_mixed" = some (some (.ref f17))) (l17 : K.lookup f17 = some ⟨oc17, od17, .func (PySem.W.fnOf "_law_mixed" "_law_mixed" (defArgs sMixed) (defBody sMixed) (defScope sMixed) .none kV17 dc17 pm17 an17 cd17 ct17), sl17⟩) (c17 : PySem.W.codeIn K cd17 "_law_mixed" = true) (k17 : PySem.W.keepIn K (.ref f17) = true)
    (a18 : PySem.W.nsIn K mainGlobals "_law_source" = some (some (.ref f18))) (l18 : K.lookup f18 = some ⟨oc18, od18, .func (PySem.W.fnOf "_law_source" "_law_source" (defArgs sSource) (defBody sSource) (defScope sSource) .none kV18 dc18 pm18 an18 cd18 ct18), sl18⟩) (c18 : PySem.W.codeIn K cd18 "_law_source" = true) (k18 : PySem.W.keepIn K (.ref f18) = true)
    (a19 : PySem.W.nsIn K mainGlobals "_law_next" = some (some (.ref f19))) (l19 : K.lookup f19 = some ⟨oc19, od19, .func (PySem.W.fnOf "_law_next" "_law_next" (defArgs sNext) (defBody sNext) (defScope sNext) .none kV19 dc19 pm19 an19 cd19 ct19), sl19⟩) (c19 : PySem.W.codeIn K cd19 "_law_next" = true) (k19 : PySem.W.keepIn K (.ref f19) = true)
    (a20 : PySem.W.nsIn K mainGlobals "_law_signs" = some (some (.ref f20))) (l20 : K.lookup f20 = some ⟨oc20, od20, .func (PySem.W.fnOf "_law_signs" "_law_signs" (defArgs sSigns) (defBody sSigns) (defScope sSigns) .none kV20 dc20 pm20 an20 cd20 ct20), sl20⟩) (c20 : PySem.W.codeIn K cd20 "_law_signs" = true) (k20 : PySem.W.keepIn K (.ref f20) = true)
    (a21 : PySem.W.nsIn K mainGlobals "_law_name" = some (some (.ref f21))) (l21 : K.lookup f21 = some ⟨oc21, od21, .func (PySem.W.fnOf "_law_name" "_law_name" (defArgs sLawName) (defBody sLawName) (defScope sLawName) .none kV21 dc21 pm21 an21 cd21 ct21), sl21⟩) (c21 : PySem.W.codeIn K cd21 "_law_name" = true) (k21 : PySem.W.keepIn K (.ref f21) = true)
    (a22 : PySem.W.nsIn K mainGlobals "_law_value" = some (some (.ref f22))) (l22 : K.lookup f22 = some ⟨oc22, od22, .func (PySem.W.fnOf "_law_value" "_law_value" (defArgs sLawValue) (defBody sLawValue) (defScope sLawValue) .none kV22 dc22 pm22 an22 cd22 ct22), sl22⟩) (c22 : PySem.W.codeIn K cd22 "_law_value" = true) (k22 : PySem.W.keepIn K (.ref f22) = true)
    (a23 : PySem.W.nsIn K mainGlobals "_law_heads" = some (some (.ref f23))) (l23 : K.lookup f23 = some ⟨oc23, od23, .func (PySem.W.fnOf "_law_heads" "_law_heads" (defArgs sLawHeads) (defBody sLawHeads) (defScope sLawHeads) .none kV23 dc23 pm23 an23 cd23 ct23), sl23⟩) (c23 : PySem.W.codeIn K cd23 "_law_heads" = true) (k23 : PySem.W.keepIn K (.ref f23) = true)
    (a24 : PySem.W.nsIn K mainGlobals "_law_fits" = some (some (.ref f24))) (l24 : K.lookup f24 = some ⟨oc24, od24, .func (PySem.W.fnOf "_law_fits" "_law_fits" (defArgs sLawFits) (defBody sLawFits) (defScope sLawFits) .none kV24 dc24 pm24 an24 cd24 ct24), sl24⟩) (c24 : PySem.W.codeIn K cd24 "_law_fits" = true) (k24 : PySem.W.keepIn K (.ref f24) = true)
    (a25 : PySem.W.nsIn K mainGlobals "_law_head_right" = some (some (.ref f25))) (l25 : K.lookup f25 = some ⟨oc25, od25, .func (PySem.W.fnOf "_law_head_right" "_law_head_right" (defArgs sLawHeadRight) (defBody sLawHeadRight) (defScope sLawHeadRight) .none kV25 dc25 pm25 an25 cd25 ct25), sl25⟩) (c25 : PySem.W.codeIn K cd25 "_law_head_right" = true) (k25 : PySem.W.keepIn K (.ref f25) = true)
    (a26 : PySem.W.nsIn K mainGlobals "law" = some (some (.ref f26))) (l26 : K.lookup f26 = some ⟨oc26, od26, .func (PySem.W.fnOf "law" "law" (defArgs sLaw) (defBody sLaw) (defScope sLaw) .none kV26 dc26 pm26 an26 cd26 ct26), sl26⟩) (c26 : PySem.W.codeIn K cd26 "law" = true) (k26 : PySem.W.keepIn K (.ref f26) = true)
    (z1 : PySem.W.nsIn K mainGlobals "isinstance" = some none) (z2 : PySem.W.nsIn K mainGlobals "str" = some none) (z3 : PySem.W.nsIn K mainGlobals "all" = some none) (z4 : PySem.W.nsIn K mainGlobals "ord" = some none) (z5 : PySem.W.nsIn K mainGlobals "len" = some none) (z6 : PySem.W.nsIn K mainGlobals "range" = some none) (z7 : PySem.W.nsIn K mainGlobals "max" = some none) (z8 : PySem.W.nsIn K mainGlobals "min" = some none) (z9 : PySem.W.nsIn K mainGlobals "list" = some none) (z10 : PySem.W.nsIn K mainGlobals "enumerate" = some none) (z11 : PySem.W.nsIn K mainGlobals "int" = some none) (v1 : PySem.W.nsIn K mainGlobals "PERCENT" = some (some (.int 37 tk1))) (v2 : PySem.W.nsIn K mainGlobals "NAME_SIZE" = some (some (.int 30 tk2))) (v3 : PySem.W.nsIn K mainGlobals "WIDTH" = some (some (.int 72 tk3))) :
    ∃ fd : FuncData, (∀ (s : Shared) (v : Value), BindsTo s fd ⟨[v], []⟩ [("_law_script", v)]) ∧ ∀ base : Heap, K.In base → base.Ns mainGlobals mg → FnOk l.prog w K mg base CX0 8 fa fd ["_law_script"] (spLaw K) := by
  have e := hfa.symm.trans (PySem.W.mg_of X G a26)
  cases e
  have m_ValueError : mg "ValueError" = none := PySem.W.mg_none_of X G zVE
  have m_LetterError := PySem.W.mg_of X G gL
  have FL : FunA K "LetterError.__init__" sLE [.str ""] fL _ := ⟨⟨_, _, _, _, _, _, _, _, _, _, rfl, lL, cL, .inr ⟨by simp, TL, _, [.str ("" : Str) tkL], nTL, rfl, dL, rfl, .cons ⟨tkL, rfl⟩ .nil⟩, .inl rfl⟩, kL⟩
  have TLc : ClsFn K CL fL := ⟨gaL, rdL, atL, kL⟩
  have m_NoHead := PySem.W.mg_of X G gC
  have FC : FunA K "NoHead.__init__" sNH [.int 0] fC _ := ⟨⟨_, _, _, _, _, _, _, _, _, _, rfl, lC, cC, .inr ⟨by simp, TC, _, [.int 0 tkC], nTC, rfl, dC, rfl, .cons ⟨tkC, rfl⟩ .nil⟩, .inl rfl⟩, kC⟩
  have OC : OexC K C := ⟨⟨nmC, qC, NC, bsC, bmC, snC, subC, abC, colC, ddC, m0C, m1C, m2C, m3C, m5C, xC, rvC⟩, saC, exC, tyC, kcC⟩
  have ECC : ExcC K C := ⟨hgC, hkC, exC, hdC, haC, hn0, ht0, hmC⟩
  have teC : PySem.W.exmOne K (.ref C) (.ref CL) = some true := PySem.W.exm_ref exL hdL tyL suC
  have XFC : XfC K C := ⟨hgC, hkC, exC, hdC⟩
  have A1 : FnAt K mg "is_text" sIsText := ⟨f1, _, fun_mk (st := sIsText) l1 c1 k1, PySem.W.mg_of X G a1⟩
  have A2 : FnAt K mg "is_line" sIsLine := ⟨f2, _, fun_mk (st := sIsLine) l2 c2 k2, PySem.W.mg_of X G a2⟩
  have A3 : FnAt K mg "is_letter" sIsLetter := ⟨f3, _, fun_mk (st := sIsLetter) l3 c3 k3, PySem.W.mg_of X G a3⟩
  have A4 : FnAt K mg "is_figure" sIsFigure := ⟨f4, _, fun_mk (st := sIsFigure) l4 c4 k4, PySem.W.mg_of X G a4⟩
  have A5 : FnAt K mg "_is_sign" sIsSign := ⟨f5, _, fun_mk (st := sIsSign) l5 c5 k5, PySem.W.mg_of X G a5⟩
  have A6 : FnAt K mg "fold" sFold := ⟨f6, _, fun_mk (st := sFold) l6 c6 k6, PySem.W.mg_of X G a6⟩
  have A7 : FnAt K mg "read_heads" sReadHeads := ⟨f7, _, fun_mk (st := sReadHeads) l7 c7 k7, PySem.W.mg_of X G a7⟩
  have A8 : FnAt K mg "begins_head" sBeginsHead := ⟨f8, _, fun_mk (st := sBeginsHead) l8 c8 k8, PySem.W.mg_of X G a8⟩
  have A9 : FnAt K mg "is_name" sIsName := ⟨f9, _, fun_mk (st := sIsName) l9 c9 k9, PySem.W.mg_of X G a9⟩
  have A10 : FnAt K mg "is_value" sIsValue := ⟨f10, _, fun_mk (st := sIsValue) l10 c10 k10, PySem.W.mg_of X G a10⟩
  have A11 : FnAt K mg "_is_name_sign" sIsNameSign := ⟨f11, _, fun_mk (st := sIsNameSign) l11 c11 k11, PySem.W.mg_of X G a11⟩
  have A12 : FnAt K mg "_fold_place" sFoldPlace := ⟨f12, _, fun_mk (st := sFoldPlace) l12 c12 k12, PySem.W.mg_of X G a12⟩
  have A13 : FnAt K mg "_may_fold" sMayFold := ⟨f13, _, fun_mk (st := sMayFold) l13 c13 k13, PySem.W.mg_of X G a13⟩
  have A14 : FnAt K mg "_head_end" sHeadEnd := ⟨f14, _, fun_mk (st := sHeadEnd) l14 c14 k14, PySem.W.mg_of X G a14⟩
  have A15 : FnAt K mg "_head_of" sHeadOf := ⟨f15, _, fun_mk (st := sHeadOf) l15 c15 k15, PySem.W.mg_of X G a15⟩
  have A16 : FnAt K mg "_law_cell_at" sCellAt := ⟨f16, _, fun_mk (st := sCellAt) l16 c16 k16, PySem.W.mg_of X G a16⟩
  have A17 : FnAt K mg "_law_mixed" sMixed := ⟨f17, _, fun_mk (st := sMixed) l17 c17 k17, PySem.W.mg_of X G a17⟩
  have A18 : FnAt K mg "_law_source" sSource := ⟨f18, _, fun_mk (st := sSource) l18 c18 k18, PySem.W.mg_of X G a18⟩
  have A19 : FnAt K mg "_law_next" sNext := ⟨f19, _, fun_mk (st := sNext) l19 c19 k19, PySem.W.mg_of X G a19⟩
  have A20 : FnAt K mg "_law_signs" sSigns := ⟨f20, _, fun_mk (st := sSigns) l20 c20 k20, PySem.W.mg_of X G a20⟩
  have A21 : FnAt K mg "_law_name" sLawName := ⟨f21, _, fun_mk (st := sLawName) l21 c21 k21, PySem.W.mg_of X G a21⟩
  have A22 : FnAt K mg "_law_value" sLawValue := ⟨f22, _, fun_mk (st := sLawValue) l22 c22 k22, PySem.W.mg_of X G a22⟩
  have A23 : FnAt K mg "_law_heads" sLawHeads := ⟨f23, _, fun_mk (st := sLawHeads) l23 c23 k23, PySem.W.mg_of X G a23⟩
  have A24 : FnAt K mg "_law_fits" sLawFits := ⟨f24, _, fun_mk (st := sLawFits) l24 c24 k24, PySem.W.mg_of X G a24⟩
  have A25 : FnAt K mg "_law_head_right" sLawHeadRight := ⟨f25, _, fun_mk (st := sLawHeadRight) l25 c25 k25, PySem.W.mg_of X G a25⟩
  have F26 := fun_mk (st := sLaw) l26 c26 k26
  have m_isinstance : mg "isinstance" = none := PySem.W.mg_none_of X G z1
  have m_str : mg "str" = none := PySem.W.mg_none_of X G z2
  have m_all : mg "all" = none := PySem.W.mg_none_of X G z3
  have m_ord : mg "ord" = none := PySem.W.mg_none_of X G z4
  have m_len : mg "len" = none := PySem.W.mg_none_of X G z5
  have m_range : mg "range" = none := PySem.W.mg_none_of X G z6
  have m_max : mg "max" = none := PySem.W.mg_none_of X G z7
  have m_min : mg "min" = none := PySem.W.mg_none_of X G z8
  have m_list : mg "list" = none := PySem.W.mg_none_of X G z9
  have m_enumerate : mg "enumerate" = none := PySem.W.mg_none_of X G z10
  have m_int : mg "int" = none := PySem.W.mg_none_of X G z11
  have m_PERCENT := PySem.W.mg_of X G v1
  have m_NAME_SIZE := PySem.W.mg_of X G v2
  have m_WIDTH := PySem.W.mg_of X G v3
  refine ⟨PySem.W.fnOf "law" "law" (defArgs sLaw) (defBody sLaw) (defScope sLaw) .none kV26 dc26 pm26 an26 cd26 ct26, fun s v => .of_eq rfl, fun base _ _ => ?_⟩
  have MC := mk_NH (P := l.prog) (w := w) (base := base) FC FL TLc m_LetterError m_ValueError vV OC noC m_NoHead iC tiC
  have R1 := r_is_letter (P := l.prog) (w := w) (base := base) A3
  have R2 := r_is_figure (P := l.prog) (w := w) (base := base) A4
  have R3 := r_is_sign (P := l.prog) (w := w) (base := base) A5 m_ord m_PERCENT
  have R4 := r_is_text A1 R3 m_isinstance m_str m_all
  have R5 := r_is_line A2 R4
  have R6 := r_is_name_sign A11 R1 R2
  have R7 := r_is_name A9 R5 R1 R6 m_len m_all m_NAME_SIZE
  have R8 := r_is_value A10 R5
  have R9 := r_may_fold (P := l.prog) (w := w) (base := base) A13
  have R10 := r_fold_place A12 R9 m_len m_range m_WIDTH
  have R11 := x_fold MC A6 R7 R8 R10 m_len
  have R12 := r_head_end (P := l.prog) (w := w) (base := base) A14 m_len
  have R12a := r_begins_head A8 R7
  have R12b := x_head_of MC A15 R12a
  have R12c := x_read_heads MC A7 R5 R12 R12b m_isinstance m_list m_all m_len
  have R13 := r_cell_at (P := l.prog) (w := w) (base := base) A16 m_len
  have R14 := r_mixed (P := l.prog) (w := w) (base := base) A17
  have R15 := r_source A18 R13 R14 m_len
  have R16 := r_next A19 R14
  have R17 := r_signs A20 R16 m_len m_range
  have R18 := r_law_name A21 R16 R17
  have R19 := r_law_value A22 R16 R17 m_range
  have R20 := r_heads A23 R16 R18 R19 m_range
  have R21 := r_fits (P := l.prog) (w := w) (base := base) A24 m_len m_range
  have R22 := r_right A25 R11 R21 m_len m_enumerate m_int
  exact ok_law F26 R15 R20 R22 R12c R11 m_len m_range m_max m_min m_all
end FL
open PySem PySem.W PyProof.Rows
set_option maxRecDepth 100000 in
set_option maxHeartbeats 8000000 in
theorem PySem.Challenge.cw_foldletter_k04_whole_heads_there_and_bac_holds : PySem.Challenge.rw_foldletter_k04_whole_heads_there_and_bac.Holds := by
  w_on; o_law; k_head; (case hw => w_witness2)
  k_fill
  refine L2.walk_of (l := PySem.Challenge.rw_foldletter_k04_whole_heads_there_and_bac) (n := 63) (k := 8) (x := "_law_script") (CX := fun _ => L2.CX0) (sp := fun w => FL.spLaw _) rfl (by decide) rfl ⟨rfl, by decide, by decide⟩ (fun w h Y => PySem.W.kIn_of Y) ?F (fun _ _ a ns hl _ hS => ⟨a, ns, rfl, hS, hl, fun _ => rfl⟩) (fun _ _ _ _ _ h => h)
  case F =>
    intro w mg fa h KX G hmg
    refine' FL.all_mk KX G hmg ?gL ?iL ?lL ?cL ?kL ?dL ?gaL ?rdL ?atL ?vV ?zVE ?exL ?hdL ?tyL ?gC ?xC ?rvC ?saC ?exC ?tyC ?kcC ?noC ?iC ?tiC ?lC ?cC ?kC ?dC ?hgC ?hkC ?hdC ?haC ?hmC ?suC ?hn0 ?ht0 ?a1 ?l1 ?c1 ?k1 ?a2 ?l2 ?c2 ?k2 ?a3 ?l3 ?c3 ?k3 ?a4 ?l4 ?c4 ?k4 ?a5 ?l5 ?c5 ?k5 ?a6 ?l6 ?c6 ?k6 ?a7 ?l7 ?c7 ?k7 ?a8 ?l8 ?c8 ?k8 ?a9 ?l9 ?c9 ?k9 ?a10 ?l10 ?c10 ?k10 ?a11 ?l11 ?c11 ?k11 ?a12 ?l12 ?c12 ?k12 ?a13 ?l13 ?c13 ?k13 ?a14 ?l14 ?c14 ?k14 ?a15 ?l15 ?c15 ?k15 ?a16 ?l16 ?c16 ?k16 ?a17 ?l17 ?c17 ?k17 ?a18 ?l18 ?c18 ?k18 ?a19 ?l19 ?c19 ?k19 ?a20 ?l20 ?c20 ?k20 ?a21 ?l21 ?c21 ?k21 ?a22 ?l22 ?c22 ?k22 ?a23 ?l23 ?c23 ?k23 ?a24 ?l24 ?c24 ?k24 ?a25 ?l25 ?c25 ?k25 ?a26 ?l26 ?c26 ?k26 ?z1 ?z2 ?z3 ?z4 ?z5 ?z6 ?z7 ?z8 ?z9 ?z10 ?z11 ?v1 ?v2 ?v3
    (case gL => k_is); (case iL => k_is); (case lL => k_is); (case cL => k_is); (case kL => k_is); (case dL => k_is); (case gaL => k_is); (case rdL => k_is); (case atL => k_is); (case vV => k_is); (case zVE => k_is); (case exL => k_is); (case hdL => k_is); (case tyL => k_is); (case gC => k_is); (case xC => k_is); (case rvC => first | rfl | k_is); (case saC => k_is); (case exC => k_is); (case tyC => k_is); (case kcC => k_is); (case noC => k_is); (case iC => k_is); (case tiC => k_is); (case lC => k_is); (case cC => k_is); (case kC => k_is); (case dC => k_is); (case hgC => k_is); (case hkC => k_is); (case hdC => k_is); (case haC => k_is); (case hmC => k_is); (case suC => k_is); (case hn0 => k_is); (case ht0 => k_is); (case a1 => k_is); (case l1 => k_is); (case c1 => k_is); (case k1 => k_is); (case a2 => k_is); (case l2 => k_is); (case c2 => k_is); (case k2 => k_is); (case a3 => k_is); (case l3 => k_is); (case c3 => k_is); (case k3 => k_is); (case a4 => k_is); (case l4 => k_is); (case c4 => k_is); (case k4 => k_is); (case a5 => k_is); (case l5 => k_is); (case c5 => k_is); (case k5 => k_is); (case a6 => k_is); (case l6 => k_is); (case c6 => k_is); (case k6 => k_is); (case a7 => k_is); (case l7 => k_is); (case c7 => k_is); (case k7 => k_is); (case a8 => k_is); (case l8 => k_is); (case c8 => k_is); (case k8 => k_is); (case a9 => k_is); (case l9 => k_is); (case c9 => k_is); (case k9 => k_is); (case a10 => k_is); (case l10 => k_is); (case c10 => k_is); (case k10 => k_is); (case a11 => k_is); (case l11 => k_is); (case c11 => k_is); (case k11 => k_is); (case a12 => k_is); (case l12 => k_is); (case c12 => k_is); (case k12 => k_is); (case a13 => k_is); (case l13 => k_is); (case c13 => k_is); (case k13 => k_is); (case a14 => k_is); (case l14 => k_is); (case c14 => k_is); (case k14 => k_is); (case a15 => k_is); (case l15 => k_is); (case c15 => k_is); (case k15 => k_is); (case a16 => k_is); (case l16 => k_is); (case c16 => k_is); (case k16 => k_is); (case a17 => k_is); (case l17 => k_is); (case c17 => k_is); (case k17 => k_is); (case a18 => k_is); (case l18 => k_is); (case c18 => k_is); (case k18 => k_is); (case a19 => k_is); (case l19 => k_is); (case c19 => k_is); (case k19 => k_is); (case a20 => k_is); (case l20 => k_is); (case c20 => k_is); (case k20 => k_is); (case a21 => k_is); (case l21 => k_is); (case c21 => k_is); (case k21 => k_is); (case a22 => k_is); (case l22 => k_is); (case c22 => k_is); (case k22 => k_is); (case a23 => k_is); (case l23 => k_is); (case c23 => k_is); (case k23 => k_is); (case a24 => k_is); (case l24 => k_is); (case c24 => k_is); (case k24 => k_is); (case a25 => k_is); (case l25 => k_is); (case c25 => k_is); (case k25 => k_is); (case a26 => k_is); (case l26 => k_is); (case c26 => k_is); (case k26 => k_is); (case z1 => k_is); (case z2 => k_is); (case z3 => k_is); (case z4 => k_is); (case z5 => k_is); (case z6 => k_is); (case z7 => k_is); (case z8 => k_is); (case z9 => k_is); (case z10 => k_is); (case z11 => k_is); (case v1 => k_is); (case v2 => k_is); (case v3 => k_is)
