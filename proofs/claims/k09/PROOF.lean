import PyProof.Rows.All
import Wide.All
import OpenK.AllK
import Wide.FinOn
import PySem.Challenge.RW_foldletter_k09_whole_words_there_and_bac
import HandS.ForMost
import HandS.Walk
import HandS.IsInst
import HandS.Wide
import HandS.ReplaceDef
import HandS.ReplaceLit
import HandS.ReplaceList
import HandS.StrMore
import HandS.ExcInit
import HandS.ExcIs
import HandS.ExcField
import HandS.Defaults
import HandS.TryOnly
import HandS.WordsExc
import HandS.Rev
import HandS.Conv
import HandS.ClsMeth
set_option Elab.async false
set_option linter.all false
set_option maxRecDepth 100000
set_option maxHeartbeats 4000000
namespace FL
open PySem PySem.Spec PyProof.Rows L2
def topS (i : Nat) : Stmt := PySem.Challenge.pw_foldletter_k09_whole_words_there_and_bac.main.body.getD i (.Pass ⟨0, 0, 0, 0⟩)
abbrev cLetterError : Stmt := topS 1
abbrev cNoWords : Stmt := topS 2
abbrev sIsText : Stmt := topS 5
abbrev sIsLine : Stmt := topS 6
abbrev sIsLetter : Stmt := topS 7
abbrev sIsFigure : Stmt := topS 8
abbrev sIsSign : Stmt := topS 9
abbrev sWords : Stmt := topS 13
abbrev sQuoted : Stmt := topS 14
abbrev sWordAt : Stmt := topS 15
abbrev sIsAtom : Stmt := topS 16
abbrev sAtomEnd : Stmt := topS 17
abbrev sQuotedWord : Stmt := topS 18
abbrev sRemark : Stmt := topS 19
abbrev sCellAt : Stmt := topS 21
abbrev sMixed : Stmt := topS 22
abbrev sSource : Stmt := topS 23
abbrev sNext : Stmt := topS 24
abbrev sSigns : Stmt := topS 25
abbrev sLawDrawnWord : Stmt := topS 26
abbrev sLawLaid : Stmt := topS 27
abbrev sLaw : Stmt := topS 28
end FL

namespace FL
open PySem PySem.Spec PyProof.Rows L2
/-! ### small words -/
theorem pe_weak {X : Cx} {e : Expr} {t t' : TE} (h : PE X e t) (m : ∀ σ H Q, t' σ H Q → t σ H Q) : PE X e t' := ⟨fun pins s σ H Q I q => h.run pins s σ H Q I (m σ H Q q)⟩
theorem lt_one {a b : Nat} : ((([a] : List Nat) < [b])) ↔ a < b := by
  rw [List.cons_lt_cons_iff]
  simp
theorem bl_to {Q : V → Hp → Prop} {H : Hp} {a b : Bool} (e : a = b) (q : Q (.bl b) H) : Q (.bl a) H := by
  rw [e]
  exact q
def tBtw (i lo hi : Nat) : TE := fun σ H Q => ∃ c : Nat, σ[i]? = some (some (.str ⟨#[c]⟩)) ∧ Q (.bl (decide (lo ≤ c ∧ c ≤ hi))) H
theorem pe_btw {X : Cx} (i : Nat) {x a b : Str} {lo hi k1 k2 : Nat} {p1 p2 p3 pos : Pos} (ea : a.cps.toList = [lo]) (eb : b.cps.toList = [hi]) (hx : PE X (.Name x p2) (tVar i))
    (hm : lastMarks [.LtE, .LtE] [.Name x p2, .Constant (.str b) k2 p3] = false := by with_unfolding_all rfl) :
    PE X (.Compare (.Constant (.str a) k1 p1) [.LtE, .LtE] [.Name x p2, .Constant (.str b) k2 p3] pos) (tBtw i lo hi) := by
  refine pe_weak (pe_chain op_le_str op_le_str pe_str hx pe_str hm) ?_
  rintro σ H Q ⟨c, hc, q⟩
  refine ⟨_, hc, _, _, rfl, rfl, _, rfl, ?_⟩
  have e1 : (!decide (((⟨#[c]⟩ : Str).cps.toList) < a.cps.toList)) = decide (lo ≤ c) := by
    rw [ea]
    show (!decide (([c] : List Nat) < [lo])) = decide (lo ≤ c)
    rw [decide_eq_decide.mpr (lt_one (a := c) (b := lo))]
    by_cases h : lo ≤ c
    · rw [decide_eq_true h, decide_eq_false (by omega)]; rfl
    · rw [decide_eq_false h, decide_eq_true (by omega)]; rfl
  have e2 : (!decide (b.cps.toList < ((⟨#[c]⟩ : Str).cps.toList))) = decide (c ≤ hi) := by
    rw [eb]
    show (!decide (([hi] : List Nat) < [c])) = decide (c ≤ hi)
    rw [decide_eq_decide.mpr (lt_one (a := hi) (b := c))]
    by_cases h : c ≤ hi
    · rw [decide_eq_true h, decide_eq_false (by omega)]; rfl
    · rw [decide_eq_false h, decide_eq_true (by omega)]; rfl
  rw [e1]
  by_cases h1 : lo ≤ c
  · rw [decide_eq_true h1, if_pos rfl]
    refine ⟨_, _, rfl, rfl, bl_to e2 (bl_to ?_ q)⟩
    by_cases h2 : c ≤ hi
    · rw [decide_eq_true h2, decide_eq_true ⟨h1, h2⟩]
    · rw [decide_eq_false h2, decide_eq_false (fun z => h2 z.2)]
  · rw [decide_eq_false h1, if_neg Bool.false_ne_true]
    exact bl_to (decide_eq_false (fun z => h1 z.1)).symm q
/-- x or y of two truths -/
theorem pe_orB {X : Cx} {a b : Expr} {rest : List Expr} {pos : Pos} {ta tb : TE} (ha : PE X a ta) (hb : PE X (.BoolOp .Or (b :: rest) pos) tb) :
    PE X (.BoolOp .Or (a :: b :: rest) pos) (tOrV ta tb) := pe_or ha hb
/-! ### what stands where -/
structure FnAt (K : PySem.W.Frag) (mg : Str → Option Value) (x : Str) (st : Stmt) : Prop where
  ex : ∃ f fd, Fun K x x st f fd ∧ mg x = some (.ref f)
def Ready (P : Program) (w : World) (K : PySem.W.Frag) (mg : Str → Option Value) (base : Heap) (k : Nat) (x : Str) (ps : List Str) (sp : Sp) : Prop :=
  ∃ f fd, mg x = some (.ref f) ∧ PySem.W.keepIn K (.ref f) = true ∧ Binds K fd ps [] ∧ FnOk P w K mg base CX0 k f fd ps sp
section
variable {P : Program} {w : World} {K : PySem.W.Frag} {mg : Str → Option Value} {base : Heap}
theorem ready_of {x : Str} {st : Stmt} {k : Nat} {ps : List Str} {sp : Sp} (A : FnAt K mg x st)
    (hb : ∀ (kV doc pm : Value) (an : Option Addr) (cdv ct : Value) (us : List Value), us.length = ps.length → bindArgs (PySem.W.fnOf x x (defArgs st) (defBody st) (defScope st) .none kV doc pm an cdv ct) ⟨us, []⟩ = pure (ps.zip us))
    (ok : ∀ f fd, Fun K x x st f fd → FnOk P w K mg base CX0 k f fd ps sp) : Ready P w K mg base k x ps sp := by
  obtain ⟨f, fd, F, g⟩ := A.ex
  exact ⟨f, fd, g, F.kp, F.binds hb, ok f fd F⟩
/-! ### the mathematics of signs -/
def isLet (c : Nat) : Bool := decide (97 ≤ c ∧ c ≤ 122) || decide (65 ≤ c ∧ c ≤ 90)
def isFig (c : Nat) : Bool := decide (48 ≤ c ∧ c ≤ 57)
def isSig (c : Nat) : Bool := decide (c = 10) || (decide (32 ≤ c ∧ c ≤ 126) && !decide (c = 37))
def atomSigns : List Nat := [33, 35, 36, 38, 39, 42, 43, 45, 46, 47, 61, 63, 94, 95, 96, 123, 124, 125, 126]
def isAtm (c : Nat) : Bool := isLet c || (isFig c || decide (c ∈ atomSigns))
def spSign (f : Nat → Bool) : Sp := fun vs H Q _ => ∃ c : Nat, vs = [.str ⟨#[c]⟩] ∧ Q (.bl (f c)) H
theorem scIsLetter : FnScope ["sign"] ["sign"] (defScope sIsLetter) := ⟨rfl, rfl, rfl, by decide +kernel, rfl, by decide +kernel, by decide +kernel⟩
theorem r_is_letter (A : FnAt K mg "is_letter" sIsLetter) : Ready P w K mg base 1 "is_letter" ["sign"] (spSign isLet) := by
  refine ready_of A (fun _ _ _ _ _ _ us hl => match us, hl with | [_], _ => rfl) fun f fd F => ?_
  refine F.ok scIsLetter (fun vs H Q E h => ?_) (fun cdv A outer s H vs Q E hr h => ?_)
  · obtain ⟨c, rfl, _⟩ := h
    rfl
  · obtain ⟨c, rfl, q⟩ := h
    refine ⟨_, pss_one (ps_ret (pe_or (pe_btw (lo := 97) (hi := 122) 0 rfl rfl (pv 0)) (pe_one (pe_btw (lo := 65) (hi := 90) 0 rfl rfl (pv 0))))), ?_⟩
    refine ⟨c, rfl, _, rfl, ?_⟩
    by_cases h1 : 97 ≤ c ∧ c ≤ 122
    · rw [decide_eq_true h1, if_pos rfl]
      exact bl_to (by unfold isLet; rw [decide_eq_true h1]; rfl) q
    · rw [decide_eq_false h1, if_neg Bool.false_ne_true]
      exact ⟨c, rfl, bl_to (by unfold isLet; rw [decide_eq_false h1]; rfl) q⟩
theorem scIsFigure : FnScope ["sign"] ["sign"] (defScope sIsFigure) := ⟨rfl, rfl, rfl, by decide +kernel, rfl, by decide +kernel, by decide +kernel⟩
theorem r_is_figure (A : FnAt K mg "is_figure" sIsFigure) : Ready P w K mg base 1 "is_figure" ["sign"] (spSign isFig) := by
  refine ready_of A (fun _ _ _ _ _ _ us hl => match us, hl with | [_], _ => rfl) fun f fd F => ?_
  refine F.ok scIsFigure (fun vs H Q E h => ?_) (fun cdv A outer s H vs Q E hr h => ?_)
  · obtain ⟨c, rfl, _⟩ := h
    rfl
  · obtain ⟨c, rfl, q⟩ := h
    exact ⟨_, pss_one (ps_ret (pe_btw (lo := 48) (hi := 57) 0 rfl rfl (pv 0))), c, rfl, q⟩
theorem str_one {c d : Nat} : (V.str ⟨#[c]⟩ = V.str ⟨#[d]⟩) ↔ c = d := by
  constructor
  · intro h
    injection h with h
    injection h with h
    have h2 := congrArg Array.toList h
    simpa using h2
  · intro h
    rw [h]
theorem scIsSign : FnScope ["sign"] ["sign"] (defScope sIsSign) := ⟨rfl, rfl, rfl, by decide +kernel, rfl, by decide +kernel, by decide +kernel⟩
theorem r_is_sign (A : FnAt K mg "_is_sign" sIsSign) (mo : mg "ord" = none) {tp : Tok} (mp : mg "PERCENT" = some (.int 37 tp)) : Ready P w K mg base 1 "_is_sign" ["sign"] (spSign isSig) := by
  refine ready_of A (fun _ _ _ _ _ _ us hl => match us, hl with | [_], _ => rfl) fun f fd F => ?_
  refine F.ok scIsSign (fun vs H Q E h => ?_) (fun cdv A outer s H vs Q E hr h => ?_)
  · obtain ⟨c, rfl, _⟩ := h
    rfl
  · obtain ⟨c, rfl, q⟩ := h
    refine ⟨_, pss_one (ps_ret (pe_or (pe_cmpR op_eq (pv 0) pe_str (nomark _)) (pe_one (pe_and (pe_btw (lo := 32) (hi := 126) 0 rfl rfl (pv 0))
      (pe_one (pe_cmpR op_ne (pe_callB call_ord (by rfl) mo (by decide +kernel) (pa_cons (pv 0) pa_nil)) (pe_glob (v := .int 37) rfl mp ⟨tp, rfl⟩) (nomark _))))))), ?_⟩
    refine ⟨_, rfl, rfl, _, rfl, ?_⟩
    have e1 : decide (V.str ⟨#[c]⟩ = V.str ("\n" : Str)) = decide (c = 10) := decide_eq_decide.mpr (str_one (d := 10))
    rw [e1]
    by_cases h1 : c = 10
    · rw [decide_eq_true h1, if_pos rfl]
      exact bl_to (by unfold isSig; rw [decide_eq_true h1]; rfl) q
    · rw [decide_eq_false h1, if_neg Bool.false_ne_true]
      refine ⟨c, rfl, _, rfl, ?_⟩
      by_cases h2 : 32 ≤ c ∧ c ≤ 126
      · rw [decide_eq_true h2, if_pos rfl]
        refine ⟨_, rfl, _, rfl, rfl, rfl, bl_to ?_ q⟩
        unfold isSig
        rw [decide_eq_false h1, decide_eq_true h2, Bool.false_or, Bool.true_and]
        show (!decide (V.int ((c : Nat) : Int) = V.int 37)) = !decide (c = 37)
        congr 1
        refine decide_eq_decide.mpr ⟨fun h => ?_, fun h => by rw [h]; rfl⟩
        injection h with h
        omega
      · rw [decide_eq_false h2, if_neg Bool.false_ne_true]
        exact bl_to (by unfold isSig; rw [decide_eq_false h1, decide_eq_false h2]; rfl) q
end
end FL

namespace FL
open PySem PySem.Spec PyProof.Rows L2
section
variable {P : Program} {w : World} {K : PySem.W.Frag} {mg : Str → Option Value} {base : Heap}
theorem szl {n : Nat} (h : n ≤ 10000) : n < sizeLine := Nat.lt_of_le_of_lt h (by decide)
theorem same_new {H : Hp} {p : Addr} {o : HO} (h : H p = none) : Same H (upd H p o) := fun b x e => by
  rw [upd_ne (ne_of_none e h)]
  exact e
/-- a store to what was not there at the start -/
theorem same_set {H H1 : Hp} {p : Addr} {o : HO} (s : Same H H1) (h : H p = none) : Same H (upd H1 p o) := fun b x e => by
  rw [upd_ne (ne_of_none e h)]
  exact s b x e
theorem take_more {α : Type} {l : List α} {i : Nat} {x : α} (h : l[i]? = some x) : l.take (i + 1) = l.take i ++ [x] := by
  rw [List.take_add_one, h]
  rfl
def allSig (l : List Nat) : Bool := l.all isSig
def isLn (l : List Nat) : Bool := allSig l && !decide (10 ∈ l)
/-- of a text f of its signs; of what is none, False -/
def spLine (K : PySem.W.Frag) (f : List Nat → Bool) : Sp := fun vs H Q _ => ∃ v, vs = [v] ∧
  ((∃ z : Str, v = .str z ∧ z.length ≤ 10000 ∧ ∀ H', Same H H' → Q (.bl (f z.cps.toList)) H') ∨ (∃ t, TyX K H v t ∧ PySem.W.kitOne K t (.type "str") = some false ∧ Q (.bl false) H))
theorem scIsText : FnScope ["value", "sign"] ["value"] (defScope sIsText) := ⟨rfl, rfl, rfl, by decide +kernel, rfl, by decide +kernel, by decide +kernel⟩
theorem r_is_text (A : FnAt K mg "is_text" sIsText) (RS : Ready P w K mg base 1 "_is_sign" ["sign"] (spSign isSig)) (mi : mg "isinstance" = none) (ms : mg "str" = none) (ma : mg "all" = none) :
    Ready P w K mg base 2 "is_text" ["value"] (spLine K allSig) := by
  obtain ⟨fS, fdS, gS, kS, bS, GS⟩ := RS
  refine ready_of A (fun _ _ _ _ _ _ us hl => match us, hl with | [_], _ => rfl) fun f fd F => ?_
  refine F.ok scIsText (fun vs H Q E h => ?_) (fun cdv A outer s H vs Q E hr h => ?_)
  · obtain ⟨v, rfl, _⟩ := h
    rfl
  · obtain ⟨v, rfl, q⟩ := h
    refine ⟨_, pss_one (ps_ret (pe_and (pe_callB call_isi (by rfl) mi (by decide +kernel) (pa_cons (pv 0) (pa_cons (pe_bltn (v := .ty "str") (by rfl) ms (by decide +kernel) rfl) pa_nil)))
      (pe_one (pe_callB (cr_all rfl) (by rfl) ma (by decide +kernel) (pa_cons (pe_lc (own := [("sign", 1)]) (g := gName 1) (tt := tYes) (by rfl) scIsText.nd (pi_str (pv 0))
        (blkOk_by (own := [("sign", 1)]) (N := ["value", "sign"]) (sc := defScope sIsText) (by decide +kernel)) (fun _ _ _ _ _ => pg_name (i := 1) scIsText.nd rfl (Or.inl rfl)) (fun _ _ _ _ _ => pts_nil)
        (fun _ _ _ _ _ => pe_call GS hr (by rfl) gS kS bS .nil pass0 (pa_cons (pv 1) pa_nil))) pa_nil))))), ?_⟩
    rcases q with ⟨z, rfl, hz, q⟩ | ⟨t, ht, hk, q⟩
    · refine ⟨_, rfl, _, _, .type "str", .type "str", true, rfl, ClsV.ty "str", .base (.str z), kit_ty (by decide +kernel), true, rfl, iteT ?_⟩
      refine ⟨_, rfl, z, rfl, fun D hD => ?_⟩
      refine lc_it walk_str (fun i H' => Same H H' ∧ H' D = some (.lst ((z.cps.toList.take i).map fun c => V.bl (isSig c)))) ⟨same_new hD, upd_same⟩ (fun _ _ _ _ => trivial) (fun i x H1 H2 hi hp hy => ?_) (fun H1 hp => ?_)
      · obtain ⟨rfl, c, hc, rfl⟩ := hy
        obtain ⟨sm, hd⟩ := hp
        have hc' : z.cps.toList[i]? = some c := by
          rw [Array.getElem?_toList]
          exact hc
        refine ⟨rfl, ?_⟩
        unfold tYes
        refine iteT ?_
        refine ⟨_, rfl, c, rfl, _, hd, ?_, same_set sm hD, ?_⟩
        · rw [List.length_map]
          exact Nat.lt_of_le_of_lt (List.length_take_le _ _) (szl (by have h2 : z.cps.size = z.length := rfl; omega))
        · rw [upd_same, take_more hc', List.map_append]
          rfl
      · obtain ⟨sm, hd⟩ := hp
        have e : z.cps.toList.take z.cps.size = z.cps.toList := List.take_of_length_le (by simp)
        rw [e] at hd
        refine ⟨D, z.cps.toList.map isSig, rfl, SqL.of (by rw [List.map_map]; exact hd), bl_to ?_ (q H1 sm)⟩
        unfold allSig
        rw [List.all_map]
        rfl
    · exact ⟨_, rfl, _, _, t, .type "str", false, rfl, ClsV.ty "str", ht, hk, false, rfl, iteF q⟩
theorem scIsLine : FnScope ["value"] ["value"] (defScope sIsLine) := ⟨rfl, rfl, rfl, by decide +kernel, rfl, by decide +kernel, by decide +kernel⟩
theorem r_is_line (A : FnAt K mg "is_line" sIsLine) (RS : Ready P w K mg base 2 "is_text" ["value"] (spLine K allSig)) :
    Ready P w K mg base 3 "is_line" ["value"] (spLine K isLn) := by
  obtain ⟨fS, fdS, gS, kS, bS, GS⟩ := RS
  refine ready_of A (fun _ _ _ _ _ _ us hl => match us, hl with | [_], _ => rfl) fun f fd F => ?_
  refine F.ok scIsLine (fun vs H Q E h => ?_) (fun cdv A outer s H vs Q E hr h => ?_)
  · obtain ⟨v, rfl, _⟩ := h
    rfl
  · obtain ⟨v, rfl, q⟩ := h
    refine ⟨_, pss_one (ps_ret (pe_and (pe_call GS hr (by rfl) gS kS bS .nil pass0 (pa_cons (pv 0) pa_nil)) (pe_one (pe_cmpR op_notIn_sign pe_str (pv 0) (by rfl))))), ?_⟩
    refine ⟨_, rfl, v, rfl, ?_⟩
    rcases q with ⟨z, rfl, hz, q⟩ | ⟨t, ht, hk, q⟩
    · refine .inl ⟨z, rfl, hz, fun H' sm => ⟨_, rfl, ?_⟩⟩
      by_cases h1 : allSig z.cps.toList = true
      · rw [h1, if_pos rfl]
        refine ⟨_, rfl, 10, z, rfl, rfl, bl_to ?_ (q H' sm)⟩
        unfold isLn
        rw [h1]
        rfl
      · rw [eq_false_of_ne_true h1, if_neg Bool.false_ne_true]
        refine bl_to ?_ (q H' sm)
        unfold isLn
        rw [eq_false_of_ne_true h1]
        rfl
    · exact .inr ⟨t, ht, hk, false, rfl, iteF q⟩
theorem len_cps (z : Str) : z.cps.toList.length = z.length := by simp [Str.length]
end
end FL

namespace FL
open PySem PySem.Spec PyProof.Rows L2
section
variable {P : Program} {w : World} {K : PySem.W.Frag} {mg : Str → Option Value} {base : Heap}
theorem scIsAtom : FnScope ["sign"] ["sign"] (defScope sIsAtom) := ⟨rfl, rfl, rfl, by decide +kernel, rfl, by decide +kernel, by decide +kernel⟩
def atomText : Str := "!#$&'*+-./=?^_`{|}~"
theorem atomText_codes : atomText.cps.toList = atomSigns := by decide +kernel
theorem r_is_atom (A : FnAt K mg "_is_atom_sign" sIsAtom) (RL : Ready P w K mg base 1 "is_letter" ["sign"] (spSign isLet)) (RF : Ready P w K mg base 1 "is_figure" ["sign"] (spSign isFig)) {tp : Tok} (mp : mg "ATOM_SIGNS" = some (.str atomText tp)) :
    Ready P w K mg base 2 "_is_atom_sign" ["sign"] (spSign isAtm) := by
  obtain ⟨f1, fd1, g1, k1, b1, G1⟩ := RL
  obtain ⟨f2, fd2, g2, k2, b2, G2⟩ := RF
  refine ready_of A (fun _ _ _ _ _ _ us hl => match us, hl with | [_], _ => rfl) fun f fd F => ?_
  refine F.ok scIsAtom (fun vs H Q E h => ?_) (fun cdv A outer s H vs Q E hr h => ?_)
  · obtain ⟨c, rfl, _⟩ := h
    rfl
  · obtain ⟨c, rfl, q⟩ := h
    refine ⟨_, pss_one (ps_ret (pe_or (pe_call G1 hr (by rfl) g1 k1 b1 .nil pass0 (pa_cons (pv 0) pa_nil)) (pe_or (pe_call G2 hr (by rfl) g2 k2 b2 .nil pass0 (pa_cons (pv 0) pa_nil))
      (pe_one (pe_cmpR op_in_sign (pv 0) (pe_glob (v := .str atomText) rfl mp ⟨tp, rfl⟩) (by rfl)))))), ?_⟩
    refine ⟨_, rfl, c, rfl, _, rfl, ?_⟩
    cases h1 : isLet c with
    | true =>
      rw [if_pos rfl]
      exact bl_to (by unfold isAtm; rw [h1]; rfl) q
    | false =>
      rw [if_neg Bool.false_ne_true]
      refine ⟨_, rfl, c, rfl, _, rfl, ?_⟩
      cases h2 : isFig c with
      | true =>
        rw [if_pos rfl]
        exact bl_to (by unfold isAtm; rw [h1, h2]; rfl) q
      | false =>
        rw [if_neg Bool.false_ne_true]
        refine ⟨_, rfl, c, atomText, rfl, rfl, bl_to ?_ q⟩
        rw [atomText_codes]
        unfold isAtm
        rw [h1, h2]
        rfl
/-! ### _atom_end -/
def atomEnd (l : List Nat) (b : Nat) : Nat := b + ((l.drop b).takeWhile isAtm).length
theorem atomEnd_step {l : List Nat} {b c : Nat} (h : l[b]? = some c) (a : isAtm c = true) : atomEnd l b = atomEnd l (b + 1) := by
  have hb : b < l.length := (List.getElem?_eq_some_iff.mp h).1
  have e : l[b] = c := (List.getElem?_eq_some_iff.mp h).2
  unfold atomEnd
  rw [List.drop_eq_getElem_cons hb, e, List.takeWhile_cons, a]
  simp
  omega
theorem atomEnd_stop {l : List Nat} {b c : Nat} (h : l[b]? = some c) (a : isAtm c = false) : atomEnd l b = b := by
  have hb : b < l.length := (List.getElem?_eq_some_iff.mp h).1
  have e : l[b] = c := (List.getElem?_eq_some_iff.mp h).2
  unfold atomEnd
  rw [List.drop_eq_getElem_cons hb, e, List.takeWhile_cons, a]
  simp
theorem atomEnd_end {l : List Nat} {b : Nat} (h : l.length ≤ b) : atomEnd l b = b := by
  unfold atomEnd
  rw [List.drop_eq_nil_of_le h]
  rfl
theorem atomEnd_le {l : List Nat} {b : Nat} (h : b ≤ l.length) : atomEnd l b ≤ l.length := by
  unfold atomEnd
  have := (List.takeWhile_prefix (p := isAtm) (l := l.drop b)).length_le
  rw [List.length_drop] at this
  omega
def spAtomEnd : Sp := fun vs H Q _ => ∃ (z : Str) (b : Nat), vs = [.str z, .int (b : Nat)] ∧ z.length ≤ 10000 ∧ b ≤ z.length ∧ Q (.int (atomEnd z.cps.toList b : Nat)) H
theorem scAtomEnd : FnScope ["text", "begin", "end"] ["text", "begin"] (defScope sAtomEnd) := ⟨rfl, rfl, rfl, by decide +kernel, rfl, by decide +kernel, by decide +kernel⟩
theorem r_atom_end (A : FnAt K mg "_atom_end" sAtomEnd) (RS : Ready P w K mg base 2 "_is_atom_sign" ["sign"] (spSign isAtm)) (ml : mg "len" = none) :
    Ready P w K mg base 3 "_atom_end" ["text", "begin"] spAtomEnd := by
  obtain ⟨fS, fdS, gS, kS, bS, GS⟩ := RS
  refine ready_of A (fun _ _ _ _ _ _ us hl => match us, hl with | [_, _], _ => rfl) fun f fd F => ?_
  refine F.ok scAtomEnd (fun vs H Q E h => ?_) (fun cdv A outer s H vs Q E hr h => ?_)
  · obtain ⟨z, b, rfl, _⟩ := h
    rfl
  · obtain ⟨z, b, rfl, hz, hb, q⟩ := h
    refine ⟨_, pss_cons (ps_set (i := 2) scAtomEnd.nd rfl (.inl rfl) (pv 1))
      (pss_cons (ps_while PassesOwn.never (PW.pt (pw_and (pt_cmpR op_lt (pv 2) (pe_callB call_len_str (by rfl) ml PySem.boot_len (pa_cons (pv 0) pa_nil)) (nomark _))
        (pw_and1 (pt_val (pe_call GS hr (by rfl) gS kS bS .nil pass0 (pa_cons (pe_item_str (pv 0) (pv 2) (fun _ _ => rfl)) pa_nil))))))
        (pss_one (ps_aug (i := 2) scAtomEnd.nd rfl (.inl rfl) pe_int ip_add)))
      (pss_one (ps_ret (pv 2)))), ?_⟩
    refine ⟨.int b, rfl, ?_⟩
    refine ⟨fun m σ H' => ∃ e : Nat, σ = [some (.str z), some (.int b), some (.int e)] ∧ H' = H ∧ e ≤ z.length ∧ m = z.length - e ∧ atomEnd z.cps.toList b = atomEnd z.cps.toList e,
      ⟨z.length - b, b, rfl, rfl, hb, rfl, rfl⟩, fun m σ H' hW => ?_⟩
    obtain ⟨e, rfl, rfl, he, rfl, hE⟩ := hW
    refine ⟨_, rfl, _, rfl, z, rfl, Nat.le_of_lt (szl hz), _, _, rfl, rfl, _, rfl, ?_⟩
    by_cases h1 : e < z.length
    · rw [decide_eq_true (by omega : (e : Int) < (z.length : Int))]
      obtain ⟨c, hc⟩ : ∃ c, z.cps[e]? = some c := ⟨_, Array.getElem?_eq_getElem (show e < z.cps.size from h1)⟩
      have hc' : z.cps.toList[e]? = some c := by
        rw [Array.getElem?_toList]
        exact hc
      refine iteT ⟨_, rfl, _, rfl, z, e, c, rfl, rfl, by omega, by omega, by omega, ?_, c, rfl, _, rfl, ?_⟩
      · rw [Int.toNat_natCast]
        exact hc
      · cases ha : isAtm c with
        | true =>
          refine iteT ⟨fun σ' H'' => ∃ e' : Nat, σ' = [some (.str z), some (.int b), some (.int e')] ∧ H'' = H' ∧ e' = e + 1, fun σ' H'' hN => ?_, ?_⟩
          · obtain ⟨e', rfl, rfl, rfl⟩ := hN
            exact ⟨_, (by omega : z.length - (e + 1) < z.length - e), e + 1, rfl, rfl, h1, rfl, hE.trans (atomEnd_step hc' ha)⟩
          · exact ⟨_, rfl, _, _, rfl, rfl, e + 1, rfl, rfl, rfl⟩
        | false =>
          refine iteF ⟨_, rfl, ?_⟩
          rw [hE, atomEnd_stop hc' ha] at q
          exact q
    · rw [decide_eq_false (by omega : ¬ (e : Int) < (z.length : Int))]
      refine iteF (iteF ⟨_, rfl, ?_⟩)
      rw [hE, atomEnd_end (by rw [len_cps]; omega)] at q
      exact q
end
end FL

namespace FL
open PySem PySem.Spec PyProof.Rows L2
section
variable {P : Program} {w : World} {K : PySem.W.Frag} {mg : Str → Option Value} {base : Heap}
def spCellAt (K : PySem.W.Frag) : Sp := fun vs H Q _ => ∃ (a : Addr) (ns : List Int) (k : Nat), vs = [.ref a, .int (k : Nat)] ∧ SqL K H a (ns.map V.int) ∧ ∀ x : Int, Q (.int x) H
theorem scCellAt : FnScope ["_law_script", "_law_k"] ["_law_script", "_law_k"] (defScope sCellAt) := ⟨rfl, rfl, rfl, by decide +kernel, rfl, by decide +kernel, by decide +kernel⟩
theorem r_cell_at (A : FnAt K mg "_law_cell_at" sCellAt) (ml : mg "len" = none) : Ready P w K mg base 1 "_law_cell_at" ["_law_script", "_law_k"] (spCellAt K) := by
  refine ready_of A (fun _ _ _ _ _ _ us hl => match us, hl with | [_, _], _ => rfl) fun f fd F => ?_
  refine F.ok scCellAt (fun vs H Q E h => ?_) (fun cdv A outer s H vs Q E hr h => ?_)
  · obtain ⟨a, ns, k, rfl, _⟩ := h
    rfl
  · obtain ⟨a, ns, k, rfl, hS, q⟩ := h
    refine ⟨_, pss_cons (ps_if (pt_cmpR op_lt (pv 1) (pe_callB call_len_seq (by rfl) ml PySem.boot_len (pa_cons (pv 0) pa_nil)) (nomark _)) (pss_one (ps_ret (pe_ix ix_list (pv 0) (pv 1) (fun _ _ => rfl)))) pss_nil)
      (pss_one (ps_ret pe_int)), ?_⟩
    refine ⟨_, rfl, _, rfl, a, _, rfl, .inl hS, _, _, rfl, rfl, _, rfl, ite2 (fun h => ?_) (fun h => ?_)⟩
    · have h1 : k < ns.length := by
        have := of_decide_eq_true h
        rw [List.length_map] at this
        omega
      refine ⟨_, rfl, _, rfl, a, _, _, _, rfl, rfl, hS, atI_nat (v := .int ns[k]) ?_, q _⟩
      rw [List.getElem?_map, List.getElem?_eq_getElem h1]
      rfl
    · exact q 0
def spMixed : Sp := fun vs H Q _ => ∃ (c k : Int), vs = [.int c, .int k] ∧ ∀ r : Int, 0 ≤ r → r < 2147483563 → Q (.int r) H
theorem scMixed : FnScope ["_law_cell", "_law_k", "_law_low"] ["_law_cell", "_law_k"] (defScope sMixed) := ⟨rfl, rfl, rfl, by decide +kernel, rfl, by decide +kernel, by decide +kernel⟩
theorem r_mixed (A : FnAt K mg "_law_mixed" sMixed) : Ready P w K mg base 1 "_law_mixed" ["_law_cell", "_law_k"] spMixed := by
  refine ready_of A (fun _ _ _ _ _ _ us hl => match us, hl with | [_, _], _ => rfl) fun f fd F => ?_
  refine F.ok scMixed (fun vs H Q E h => ?_) (fun cdv A outer s H vs Q E hr h => ?_)
  · obtain ⟨c, k, rfl, _⟩ := h
    rfl
  · obtain ⟨c, k, rfl, q⟩ := h
    refine ⟨_, pss_cons (ps_set (i := 2) scMixed.nd rfl (.inl rfl) (pe_op op_add (pe_op op_mod (pv 0) pe_int) (pe_op op_mul (pe_op op_fdivW (pv 0) pe_int) pe_int)))
      (pss_cons (ps_set (i := 2) scMixed.nd rfl (.inl rfl) (pe_op op_mod (pe_op op_mul (pe_op op_add (pe_op op_add (pv 2) (pe_op op_mul pe_int (pv 1))) pe_int) pe_int) pe_int))
      (pss_cons (ps_set (i := 2) scMixed.nd rfl (.inl rfl) (pe_op op_mod (pe_op op_mul (pv 2) (pe_op op_add (pe_op op_add (pe_op op_fdivN (pv 2) pe_int) pe_int) (pv 1))) pe_int))
      (pss_one (ps_ret (pe_op op_mod (pe_op op_mul (pv 2) (pe_op op_add (pe_op op_fdivN (pv 2) pe_int) pe_int)) pe_int))))), ?_⟩
    refine ⟨_, rfl, _, _, rfl, rfl, (show (0 : Int) < 2147483629 by decide), _, rfl, _, _, rfl, rfl, wide_div (b := 40) (by decide) (by decide) (by decide) (by decide), _, _, rfl, rfl, .inr (by decide), _, _, rfl, rfl, ?_⟩
    generalize c % 2147483629 + c / 2147483629 * 30011 = x1
    refine ⟨_, rfl, _, rfl, _, _, rfl, rfl, .inl (by decide), _, _, rfl, rfl, _, _, rfl, rfl, _, _, rfl, rfl, .inr (by decide), _, _, rfl, rfl, (show (0 : Int) < 2147483629 by decide), ?_⟩
    have a2 := Int.emod_nonneg ((x1 + 69621 * k + 1) * 48271) (by decide : (2147483629 : Int) ≠ 0)
    have b2 := Int.emod_lt_of_pos ((x1 + 69621 * k + 1) * 48271) (by decide : (0 : Int) < 2147483629)
    generalize ((x1 + 69621 * k + 1) * 48271) % 2147483629 = x2 at a2 b2
    refine ⟨_, rfl, _, rfl, _, _, rfl, rfl, ⟨by decide, by decide⟩, _, _, rfl, rfl, _, rfl, _, _, rfl, rfl, _, _, rfl, rfl, .inl ⟨by omega, by omega⟩, _, _, rfl, rfl, (show (0 : Int) < 2147483587 by decide), ?_⟩
    generalize hX : x2 * (x2.fdiv 907 + 16831 + k) = X3
    have a3 := Int.emod_nonneg X3 (by decide : (2147483587 : Int) ≠ 0)
    have b3 := Int.emod_lt_of_pos X3 (by decide : (0 : Int) < 2147483587)
    generalize X3 % 2147483587 = x3 at a3 b3
    refine ⟨_, rfl, _, rfl, _, _, rfl, rfl, ⟨by decide, by decide⟩, _, _, rfl, rfl, _, _, rfl, rfl, .inl ⟨by omega, by omega⟩, _, _, rfl, rfl, (show (0 : Int) < 2147483563 by decide), ?_⟩
    exact q _ (Int.emod_nonneg _ (by decide)) (Int.emod_lt_of_pos _ (by decide))
/-- a source: three numbers at a -/
def Src (H : Hp) (a : Addr) : Prop := ∃ x y z : Int, H a = some (.lst [.int x, .int y, .int z])
def spSource (K : PySem.W.Frag) : Sp := fun vs H Q _ => ∃ (a : Addr) (ns : List Int) (k : Nat), vs = [.ref a, .int (k : Nat)] ∧ SqL K H a (ns.map V.int) ∧ ∀ H' p, Same H H' → H p = none → Src H' p → Q (.ref p) H'
theorem scSource : FnScope ["_law_script", "_law_k", "_law_cell"] ["_law_script", "_law_k"] (defScope sSource) := ⟨rfl, rfl, rfl, by decide +kernel, rfl, by decide +kernel, by decide +kernel⟩
theorem r_source (A : FnAt K mg "_law_source" sSource) (RC : Ready P w K mg base 1 "_law_cell_at" ["_law_script", "_law_k"] (spCellAt K)) (RM : Ready P w K mg base 1 "_law_mixed" ["_law_cell", "_law_k"] spMixed) (ml : mg "len" = none) :
    Ready P w K mg base 2 "_law_source" ["_law_script", "_law_k"] (spSource K) := by
  obtain ⟨f1, fd1, g1, k1, b1, G1⟩ := RC
  obtain ⟨f2, fd2, g2, k2, b2, G2⟩ := RM
  refine ready_of A (fun _ _ _ _ _ _ us hl => match us, hl with | [_, _], _ => rfl) fun f fd F => ?_
  refine F.ok scSource (fun vs H Q E h => ?_) (fun cdv A outer s H vs Q E hr h => ?_)
  · obtain ⟨a, ns, k, rfl, _⟩ := h
    rfl
  · obtain ⟨a, ns, k, rfl, hS, q⟩ := h
    have ix : ∀ e1 e2, PlainIx (.Name e1 e2) := fun _ _ _ _ => rfl
    refine ⟨_, pss_cons (ps_if (pt_cmpR op_lt (pv 1) (pe_callB call_len_seq (by rfl) ml PySem.boot_len (pa_cons (pv 0) pa_nil)) (nomark _))
        (pss_one (ps_ret (pe_lst (pa_cons (pe_ix ix_list (pv 0) (pv 1) (fun _ _ => rfl)) (pa_cons (pe_ix ix_list (pv 0) (pv 1) (fun _ _ => rfl)) (pa_cons pe_int pa_nil)))))) pss_nil)
      (pss_cons (ps_set (i := 2) scSource.nd rfl (.inl rfl) (pe_call G2 hr (by rfl) g2 k2 b2 .nil pass0 (pa_cons (pe_call G1 hr (by rfl) g1 k1 b1 .nil pass0 (pa_cons (pv 0) (pa_cons pe_int pa_nil))) (pa_cons (pe_op op_add pe_int (pv 1)) pa_nil))))
      (pss_one (ps_ret (pe_lst (pa_cons (pv 2) (pa_cons (pv 2) (pa_cons pe_int pa_nil))))))), ?_⟩
    refine ⟨_, rfl, _, rfl, a, _, rfl, .inl hS, _, _, rfl, rfl, _, rfl, ite2 (fun h => ?_) (fun h => ?_)⟩
    · have h1 : k < ns.length := by
        have := of_decide_eq_true h
        rw [List.length_map] at this
        omega
      have g : (ns.map V.int)[k]? = some (.int ns[k]) := by
        rw [List.getElem?_map, List.getElem?_eq_getElem h1]
        rfl
      refine ⟨_, rfl, _, rfl, a, _, _, _, rfl, rfl, hS, atI_nat g, _, rfl, _, rfl, a, _, _, _, rfl, rfl, hS, atI_nat g, (by show 3 ≤ sizeLine; decide), fun l hl => ?_⟩
      exact q _ l (same_new hl) hl ⟨_, _, _, upd_same⟩
    · refine ⟨_, rfl, a, ns, 0, rfl, hS, fun x => ⟨_, rfl, _, _, rfl, rfl, x, _, rfl, fun r _ _ => ?_⟩⟩
      refine ⟨_, rfl, _, rfl, (by show 3 ≤ sizeLine; decide), fun l hl => ?_⟩
      exact q _ l (same_new hl) hl ⟨_, _, _, upd_same⟩
def spNext : Sp := fun vs H Q _ => ∃ (a : Addr) (m : Nat) (x y z : Int), vs = [.ref a, .int (m : Nat)] ∧ 1 ≤ m ∧ m ≤ 100000 ∧ H a = some (.lst [.int x, .int y, .int z]) ∧
  ∀ (r : Nat) (x' z' : Int), r < m → Q (.int (r : Nat)) (upd H a (.lst [.int x', .int y, .int z']))
theorem scNext : FnScope ["_law_source_here", "_law_many", "_law_found"] ["_law_source_here", "_law_many"] (defScope sNext) := ⟨rfl, rfl, rfl, by decide +kernel, rfl, by decide +kernel, by decide +kernel⟩
theorem r_next (A : FnAt K mg "_law_next" sNext) (RM : Ready P w K mg base 1 "_law_mixed" ["_law_cell", "_law_k"] spMixed) : Ready P w K mg base 2 "_law_next" ["_law_source_here", "_law_many"] spNext := by
  obtain ⟨f2, fd2, g2, k2, b2, G2⟩ := RM
  refine ready_of A (fun _ _ _ _ _ _ us hl => match us, hl with | [_, _], _ => rfl) fun f fd F => ?_
  refine F.ok scNext (fun vs H Q E h => ?_) (fun cdv A outer s H vs Q E hr h => ?_)
  · obtain ⟨a, m, x, y, z, rfl, _⟩ := h
    rfl
  · obtain ⟨a, m, x, y, z, rfl, hm1, hm2, hS, q⟩ := h
    refine ⟨_, pss_cons (ps_if (pt_cmpR op_ge (pe_ix ix_list (pv 0) pe_int (fun _ _ => rfl)) (pe_op op_pow pe_int pe_int) (nomark _))
        (pss_cons (ps_set (i := 2) scNext.nd rfl (.inl rfl) (pe_op op_mod (pe_ix ix_list (pv 0) pe_int (fun _ _ => rfl)) (pv 1)))
          (pss_cons (ps_asg (pe_op op_fdivN (pe_ix ix_list (pv 0) pe_int (fun _ _ => rfl)) (pv 1)) (pg_sub (pv 0) pe_int set_list))
          (pss_one (ps_ret (pv 2))))) pss_nil)
      (pss_cons (ps_asg (pe_op op_add (pe_ix ix_list (pv 0) pe_int (fun _ _ => rfl)) pe_int) (pg_sub (pv 0) pe_int set_list))
      (pss_one (ps_ret (pe_op op_mod (pe_call G2 hr (by rfl) g2 k2 b2 .nil pass0 (pa_cons (pe_ix ix_list (pv 0) pe_int (fun _ _ => rfl)) (pa_cons (pe_ix ix_list (pv 0) pe_int (fun _ _ => rfl)) pa_nil))) (pv 1))))), ?_⟩
    have hm0 : (0 : Int) < (m : Int) := by omega
    refine ⟨_, rfl, a, _, _, .int x, rfl, rfl, SqL.of hS, rfl, _, _, rfl, rfl, ⟨by decide, by decide, by decide⟩, _, _, rfl, rfl, _, rfl, ite2 (fun h => ?_) (fun h => ?_)⟩
    · refine ⟨_, rfl, a, _, _, .int x, rfl, rfl, SqL.of hS, rfl, _, rfl, _, _, rfl, rfl, hm0, ?_⟩
      refine ⟨_, rfl, a, _, _, .int x, rfl, rfl, SqL.of hS, rfl, _, rfl, _, _, rfl, rfl, ⟨by omega, by omega⟩, _, rfl, a, _, _, 0, rfl, rfl, hS, rfl, ?_⟩
      have h1 := Int.emod_nonneg x (by omega : (m : Int) ≠ 0)
      have h2 := Int.emod_lt_of_pos x hm0
      have e : ((x % (m : Int)).toNat : Int) = x % (m : Int) := Int.toNat_of_nonneg h1
      refine ⟨_, rfl, ?_⟩
      have := q (x % (m : Int)).toNat (x.fdiv m) z (by omega)
      rw [e] at this
      exact this
    · refine ⟨_, rfl, a, _, _, .int z, rfl, rfl, SqL.of hS, rfl, _, _, rfl, rfl, _, rfl, a, _, _, 2, rfl, rfl, hS, rfl, ?_⟩
      refine ⟨_, rfl, a, _, _, .int y, rfl, rfl, SqL.of upd_same, rfl, _, rfl, a, _, _, .int (z + 1), rfl, rfl, SqL.of upd_same, rfl, y, _, rfl, fun r _ _ => ?_⟩
      refine ⟨_, rfl, _, _, rfl, rfl, hm0, ?_⟩
      have h1 := Int.emod_nonneg r (by omega : (m : Int) ≠ 0)
      have h2 := Int.emod_lt_of_pos r hm0
      have e : ((r % (m : Int)).toNat : Int) = r % (m : Int) := Int.toNat_of_nonneg h1
      have := q (r % (m : Int)).toNat x (z + 1) (by omega)
      rw [e] at this
      exact this
end
end FL

namespace FL
open PySem PySem.Spec PyProof.Rows L2
section
variable {P : Program} {w : World} {K : PySem.W.Frag} {mg : Str → Option Value} {base : Heap}
/-- only the source at a has changed, and new things came -/
structure Drawn (a : Addr) (H H' : Hp) : Prop where
  old : ∀ b o, b ≠ a → H b = some o → H' b = some o
  src : Src H' a
theorem Drawn.refl {a : Addr} {H : Hp} (h : Src H a) : Drawn a H H := ⟨fun _ _ _ h => h, h⟩
theorem Drawn.trans {a : Addr} {H H1 H2 : Hp} (x : Drawn a H H1) (y : Drawn a H1 H2) : Drawn a H H2 := ⟨fun b o n h => y.old b o n (x.old b o n h), y.src⟩
theorem Drawn.same {a : Addr} {H H1 H2 : Hp} (x : Drawn a H H1) (s : Same H1 H2) : Drawn a H H2 :=
  ⟨fun b o n h => s b o (x.old b o n h), let ⟨p, q, r, e⟩ := x.src; ⟨p, q, r, s _ _ e⟩⟩
theorem drawn_upd {a : Addr} {H : Hp} {x y z : Int} : Drawn a H (upd H a (.lst [.int x, .int y, .int z])) := ⟨fun b o n h => by rw [upd_ne n]; exact h, ⟨x, y, z, upd_same⟩⟩
theorem drawn_set {a p : Addr} {H H1 : Hp} {o : HO} (x : Drawn a H H1) (h : H p = none) (n : a ≠ p) : Drawn a H (upd H1 p o) :=
  ⟨fun b u nb e => by rw [upd_ne (ne_of_none e h)]; exact x.old b u nb e, let ⟨u, v, r, e⟩ := x.src; ⟨u, v, r, by rw [upd_ne n]; exact e⟩⟩
theorem joinL_nil : ∀ L : List (List Nat), TL.joinL [] L = L.flatten
  | [] => rfl
  | [p] => by simp [TL.joinL]
  | p :: q :: r => by
    have := joinL_nil (q :: r)
    show p ++ ([] ++ TL.joinL [] (q :: r)) = _
    rw [List.nil_append, this]
    rfl
theorem join_codes (ys : List Str) : (Txt.join ("" : Str) ys).cps.toList = (ys.map fun y => y.cps.toList).flatten := by
  have e : TL.tl ("" : Str) = [] := by decide +kernel
  have h := TL.tl_join ("" : Str) ys
  rw [← TL.join_eq, e, joinL_nil] at h
  exact h
theorem sum_one {ys : List Str} (h : ∀ t ∈ ys, t.length ≤ 1) : (ys.map (·.length)).sum ≤ ys.length := by
  induction ys with
  | nil => exact Nat.le_refl _
  | cons y r ih =>
    have h1 := h y (List.mem_cons_self ..)
    have h2 := ih fun t ht => h t (List.mem_cons_of_mem _ ht)
    rw [List.map_cons, List.sum_cons, List.length_cons]
    omega
theorem codes_one (c : Nat) : (⟨#[c]⟩ : Str).cps.toList = [c] := rfl
theorem flat_ones {ys : List Str} {l : List Nat} (h : ∀ t ∈ ys, ∃ c ∈ l, t = ⟨#[c]⟩) : (∀ c ∈ (ys.map fun y => y.cps.toList).flatten, c ∈ l) ∧ ((ys.map fun y => y.cps.toList).flatten).length = ys.length := by
  induction ys with
  | nil => exact ⟨fun c hc => by simp at hc, rfl⟩
  | cons y r ih =>
    obtain ⟨i1, i2⟩ := ih fun t ht => h t (List.mem_cons_of_mem _ ht)
    obtain ⟨c, hc, rfl⟩ := h y (List.mem_cons_self ..)
    rw [List.map_cons, List.flatten_cons]
    show (∀ d ∈ [c] ++ _, d ∈ l) ∧ ([c] ++ _).length = _
    refine ⟨fun d hd => ?_, by rw [List.length_append, i2, List.length_cons]; simp; omega⟩
    rcases List.mem_append.mp hd with hd | hd
    · rw [List.mem_singleton.mp hd]; exact hc
    · exact i1 d hd
def spSigns : Sp := fun vs H Q _ => ∃ (a : Addr) (s : Str) (m : Nat), vs = [.ref a, .str s, .int (m : Nat)] ∧ 1 ≤ s.length ∧ s.length ≤ 10000 ∧ m ≤ 10000 ∧ Src H a ∧
  ∀ (t : Str) (H' : Hp), (∀ c ∈ t.cps.toList, c ∈ s.cps.toList) → t.length = m → Drawn a H H' → Q (.str t) H'
theorem scSigns : FnScope ["_law_source_here", "_law_signs_here", "_law_many", "_law_k"] ["_law_source_here", "_law_signs_here", "_law_many"] (defScope sSigns) := ⟨rfl, rfl, rfl, by decide +kernel, rfl, by decide +kernel, by decide +kernel⟩
theorem r_signs (A : FnAt K mg "_law_signs" sSigns) (RN : Ready P w K mg base 2 "_law_next" ["_law_source_here", "_law_many"] spNext) (ml : mg "len" = none) (mr : mg "range" = none) :
    Ready P w K mg base 3 "_law_signs" ["_law_source_here", "_law_signs_here", "_law_many"] spSigns := by
  obtain ⟨f2, fd2, g2, k2, b2, G2⟩ := RN
  refine ready_of A (fun _ _ _ _ _ _ us hl => match us, hl with | [_, _, _], _ => rfl) fun f fd F => ?_
  refine F.ok scSigns (fun vs H Q E h => ?_) (fun cdv A outer s H vs Q E hr h => ?_)
  · obtain ⟨a, s, m, rfl, _⟩ := h
    rfl
  · obtain ⟨a, z, m, rfl, hz1, hz2, hm, hS, q⟩ := h
    refine ⟨_, pss_one (ps_ret (pe_join pe_str (pe_lc (own := [("_law_k", 3)]) (g := gName 3) (tt := tYes) (by rfl) scSigns.nd (pi_range1 (by rfl) mr (pa_cons (pv 2) pa_nil))
      (blkOk_by (own := [("_law_k", 3)]) (N := ["_law_source_here", "_law_signs_here", "_law_many", "_law_k"]) (sc := defScope sSigns) (by decide +kernel)) (fun _ _ _ _ _ => pg_name (i := 3) scSigns.nd rfl (Or.inl rfl)) (fun _ _ _ _ _ => pts_nil)
      (fun _ _ _ _ _ => pe_item_str (pv 1) (pe_call G2 hr (by rfl) g2 k2 b2 .nil pass0 (pa_cons (pv 0) (pa_cons (pe_callB call_len_str (by rfl) ml PySem.boot_len (pa_cons (pv 1) pa_nil)) pa_nil))) (fun _ _ => rfl))))), ?_⟩
    refine ⟨⟨_, rfl⟩, _, rfl, m, rfl, by omega, by omega, fun D hD => ?_⟩
    have hDa : a ≠ D := fun e => by
      obtain ⟨x, y, u, hx⟩ := hS
      rw [e, hD] at hx
      cases hx
    rw [Int.toNat_natCast]
    refine lc_it walk_range (fun i H' => Drawn a H H' ∧ ∃ ys : List Str, H' D = some (.lst (ys.map V.str)) ∧ ys.length = i ∧ ∀ t ∈ ys, ∃ c ∈ z.cps.toList, t = ⟨#[c]⟩) ⟨drawn_set (Drawn.refl hS) hD hDa, [], upd_same, rfl, fun _ h => by simp at h⟩ (fun _ _ _ _ => trivial) (fun i x H1 H2 hi hp hy => ?_) (fun H1 hp => ?_)
    · obtain ⟨rfl, rfl⟩ := hy
      obtain ⟨dr, ys, hd, hy1, hy2⟩ := hp
      obtain ⟨x, y, u, hx⟩ := dr.src
      refine ⟨rfl, ?_⟩
      unfold tYes
      refine iteT ?_
      refine ⟨_, rfl, _, rfl, _, rfl, z, rfl, Nat.le_of_lt (szl hz2), a, z.length, x, y, u, rfl, hz1, by omega, hx, fun r x' z' hr' => ?_⟩
      have hc : z.cps[r]? = some (z.cps[r]'hr') := Array.getElem?_eq_getElem hr'
      refine ⟨z, r, _, rfl, rfl, by omega, by omega, by omega, by rw [Int.toNat_natCast]; exact hc, ?_⟩
      have hd' : (upd H2 a (.lst [.int x', .int y, .int z'])) D = some (.lst (ys.map V.str)) := by rw [upd_ne hDa.symm]; exact hd
      refine ⟨_, hd', ?_, ?_, ys ++ [⟨#[z.cps[r]'hr']⟩], ?_, ?_, ?_⟩
      · rw [List.length_map]
        exact szl (by omega)
      · exact drawn_set (dr.trans drawn_upd) hD hDa
      · rw [upd_same, List.map_append]
        rfl
      · rw [List.length_append, hy1]
        rfl
      · intro t ht
        rcases List.mem_append.mp ht with ht | ht
        · exact hy2 t ht
        · exact ⟨_, Array.mem_def.mp (Array.getElem_mem hr'), List.mem_singleton.mp ht⟩
    · obtain ⟨dr, ys, hd, hy1, hy2⟩ := hp
      have h3 := sum_one (ys := ys) fun t ht => by
        obtain ⟨c, _, rfl⟩ := hy2 t ht
        exact Nat.le_refl 1
      obtain ⟨h4, h5⟩ := flat_ones hy2
      rw [← join_codes] at h4 h5
      have e0 : ("" : Str).length = 0 := by decide +kernel
      refine ⟨("" : Str), D, ys, rfl, rfl, .inl (SqL.of hd), ?_, q _ H1 h4 ?_ dr⟩
      · rw [e0]
        omega
      · rw [← len_cps, h5, hy1]
end
end FL

namespace FL
open PySem PySem.Spec PyProof.Rows L2
/-! ### the class of a caught error that has a dict of its own -/
section
open PySem.W PySem.Calls
theorem cls_found {K : Frag} {D : Addr} {oo : Option Obj} (G : ExcC K D) : findObj K D oo "__class__" = some (.bind (.builtin "getset_descriptor.__get__") (.builtin "object.__class__")) := by
  obtain ⟨cd, hc, _⟩ := any_some G.hd
  unfold findObj
  rw [hc, Option.bind_some, G.ha, Option.bind_some]
  simp [G.hn, G.ht]
theorem cls_of_exc {prog : Program} {w : World} {A : Around} {E : Value → Shared → Prop} {s : Shared} {K : Frag} {x D : Addr} {ox : Obj} {oo : Option Obj} {Q : Option Value → Shared → Prop}
    (G : ExcC K D) (Y : K.In s.heap) (J : InstAt s.heap x ox D oo) (q : Q (some (.ref D)) { s with toks := s.toks + 1 }) : wpAny (model prog w) A (getAttr? (.ref x) "__class__") Q E s := by
  have found := cls_found (oo := oo) G
  obtain ⟨hh, gg, dd, tt, oos⟩ := s
  have t0 : Looks (model prog w) hh (typeOf (.ref x)) (.ref D) := J.type
  have t1 := looks_findIn (M := model prog w) Y G.hg
  have t2 := looks_findIn (M := model prog w) Y G.hk
  have t3 := looks_find (M := model prog w) Y J found
  have isB : Looks (model prog w) hh (isInstance (.ref x) (.type "BaseException")) true := t0.andThen (looks_subIn Y G.hs)
  have n0 : (false && onTheHeap (Value.builtin "BaseException.__getattribute__")) = false := rfl
  have n1 : (onTheHeap (Value.ref D) && Value.builtin "BaseException.__getattribute__" == Value.builtin "object.__getattribute__") = false := by
    rw [show (Value.builtin "BaseException.__getattribute__" == Value.builtin "object.__getattribute__") = false by decide +kernel]
    rfl
  unfold getAttr? getAttrBy? getAttrBy
  refine wpAny_bind (wpAny_mkText (wpAny_bind (wpAny_attempt (wpAny_holding (wpAny_bind (t0.at (wpAny_bind (t1.at ?_))))))))
  refine (show wpAny (model prog w) A (if (onTheHeap (Value.ref D) && Value.builtin "BaseException.__getattribute__" == Value.builtin "object.__getattribute__") = true then _ else _) _ _ _ from ?_)
  rw [n1, if_neg Bool.false_ne_true]
  unfold getAttrByItsOwn hookBefore
  refine wpAny_bind ?_
  rw [if_pos (show onTheHeap (Value.ref D) = true from rfl)]
  refine t2.at (wpAny_bind (wpAny_attempt (wpAny_holding ?_)))
  unfold callGetattribute
  rw [n0, if_neg Bool.false_ne_true]
  unfold boundAndCalled
  rw [PySem.F.excAttr_ValueError.ga.bind (.ref x)]
  refine wpAny_bind (wpAny_pure ?_)
  refine (show wpAny (model prog w) _ (call (.builtin "BaseException.__getattribute__") [.ref x, .str "__class__" tt]) _ _ _ from ?_)
  refine wpAny_call (codeAny_call_builtin PySem.F.excAttr_ValueError.ga.plain PySem.F.entry_bexc_ga ?_)
  refine @check_slot (model prog w) _ _ ⟨hh, gg, dd, tt + 1, oos⟩ "BaseException.__getattribute__" "BaseException" "__getattribute__" (.ref x) [.str "__class__" tt] [] _ (by decide +kernel) (by decide +kernel) isB (PySem.F.args_bexc_ga (.ref x) (.str "__class__" tt)) ?_
  unfold Builtin.«object.__getattribute__»
  refine wpAny_bind (wpAny_of_eq (a := ((Value.ref x : Value), [Value.str "__class__" tt])) (by first | rfl | (simp only [slotArgs]; rfl)) ?_)
  refine wpAny_bind (wpAny_pure (wpAny_bind (t0.at (wpAny_bind (t3.at ?_)))))
  refine (show wpAny (model prog w) _ (holding [Value.builtin "object.__class__"] (call (.builtin "getset_descriptor.__get__") [.builtin "object.__class__", .ref x, .ref D]) >>= ret) _ _ _ from ?_)
  refine wpAny_bind (wpAny_holding (wpAny_call (class_get (s := ⟨hh, gg, dd, tt + 1, oos⟩) (ox := ox) (od := oo) Y J G.hm (wpAny_pure ?_))))
  refine (show wpAny (model prog w) _ (handedOut (.ref D)) _ _ _ from ?_)
  rw [handedOut_of (v := .ref D) rfl]
  first
    | exact wpAny_pure (wpAny_pure q)
    | exact wpAny_pure q
    | exact wpAny_pure (wpAny_bind (wpAny_pure (wpAny_pure q)))
/-- an own class at D stands in the written part as a class -/
theorem cls_there {K : Frag} {D : Addr} (h : hasDictIn K D = true) : ∃ c d' cd sl, K.lookup D = some ⟨c, d', .cls cd, sl⟩ := by
  obtain ⟨cd, hc, _⟩ := any_some h
  unfold clsIn at hc
  split at hc
  · rename_i c' d' cd' sl' ho
    exact ⟨c', d', cd', sl', ho⟩
  · cases hc
theorem kitx_excD {K : Frag} {x D : Addr} {ox : Obj} {oo : Option Obj} (G : ExcC K D) : KitX K (.ref x) (.ref D) (fun h => InstAt h x ox D oo) where
  ty := fun _ _ _ J => J.type
  it := fun _ _ Y _ => by
    obtain ⟨c', d', cd', sl', ho⟩ := cls_there G.hd
    intro A' Q' E' s' k q
    unfold isType loadHead
    exact wpAny_bind (wpAny_loadPart (k _ _ (Y _ _ ho)) (wpAny_pure q))
  ne := fun h tp dd its n sl Y htp => by
    obtain ⟨c', d', cd', sl', ho⟩ := cls_there G.hd
    refine Bool.eq_false_iff.mpr fun z => ?_
    have e : D = tp := Value.ref.inj (beq_iff_eq.mp z)
    subst e
    have z2 := (Y _ _ ho).symm.trans htp
    cases z2
  ca := fun Y J k => cls_of_exc G Y J k
end
theorem kit_same {K : PySem.W.Frag} {C : Addr} : PySem.W.kitOne K (.ref C) (.ref C) = some true := by
  unfold PySem.W.kitOne
  rw [if_pos (beq_self_eq_true _)]
theorem kit_own {K : PySem.W.Frag} {C D : Addr} {b : Bool} (n : ((Value.ref C) == (Value.ref D)) = false) (t : PySem.W.typeIn K (.ref D) = some (.type "type")) (d : PySem.W.hasDictIn K D = true) (s : PySem.W.subIn K (.ref C) (.ref D) = some b) : PySem.W.kitOne K (.ref C) (.ref D) = some b := by
  obtain ⟨cd, hc, _⟩ := PySem.W.any_some d
  unfold PySem.W.kitOne
  rw [if_neg (by rw [n]; exact Bool.false_ne_true)]
  show (if ((PySem.W.clsIn K D).isSome && PySem.W.typeIn K (.ref D) == some (.type "type")) = true then PySem.W.subIn K (.ref C) (.ref D) else none) = some b
  rw [hc, t, if_pos (by rfl)]
  exact s
/-- isinstance(e, c), e the caught error at a, its own dict at dd -/
def rIsD (K : PySem.W.Frag) (D a : Addr) (dd : Addr) : List V → Hp → VK → Prop := fun xs H Q => ∃ (c : V) (cv : Value) (b : Bool) (fs : List (Str × V)), xs = [.ref a, c] ∧ H dd = some (.xd fs) ∧ (∀ u, RelV c u → u = cv) ∧ PySem.W.kitOne K (.ref D) cv = some b ∧ Q (.bl b) H
theorem call_isD {X : Cx} {a D dd : Addr} {oe : Obj} {pn : List (Addr × Obj)} (G : ExcC X.K D) (hz : Zc (.ref D) (some dd) oe) (hf : ∃ vs, oe.data = .fields vs) : CallR (X.suite a ((a, oe) :: pn)) (.builtin "isinstance") (rIsD X.K D a dd) := by
  intro pins s σ H xs us Q I r h
  obtain ⟨c, cv, b, fs, rfl, hd, hcv, e, q⟩ := h
  obtain ⟨u1, u2, rfl, rx, rt⟩ := vals2 r
  cases rx
  have ec := hcv _ rt
  subst ec
  obtain ⟨hget, _⟩ := I.pin (a, oe) (List.mem_append.mpr (.inl List.mem_cons_self))
  obtain ⟨vs, hv⟩ := hf
  have hx : ObjOk X.prog X.w H s.heap dd (.xd fs) := I.hok dd _ hd
  obtain ⟨mA, hns, _⟩ := hx
  obtain ⟨od, ho, _⟩ := lookIn_ns hns
  have J : PySem.W.InstAt s.heap a oe D (some od) := ⟨hget, hz.1, by unfold PySem.W.notCls; rw [hv] <;> rfl, by rw [hz.2]; exact ho⟩
  exact PySem.W.kia_one (kitx_excD G) I.kIn J e (fun z => nomatch z) fun tk => ⟨.bl b, H, I.kept (t' := tk) fun _ _ z => z, rfl, q⟩
/-- the same, where it is told only later which class and which dict the caught error has -/
def rIsG (K : PySem.W.Frag) (D a : Addr) (cls : Value) (d : Option Addr) : List V → Hp → VK → Prop := fun xs H Q => cls = .ref D ∧ ∃ dd, d = some dd ∧ rIsD K D a dd xs H Q
theorem call_isG {X : Cx} {a D : Addr} {cls : Value} {d : Option Addr} {oe : Obj} {pn : List (Addr × Obj)} (G : ExcC X.K D) (hz : Zc cls d oe) (hf : ∃ vs, oe.data = .fields vs) : CallR (X.suite a ((a, oe) :: pn)) (.builtin "isinstance") (rIsG X.K D a cls d) := by
  intro pins s σ H xs us Q I r h
  obtain ⟨rfl, dd, rfl, h⟩ := h
  exact call_isD G hz hf pins s σ H xs us Q I r h
/-! ### C.__init__(self, ..), C an own class -/
structure ClsFn (K : PySem.W.Frag) (C fI : Addr) : Prop where
  ga : PySem.W.specialIn K (.ref C) "__getattribute__" = some (some (.builtin "type.__getattribute__"))
  rd : PySem.W.readsIn K C (.type "type") = true
  at_ : PySem.W.findCls K (.ref C) (.type "type") "__init__" = some (.val (.ref fI))
  kp : PySem.W.keepIn K (.ref fI) = true
theorem pe_cinit {X : Cx} {x : Str} {C fI : Addr} {CX : CXT} {k : Nat} {fd : FuncData} {ps : List Str} {sp : Sp} {ds : List Value} {dvs : List V} {E : XK} {e : Expr} {es : List Expr} {t : TA} {p1 p2 pos : Pos} {pl : Sem Bool} (T : ClsFn X.K C fI) (F : FnOk X.prog X.w X.K X.mg X.base CX k fI fd ps sp) (hr : Room k X.A)
    (hg : Gl X x) (hm : X.mg x = some (.ref C)) (hb : Binds X.K fd ps ds) (hd : Vals dvs ds) (hx : Passes CX X E) (ha : PA X (e :: es) t)
    (hc : eval (.Call (.Attribute (.Name x p1) "__init__" p2) (e :: es) [] pos) X.env = (do
      let ov ← eval (.Name x p1) X.env
      standAt p2.atName
      let (f, first) ← holding [ov] (getMethod ov "__init__" pl)
      callWith pos f first (backTo pos (starEach (e :: es) X.env)) (backToKw pos (keywordEach [] X.env))) := by rfl)
    (hdb : (x == ("__debug__" : Str)) = false := by decide) (he : starEach (e :: es) X.env = (false, eval e X.env) :: starEach es X.env := by rfl) (hpl : (backTo pos (starEach es X.env)).any (·.1) = false := by rfl) :
    PE X (.Call (.Attribute (.Name x p1) "__init__" p2) (e :: es) [] pos) (tCall sp dvs E t) := by
  refine ⟨fun pins s σ H Q I h => ?_⟩
  refine PySem.W.methodCall_KW (ld_glob I hg hm ?_ hdb) hc
  refine PySem.W.method_cls I.kIn T.ga (ClX.getcval_ok (v := .ref fI) (u := .ref fI) I ⟨T.rd, T.ga⟩ ⟨T.at_, rfl⟩ fun s1 I1 => ?_)
  refine (show wpAny (model X.prog X.w) X.A (callWith pos (.ref fI) [] (backTo pos (starEach (e :: es) X.env)) []) _ _ _ from ?_)
  refine PySem.W.callWith_K (h₀ := X.base) I.ok.mod.kin T.kp (thn (ha.run pos pins s1 σ H _ I1 h) fun us s2 ⟨vs, H1, I2, r, q⟩ => ⟨I2.kIn, ?_⟩) he hpl
  exact run_fn F hr hb hd hx I2 r q
section
variable {P : Program} {w : World} {K : PySem.W.Frag} {mg : Str → Option Value} {base : Heap}
abbrev sLE : Stmt := inClass cLetterError 0
abbrev FunA (K : PySem.W.Frag) (qual : Str) (st : Stmt) (dvs : List V) (f : Addr) (fd : FuncData) : Prop := FunD K "__init__" qual (defArgs st) (defBody st) (defScope st) dvs [] f fd
def spLE (K : PySem.W.Frag) : Sp := fun vs H Q _ => ∃ (a C : Addr) (v : V), vs = [.ref a, v] ∧ OexC K C ∧ H a = some (exo a C none) ∧ Q .non H
theorem scLE : FnScope ["self", "why"] ["self", "why"] (defScope sLE) := ⟨rfl, rfl, rfl, by decide +kernel, rfl, by decide +kernel, by decide +kernel⟩
theorem ok_LE {f : Addr} {fd : FuncData} (F : FunA K "LetterError.__init__" sLE [.str ""] f fd) (mV : mg "ValueError" = none) (vV : PySem.W.findCls K (.type "ValueError") (.type "type") "__init__" = some (.val (.builtin "ValueError.__init__"))) :
    FnOk P w K mg base CX0 1 f fd ["self", "why"] (spLE K) := by
  refine FunD.ok F scLE (fun vs H Q E h => ?_) (fun cdv A outer s H vs Q E hr h => ?_)
  · obtain ⟨a, C, v, rfl, _⟩ := h
    rfl
  · obtain ⟨a, C, v, rfl, T, hH, q⟩ := h
    refine ⟨_, pss_one (ps_expr (pe_veinit (by rfl) mV vV (pa_cons (pv 0) (pa_cons (pv 1) pa_nil)))), ?_⟩
    exact ⟨_, rfl, _, rfl, a, C, [v], rfl, by show 1 ≤ 1000; decide, T, hH, q⟩
theorem bind_LE {f : Addr} {fd : FuncData} (F : FunA K "LetterError.__init__" sLE [.str ""] f fd) : ∃ ds, Vals [] ds ∧ Binds K fd ["self", "why"] ds :=
  FunD.binds1 (ps := ["self", "why"]) F 2 1 (by simp) rfl fun T kV doc pm an cdv ct us its hu hi => match us, its, hu, hi with | [_, _], [_], _, _ => ⟨_, rfl, rfl⟩
/-- C(why, y): a new error of the class at C, its field set -/
def spFld (C : Addr) (fld : Str) : Sp := fun vs H Q _ => ∃ (a : Addr) (v y : V), vs = [.ref a, v, y] ∧ H a = some (exo a C none) ∧ ∀ dx, H dx = none → dx ≠ a → Q .non (upd (upd H dx (exd dx [(fld, y)])) a (exo a C (some dx)))
/-- what a raise of C(..) asks and gives -/
structure MkFld (P : Program) (w : World) (K : PySem.W.Frag) (mg : Str → Option Value) (base : Heap) (x : Str) (C : Addr) (fld : Str) : Prop where
  T : OexC K C
  g : mg x = some (.ref C)
  init : ∃ fI fd, PySem.W.findIn K (.ref C) "__init__" = some (some (.ref fI)) ∧ PySem.W.typeIn K (.ref fI) = some (.type "function") ∧ FnOk P w K mg base CX0 2 fI fd ["self", "why", fld] (spFld C fld) ∧
    (∃ ds, Vals [] ds ∧ Binds K fd ["self", "why", fld] ds) ∧ ∃ ds, Vals [.int 0] ds ∧ Binds K fd ["self", "why", fld] ds
/-- the leaf: what the raise gives -/
theorem mk_leaf {C : Addr} {fld : Str} {v y : V} {vs dvs : List V} {H1 : Hp} {Q : XK} (hv : vs ++ dvs = [v, y]) (hl : vs.length ≤ 2) (h : ∀ (d : Addr) (H' : Hp), Same H1 H' → H1 d = none → H' d = some (.xd [(fld, y)]) → Q (.ref C) (some d) H') :
    vs.length ≤ 1000 ∧ ∀ a, H1 a = none → spFld C fld (.ref a :: (vs ++ dvs)) (upd H1 a (exo a C none))
      (fun v H2 => v = .non ∧ ∃ (d : Addr) (fs : List (Str × V)), H2 a = some (exo a C (some d)) ∧ H2 d = some (exd d fs) ∧ H1 d = none ∧ Q (.ref C) (some d) (upd (del H2 a) d (.xd fs))) (fun _ _ _ => False) := by
  refine ⟨by omega, fun a na => ⟨a, v, y, by rw [hv], upd_same, fun dx n1 n2 => ?_⟩⟩
  rw [upd_ne n2] at n1
  refine ⟨rfl, dx, [(fld, y)], upd_same, by rw [upd_ne n2, upd_same], n1, h dx _ (fun b o e => ?_) n1 upd_same⟩
  have hb1 : b ≠ a := ne_of_none e na
  have hb2 : b ≠ dx := ne_of_none e n1
  rw [upd_ne hb2, del_ne hb1, upd_ne hb1, upd_ne hb2, upd_ne hb1]
  exact e
theorem pmk_fld {X : Cx} {x fld : Str} {C : Addr} {e : Expr} {es : List Expr} {ta : TA} {p pos : Pos} (M : MkFld X.prog X.w X.K X.mg X.base x C fld) (hr : Room (2 + 1) X.A) (hg : Gl X x) (ha : PA X (e :: es) ta) (dvs : List V) (hdv : dvs = [] ∨ dvs = [.int 0])
    (hdb : (x == ("__debug__" : Str)) = false := by decide) (he : starEach (e :: es) X.env = (false, eval e X.env) :: starEach es X.env := by rfl) (hpl : (backTo pos (starEach es X.env)).any (·.1) = false := by rfl) :
    PMk X (.Call (.Name x p) (e :: es) [] pos) (tMkO C (spFld C fld) dvs ta) := by
  obtain ⟨fI, fd, iC, tI, F1, ⟨ds1, v1, b1⟩, ⟨ds2, v2, b2⟩⟩ := M.init
  rcases hdv with rfl | rfl
  · exact pmk_oex M.T iC tI F1 hr b1 v1 pass0 hg M.g ha hdb he hpl
  · exact pmk_oex M.T iC tI F1 hr b2 v2 pass0 hg M.g ha hdb he hpl
end
end FL

namespace FL
open PySem PySem.Spec PyProof.Rows L2
/-! ### texts as lists of signs -/
def mk (l : List Nat) : Str := ⟨l.toArray⟩
theorem mk_codes (l : List Nat) : (mk l).cps.toList = l := by simp [mk]
theorem mk_of (z : Str) : mk z.cps.toList = z := TL.mk_tl z
theorem mk_eq {z : Str} {l : List Nat} (h : z.cps.toList = l) : z = mk l := by rw [← h, mk_of]
theorem mk_inj {l m : List Nat} (h : mk l = mk m) : l = m := by rw [← mk_codes l, h, mk_codes]
theorem mk_len (l : List Nat) : (mk l).length = l.length := by simp [mk, Str.length]
theorem mk_one (c : Nat) : mk [c] = ⟨#[c]⟩ := rfl
theorem mk_app (l m : List Nat) : mk l ++ mk m = mk (l ++ m) := by
  have h : (mk l ++ mk m).cps.toList = l ++ m := by
    have := TL.tl_append (mk l) (mk m)
    show (mk l ++ mk m).cps.toList = l ++ m
    rw [show (mk l ++ mk m).cps.toList = (mk l).cps.toList ++ (mk m).cps.toList from this, mk_codes, mk_codes]
  exact mk_eq h
/-! ### slices -/
theorem cutS_one (z : Str) (p : Nat) : (cutS z (some (p : Nat)) (some ((p + 1 : Nat) : Int))).cps.toList = (z.cps.toList.drop p).take 1 := by
  unfold cutS
  rw [HT.sIx_nat, HT.sIx_nat]
  show (List.take _ (List.drop _ _)) = _
  have hl := len_cps z
  by_cases h : p < z.length
  · rw [Nat.min_eq_left (by omega), Nat.min_eq_left (by omega), show p + 1 - p = 1 by omega]
  · rw [Nat.min_eq_right (by omega), Nat.min_eq_right (by omega), Nat.sub_self, List.take_zero, List.drop_eq_nil_of_le (by omega)]
    rfl
theorem cutS_nat (z : Str) {i j : Nat} (h1 : i ≤ z.length) (h2 : j ≤ z.length) : (cutS z (some (i : Nat)) (some (j : Nat))).cps.toList = (z.cps.toList.drop i).take (j - i) := by
  unfold cutS
  rw [HT.sIx_nat, HT.sIx_nat]
  show (List.take _ (List.drop _ _)) = _
  rw [Nat.min_eq_left h1, Nat.min_eq_left h2]
theorem cps_at {z : Str} {p c : Nat} (h : z.cps[p]? = some c) : z.cps.toList[p]? = some c := by rw [Array.getElem?_toList]; exact h
theorem drop_at {l : List Nat} {p c : Nat} (h : l[p]? = some c) : l.drop p = c :: l.drop (p + 1) := by
  have hb : p < l.length := (List.getElem?_eq_some_iff.mp h).1
  have e : l[p] = c := (List.getElem?_eq_some_iff.mp h).2
  rw [List.drop_eq_getElem_cons hb, e]
section
variable {P : Program} {w : World} {K : PySem.W.Frag} {mg : Str → Option Value} {base : Heap}
theorem sign_is {c d : Nat} {x : Str} (hx : x = ⟨#[d]⟩) : decide (V.str ⟨#[c]⟩ = V.str x) = decide (c = d) := by
  rw [hx]
  exact decide_eq_decide.mpr str_one
def ReadyX (P : Program) (w : World) (K : PySem.W.Frag) (mg : Str → Option Value) (base : Heap) (k : Nat) (x : Str) (ps : List Str) (sp : Sp) : Prop :=
  ∃ f fd, mg x = some (.ref f) ∧ PySem.W.keepIn K (.ref f) = true ∧ Binds K fd ps [] ∧ FnOk P w K mg base (L2.CX P w) k f fd ps sp
theorem readyX_of {x : Str} {st : Stmt} {k : Nat} {ps : List Str} {sp : Sp} (A : FnAt K mg x st)
    (hb : ∀ (kV doc pm : Value) (an : Option Addr) (cdv ct : Value) (us : List Value), us.length = ps.length → bindArgs (PySem.W.fnOf x x (defArgs st) (defBody st) (defScope st) .none kV doc pm an cdv ct) ⟨us, []⟩ = pure (ps.zip us))
    (ok : ∀ f fd, Fun K x x st f fd → FnOk P w K mg base (L2.CX P w) k f fd ps sp) : ReadyX P w K mg base k x ps sp := by
  obtain ⟨f, fd, F, g⟩ := A.ex
  exact ⟨f, fd, g, F.kp, F.binds hb, ok f fd F⟩
/-- v is no text without line feeds -/
def NoLine (K : PySem.W.Frag) (H : Hp) (v : V) : Prop := (∃ z : Str, v = .str z ∧ z.length ≤ 10000 ∧ isLn z.cps.toList = false) ∨ (∃ t, TyX K H v t ∧ PySem.W.kitOne K t (.type "str") = some false)
/-- an error of the class at C with its field at y is wished for -/
def Fails (C : Addr) (fld : Str) (y : Int) (H : Hp) (E : XK) : Prop := ∀ (d : Addr) H', Same H H' → H d = none → H' d = some (.xd [(fld, .int y)]) → E (.ref C) (some d) H'
theorem Fails.later {C : Addr} {fld : Str} {y : Int} {H H1 : Hp} {E : XK} (h : Fails C fld y H E) (s : Same H H1) : Fails C fld y H1 E := fun d H' s' n e => h d H' (s.trans s') (Same.free s n) e
theorem len_append (a b : Str) : (a ++ b).length = a.length + b.length := by
  have := TL.tl_append a b
  rw [← len_cps, ← len_cps, ← len_cps]
  rw [show (a ++ b).cps.toList = a.cps.toList ++ b.cps.toList from this, List.length_append]
end
end FL

namespace FL
open PySem PySem.Spec PyProof.Rows L2
section
variable {P : Program} {w : World} {K : PySem.W.Frag} {mg : Str → Option Value} {base : Heap}
abbrev sNW : Stmt := inClass cNoWords 0
theorem scNW : FnScope ["self", "why", "at"] ["self", "why", "at"] (defScope sNW) := ⟨rfl, rfl, rfl, by decide +kernel, rfl, by decide +kernel, by decide +kernel⟩
theorem ok_NW {C CL fL f : Addr} {fd fdL : FuncData} (F : FunA K "NoWords.__init__" sNW [.int 0] f fd) (FL : FunA K "LetterError.__init__" sLE [.str ""] fL fdL) (TL : ClsFn K CL fL) (gL : mg "LetterError" = some (.ref CL)) (mV : mg "ValueError" = none)
    (vV : PySem.W.findCls K (.type "ValueError") (.type "type") "__init__" = some (.val (.builtin "ValueError.__init__"))) (T : OexC K C) (hno : PySem.W.findIn K (.ref C) "at" = some none) :
    FnOk P w K mg base CX0 2 f fd ["self", "why", "at"] (spFld C "at") := by
  have GL : FnOk P w K mg base CX0 1 fL fdL ["self", "why"] (spLE K) := ok_LE FL mV vV
  obtain ⟨ds, vds, bds⟩ := bind_LE FL
  refine FunD.ok F scNW (fun vs H Q E h => ?_) (fun cdv A outer s H vs Q E hr h => ?_)
  · obtain ⟨a, v, y, rfl, _⟩ := h
    rfl
  · obtain ⟨a, v, y, rfl, hH, q⟩ := h
    refine ⟨_, pss_cons (ps_expr (pe_cinit TL GL hr (by rfl) gL bds vds pass0 (pa_cons (pv 0) (pa_cons (pv 1) pa_nil)))) (pss_one (ps_ost (pv 0) (pv 2))), ?_⟩
    refine ⟨_, rfl, _, rfl, a, C, v, rfl, T, hH, ?_⟩
    exact ⟨_, rfl, _, rfl, a, C, rfl, T, hno, .inl ⟨hH, fun dx n1 n2 => q dx n1 n2⟩⟩
theorem mk_NW {C CL fL f : Addr} {fd fdL : FuncData} (F : FunA K "NoWords.__init__" sNW [.int 0] f fd) (FL : FunA K "LetterError.__init__" sLE [.str ""] fL fdL) (TL : ClsFn K CL fL) (gL : mg "LetterError" = some (.ref CL)) (mV : mg "ValueError" = none)
    (vV : PySem.W.findCls K (.type "ValueError") (.type "type") "__init__" = some (.val (.builtin "ValueError.__init__"))) (T : OexC K C) (hno : PySem.W.findIn K (.ref C) "at" = some none) (g : mg "NoWords" = some (.ref C))
    (iC : PySem.W.findIn K (.ref C) "__init__" = some (some (.ref f))) (tI : PySem.W.typeIn K (.ref f) = some (.type "function")) : MkFld P w K mg base "NoWords" C "at" :=
  ⟨T, g, f, fd, iC, tI, ok_NW F FL TL gL mV vV T hno,
    FunD.binds1 (ps := ["self", "why", "at"]) F 3 1 (by simp) rfl fun T kV doc pm an cdv ct us its hu hi => match us, its, hu, hi with | [_, _, _], [_], _, _ => ⟨_, rfl, rfl⟩,
    FunD.binds1 (ps := ["self", "why", "at"]) F 2 0 (by simp) rfl fun T kV doc pm an cdv ct us its hu hi => match us, its, hu, hi with | [_, _], [_], _, _ => ⟨_, rfl, rfl⟩⟩
end
end FL

namespace FL
open PySem PySem.Spec PyProof.Rows L2
/-! ### the mirror of words -/
/-- a quoted word behind its first quote: what is kept so far, the place, the rest -/
def quo (acc : List Nat) (p : Nat) : List Nat → Option (List Nat × Nat)
  | [] => none
  | [c] => if c = 34 then some (acc, p + 1) else none
  | c :: d :: r => if c = 34 then some (acc, p + 1) else if c = 92 then quo (acc ++ [d]) (p + 2) r else quo (acc ++ [c]) (p + 1) (d :: r)
/-- a remark from its place on: the depth, the place, the rest -/
def rem (d : Int) (p : Nat) : List Nat → Option Nat
  | [] => none
  | [c] => if c = 41 then (if d - 1 = 0 then some p else none) else none
  | c :: e :: r => if c = 92 then rem d (p + 2) r else if c = 40 then rem (d + 1) (p + 1) (e :: r)
      else if c = 41 then (if d - 1 = 0 then some p else rem (d - 1) (p + 1) (e :: r)) else rem d (p + 1) (e :: r)
theorem rem_nil {d : Int} {p : Nat} : rem d p [] = none := rfl
theorem quo_nil {a : List Nat} {p : Nat} : quo a p [] = none := rfl
theorem quo_end {a : List Nat} {p : Nat} {r : List Nat} : quo a p (34 :: r) = some (a, p + 1) := by
  cases r <;> simp [quo]
theorem quo_esc {a : List Nat} {p : Nat} {r : List Nat} : quo a p (92 :: r) = quo (a ++ r.take 1) (p + 2) (r.drop 1) := by
  cases r with
  | nil => simp [quo]
  | cons d r => simp [quo]
theorem quo_other {a : List Nat} {p c : Nat} {r : List Nat} (h1 : c ≠ 34) (h2 : c ≠ 92) : quo a p (c :: r) = quo (a ++ [c]) (p + 1) r := by
  cases r with
  | nil => simp [quo, h1]
  | cons d r => simp [quo, h1, h2]
theorem rem_esc {d : Int} {p : Nat} {r : List Nat} : rem d p (92 :: r) = rem d (p + 2) (r.drop 1) := by
  cases r with
  | nil => simp [rem]
  | cons e r => simp [rem]
theorem rem_open {d : Int} {p : Nat} {r : List Nat} : rem d p (40 :: r) = rem (d + 1) (p + 1) r := by
  cases r with
  | nil => simp [rem]
  | cons e r => simp [rem]
theorem rem_close {d : Int} {p : Nat} {r : List Nat} : rem d p (41 :: r) = if d - 1 = 0 then some p else rem (d - 1) (p + 1) r := by
  cases r with
  | nil => simp [rem]
  | cons e r => simp [rem]
theorem rem_other {d : Int} {p c : Nat} {r : List Nat} (h1 : c ≠ 92) (h2 : c ≠ 40) (h3 : c ≠ 41) : rem d p (c :: r) = rem d (p + 1) r := by
  cases r with
  | nil => simp [rem, h3]
  | cons e r => simp [rem, h1, h2, h3]
def marks : List Nat := [60, 62, 64, 44, 59, 58, 91, 93]
/-- sort, text, end -/
def wordAt (l : List Nat) (b : Nat) : Option (Str × List Nat × Nat) :=
  match l[b]? with
  | none => none
  | some c => if isAtm c = true then some ("atom", (l.drop b).takeWhile isAtm, atomEnd l b)
    else if c = 34 then (quo [] (b + 1) (l.drop (b + 1))).map fun p => ("quoted", p.1, p.2)
    else if c = 40 then (rem 0 b (l.drop b)).map fun e => ("remark", (l.drop (b + 1)).take (e - (b + 1)), e + 1)
    else if c ∈ marks then some ("mark", [c], b + 1) else none
/-- sort, text, begin, end -/
abbrev Wd := Str × List Nat × Nat × Nat
def cutF (l : List Nat) : Nat → Nat → Option (List Wd)
  | 0, p => if p < l.length then none else some []
  | n + 1, p => match l[p]? with
    | none => some []
    | some c => if c = 32 then cutF l n (p + 1) else match wordAt l p with
      | none => none
      | some (s, t, e) => (cutF l n e).map fun r => (s, t, p, e) :: r
def wdV (x : Wd) : List V := [.str x.1, .str (mk x.2.1), .int (x.2.2.1 : Nat), .int (x.2.2.2 : Nat)]
section
variable {P : Program} {w : World} {K : PySem.W.Frag} {mg : Str → Option Value} {base : Heap}
/-- at b stands a word: its sort, its text, its end; or none does -/
def spWordX (C : Addr) (f : List Nat → Nat → Option (Str × List Nat × Nat)) : Sp := fun vs H Q E => ∃ (z : Str) (b : Nat), vs = [.str z, .int (b : Nat)] ∧ z.length ≤ 10000 ∧ b < z.length ∧
  (∀ s t e, f z.cps.toList b = some (s, t, e) → ∀ H' T, Same H H' → H T = none → H' T = some (.tup (wdV (s, t, b, e))) → Q (.ref T) H') ∧
  (f z.cps.toList b = none → ∀ (d : Addr) H', Same H H' → H d = none → H' d = some (.xd [(("at" : Str), .int (b : Nat))]) → E (.ref C) (some d) H')
def quoAt (l : List Nat) (b : Nat) : Option (Str × List Nat × Nat) := (quo [] (b + 1) (l.drop (b + 1))).map fun p => ("quoted", p.1, p.2)
def remAt (l : List Nat) (b : Nat) : Option (Str × List Nat × Nat) := (rem 0 b (l.drop b)).map fun e => ("remark", (l.drop (b + 1)).take (e - (b + 1)), e + 1)
theorem scQuotedWord : FnScope ["text", "begin", "kept", "place"] ["text", "begin"] (defScope sQuotedWord) := ⟨rfl, rfl, rfl, by decide +kernel, rfl, by decide +kernel, by decide +kernel⟩
theorem x_quoted_word {C : Addr} (M : MkFld P w K mg base "NoWords" C "at") (A : FnAt K mg "_quoted_word" sQuotedWord) (ml : mg "len" = none) : ReadyX P w K mg base 4 "_quoted_word" ["text", "begin"] (spWordX C quoAt) := by
  refine readyX_of A (fun _ _ _ _ _ _ us hl => match us, hl with | [_, _], _ => rfl) fun f fd F => ?_
  refine F.okX scQuotedWord (fun vs H Q E h => ?_) (fun cdv A outer s H vs Q E hr h => ?_)
  · obtain ⟨z, b, rfl, _⟩ := h
    rfl
  · obtain ⟨z, b, rfl, hz, hb, q, qe⟩ := h
    have sc := scQuotedWord
    refine ⟨_, pss_cons (ps_set (i := 2) sc.nd rfl (.inl rfl) (pe_lst pa_nil))
      (pss_cons (ps_set (i := 3) sc.nd rfl (.inl rfl) (pe_op op_add (pv 1) pe_int))
      (pss_cons (ps_while (passes_of rfl) (pt_cmpR op_lt (pv 3) (pe_callB call_len_str (by rfl) ml PySem.boot_len (pa_cons (pv 0) pa_nil)) (nomark _))
        (pss_cons (ps_if (pt_cmpR op_eq (pe_item_str (pv 0) (pv 3) (fun _ _ => rfl)) pe_str (nomark _))
            (pss_one (ps_ret (pe_tup (pa_cons pe_str (pa_cons (pe_join pe_str (pv 2)) (pa_cons (pv 1) (pa_cons (pe_op op_add (pv 3) pe_int) pa_nil))))))) pss_nil)
          (pss_cons (ps_if (pt_cmpR op_eq (pe_item_str (pv 0) (pv 3) (fun _ _ => rfl)) pe_str (nomark _)) (pss_one (ps_aug (i := 3) sc.nd rfl (.inl rfl) pe_int ip_add)) pss_nil)
          (pss_cons (ps_expr (pe_bm PySem.F.plainAttrs_list PySem.F.slot_list_append PySem.F.type_list_append mt_append (pv 2) (pa_cons (pe_slice sl_str (pv 0) (po_some (pv 3)) (po_some (pe_op op_add (pv 3) pe_int))) pa_nil)))
          (pss_one (ps_aug (i := 3) sc.nd rfl (.inl rfl) pe_int ip_add))))))
      (pss_one (ps_raise rfl (takes_of rfl rfl rfl rfl) (pmk_fld M hr (by rfl) (pa_cons pe_str (pa_cons (pv 1) pa_nil)) [] (.inl rfl)))))), ?_⟩
    obtain ⟨R, hq⟩ : ∃ R, quo [] (b + 1) (z.cps.toList.drop (b + 1)) = R := ⟨_, rfl⟩
    refine ⟨Nat.zero_le _, fun kp nk => ?_⟩
    refine ⟨_, rfl, _, _, rfl, rfl, ?_⟩
    refine ⟨fun m σ H' => ∃ (p : Nat) (ys : List Str), σ = [some (.str z), some (.int b), some (.ref kp), some (.int (p : Nat))] ∧ Same H H' ∧ H' kp = some (.lst (ys.map V.str)) ∧ ys.length ≤ p ∧ (∀ y ∈ ys, y.length ≤ 1) ∧ p ≤ z.length + 1 ∧ m = z.length + 1 - p ∧
      quo (ys.map fun y => y.cps.toList).flatten p (z.cps.toList.drop p) = R, ⟨z.length + 1 - (b + 1), b + 1, [], rfl, same_new nk, upd_same, Nat.zero_le _, fun _ h => by simp at h, by omega, rfl, hq⟩, fun m σ H' hW => ?_⟩
    obtain ⟨p, ys, rfl, sm, hk, hy1, hy2, hp, rfl, hQ⟩ := hW
    refine ⟨_, rfl, _, rfl, z, rfl, Nat.le_of_lt (szl hz), _, _, rfl, rfl, _, rfl, ?_⟩
    by_cases h1 : p < z.length
    · rw [decide_eq_true (by omega : (p : Int) < (z.length : Int))]
      obtain ⟨c, hc⟩ : ∃ c, z.cps[p]? = some c := ⟨_, Array.getElem?_eq_getElem (show p < z.cps.size from h1)⟩
      have hd := drop_at (cps_at hc)
      rw [hd] at hQ
      have hcI : z.cps[((p : Nat) : Int).toNat]? = some c := by rw [Int.toNat_natCast]; exact hc
      refine iteT ⟨fun σ' H'' => ∃ (p' : Nat) (ys' : List Str), σ' = [some (.str z), some (.int b), some (.ref kp), some (.int (p' : Nat))] ∧ Same H H'' ∧ H'' kp = some (.lst (ys'.map V.str)) ∧ ys'.length ≤ p' ∧ (∀ y ∈ ys', y.length ≤ 1) ∧ p' ≤ z.length + 1 ∧ p < p' ∧
        quo (ys'.map fun y => y.cps.toList).flatten p' (z.cps.toList.drop p') = R, fun σ' H'' hN => ?_, ?_⟩
      · obtain ⟨p', ys', rfl, a1, a2, a3, a4, a5, a6, a7⟩ := hN
        exact ⟨z.length + 1 - p', by omega, p', ys', rfl, a1, a2, a3, a4, a5, rfl, a7⟩
      · refine ⟨_, rfl, _, rfl, z, p, c, rfl, rfl, by omega, by omega, by omega, hcI, rfl, _, rfl, ?_⟩
        rw [show decide (V.str ⟨#[c]⟩ = V.str ("\"" : Str)) = decide (c = 34) from sign_is rfl]
        refine ite2 (fun h => ?_) (fun h => ?_)
        · -- the closing quote
          have hc34 : c = 34 := of_decide_eq_true h
          subst hc34
          rw [quo_end] at hQ
          have e0 : ("" : Str).length = 0 := by decide +kernel
          have hs := sum_one hy2
          refine ⟨⟨_, rfl⟩, _, rfl, ("" : Str), kp, ys, rfl, rfl, .inl (SqL.of hk), by rw [e0]; omega, _, rfl, _, rfl, _, _, rfl, rfl, (by show 4 ≤ sizeLine; decide), fun T nT => ?_⟩
          refine q (("quoted" : Str)) (ys.map fun y => y.cps.toList).flatten (p + 1) (by unfold quoAt; rw [hq, ← hQ]; rfl) _ T (fun bb x ee => ?_) (Same.free sm nT) ?_
          · rw [upd_ne (ne_of_none (sm _ _ ee) nT)]
            exact sm _ _ ee
          · rw [upd_same]
            have ej : Txt.join ("" : Str) ys = mk (ys.map fun y => y.cps.toList).flatten := mk_eq (join_codes ys)
            rw [ej]
            rfl
        · have hc34 : c ≠ 34 := fun z => h (decide_eq_true z)
          refine ⟨_, rfl, _, rfl, z, p, c, rfl, rfl, by omega, by omega, by omega, hcI, rfl, _, rfl, ?_⟩
          rw [show decide (V.str ⟨#[c]⟩ = V.str ("\\" : Str)) = decide (c = 92) from sign_is rfl]
          have go : ∀ (p' : Nat), p ≤ p' → p' ≤ z.length → quo ((ys.map fun y => y.cps.toList).flatten ++ (z.cps.toList.drop p').take 1) (p' + 1) (z.cps.toList.drop (p' + 1)) = R → ys.length ≤ p' →
              (∃ (p'' : Nat) (ys' : List Str), [some (V.str z), some (.int b), some (.ref kp), some (.int ((p' : Nat) + 1))] = [some (.str z), some (.int b), some (.ref kp), some (.int (p'' : Nat))] ∧ Same H (upd H' kp (.lst (ys.map V.str ++ [V.str (cutS z (some (p' : Nat)) (some ((p' : Nat) + 1)))]))) ∧ (upd H' kp (.lst (ys.map V.str ++ [V.str (cutS z (some (p' : Nat)) (some ((p' : Nat) + 1)))]))) kp = some (.lst (ys'.map V.str)) ∧ ys'.length ≤ p'' ∧ (∀ y ∈ ys', y.length ≤ 1) ∧ p'' ≤ z.length + 1 ∧ p < p'' ∧
                quo (ys'.map fun y => y.cps.toList).flatten p'' (z.cps.toList.drop p'') = R) := fun p' g1 g2 g3 g4 => by
            have cs : (cutS z (some (p' : Nat)) (some ((p' : Nat) + 1))).cps.toList = (z.cps.toList.drop p').take 1 := cutS_one z p'
            refine ⟨p' + 1, ys ++ [cutS z (some (p' : Nat)) (some ((p' : Nat) + 1))], rfl, same_set sm nk, by rw [upd_same, List.map_append]; rfl, by rw [List.length_append, List.length_singleton]; omega, fun y hy => ?_, by omega, by omega, ?_⟩
            · rcases List.mem_append.mp hy with hy | hy
              · exact hy2 y hy
              · rw [List.mem_singleton.mp hy, ← len_cps, cs]
                exact List.length_take_le _ _
            · rw [List.map_append, List.flatten_append]
              show quo (_ ++ [(cutS z (some (p' : Nat)) (some ((p' : Nat) + 1))).cps.toList].flatten) _ _ = _
              rw [cs]
              show quo (_ ++ ((z.cps.toList.drop p').take 1 ++ [])) _ _ = _
              rw [List.append_nil]
              exact g3
          refine ite2 (fun h => ?_) (fun h => ?_)
          · have hc92 : c = 92 := of_decide_eq_true h
            subst hc92
            rw [quo_esc, List.drop_drop] at hQ
            refine ⟨_, rfl, _, _, rfl, rfl, ?_⟩
            refine ⟨_, rfl, .inl ⟨rfl, _, SqL.of hk⟩, _, rfl, _, rfl, _, rfl, _, rfl, _, _, rfl, rfl, _, rfl, z, rfl, Nat.le_of_lt (szl hz), kp, _, _, rfl, rfl, hk, ?_, ?_⟩
            · rw [List.length_map]
              exact szl (by omega)
            · refine ⟨_, rfl, _, _, rfl, rfl, ?_⟩
              exact go (p + 1) (by omega) (by omega) hQ (by omega)
          · have hc92 : c ≠ 92 := fun z => h (decide_eq_true z)
            rw [quo_other hc34 hc92] at hQ
            refine ⟨_, rfl, .inl ⟨rfl, _, SqL.of hk⟩, _, rfl, _, rfl, _, rfl, _, rfl, _, _, rfl, rfl, _, rfl, z, rfl, Nat.le_of_lt (szl hz), kp, _, _, rfl, rfl, hk, ?_, ?_⟩
            · rw [List.length_map]
              exact szl (by omega)
            · refine ⟨_, rfl, _, _, rfl, rfl, ?_⟩
              exact go p (by omega) (by omega) (by rw [hd]; exact hQ) hy1
    · rw [decide_eq_false (by omega : ¬ (p : Int) < (z.length : Int))]
      refine iteF ?_
      rw [List.drop_eq_nil_of_le (by rw [len_cps]; omega), quo_nil] at hQ
      have hn : quoAt z.cps.toList b = none := by
        unfold quoAt
        rw [hq, ← hQ]
        rfl
      exact ⟨_, rfl, mk_leaf rfl (Nat.le_refl _) fun d H9 s9 n9 h9 => qe hn d H9 (sm.trans s9) (Same.free sm n9) h9⟩
end
end FL

namespace FL
open PySem PySem.Spec PyProof.Rows L2
section
variable {P : Program} {w : World} {K : PySem.W.Frag} {mg : Str → Option Value} {base : Heap}
theorem scRemark : FnScope ["text", "begin", "depth", "place"] ["text", "begin"] (defScope sRemark) := ⟨rfl, rfl, rfl, by decide +kernel, rfl, by decide +kernel, by decide +kernel⟩
theorem x_remark {C : Addr} (M : MkFld P w K mg base "NoWords" C "at") (A : FnAt K mg "_remark" sRemark) (ml : mg "len" = none) : ReadyX P w K mg base 4 "_remark" ["text", "begin"] (spWordX C remAt) := by
  refine readyX_of A (fun _ _ _ _ _ _ us hl => match us, hl with | [_, _], _ => rfl) fun f fd F => ?_
  refine F.okX scRemark (fun vs H Q E h => ?_) (fun cdv A outer s H vs Q E hr h => ?_)
  · obtain ⟨z, b, rfl, _⟩ := h
    rfl
  · obtain ⟨z, b, rfl, hz, hb, q, qe⟩ := h
    have sc := scRemark
    refine ⟨_, pss_cons (ps_set (i := 2) sc.nd rfl (.inl rfl) pe_int)
      (pss_cons (ps_set (i := 3) sc.nd rfl (.inl rfl) (pv 1))
      (pss_cons (ps_while (passes_of rfl) (pt_cmpR op_lt (pv 3) (pe_callB call_len_str (by rfl) ml PySem.boot_len (pa_cons (pv 0) pa_nil)) (nomark _))
        (pss_cons (ps_if (pt_cmpR op_eq (pe_item_str (pv 0) (pv 3) (fun _ _ => rfl)) pe_str (nomark _)) (pss_one (ps_aug (i := 3) sc.nd rfl (.inl rfl) pe_int ip_add))
            (pss_one (ps_if (pt_cmpR op_eq (pe_item_str (pv 0) (pv 3) (fun _ _ => rfl)) pe_str (nomark _)) (pss_one (ps_aug (i := 2) sc.nd rfl (.inl rfl) pe_int ip_add))
              (pss_one (ps_if (pt_cmpR op_eq (pe_item_str (pv 0) (pv 3) (fun _ _ => rfl)) pe_str (nomark _)) (pss_cons (ps_aug (i := 2) sc.nd rfl (.inl rfl) pe_int ip_sub)
                (pss_one (ps_if (pt_cmpR op_eq (pv 2) pe_int (nomark _)) (pss_one (ps_ret (pe_tup (pa_cons pe_str (pa_cons (pe_slice sl_str (pv 0) (po_some (pe_op op_add (pv 1) pe_int)) (po_some (pv 3))) (pa_cons (pv 1) (pa_cons (pe_op op_add (pv 3) pe_int) pa_nil))))))) pss_nil))) pss_nil)))))
          (pss_one (ps_aug (i := 3) sc.nd rfl (.inl rfl) pe_int ip_add))))
      (pss_one (ps_raise rfl (takes_of rfl rfl rfl rfl) (pmk_fld M hr (by rfl) (pa_cons pe_str (pa_cons (pv 1) pa_nil)) [] (.inl rfl)))))), ?_⟩
    obtain ⟨R, hq⟩ : ∃ R, rem 0 b (z.cps.toList.drop b) = R := ⟨_, rfl⟩
    refine ⟨_, rfl, ?_⟩
    refine ⟨fun m σ H' => ∃ (p : Nat) (d : Int), σ = [some (.str z), some (.int b), some (.int d), some (.int (p : Nat))] ∧ H' = H ∧ p ≤ z.length + 1 ∧ m = z.length + 1 - p ∧
      rem d p (z.cps.toList.drop p) = R, ⟨z.length + 1 - b, b, 0, rfl, rfl, by omega, rfl, hq⟩, fun m σ H' hW => ?_⟩
    obtain ⟨p, d, rfl, rfl, hp, rfl, hQ⟩ := hW
    refine ⟨_, rfl, _, rfl, z, rfl, Nat.le_of_lt (szl hz), _, _, rfl, rfl, _, rfl, ?_⟩
    by_cases h1 : p < z.length
    · rw [decide_eq_true (by omega : (p : Int) < (z.length : Int))]
      obtain ⟨c, hc⟩ : ∃ c, z.cps[p]? = some c := ⟨_, Array.getElem?_eq_getElem (show p < z.cps.size from h1)⟩
      have hd := drop_at (cps_at hc)
      rw [hd] at hQ
      have hcI : z.cps[((p : Nat) : Int).toNat]? = some c := by rw [Int.toNat_natCast]; exact hc
      refine iteT ⟨fun σ' H'' => ∃ (p' : Nat) (d' : Int), σ' = [some (.str z), some (.int b), some (.int d'), some (.int (p' : Nat))] ∧ H'' = H' ∧ p' ≤ z.length + 1 ∧ p < p' ∧
        rem d' p' (z.cps.toList.drop p') = R, fun σ' H'' hN => ?_, ?_⟩
      · obtain ⟨p', d', rfl, rfl, a5, a6, a7⟩ := hN
        exact ⟨z.length + 1 - p', by omega, p', d', rfl, rfl, a5, rfl, a7⟩
      · refine ⟨_, rfl, _, rfl, z, p, c, rfl, rfl, by omega, by omega, by omega, hcI, rfl, _, rfl, ?_⟩
        rw [show decide (V.str ⟨#[c]⟩ = V.str ("\\" : Str)) = decide (c = 92) from sign_is rfl]
        refine ite2 (fun h => ?_) (fun h => ?_)
        · have hc92 : c = 92 := of_decide_eq_true h
          subst hc92
          rw [rem_esc, List.drop_drop] at hQ
          refine ⟨_, rfl, _, _, rfl, rfl, ?_⟩
          refine ⟨_, rfl, _, _, rfl, rfl, ?_⟩
          exact ⟨p + 2, d, by congr 4, rfl, by omega, by omega, hQ⟩
        · have hc92 : c ≠ 92 := fun z => h (decide_eq_true z)
          refine ⟨_, rfl, _, rfl, z, p, c, rfl, rfl, by omega, by omega, by omega, hcI, rfl, _, rfl, ?_⟩
          rw [show decide (V.str ⟨#[c]⟩ = V.str ("(" : Str)) = decide (c = 40) from sign_is rfl]
          refine ite2 (fun h => ?_) (fun h => ?_)
          · have hc40 : c = 40 := of_decide_eq_true h
            subst hc40
            rw [rem_open] at hQ
            refine ⟨_, rfl, _, _, rfl, rfl, ?_⟩
            refine ⟨_, rfl, _, _, rfl, rfl, ?_⟩
            exact ⟨p + 1, d + 1, rfl, rfl, by omega, by omega, hQ⟩
          · have hc40 : c ≠ 40 := fun z => h (decide_eq_true z)
            refine ⟨_, rfl, _, rfl, z, p, c, rfl, rfl, by omega, by omega, by omega, hcI, rfl, _, rfl, ?_⟩
            rw [show decide (V.str ⟨#[c]⟩ = V.str (")" : Str)) = decide (c = 41) from sign_is rfl]
            refine ite2 (fun h => ?_) (fun h => ?_)
            · have hc41 : c = 41 := of_decide_eq_true h
              subst hc41
              rw [rem_close] at hQ
              refine ⟨_, rfl, _, _, rfl, rfl, ?_⟩
              refine ⟨_, rfl, rfl, _, rfl, ite2 (fun h => ?_) (fun h => ?_)⟩
              · have hd0 : d - 1 = 0 := V.int.inj (of_decide_eq_true h)
                rw [if_pos hd0] at hQ
                refine ⟨_, rfl, _, rfl, _, _, rfl, rfl, _, rfl, _, rfl, _, rfl, z, rfl, Nat.le_of_lt (szl hz), _, rfl, _, rfl, _, _, rfl, rfl, (by show 4 ≤ sizeLine; decide), fun T nT => ?_⟩
                refine q ("remark" : Str) ((z.cps.toList.drop (b + 1)).take (p - (b + 1))) (p + 1) (by unfold remAt; rw [hq, ← hQ]; rfl) _ T (same_new nT) nT ?_
                rw [upd_same]
                have ec : cutS z (some ((b : Nat) + 1 : Int)) (some (p : Nat)) = mk ((z.cps.toList.drop (b + 1)).take (p - (b + 1))) := mk_eq (cutS_nat z (i := b + 1) (by omega) (by omega))
                rw [ec]
                rfl
              · have hd0 : ¬ d - 1 = 0 := fun z => h (decide_eq_true (congrArg V.int z))
                rw [if_neg hd0] at hQ
                refine ⟨_, rfl, _, _, rfl, rfl, ?_⟩
                exact ⟨p + 1, d - 1, rfl, rfl, by omega, by omega, hQ⟩
            · have hc41 : c ≠ 41 := fun z => h (decide_eq_true z)
              rw [rem_other hc92 hc40 hc41] at hQ
              refine ⟨_, rfl, _, _, rfl, rfl, ?_⟩
              exact ⟨p + 1, d, rfl, rfl, by omega, by omega, hQ⟩
    · rw [decide_eq_false (by omega : ¬ (p : Int) < (z.length : Int))]
      refine iteF ?_
      rw [List.drop_eq_nil_of_le (by rw [len_cps]; omega), rem_nil] at hQ
      have hn : remAt z.cps.toList b = none := by
        unfold remAt
        rw [hq, ← hQ]
        rfl
      exact ⟨_, rfl, mk_leaf rfl (Nat.le_refl _) fun d H9 s9 n9 h9 => qe hn d H9 s9 n9 h9⟩
def marksText : Str := "<>@,;:[]"
theorem marksText_codes : marksText.cps.toList = marks := by decide +kernel
theorem scWordAt : FnScope ["text", "begin", "sign", "end"] ["text", "begin"] (defScope sWordAt) := ⟨rfl, rfl, rfl, by decide +kernel, rfl, by decide +kernel, by decide +kernel⟩
theorem x_word_at {C : Addr} (M : MkFld P w K mg base "NoWords" C "at") (A : FnAt K mg "_word_at" sWordAt) (RA : Ready P w K mg base 2 "_is_atom_sign" ["sign"] (spSign isAtm)) (RE : Ready P w K mg base 3 "_atom_end" ["text", "begin"] spAtomEnd)
    (RQ : ReadyX P w K mg base 4 "_quoted_word" ["text", "begin"] (spWordX C quoAt)) (RR : ReadyX P w K mg base 4 "_remark" ["text", "begin"] (spWordX C remAt)) {tp : Tok} (mp : mg "MARKS" = some (.str marksText tp)) :
    ReadyX P w K mg base 5 "_word_at" ["text", "begin"] (spWordX C wordAt) := by
  obtain ⟨f1, fd1, g1, k1, b1, G1⟩ := RA
  obtain ⟨f2, fd2, g2, k2, b2, G2⟩ := RE
  obtain ⟨f3, fd3, g3, k3, b3, G3⟩ := RQ
  obtain ⟨f4, fd4, g4, k4, b4, G4⟩ := RR
  refine readyX_of A (fun _ _ _ _ _ _ us hl => match us, hl with | [_, _], _ => rfl) fun f fd F => ?_
  refine F.okX scWordAt (fun vs H Q E h => ?_) (fun cdv A outer s H vs Q E hr h => ?_)
  · obtain ⟨z, b, rfl, _⟩ := h
    rfl
  · obtain ⟨z, b, rfl, hz, hb, q, qe⟩ := h
    have sc := scWordAt
    refine ⟨_, pss_cons (ps_set (i := 2) sc.nd rfl (.inl rfl) (pe_item_str (pv 0) (pv 1) (fun _ _ => rfl)))
      (pss_cons (ps_if (pt_val (pe_call G1 (hr.mono (by decide)) (by rfl) g1 k1 b1 .nil pass0 (pa_cons (pv 2) pa_nil)))
        (pss_cons (ps_set (i := 3) sc.nd rfl (.inl rfl) (pe_call G2 (hr.mono (by decide)) (by rfl) g2 k2 b2 .nil pass0 (pa_cons (pv 0) (pa_cons (pv 1) pa_nil))))
          (pss_one (ps_ret (pe_tup (pa_cons pe_str (pa_cons (pe_slice sl_str (pv 0) (po_some (pv 1)) (po_some (pv 3))) (pa_cons (pv 1) (pa_cons (pv 3) pa_nil)))))))) pss_nil)
      (pss_cons (ps_if (pt_cmpR op_eq (pv 2) pe_str (nomark _)) (pss_one (ps_ret (pe_call G3 hr (by rfl) g3 k3 b3 .nil (E := E) (passes_call (takes_of rfl rfl rfl rfl) (fun _ _ _ _ h => h)) (pa_cons (pv 0) (pa_cons (pv 1) pa_nil))))) pss_nil)
      (pss_cons (ps_if (pt_cmpR op_eq (pv 2) pe_str (nomark _)) (pss_one (ps_ret (pe_call G4 hr (by rfl) g4 k4 b4 .nil (E := E) (passes_call (takes_of rfl rfl rfl rfl) (fun _ _ _ _ h => h)) (pa_cons (pv 0) (pa_cons (pv 1) pa_nil))))) pss_nil)
      (pss_cons (ps_if (pt_cmpR op_in_sign (pv 2) (pe_glob (v := .str marksText) rfl mp ⟨tp, rfl⟩) (by rfl)) (pss_one (ps_ret (pe_tup (pa_cons pe_str (pa_cons (pv 2) (pa_cons (pv 1) (pa_cons (pe_op op_add (pv 1) pe_int) pa_nil))))))) pss_nil)
      (pss_one (ps_raise rfl (takes_of rfl rfl rfl rfl) (pmk_fld M (hr.mono (by decide)) (by rfl) (pa_cons pe_str (pa_cons (pv 1) pa_nil)) [] (.inl rfl)))))))), ?_⟩
    obtain ⟨c, hc⟩ : ∃ c, z.cps[b]? = some c := ⟨_, Array.getElem?_eq_getElem (show b < z.cps.size from hb)⟩
    have hcI : z.cps[((b : Nat) : Int).toNat]? = some c := by rw [Int.toNat_natCast]; exact hc
    have hl := cps_at hc
    obtain ⟨R, hw⟩ : ∃ R, wordAt z.cps.toList b = R := ⟨_, rfl⟩
    have hw0 := hw
    unfold wordAt at hw
    rw [hl] at hw
    dsimp only at hw
    refine ⟨_, rfl, _, rfl, z, b, c, rfl, rfl, by omega, by omega, by omega, hcI, ?_⟩
    refine ⟨_, rfl, c, rfl, _, rfl, ?_⟩
    cases ha : isAtm c with
    | true =>
      rw [if_pos ha] at hw
      rw [← hw] at hw0
      refine iteT ⟨_, rfl, _, rfl, z, b, rfl, hz, Nat.le_of_lt hb, ?_⟩
      refine ⟨_, rfl, _, rfl, _, rfl, _, rfl, _, rfl, z, rfl, Nat.le_of_lt (szl hz), _, rfl, _, rfl, (by show 4 ≤ sizeLine; decide), fun T nT => ?_⟩
      refine q _ _ _ hw0 _ T (same_new nT) nT ?_
      rw [upd_same]
      have hle := atomEnd_le (l := z.cps.toList) (b := b) (by rw [len_cps]; omega)
      rw [len_cps] at hle
      have ec : cutS z (some (b : Nat)) (some (atomEnd z.cps.toList b : Nat)) = mk ((z.cps.toList.drop b).takeWhile isAtm) := mk_eq (by
        rw [cutS_nat z (by omega) hle]
        unfold atomEnd
        rw [Nat.add_sub_cancel_left]
        exact (List.prefix_iff_eq_take.mp (List.takeWhile_prefix isAtm)).symm)
      rw [ec]
      rfl
    | false =>
      rw [if_neg (by rw [ha]; exact Bool.false_ne_true)] at hw
      refine iteF ?_
      refine ⟨_, rfl, rfl, _, rfl, ?_⟩
      rw [show decide (V.str ⟨#[c]⟩ = V.str ("\"" : Str)) = decide (c = 34) from sign_is rfl]
      refine ite2 (fun h => ?_) (fun h => ?_)
      · rw [if_pos (of_decide_eq_true h)] at hw
        rw [← hw] at hw0
        exact ⟨_, rfl, _, rfl, z, b, rfl, hz, hb, fun s t e he => q s t e (hw0.trans he), fun he => qe (hw0.trans he)⟩
      · rw [if_neg (fun z => h (decide_eq_true z))] at hw
        refine ⟨_, rfl, rfl, _, rfl, ?_⟩
        rw [show decide (V.str ⟨#[c]⟩ = V.str ("(" : Str)) = decide (c = 40) from sign_is rfl]
        refine ite2 (fun h => ?_) (fun h => ?_)
        · rw [if_pos (of_decide_eq_true h)] at hw
          rw [← hw] at hw0
          exact ⟨_, rfl, _, rfl, z, b, rfl, hz, hb, fun s t e he => q s t e (hw0.trans he), fun he => qe (hw0.trans he)⟩
        · rw [if_neg (fun z => h (decide_eq_true z))] at hw
          refine ⟨_, rfl, c, marksText, rfl, rfl, _, rfl, ?_⟩
          rw [marksText_codes]
          refine ite2 (fun h => ?_) (fun h => ?_)
          · rw [if_pos (of_decide_eq_true h)] at hw
            rw [← hw] at hw0
            refine ⟨_, rfl, _, rfl, _, rfl, _, _, rfl, rfl, (by show 4 ≤ sizeLine; decide), fun T nT => ?_⟩
            refine q _ _ _ hw0 _ T (same_new nT) nT ?_
            rw [upd_same]
            rfl
          · rw [if_neg (fun z => h (decide_eq_true z))] at hw
            rw [← hw] at hw0
            exact ⟨_, rfl, mk_leaf rfl (Nat.le_refl _) fun d H9 s9 n9 h9 => qe hw0 d H9 s9 n9 h9⟩
end
end FL

namespace FL
open PySem PySem.Spec PyProof.Rows L2
section
variable {P : Program} {w : World} {K : PySem.W.Frag} {mg : Str → Option Value} {base : Heap}
def TupsAt (H0 H : Hp) (Ts : List Addr) (ws : List Wd) : Prop := Paired (fun T x => H0 T = none ∧ H T = some (.tup (wdV x))) Ts ws
theorem TupsAt.same {H0 H H' : Hp} {Ts : List Addr} {ws : List Wd} (h : TupsAt H0 H Ts ws) (k : ∀ T x, T ∈ Ts → H T = some (.tup (wdV x)) → H' T = some (.tup (wdV x))) : TupsAt H0 H' Ts ws := by
  unfold TupsAt at h ⊢
  induction h with
  | nil => exact .nil
  | cons a b ih => exact .cons ⟨a.1, k _ _ (List.mem_cons_self ..) a.2⟩ (ih fun T x hT => k T x (List.mem_cons_of_mem _ hT))
/-- the words from a place on, or the place of what can't be cut -/
def cutR (l : List Nat) : Nat → Nat → Option (Except Nat (List Wd))
  | 0, p => if p < l.length then none else some (.ok [])
  | n + 1, p => match l[p]? with
    | none => some (.ok [])
    | some c => if c = 32 then cutR l n (p + 1) else match wordAt l p with
      | none => some (.error p)
      | some (s, t, e) => (cutR l n e).map fun r => match r with
        | .ok ws => .ok ((s, t, p, e) :: ws)
        | .error q => .error q
def glue (dn : List Wd) : Except Nat (List Wd) → Except Nat (List Wd)
  | .ok ws => .ok (dn ++ ws)
  | .error q => .error q
theorem quo_lt : ∀ (r acc : List Nat) (p : Nat) (t : List Nat) (e : Nat), quo acc p r = some (t, e) → p < e
  | [], _, _, _, _, h => by simp [quo] at h
  | [c], acc, p, t, e, h => by
    by_cases hc : c = 34
    · subst hc
      rw [quo_end] at h
      injection h with h
      injection h with _ h
      omega
    · simp [quo, hc] at h
  | c :: d :: r, acc, p, t, e, h => by
    by_cases hc : c = 34
    · subst hc
      rw [quo_end] at h
      injection h with h
      injection h with _ h
      omega
    · by_cases h9 : c = 92
      · subst h9
        rw [quo_esc] at h
        have := quo_lt r (acc ++ [d]) (p + 2) t e h
        omega
      · rw [quo_other hc h9] at h
        have := quo_lt (d :: r) (acc ++ [c]) (p + 1) t e h
        omega
theorem rem_lt : ∀ (r : List Nat) (d : Int) (p e : Nat), rem d p r = some e → p ≤ e
  | [], _, _, _, h => by simp [rem] at h
  | [c], d, p, e, h => by
    by_cases hc : c = 41
    · subst hc
      rw [rem_close] at h
      by_cases hd : d - 1 = 0
      · rw [if_pos hd] at h
        injection h with h
        omega
      · rw [if_neg hd, rem_nil] at h
        cases h
    · simp [rem, hc] at h
  | c :: x :: r, d, p, e, h => by
    by_cases h1 : c = 92
    · subst h1
      rw [rem_esc] at h
      have := rem_lt r d (p + 2) e h
      omega
    · by_cases h2 : c = 40
      · subst h2
        rw [rem_open] at h
        have := rem_lt (x :: r) (d + 1) (p + 1) e h
        omega
      · by_cases h3 : c = 41
        · subst h3
          rw [rem_close] at h
          by_cases hd : d - 1 = 0
          · rw [if_pos hd] at h
            injection h with h
            omega
          · rw [if_neg hd] at h
            have := rem_lt (x :: r) (d - 1) (p + 1) e h
            omega
        · rw [rem_other h1 h2 h3] at h
          have := rem_lt (x :: r) d (p + 1) e h
          omega
theorem wordAt_lt {l t : List Nat} {p e : Nat} {s : Str} (h : wordAt l p = some (s, t, e)) : p < e := by
  unfold wordAt at h
  cases hc : l[p]? with
  | none => rw [hc] at h; cases h
  | some c =>
    rw [hc] at h
    dsimp only at h
    by_cases ha : isAtm c = true
    · rw [if_pos ha] at h
      injection h with h
      injection h with _ h
      injection h with _ h
      have hb : p < l.length := (List.getElem?_eq_some_iff.mp hc).1
      have e1 : l[p] = c := (List.getElem?_eq_some_iff.mp hc).2
      have : atomEnd l p = p + ((l.drop (p + 1)).takeWhile isAtm).length + 1 := by
        unfold atomEnd
        rw [List.drop_eq_getElem_cons hb, e1, List.takeWhile_cons, ha]
        simp
        omega
      omega
    · rw [if_neg ha] at h
      by_cases h1 : c = 34
      · rw [if_pos h1] at h
        obtain ⟨⟨t', e'⟩, hq, heq⟩ := Option.map_eq_some_iff.mp h
        injection heq with _ heq
        injection heq with _ heq
        have := quo_lt _ _ _ _ _ hq
        dsimp only at heq
        omega
      · rw [if_neg h1] at h
        by_cases h2 : c = 40
        · rw [if_pos h2] at h
          obtain ⟨e', hq, heq⟩ := Option.map_eq_some_iff.mp h
          injection heq with _ heq
          injection heq with _ heq
          have := rem_lt _ _ _ _ hq
          omega
        · rw [if_neg h2] at h
          by_cases h3 : c ∈ marks
          · rw [if_pos h3] at h
            injection h with h
            injection h with _ h
            injection h with _ h
            omega
          · rw [if_neg h3] at h
            cases h
def spWordsX (K : PySem.W.Frag) (C : Addr) : Sp := fun vs H Q E => ∃ v : V, vs = [v] ∧
  ((∃ (z : Str) (n : Nat) (r : Except Nat (List Wd)), v = .str z ∧ z.length ≤ 10000 ∧ isLn z.cps.toList = true ∧ cutR z.cps.toList n 0 = some r ∧
      (∀ ws, r = .ok ws → ∀ H' D Ts, Same H H' → H D = none → H' D = some (.lst (Ts.map V.ref)) → TupsAt H H' Ts ws → Q (.ref D) H') ∧ ∀ p : Nat, r = .error p → Fails C "at" (p : Nat) H E) ∨
    (NoLine K H v ∧ Fails C "at" 0 H E))
theorem scWords : FnScope ["text", "cut", "place", "word"] ["text"] (defScope sWords) := ⟨rfl, rfl, rfl, by decide +kernel, rfl, by decide +kernel, by decide +kernel⟩
theorem x_words {C : Addr} (M : MkFld P w K mg base "NoWords" C "at") (A : FnAt K mg "words" sWords) (RL : Ready P w K mg base 3 "is_line" ["value"] (spLine K isLn)) (RW : ReadyX P w K mg base 5 "_word_at" ["text", "begin"] (spWordX C wordAt)) (ml : mg "len" = none) :
    ReadyX P w K mg base 6 "words" ["text"] (spWordsX K C) := by
  obtain ⟨f1, fd1, g1, k1, b1, G1⟩ := RL
  obtain ⟨f2, fd2, g2, k2, b2, G2⟩ := RW
  refine readyX_of A (fun _ _ _ _ _ _ us hl => match us, hl with | [_], _ => rfl) fun f fd F => ?_
  refine F.okX scWords (fun vs H Q E h => ?_) (fun cdv A outer s H vs Q E hr h => ?_)
  · obtain ⟨v, rfl, _⟩ := h
    rfl
  · obtain ⟨v, rfl, h⟩ := h
    have sc := scWords
    refine ⟨_, pss_cons (ps_if (pt_not (pt_val (pe_call G1 (hr.mono (by decide)) (by rfl) g1 k1 b1 .nil pass0 (pa_cons (pv 0) pa_nil)))) (pss_one (ps_raise rfl (takes_of rfl rfl rfl rfl) (pmk_fld M (hr.mono (by decide)) (by rfl) (pa_cons pe_str pa_nil) [.int 0] (.inr rfl)))) pss_nil)
      (pss_cons (ps_set (i := 1) sc.nd rfl (.inl rfl) (pe_lst pa_nil))
      (pss_cons (ps_set (i := 2) sc.nd rfl (.inl rfl) pe_int)
      (pss_cons (ps_while (passes_of rfl) (pt_cmpR op_lt (pv 2) (pe_callB call_len_str (by rfl) ml PySem.boot_len (pa_cons (pv 0) pa_nil)) (nomark _))
        (pss_one (ps_if (pt_cmpR op_eq (pe_item_str (pv 0) (pv 2) (fun _ _ => rfl)) pe_str (nomark _)) (pss_one (ps_aug (i := 2) sc.nd rfl (.inl rfl) pe_int ip_add))
          (pss_cons (ps_set (i := 3) sc.nd rfl (.inl rfl) (pe_call G2 hr (by rfl) g2 k2 b2 .nil (E := E) (passes_call (takes_of rfl rfl rfl rfl) (fun _ _ _ _ h => h)) (pa_cons (pv 0) (pa_cons (pv 2) pa_nil))))
          (pss_cons (ps_expr (pe_bm PySem.F.plainAttrs_list PySem.F.slot_list_append PySem.F.type_list_append mt_append (pv 1) (pa_cons (pv 3) pa_nil)))
          (pss_one (ps_set (i := 2) sc.nd rfl (.inl rfl) (pe_ix ix_tup (pv 3) pe_int (fun _ _ => rfl)))))))))
      (pss_one (ps_ret (pv 1)))))), ?_⟩
    rcases h with ⟨z, n, r, rfl, hz, hl, hw, q, qe⟩ | ⟨hno, qe⟩
    · refine ⟨_, rfl, _, rfl, .inl ⟨z, rfl, hz, fun H0 s0 => ⟨_, rfl, ?_⟩⟩⟩
      rw [hl]
      refine iteF ?_
      refine ⟨Nat.zero_le _, fun D nD0 => ?_⟩
      have nD : H D = none := Same.free s0 nD0
      refine ⟨fun m σ H' => ∃ (n p : Nat) (Ts : List Addr) (dn : List Wd) (r' : Except Nat (List Wd)) (y3 : Option V), σ = [some (.str z), some (.ref D), some (.int (p : Nat)), y3] ∧ Same H H' ∧ H' D = some (.lst (Ts.map V.ref)) ∧ TupsAt H H' Ts dn ∧ cutR z.cps.toList n p = some r' ∧ r = glue dn r' ∧ dn.length ≤ p ∧ m = n,
        ⟨n, n, 0, [], [], r, none, rfl, same_set s0 nD, upd_same, .nil, hw, by cases r <;> rfl, Nat.le_refl _, rfl⟩, fun m σ H' hW => ?_⟩
      obtain ⟨n', p, Ts, dn, r', y3, rfl, sm, hD, hT, hC, hws', hdn, rfl⟩ := hW
      refine ⟨_, rfl, _, rfl, z, rfl, Nat.le_of_lt (szl hz), _, _, rfl, rfl, _, rfl, ?_⟩
      by_cases h1 : p < z.length
      · rw [decide_eq_true (by omega : (p : Int) < (z.length : Int))]
        obtain ⟨c, hc⟩ : ∃ c, z.cps[p]? = some c := ⟨_, Array.getElem?_eq_getElem (show p < z.cps.size from h1)⟩
        have hcI : z.cps[((p : Nat) : Int).toNat]? = some c := by rw [Int.toNat_natCast]; exact hc
        cases m with
        | zero =>
          exfalso
          unfold cutR at hC
          rw [if_pos (by rw [len_cps]; exact h1)] at hC
          cases hC
        | succ n' =>
          unfold cutR at hC
          rw [cps_at hc] at hC
          dsimp only at hC
          refine iteT ⟨fun σ' H'' => ∃ (p : Nat) (Ts : List Addr) (dn : List Wd) (r' : Except Nat (List Wd)) (y3 : Option V), σ' = [some (.str z), some (.ref D), some (.int (p : Nat)), y3] ∧ Same H H'' ∧ H'' D = some (.lst (Ts.map V.ref)) ∧ TupsAt H H'' Ts dn ∧ cutR z.cps.toList n' p = some r' ∧ r = glue dn r' ∧ dn.length ≤ p, fun σ' H'' hN => ?_, ?_⟩
          · obtain ⟨p, Ts, dn, rest, y3, a1, a2, a3, a4, a5, a6, a7⟩ := hN
            exact ⟨n', Nat.lt_succ_self _, n', p, Ts, dn, rest, y3, a1, a2, a3, a4, a5, a6, a7, rfl⟩
          · refine ⟨_, rfl, _, rfl, z, p, c, rfl, rfl, by omega, by omega, by omega, hcI, rfl, _, rfl, ?_⟩
            rw [show decide (V.str ⟨#[c]⟩ = V.str (" " : Str)) = decide (c = 32) from sign_is rfl]
            refine ite2 (fun h => ?_) (fun h => ?_)
            · rw [if_pos (of_decide_eq_true h)] at hC
              refine ⟨_, rfl, _, _, rfl, rfl, ?_⟩
              exact ⟨p + 1, Ts, dn, r', y3, rfl, sm, hD, hT, hC, hws', by omega⟩
            · rw [if_neg (fun z => h (decide_eq_true z))] at hC
              refine ⟨_, rfl, _, rfl, z, p, rfl, hz, h1, fun so t e hwd H2 T s2 nT hT2 => ?_, fun hwd => ?_⟩
              · rw [hwd] at hC
                obtain ⟨r2, hr1, hr2⟩ := Option.map_eq_some_iff.mp hC
                have nT0 : H T = none := Same.free sm nT
                have hD2 : H2 D = some (.lst (Ts.map V.ref)) := s2 _ _ hD
                have hDT : D ≠ T := ne_of_none hD nT
                have hlen : dn.length = Ts.length := (Paired.length hT).symm
                have hlt := wordAt_lt hwd
                refine ⟨_, rfl, .inl ⟨rfl, _, SqL.of hD2⟩, _, rfl, D, _, _, rfl, rfl, hD2, ?_, ?_⟩
                · rw [List.length_map]
                  exact szl (by omega)
                · have hT3 : (upd H2 D (.lst (Ts.map V.ref ++ [V.ref T]))) T = some (.tup (wdV (so, t, p, e))) := by rw [upd_ne hDT.symm]; exact hT2
                  refine ⟨_, rfl, T, _, _, .int (e : Nat), rfl, rfl, SqT.of hT3, rfl, ?_⟩
                  refine ⟨e, Ts ++ [T], dn ++ [(so, t, p, e)], r2, _, rfl, same_set (sm.trans s2) nD, ?_, ?_, hr1, ?_, by rw [List.length_append, List.length_singleton]; omega⟩
                  · rw [upd_same, List.map_append]
                    rfl
                  · refine Paired.snoc (TupsAt.same hT fun T' x _ hx => ?_) ⟨nT0, hT3⟩
                    have hne : T' ≠ D := fun e => by
                      rw [e, hD] at hx
                      cases hx
                    rw [upd_ne hne]
                    exact s2 _ _ hx
                  · rw [hws', ← hr2]
                    cases r2 with
                    | ok ws => show Except.ok (dn ++ _) = Except.ok ((dn ++ _) ++ _); rw [List.append_assoc]; rfl
                    | error q => rfl
              · rw [hwd] at hC
                injection hC with hC
                rw [← hC] at hws'
                exact fun d H9 s9 n9 h9 => qe p hws' d H9 (sm.trans s9) (Same.free sm n9) h9
      · rw [decide_eq_false (by omega : ¬ (p : Int) < (z.length : Int))]
        refine iteF ⟨_, rfl, ?_⟩
        have hr0 : r' = .ok [] := by
          cases m with
          | zero =>
            unfold cutR at hC
            rw [if_neg (by rw [len_cps]; exact h1)] at hC
            injection hC with hC
            exact hC.symm
          | succ n' =>
            unfold cutR at hC
            rw [List.getElem?_eq_none (by rw [len_cps]; omega)] at hC
            injection hC with hC
            exact hC.symm
        rw [hr0] at hws'
        have hws2 : r = .ok dn := by
          rw [hws']
          show Except.ok (dn ++ []) = _
          rw [List.append_nil]
        exact q dn hws2 H' D Ts sm nD hD hT
    · rcases hno with ⟨z, rfl, hz, hl⟩ | ⟨t, ht, hk⟩
      · refine ⟨_, rfl, _, rfl, .inl ⟨z, rfl, hz, fun H0 s0 => ⟨_, rfl, ?_⟩⟩⟩
        rw [hl]
        exact iteT (mk_leaf rfl (by decide) (Fails.later qe s0))
      · exact ⟨_, rfl, _, rfl, .inr ⟨t, ht, hk, ⟨_, rfl, iteT (mk_leaf rfl (by decide) qe)⟩⟩⟩
/-! ### quoted -/
def esc (l : List Nat) : List Nat := l.flatMap fun c => if c = 92 ∨ c = 34 then [92, c] else [c]
def quotedL (l : List Nat) : List Nat := if l ≠ [] ∧ atomEnd l 0 = l.length then l else 34 :: (esc l ++ [34])
def spQuotedX (K : PySem.W.Frag) (C : Addr) : Sp := fun vs H Q E => ∃ v : V, vs = [v] ∧
  ((∃ z : Str, v = .str z ∧ z.length ≤ 1000 ∧ isLn z.cps.toList = true ∧ ∀ H', Same H H' → Q (.str (mk (quotedL z.cps.toList))) H') ∨ (NoLine K H v ∧ Fails C "at" 0 H E))
theorem scQuoted : FnScope ["text", "inner"] ["text"] (defScope sQuoted) := ⟨rfl, rfl, rfl, by decide +kernel, rfl, by decide +kernel, by decide +kernel⟩
theorem replL_one {y : Nat} {z : List Nat} : ∀ l : List Nat, PySem.StrLaws.replL [y] z l = l.flatMap fun c => if c = y then z else [c]
  | [] => PySem.StrLaws.replL_nil
  | c :: r => by
    have ih := replL_one (y := y) (z := z) r
    rw [List.flatMap_cons]
    by_cases h : c = y
    · subst h
      rw [PySem.StrLaws.replL_hit (by simp) (by simp), if_pos rfl]
      show z ++ PySem.StrLaws.replL [c] z r = _
      rw [ih]
    · rw [PySem.StrLaws.replL_miss (by simp [h]), if_neg h, ih]
      rfl
theorem esc_two (l : List Nat) : (l.flatMap fun c => if c = 92 then [92, 92] else [c]).flatMap (fun c => if c = 34 then [92, 34] else [c]) = esc l := by
  unfold esc
  rw [List.flatMap_assoc]
  congr 1
  funext c
  by_cases h1 : c = 92
  · subst h1
    rfl
  · rw [if_neg h1]
    by_cases h2 : c = 34
    · subst h2
      rfl
    · rw [if_neg (by omega : ¬ (c = 92 ∨ c = 34))]
      simp [h2]
theorem esc_len (l : List Nat) : (esc l).length ≤ 2 * l.length := by
  unfold esc
  induction l with
  | nil => exact Nat.le_refl _
  | cons c r ih =>
    rw [List.flatMap_cons, List.length_append, List.length_cons]
    by_cases h : c = 92 ∨ c = 34
    · rw [if_pos h]
      have : ([92, c] : List Nat).length = 2 := rfl
      omega
    · rw [if_neg h]
      have : ([c] : List Nat).length = 1 := rfl
      omega
theorem okTX {x qual : Str} {st : Stmt} {f : Addr} {fd : FuncData} {N ps : List Str} {k : Nat} {sp : Sp} (F : Fun K x qual st f fd) (S : FnScope N ps (defScope st)) (hnc : ∀ y ∈ (defScope st).names, y.2 ≠ .cell) (hps : 1 ≤ ps.length) (len : ∀ vs H Q E, sp vs H Q E → vs.length = ps.length)
    (hbody : ∀ (cdv : Value) (A : Around) (outer : List Env) (s : Shared) (H : Hp) (vs : List V) (Q : VK) (E : XK), Room k (A.deeper (envOfC qual (defScope st) s.heap.objs.size f cdv)) → sp vs H Q E →
      ∃ t, PSsT (cxOf (L2.CX P w) P w K mg base N qual (defScope st) f cdv A outer s H E) (defBody st) t ∧ t { nx := fun _ H' => Q .non H', rt := Q } (start N vs) H) : FnOk P w K mg base (L2.CX P w) (k + 1) f fd ps sp := by
  obtain ⟨oc, od, kV, doc, pm, an, cdv, ct, osl, rfl, lk, hcd⟩ := F.ex
  exact fn_ofT lk hcd S hnc hps len fun A outer s H vs Q E hr hsp => hbody cdv A outer s H vs Q E hr hsp
theorem pst_set {X : Cx} {i : Nat} {x : Str} {e : Expr} {te : TE} {pos pos' : Pos} (hN : X.N.Nodup) (hi : X.N[i]? = some x) (hx : Loc X.env.scope x) (he : PET X e te) (hs : swapsWith e (some (.Name x pos')) pos.line X.env = pure false := by rfl) (hf : X.fn x = true ∨ X.env.scope.names.lookup x = some .local := by first | exact .inl rfl | exact .inr rfl | assumption) :
    PST X (.Assign [.Name x pos'] e pos) (tAsg te (gName i)) := by
  intro pins s σ H D h0 I h
  refine wpAny_Assign_Name (thn (he pins s σ H _ h0 I h) fun v s1 ⟨y, H1, I1, r1, q1⟩ => ?_) hs
  exact store_ok I1 hN hi hx r1 (fun s2 I2 => ⟨_, H1, I2, q1⟩) hf
theorem x_quoted {C : Addr} (M : MkFld P w K mg base "NoWords" C "at") (A : FnAt K mg "quoted" sQuoted) (RL : Ready P w K mg base 3 "is_line" ["value"] (spLine K isLn)) (RE : Ready P w K mg base 3 "_atom_end" ["text", "begin"] spAtomEnd) (ml : mg "len" = none) :
    ReadyX P w K mg base 4 "quoted" ["text"] (spQuotedX K C) := by
  obtain ⟨f1, fd1, g1, k1, b1, G1⟩ := RL
  obtain ⟨f2, fd2, g2, k2, b2, G2⟩ := RE
  refine readyX_of A (fun _ _ _ _ _ _ us hl => match us, hl with | [_], _ => rfl) fun f fd F => ?_
  refine okTX F scQuoted (by decide +kernel) (by decide) (fun vs H Q E h => ?_) (fun cdv A outer s H vs Q E hr h => ?_)
  · obtain ⟨v, rfl, _⟩ := h
    rfl
  · obtain ⟨v, rfl, h⟩ := h
    have sc := scQuoted
    refine ⟨_, psst_cons (PST.of (ps_if (pt_not (pt_val (pe_call G1 hr (by rfl) g1 k1 b1 .nil pass0 (pa_cons (pv 0) pa_nil)))) (pss_one (ps_raise rfl (takes_of rfl rfl rfl rfl) (pmk_fld M hr (by rfl) (pa_cons pe_str pa_nil) [.int 0] (.inr rfl)))) pss_nil))
      (psst_cons (PST.of (ps_if (PW.pt (pw_and (pt_cmpR op_ne (pv 0) pe_str (nomark _)) (pw_and1 (pt_cmpR op_eq (pe_call G2 hr (by rfl) g2 k2 b2 .nil pass0 (pa_cons (pv 0) (pa_cons pe_int pa_nil)))
          (pe_callB call_len_str (by rfl) ml PySem.boot_len (pa_cons (pv 0) pa_nil)) (nomark _))))) (pss_one (ps_ret (pv 0))) pss_nil))
      (psst_cons (pst_set (i := 1) sc.nd rfl (.inl rfl) (CwR.pet_replT (CwR.pet_replC (pv 0))))
      (PSsT.of (pss_one (ps_ret (pe_op op_add_str (pe_op op_add_str pe_str (pv 1)) pe_str)))))), ?_⟩
    rcases h with ⟨z, rfl, hz, hl, q⟩ | ⟨hno, qe⟩
    rotate_left
    · rcases hno with ⟨z, rfl, hz, hl⟩ | ⟨t, ht, hk⟩
      · refine ⟨_, rfl, _, rfl, .inl ⟨z, rfl, hz, fun H0 s0 => ⟨_, rfl, ?_⟩⟩⟩
        rw [hl]
        exact iteT (mk_leaf rfl (by decide) (Fails.later qe s0))
      · exact ⟨_, rfl, _, rfl, .inr ⟨t, ht, hk, ⟨_, rfl, iteT (mk_leaf rfl (by decide) qe)⟩⟩⟩
    refine ⟨_, rfl, _, rfl, .inl ⟨z, rfl, Nat.le_trans hz (by decide), fun H0 s0 => ⟨_, rfl, ?_⟩⟩⟩
    rw [hl]
    refine iteF ?_
    have hzl := len_cps z
    have e0 : decide (V.str z = V.str ("" : Str)) = decide (z.cps.toList = []) := decide_eq_decide.mpr ⟨fun h => by
      injection h with h
      rw [h]
      decide +kernel, fun h => by
      have : z = mk [] := mk_eq h
      rw [this]
      rfl⟩
    have e92 : (("\\" : Str)).cps.toList = [92] := by decide +kernel
    have e9292 : (("\\\\" : Str)).cps.toList = [92, 92] := by decide +kernel
    have e34 : (("\"" : Str)).cps.toList = [34] := by decide +kernel
    have e9234 : (("\\\"" : Str)).cps.toList = [92, 34] := by decide +kernel
    have r1 : (Txt.replace z ("\\" : Str) ("\\\\" : Str)).cps.toList = z.cps.toList.flatMap fun c => if c = 92 then [92, 92] else [c] := by
      rw [PySem.StrLaws.replace_list (by decide +kernel), e92, e9292, replL_one]
    have r2 : (Txt.replace (Txt.replace z ("\\" : Str) ("\\\\" : Str)) ("\"" : Str) ("\\\"" : Str)).cps.toList = esc z.cps.toList := by
      rw [PySem.StrLaws.replace_list (by decide +kernel), e34, e9234, replL_one, r1, esc_two]
    have l1 : (Txt.replace z ("\\" : Str) ("\\\\" : Str)).length ≤ z.length + (z.length + 1) * 2 := TK.replace_len z ("\\" : Str) ("\\\\" : Str)
    have tail : quotedL z.cps.toList = 34 :: (esc z.cps.toList ++ [34]) → tSeq (tAsg (CwR.tReplC (CwR.tReplC (tVar 0) ("\\" : Str) ("\\\\" : Str)) ("\"" : Str) ("\\\"" : Str)) (gName 1)) (tSeq (tRet (tOp (fun x y H Q => ∃ i j, x = .str i ∧ y = .str j ∧ i.length + j.length ≤ sizeLine ∧ Q (.str (i ++ j)) H) (tOp (fun x y H Q => ∃ i j, x = .str i ∧ y = .str j ∧ i.length + j.length ≤ sizeLine ∧ Q (.str (i ++ j)) H) (tC (.str ("\"" : Str))) (tVar 1)) (tC (.str ("\"" : Str))))) tNext) { nx := fun _ H' => Q .non H', rt := Q } (start ["text", "inner"] [.str z]) H0 := fun hq => by
      have h2 : ("\\\\" : Str).length = 2 := by decide +kernel
      have h3 : ("\\\"" : Str).length = 2 := by decide +kernel
      have h1 : ("\"" : Str).length = 1 := by decide +kernel
      have l2 : (Txt.replace (Txt.replace z ("\\" : Str) ("\\\\" : Str)) ("\"" : Str) ("\\\"" : Str)).length ≤ 2000 := by
        rw [← len_cps, r2]
        have := esc_len z.cps.toList
        omega
      refine ⟨_, rfl, z, rfl, by rw [h2]; omega, _, rfl, by rw [h3]; omega, ?_⟩
      refine ⟨_, rfl, _, _, rfl, rfl, by rw [h1]; exact Nat.le_of_lt (szl (by omega)), _, _, rfl, rfl, by rw [len_append, h1]; exact Nat.le_of_lt (szl (by omega)), ?_⟩
      have := q H0 s0
      rw [hq] at this
      have ee : ("\"" : Str) ++ (Txt.replace (Txt.replace z ("\\" : Str) ("\\\\" : Str)) ("\"" : Str) ("\\\"" : Str)) ++ ("\"" : Str) = mk (34 :: (esc z.cps.toList ++ [34])) := by
        rw [mk_eq r2, mk_eq e34, mk_app, mk_app]
        rfl
      show Q (.str (("\"" : Str) ++ (Txt.replace (Txt.replace z ("\\" : Str) ("\\\\" : Str)) ("\"" : Str) ("\\\"" : Str)) ++ ("\"" : Str))) H0
      rw [ee]
      exact this
    refine ⟨_, rfl, rfl, _, rfl, ?_⟩
    rw [e0]
    by_cases hn : z.cps.toList = []
    · rw [decide_eq_true hn]
      refine iteF (iteF (tail ?_))
      unfold quotedL
      rw [if_neg (fun h => h.1 hn)]
    · rw [decide_eq_false hn]
      refine iteT ?_
      refine ⟨_, rfl, z, 0, rfl, Nat.le_trans hz (by decide), Nat.zero_le _, _, rfl, z, rfl, Nat.le_of_lt (szl (by omega)), rfl, _, rfl, ?_⟩
      refine ite2 (fun h => ?_) (fun h => ?_)
      · have h1 : atomEnd z.cps.toList 0 = z.cps.toList.length := by
          have := V.int.inj (of_decide_eq_true h)
          omega
        refine ⟨_, rfl, ?_⟩
        have := q H0 s0
        unfold quotedL at this
        rw [if_pos ⟨hn, h1⟩, mk_of] at this
        exact this
      · refine tail ?_
        unfold quotedL
        rw [if_neg]
        rintro ⟨_, h2⟩
        exact h (decide_eq_true (by rw [h2, hzl]))
end
end FL

namespace FL
open PySem PySem.Spec PyProof.Rows L2
theorem strOk_of {z : Str} (h : ∀ c ∈ z.cps.toList, c < 128) : PyData.strOk z = true := by
  unfold PyData.strOk
  rw [← Array.all_toList]
  refine List.all_eq_true.mpr fun c hc => decide_eq_true ?_
  have := h c hc
  omega
theorem canLayAll_of : ∀ {ds : List PyData}, (∀ d ∈ ds, d.canLay0 = true) → PyData.canLayAll0 ds = true
  | [], _ => by simp [PyData.canLayAll0]
  | d :: r, h => by
    rw [PyData.canLayAll0, h d (List.mem_cons_self ..), canLayAll_of fun x hx => h x (List.mem_cons_of_mem _ hx)]
    rfl
theorem depthAll_of {k : Nat} : ∀ {ds : List PyData}, (∀ d ∈ ds, d.depth ≤ k) → PyData.depthAll ds ≤ k
  | [], _ => by simp [PyData.depthAll]
  | d :: r, h => by
    rw [PyData.depthAll]
    exact Nat.max_le.mpr ⟨h d (List.mem_cons_self ..), depthAll_of fun x hx => h x (List.mem_cons_of_mem _ hx)⟩
theorem canLay_str {z : Str} (h : PyData.strOk z = true) : (PyData.str z).canLay0 = true := by
  unfold PyData.canLay0
  exact h
theorem shaped_of {d : PyData} (h : d.canLay0 = true) (k : d.depth ≤ 64) : SeqAt.shaped d = true := by
  unfold SeqAt.shaped
  rw [h, decide_eq_true k]
  rfl
theorem shaped_strs {zs : List Str} (h : ∀ z ∈ zs, PyData.strOk z = true) : SeqAt.shaped (.list (zs.map PyData.str)) = true := by
  refine shaped_of ?_ ?_
  · rw [PyData.canLay0]
    refine canLayAll_of fun d hd => ?_
    obtain ⟨z, hz, rfl⟩ := List.mem_map.mp hd
    exact canLay_str (h z hz)
  · rw [PyData.depth]
    have : PyData.depthAll (zs.map PyData.str) ≤ 0 := depthAll_of fun d hd => by
      obtain ⟨z, hz, rfl⟩ := List.mem_map.mp hd
      rw [PyData.depth]
      exact Nat.le_refl _
    omega
theorem dp_strs {K : PySem.W.Frag} {H : Hp} : ∀ zs : List Str, DpAll K H (zs.map V.str) (zs.map PyData.str)
  | [] => .nil
  | z :: r => .cons (.str z) (dp_strs r)
theorem eqv_nil (ds : List PyData) : PyData.eqv (.list ds) (.list []) = ds.isEmpty := by
  cases ds <;> simp [PyData.eqv, PyData.eqvAll]
theorem same_drawn {H H1 H2 : Hp} {p : Addr} (s : Same H H1) (n : H p = none) (d : Drawn p H1 H2) : Same H H2 := fun b o e => d.old b o (ne_of_none e n) (s b o e)
theorem app_codes (a b : Str) : (a ++ b).cps.toList = a.cps.toList ++ b.cps.toList := TL.tl_append a b
/-- a list of texts as data: in order, and itself -/
theorem strs_ok {zs : List Str} (h : ∀ z ∈ zs, PyData.strOk z = true) : SeqAt.shaped (.list (zs.map PyData.str)) = true ∧ PyData.eqv (.list (zs.map PyData.str)) (.list (zs.map PyData.str)) = true := by
  have hs := shaped_strs h
  exact ⟨hs, SeqAt.eqv_refl _ (Bool.and_eq_true_iff.mp hs).1⟩
end FL

namespace FL
open PySem PySem.Spec PyProof.Rows L2
/-! ### a sign so many times -/
theorem fold_rep (c : Nat) : ∀ (n : Nat) (acc : Array Nat), ((List.replicate n #[c]).foldl (· ++ ·) acc).toList = acc.toList ++ List.replicate n c
  | 0, acc => by simp
  | n + 1, acc => by
    rw [List.replicate_succ, List.foldl_cons, fold_rep c n, List.replicate_succ, Array.toList_append]
    simp
theorem op_mulS {X : Cx} : OpR X (binaryOp .Mult) (fun x y H Q => ∃ (c k : Nat), x = .str ⟨#[c]⟩ ∧ y = .int (k : Nat) ∧ k ≤ 10000 ∧ Q (.str (mk (List.replicate k c))) H) := by
  intro pins s σ H x y v u Q I rx ry h
  obtain ⟨c, k, rfl, rfl, hk, q⟩ := h
  obtain ⟨t, rfl⟩ := rx
  obtain ⟨t', rfl⟩ := ry
  by_cases h0 : k = 0
  · subst h0
    exact PySem.P.mul_str_none (by decide) (by decide) ⟨.str (mk []), H, I.tok _, ⟨_, rfl⟩, q⟩
  · have hl1 : (⟨#[c]⟩ : Str).length = 1 := rfl
    refine PySem.P.mul_str ?_ ?_ ?_ ?_
    · rw [decide_eq_false (by omega : ¬ ((k : Int) < -(2 ^ 63))), decide_eq_false (by omega : ¬ ((k : Int) ≥ 2 ^ 63))]
      rfl
    · intro _ _
      rw [hl1]
      have : (1 : Int) ≤ (2 ^ 63 - 1) / (k : Int) := by
        refine (Int.le_ediv_iff_mul_le (by omega)).mpr ?_
        omega
      omega
    · intro _ _
      rw [hl1, Int.toNat_natCast, Nat.one_mul]
      exact decide_eq_false (Nat.not_lt.mpr (Nat.le_of_lt (szl hk)))
    · rw [if_neg (by omega : ¬ ((k : Int) < 1))]
      by_cases h1 : k = 1
      · subst h1
        rw [if_pos (by rfl)]
        exact ⟨.str (mk [c]), H, I, ⟨t, rfl⟩, q⟩
      · rw [if_neg (by rw [hl1]; simp; omega), Int.toNat_natCast]
        have e : (⟨(List.replicate k (⟨#[c]⟩ : Str).cps).foldl (· ++ ·) #[]⟩ : Str) = mk (List.replicate k c) := mk_eq (by
          show ((List.replicate k #[c]).foldl (· ++ ·) #[]).toList = _
          rw [fold_rep]
          rfl)
        rw [e]
        refine ⟨?_, .str (mk (List.replicate k c)), H, I.tok _, ⟨_, rfl⟩, q⟩
        rw [mk_len, List.length_replicate]
        exact Nat.le_of_lt (szl hk)
/-! ### what is drawn: names and values -/
def okS (c : Nat) : Bool := isSig c && (!decide (c = 10) && decide (c < 128))
theorem okS_lt {c : Nat} (h : okS c = true) : c < 128 := by
  unfold okS at h
  simp only [Bool.and_eq_true, decide_eq_true_eq] at h
  exact h.2.2
theorem isLn_okS {l : List Nat} (h : ∀ c ∈ l, okS c = true) : isLn l = true := by
  unfold isLn allSig
  have h1 : l.all isSig = true := List.all_eq_true.mpr fun c hc => by
    have := h c hc
    unfold okS at this
    simp only [Bool.and_eq_true] at this
    exact this.1
  have h2 : 10 ∉ l := fun hc => by
    have := h 10 hc
    exact absurd this (by decide)
  rw [h1, decide_eq_false h2]
  rfl
end FL

namespace FL
open PySem PySem.Spec PyProof.Rows L2
/-- w, written, is the word of the sort s and the text t -/
structure WordOk (w : List Nat) (s : Str) (t : List Nat) : Prop where
  cut : ∀ (l : List Nat) (p : Nat) (rest : List Nat), l.drop p = w ++ rest → (s = "atom" → ∀ c, rest.head? = some c → isAtm c = false) → wordAt l p = some (s, t, p + w.length)
  hd : ∃ c r, w = c :: r ∧ c ≠ 32 ∧ (s ≠ "atom" → isAtm c = false)
theorem at_of_drop {l : List Nat} {p c : Nat} {r : List Nat} (h : l.drop p = c :: r) : l[p]? = some c ∧ l.drop (p + 1) = r := by
  constructor
  · have := congrArg (fun m : List Nat => m[0]?) h
    rw [List.getElem?_drop] at this
    exact this
  · have := congrArg (fun m : List Nat => m.drop 1) h
    rw [List.drop_drop] at this
    exact this
theorem tw_allN {p : Nat → Bool} : ∀ {cs rest : List Nat}, (∀ c ∈ cs, p c = true) → (∀ x, rest.head? = some x → p x = false) → (cs ++ rest).takeWhile p = cs
  | [], [], _, _ => rfl
  | [], x :: r, _, h => by
    rw [List.nil_append, List.takeWhile_cons, if_neg (by rw [h x rfl]; exact Bool.false_ne_true)]
  | c :: r, rest, h1, h2 => by
    rw [List.cons_append, List.takeWhile_cons, if_pos (h1 c (List.mem_cons_self ..)), tw_allN (fun d hd => h1 d (List.mem_cons_of_mem _ hd)) h2]
theorem word_atom {w : List Nat} (hne : w ≠ []) (h : ∀ c ∈ w, isAtm c = true) : WordOk w "atom" w := by
  refine ⟨fun l p rest hd hr => ?_, ?_⟩
  · cases w with
    | nil => exact absurd rfl hne
    | cons c r =>
      obtain ⟨h1, _⟩ := at_of_drop (r := r ++ rest) hd
      have ht := tw_allN h (hr rfl)
      unfold wordAt atomEnd
      rw [h1]
      dsimp only
      rw [if_pos (h c (List.mem_cons_self ..)), hd, ht]
  · cases w with
    | nil => exact absurd rfl hne
    | cons c r => exact ⟨c, r, rfl, fun e => by have := h c (List.mem_cons_self ..); rw [e] at this; exact absurd this (by decide), fun z => absurd rfl z⟩
theorem word_quoted {b t : List Nat} (h : ∀ acc p rest, quo acc p (b ++ 34 :: rest) = some (acc ++ t, p + b.length + 1)) : WordOk (34 :: (b ++ [34])) "quoted" t := by
  refine ⟨fun l p rest hd _ => ?_, 34, _, rfl, by decide, fun _ => by decide⟩
  have hd' : l.drop p = 34 :: (b ++ 34 :: rest) := by rw [hd]; simp
  obtain ⟨h1, h2⟩ := at_of_drop hd'
  unfold wordAt
  rw [h1]
  dsimp only
  rw [if_neg (by decide), if_pos rfl, h2, h [] (p + 1) rest]
  show some (("quoted" : Str), [] ++ t, p + 1 + b.length + 1) = _
  rw [List.nil_append]
  congr 3
  simp
  omega
theorem quo_escs (t : List Nat) : ∀ (acc : List Nat) (p : Nat) (rest : List Nat), quo acc p (esc t ++ 34 :: rest) = some (acc ++ t, p + (esc t).length + 1) := by
  induction t with
  | nil =>
    intro acc p rest
    show quo acc p (34 :: rest) = _
    rw [quo_end]
    simp [esc]
  | cons c r ih =>
    intro acc p rest
    by_cases hc : c = 92 ∨ c = 34
    · have e : esc (c :: r) = 92 :: c :: esc r := by
        unfold esc
        rw [List.flatMap_cons, if_pos hc]
        rfl
      rw [e, List.cons_append, List.cons_append, quo_esc]
      show quo (acc ++ [c]) (p + 2) (esc r ++ 34 :: rest) = _
      rw [ih]
      simp
      omega
    · have e : esc (c :: r) = c :: esc r := by
        unfold esc
        rw [List.flatMap_cons, if_neg hc]
        rfl
      have h1 : c ≠ 34 := fun e => hc (.inr e)
      have h2 : c ≠ 92 := fun e => hc (.inl e)
      rw [e, List.cons_append, quo_other h1 h2, ih]
      simp
      omega
theorem quo_plain (t : List Nat) : ∀ (acc : List Nat) (p : Nat) (rest : List Nat), quo acc p ((t.flatMap fun c => [92, c]) ++ 34 :: rest) = some (acc ++ t, p + (t.flatMap fun c => [92, c]).length + 1) := by
  induction t with
  | nil =>
    intro acc p rest
    show quo acc p (34 :: rest) = _
    rw [quo_end]
    simp
  | cons c r ih =>
    intro acc p rest
    rw [List.flatMap_cons]
    show quo acc p (92 :: c :: ((r.flatMap fun c => [92, c]) ++ 34 :: rest)) = _
    rw [quo_esc]
    show quo (acc ++ [c]) (p + 2) ((r.flatMap fun c => [92, c]) ++ 34 :: rest) = _
    rw [ih]
    simp
    omega
theorem rem_flat : ∀ (t : List Nat) (d : Int) (p : Nat) (rest : List Nat), (∀ c ∈ t, c ≠ 92 ∧ c ≠ 40 ∧ c ≠ 41) → rem d p (t ++ rest) = rem d (p + t.length) rest
  | [], d, p, rest, _ => rfl
  | c :: r, d, p, rest, h => by
    obtain ⟨h1, h2, h3⟩ := h c (List.mem_cons_self ..)
    rw [List.cons_append, rem_other h1 h2 h3, rem_flat r d (p + 1) rest fun x hx => h x (List.mem_cons_of_mem _ hx), List.length_cons]
    rw [show p + 1 + r.length = p + (r.length + 1) by omega]
theorem word_remark {t : List Nat} (h : ∀ p rest, rem 1 p (t ++ 41 :: rest) = some (p + t.length)) : WordOk (40 :: (t ++ [41])) "remark" t := by
  refine ⟨fun l p rest hd _ => ?_, 40, _, rfl, by decide, fun _ => by decide⟩
  have hd' : l.drop p = 40 :: (t ++ 41 :: rest) := by rw [hd]; simp
  obtain ⟨h1, h2⟩ := at_of_drop hd'
  unfold wordAt
  rw [h1]
  dsimp only
  rw [if_neg (by decide), if_neg (by decide), if_pos rfl, hd', rem_open]
  show (rem 1 (p + 1) (t ++ 41 :: rest)).map _ = _
  rw [h, h2]
  show some (("remark" : Str), (t ++ 41 :: rest).take (p + 1 + t.length - (p + 1)), p + 1 + t.length + 1) = _
  rw [show p + 1 + t.length - (p + 1) = t.length by omega, List.take_left]
  congr 3
  simp
  omega
/-- a remark within a remark -/
theorem rem_two {u : List Nat} (hu : ∀ c ∈ u, c ≠ 92 ∧ c ≠ 40 ∧ c ≠ 41) (p : Nat) (rest : List Nat) : rem 1 p (u ++ [40, 120, 41] ++ 41 :: rest) = some (p + (u ++ [40, 120, 41]).length) := by
  rw [List.append_assoc, rem_flat u 1 p _ hu]
  show rem 1 (p + u.length) (40 :: 120 :: 41 :: 41 :: rest) = _
  rw [rem_open, rem_other (by decide) (by decide) (by decide), rem_close, if_neg (by decide), rem_close, if_pos (by decide)]
  simp
  omega
theorem word_mark {c : Nat} (h : c ∈ marks) : WordOk [c] "mark" [c] := by
  have hm : ∀ c ∈ marks, isAtm c = false ∧ c ≠ 34 ∧ c ≠ 40 ∧ c ≠ 32 := by decide
  obtain ⟨m1, m2, m3, m4⟩ := hm c h
  refine ⟨fun l p rest hd _ => ?_, c, [], rfl, m4, fun _ => m1⟩
  obtain ⟨h1, _⟩ := at_of_drop (r := rest) hd
  unfold wordAt
  rw [h1]
  dsimp only
  rw [if_neg (by rw [m1]; exact Bool.false_ne_true), if_neg m2, if_neg m3, if_pos h]
  rfl
/-! ### words laid side by side -/
structure It where
  g : Nat
  w : List Nat
  s : Str
  t : List Nat
def lay : List It → List Nat
  | [] => []
  | i :: r => List.replicate i.g 32 ++ (i.w ++ lay r)
def dueW : Nat → List It → List Wd
  | _, [] => []
  | p, i :: r => (i.s, i.t, p + i.g, p + i.g + i.w.length) :: dueW (p + i.g + i.w.length) r
def Fit : List It → Prop
  | [] => True
  | [_] => True
  | i :: j :: r => (i.s = "atom" → j.s = "atom" → 1 ≤ j.g) ∧ Fit (j :: r)
theorem cut_blanks {l : List Nat} : ∀ (g p : Nat) (rest : List Nat) (n : Nat), l.drop p = List.replicate g 32 ++ rest → cutR l (n + g) p = cutR l n (p + g)
  | 0, p, rest, n, _ => rfl
  | g + 1, p, rest, n, h => by
    rw [List.replicate_succ, List.cons_append] at h
    obtain ⟨h1, h2⟩ := at_of_drop h
    show cutR l (n + g + 1) p = _
    rw [cutR, h1]
    dsimp only
    rw [if_pos rfl, cut_blanks g (p + 1) rest n h2, show p + 1 + g = p + (g + 1) by omega]
theorem lay_cut {l : List Nat} {e : Nat} : ∀ (is : List It) (p : Nat), l.drop p = lay is ++ List.replicate e 32 → (∀ i ∈ is, WordOk i.w i.s i.t) → Fit is → ∃ n, cutR l n p = some (.ok (dueW p is))
  | [], p, h, _, _ => by
    refine ⟨0 + e, ?_⟩
    have h' : l.drop p = List.replicate e 32 ++ [] := by rw [h, List.append_nil]; rfl
    rw [cut_blanks e p [] 0 h']
    have : l.length ≤ p + e := by
      have := congrArg List.length h'
      rw [List.length_drop, List.append_nil, List.length_replicate] at this
      omega
    rw [cutR, if_neg (by omega)]
    rfl
  | i :: r, p, h, hw, hf => by
    have h' : l.drop p = List.replicate i.g 32 ++ (i.w ++ (lay r ++ List.replicate e 32)) := by
      rw [h]
      show (List.replicate i.g 32 ++ (i.w ++ lay r)) ++ _ = _
      rw [List.append_assoc, List.append_assoc]
    have hd : l.drop (p + i.g) = i.w ++ (lay r ++ List.replicate e 32) := by
      have := congrArg (fun m : List Nat => m.drop i.g) h'
      rw [List.drop_drop] at this
      rw [this]
      exact List.drop_left' (List.length_replicate ..)
    have hd2 : l.drop (p + i.g + i.w.length) = lay r ++ List.replicate e 32 := by
      have := congrArg (fun m : List Nat => m.drop i.w.length) hd
      rw [List.drop_drop] at this
      rw [this]
      exact List.drop_left
    have wi := hw i (List.mem_cons_self ..)
    have hnext : i.s = "atom" → ∀ c, (lay r ++ List.replicate e 32).head? = some c → isAtm c = false := fun hs c hc => by
      cases r with
      | nil =>
        cases e with
        | zero => cases hc
        | succ e =>
          injection hc with hc
          rw [← hc]
          decide
      | cons j r =>
        have hc' : (List.replicate j.g 32 ++ (j.w ++ lay r) ++ List.replicate e 32).head? = some c := hc
        cases hg : j.g with
        | succ g =>
          rw [hg] at hc'
          injection hc' with hc'
          rw [← hc']
          decide
        | zero =>
          rw [hg] at hc'
          obtain ⟨d, x, e1, e2, e3⟩ := (hw j (by simp)).hd
          rw [e1] at hc'
          injection hc' with hc'
          rw [← hc']
          refine e3 fun hj => ?_
          have := hf.1 hs hj
          omega
    obtain ⟨n, hn⟩ := lay_cut r (p + i.g + i.w.length) hd2 (fun j hj => hw j (List.mem_cons_of_mem _ hj)) (by
      cases r with
      | nil => trivial
      | cons j r => exact hf.2)
    refine ⟨n + 1 + i.g, ?_⟩
    rw [cut_blanks i.g p _ (n + 1) h', cutR]
    obtain ⟨c, x, e1, e2, _⟩ := wi.hd
    have hat : l[p + i.g]? = some c := (at_of_drop (c := c) (r := x ++ (lay r ++ List.replicate e 32)) (by rw [hd, e1]; rfl)).1
    rw [hat]
    dsimp only
    rw [if_neg e2, wi.cut l (p + i.g) _ hd hnext]
    dsimp only
    rw [hn]
    rfl
end FL

namespace FL
open PySem PySem.Spec PyProof.Rows L2
theorem mem_tw {α : Type} {p : α → Bool} {l : List α} {x : α} (h : x ∈ l.takeWhile p) : p x = true := by
  induction l with
  | nil => cases h
  | cons a r ih =>
    rw [List.takeWhile_cons] at h
    by_cases hp : p a = true
    · rw [if_pos hp] at h
      rcases List.mem_cons.mp h with rfl | h
      · exact hp
      · exact ih h
    · rw [if_neg hp] at h
      cases h
abbrev DW := List Nat × Str × List Nat
def dwV (x : DW) : List V := [.str (mk x.1), .str x.2.1, .str (mk x.2.2)]
structure WP (x : DW) : Prop where
  word : WordOk x.1 x.2.1 x.2.2
  ok : ∀ c ∈ x.1, okS c = true
  len : x.1.length ≤ 40
  tok : ∀ c ∈ x.2.2, c < 128
  tlen : x.2.2.length ≤ 20
  sok : ∀ c ∈ x.2.1.cps.toList, c < 128
  slen : x.2.1.length ≤ 10
  no : x.2.1 = "remark" → x.2.2 ≠ [114]
def innMenu : Str := "ab 1;\"\\("
theorem innMenu_ok : ∀ c ∈ innMenu.cps.toList, okS c = true := by decide +kernel
def atmMenu : Str := "ab1.-=?_!"
theorem atmMenu_ok : ∀ c ∈ atmMenu.cps.toList, okS c = true ∧ isAtm c = true := by decide +kernel
def plMenu : Str := "abc"
theorem plMenu_ok : ∀ c ∈ plMenu.cps.toList, okS c = true := by decide +kernel
def rmMenu : Str := "ab \"<"
theorem rmMenu_ok : ∀ c ∈ rmMenu.cps.toList, okS c = true ∧ c ≠ 92 ∧ c ≠ 40 ∧ c ≠ 41 := by decide +kernel
theorem marks_okS : ∀ c ∈ marks, okS c = true := by decide
theorem esc_okS {t : List Nat} (h : ∀ c ∈ t, okS c = true) : ∀ c ∈ esc t, okS c = true := fun c hc => by
  unfold esc at hc
  obtain ⟨d, hd, hc⟩ := List.mem_flatMap.mp hc
  by_cases e : d = 92 ∨ d = 34
  · rw [if_pos e] at hc
    rcases List.mem_cons.mp hc with rfl | hc
    · decide
    · rw [List.mem_singleton.mp hc]
      exact h d hd
  · rw [if_neg e] at hc
    rw [List.mem_singleton.mp hc]
    exact h d hd
theorem wp_atom {w : List Nat} (hne : w ≠ []) (hl : w.length ≤ 10) (h : ∀ c ∈ w, okS c = true ∧ isAtm c = true) : WP (quotedL w, "atom", w) := by
  have he : atomEnd w 0 = w.length := by
    unfold atomEnd
    have := tw_allN (p := isAtm) (cs := w) (rest := []) (fun c hc => (h c hc).2) (fun x hx => by cases hx)
    rw [List.append_nil] at this
    rw [List.drop_zero, this, Nat.zero_add]
  have hq : quotedL w = w := by
    unfold quotedL
    rw [if_pos ⟨hne, he⟩]
  refine ⟨by rw [hq]; exact word_atom hne fun c hc => (h c hc).2, by rw [hq]; exact fun c hc => (h c hc).1, by rw [hq]; show w.length ≤ 40; omega, fun c hc => okS_lt (h c hc).1, by show w.length ≤ 20; omega, by show ∀ c ∈ ("atom" : Str).cps.toList, c < 128; decide +kernel, by show ("atom" : Str).length ≤ 10; decide +kernel, fun e => absurd e (by show ¬ ("atom" : Str) = "remark"; decide +kernel)⟩
theorem wp_quoted {t : List Nat} (hl : t.length ≤ 10) (h : ∀ c ∈ t, okS c = true) (h32 : 32 ∈ t) : WP (quotedL t, "quoted", t) := by
  have hq : quotedL t = 34 :: (esc t ++ [34]) := by
    unfold quotedL
    rw [if_neg]
    rintro ⟨_, he⟩
    have hlen : (t.takeWhile isAtm).length = t.length := by
      unfold atomEnd at he
      rw [List.drop_zero, Nat.zero_add] at he
      exact he
    have : t.takeWhile isAtm = t := (List.takeWhile_prefix isAtm).eq_of_length hlen
    have h1 : isAtm 32 = true := mem_tw (p := isAtm) (l := t) (by rw [this]; exact h32)
    exact absurd h1 (by decide)
  have hel := esc_len t
  refine ⟨by rw [hq]; exact word_quoted (quo_escs t), ?_, ?_, fun c hc => okS_lt (h c hc), by show t.length ≤ 20; omega, by show ∀ c ∈ ("quoted" : Str).cps.toList, c < 128; decide +kernel, by show ("quoted" : Str).length ≤ 10; decide +kernel, fun e => absurd e (by show ¬ ("quoted" : Str) = "remark"; decide +kernel)⟩
  · rw [hq]
    intro c hc
    rcases List.mem_cons.mp hc with rfl | hc
    · decide
    · rcases List.mem_append.mp hc with hc | hc
      · exact esc_okS h c hc
      · rw [List.mem_singleton.mp hc]
        decide
  · rw [hq]
    show (34 :: (esc t ++ [34])).length ≤ 40
    rw [List.length_cons, List.length_append, List.length_singleton]
    omega
theorem wp_plain {t : List Nat} (hl : t.length ≤ 10) (h : ∀ c ∈ t, okS c = true) : WP (34 :: ((t.flatMap fun c => [92, c]) ++ [34]), "quoted", t) := by
  have hfl : (t.flatMap fun c => [92, c]).length = 2 * t.length := by
    induction t with
    | nil => rfl
    | cons a r ih => rw [List.flatMap_cons, List.length_append, ih (by simp at hl; omega) (fun c hc => h c (List.mem_cons_of_mem _ hc)), List.length_cons]; simp; omega
  refine ⟨word_quoted (quo_plain t), fun c hc => ?_, ?_, fun c hc => okS_lt (h c hc), by show t.length ≤ 20; omega, by show ∀ c ∈ ("quoted" : Str).cps.toList, c < 128; decide +kernel, by show ("quoted" : Str).length ≤ 10; decide +kernel, fun e => absurd e (by show ¬ ("quoted" : Str) = "remark"; decide +kernel)⟩
  · rcases List.mem_cons.mp hc with rfl | hc
    · decide
    · rcases List.mem_append.mp hc with hc | hc
      · obtain ⟨d, hd, hc⟩ := List.mem_flatMap.mp hc
        rcases List.mem_cons.mp hc with rfl | hc
        · decide
        · rw [List.mem_singleton.mp hc]
          exact h d hd
      · rw [List.mem_singleton.mp hc]
        decide
  · show (34 :: (_ ++ [34])).length ≤ 40
    rw [List.length_cons, List.length_append, List.length_singleton, hfl]
    omega
theorem wp_remark {u : List Nat} (hl : u.length ≤ 10) (h : ∀ c ∈ u, okS c = true ∧ c ≠ 92 ∧ c ≠ 40 ∧ c ≠ 41) : WP (40 :: ((u ++ [40, 120, 41]) ++ [41]), "remark", u ++ [40, 120, 41]) := by
  refine ⟨word_remark (rem_two fun c hc => (h c hc).2), fun c hc => ?_, ?_, fun c hc => ?_, ?_, by show ∀ c ∈ ("remark" : Str).cps.toList, c < 128; decide +kernel, by show ("remark" : Str).length ≤ 10; decide +kernel, fun _ e => ?_⟩
  · simp only [List.mem_cons, List.mem_append, List.not_mem_nil, or_false] at hc
    rcases hc with rfl | (hc | rfl | rfl | rfl) | rfl
    · decide
    · exact (h c hc).1
    · decide
    · decide
    · decide
    · decide
  · show (40 :: ((u ++ [40, 120, 41]) ++ [41])).length ≤ 40
    simp
    omega
  · rcases List.mem_append.mp hc with hc | hc
    · exact okS_lt (h c hc).1
    · simp only [List.mem_cons, List.not_mem_nil, or_false] at hc
      omega
  · show (u ++ [40, 120, 41]).length ≤ 20
    simp
    omega
  · have := congrArg List.length e
    simp at this
theorem wp_mark {c : Nat} (h : c ∈ marks) : WP ([c], "mark", [c]) :=
  ⟨word_mark h, fun d hd => by rw [List.mem_singleton.mp hd]; exact marks_okS c h, by show 1 ≤ 40; decide, fun d hd => by rw [List.mem_singleton.mp hd]; exact okS_lt (marks_okS c h), by show 1 ≤ 20; decide, by show ∀ c ∈ ("mark" : Str).cps.toList, c < 128; decide +kernel, by show ("mark" : Str).length ≤ 10; decide +kernel, fun e => absurd e (by show ¬ ("mark" : Str) = "remark"; decide +kernel)⟩
/-- what the laying asks of a drawn word -/
structure WP0 (x : DW) : Prop where
  word : WordOk x.1 x.2.1 x.2.2
  ok : ∀ c ∈ x.1, okS c = true
  len : x.1.length ≤ 40
  tok : ∀ c ∈ x.2.2, c < 128
  sok : ∀ c ∈ x.2.1.cps.toList, c < 128
theorem WP.zero {x : DW} (h : WP x) : WP0 x := ⟨h.word, h.ok, h.len, h.tok, h.sok⟩
end FL

namespace FL
open PySem PySem.Spec PyProof.Rows L2
section
variable {P : Program} {w : World} {K : PySem.W.Frag} {mg : Str → Option Value} {base : Heap}
theorem Drawn.free2 {a : Addr} {H H' : Hp} (d : Drawn a H H') (ha : H a ≠ none) {b : Addr} (h : H' b = none) : H b = none := by
  cases e : H b with
  | none => rfl
  | some o =>
    by_cases n : b = a
    · obtain ⟨x, y, z, hx⟩ := d.src
      rw [n, hx] at h
      cases h
    · rw [d.old b o n e] at h
      cases h
theorem sp_quoted {C : Addr} {H : Hp} {Q : VK} {E : XK} {t : List Nat} (hl : t.length ≤ 1000) (h : ∀ c ∈ t, okS c = true) (q : ∀ H', Same H H' → Q (.str (mk (quotedL t))) H') : spQuotedX K C [.str (mk t)] H Q E :=
  ⟨_, rfl, .inl ⟨mk t, rfl, by rw [mk_len]; exact hl, by rw [mk_codes]; exact isLn_okS h, fun H' s' => by rw [mk_codes]; exact q H' s'⟩⟩
def spDW : Sp := fun vs H Q _ => ∃ a : Addr, vs = [.ref a] ∧ Src H a ∧ ∀ T x H', H T = none → H' T = some (.tup (dwV x)) → WP x → Drawn a H H' → Q (.ref T) H'
theorem scDW : FnScope ["_law_source_here", "_law_branch", "_law_inner", "_law_told", "_law_plain", "_law_written", "_law_sign", "_law_mark"] ["_law_source_here"] (defScope sLawDrawnWord) := ⟨rfl, rfl, rfl, by decide +kernel, rfl, by decide +kernel, by decide +kernel⟩
theorem r_dw {C : Addr} (A : FnAt K mg "_law_drawn_word" sLawDrawnWord) (RN : Ready P w K mg base 2 "_law_next" ["_law_source_here", "_law_many"] spNext) (RS : Ready P w K mg base 3 "_law_signs" ["_law_source_here", "_law_signs_here", "_law_many"] spSigns)
    (RQ : ReadyX P w K mg base 4 "quoted" ["text"] (spQuotedX K C)) : Ready P w K mg base 5 "_law_drawn_word" ["_law_source_here"] spDW := by
  obtain ⟨f1, fd1, g1, k1, b1, G1⟩ := RN
  obtain ⟨f2, fd2, g2, k2, b2, G2⟩ := RS
  obtain ⟨f3, fd3, g3, k3, b3, G3⟩ := RQ
  refine ready_of A (fun _ _ _ _ _ _ us hl => match us, hl with | [_], _ => rfl) fun f fd F => ?_
  refine F.ok scDW (fun vs H Q E h => ?_) (fun cdv A outer s H vs Q E hr h => ?_)
  · obtain ⟨a, rfl, _⟩ := h
    rfl
  · obtain ⟨a, rfl, hS, q⟩ := h
    have sc := scDW
    have r2 : Room 2 _ := hr.mono (by decide)
    have r3 : Room 3 _ := hr.mono (by decide)
    refine ⟨_, pss_cons (ps_set (i := 1) sc.nd rfl (.inl rfl) (pe_call G1 r2 (by rfl) g1 k1 b1 .nil pass0 (pa_cons (pv 0) (pa_cons pe_int pa_nil))))
      (pss_cons (ps_set (i := 2) sc.nd rfl (.inl rfl) (pe_call G2 r3 (by rfl) g2 k2 b2 .nil pass0 (pa_cons (pv 0) (pa_cons pe_str (pa_cons (pe_call G1 r2 (by rfl) g1 k1 b1 .nil pass0 (pa_cons (pv 0) (pa_cons pe_int pa_nil))) pa_nil)))))
      (pss_cons (ps_if (pt_cmpR op_eq (pv 1) pe_int (nomark _))
        (pss_cons (ps_set (i := 3) sc.nd rfl (.inl rfl) (pe_call G2 r3 (by rfl) g2 k2 b2 .nil pass0 (pa_cons (pv 0) (pa_cons pe_str (pa_cons (pe_op op_add pe_int (pe_call G1 r2 (by rfl) g1 k1 b1 .nil pass0 (pa_cons (pv 0) (pa_cons pe_int pa_nil)))) pa_nil)))))
        (pss_one (ps_ret (pe_tup (pa_cons (pe_call G3 hr (by rfl) g3 k3 b3 .nil passL (pa_cons (pv 3) pa_nil)) (pa_cons pe_str (pa_cons (pv 3) pa_nil))))))) pss_nil)
      (pss_cons (ps_if (pt_cmpR op_eq (pv 1) pe_int (nomark _))
        (pss_one (ps_ret (pe_tup (pa_cons (pe_call G3 hr (by rfl) g3 k3 b3 .nil passL (pa_cons (pe_op op_add_str (pv 2) pe_str) pa_nil)) (pa_cons pe_str (pa_cons (pe_op op_add_str (pv 2) pe_str) pa_nil)))))) pss_nil)
      (pss_cons (ps_if (pt_cmpR op_eq (pv 1) pe_int (nomark _))
        (pss_cons (ps_set (i := 4) sc.nd rfl (.inl rfl) (pe_call G2 r3 (by rfl) g2 k2 b2 .nil pass0 (pa_cons (pv 0) (pa_cons pe_str (pa_cons (pe_call G1 r2 (by rfl) g1 k1 b1 .nil pass0 (pa_cons (pv 0) (pa_cons pe_int pa_nil))) pa_nil)))))
        (pss_cons (ps_set (i := 5) sc.nd rfl (.inl rfl) (pe_op op_add_str (pe_op op_add_str pe_str (pe_join pe_str (pe_lc (own := [("_law_sign", 6)]) (g := gName 6) (tt := tYes) (by rfl) sc.nd (pi_str (pv 4))
          (blkOk_by (own := [("_law_sign", 6)]) (N := ["_law_source_here", "_law_branch", "_law_inner", "_law_told", "_law_plain", "_law_written", "_law_sign", "_law_mark"]) (sc := defScope sLawDrawnWord) (by decide +kernel)) (fun _ _ _ _ _ => pg_name (i := 6) sc.nd rfl (Or.inl rfl)) (fun _ _ _ _ _ => pts_nil)
          (fun _ _ _ _ _ => pe_op op_add_str pe_str (pv 6))))) pe_str))
        (pss_one (ps_ret (pe_tup (pa_cons (pv 5) (pa_cons pe_str (pa_cons (pv 4) pa_nil)))))))) pss_nil)
      (pss_cons (ps_if (pt_cmpR op_eq (pv 1) pe_int (nomark _))
        (pss_cons (ps_set (i := 4) sc.nd rfl (.inl rfl) (pe_call G2 r3 (by rfl) g2 k2 b2 .nil pass0 (pa_cons (pv 0) (pa_cons pe_str (pa_cons (pe_call G1 r2 (by rfl) g1 k1 b1 .nil pass0 (pa_cons (pv 0) (pa_cons pe_int pa_nil))) pa_nil)))))
        (pss_one (ps_ret (pe_tup (pa_cons (pe_op op_add_str (pe_op op_add_str (pe_op op_add_str pe_str (pv 4)) pe_str) pe_str) (pa_cons pe_str (pa_cons (pe_op op_add_str (pv 4) pe_str) pa_nil))))))) pss_nil)
      (pss_cons (ps_set (i := 7) sc.nd rfl (.inl rfl) (pe_item_str pe_str (pe_call G1 r2 (by rfl) g1 k1 b1 .nil pass0 (pa_cons (pv 0) (pa_cons pe_int pa_nil))) (fun _ _ => rfl)))
      (pss_one (ps_ret (pe_tup (pa_cons (pv 7) (pa_cons pe_str (pa_cons (pv 7) pa_nil)))))))))))), ?_⟩
    have ha0 : H a ≠ none := by
      obtain ⟨x, y, z, e⟩ := hS
      rw [e]
      simp
    have d0 : Drawn a H H := Drawn.refl hS
    obtain ⟨x, y, u, hx⟩ := hS
    refine ⟨_, rfl, a, 5, x, y, u, rfl, by decide, by decide, hx, fun br x1 u1 hbr => ?_⟩
    have d1 := d0.trans (drawn_upd (x := x1) (y := y) (z := u1))
    refine ⟨_, rfl, _, rfl, a, 7, x1, y, u1, rfl, by decide, by decide, upd_same, fun r1 x2 u2 hr1 => ?_⟩
    have d2 := d1.trans (drawn_upd (x := x2) (y := y) (z := u2))
    refine ⟨a, innMenu, r1, rfl, by decide +kernel, by decide +kernel, by omega, d2.src, fun inn H3 i1 i2 dd3 => ?_⟩
    have d3 := d2.trans dd3
    have oi : ∀ c ∈ inn.cps.toList, okS c = true := fun c hc => innMenu_ok c (i1 c hc)
    have hil := len_cps inn
    have sz : ∀ {n : Nat}, n ≤ 1000 → n ≤ sizeLine := fun h => Nat.le_of_lt (szl (by omega))
    have fin : ∀ {Hy : Hp} {T : Addr} {x : DW} {vals : List V}, Drawn a H Hy → Hy T = none → vals = dwV x → WP x → Q (.ref T) (upd Hy T (.tup vals)) := fun dr nT hv hw => by
      subst hv
      exact q _ _ _ (dr.free2 ha0 nT) upd_same hw (dr.same (same_new nT))
    refine ⟨_, rfl, rfl, _, rfl, ite2 (fun _ => ?_) (fun _ => ?_)⟩
    · obtain ⟨x, y, u, hx⟩ := d3.src
      refine ⟨_, rfl, _, rfl, a, 6, x, y, u, rfl, by decide, by decide, hx, fun r2 x3 u3 hr2 => ?_⟩
      have d4 := d3.trans (drawn_upd (x := x3) (y := y) (z := u3))
      refine ⟨_, _, rfl, rfl, a, atmMenu, 1 + r2, by show [V.ref a, .str atmMenu, .int (1 + (r2 : Int))] = [V.ref a, .str atmMenu, .int ((1 + r2 : Nat) : Int)]; rw [Int.natCast_add]; rfl, by decide +kernel, by decide +kernel, by omega, d4.src, fun tol H4 t1 t2 dd5 => ?_⟩
      have d5 := d4.trans dd5
      have htl := len_cps tol
      have hok := fun c hc => atmMenu_ok c (t1 c hc)
      obtain ⟨tl, rfl⟩ : ∃ tl, tol = mk tl := ⟨tol.cps.toList, (mk_of _).symm⟩
      rw [mk_codes] at hok htl
      rw [mk_len] at t2 
      refine ⟨_, rfl, ?_⟩
      dsimp only [tNil, List.append_nil]
      refine sp_quoted (by omega) (fun c hc => (hok c hc).1) fun H5 s5 => ?_
      refine ⟨_, rfl, (by show 3 ≤ sizeLine; decide), fun T nT => ?_⟩
      refine fin (x := (quotedL tl, "atom", tl)) (d5.same s5) nT rfl (wp_atom (fun e => by rw [e] at t2; simp at t2; omega) (by omega) hok)
    refine ⟨_, rfl, rfl, _, rfl, ite2 (fun _ => ?_) (fun _ => ?_)⟩
    · have lb : (" " : Str).length = 1 := by decide +kernel
      have cb : (" " : Str).cps.toList = [32] := by decide +kernel
      have e : inn ++ (" " : Str) = mk (inn.cps.toList ++ [32]) := mk_eq (by rw [app_codes, cb])
      have hok : ∀ c ∈ inn.cps.toList ++ [32], okS c = true := fun c hc => by
        rcases List.mem_append.mp hc with hc | hc
        · exact oi c hc
        · rw [List.mem_singleton.mp hc]
          decide
      have hl : (inn.cps.toList ++ [32]).length ≤ 10 := by rw [List.length_append, List.length_singleton]; omega
      refine ⟨_, rfl, _, _, rfl, rfl, by rw [lb]; exact sz (by omega), ?_⟩
      dsimp only [tNil, List.append_nil]
      rw [e]
      refine sp_quoted (by omega) hok fun H5 s5 => ?_
      refine ⟨_, rfl, _, _, rfl, rfl, by rw [lb]; exact sz (by omega), (by show 3 ≤ sizeLine; decide), fun T nT => ?_⟩
      exact fin (x := (quotedL (inn.cps.toList ++ [32]), "quoted", inn.cps.toList ++ [32])) (d3.same s5) nT (by rw [e]; rfl) (wp_quoted hl hok (by simp))
    refine ⟨_, rfl, rfl, _, rfl, ite2 (fun _ => ?_) (fun _ => ?_)⟩
    · obtain ⟨x, y, u, hx⟩ := d3.src
      refine ⟨_, rfl, _, rfl, a, 4, x, y, u, rfl, by decide, by decide, hx, fun r2 x3 u3 hr2 => ?_⟩
      have d4 := d3.trans (drawn_upd (x := x3) (y := y) (z := u3))
      refine ⟨a, plMenu, r2, rfl, by decide +kernel, by decide +kernel, by omega, d4.src, fun pl H4 t1 t2 dd5 => ?_⟩
      have d5 := d4.trans dd5
      have hpl := len_cps pl
      have hok : ∀ c ∈ pl.cps.toList, okS c = true := fun c hc => plMenu_ok c (t1 c hc)
      have q1 : ("\"" : Str).length = 1 := by decide +kernel
      have qc : ("\"" : Str).cps.toList = [34] := by decide +kernel
      have l0 : ("" : Str).length = 0 := by decide +kernel
      refine ⟨⟨_, rfl⟩, _, rfl, pl, rfl, fun D hD => ?_⟩
      refine lc_it (walk_str (z := pl)) (fun i H' => Same H4 H' ∧ H' D = some (.lst (((pl.cps.toList.take i).map fun c => mk [92, c]).map V.str))) ⟨same_new hD, upd_same⟩ (fun _ _ _ _ => trivial) (fun i x H6 H7 hi hp hy => ?_) (fun H6 hp => ?_)
      · obtain ⟨rfl, c, hcc, rfl⟩ := hy
        obtain ⟨sm, hd⟩ := hp
        have hcl := cps_at hcc
        have htl := List.length_take_le i pl.cps.toList
        have hi' : i < pl.length := hi
        refine ⟨rfl, ?_⟩
        unfold tYes
        refine iteT ?_
        refine ⟨_, rfl, _, _, rfl, rfl, by show 1 + 1 ≤ sizeLine; decide, _, hd, by rw [List.length_map, List.length_map]; exact szl (by omega), same_set sm hD, ?_⟩
        rw [upd_same, take_more hcl, List.map_append, List.map_append]
        rfl
      · obtain ⟨sm, hd⟩ := hp
        rw [List.take_of_length_le (by simp)] at hd
        have hsum : ((pl.cps.toList.map fun c => mk [92, c]).map (·.length)).sum ≤ 100 := by
          have : ∀ l : List Nat, ((l.map fun c => mk [92, c]).map (·.length)).sum = 2 * l.length := fun l => by
            induction l with
            | nil => rfl
            | cons b r ih =>
              rw [List.map_cons, List.map_cons, List.sum_cons, ih, mk_len, List.length_cons]
              simp
              omega
          rw [this]
          omega
        refine ⟨("" : Str), D, _, rfl, rfl, .inl (SqL.of hd), by rw [l0]; omega, ?_⟩
        have hj : Txt.join ("" : Str) (pl.cps.toList.map fun c => mk [92, c]) = mk (pl.cps.toList.flatMap fun c => [92, c]) := mk_eq (by
          rw [join_codes, List.map_map, List.flatMap_def]
          congr 1)
        rw [hj]
        have hfl : (pl.cps.toList.flatMap fun c => [92, c]).length ≤ 100 := by
          have h1 : ∀ l : List Nat, (l.flatMap fun c => [92, c]).length = 2 * l.length := fun l => by
            induction l with
            | nil => rfl
            | cons b r ih =>
              rw [List.flatMap_cons, List.length_append, ih, List.length_cons]
              simp
              omega
          rw [h1]
          omega
        refine ⟨_, _, rfl, rfl, by rw [q1, mk_len]; exact sz (by omega), _, _, rfl, rfl, by rw [len_append, q1, mk_len]; exact sz (by omega), ?_⟩
        refine ⟨_, rfl, _, rfl, (by show 3 ≤ sizeLine; decide), fun T nT => ?_⟩
        have e : ("\"" : Str) ++ mk (pl.cps.toList.flatMap fun c => [92, c]) ++ ("\"" : Str) = mk (34 :: ((pl.cps.toList.flatMap fun c => [92, c]) ++ [34])) := mk_eq (by
          rw [app_codes, app_codes, mk_codes, qc]
          rfl)
        exact fin (x := (34 :: ((pl.cps.toList.flatMap fun c => [92, c]) ++ [34]), "quoted", pl.cps.toList)) (d5.same sm) nT (by rw [e]; show _ = [V.str _, V.str _, V.str (mk pl.cps.toList)]; rw [mk_of]) (wp_plain (by omega) hok)
    refine ⟨_, rfl, rfl, _, rfl, ite2 (fun _ => ?_) (fun _ => ?_)⟩
    · obtain ⟨x, y, u, hx⟩ := d3.src
      refine ⟨_, rfl, _, rfl, a, 6, x, y, u, rfl, by decide, by decide, hx, fun r2 x3 u3 hr2 => ?_⟩
      have d4 := d3.trans (drawn_upd (x := x3) (y := y) (z := u3))
      refine ⟨a, rmMenu, r2, rfl, by decide +kernel, by decide +kernel, by omega, d4.src, fun pl H4 t1 t2 dd5 => ?_⟩
      have d5 := d4.trans dd5
      have hpl := len_cps pl
      have hok := fun c hc => rmMenu_ok c (t1 c hc)
      have p1 : ("(" : Str).length = 1 := by decide +kernel
      have p2 : ("(x)" : Str).length = 3 := by decide +kernel
      have p3 : (")" : Str).length = 1 := by decide +kernel
      have k1 : ("(" : Str).cps.toList = [40] := by decide +kernel
      have k2 : ("(x)" : Str).cps.toList = [40, 120, 41] := by decide +kernel
      have k3 : (")" : Str).cps.toList = [41] := by decide +kernel
      refine ⟨_, rfl, _, _, rfl, rfl, by rw [p1]; exact sz (by omega), _, _, rfl, rfl, by rw [len_append, p1, p2]; exact sz (by omega), _, _, rfl, rfl, by rw [len_append, len_append, p1, p2, p3]; exact sz (by omega), ?_⟩
      refine ⟨_, rfl, _, _, rfl, rfl, by rw [p2]; exact sz (by omega), (by show 3 ≤ sizeLine; decide), fun T nT => ?_⟩
      have e1 : ("(" : Str) ++ pl ++ ("(x)" : Str) ++ (")" : Str) = mk (40 :: ((pl.cps.toList ++ [40, 120, 41]) ++ [41])) := mk_eq (by
        rw [app_codes, app_codes, app_codes, k1, k2, k3]
        simp)
      have e2 : pl ++ ("(x)" : Str) = mk (pl.cps.toList ++ [40, 120, 41]) := mk_eq (by rw [app_codes, k2])
      exact fin (x := (40 :: ((pl.cps.toList ++ [40, 120, 41]) ++ [41]), "remark", pl.cps.toList ++ [40, 120, 41])) d5 nT (by rw [e1, e2]; rfl) (wp_remark (by omega) hok)
    · obtain ⟨x, y, u, hx⟩ := d3.src
      refine ⟨_, rfl, a, 8, x, y, u, rfl, by decide, by decide, hx, fun r2 x3 u3 hr2 => ?_⟩
      have d4 := d3.trans (drawn_upd (x := x3) (y := y) (z := u3))
      have ml8 : marksText.length = 8 := by decide +kernel
      obtain ⟨c, hc⟩ : ∃ c, marksText.cps[r2]? = some c := ⟨_, Array.getElem?_eq_getElem (show r2 < marksText.cps.size by show r2 < marksText.length; omega)⟩
      have hm : c ∈ marks := by
        rw [← marksText_codes]
        exact List.mem_of_getElem? (cps_at hc)
      refine ⟨marksText, (r2 : Int), c, rfl, rfl, by omega, by omega, by rw [ml8]; omega, by rw [Int.toNat_natCast]; exact hc, ?_⟩
      refine ⟨_, rfl, _, rfl, (by show 3 ≤ sizeLine; decide), fun T nT => ?_⟩
      exact fin (x := ([c], "mark", [c])) d4 nT rfl (wp_mark hm)
end
end FL

namespace FL
open PySem PySem.Spec PyProof.Rows L2
theorem lay_app : ∀ (a b : List It), lay (a ++ b) = lay a ++ lay b
  | [], b => rfl
  | i :: r, b => by
    show List.replicate i.g 32 ++ (i.w ++ lay (r ++ b)) = (List.replicate i.g 32 ++ (i.w ++ lay r)) ++ lay b
    rw [lay_app r b]
    simp
theorem dueW_app : ∀ (a : List It) (i : It) (p : Nat), dueW p (a ++ [i]) = dueW p a ++ [(i.s, i.t, p + (lay a).length + i.g, p + (lay a).length + i.g + i.w.length)]
  | [], i, p => rfl
  | x :: r, i, p => by
    show _ :: dueW (p + x.g + x.w.length) (r ++ [i]) = _ :: (dueW (p + x.g + x.w.length) r ++ _)
    rw [dueW_app r i]
    have : (lay (x :: r)).length = x.g + (x.w.length + (lay r).length) := by
      show (List.replicate x.g 32 ++ (x.w ++ lay r)).length = _
      rw [List.length_append, List.length_append, List.length_replicate]
    rw [this, show p + x.g + x.w.length + (lay r).length = p + (x.g + (x.w.length + (lay r).length)) by omega]
def itOf (x : DW) (g : Nat) : It := ⟨g, x.1, x.2.1, x.2.2⟩
def its (xs : List DW) (gs : List Nat) : List It := List.zipWith itOf xs gs
theorem lay_len : ∀ (is : List It), (∀ i ∈ is, i.g ≤ 4 ∧ i.w.length ≤ 40) → (lay is).length ≤ 44 * is.length
  | [], _ => Nat.zero_le _
  | i :: r, h => by
    have h1 := h i (List.mem_cons_self ..)
    have h2 := lay_len r fun j hj => h j (List.mem_cons_of_mem _ hj)
    show (List.replicate i.g 32 ++ (i.w ++ lay r)).length ≤ _
    rw [List.length_append, List.length_append, List.length_replicate, List.length_cons]
    omega
def DwAt (H : Hp) (Ts : List Addr) (xs : List DW) : Prop := Paired (fun T x => H T = some (.tup (dwV x))) Ts xs
def gapV (g : Nat) : V := .str (mk (List.replicate g 32))
theorem paired_at9 {α β : Type} {F : α → β → Prop} {as : List α} {bs : List β} (h : Paired F as bs) : ∀ {i : Nat}, i < as.length → ∃ a b, as[i]? = some a ∧ bs[i]? = some b ∧ F a b := by
  induction h with
  | nil => exact fun h => absurd h (by simp)
  | cons x y ih =>
    intro i hi
    cases i with
    | zero => exact ⟨_, _, rfl, rfl, x⟩
    | succ i =>
      obtain ⟨a, b, h1, h2, h3⟩ := ih (i := i) (by simpa using hi)
      exact ⟨a, b, by simpa using h1, by simpa using h2, h3⟩
theorem paired_mem9 {α β : Type} {F G : α → β → Prop} {as : List α} {bs : List β} (h : Paired F as bs) (k : ∀ a b, F a b → G a b) : Paired G as bs := by
  induction h with
  | nil => exact .nil
  | cons a b ih => exact .cons (k _ _ a) ih
theorem DwAt.drawn {a : Addr} {H H' : Hp} {Ts : List Addr} {xs : List DW} (h : DwAt H Ts xs) (ha : Src H a) (d : Drawn a H H') : DwAt H' Ts xs := by
  unfold DwAt at h ⊢
  obtain ⟨x, y, z, hx⟩ := ha
  induction h with
  | nil => exact .nil
  | cons p q ih => exact .cons (d.old _ _ (fun e => by rw [e, hx] at p; cases p) p) ih
theorem DwAt.same {H H' : Hp} {Ts : List Addr} {xs : List DW} (h : DwAt H Ts xs) (s : Same H H') : DwAt H' Ts xs := by
  unfold DwAt at h ⊢
  induction h with
  | nil => exact .nil
  | cons p q ih => exact .cons (s _ _ p) ih
section
variable {P : Program} {w : World} {K : PySem.W.Frag} {mg : Str → Option Value} {base : Heap}
def spLaid : Sp := fun vs H Q _ => ∃ (a D G : Addr) (Ts : List Addr) (xs : List DW) (gs : List Nat), vs = [.ref a, .ref D, .ref G] ∧ Src H a ∧ D ≠ a ∧ G ≠ a ∧ H D = some (.lst (Ts.map V.ref)) ∧ DwAt H Ts xs ∧ H G = some (.lst (gs.map gapV)) ∧
  xs.length ≤ 12 ∧ xs.length ≤ gs.length ∧ (∀ x ∈ xs, WP0 x) ∧ (∀ g ∈ gs, g ≤ 4) ∧
  ∀ T2 L2 Us e H', H T2 = none → H L2 = none → H' T2 = some (.tup [.str (mk (lay (its xs gs) ++ List.replicate e 32)), .ref L2]) → H' L2 = some (.lst (Us.map V.ref)) → TupsAt H H' Us (dueW 0 (its xs gs)) → e ≤ 3 → Drawn a H H' → Q (.ref T2) H'
theorem scLaid : FnScope ["_law_source_here", "_law_drawn", "_law_gaps", "_law_text", "_law_due", "_law_k", "_law_one"] ["_law_source_here", "_law_drawn", "_law_gaps"] (defScope sLawLaid) := ⟨rfl, rfl, rfl, by decide +kernel, rfl, by decide +kernel, by decide +kernel⟩
theorem r_laid (A : FnAt K mg "_law_laid" sLawLaid) (RN : Ready P w K mg base 2 "_law_next" ["_law_source_here", "_law_many"] spNext) (ml : mg "len" = none) (me : mg "enumerate" = none) : Ready P w K mg base 3 "_law_laid" ["_law_source_here", "_law_drawn", "_law_gaps"] spLaid := by
  obtain ⟨f1, fd1, g1, k1, b1, G1⟩ := RN
  refine ready_of A (fun _ _ _ _ _ _ us hl => match us, hl with | [_, _, _], _ => rfl) fun f fd F => ?_
  refine F.ok scLaid (fun vs H Q E h => ?_) (fun cdv A outer s H vs Q E hr h => ?_)
  · obtain ⟨a, D, G, Ts, xs, gs, rfl, _⟩ := h
    rfl
  · obtain ⟨a, D, G, Ts, xs, gs, rfl, hS, hDa, hGa, hD, hT, hG, hxl, hxg, hw, hg, q⟩ := h
    have sc := scLaid
    refine ⟨_, pss_cons (ps_set (i := 3) sc.nd rfl (.inl rfl) pe_str)
      (pss_cons (ps_set (i := 4) sc.nd rfl (.inl rfl) (pe_lst pa_nil))
      (pss_cons (ps_for PassesOwn.never rfl (pi_enum (by rfl) me (pa_cons (pv 1) pa_nil)) (pg_tup (by rfl) (pgs_cons (pg_name (i := 5) sc.nd rfl (.inl rfl)) (pgs_cons (pg_name (i := 6) sc.nd rfl (.inl rfl)) pgs_nil)))
        (pss_cons (ps_set (i := 3) sc.nd rfl (.inl rfl) (pe_op op_add_str (pv 3) (pe_ix ix_list (pv 2) (pv 5) (fun _ _ => rfl))))
        (pss_cons (ps_expr (pe_bm PySem.F.plainAttrs_list PySem.F.slot_list_append PySem.F.type_list_append mt_append (pv 4) (pa_cons (pe_tup (pa_cons (pe_ix ix_tup (pv 6) pe_int (fun _ _ => rfl)) (pa_cons (pe_ix ix_tup (pv 6) pe_int (fun _ _ => rfl))
          (pa_cons (pe_callB call_len_str (by rfl) ml PySem.boot_len (pa_cons (pv 3) pa_nil)) (pa_cons (pe_op op_add (pe_callB call_len_str (by rfl) ml PySem.boot_len (pa_cons (pv 3) pa_nil)) (pe_callB call_len_str (by rfl) ml PySem.boot_len (pa_cons (pe_ix ix_tup (pv 6) pe_int (fun _ _ => rfl)) pa_nil))) pa_nil))))) pa_nil)))
        (pss_one (ps_set (i := 3) sc.nd rfl (.inl rfl) (pe_op op_add_str (pv 3) (pe_ix ix_tup (pv 6) pe_int (fun _ _ => rfl))))))))
      (pss_one (ps_ret (pe_tup (pa_cons (pe_op op_add_str (pv 3) (pe_op op_mulS pe_str (pe_call G1 hr (by rfl) g1 k1 b1 .nil pass0 (pa_cons (pv 0) (pa_cons pe_int pa_nil))))) (pa_cons (pv 4) pa_nil))))))), ?_⟩
    have ha0 : H a ≠ none := by
      obtain ⟨x, y, z, e⟩ := hS
      rw [e]
      simp
    have d0 : Drawn a H H := Drawn.refl hS
    have hTl : Ts.length = xs.length := Paired.length hT
    have hil : (its xs gs).length = xs.length := by
      unfold its
      rw [List.length_zipWith]
      omega
    have hitm : ∀ i ∈ its xs gs, i.g ≤ 4 ∧ i.w.length ≤ 40 := fun i hi => by
      unfold its at hi
      obtain ⟨k, hk, e⟩ := List.getElem_of_mem hi
      rw [List.getElem_zipWith] at e
      rw [← e]
      exact ⟨hg _ (List.getElem_mem ..), (hw _ (List.getElem_mem ..)).len⟩
    refine ⟨Nat.zero_le _, fun L nL => ?_⟩
    have eL : L ≠ a := fun e => ha0 (e ▸ nL)
    have dL := d0.same (same_new (o := .lst []) nL)
    refine ⟨_, rfl, D, _, rfl, SqL.of (same_new nL _ _ hD), ?_⟩
    refine for_it (walk_enum (K := K) (a := D) (xs := Ts.map V.ref)) (fun i σ H' => ∃ (Us : List Addr) (y5 y6 : Option V), σ = [some (.ref a), some (.ref D), some (.ref G), some (.str (mk (lay ((its xs gs).take i)))), some (.ref L), y5, y6] ∧ Same H H' ∧ H' L = some (.lst (Us.map V.ref)) ∧ TupsAt H H' Us (dueW 0 ((its xs gs).take i)))
      ⟨[], none, none, rfl, same_new nL, upd_same, .nil⟩ (fun i σ H1 _ hp => ?_) (fun i x σ H1 H2 hi hp hy => ?_) (fun σ H1 hp => ?_)
    · obtain ⟨Us, y5, y6, rfl, sm, _⟩ := hp
      exact SqL.of (sm _ _ hD)
    · obtain ⟨Us, y5, y6, rfl, sm, hL, hU⟩ := hp
      obtain ⟨T0, xx, yy, rfl, nT0, rfl, hxx, hyy⟩ := hy
      injection hxx with hxx
      subst hxx
      rw [List.length_map] at hi
      obtain ⟨T, x, t1, t2, t3⟩ := paired_at9 hT hi
      have hyy : (Ts.map V.ref)[i]? = some yy := hyy
      rw [List.getElem?_map, t1] at hyy
      injection hyy with hyy
      subst hyy
      have hix : i < xs.length := (List.getElem?_eq_some_iff.mp t2).1
      obtain ⟨g, hgg⟩ : ∃ g, gs[i]? = some g := ⟨_, List.getElem?_eq_getElem (by omega)⟩
      have hit : (its xs gs)[i]? = some (itOf x g) := by
        unfold its
        rw [List.getElem?_zipWith, t2, hgg]
      have tk := take_more hit
      have hgl := hg g (List.mem_of_getElem? hgg)
      have hwx := (hw x (List.mem_of_getElem? t2)).len
      have hll := lay_len ((its xs gs).take i) (fun j hj => hitm j (List.mem_of_mem_take hj))
      have htl := List.length_take_le i (its xs gs)
      have sT := same_new (o := .tup [.int (i : Nat), .ref T]) nT0
      refine ⟨T0, _, rfl, SqT.of upd_same, rfl, _, _, rfl, _, _, rfl, rfl, ?_⟩
      have sm2 := sm.trans sT
      have hL2 := sT _ _ hL
      have hU2 : TupsAt H (upd H1 T0 (.tup [.int (i : Nat), .ref T])) Us (dueW 0 ((its xs gs).take i)) := TupsAt.same hU fun T' x _ h => sT _ _ h
      generalize (upd H1 T0 (.tup [.int (i : Nat), .ref T])) = H2 at sm2 hL2 hU2 ⊢
      refine ⟨_, rfl, _, rfl, _, rfl, G, _, _, gapV g, rfl, rfl, SqL.of (sm2 _ _ hG), atI_nat (by rw [List.getElem?_map, hgg]; rfl), ?_⟩
      refine ⟨_, _, rfl, rfl, by rw [mk_len, mk_len, List.length_replicate]; exact Nat.le_of_lt (szl (by omega)), ?_⟩
      have ev : mk (lay ((its xs gs).take i)) ++ mk (List.replicate g 32) = mk (lay ((its xs gs).take i) ++ List.replicate g 32) := mk_app _ _
      rw [ev]
      have hT2 := sm2 _ _ t3
      have htx : (mk (lay ((its xs gs).take i) ++ List.replicate g 32)).length = (lay ((its xs gs).take i)).length + g := by rw [mk_len, List.length_append, List.length_replicate]
      have hsz : (mk (lay ((its xs gs).take i) ++ List.replicate g 32)).length ≤ sizeLine := by rw [htx]; exact Nat.le_of_lt (szl (by omega))
      have hUl : Us.length ≤ 1000 := by
        have h1 := Paired.length hU2
        have h2 : ∀ (is : List It) (p : Nat), (dueW p is).length = is.length := fun is => by
          induction is with
          | nil => exact fun _ => rfl
          | cons i r ih => exact fun p => by show (_ :: dueW _ r).length = _; rw [List.length_cons, ih, List.length_cons]
        rw [h2] at h1
        omega
      refine ⟨_, rfl, .inl ⟨rfl, _, SqL.of hL2⟩, _, rfl, T, _, 1, _, rfl, rfl, SqT.of hT2, rfl, _, rfl, T, _, 2, _, rfl, rfl, SqT.of hT2, rfl, _, rfl, _, rfl, hsz, _, rfl, _, rfl, hsz, _, rfl, T, _, 0, _, rfl, rfl, SqT.of hT2, rfl, _, rfl, by rw [mk_len]; exact Nat.le_of_lt (szl (by omega)), _, _, rfl, rfl, (by show 4 ≤ sizeLine; decide), fun p np => ?_⟩
      have hpL : p ≠ L := fun e => by rw [e, hL2] at np; cases np
      have sp := same_new (o := .tup [V.str x.2.1, .str (mk x.2.2), .int ((mk (lay ((its xs gs).take i) ++ List.replicate g 32)).length : Nat), .int (((mk (lay ((its xs gs).take i) ++ List.replicate g 32)).length : Nat) + ((mk x.1).length : Nat) : Int)]) np
      refine ⟨L, _, _, rfl, rfl, sp _ _ hL2, by rw [List.length_map]; exact szl (by omega), ?_⟩
      have hTL : T ≠ L := fun e => by rw [e, hL2] at hT2; cases hT2
      refine ⟨_, rfl, _, rfl, T, _, 0, _, rfl, rfl, SqT.of (by rw [upd_ne hTL]; exact sp _ _ hT2), rfl, _, _, rfl, rfl, by rw [htx, mk_len]; exact Nat.le_of_lt (szl (by omega)), ?_⟩
      refine ⟨Us ++ [p], some (.int (i : Nat)), some (.ref T), ?_, same_set (sm2.trans sp) nL, by rw [upd_same, List.map_append]; rfl, ?_⟩
      · have el : mk (lay ((its xs gs).take i) ++ List.replicate g 32) ++ mk x.1 = mk (lay ((its xs gs).take (i + 1))) := by
          rw [mk_app, tk, lay_app]
          congr 1
          show _ = lay ((its xs gs).take i) ++ (List.replicate g 32 ++ (x.1 ++ []))
          rw [List.append_nil, List.append_assoc]
        rw [← el]
        rfl
      · rw [tk, dueW_app]
        refine Paired.snoc (TupsAt.same hU2 fun T' y _ h => ?_) ⟨Same.free sm2 np, ?_⟩
        · have : T' ≠ L := fun e => by
            rw [e, hL2] at h
            cases h
          rw [upd_ne this]
          exact sp _ _ h
        · rw [upd_ne hpL, upd_same]
          have e1 : ((mk (lay ((its xs gs).take i) ++ List.replicate g 32)).length : Nat) = 0 + (lay ((its xs gs).take i)).length + g := by rw [htx]; omega
          have e2 : (((mk (lay ((its xs gs).take i) ++ List.replicate g 32)).length : Nat) + ((mk x.1).length : Nat) : Int) = ((0 + (lay ((its xs gs).take i)).length + g + x.1.length : Nat) : Int) := by rw [htx, mk_len]; omega
          show some (HO.tup [V.str x.2.1, .str (mk x.2.2), .int ((mk (lay ((its xs gs).take i) ++ List.replicate g 32)).length : Nat), .int (((mk (lay ((its xs gs).take i) ++ List.replicate g 32)).length : Nat) + ((mk x.1).length : Nat) : Int)]) = _
          rw [e2, e1]
          rfl
    · obtain ⟨Us, y5, y6, rfl, sm, hL, hU⟩ := hp
      have hll := lay_len (its xs gs) hitm
      rw [List.length_map, List.take_of_length_le (by omega)] at hU
      have hfull : (its xs gs).take (Ts.map V.ref).length = its xs gs := List.take_of_length_le (by rw [List.length_map]; omega)
      rw [hfull]
      obtain ⟨x, y, u, hx⟩ := hS
      refine ⟨_, rfl, _, rfl, a, 3, x, y, u, rfl, by decide, by decide, sm _ _ hx, fun e x1 u1 he => ?_⟩
      have d1 := (d0.same sm).trans (drawn_upd (x := x1) (y := y) (z := u1))
      refine ⟨32, e, rfl, rfl, by omega, _, _, rfl, rfl, by rw [mk_len, mk_len, List.length_replicate]; exact Nat.le_of_lt (szl (by omega)), ?_⟩
      rw [mk_app]
      refine ⟨_, rfl, (by show 2 ≤ sizeLine; decide), fun T2 nT2 => ?_⟩
      have s2 := same_new (o := .tup [.str (mk (lay (its xs gs) ++ List.replicate e 32)), .ref L]) nT2
      refine q T2 L Us e _ (d1.free2 ha0 nT2) nL upd_same (s2 _ _ (by rw [upd_ne eL]; exact hL)) ?_ (by omega) (d1.same s2)
      have hU3 : TupsAt H (upd H1 a (.lst [.int x1, .int y, .int u1])) Us (dueW 0 (its xs gs)) := by
        refine paired_mem9 hU fun T' z hz => ⟨hz.1, ?_⟩
        have : T' ≠ a := fun e => ha0 (e ▸ hz.1)
        rw [upd_ne this]
        exact hz.2
      exact TupsAt.same hU3 fun T' z _ h => s2 _ _ h
end
end FL

namespace FL
open PySem PySem.Spec PyProof.Rows L2
/-- neighbouring atoms have a gap -/
def PF (xs : List DW) (gs : List Nat) : Prop := ∀ k x y g, xs[k]? = some x → xs[k + 1]? = some y → gs[k + 1]? = some g → x.2.1 = ("atom" : Str) → y.2.1 = ("atom" : Str) → 1 ≤ g
theorem fit_of : ∀ (xs : List DW) (gs : List Nat), PF xs gs → Fit (its xs gs)
  | [], _, _ => trivial
  | _ :: _, [], _ => trivial
  | [_], _ :: _, _ => trivial
  | _ :: _ :: _, [_], _ => trivial
  | x :: y :: r, g :: h :: gr, hp => ⟨fun a b => hp 0 x y h rfl rfl rfl a b, fit_of (y :: r) (h :: gr) fun k a b c h1 h2 h3 => hp (k + 1) a b c h1 h2 h3⟩
def rW : DW := ([40, 114, 41], "remark", [114])
theorem rW_word : WordOk rW.1 rW.2.1 rW.2.2 := by
  show WordOk (40 :: ([114] ++ [41])) "remark" [114]
  refine word_remark fun p rest => ?_
  show rem 1 p (114 :: 41 :: rest) = _
  rw [rem_other (by decide) (by decide) (by decide), rem_close, if_pos (by decide)]
  rfl
theorem rW_no : rW.2.1 ≠ ("atom" : Str) := by show ¬ ("remark" : Str) = "atom"; decide +kernel
def moreX (xs : List DW) (k : Nat) : List DW := xs.take k ++ [rW] ++ xs.drop k
def moreG (gs : List Nat) (k n : Nat) : List Nat := gs.take k ++ [1] ++ List.replicate (if k < n then 1 else 0) 1 ++ gs.drop (k + 1)
theorem moreX_get {xs : List DW} {k j : Nat} (hk : k ≤ xs.length) : (moreX xs k)[j]? = if j < k then xs[j]? else if j = k then some rW else xs[j - 1]? := by
  unfold moreX
  have hl : (xs.take k).length = k := by rw [List.length_take]; omega
  by_cases h1 : j < k
  · rw [if_pos h1, List.append_assoc, List.getElem?_append_left (by omega), List.getElem?_take_of_lt h1]
  · rw [if_neg h1, List.append_assoc, List.getElem?_append_right (by omega), hl]
    by_cases h2 : j = k
    · rw [if_pos h2, h2, Nat.sub_self]
      rfl
    · rw [if_neg h2, List.getElem?_append_right (by simp; omega), List.getElem?_drop]
      congr 1
      simp
      omega
theorem moreG_get {gs : List Nat} {k j : Nat} (hk : k ≤ gs.length) : (moreG gs k gs.length)[j]? = if j < k then gs[j]? else if j = k then some 1 else if j = k + 1 ∧ k < gs.length then some 1 else gs[j - 1]? := by
  unfold moreG
  have hl : (gs.take k).length = k := by rw [List.length_take]; omega
  by_cases h1 : j < k
  · rw [if_pos h1, List.append_assoc, List.append_assoc, List.getElem?_append_left (by omega), List.getElem?_take_of_lt h1]
  · rw [if_neg h1, List.append_assoc, List.append_assoc, List.getElem?_append_right (by omega), hl]
    by_cases h2 : j = k
    · rw [if_pos h2, h2, Nat.sub_self]
      rfl
    · rw [if_neg h2, List.getElem?_append_right (by simp; omega)]
      by_cases h3 : k < gs.length
      · rw [if_pos h3]
        by_cases h4 : j = k + 1
        · rw [if_pos ⟨h4, h3⟩, h4]
          have : k + 1 - k - [1].length = 0 := by simp
          rw [this]
          rfl
        · rw [if_neg (fun z => h4 z.1), List.getElem?_append_right (by simp; omega), List.getElem?_drop]
          congr 1
          simp
          omega
      · rw [if_neg h3, if_neg (fun z => h3 z.2)]
        show (gs.drop (k + 1))[_]? = _
        rw [List.getElem?_drop, List.getElem?_eq_none (by simp; omega), List.getElem?_eq_none (by omega)]
theorem more_pf {xs : List DW} {gs : List Nat} {k : Nat} (hl : xs.length = gs.length) (hk : k ≤ xs.length) (h : PF xs gs) : PF (moreX xs k) (moreG gs k gs.length) := by
  intro j x y g hx hy hg hxa hya
  rw [moreX_get hk] at hx hy
  rw [moreG_get (by omega)] at hg
  by_cases h1 : j + 1 < k
  · rw [if_pos (by omega)] at hx
    rw [if_pos h1] at hy hg
    exact h j x y g hx hy hg hxa hya
  · rw [if_neg h1] at hy hg
    by_cases h2 : j + 1 = k
    · rw [if_pos h2] at hy
      injection hy with hy
      rw [← hy] at hya
      exact absurd hya rW_no
    · rw [if_neg h2] at hy hg
      rw [if_neg (by omega)] at hx
      by_cases h3 : j = k
      · rw [if_pos h3] at hx
        injection hx with hx
        rw [← hx] at hxa
        exact absurd hxa rW_no
      · rw [if_neg h3] at hx
        have hj : j + 1 - 1 < xs.length := (List.getElem?_eq_some_iff.mp hy).1
        rw [if_neg (by omega)] at hg
        obtain ⟨i, rfl⟩ : ∃ i, j = i + 1 := ⟨j - 1, by omega⟩
        exact h i x y g hx hy hg hxa hya
/-- the signs of what is laid -/
theorem lay_ok : ∀ (is : List It), (∀ i ∈ is, ∀ c ∈ i.w, okS c = true) → ∀ c ∈ lay is, okS c = true
  | [], _, c, hc => by cases hc
  | i :: r, h, c, hc => by
    have hc' : c ∈ List.replicate i.g 32 ++ (i.w ++ lay r) := hc
    simp only [List.mem_append] at hc'
    rcases hc' with hc' | hc' | hc'
    · rw [List.eq_of_mem_replicate hc']
      decide
    · exact h i (List.mem_cons_self ..) c hc'
    · exact lay_ok r (fun j hj => h j (List.mem_cons_of_mem _ hj)) c hc'
theorem due_mem : ∀ (is : List It) (p : Nat) (x : Wd), x ∈ dueW p is → ∃ i ∈ is, x.1 = i.s ∧ x.2.1 = i.t
  | [], _, _, h => by cases h
  | i :: r, p, x, h => by
    rcases List.mem_cons.mp h with rfl | h
    · exact ⟨i, List.mem_cons_self .., rfl, rfl⟩
    · obtain ⟨j, hj, e⟩ := due_mem r _ x h
      exact ⟨j, List.mem_cons_of_mem _ hj, e⟩
theorem due_pairs : ∀ (is : List It) (p : Nat), (dueW p is).map (fun x => (x.1, x.2.1)) = is.map fun i => (i.s, i.t)
  | [], _ => rfl
  | i :: r, p => by
    show (i.s, i.t) :: _ = (i.s, i.t) :: _
    rw [due_pairs r]
theorem its_pairs : ∀ (xs : List DW) (gs : List Nat), xs.length ≤ gs.length → (its xs gs).map (fun i => (i.s, i.t)) = xs.map fun x => (x.2.1, x.2.2)
  | [], _, _ => by simp [its]
  | _ :: _, [], h => by simp at h
  | x :: r, g :: gs, h => by
    show (x.2.1, x.2.2) :: (its r gs).map _ = _ :: _
    rw [its_pairs r gs (by simpa using h)]
/-- without the remark that was put in -/
theorem told_same {xs : List DW} {k : Nat} (h : ∀ x ∈ xs, (x.2.1, x.2.2) ≠ (("remark" : Str), [114])) : (((moreX xs k).map fun x => (x.2.1, x.2.2)).filter fun y => !decide (y = (("remark" : Str), [114]))) = (xs.map fun x => (x.2.1, x.2.2)).filter fun y => !decide (y = (("remark" : Str), [114])) := by
  have hr : decide ((rW.2.1, rW.2.2) = (("remark" : Str), ([114] : List Nat))) = true := decide_eq_true rfl
  unfold moreX
  rw [List.map_append, List.map_append, List.filter_append, List.filter_append]
  show _ ++ List.filter _ [(rW.2.1, rW.2.2)] ++ _ = _
  rw [List.filter_cons, hr]
  show _ ++ [] ++ _ = _
  rw [List.append_nil, ← List.filter_append, ← List.map_append, List.take_append_drop]
theorem DwAt.upd {H : Hp} {D : Addr} {l : List V} {o : HO} {Ts : List Addr} {xs : List DW} (h : DwAt H Ts xs) (hD : H D = some (.lst l)) : DwAt (upd H D o) Ts xs :=
  paired_mem9 h fun T x hx => by
    have : T ≠ D := fun e => by
      rw [e, hD] at hx
      cases hx
    rw [upd_ne this]
    exact hx
theorem rW_zero : WP0 rW := ⟨rW_word, by decide, by decide, by decide, by show ∀ c ∈ ("remark" : Str).cps.toList, c < 128; decide +kernel⟩
theorem DwAt.more {H : Hp} {Ts : List Addr} {xs : List DW} (h : DwAt H Ts xs) (k : Nat) {tR : Addr} (hR : H tR = some (.tup (dwV rW))) : DwAt H (Ts.take k ++ [tR] ++ Ts.drop k) (moreX xs k) := by
  have app : ∀ {as cs : List Addr} {bs ds : List DW}, DwAt H as bs → DwAt H cs ds → DwAt H (as ++ cs) (bs ++ ds) := fun h1 h2 => by
    unfold DwAt at h1 h2 ⊢
    induction h1 with
    | nil => exact h2
    | cons p q ih => exact .cons p ih
  have both : ∀ {as : List Addr} {bs : List DW}, DwAt H as bs → ∀ k, DwAt H (as.take k) (bs.take k) ∧ DwAt H (as.drop k) (bs.drop k) := fun h1 => by
    unfold DwAt at h1 ⊢
    induction h1 with
    | nil => exact fun k => by simp; exact .nil
    | cons p q ih =>
      intro k
      cases k with
      | zero => exact ⟨.nil, .cons p q⟩
      | succ k => exact ⟨.cons p (ih k).1, (ih k).2⟩
  obtain ⟨h1, h2⟩ := both h k
  unfold moreX
  exact app (app h1 (.cons hR .nil)) h2
theorem told_same' {xs : List DW} {k : Nat} (hw : ∀ x ∈ xs, WP x) : (((moreX xs k).map fun x => (x.2.1, x.2.2)).filter fun y => !decide (y = (("remark" : Str), [114]))) = (xs.map fun x => (x.2.1, x.2.2)).filter fun y => !decide (y = (("remark" : Str), [114])) :=
  told_same fun x hx e => (hw x hx).no (congrArg Prod.fst e) (congrArg Prod.snd e)
end FL

namespace FL
open PySem PySem.Spec PyProof.Rows L2
def wsD (ws : List Wd) : List PyData := ws.map fun x => .tuple [.str x.1, .str (mk x.2.1), .int (x.2.2.1 : Nat), .int (x.2.2.2 : Nat)]
def WsOk (ws : List Wd) : Prop := ∀ x ∈ ws, (∀ c ∈ x.1.cps.toList, c < 128) ∧ ∀ c ∈ x.2.1, c < 128
theorem ws_dp {K : PySem.W.Frag} {H0 H : Hp} {Ts : List Addr} {ws : List Wd} (h : TupsAt H0 H Ts ws) : DpAll K H (Ts.map V.ref) (wsD ws) := by
  unfold TupsAt at h
  induction h with
  | nil => exact .nil
  | cons a b ih => exact .cons (.tup (SqT.of a.2) (.cons (.str _) (.cons (.str _) (.cons (.int _) (.cons (.int _) .nil))))) ih
theorem ws_shaped {ws : List Wd} (h : WsOk ws) : SeqAt.shaped (.list (wsD ws)) = true := by
  refine shaped_of ?_ ?_
  · rw [PyData.canLay0]
    refine canLayAll_of fun d hd => ?_
    obtain ⟨x, hx, rfl⟩ := List.mem_map.mp hd
    rw [PyData.canLay0]
    refine canLayAll_of fun e he => ?_
    simp only [List.mem_cons, List.not_mem_nil, or_false] at he
    rcases he with rfl | rfl | rfl | rfl
    · exact canLay_str (strOk_of (h x hx).1)
    · exact canLay_str (strOk_of fun c hc => (h x hx).2 c (by rw [mk_codes] at hc; exact hc))
    · rfl
    · rfl
  · rw [PyData.depth]
    have : PyData.depthAll (wsD ws) ≤ 1 := depthAll_of fun d hd => by
      obtain ⟨x, hx, rfl⟩ := List.mem_map.mp hd
      rw [PyData.depth]
      have : PyData.depthAll [PyData.str x.1, PyData.str (mk x.2.1), PyData.int (x.2.2.1 : Nat), PyData.int (x.2.2.2 : Nat)] ≤ 0 := depthAll_of fun e he => by
        simp only [List.mem_cons, List.not_mem_nil, or_false] at he
        rcases he with rfl | rfl | rfl | rfl <;> (rw [PyData.depth]; exact Nat.le_refl _)
      omega
    omega
theorem ws_self {ws : List Wd} (h : SeqAt.shaped (.list (wsD ws)) = true) : PyData.eqv (.list (wsD ws)) (.list (wsD ws)) = true := SeqAt.eqv_refl _ (Bool.and_eq_true_iff.mp h).1
theorem cutV_toN (xs : List V) (k : Nat) : cutV xs none (some (k : Nat)) = xs.take k := by
  unfold cutV
  rw [HT.sIx_none, HT.sIx_nat]
  show (List.take _ (List.drop 0 _)) = _
  rw [List.drop_zero, Nat.sub_zero]
  by_cases h : k ≤ xs.length
  · rw [Nat.min_eq_left h]
  · rw [Nat.min_eq_right (by omega), List.take_of_length_le (Nat.le_refl _), List.take_of_length_le (by omega)]
theorem cutV_fromN (xs : List V) (k : Nat) : cutV xs (some (k : Nat)) none = xs.drop k := by
  unfold cutV
  rw [HT.sIx_none, HT.sIx_nat]
  by_cases h : k ≤ xs.length
  · rw [Nat.min_eq_left h]
    exact List.take_of_length_le (by rw [List.length_drop]; omega)
  · rw [Nat.min_eq_right (by omega), List.drop_eq_nil_of_le (Nat.le_refl _), List.drop_eq_nil_of_le (by omega)]
    exact List.take_nil
abbrev Pr := Str × List Nat
def keepP (y : Pr) : Bool := !decide (y = (("remark" : Str), [114]))
def prV (y : Pr) : List V := [.str y.1, .str (mk y.2)]
def prD (ys : List Pr) : List PyData := ys.map fun y => .tuple [.str y.1, .str (mk y.2)]
theorem eqv_pair (y : Pr) : PyData.eqv (.tuple [.str y.1, .str (mk y.2)]) (.tuple [.str ("remark" : Str), .str ("r" : Str)]) = !keepP y := by
  have hr : ("r" : Str) = mk [114] := by decide +kernel
  have h1 : PyData.eqv (.tuple [.str y.1, .str (mk y.2)]) (.tuple [.str ("remark" : Str), .str ("r" : Str)]) = (decide (y.1 = ("remark" : Str)) && decide (mk y.2 = ("r" : Str))) := by
    have hb : ∀ a b : Str, (a == b) = decide (a = b) := fun a b => by
      by_cases h : a = b
      · rw [decide_eq_true h, h]
        exact beq_self_eq_true _
      · rw [decide_eq_false h]
        exact beq_false_of_ne h
    rw [← hb, ← hb]
    simp [PyData.eqv, PyData.eqvAll]
  rw [h1]
  unfold keepP
  rw [Bool.not_not]
  by_cases ha : y.1 = ("remark" : Str)
  · by_cases hb : y.2 = [114]
    · rw [decide_eq_true ha, decide_eq_true (by rw [hb, hr]), decide_eq_true (Prod.ext ha hb)]
      rfl
    · rw [decide_eq_true ha, decide_eq_false (fun e => hb (mk_inj (e.trans hr))), decide_eq_false (fun e => hb (congrArg Prod.snd e))]
      rfl
  · rw [decide_eq_false ha, decide_eq_false (fun e => ha (congrArg Prod.fst e))]
    rfl
theorem pr_shaped {ys : List Pr} (h : ∀ y ∈ ys, (∀ c ∈ y.1.cps.toList, c < 128) ∧ ∀ c ∈ y.2, c < 128) : SeqAt.shaped (.list (prD ys)) = true ∧ ∀ y ∈ ys, SeqAt.shaped (.tuple [.str y.1, .str (mk y.2)]) = true := by
  have one : ∀ x ∈ ys, (PyData.str x.1).canLay0 = true ∧ (PyData.str (mk x.2)).canLay0 = true := fun x hx =>
    ⟨canLay_str (strOk_of (h x hx).1), canLay_str (strOk_of fun c hc => (h x hx).2 c (by rw [mk_codes] at hc; exact hc))⟩
  have two : ∀ x ∈ ys, (PyData.tuple [.str x.1, .str (mk x.2)]).canLay0 = true ∧ (PyData.tuple [.str x.1, .str (mk x.2)]).depth ≤ 1 := fun x hx => by
    constructor
    · rw [PyData.canLay0]
      refine canLayAll_of fun e he => ?_
      rcases List.mem_cons.mp he with rfl | he
      · exact (one x hx).1
      · rw [List.mem_singleton.mp he]
        exact (one x hx).2
    · rw [PyData.depth]
      have : PyData.depthAll [PyData.str x.1, PyData.str (mk x.2)] ≤ 0 := depthAll_of fun e he => by
        rcases List.mem_cons.mp he with rfl | he
        · rw [PyData.depth]; exact Nat.le_refl _
        · rw [List.mem_singleton.mp he, PyData.depth]; exact Nat.le_refl _
      omega
  refine ⟨shaped_of ?_ ?_, fun y hy => shaped_of (two y hy).1 (Nat.le_trans (two y hy).2 (by decide))⟩
  · rw [PyData.canLay0]
    refine canLayAll_of fun d hd => ?_
    obtain ⟨x, hx, rfl⟩ := List.mem_map.mp hd
    exact (two x hx).1
  · rw [PyData.depth]
    have : PyData.depthAll (prD ys) ≤ 1 := depthAll_of fun d hd => by
      obtain ⟨x, hx, rfl⟩ := List.mem_map.mp hd
      exact (two x hx).2
    omega
def PrAt (H0 H : Hp) (Ps : List Addr) (ys : List Pr) : Prop := Paired (fun T y => H0 T = none ∧ H T = some (.tup (prV y))) Ps ys
theorem pr_dp {K : PySem.W.Frag} {H0 H : Hp} {Ps : List Addr} {ys : List Pr} (h : PrAt H0 H Ps ys) : DpAll K H (Ps.map V.ref) (prD ys) := by
  unfold PrAt at h
  induction h with
  | nil => exact .nil
  | cons a b ih => exact .cons (.tup (SqT.of a.2) (.cons (.str _) (.cons (.str _) .nil))) ih
theorem PrAt.same {H0 H H' : Hp} {Ps : List Addr} {ys : List Pr} (h : PrAt H0 H Ps ys) (k : ∀ T y, H T = some (.tup (prV y)) → H' T = some (.tup (prV y))) : PrAt H0 H' Ps ys := by
  unfold PrAt at h ⊢
  exact paired_mem9 h fun T y hy => ⟨hy.1, k T y hy.2⟩
theorem its_mem {xs : List DW} {gs : List Nat} {i : It} (h : i ∈ its xs gs) : ∃ x ∈ xs, ∃ g ∈ gs, i = itOf x g := by
  unfold its at h
  obtain ⟨k, hk, e⟩ := List.getElem_of_mem h
  rw [List.getElem_zipWith] at e
  exact ⟨_, List.getElem_mem .., _, List.getElem_mem .., e.symm⟩
theorem laid_words {xs : List DW} {gs : List Nat} {e : Nat} (hw : ∀ x ∈ xs, WP0 x) (hl : xs.length ≤ gs.length) (hg : ∀ g ∈ gs, g ≤ 4) (hn : xs.length ≤ 12) (he : e ≤ 3) (hp : PF xs gs) :
    (mk (lay (its xs gs) ++ List.replicate e 32)).length ≤ 1000 ∧ (∀ c ∈ (mk (lay (its xs gs) ++ List.replicate e 32)).cps.toList, okS c = true) ∧ (∃ N, cutR (mk (lay (its xs gs) ++ List.replicate e 32)).cps.toList N 0 = some (.ok (dueW 0 (its xs gs)))) ∧ WsOk (dueW 0 (its xs gs)) := by
  have hil : (its xs gs).length ≤ 12 := by
    unfold its
    rw [List.length_zipWith]
    omega
  have hll := lay_len (its xs gs) fun i hi => by
    obtain ⟨x, hx, g, hgm, rfl⟩ := its_mem hi
    exact ⟨hg g hgm, (hw x hx).len⟩
  refine ⟨by rw [mk_len, List.length_append, List.length_replicate]; omega, fun c hc => ?_, ?_, fun z hz => ?_⟩
  · rw [mk_codes] at hc
    rcases List.mem_append.mp hc with hc | hc
    · exact lay_ok _ (fun i hi => by
        obtain ⟨x, hx, g, hgm, rfl⟩ := its_mem hi
        exact (hw x hx).ok) c hc
    · rw [List.eq_of_mem_replicate hc]
      decide
  · rw [mk_codes]
    exact lay_cut (e := e) (its xs gs) 0 rfl (fun i hi => by
      obtain ⟨x, hx, g, hgm, rfl⟩ := its_mem hi
      exact (hw x hx).word) (fit_of xs gs hp)
  · obtain ⟨i, hi, e1, e2⟩ := due_mem _ _ _ hz
    obtain ⟨x, hx, g, hgm, rfl⟩ := its_mem hi
    rw [e1, e2]
    exact ⟨(hw x hx).sok, (hw x hx).tok⟩
section
variable {P : Program} {w : World} {K : PySem.W.Frag} {mg : Str → Option Value} {base : Heap}
theorem sp_words {C : Addr} {H : Hp} {Q : VK} {E : XK} {z : Str} {N : Nat} {ws : List Wd} (hz : z.length ≤ 1000) (hok : ∀ c ∈ z.cps.toList, okS c = true) (hR : cutR z.cps.toList N 0 = some (.ok ws))
    (q : ∀ H' D Ts, Same H H' → H D = none → H' D = some (.lst (Ts.map V.ref)) → TupsAt H H' Ts ws → Q (.ref D) H') : spWordsX K C [.str z] H Q E :=
  ⟨_, rfl, .inl ⟨z, N, .ok ws, rfl, by omega, isLn_okS hok, hR, fun ws' e H' D Ts s' nD hD hT => by
    injection e with e
    subst e
    exact q H' D Ts s' nD hD hT, fun p e => by cases e⟩⟩
def spLaw (K : PySem.W.Frag) : Sp := fun vs H Q _ => ∃ (a : Addr) (ns : List Int), vs = [.ref a] ∧ SqL K H a (ns.map V.int) ∧ ns.length ≤ 63 ∧ ∀ H', Q (.bl true) H'
theorem scLaw : FnScope ["_law_script", "_law_k", "_law_source_here", "_law_drawn", "_law_j", "_law_gaps", "_law_least", "_law_text", "_law_due", "_law_at", "_law_more", "_law_told", "_law_one"] ["_law_script"] (defScope sLaw) := ⟨rfl, rfl, rfl, by decide +kernel, rfl, by decide +kernel, by decide +kernel⟩
theorem ok_law {C f : Addr} {fd : FuncData} (F : Fun K "law" "law" sLaw f fd) (RSo : Ready P w K mg base 2 "_law_source" ["_law_script", "_law_k"] (spSource K)) (RN : Ready P w K mg base 2 "_law_next" ["_law_source_here", "_law_many"] spNext)
    (RD : Ready P w K mg base 5 "_law_drawn_word" ["_law_source_here"] spDW) (RL : Ready P w K mg base 3 "_law_laid" ["_law_source_here", "_law_drawn", "_law_gaps"] spLaid) (RW : ReadyX P w K mg base 6 "words" ["text"] (spWordsX K C))
    (ml : mg "len" = none) (mr : mg "range" = none) (mx : mg "max" = none) (mn : mg "min" = none) (mint : mg "int" = none) :
    FnOk P w K mg base CX0 7 f fd ["_law_script"] (spLaw K) := by
  obtain ⟨f1, fd1, g1, k1, b1, G1⟩ := RSo
  obtain ⟨f2, fd2, g2, k2, b2, G2⟩ := RN
  obtain ⟨f3, fd3, g3, k3, b3, G3⟩ := RD
  obtain ⟨f4, fd4, g4, k4, b4, G4⟩ := RL
  obtain ⟨f5, fd5, g5, k5, b5, G5⟩ := RW
  refine F.ok scLaw (fun vs H Q E h => ?_) (fun cdv A outer s H vs Q E hr h => ?_)
  · obtain ⟨a, ns, rfl, _⟩ := h
    rfl
  · obtain ⟨a, ns, rfl, hS, hns, q⟩ := h
    have sc := scLaw
    have r2 : Room 2 _ := hr.mono (by decide)
    have r3 : Room 3 _ := hr.mono (by decide)
    have r5 : Room 5 _ := hr.mono (by decide)
    refine ⟨_, pss_cons (ps_for PassesOwn.never rfl (pi_range1 (by rfl) mr (pa_cons (pe_callB (call_max2 rfl) (by rfl) mx (by decide +kernel) (pa_cons pe_int (pa_cons (pe_callB (call_min2 rfl) (by rfl) mn (by decide +kernel) (pa_cons pe_int (pa_cons (pe_callB call_len_seq (by rfl) ml PySem.boot_len (pa_cons (pv 0) pa_nil)) pa_nil))) pa_nil))) pa_nil)) (pg_name (i := 1) sc.nd rfl (.inl rfl)) (pss_cons (ps_set (i := 2) sc.nd rfl (.inr rfl) (pe_call G1 r2 (by rfl) g1 k1 b1 .nil pass0 (pa_cons (pv 0) (pa_cons (pv 1) pa_nil)))) (pss_cons (ps_setLc (i := 3) (own := [("_law_j", 4)]) (g := gName 4) (tt := tYes) (by rfl) sc.nd rfl rfl (sw_true rfl rfl rfl rfl) (pi_range1 (by rfl) mr (pa_cons (pe_call G2 r2 (by rfl) g2 k2 b2 .nil pass0 (pa_cons (pv 2) (pa_cons pe_int pa_nil))) pa_nil)) (blkOk_by (own := [("_law_j", 4)]) (N := ["_law_script", "_law_k", "_law_source_here", "_law_drawn", "_law_j", "_law_gaps", "_law_least", "_law_text", "_law_due", "_law_at", "_law_more", "_law_told", "_law_one"]) (sc := defScope sLaw) (by decide +kernel)) (fun _ _ _ _ _ => pg_name (i := 4) sc.nd rfl (Or.inl rfl)) (fun _ _ _ _ _ => pts_nil) (fun _ _ _ _ _ => (pe_call G3 r5 (by rfl) g3 k3 b3 .nil pass0 (pa_cons (pv 2) pa_nil)))) (pss_cons (ps_set (i := 5) sc.nd rfl (.inl rfl) (pe_lst pa_nil)) (pss_cons (ps_for PassesOwn.never rfl (pi_range1 (by rfl) mr (pa_cons (pe_callB call_len_seq (by rfl) ml PySem.boot_len (pa_cons (pv 3) pa_nil)) pa_nil)) (pg_name (i := 4) sc.nd rfl (.inl rfl)) (pss_cons (ps_set (i := 6) sc.nd rfl (.inl rfl) (pe_callTy call_int1 (by rfl) mint (by decide +kernel) (pa_cons (pe_and (pe_cmpR op_gt (pv 4) pe_int (nomark _)) (pe_one (pe_chain op_eq op_eq (pe_ix ix_tup (pe_ix ix_list (pv 3) (pe_op op_sub (pv 4) pe_int) (fun _ _ => rfl)) pe_int (fun _ _ => rfl)) (pe_ix ix_tup (pe_ix ix_list (pv 3) (pv 4) (fun _ _ => rfl)) pe_int (fun _ _ => rfl)) pe_str))) pa_nil))) (pss_one (ps_expr (pe_bm PySem.F.plainAttrs_list PySem.F.slot_list_append PySem.F.type_list_append mt_append (pv 5) (pa_cons (pe_op op_mulS pe_str (pe_op op_add (pv 6) (pe_call G2 r2 (by rfl) g2 k2 b2 .nil pass0 (pa_cons (pv 2) (pa_cons pe_int pa_nil))))) pa_nil)))))) (pss_cons (ps_asg (pe_call G4 r3 (by rfl) g4 k4 b4 .nil pass0 (pa_cons (pv 2) (pa_cons (pv 3) (pa_cons (pv 5) pa_nil)))) (pg_tup (by rfl) (pgs_cons (pg_name (i := 7) sc.nd rfl (.inl rfl)) (pgs_cons (pg_name (i := 8) sc.nd rfl (.inl rfl)) pgs_nil)))) (pss_cons (ps_if (pt_cmpR (op_neD hr.units) (pe_call G5 hr (by rfl) g5 k5 b5 .nil passL (pa_cons (pv 7) pa_nil)) (pv 8) (nomark _)) (pss_one (ps_ret pe_bl)) pss_nil) (pss_cons (ps_set (i := 9) sc.nd rfl (.inl rfl) (pe_call G2 r2 (by rfl) g2 k2 b2 .nil pass0 (pa_cons (pv 2) (pa_cons (pe_op op_add (pe_callB call_len_seq (by rfl) ml PySem.boot_len (pa_cons (pv 3) pa_nil)) pe_int) pa_nil)))) (pss_cons (ps_set (i := 10) sc.nd rfl (.inl rfl) (pe_op op_cat (pe_op op_cat (pe_slice sl_list (pv 3) po_none (po_some (pv 9))) (pe_lst (pa_cons (pe_tup (pa_cons pe_str (pa_cons pe_str (pa_cons pe_str pa_nil)))) pa_nil))) (pe_slice sl_list (pv 3) (po_some (pv 9)) po_none))) (pss_cons (ps_asg (pe_call G4 r3 (by rfl) g4 k4 b4 .nil pass0 (pa_cons (pv 2) (pa_cons (pv 10) (pa_cons (pe_op op_cat (pe_op op_cat (pe_op op_cat (pe_slice sl_list (pv 5) po_none (po_some (pv 9))) (pe_lst (pa_cons pe_str pa_nil))) (pe_op op_rep (pe_lst (pa_cons pe_str pa_nil)) (pe_callTy call_int1 (by rfl) mint (by decide +kernel) (pa_cons (pe_cmpR op_lt (pv 9) (pe_callB call_len_seq (by rfl) ml PySem.boot_len (pa_cons (pv 3) pa_nil)) (nomark _)) pa_nil)))) (pe_slice sl_list (pv 5) (po_some (pe_op op_add (pv 9) pe_int)) po_none)) pa_nil)))) (pg_tup (by rfl) (pgs_cons (pg_name (i := 7) sc.nd rfl (.inl rfl)) (pgs_cons (pg_name (i := 8) sc.nd rfl (.inl rfl)) pgs_nil)))) (pss_cons (ps_if (pt_cmpR (op_neD hr.units) (pe_call G5 hr (by rfl) g5 k5 b5 .nil passL (pa_cons (pv 7) pa_nil)) (pv 8) (nomark _)) (pss_one (ps_ret pe_bl)) pss_nil) (pss_cons (ps_setLc (i := 11) (own := [("_law_one", 12)]) (g := gName 12) (tt := tTest (tOp (rNeD K) (tSl (rSlT K) (tVar 12) tNoPart (tPart (tC (.int 2)))) (tTup (tCons (tC (.str ("remark" : Str))) (tCons (tC (.str ("r" : Str))) tNil))))) (te := tTup (tCons (tOp (rIxT K) (tVar 12) (tC (.int 0))) (tCons (tOp (rIxT K) (tVar 12) (tC (.int 1))) tNil))) (by rfl) sc.nd rfl rfl (sw_true rfl rfl rfl rfl) (pi_list (pe_call G5 hr (by rfl) g5 k5 b5 .nil passL (pa_cons (pv 7) pa_nil))) (blkOk_by (own := [("_law_one", 12)]) (N := ["_law_script", "_law_k", "_law_source_here", "_law_drawn", "_law_j", "_law_gaps", "_law_least", "_law_text", "_law_due", "_law_at", "_law_more", "_law_told", "_law_one"]) (sc := defScope sLaw) (by decide +kernel)) (fun _ _ _ _ _ => pg_name (i := 12) sc.nd rfl (Or.inl rfl)) (fun _ _ _ _ _ => by exact (pts_one (pt_cmpR (op_neD hr.units) (pe_slice sl_tup (pv 12) po_none (po_some pe_int)) (pe_tup (pa_cons pe_str (pa_cons pe_str pa_nil))) (nomark _)))) (fun _ _ _ _ _ => by exact (pe_tup (pa_cons (pe_ix ix_tup (pv 12) pe_int (fun _ _ => rfl)) (pa_cons (pe_ix ix_tup (pv 12) pe_int (fun _ _ => rfl)) pa_nil))))) (pss_one (ps_if (pt_cmpR (op_neD hr.units) (pv 11) (pe_lc (own := [("_law_one", 12)]) (g := gName 12) (tt := tTest (tOp (rNeD K) (tSl (rSlT K) (tVar 12) (tPart (tC (.int 1))) tNoPart) (tTup (tCons (tC (.str ("remark" : Str))) (tCons (tC (.str ("r" : Str))) tNil))))) (te := tTup (tCons (tOp (rIxT K) (tVar 12) (tC (.int 1))) (tCons (tOp (rIxT K) (tVar 12) (tC (.int 2))) tNil))) (by rfl) sc.nd (pi_list (pv 3)) (blkOk_by (own := [("_law_one", 12)]) (N := ["_law_script", "_law_k", "_law_source_here", "_law_drawn", "_law_j", "_law_gaps", "_law_least", "_law_text", "_law_due", "_law_at", "_law_more", "_law_told", "_law_one"]) (sc := defScope sLaw) (by decide +kernel)) (fun _ _ _ _ _ => pg_name (i := 12) sc.nd rfl (Or.inl rfl)) (fun _ _ _ _ _ => by exact (pts_one (pt_cmpR (op_neD hr.units) (pe_slice sl_tup (pv 12) (po_some pe_int) po_none) (pe_tup (pa_cons pe_str (pa_cons pe_str pa_nil))) (nomark _)))) (fun _ _ _ _ _ => by exact (pe_tup (pa_cons (pe_ix ix_tup (pv 12) pe_int (fun _ _ => rfl)) (pa_cons (pe_ix ix_tup (pv 12) pe_int (fun _ _ => rfl)) pa_nil))))) (nomark _)) (pss_one (ps_ret pe_bl)) pss_nil)))))))))))))) (pss_one (ps_ret pe_bl)), ?_⟩
    have hlen : (ns.map V.int).length = ns.length := List.length_map ..
    refine ⟨_, rfl, a, _, rfl, .inl hS, ?_⟩
    rw [hlen]
    refine ⟨_, _, rfl, _, _, rfl, ?_⟩
    generalize hM : (if (if (ns.length : Int) < 4 then (ns.length : Int) else 4) > 1 then (if (ns.length : Int) < 4 then (ns.length : Int) else 4) else 1) = M
    have hM0 : 0 ≤ M ∧ M ≤ 100 := by
      rw [← hM]
      constructor <;> (split <;> split <;> omega)
    refine ⟨M, rfl, by omega, by omega, ?_⟩
    refine for_it walk_range (fun i σ H' => ∃ y1 y2 y3 y4 y5 y6 y7 y8 y9 y10 y11 y12, σ = [some (.ref a), y1, y2, y3, y4, y5, y6, y7, y8, y9, y10, y11, y12] ∧ Same H H') ⟨none, none, none, none, none, none, none, none, none, none, none, none, rfl, Same.refl H⟩ (fun _ _ _ _ _ => trivial) (fun i x σ H1 H2 hi hp hy => ?_) (fun σ H1 hp => q H1)
    obtain ⟨y1, y2, y3, y4, y5, y6, y7, y8, y9, y10, y11, y12, rfl, sm⟩ := hp
    obtain ⟨rfl, hxv⟩ := hy
    have hx' : x = .int (i : Nat) := by
      rw [hxv]
      exact congrArg V.int (Int.zero_add _)
    subst hx'
    refine ⟨_, rfl, _, rfl, a, ns, i, rfl, sm.seq hS, fun H3 sr s3 nsr hsr => ?_⟩
    have nsr0 : H sr = none := Same.free sm nsr
    have s0 : Same H H3 := sm.trans s3
    have d0 : Drawn sr H3 H3 := Drawn.refl hsr
    have hsn : H3 sr ≠ none := by
      obtain ⟨x, y, z, e⟩ := hsr
      rw [e]
      simp
    obtain ⟨x, y, u, hx⟩ := hsr
    refine ⟨_, rfl, sr, 9, x, y, u, rfl, by decide, by decide, hx, fun r1 x1 u1 hr1 => ?_⟩
    have d1 := d0.trans (drawn_upd (x := x1) (y := y) (z := u1))
    refine ⟨(r1 : Int), rfl, by omega, by omega, fun D hD => ?_⟩
    rw [Int.toNat_natCast]
    have hs1 : (upd H3 sr (.lst [.int x1, .int y, .int u1])) sr = some (.lst [.int x1, .int y, .int u1]) := upd_same
    have eD : sr ≠ D := ne_of_none hs1 hD
    have hD3 : H3 D = none := d1.free2 hsn hD
    refine lc_it walk_range (fun i H' => Drawn sr H3 H' ∧ ∃ (Ts : List Addr) (xs : List DW), H' D = some (.lst (Ts.map V.ref)) ∧ DwAt H' Ts xs ∧ (∀ x ∈ xs, WP x) ∧ xs.length = i) ⟨d1.same (same_new hD), [], [], upd_same, .nil, (fun _ h => by cases h), rfl⟩ (fun _ _ _ _ => trivial) (fun j xx H4 H5 hj hp hy => ?_) (fun H4 hp => ?_)
    · obtain ⟨dr, Ts, xs, hd, hT, hw, hl⟩ := hp
      obtain ⟨rfl, rfl⟩ := hy
      refine ⟨rfl, ?_⟩
      unfold tYes
      refine iteT ?_
      refine ⟨_, rfl, sr, rfl, dr.src, fun T x H6 nT hTx wx d6 => ?_⟩
      have hd6 := d6.old _ _ eD.symm hd
      have hTD : T ≠ D := fun e => by rw [e, hd] at nT; cases nT
      refine ⟨_, hd6, ?_, drawn_set (dr.trans d6) hD3 eD, Ts ++ [T], xs ++ [x], by rw [upd_same, List.map_append]; rfl, Paired.snoc (DwAt.upd (hT.drawn dr.src d6) hd6) (by rw [upd_ne hTD]; exact hTx), fun z hz => ?_, by rw [List.length_append, List.length_singleton, hl]⟩
      · have : Ts.length = xs.length := Paired.length hT
        rw [List.length_map, this]
        exact szl (by omega)
      · rcases List.mem_append.mp hz with hz | hz
        · exact hw z hz
        · rw [List.mem_singleton.mp hz]
          exact wx
    obtain ⟨dr, Ts, xs, hd, hT, hw, hxl⟩ := hp
    have hTl : Ts.length = xs.length := Paired.length hT
    refine ⟨Nat.zero_le _, fun G nG => ?_⟩
    obtain ⟨x, y, u, hx4⟩ := dr.src
    have eG : sr ≠ G := ne_of_none hx4 nG
    have eDG : D ≠ G := ne_of_none hd nG
    have hG3 : H3 G = none := dr.free2 hsn nG
    have hs4 : H4 sr ≠ none := by rw [hx4]; simp
    have dG : Drawn sr H4 (upd H4 G (.lst [])) := (Drawn.refl dr.src).same (same_new nG)
    refine ⟨_, rfl, D, _, rfl, .inl (SqL.of (same_new nG _ _ hd)), ?_⟩
    refine ⟨((Ts.map V.ref).length : Int), rfl, by rw [List.length_map]; omega, by rw [List.length_map]; omega, ?_⟩
    rw [Int.toNat_natCast]
    refine for_it walk_range (fun j σ H' => ∃ (y4 y6 : Option V) (gs : List Nat), σ = [some (.ref a), some (.int (i : Nat)), some (.ref sr), some (.ref D), y4, some (.ref G), y6, y7, y8, y9, y10, y11, y12] ∧ Drawn sr H4 H' ∧ H' G = some (.lst (gs.map gapV)) ∧ gs.length = j ∧ (∀ g ∈ gs, g ≤ 4) ∧ PF xs gs)
      ⟨y4, y6, [], rfl, dG, upd_same, rfl, (fun _ h => by cases h), fun k x y g _ _ h => by cases h⟩ (fun _ _ _ _ _ => trivial) (fun j xx σ H5 H6 hj hp hy => ?_) (fun σ H5 hp => ?_)
    · obtain ⟨y4, y6, gs, rfl, d5, hG5, hgl, hg4, hpf⟩ := hp
      obtain ⟨rfl, hjv⟩ := hy
      have hjx : xx = .int (j : Nat) := by
        rw [hjv]
        exact congrArg V.int (Int.zero_add _)
      subst hjx
      rw [List.length_map] at hj
      obtain ⟨T, z, t1, t2, t3⟩ := paired_at9 hT hj
      have hjl : j < xs.length := (List.getElem?_eq_some_iff.mp t2).1
      have hd5 := d5.old _ _ eD.symm hd
      have hT5 : DwAt H6 Ts xs := hT.drawn dr.src d5
      have hTH := d5.old _ _ (fun e => by rw [e, hx4] at t3; cases t3) t3
      -- the least gap
      have fin : ∀ b : Bool, (0 < j → ∀ x0, xs[j - 1]? = some x0 → x0.2.1 = ("atom" : Str) → z.2.1 = ("atom" : Str) → b = true) → ∀ (r : Nat), r < 3 → ∀ g ∈ gs ++ [(if b then 1 else 0) + r], g ≤ 4 := fun b _ r hr g hg => by
        rcases List.mem_append.mp hg with hg | hg
        · exact hg4 g hg
        · rw [List.mem_singleton.mp hg]
          split <;> omega
      have pfn : ∀ b : Bool, (0 < j → ∀ x0, xs[j - 1]? = some x0 → x0.2.1 = ("atom" : Str) → z.2.1 = ("atom" : Str) → b = true) → ∀ (r : Nat), PF xs (gs ++ [(if b then 1 else 0) + r]) := fun b hb r k x1 x2 g h1 h2 h3 a1 a2 => by
        by_cases hk : k + 1 < gs.length
        · rw [List.getElem?_append_left hk] at h3
          exact hpf k x1 x2 g h1 h2 h3 a1 a2
        · rw [List.getElem?_append_right (by omega)] at h3
          have hk2 : k + 1 = j := by
            have : k + 1 - gs.length < [(if b then 1 else 0) + r].length := (List.getElem?_eq_some_iff.mp h3).1
            simp at this
            omega
          have e0 : k + 1 - gs.length = 0 := by omega
          rw [e0] at h3
          injection h3 with h3
          rw [hk2, t2] at h2
          injection h2 with h2
          have := hb (by omega) x1 (by rw [← hk2]; exact h1) a1 (by rw [h2]; exact a2)
          rw [← h3, this]
          show 1 ≤ 1 + r
          omega
      obtain ⟨x, y, u, hx5⟩ := d5.src
      by_cases h0 : j = 0
      · refine ⟨_, rfl, _, _, rfl, rfl, _, rfl, ?_⟩
        rw [decide_eq_false (by omega : ¬ ((j : Int) > 0))]
        rw [if_neg Bool.false_ne_true]
        refine .inr ⟨_, rfl, ?_⟩
        refine ⟨_, rfl, .inl ⟨rfl, _, SqL.of hG5⟩, _, rfl, _, rfl, sr, 3, x, y, u, rfl, by decide, by decide, hx5, fun r3 x3 u3 hr3 => ?_⟩
        have d6 := d5.trans (drawn_upd (x := x3) (y := y) (z := u3))
        refine ⟨_, _, rfl, rfl, 32, 0 + r3, rfl, by show V.int (0 + (r3 : Int)) = V.int ((0 + r3 : Nat) : Int); rw [Int.natCast_add]; rfl, by omega, ?_⟩
        have hbb : 0 < j → ∀ x0, xs[j - 1]? = some x0 → x0.2.1 = ("atom" : Str) → z.2.1 = ("atom" : Str) → false = true := fun h => by omega
        refine ⟨G, _, _, rfl, rfl, by rw [upd_ne eG.symm]; exact hG5, by rw [List.length_map]; exact szl (by omega), ?_⟩
        refine ⟨_, _, gs ++ [(if false then 1 else 0) + r3], rfl, drawn_set d6 nG eG, by rw [upd_same, List.map_append]; rfl, by rw [List.length_append, List.length_singleton, hgl], fin false hbb r3 hr3, pfn false hbb r3⟩
      · have hjp : 0 < j := by omega
        obtain ⟨T0, z0, u1', u2', u3'⟩ := paired_at9 hT5 (i := j - 1) (by omega)
        refine ⟨_, rfl, _, _, rfl, rfl, _, rfl, ?_⟩
        rw [decide_eq_true (by omega : (j : Int) > 0), if_pos rfl]
        have hjm : ((j : Nat) : Int) - 1 = ((j - 1 : Nat) : Int) := by omega
        have hat0 : atI (Ts.map V.ref) (((j : Nat) : Int) - 1) = some (.ref T0) := by
          rw [hjm]
          exact atI_nat (by rw [List.getElem?_map, u1']; rfl)
        have hat1 : atI (Ts.map V.ref) ((j : Nat) : Int) = some (.ref T) := atI_nat (by rw [List.getElem?_map, t1]; rfl)
        refine ⟨_, rfl, _, rfl, _, _, rfl, rfl, D, _, _, .ref T0, rfl, rfl, SqL.of hd5, hat0, T0, _, 1, .str z0.2.1, rfl, rfl, SqT.of u3', rfl, ?_⟩
        refine ⟨_, rfl, _, rfl, D, _, _, .ref T, rfl, rfl, SqL.of hd5, hat1, T, _, 1, .str z.2.1, rfl, rfl, SqT.of hTH, rfl, ?_⟩
        refine ⟨rfl, _, rfl, ?_⟩
        by_cases hzz : z0.2.1 = z.2.1
        · rw [decide_eq_true (by rw [hzz] : V.str z0.2.1 = V.str z.2.1), if_pos rfl]
          refine ⟨rfl, .inr ⟨_, rfl, ?_⟩⟩
          have hbb : 0 < j → ∀ x0, xs[j - 1]? = some x0 → x0.2.1 = ("atom" : Str) → z.2.1 = ("atom" : Str) → decide (V.str z.2.1 = V.str ("atom" : Str)) = true := fun _ _ _ _ hz => decide_eq_true (by rw [hz])
          generalize decide (V.str z.2.1 = V.str ("atom" : Str)) = bb at hbb ⊢
          refine ⟨_, rfl, .inl ⟨rfl, _, SqL.of hG5⟩, _, rfl, _, rfl, sr, 3, x, y, u, rfl, by decide, by decide, hx5, fun r3 x3 u3 hr3 => ?_⟩
          have d6 := d5.trans (drawn_upd (x := x3) (y := y) (z := u3))
          refine ⟨_, _, rfl, rfl, 32, (if bb = true then 1 else 0) + r3, rfl, ?_, by (split <;> omega), ?_⟩
          · cases bb
            · show V.int (0 + (r3 : Int)) = V.int ((0 + r3 : Nat) : Int)
              rw [Int.natCast_add]
              rfl
            · show V.int (1 + (r3 : Int)) = V.int ((1 + r3 : Nat) : Int)
              rw [Int.natCast_add]
              rfl
          · refine ⟨G, _, _, rfl, rfl, by rw [upd_ne eG.symm]; exact hG5, by rw [List.length_map]; exact szl (by omega), ?_⟩
            exact ⟨_, _, gs ++ [(if bb = true then 1 else 0) + r3], rfl, drawn_set d6 nG eG, by rw [upd_same, List.map_append]; rfl, by rw [List.length_append, List.length_singleton, hgl], fin bb hbb r3 hr3, pfn bb hbb r3⟩
        · rw [decide_eq_false (fun e => by injection e with e; exact hzz e : ¬ (V.str z0.2.1 = V.str z.2.1)), if_neg Bool.false_ne_true]
          refine .inr ⟨_, rfl, ?_⟩
          have hbb : 0 < j → ∀ x0, xs[j - 1]? = some x0 → x0.2.1 = ("atom" : Str) → z.2.1 = ("atom" : Str) → false = true := fun _ x0 h1 h2 h3 => by
            rw [u2'] at h1
            injection h1 with h1
            exact absurd (by rw [h1, h2, h3]) hzz
          obtain ⟨bb, hbe⟩ : ∃ bb, bb = false := ⟨_, rfl⟩
          rw [← hbe] at hbb ⊢
          refine ⟨_, rfl, .inl ⟨rfl, _, SqL.of hG5⟩, _, rfl, _, rfl, sr, 3, x, y, u, rfl, by decide, by decide, hx5, fun r3 x3 u3 hr3 => ?_⟩
          have d6 := d5.trans (drawn_upd (x := x3) (y := y) (z := u3))
          refine ⟨_, _, rfl, rfl, 32, (if bb = true then 1 else 0) + r3, rfl, ?_, by (split <;> omega), ?_⟩
          · cases bb
            · show V.int (0 + (r3 : Int)) = V.int ((0 + r3 : Nat) : Int)
              rw [Int.natCast_add]
              rfl
            · show V.int (1 + (r3 : Int)) = V.int ((1 + r3 : Nat) : Int)
              rw [Int.natCast_add]
              rfl
          · refine ⟨G, _, _, rfl, rfl, by rw [upd_ne eG.symm]; exact hG5, by rw [List.length_map]; exact szl (by omega), ?_⟩
            exact ⟨_, _, gs ++ [(if bb = true then 1 else 0) + r3], rfl, drawn_set d6 nG eG, by rw [upd_same, List.map_append]; rfl, by rw [List.length_append, List.length_singleton, hgl], fin bb hbb r3 hr3, pfn bb hbb r3⟩
    · obtain ⟨y4, y6, gs, rfl, d5, hG5, hgl, hg4, hpf⟩ := hp
      rw [List.length_map] at hgl
      have hn9 : xs.length ≤ 8 := by omega
      have hd5 := d5.old _ _ eD.symm hd
      have hT5 : DwAt H5 Ts xs := hT.drawn dr.src d5
      have hw0 : ∀ x ∈ xs, WP0 x := fun x hx => (hw x hx).zero
      refine ⟨_, rfl, _, rfl, _, rfl, sr, D, G, Ts, xs, gs, rfl, d5.src, eD.symm, eG.symm, hd5, hT5, hG5, by omega, by omega, hw0, hg4, fun T2 L2 Us e H6 n2 nl2 h2 hl2 hU he d6 => ?_⟩
      obtain ⟨w1, w2, ⟨N1, w3⟩, w4⟩ := laid_words (e := e) hw0 (by omega) hg4 (by omega) he hpf
      refine ⟨T2, _, rfl, SqT.of h2, rfl, _, _, rfl, _, _, rfl, rfl, ?_⟩
      refine ⟨_, rfl, ?_⟩
      dsimp only [tNil, List.append_nil]
      refine sp_words w1 w2 w3 fun H7 D7 T7 s7 n7 h7 hh7 => ?_
      have sh1 := ws_shaped w4
      have hU7 : TupsAt H5 H7 Us (dueW 0 (its xs gs)) := TupsAt.same hU fun T' x _ h => s7 _ _ h
      refine ⟨_, rfl, _, _, .lst (SqL.of h7) (ws_dp hh7), .lst (SqL.of (s7 _ _ hl2)) (ws_dp hU7), sh1, sh1, _, rfl, ?_⟩
      rw [ws_self sh1]
      refine iteF ?_
      have d7 : Drawn sr H4 H7 := (d5.trans d6).same s7
      have hd7 := d7.old _ _ eD.symm hd
      have hG7 := (d6.same s7).old _ _ eG.symm hG5
      obtain ⟨x, y, u, hx7⟩ := d7.src
      refine ⟨_, rfl, _, rfl, D, _, rfl, .inl (SqL.of hd7), _, _, rfl, rfl, sr, (Ts.map V.ref).length + 1, x, y, u, (by show [V.ref sr, .int (((Ts.map V.ref).length : Int) + 1)] = [V.ref sr, .int (((Ts.map V.ref).length + 1 : Nat) : Int)]; rw [Int.natCast_add]; rfl), by omega, by rw [List.length_map]; omega, hx7, fun k x3 u3 hk => ?_⟩
      rw [List.length_map] at hk
      have d8 := d7.trans (drawn_upd (x := x3) (y := y) (z := u3))
      have hd8 : (upd H7 sr (.lst [.int x3, .int y, .int u3])) D = some (.lst (Ts.map V.ref)) := by rw [upd_ne eD.symm]; exact hd7
      have hG8 : (upd H7 sr (.lst [.int x3, .int y, .int u3])) G = some (.lst (gs.map gapV)) := by rw [upd_ne eG.symm]; exact hG7
      have hT8 : DwAt (upd H7 sr (.lst [.int x3, .int y, .int u3])) Ts xs := hT.drawn dr.src d8
      generalize (upd H7 sr (.lst [.int x3, .int y, .int u3])) = H8 at d8 hd8 hG8 hT8 ⊢
      refine ⟨_, rfl, _, rfl, _, rfl, D, _, rfl, SqL.of hd8, fun p1 m1 => ?_⟩
      have a1 := same_new (o := .lst (cutV (Ts.map V.ref) none (some (k : Nat)))) m1
      refine ⟨(by show 3 ≤ sizeLine; decide), fun tR m2 => ⟨(by show 1 ≤ sizeLine; decide), fun lR m3 => ?_⟩⟩
      have a2 := same_new (o := .tup [.str ("(r)" : Str), .str ("remark" : Str), .str ("r" : Str)]) m2
      have a3 := same_new (o := .lst [.ref tR]) m3
      refine ⟨p1, lR, _, _, rfl, rfl, (a2.trans a3) _ _ upd_same, upd_same, by rw [cutV_toN, List.length_take, List.length_map]; exact Nat.le_of_lt (szl (by simp; omega)), fun c1 m4 => ?_⟩
      have a4 := same_new (o := .lst (cutV (Ts.map V.ref) none (some (k : Nat)) ++ [.ref tR])) m4
      refine ⟨_, rfl, _, rfl, _, rfl, D, _, rfl, SqL.of ((((a1.trans a2).trans a3).trans a4) _ _ hd8), fun p2 m5 => ?_⟩
      have a5 := same_new (o := .lst (cutV (Ts.map V.ref) (some (k : Nat)) none)) m5
      refine ⟨c1, p2, _, _, rfl, rfl, a5 _ _ upd_same, upd_same, by rw [cutV_toN, cutV_fromN]; exact Nat.le_of_lt (szl (by simp; omega)), fun Mo m6 => ?_⟩
      have a6 := same_new (o := .lst (cutV (Ts.map V.ref) none (some (k : Nat)) ++ [.ref tR] ++ cutV (Ts.map V.ref) (some (k : Nat)) none)) m6
      have hMv : cutV (Ts.map V.ref) none (some (k : Nat)) ++ [V.ref tR] ++ cutV (Ts.map V.ref) (some (k : Nat)) none = (Ts.take k ++ [tR] ++ Ts.drop k).map V.ref := by
        rw [cutV_toN, cutV_fromN]
        simp
      have aM := ((((a1.trans a2).trans a3).trans a4).trans a5).trans a6
      have hR6 := (((a3.trans a4).trans a5).trans a6) tR _ upd_same
      refine ⟨_, rfl, _, rfl, _, rfl, _, rfl, _, rfl, G, _, rfl, SqL.of (aM _ _ hG8), fun q1 e1 => ?_⟩
      have c1' := same_new (o := .lst (cutV (gs.map gapV) none (some (k : Nat)))) e1
      refine ⟨(by show 1 ≤ sizeLine; decide), fun q2 e2 => ?_⟩
      have c2' := same_new (o := .lst [.str (" " : Str)]) e2
      refine ⟨q1, q2, _, _, rfl, rfl, c2' _ _ upd_same, upd_same, by rw [cutV_toN, List.length_take, List.length_map]; exact Nat.le_of_lt (szl (by simp; omega)), fun q3 e3 => ?_⟩
      have c3' := same_new (o := .lst (cutV (gs.map gapV) none (some (k : Nat)) ++ [.str (" " : Str)])) e3
      refine ⟨(by show 1 ≤ sizeLine; decide), fun q4 e4 => ?_⟩
      have c4' := same_new (o := .lst [.str (" " : Str)]) e4
      have c14 := ((c1'.trans c2').trans c3').trans c4'
      refine ⟨_, rfl, _, rfl, D, _, rfl, .inl (SqL.of ((aM.trans c14) _ _ hd8)), _, _, rfl, rfl, .inr ⟨_, rfl, ?_⟩⟩
      have hkk : (if decide (((k : Nat) : Int) < ((Ts.map V.ref).length : Int)) = true then (1 : Int) else 0) = ((if k < gs.length then 1 else 0 : Nat) : Int) := by
        rw [List.length_map]
        by_cases hk2 : k < gs.length
        · rw [decide_eq_true (by omega), if_pos hk2]
          rfl
        · rw [decide_eq_false (by omega), if_neg hk2]
          rfl
      refine ⟨q4, _, [.str (" " : Str)], rfl, congrArg V.int hkk, upd_same, by (split <;> decide), by (split <;> decide), by rw [Int.toNat_natCast]; (split <;> (show _ ≤ sizeLine; decide)), fun q5 e5 => ?_⟩
      rw [Int.toNat_natCast]
      have hfl : (List.replicate (if k < gs.length then 1 else 0) [V.str (" " : Str)]).flatten = List.replicate (if k < gs.length then 1 else 0) (V.str (" " : Str)) := by split <;> rfl
      rw [hfl]
      have hml : (if k < gs.length then 1 else 0) ≤ 1 := by split <;> omega
      have c5' := same_new (o := .lst (List.replicate (if k < gs.length then 1 else 0) (V.str (" " : Str)))) e5
      refine ⟨q3, q5, _, _, rfl, rfl, (c4'.trans c5') _ _ upd_same, upd_same, by rw [cutV_toN, List.length_append, List.length_take, List.length_map, List.length_replicate]; exact Nat.le_of_lt (szl (by simp; omega)), fun q6 e6 => ?_⟩
      have c6' := same_new (o := .lst (cutV (gs.map gapV) none (some (k : Nat)) ++ [V.str (" " : Str)] ++ List.replicate (if k < gs.length then 1 else 0) (V.str (" " : Str)))) e6
      have c16 := (c14.trans c5').trans c6'
      refine ⟨_, rfl, _, rfl, _, _, rfl, rfl, _, rfl, G, _, rfl, SqL.of ((aM.trans c16) _ _ hG8), fun q7 e7 => ?_⟩
      have c7' := same_new (o := .lst (cutV (gs.map gapV) (some ((k + 1 : Nat) : Int)) none)) e7
      refine ⟨q6, q7, _, _, rfl, rfl, c7' _ _ upd_same, upd_same, ?_, fun Go e8 => ?_⟩
      · show (cutV (gs.map gapV) none (some (k : Nat)) ++ [V.str (" " : Str)] ++ List.replicate (if k < gs.length then 1 else 0) (V.str (" " : Str))).length + (cutV (gs.map gapV) (some ((k + 1 : Nat) : Int)) none).length ≤ sizeLine
        rw [cutV_toN, cutV_fromN, List.length_append, List.length_append, List.length_take, List.length_drop, List.length_map, List.length_replicate]
        exact Nat.le_of_lt (szl (by simp; omega))
      have c8' := same_new (o := .lst (cutV (gs.map gapV) none (some (k : Nat)) ++ [V.str (" " : Str)] ++ List.replicate (if k < gs.length then 1 else 0) (V.str (" " : Str)) ++ cutV (gs.map gapV) (some ((k + 1 : Nat) : Int)) none)) e8
      have hGv : cutV (gs.map gapV) none (some (k : Nat)) ++ [V.str (" " : Str)] ++ List.replicate (if k < gs.length then 1 else 0) (V.str (" " : Str)) ++ cutV (gs.map gapV) (some ((k + 1 : Nat) : Int)) none = (moreG gs k gs.length).map gapV := by
        rw [cutV_toN, cutV_fromN]
        unfold moreG
        simp only [List.map_append, List.map_take, List.map_drop, List.map_replicate]
        rfl
      have cG := (c16.trans c7').trans c8'
      have aG := aM.trans cG
      have hHall := d8.same aG
      have ⟨x8, y8', u8, hx8⟩ := d8.src
      have hne : ∀ {Hy : Hp} {b : Addr}, Same H8 Hy → Hy b = none → b ≠ sr := fun s hb e => by
        have := s _ _ hx8
        rw [← e, hb] at this
        cases this
      have hMsr : Mo ≠ sr := hne ((((a1.trans a2).trans a3).trans a4).trans a5) m6
      have hGsr : Go ≠ sr := hne (aM.trans (c16.trans c7')) e8
      have hxk : (moreX xs k).length = xs.length + 1 := by
        unfold moreX
        rw [List.length_append, List.length_append, List.length_take, List.length_drop, List.length_singleton]
        omega
      have hgk : (moreG gs k gs.length).length = gs.length + 1 := by
        unfold moreG
        rw [List.length_append, List.length_append, List.length_append, List.length_take, List.length_drop, List.length_singleton, List.length_replicate]
        split <;> omega
      have hwX : ∀ x ∈ moreX xs k, WP0 x := fun x hx => by
        unfold moreX at hx
        rcases List.mem_append.mp hx with hx | hx
        · rcases List.mem_append.mp hx with hx | hx
          · exact hw0 x (List.mem_of_mem_take hx)
          · rw [List.mem_singleton.mp hx]
            exact rW_zero
        · exact hw0 x (List.mem_of_mem_drop hx)
      have hgX : ∀ g ∈ moreG gs k gs.length, g ≤ 4 := fun g hg => by
        unfold moreG at hg
        simp only [List.mem_append, List.mem_singleton, List.mem_replicate] at hg
        rcases hg with ((hg | hg) | hg) | hg
        · exact hg4 g (List.mem_of_mem_take hg)
        · omega
        · omega
        · exact hg4 g (List.mem_of_mem_drop hg)
      have hpX := more_pf (k := k) (by omega) (by omega) hpf
      have hTG := hT8.same aG
      have hTM : DwAt _ (Ts.take k ++ [tR] ++ Ts.drop k) (moreX xs k) := DwAt.more hTG k (cG _ _ hR6)
      refine ⟨sr, Mo, Go, Ts.take k ++ [tR] ++ Ts.drop k, moreX xs k, moreG gs k gs.length, rfl, hHall.src, hMsr, hGsr, by rw [← hMv]; exact cG _ _ upd_same, hTM, by rw [← hGv]; exact upd_same, by omega, by omega, hwX, hgX, fun T3 L3 Vs e9 H9 n9 nl9 h9 hl9 hV he9 d9 => ?_⟩
      obtain ⟨v1, v2, ⟨N2, v3⟩, v4⟩ := laid_words (e := e9) hwX (by omega) hgX (by omega) he9 hpX
      refine ⟨T3, _, rfl, SqT.of h9, rfl, _, _, rfl, _, _, rfl, rfl, ?_⟩
      refine ⟨_, rfl, ?_⟩
      dsimp only [tNil, List.append_nil]
      refine sp_words v1 v2 v3 fun H10 D10 T10 s10 n10 h10 hh10 => ?_
      have sh2 := ws_shaped v4
      have hV10 := TupsAt.same hV (H' := H10) fun T' x _ h => s10 _ _ h
      refine ⟨_, rfl, _, _, .lst (SqL.of h10) (ws_dp hh10), .lst (SqL.of (s10 _ _ hl9)) (ws_dp hV10), sh2, sh2, _, rfl, ?_⟩
      rw [ws_self sh2]
      refine iteF ?_
      have d10 := (hHall.trans d9).same s10
      -- the words told
      refine ⟨_, rfl, ?_⟩
      dsimp only [tNil, List.append_nil]
      refine sp_words v1 v2 v3 fun H11 D11 T11 s11 n11 h11 hh11 => ?_
      have d11 := d10.same s11
      have hd11 := d11.old _ _ eD.symm hd
      have hT11 : DwAt H11 Ts xs := hT.drawn dr.src d11
      have hWl : (dueW 0 (its (moreX xs k) (moreG gs k gs.length))).length ≤ 12 := by
        have := congrArg List.length (due_pairs (its (moreX xs k) (moreG gs k gs.length)) 0)
        rw [List.length_map, List.length_map] at this
        rw [this]
        unfold its
        rw [List.length_zipWith]
        omega
      have hpairs : (dueW 0 (its (moreX xs k) (moreG gs k gs.length))).map (fun x => ((x.1, x.2.1) : Pr)) = (moreX xs k).map fun x => (x.2.1, x.2.2) := (due_pairs _ 0).trans (its_pairs _ _ (by omega))
      have hall : ∀ y ∈ (dueW 0 (its (moreX xs k) (moreG gs k gs.length))).map (fun x => ((x.1, x.2.1) : Pr)), (∀ c ∈ y.1.cps.toList, c < 128) ∧ ∀ c ∈ y.2, c < 128 := fun y hy => by
        obtain ⟨z, hz, rfl⟩ := List.mem_map.mp hy
        exact v4 z hz
      generalize hWs : dueW 0 (its (moreX xs k) (moreG gs k gs.length)) = ws at hWl hpairs hall hh11
      refine ⟨D11, rfl, ⟨_, SqL.of h11⟩, fun E1 nE1 => ?_⟩
      refine lc_it (walk_list (K := K) (a := D11) (xs := T11.map V.ref)) (fun j H' => Same H11 H' ∧ ∃ Ps : List Addr, H' E1 = some (.lst (Ps.map V.ref)) ∧ PrAt H11 H' Ps (((ws.map fun x => ((x.1, x.2.1) : Pr)).take j).filter keepP)) ⟨same_new nE1, [], upd_same, .nil⟩ (fun j H' _ p => SqL.of (p.1 _ _ h11)) (fun j x Hu Hv hj hp hy => ?_) (fun HE1 hp => ?_)
      · obtain ⟨rfl, hx⟩ := hy
        obtain ⟨su, Ps, hE, hP⟩ := hp
        rw [List.length_map] at hj
        obtain ⟨T, w9, t1, t2, t3⟩ := paired_at9 hh11 hj
        replace t3 := t3.2
        rw [List.getElem?_map, t1] at hx
        injection hx with hx
        subst hx
        have hTv := su _ _ t3
        have hpr : (ws.map fun x => ((x.1, x.2.1) : Pr))[j]? = some ((w9.1, w9.2.1) : Pr) := by
          rw [List.getElem?_map, t2]
          rfl
        have tk := take_more hpr
        have hy128 := hall _ (List.mem_of_getElem? hpr)
        have hsh := (pr_shaped (ys := [((w9.1, w9.2.1) : Pr)]) (fun y hy => by rw [List.mem_singleton.mp hy]; exact hy128)).2 _ (List.mem_singleton.mpr rfl)
        refine ⟨rfl, ?_⟩
        refine ⟨_, rfl, _, rfl, T, _, rfl, SqT.of hTv, (fun h => by have h2 : (2 : Nat) = 4 := h.2; cases h2), fun p np => ?_⟩
        have sp := same_new (o := .tup (prV ((w9.1, w9.2.1) : Pr))) np
        refine ⟨(by show 2 ≤ sizeLine; decide), fun p' np' => ?_⟩
        have sp' := same_new (o := .tup [.str ("remark" : Str), .str ("r" : Str)]) np'
        have spp := sp.trans sp'
        refine ⟨_, _, .tup (SqT.of (sp' _ _ upd_same)) (.cons (.str _) (.cons (.str _) .nil)), .tup (SqT.of upd_same) (.cons (.str _) (.cons (.str _) .nil)), hsh, by decide +kernel, _, rfl, ?_⟩
        rw [eqv_pair ((w9.1, w9.2.1) : Pr), Bool.not_not]
        have hE' := spp _ _ hE
        have hP' : PrAt H11 _ Ps (((ws.map fun x => ((x.1, x.2.1) : Pr)).take j).filter keepP) := hP.same fun T y h => spp _ _ h
        have hPl : Ps.length ≤ 100 := by
          have h1 := Paired.length hP
          have h2 := List.length_filter_le keepP ((ws.map fun x => ((x.1, x.2.1) : Pr)).take j)
          have h3 := List.length_take_le j (ws.map fun x => ((x.1, x.2.1) : Pr))
          have h4 : j < (ws.map fun x => ((x.1, x.2.1) : Pr)).length := (List.getElem?_eq_some_iff.mp hpr).1
          have h5 : (ws.map fun x => ((x.1, x.2.1) : Pr)).length ≤ 12 := by rw [List.length_map]; omega
          omega
        cases hk : keepP ((w9.1, w9.2.1) : Pr) with
        | false =>
          refine iteF ⟨su.trans spp, Ps, hE', ?_⟩
          rw [tk, List.filter_append, List.filter_cons, hk]
          rw [if_neg Bool.false_ne_true, List.filter_nil, List.append_nil]
          exact hP'
        | true =>
          refine iteT ?_
          refine ⟨_, rfl, T, _, 0, _, rfl, rfl, SqT.of (spp _ _ hTv), rfl, _, rfl, T, _, 1, _, rfl, rfl, SqT.of (spp _ _ hTv), rfl, (by show 2 ≤ sizeLine; decide), fun t nt => ?_⟩
          have st := same_new (o := .tup (prV ((w9.1, w9.2.1) : Pr))) nt
          have ntE : t ≠ E1 := fun e => by rw [e, hE'] at nt; cases nt
          refine ⟨_, st _ _ hE', by rw [List.length_map]; exact szl (by omega), same_set ((su.trans spp).trans st) nE1, Ps ++ [t], by rw [upd_same, List.map_append]; rfl, ?_⟩
          rw [tk, List.filter_append, List.filter_cons, hk, if_pos rfl, List.filter_nil]
          refine Paired.snoc (hP'.same fun T y h => ?_) ⟨Same.free (su.trans spp) nt, by rw [upd_ne ntE]; exact upd_same⟩
          have : T ≠ E1 := fun e => by
            rw [e, hE'] at h
            cases h
          rw [upd_ne this]
          exact st _ _ h
      obtain ⟨sE1, Ps1, hPs1, hPr1⟩ := hp
      rw [List.take_of_length_le (by rw [List.length_map, List.length_map]; exact Nat.le_of_eq (Paired.length hh11).symm), hpairs] at hPr1
      have hts : ((moreX xs k).map fun x => ((x.2.1, x.2.2) : Pr)).filter keepP = (xs.map fun x => ((x.2.1, x.2.2) : Pr)).filter keepP := told_same' hw
      rw [hts] at hPr1
      have hdE := sE1 _ _ hd11
      have hTE : DwAt HE1 Ts xs := hT11.same sE1
      have hall2 : ∀ y ∈ xs.map (fun x => ((x.2.1, x.2.2) : Pr)), (∀ c ∈ y.1.cps.toList, c < 128) ∧ ∀ c ∈ y.2, c < 128 := fun y hy => by
        obtain ⟨z, hz, rfl⟩ := List.mem_map.mp hy
        exact ⟨(hw z hz).sok, (hw z hz).tok⟩
      refine ⟨_, rfl, _, rfl, D, rfl, ⟨_, SqL.of hdE⟩, fun E2 nE2 => ?_⟩
      refine lc_it (walk_list (K := K) (a := D) (xs := Ts.map V.ref)) (fun j H' => Same HE1 H' ∧ ∃ Ps : List Addr, H' E2 = some (.lst (Ps.map V.ref)) ∧ PrAt HE1 H' Ps (((xs.map fun x => ((x.2.1, x.2.2) : Pr)).take j).filter keepP)) ⟨same_new nE2, [], upd_same, .nil⟩ (fun j H' _ p => SqL.of (p.1 _ _ hdE)) (fun j x Hu Hv hj hp hy => ?_) (fun HE3 hp => ?_)
      · obtain ⟨rfl, hx⟩ := hy
        obtain ⟨su, Ps, hE, hP⟩ := hp
        rw [List.length_map] at hj
        obtain ⟨T, w9, t1, t2, t3⟩ := paired_at9 hTE hj
        rw [List.getElem?_map, t1] at hx
        injection hx with hx
        subst hx
        have hTv := su _ _ t3
        have hpr : (xs.map fun x => ((x.2.1, x.2.2) : Pr))[j]? = some ((w9.2.1, w9.2.2) : Pr) := by
          rw [List.getElem?_map, t2]
          rfl
        have tk := take_more hpr
        have hy128 := hall2 _ (List.mem_of_getElem? hpr)
        have hsh := (pr_shaped (ys := [((w9.2.1, w9.2.2) : Pr)]) (fun y hy => by rw [List.mem_singleton.mp hy]; exact hy128)).2 _ (List.mem_singleton.mpr rfl)
        refine ⟨rfl, ?_⟩
        refine ⟨_, rfl, _, rfl, T, _, rfl, SqT.of hTv, (fun h => by have h2 : (1 : Nat) = 0 := h.1; cases h2), fun p np => ?_⟩
        have sp := same_new (o := .tup (prV ((w9.2.1, w9.2.2) : Pr))) np
        refine ⟨(by show 2 ≤ sizeLine; decide), fun p' np' => ?_⟩
        have sp' := same_new (o := .tup [.str ("remark" : Str), .str ("r" : Str)]) np'
        have spp := sp.trans sp'
        refine ⟨_, _, .tup (SqT.of (sp' _ _ upd_same)) (.cons (.str _) (.cons (.str _) .nil)), .tup (SqT.of upd_same) (.cons (.str _) (.cons (.str _) .nil)), hsh, by decide +kernel, _, rfl, ?_⟩
        rw [eqv_pair ((w9.2.1, w9.2.2) : Pr), Bool.not_not]
        have hE' := spp _ _ hE
        have hP' : PrAt HE1 _ Ps (((xs.map fun x => ((x.2.1, x.2.2) : Pr)).take j).filter keepP) := hP.same fun T y h => spp _ _ h
        have hPl : Ps.length ≤ 100 := by
          have h1 := Paired.length hP
          have h2 := List.length_filter_le keepP ((xs.map fun x => ((x.2.1, x.2.2) : Pr)).take j)
          have h3 := List.length_take_le j (xs.map fun x => ((x.2.1, x.2.2) : Pr))
          have h4 : j < (xs.map fun x => ((x.2.1, x.2.2) : Pr)).length := (List.getElem?_eq_some_iff.mp hpr).1
          have h5 : (xs.map fun x => ((x.2.1, x.2.2) : Pr)).length ≤ 12 := by rw [List.length_map]; omega
          omega
        cases hk : keepP ((w9.2.1, w9.2.2) : Pr) with
        | false =>
          refine iteF ⟨su.trans spp, Ps, hE', ?_⟩
          rw [tk, List.filter_append, List.filter_cons, hk]
          rw [if_neg Bool.false_ne_true, List.filter_nil, List.append_nil]
          exact hP'
        | true =>
          refine iteT ?_
          refine ⟨_, rfl, T, _, 1, _, rfl, rfl, SqT.of (spp _ _ hTv), rfl, _, rfl, T, _, 2, _, rfl, rfl, SqT.of (spp _ _ hTv), rfl, (by show 2 ≤ sizeLine; decide), fun t nt => ?_⟩
          have st := same_new (o := .tup (prV ((w9.2.1, w9.2.2) : Pr))) nt
          have ntE : t ≠ E2 := fun e => by rw [e, hE'] at nt; cases nt
          refine ⟨_, st _ _ hE', by rw [List.length_map]; exact szl (by omega), same_set ((su.trans spp).trans st) nE2, Ps ++ [t], by rw [upd_same, List.map_append]; rfl, ?_⟩
          rw [tk, List.filter_append, List.filter_cons, hk, if_pos rfl, List.filter_nil]
          refine Paired.snoc (hP'.same fun T y h => ?_) ⟨Same.free (su.trans spp) nt, by rw [upd_ne ntE]; exact upd_same⟩
          have : T ≠ E2 := fun e => by
            rw [e, hE'] at h
            cases h
          rw [upd_ne this]
          exact st _ _ h
      obtain ⟨sE2, Ps2, hPs2, hPr2⟩ := hp
      rw [List.take_of_length_le (by rw [List.length_map, List.length_map]; omega)] at hPr2
      have shp := (pr_shaped (ys := (xs.map fun x => ((x.2.1, x.2.2) : Pr)).filter keepP) fun y hy => hall2 y (List.mem_filter.mp hy).1).1
      have hPr1' : PrAt H11 HE3 Ps1 ((xs.map fun x => ((x.2.1, x.2.2) : Pr)).filter keepP) := hPr1.same fun T y h => sE2 _ _ h
      refine ⟨_, _, .lst (SqL.of (sE2 _ _ hPs1)) (pr_dp hPr1'), .lst (SqL.of hPs2) (pr_dp hPr2), shp, shp, _, rfl, ?_⟩
      rw [SeqAt.eqv_refl _ (Bool.and_eq_true_iff.mp shp).1]
      exact iteF ⟨_, _, _, _, _, _, _, _, _, _, _, _, rfl, (same_drawn s0 nsr0 (dr.trans d11)).trans (sE1.trans sE2)⟩
end
end FL

namespace FL
open PySem PySem.Spec PyProof.Rows L2
theorem all_mk {l : PySem.W.OpenLaw} {w : World} {K : PySem.W.Frag} {h : Heap} {mg : Str → Option Value} {fa f1 f2 f3 f4 f5 f6 f7 f8 f9 f10 f11 f12 f13 f14 f15 f16 f17 f18 f19 f20 : Addr} (X : K.In h) (G : h.Ns mainGlobals mg) (hfa : mg "law" = some (.ref fa))
    {od1 an1 od2 an2 od3 an3 od4 an4 od5 an5 od6 an6 od7 an7 od8 an8 od9 an9 od10 an10 od11 an11 od12 an12 od13 an13 od14 an14 od15 an15 od16 an16 od17 an17 od18 an18 od19 an19 od20 an20 : Option Addr} {sl1 sl2 sl3 sl4 sl5 sl6 sl7 sl8 sl9 sl10 sl11 sl12 sl13 sl14 sl15 sl16 sl17 sl18 sl19 sl20 : Array (Option Value)} {oc1 kV1 dc1 pm1 cd1 ct1 oc2 kV2 dc2 pm2 cd2 ct2 oc3 kV3 dc3 pm3 cd3 ct3 oc4 kV4 dc4 pm4 cd4 ct4 oc5 kV5 dc5 pm5 cd5 ct5 oc6 kV6 dc6 pm6 cd6 ct6 oc7 kV7 dc7 pm7 cd7 ct7 oc8 kV8 dc8 pm8 cd8 ct8 oc9 kV9 dc9 pm9 cd9 ct9 oc10 kV10 dc10 pm10 cd10 ct10 oc11 kV11 dc11 pm11 cd11 ct11 oc12 kV12 dc12 pm12 cd12 ct12 oc13 kV13 dc13 pm13 cd13 ct13 oc14 kV14 dc14 pm14 cd14 ct14 oc15 kV15 dc15 pm15 cd15 ct15 oc16 kV16 dc16 pm16 cd16 ct16 oc17 kV17 dc17 pm17 cd17 ct17 oc18 kV18 dc18 pm18 cd18 ct18 oc19 kV19 dc19 pm19 cd19 ct19 oc20 kV20 dc20 pm20 cd20 ct20 : Value} {tk1 tk2 tk3 : Tok}
    {CL fL TL : Addr} {odL anL odTL : Option Addr} {slL slTL : Array (Option Value)} {ocL kVL dcL pmL cdL ctL ocTL : Value} {tkL : Tok} {nTL : Nat}
    {C fC TC NC : Addr} {nmC qC : Str} {bsC bmC : List Value} {snC : List Str} {subC : List Value} {abC : Bool} {colC : Option Bool} {ddC odC anC odTC : Option Addr} {m0C m1C m2C m3C m5C : Option Value} {slC slTC : Array (Option Value)} {ocC kVC dcC pmC cdC ctC ocTC : Value} {tkC : Tok} {nTC : Nat}
    (gL : PySem.W.nsIn K mainGlobals "LetterError" = some (some (.ref CL)))
    (iL : PySem.W.findIn K (.ref CL) "__init__" = some (some (.ref fL)))
    (lL : K.lookup fL = some ⟨ocL, odL, .func (PySem.W.fnOf "__init__" "LetterError.__init__" (defArgs sLE) (defBody sLE) (defScope sLE) (.ref TL) kVL dcL pmL anL cdL ctL), slL⟩)
    (cL : PySem.W.codeIn K cdL "LetterError.__init__" = true)
    (kL : PySem.W.keepIn K (.ref fL) = true)
    (dL : K.lookup TL = some ⟨ocTL, odTL, .seq #[.str ("" : Str) tkL] nTL, slTL⟩)
    (gaL : PySem.W.specialIn K (.ref CL) "__getattribute__" = some (some (.builtin "type.__getattribute__")))
    (rdL : PySem.W.readsIn K CL (.type "type") = true)
    (atL : PySem.W.findCls K (.ref CL) (.type "type") "__init__" = some (.val (.ref fL)))
    (vV : PySem.W.findCls K (.type "ValueError") (.type "type") "__init__" = some (.val (.builtin "ValueError.__init__")))
    (zVE : PySem.W.nsIn K mainGlobals "ValueError" = some none)
    (exL : PySem.W.subIn K (.ref CL) (.type "BaseException") = some true)
    (hdL : PySem.W.hasDictIn K CL = true)
    (tyL : PySem.W.typeIn K (.ref CL) = some (.type "type"))
    (gC : PySem.W.nsIn K mainGlobals "NoWords" = some (some (.ref C)))
    (xC : K.lookup C = some (excClassObj nmC qC C NC bsC bmC true snC subC abC colC ddC m0C m1C m2C m3C m5C "ValueError.__new__"))
    (rvC : PySem.HandSPX.refsVE bmC = true)
    (saC : PySem.W.findIn K (.ref C) "__setattr__" = some (some (.builtin "object.__setattr__")))
    (exC : PySem.W.subIn K (.ref C) (.type "BaseException") = some true)
    (tyC : PySem.W.typeIn K (.ref C) = some (.type "type"))
    (kcC : PySem.W.keepIn K (.ref C) = true)
    (noC : PySem.W.findIn K (.ref C) "at" = some none)
    (iC : PySem.W.findIn K (.ref C) "__init__" = some (some (.ref fC)))
    (tiC : PySem.W.typeIn K (.ref fC) = some (.type "function"))
    (lC : K.lookup fC = some ⟨ocC, odC, .func (PySem.W.fnOf "__init__" "NoWords.__init__" (defArgs sNW) (defBody sNW) (defScope sNW) (.ref TC) kVC dcC pmC anC cdC ctC), slC⟩)
    (cC : PySem.W.codeIn K cdC "NoWords.__init__" = true)
    (kC : PySem.W.keepIn K (.ref fC) = true)
    (dC : K.lookup TC = some ⟨ocTC, odTC, .seq #[.int 0 tkC] nTC, slTC⟩)
    (hgC : PySem.W.findIn K (.ref C) "__getattribute__" = some (some (.builtin "BaseException.__getattribute__")))
    (hkC : PySem.W.findIn K (.ref C) "__getattr__" = some none)
    (hdC : PySem.W.hasDictIn K C = true)
    (haC : PySem.W.findIn K (.ref C) "__class__" = some (some (.builtin "object.__class__")))
    (hmC : PySem.W.mroIn K C (.type "object") = some true)
    (suC : PySem.W.subIn K (.ref C) (.ref CL) = some true)
    (hn0 : PySem.W.specialIn K (.builtin "object.__class__") "__get__" = some (some (.builtin "getset_descriptor.__get__")))
    (ht0 : PySem.W.takesIn K (.builtin "object.__class__") = some true)
    (a1 : PySem.W.nsIn K mainGlobals "is_text" = some (some (.ref f1))) (l1 : K.lookup f1 = some ⟨oc1, od1, .func (PySem.W.fnOf "is_text" "is_text" (defArgs sIsText) (defBody sIsText) (defScope sIsText) .none kV1 dc1 pm1 an1 cd1 ct1), sl1⟩) (c1 : PySem.W.codeIn K cd1 "is_text" = true) (k1 : PySem.W.keepIn K (.ref f1) = true)
    (a2 : PySem.W.nsIn K mainGlobals "is_line" = some (some (.ref f2))) (l2 : K.lookup f2 = some ⟨oc2, od2, .func (PySem.W.fnOf "is_line" "is_line" (defArgs sIsLine) (defBody sIsLine) (defScope sIsLine) .none kV2 dc2 pm2 an2 cd2 ct2), sl2⟩) (c2 : PySem.W.codeIn K cd2 "is_line" = true) (k2 : PySem.W.keepIn K (.ref f2) = true)
    (a3 : PySem.W.nsIn K mainGlobals "is_letter" = some (some (.ref f3))) (l3 : K.lookup f3 = some ⟨oc3, od3, .func (PySem.W.fnOf "is_letter" "is_letter" (defArgs sIsLetter) (defBody sIsLetter) (defScope sIsLetter) .none kV3 dc3 pm3 an3 cd3 ct3), sl3⟩) (c3 : PySem.W.codeIn K cd3 "is_letter" = true) (k3 : PySem.W.keepIn K (.ref f3) = true)
    (a4 : PySem.W.nsIn K mainGlobals "is_figure" = some (some (.ref f4))) (l4 : K.lookup f4 = some ⟨oc4, od4, .func (PySem.W.fnOf "is_figure" "is_figure" (defArgs sIsFigure) (defBody sIsFigure) (defScope sIsFigure) .none kV4 dc4 pm4 an4 cd4 ct4), sl4⟩) (c4 : PySem.W.codeIn K cd4 "is_figure" = true) (k4 : PySem.W.keepIn K (.ref f4) = true)
    (a5 : PySem.W.nsIn K mainGlobals "_is_sign" = some (some (.ref f5))) (l5 : K.lookup f5 = some ⟨oc5, od5, .func (PySem.W.fnOf "_is_sign" "_is_sign" (defArgs sIsSign) (defBody sIsSign) (defScope sIsSign) .none kV5 dc5 pm5 an5 cd5 ct5), sl5⟩) (c5 : PySem.W.codeIn K cd5 "_is_sign" = true) (k5 : PySem.W.keepIn K (.ref f5) = true)
    (a6 : PySem.W.nsIn K mainGlobals "words" = some (some (.ref f6))) (l6 : K.lookup f6 = some ⟨oc6, od6, .func (PySem.W.fnOf "words" "words" (defArgs sWords) (defBody sWords) (defScope sWords) .none kV6 dc6 pm6 an6 cd6 ct6), sl6⟩) (c6 : PySem.W.codeIn K cd6 "words" = true) (k6 : PySem.W.keepIn K (.ref f6) = true)
    (a7 : PySem.W.nsIn K mainGlobals "quoted" = some (some (.ref f7))) (l7 : K.lookup f7 = some ⟨oc7, od7, .func (PySem.W.fnOf "quoted" "quoted" (defArgs sQuoted) (defBody sQuoted) (defScope sQuoted) .none kV7 dc7 pm7 an7 cd7 ct7), sl7⟩) (c7 : PySem.W.codeIn K cd7 "quoted" = true) (k7 : PySem.W.keepIn K (.ref f7) = true)
    (a8 : PySem.W.nsIn K mainGlobals "_word_at" = some (some (.ref f8))) (l8 : K.lookup f8 = some ⟨oc8, od8, .func (PySem.W.fnOf "_word_at" "_word_at" (defArgs sWordAt) (defBody sWordAt) (defScope sWordAt) .none kV8 dc8 pm8 an8 cd8 ct8), sl8⟩) (c8 : PySem.W.codeIn K cd8 "_word_at" = true) (k8 : PySem.W.keepIn K (.ref f8) = true)
    (a9 : PySem.W.nsIn K mainGlobals "_is_atom_sign" = some (some (.ref f9))) (l9 : K.lookup f9 = some ⟨oc9, od9, .func (PySem.W.fnOf "_is_atom_sign" "_is_atom_sign" (defArgs sIsAtom) (defBody sIsAtom) (defScope sIsAtom) .none kV9 dc9 pm9 an9 cd9 ct9), sl9⟩) (c9 : PySem.W.codeIn K cd9 "_is_atom_sign" = true) (k9 : PySem.W.keepIn K (.ref f9) = true)
    (a10 : PySem.W.nsIn K mainGlobals "_atom_end" = some (some (.ref f10))) (l10 : K.lookup f10 = some ⟨oc10, od10, .func (PySem.W.fnOf "_atom_end" "_atom_end" (defArgs sAtomEnd) (defBody sAtomEnd) (defScope sAtomEnd) .none kV10 dc10 pm10 an10 cd10 ct10), sl10⟩) (c10 : PySem.W.codeIn K cd10 "_atom_end" = true) (k10 : PySem.W.keepIn K (.ref f10) = true)
    (a11 : PySem.W.nsIn K mainGlobals "_quoted_word" = some (some (.ref f11))) (l11 : K.lookup f11 = some ⟨oc11, od11, .func (PySem.W.fnOf "_quoted_word" "_quoted_word" (defArgs sQuotedWord) (defBody sQuotedWord) (defScope sQuotedWord) .none kV11 dc11 pm11 an11 cd11 ct11), sl11⟩) (c11 : PySem.W.codeIn K cd11 "_quoted_word" = true) (k11 : PySem.W.keepIn K (.ref f11) = true)
    (a12 : PySem.W.nsIn K mainGlobals "_remark" = some (some (.ref f12))) (l12 : K.lookup f12 = some ⟨oc12, od12, .func (PySem.W.fnOf "_remark" "_remark" (defArgs sRemark) (defBody sRemark) (defScope sRemark) .none kV12 dc12 pm12 an12 cd12 ct12), sl12⟩) (c12 : PySem.W.codeIn K cd12 "_remark" = true) (k12 : PySem.W.keepIn K (.ref f12) = true)
    (a13 : PySem.W.nsIn K mainGlobals "_law_cell_at" = some (some (.ref f13))) (l13 : K.lookup f13 = some ⟨oc13, od13, .func (PySem.W.fnOf "_law_cell_at" "_law_cell_at" (defArgs sCellAt) (defBody sCellAt) (defScope sCellAt) .none kV13 dc13 pm13 an13 cd13 ct13), sl13⟩) (c13 : PySem.W.codeIn K cd13 "_law_cell_at" = true) (k13 : PySem.W.keepIn K (.ref f13) = true)
    (a14 : PySem.W.nsIn K mainGlobals "_law_mixed" = some (some (.ref f14))) (l14 : K.lookup f14 = some ⟨oc14, od14, .func (PySem.W.fnOf "_law_mixed" "_law_mixed" (defArgs sMixed) (defBody sMixed) (defScope sMixed) .none kV14 dc14 pm14 an14 cd14 ct14), sl14⟩) (c14 : PySem.W.codeIn K cd14 "_law_mixed" = true) (k14 : PySem.W.keepIn K (.ref f14) = true)
    (a15 : PySem.W.nsIn K mainGlobals "_law_source" = some (some (.ref f15))) (l15 : K.lookup f15 = some ⟨oc15, od15, .func (PySem.W.fnOf "_law_source" "_law_source" (defArgs sSource) (defBody sSource) (defScope sSource) .none kV15 dc15 pm15 an15 cd15 ct15), sl15⟩) (c15 : PySem.W.codeIn K cd15 "_law_source" = true) (k15 : PySem.W.keepIn K (.ref f15) = true)
    (a16 : PySem.W.nsIn K mainGlobals "_law_next" = some (some (.ref f16))) (l16 : K.lookup f16 = some ⟨oc16, od16, .func (PySem.W.fnOf "_law_next" "_law_next" (defArgs sNext) (defBody sNext) (defScope sNext) .none kV16 dc16 pm16 an16 cd16 ct16), sl16⟩) (c16 : PySem.W.codeIn K cd16 "_law_next" = true) (k16 : PySem.W.keepIn K (.ref f16) = true)
    (a17 : PySem.W.nsIn K mainGlobals "_law_signs" = some (some (.ref f17))) (l17 : K.lookup f17 = some ⟨oc17, od17, .func (PySem.W.fnOf "_law_signs" "_law_signs" (defArgs sSigns) (defBody sSigns) (defScope sSigns) .none kV17 dc17 pm17 an17 cd17 ct17), sl17⟩) (c17 : PySem.W.codeIn K cd17 "_law_signs" = true) (k17 : PySem.W.keepIn K (.ref f17) = true)
    (a18 : PySem.W.nsIn K mainGlobals "_law_drawn_word" = some (some (.ref f18))) (l18 : K.lookup f18 = some ⟨oc18, od18, .func (PySem.W.fnOf "_law_drawn_word" "_law_drawn_word" (defArgs sLawDrawnWord) (defBody sLawDrawnWord) (defScope sLawDrawnWord) .none kV18 dc18 pm18 an18 cd18 ct18), sl18⟩) (c18 : PySem.W.codeIn K cd18 "_law_drawn_word" = true) (k18 : PySem.W.keepIn K (.ref f18) = true)
    (a19 : PySem.W.nsIn K mainGlobals "_law_laid" = some (some (.ref f19))) (l19 : K.lookup f19 = some ⟨oc19, od19, .func (PySem.W.fnOf "_law_laid" "_law_laid" (defArgs sLawLaid) (defBody sLawLaid) (defScope sLawLaid) .none kV19 dc19 pm19 an19 cd19 ct19), sl19⟩) (c19 : PySem.W.codeIn K cd19 "_law_laid" = true) (k19 : PySem.W.keepIn K (.ref f19) = true)
    (a20 : PySem.W.nsIn K mainGlobals "law" = some (some (.ref f20))) (l20 : K.lookup f20 = some ⟨oc20, od20, .func (PySem.W.fnOf "law" "law" (defArgs sLaw) (defBody sLaw) (defScope sLaw) .none kV20 dc20 pm20 an20 cd20 ct20), sl20⟩) (c20 : PySem.W.codeIn K cd20 "law" = true) (k20 : PySem.W.keepIn K (.ref f20) = true)
    (z1 : PySem.W.nsIn K mainGlobals "isinstance" = some none) (z2 : PySem.W.nsIn K mainGlobals "str" = some none) (z3 : PySem.W.nsIn K mainGlobals "all" = some none) (z4 : PySem.W.nsIn K mainGlobals "ord" = some none) (z5 : PySem.W.nsIn K mainGlobals "len" = some none) (z6 : PySem.W.nsIn K mainGlobals "range" = some none) (z7 : PySem.W.nsIn K mainGlobals "max" = some none) (z8 : PySem.W.nsIn K mainGlobals "min" = some none) (z9 : PySem.W.nsIn K mainGlobals "enumerate" = some none) (z10 : PySem.W.nsIn K mainGlobals "int" = some none) (v1 : PySem.W.nsIn K mainGlobals "PERCENT" = some (some (.int 37 tk1))) (v2 : PySem.W.nsIn K mainGlobals "ATOM_SIGNS" = some (some (.str atomText tk2))) (v3 : PySem.W.nsIn K mainGlobals "MARKS" = some (some (.str marksText tk3))) :
    ∃ fd : FuncData, (∀ (s : Shared) (v : Value), BindsTo s fd ⟨[v], []⟩ [("_law_script", v)]) ∧ ∀ base : Heap, K.In base → base.Ns mainGlobals mg → FnOk l.prog w K mg base CX0 7 fa fd ["_law_script"] (spLaw K) := by
  have e := hfa.symm.trans (PySem.W.mg_of X G a20)
  cases e
  have m_ValueError : mg "ValueError" = none := PySem.W.mg_none_of X G zVE
  have m_LetterError := PySem.W.mg_of X G gL
  have FL : FunA K "LetterError.__init__" sLE [.str ""] fL _ := ⟨⟨_, _, _, _, _, _, _, _, _, _, rfl, lL, cL, .inr ⟨by simp, TL, _, [.str ("" : Str) tkL], nTL, rfl, dL, rfl, .cons ⟨tkL, rfl⟩ .nil⟩, .inl rfl⟩, kL⟩
  have TLc : ClsFn K CL fL := ⟨gaL, rdL, atL, kL⟩
  have m_NoWords := PySem.W.mg_of X G gC
  have FC : FunA K "NoWords.__init__" sNW [.int 0] fC _ := ⟨⟨_, _, _, _, _, _, _, _, _, _, rfl, lC, cC, .inr ⟨by simp, TC, _, [.int 0 tkC], nTC, rfl, dC, rfl, .cons ⟨tkC, rfl⟩ .nil⟩, .inl rfl⟩, kC⟩
  have OC : OexC K C := ⟨⟨nmC, qC, NC, bsC, bmC, snC, subC, abC, colC, ddC, m0C, m1C, m2C, m3C, m5C, xC, rvC⟩, saC, exC, tyC, kcC⟩
  have ECC : ExcC K C := ⟨hgC, hkC, exC, hdC, haC, hn0, ht0, hmC⟩
  have teC : PySem.W.exmOne K (.ref C) (.ref CL) = some true := PySem.W.exm_ref exL hdL tyL suC
  have XFC : XfC K C := ⟨hgC, hkC, exC, hdC⟩
  have A1 : FnAt K mg "is_text" sIsText := ⟨f1, _, fun_mk (st := sIsText) l1 c1 k1, PySem.W.mg_of X G a1⟩
  have A2 : FnAt K mg "is_line" sIsLine := ⟨f2, _, fun_mk (st := sIsLine) l2 c2 k2, PySem.W.mg_of X G a2⟩
  have A3 : FnAt K mg "is_letter" sIsLetter := ⟨f3, _, fun_mk (st := sIsLetter) l3 c3 k3, PySem.W.mg_of X G a3⟩
  have A4 : FnAt K mg "is_figure" sIsFigure := ⟨f4, _, fun_mk (st := sIsFigure) l4 c4 k4, PySem.W.mg_of X G a4⟩
  have A5 : FnAt K mg "_is_sign" sIsSign := ⟨f5, _, fun_mk (st := sIsSign) l5 c5 k5, PySem.W.mg_of X G a5⟩
  have A6 : FnAt K mg "words" sWords := ⟨f6, _, fun_mk (st := sWords) l6 c6 k6, PySem.W.mg_of X G a6⟩
  have A7 : FnAt K mg "quoted" sQuoted := ⟨f7, _, fun_mk (st := sQuoted) l7 c7 k7, PySem.W.mg_of X G a7⟩
  have A8 : FnAt K mg "_word_at" sWordAt := ⟨f8, _, fun_mk (st := sWordAt) l8 c8 k8, PySem.W.mg_of X G a8⟩
  have A9 : FnAt K mg "_is_atom_sign" sIsAtom := ⟨f9, _, fun_mk (st := sIsAtom) l9 c9 k9, PySem.W.mg_of X G a9⟩
  have A10 : FnAt K mg "_atom_end" sAtomEnd := ⟨f10, _, fun_mk (st := sAtomEnd) l10 c10 k10, PySem.W.mg_of X G a10⟩
  have A11 : FnAt K mg "_quoted_word" sQuotedWord := ⟨f11, _, fun_mk (st := sQuotedWord) l11 c11 k11, PySem.W.mg_of X G a11⟩
  have A12 : FnAt K mg "_remark" sRemark := ⟨f12, _, fun_mk (st := sRemark) l12 c12 k12, PySem.W.mg_of X G a12⟩
  have A13 : FnAt K mg "_law_cell_at" sCellAt := ⟨f13, _, fun_mk (st := sCellAt) l13 c13 k13, PySem.W.mg_of X G a13⟩
  have A14 : FnAt K mg "_law_mixed" sMixed := ⟨f14, _, fun_mk (st := sMixed) l14 c14 k14, PySem.W.mg_of X G a14⟩
  have A15 : FnAt K mg "_law_source" sSource := ⟨f15, _, fun_mk (st := sSource) l15 c15 k15, PySem.W.mg_of X G a15⟩
  have A16 : FnAt K mg "_law_next" sNext := ⟨f16, _, fun_mk (st := sNext) l16 c16 k16, PySem.W.mg_of X G a16⟩
  have A17 : FnAt K mg "_law_signs" sSigns := ⟨f17, _, fun_mk (st := sSigns) l17 c17 k17, PySem.W.mg_of X G a17⟩
  have A18 : FnAt K mg "_law_drawn_word" sLawDrawnWord := ⟨f18, _, fun_mk (st := sLawDrawnWord) l18 c18 k18, PySem.W.mg_of X G a18⟩
  have A19 : FnAt K mg "_law_laid" sLawLaid := ⟨f19, _, fun_mk (st := sLawLaid) l19 c19 k19, PySem.W.mg_of X G a19⟩
  have F20 := fun_mk (st := sLaw) l20 c20 k20
  have m_isinstance : mg "isinstance" = none := PySem.W.mg_none_of X G z1
  have m_str : mg "str" = none := PySem.W.mg_none_of X G z2
  have m_all : mg "all" = none := PySem.W.mg_none_of X G z3
  have m_ord : mg "ord" = none := PySem.W.mg_none_of X G z4
  have m_len : mg "len" = none := PySem.W.mg_none_of X G z5
  have m_range : mg "range" = none := PySem.W.mg_none_of X G z6
  have m_max : mg "max" = none := PySem.W.mg_none_of X G z7
  have m_min : mg "min" = none := PySem.W.mg_none_of X G z8
  have m_enumerate : mg "enumerate" = none := PySem.W.mg_none_of X G z9
  have m_int : mg "int" = none := PySem.W.mg_none_of X G z10
  have m_PERCENT := PySem.W.mg_of X G v1
  have m_ATOM_SIGNS := PySem.W.mg_of X G v2
  have m_MARKS := PySem.W.mg_of X G v3
  refine ⟨PySem.W.fnOf "law" "law" (defArgs sLaw) (defBody sLaw) (defScope sLaw) .none kV20 dc20 pm20 an20 cd20 ct20, fun s v => .of_eq rfl, fun base _ _ => ?_⟩
  have MC := mk_NW (P := l.prog) (w := w) (base := base) FC FL TLc m_LetterError m_ValueError vV OC noC m_NoWords iC tiC
  have R1 := r_is_letter (P := l.prog) (w := w) (base := base) A3
  have R2 := r_is_figure (P := l.prog) (w := w) (base := base) A4
  have R3 := r_is_sign (P := l.prog) (w := w) (base := base) A5 m_ord m_PERCENT
  have R4 := r_is_text A1 R3 m_isinstance m_str m_all
  have R5 := r_is_line A2 R4
  have R6 := r_is_atom A9 R1 R2 m_ATOM_SIGNS
  have R7 := r_atom_end A10 R6 m_len
  have R8 := x_quoted_word MC A11 m_len
  have R9 := x_remark MC A12 m_len
  have R10 := x_word_at MC A8 R6 R7 R8 R9 m_MARKS
  have R11 := x_words MC A6 R5 R10 m_len
  have R13 := r_cell_at (P := l.prog) (w := w) (base := base) A13 m_len
  have R14 := r_mixed (P := l.prog) (w := w) (base := base) A14
  have R15 := r_source A15 R13 R14 m_len
  have R16 := r_next A16 R14
  have R17 := r_signs A17 R16 m_len m_range
  have R12 := x_quoted MC A7 R5 R7 m_len
  have R18 := r_dw A18 R16 R17 R12
  have R19 := r_laid A19 R16 m_len m_enumerate
  exact ok_law F20 R15 R16 R18 R19 R11 m_len m_range m_max m_min m_int
end FL
open PySem PySem.W PyProof.Rows
set_option maxRecDepth 100000 in
set_option maxHeartbeats 8000000 in
theorem PySem.Challenge.cw_foldletter_k09_whole_words_there_and_bac_holds : PySem.Challenge.rw_foldletter_k09_whole_words_there_and_bac.Holds := by
  w_on; o_law; k_head; (case hw => w_witness2)
  k_fill
  refine L2.walk_of (l := PySem.Challenge.rw_foldletter_k09_whole_words_there_and_bac) (n := 63) (k := 7) (x := "_law_script") (CX := fun _ => L2.CX0) (sp := fun w => FL.spLaw _) rfl (by decide) rfl ⟨rfl, by decide, by decide⟩ (fun w h Y => PySem.W.kIn_of Y) ?F (fun _ _ a ns hl _ hS => ⟨a, ns, rfl, hS, hl, fun _ => rfl⟩) (fun _ _ _ _ _ h => h)
  case F =>
    intro w mg fa h KX G hmg
    refine' FL.all_mk KX G hmg ?gL ?iL ?lL ?cL ?kL ?dL ?gaL ?rdL ?atL ?vV ?zVE ?exL ?hdL ?tyL ?gC ?xC ?rvC ?saC ?exC ?tyC ?kcC ?noC ?iC ?tiC ?lC ?cC ?kC ?dC ?hgC ?hkC ?hdC ?haC ?hmC ?suC ?hn0 ?ht0 ?a1 ?l1 ?c1 ?k1 ?a2 ?l2 ?c2 ?k2 ?a3 ?l3 ?c3 ?k3 ?a4 ?l4 ?c4 ?k4 ?a5 ?l5 ?c5 ?k5 ?a6 ?l6 ?c6 ?k6 ?a7 ?l7 ?c7 ?k7 ?a8 ?l8 ?c8 ?k8 ?a9 ?l9 ?c9 ?k9 ?a10 ?l10 ?c10 ?k10 ?a11 ?l11 ?c11 ?k11 ?a12 ?l12 ?c12 ?k12 ?a13 ?l13 ?c13 ?k13 ?a14 ?l14 ?c14 ?k14 ?a15 ?l15 ?c15 ?k15 ?a16 ?l16 ?c16 ?k16 ?a17 ?l17 ?c17 ?k17 ?a18 ?l18 ?c18 ?k18 ?a19 ?l19 ?c19 ?k19 ?a20 ?l20 ?c20 ?k20 ?z1 ?z2 ?z3 ?z4 ?z5 ?z6 ?z7 ?z8 ?z9 ?z10 ?v1 ?v2 ?v3
    (case gL => k_is); (case iL => k_is); (case lL => k_is); (case cL => k_is); (case kL => k_is); (case dL => k_is); (case gaL => k_is); (case rdL => k_is); (case atL => k_is); (case vV => k_is); (case zVE => k_is); (case exL => k_is); (case hdL => k_is); (case tyL => k_is); (case gC => k_is); (case xC => k_is); (case rvC => first | rfl | k_is); (case saC => k_is); (case exC => k_is); (case tyC => k_is); (case kcC => k_is); (case noC => k_is); (case iC => k_is); (case tiC => k_is); (case lC => k_is); (case cC => k_is); (case kC => k_is); (case dC => k_is); (case hgC => k_is); (case hkC => k_is); (case hdC => k_is); (case haC => k_is); (case hmC => k_is); (case suC => k_is); (case hn0 => k_is); (case ht0 => k_is); (case a1 => k_is); (case l1 => k_is); (case c1 => k_is); (case k1 => k_is); (case a2 => k_is); (case l2 => k_is); (case c2 => k_is); (case k2 => k_is); (case a3 => k_is); (case l3 => k_is); (case c3 => k_is); (case k3 => k_is); (case a4 => k_is); (case l4 => k_is); (case c4 => k_is); (case k4 => k_is); (case a5 => k_is); (case l5 => k_is); (case c5 => k_is); (case k5 => k_is); (case a6 => k_is); (case l6 => k_is); (case c6 => k_is); (case k6 => k_is); (case a7 => k_is); (case l7 => k_is); (case c7 => k_is); (case k7 => k_is); (case a8 => k_is); (case l8 => k_is); (case c8 => k_is); (case k8 => k_is); (case a9 => k_is); (case l9 => k_is); (case c9 => k_is); (case k9 => k_is); (case a10 => k_is); (case l10 => k_is); (case c10 => k_is); (case k10 => k_is); (case a11 => k_is); (case l11 => k_is); (case c11 => k_is); (case k11 => k_is); (case a12 => k_is); (case l12 => k_is); (case c12 => k_is); (case k12 => k_is); (case a13 => k_is); (case l13 => k_is); (case c13 => k_is); (case k13 => k_is); (case a14 => k_is); (case l14 => k_is); (case c14 => k_is); (case k14 => k_is); (case a15 => k_is); (case l15 => k_is); (case c15 => k_is); (case k15 => k_is); (case a16 => k_is); (case l16 => k_is); (case c16 => k_is); (case k16 => k_is); (case a17 => k_is); (case l17 => k_is); (case c17 => k_is); (case k17 => k_is); (case a18 => k_is); (case l18 => k_is); (case c18 => k_is); (case k18 => k_is); (case a19 => k_is); (case l19 => k_is); (case c19 => k_is); (case k19 => k_is); (case a20 => k_is); (case l20 => k_is); (case c20 => k_is); (case k20 => k_is); (case z1 => k_is); (case z2 => k_is); (case z3 => k_is); (case z4 => k_is); (case z5 => k_is); (case z6 => k_is); (case z7 => k_is); (case z8 => k_is); (case z9 => k_is); (case z10 => k_is); (case v1 => k_is); (case v2 => k_is); (case v3 => k_is)
