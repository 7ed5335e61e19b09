import PyProof.Rows.All
import Wide.All
import OpenK.AllK
import Wide.FinOn
import PySem.Challenge.RW_foldletter_k06_values_cut
import HandS.ForMost
import HandS.Walk
import HandS.IsInst
import HandS.Wide
import HandS.ReplaceDef
import HandS.ReplaceLit
import HandS.ReplaceList
import HandS.StrMore
import HandS.ExcInit
import HandS.ExcIs
import HandS.ExcField
import HandS.Defaults
import HandS.TryOnly
import HandS.WordsExc
import HandS.Rev
import HandS.Conv
import HandS.ClsMeth
set_option Elab.async false
set_option linter.all false
set_option maxRecDepth 100000
set_option maxHeartbeats 4000000
namespace FL
open PySem PySem.Spec PyProof.Rows L2
def topS (i : Nat) : Stmt := PySem.Challenge.pw_foldletter_k06_values_cut.main.body.getD i (.Pass ⟨0, 0, 0, 0⟩)
abbrev cLetterError : Stmt := topS 1
abbrev cNoHead : Stmt := topS 2
abbrev cNoText : Stmt := topS 3
abbrev cNoWords : Stmt := topS 4
abbrev sIsText : Stmt := topS 7
abbrev sIsLine : Stmt := topS 8
abbrev sIsLetter : Stmt := topS 9
abbrev sIsFigure : Stmt := topS 10
abbrev sIsSign : Stmt := topS 11
abbrev sWords : Stmt := topS 15
abbrev sWordAt : Stmt := topS 16
abbrev sIsAtom : Stmt := topS 17
abbrev sAtomEnd : Stmt := topS 18
abbrev sQuotedWord : Stmt := topS 19
abbrev sRemark : Stmt := topS 20
abbrev sCellAt : Stmt := topS 22
abbrev sMixed : Stmt := topS 23
abbrev sSource : Stmt := topS 24
abbrev sNext : Stmt := topS 25
abbrev sSigns : Stmt := topS 26
abbrev sLawValueSigns : Stmt := topS 27
abbrev sLawClosed : Stmt := topS 28
abbrev sLawUnquoted : Stmt := topS 29
abbrev sLawCut : Stmt := topS 30
abbrev sLawTold : Stmt := topS 31
abbrev sLawBuilt : Stmt := topS 32
abbrev sLaw : Stmt := topS 33
end FL

namespace FL
open PySem PySem.Spec PyProof.Rows L2
/-! ### small words -/
theorem pe_weak {X : Cx} {e : Expr} {t t' : TE} (h : PE X e t) (m : ∀ σ H Q, t' σ H Q → t σ H Q) : PE X e t' := ⟨fun pins s σ H Q I q => h.run pins s σ H Q I (m σ H Q q)⟩
theorem lt_one {a b : Nat} : ((([a] : List Nat) < [b])) ↔ a < b := by
  rw [List.cons_lt_cons_iff]
  simp
theorem bl_to {Q : V → Hp → Prop} {H : Hp} {a b : Bool} (e : a = b) (q : Q (.bl b) H) : Q (.bl a) H := by
  rw [e]
  exact q
def tBtw (i lo hi : Nat) : TE := fun σ H Q => ∃ c : Nat, σ[i]? = some (some (.str ⟨#[c]⟩)) ∧ Q (.bl (decide (lo ≤ c ∧ c ≤ hi))) H
theorem pe_btw {X : Cx} (i : Nat) {x a b : Str} {lo hi k1 k2 : Nat} {p1 p2 p3 pos : Pos} (ea : a.cps.toList = [lo]) (eb : b.cps.toList = [hi]) (hx : PE X (.Name x p2) (tVar i))
    (hm : lastMarks [.LtE, .LtE] [.Name x p2, .Constant (.str b) k2 p3] = false := by with_unfolding_all rfl) :
    PE X (.Compare (.Constant (.str a) k1 p1) [.LtE, .LtE] [.Name x p2, .Constant (.str b) k2 p3] pos) (tBtw i lo hi) := by
  refine pe_weak (pe_chain op_le_str op_le_str pe_str hx pe_str hm) ?_
  rintro σ H Q ⟨c, hc, q⟩
  refine ⟨_, hc, _, _, rfl, rfl, _, rfl, ?_⟩
  have e1 : (!decide (((⟨#[c]⟩ : Str).cps.toList) < a.cps.toList)) = decide (lo ≤ c) := by
    rw [ea]
    show (!decide (([c] : List Nat) < [lo])) = decide (lo ≤ c)
    rw [decide_eq_decide.mpr (lt_one (a := c) (b := lo))]
    by_cases h : lo ≤ c
    · rw [decide_eq_true h, decide_eq_false (by omega)]; rfl
    · rw [decide_eq_false h, decide_eq_true (by omega)]; rfl
  have e2 : (!decide (b.cps.toList < ((⟨#[c]⟩ : Str).cps.toList))) = decide (c ≤ hi) := by
    rw [eb]
    show (!decide (([hi] : List Nat) < [c])) = decide (c ≤ hi)
    rw [decide_eq_decide.mpr (lt_one (a := hi) (b := c))]
    by_cases h : c ≤ hi
    · rw [decide_eq_true h, decide_eq_false (by omega)]; rfl
    · rw [decide_eq_false h, decide_eq_true (by omega)]; rfl
  rw [e1]
  by_cases h1 : lo ≤ c
  · rw [decide_eq_true h1, if_pos rfl]
    refine ⟨_, _, rfl, rfl, bl_to e2 (bl_to ?_ q)⟩
    by_cases h2 : c ≤ hi
    · rw [decide_eq_true h2, decide_eq_true ⟨h1, h2⟩]
    · rw [decide_eq_false h2, decide_eq_false (fun z => h2 z.2)]
  · rw [decide_eq_false h1, if_neg Bool.false_ne_true]
    exact bl_to (decide_eq_false (fun z => h1 z.1)).symm q
/-- x or y of two truths -/
theorem pe_orB {X : Cx} {a b : Expr} {rest : List Expr} {pos : Pos} {ta tb : TE} (ha : PE X a ta) (hb : PE X (.BoolOp .Or (b :: rest) pos) tb) :
    PE X (.BoolOp .Or (a :: b :: rest) pos) (tOrV ta tb) := pe_or ha hb
/-! ### what stands where -/
structure FnAt (K : PySem.W.Frag) (mg : Str → Option Value) (x : Str) (st : Stmt) : Prop where
  ex : ∃ f fd, Fun K x x st f fd ∧ mg x = some (.ref f)
def Ready (P : Program) (w : World) (K : PySem.W.Frag) (mg : Str → Option Value) (base : Heap) (k : Nat) (x : Str) (ps : List Str) (sp : Sp) : Prop :=
  ∃ f fd, mg x = some (.ref f) ∧ PySem.W.keepIn K (.ref f) = true ∧ Binds K fd ps [] ∧ FnOk P w K mg base CX0 k f fd ps sp
section
variable {P : Program} {w : World} {K : PySem.W.Frag} {mg : Str → Option Value} {base : Heap}
theorem ready_of {x : Str} {st : Stmt} {k : Nat} {ps : List Str} {sp : Sp} (A : FnAt K mg x st)
    (hb : ∀ (kV doc pm : Value) (an : Option Addr) (cdv ct : Value) (us : List Value), us.length = ps.length → bindArgs (PySem.W.fnOf x x (defArgs st) (defBody st) (defScope st) .none kV doc pm an cdv ct) ⟨us, []⟩ = pure (ps.zip us))
    (ok : ∀ f fd, Fun K x x st f fd → FnOk P w K mg base CX0 k f fd ps sp) : Ready P w K mg base k x ps sp := by
  obtain ⟨f, fd, F, g⟩ := A.ex
  exact ⟨f, fd, g, F.kp, F.binds hb, ok f fd F⟩
/-! ### the mathematics of signs -/
def isLet (c : Nat) : Bool := decide (97 ≤ c ∧ c ≤ 122) || decide (65 ≤ c ∧ c ≤ 90)
def isFig (c : Nat) : Bool := decide (48 ≤ c ∧ c ≤ 57)
def isSig (c : Nat) : Bool := decide (c = 10) || (decide (32 ≤ c ∧ c ≤ 126) && !decide (c = 37))
def atomSigns : List Nat := [33, 35, 36, 38, 39, 42, 43, 45, 46, 47, 61, 63, 94, 95, 96, 123, 124, 125, 126]
def isAtm (c : Nat) : Bool := isLet c || (isFig c || decide (c ∈ atomSigns))
def spSign (f : Nat → Bool) : Sp := fun vs H Q _ => ∃ c : Nat, vs = [.str ⟨#[c]⟩] ∧ Q (.bl (f c)) H
theorem scIsLetter : FnScope ["sign"] ["sign"] (defScope sIsLetter) := ⟨rfl, rfl, rfl, by decide +kernel, rfl, by decide +kernel, by decide +kernel⟩
theorem r_is_letter (A : FnAt K mg "is_letter" sIsLetter) : Ready P w K mg base 1 "is_letter" ["sign"] (spSign isLet) := by
  refine ready_of A (fun _ _ _ _ _ _ us hl => match us, hl with | [_], _ => rfl) fun f fd F => ?_
  refine F.ok scIsLetter (fun vs H Q E h => ?_) (fun cdv A outer s H vs Q E hr h => ?_)
  · obtain ⟨c, rfl, _⟩ := h
    rfl
  · obtain ⟨c, rfl, q⟩ := h
    refine ⟨_, pss_one (ps_ret (pe_or (pe_btw (lo := 97) (hi := 122) 0 rfl rfl (pv 0)) (pe_one (pe_btw (lo := 65) (hi := 90) 0 rfl rfl (pv 0))))), ?_⟩
    refine ⟨c, rfl, _, rfl, ?_⟩
    by_cases h1 : 97 ≤ c ∧ c ≤ 122
    · rw [decide_eq_true h1, if_pos rfl]
      exact bl_to (by unfold isLet; rw [decide_eq_true h1]; rfl) q
    · rw [decide_eq_false h1, if_neg Bool.false_ne_true]
      exact ⟨c, rfl, bl_to (by unfold isLet; rw [decide_eq_false h1]; rfl) q⟩
theorem scIsFigure : FnScope ["sign"] ["sign"] (defScope sIsFigure) := ⟨rfl, rfl, rfl, by decide +kernel, rfl, by decide +kernel, by decide +kernel⟩
theorem r_is_figure (A : FnAt K mg "is_figure" sIsFigure) : Ready P w K mg base 1 "is_figure" ["sign"] (spSign isFig) := by
  refine ready_of A (fun _ _ _ _ _ _ us hl => match us, hl with | [_], _ => rfl) fun f fd F => ?_
  refine F.ok scIsFigure (fun vs H Q E h => ?_) (fun cdv A outer s H vs Q E hr h => ?_)
  · obtain ⟨c, rfl, _⟩ := h
    rfl
  · obtain ⟨c, rfl, q⟩ := h
    exact ⟨_, pss_one (ps_ret (pe_btw (lo := 48) (hi := 57) 0 rfl rfl (pv 0))), c, rfl, q⟩
theorem str_one {c d : Nat} : (V.str ⟨#[c]⟩ = V.str ⟨#[d]⟩) ↔ c = d := by
  constructor
  · intro h
    injection h with h
    injection h with h
    have h2 := congrArg Array.toList h
    simpa using h2
  · intro h
    rw [h]
theorem scIsSign : FnScope ["sign"] ["sign"] (defScope sIsSign) := ⟨rfl, rfl, rfl, by decide +kernel, rfl, by decide +kernel, by decide +kernel⟩
theorem r_is_sign (A : FnAt K mg "_is_sign" sIsSign) (mo : mg "ord" = none) {tp : Tok} (mp : mg "PERCENT" = some (.int 37 tp)) : Ready P w K mg base 1 "_is_sign" ["sign"] (spSign isSig) := by
  refine ready_of A (fun _ _ _ _ _ _ us hl => match us, hl with | [_], _ => rfl) fun f fd F => ?_
  refine F.ok scIsSign (fun vs H Q E h => ?_) (fun cdv A outer s H vs Q E hr h => ?_)
  · obtain ⟨c, rfl, _⟩ := h
    rfl
  · obtain ⟨c, rfl, q⟩ := h
    refine ⟨_, pss_one (ps_ret (pe_or (pe_cmpR op_eq (pv 0) pe_str (nomark _)) (pe_one (pe_and (pe_btw (lo := 32) (hi := 126) 0 rfl rfl (pv 0))
      (pe_one (pe_cmpR op_ne (pe_callB call_ord (by rfl) mo (by decide +kernel) (pa_cons (pv 0) pa_nil)) (pe_glob (v := .int 37) rfl mp ⟨tp, rfl⟩) (nomark _))))))), ?_⟩
    refine ⟨_, rfl, rfl, _, rfl, ?_⟩
    have e1 : decide (V.str ⟨#[c]⟩ = V.str ("\n" : Str)) = decide (c = 10) := decide_eq_decide.mpr (str_one (d := 10))
    rw [e1]
    by_cases h1 : c = 10
    · rw [decide_eq_true h1, if_pos rfl]
      exact bl_to (by unfold isSig; rw [decide_eq_true h1]; rfl) q
    · rw [decide_eq_false h1, if_neg Bool.false_ne_true]
      refine ⟨c, rfl, _, rfl, ?_⟩
      by_cases h2 : 32 ≤ c ∧ c ≤ 126
      · rw [decide_eq_true h2, if_pos rfl]
        refine ⟨_, rfl, _, rfl, rfl, rfl, bl_to ?_ q⟩
        unfold isSig
        rw [decide_eq_false h1, decide_eq_true h2, Bool.false_or, Bool.true_and]
        show (!decide (V.int ((c : Nat) : Int) = V.int 37)) = !decide (c = 37)
        congr 1
        refine decide_eq_decide.mpr ⟨fun h => ?_, fun h => by rw [h]; rfl⟩
        injection h with h
        omega
      · rw [decide_eq_false h2, if_neg Bool.false_ne_true]
        exact bl_to (by unfold isSig; rw [decide_eq_false h1, decide_eq_false h2]; rfl) q
end
end FL

namespace FL
open PySem PySem.Spec PyProof.Rows L2
section
variable {P : Program} {w : World} {K : PySem.W.Frag} {mg : Str → Option Value} {base : Heap}
theorem szl {n : Nat} (h : n ≤ 10000) : n < sizeLine := Nat.lt_of_le_of_lt h (by decide)
theorem same_new {H : Hp} {p : Addr} {o : HO} (h : H p = none) : Same H (upd H p o) := fun b x e => by
  rw [upd_ne (ne_of_none e h)]
  exact e
/-- a store to what was not there at the start -/
theorem same_set {H H1 : Hp} {p : Addr} {o : HO} (s : Same H H1) (h : H p = none) : Same H (upd H1 p o) := fun b x e => by
  rw [upd_ne (ne_of_none e h)]
  exact s b x e
theorem take_more {α : Type} {l : List α} {i : Nat} {x : α} (h : l[i]? = some x) : l.take (i + 1) = l.take i ++ [x] := by
  rw [List.take_add_one, h]
  rfl
def allSig (l : List Nat) : Bool := l.all isSig
def isLn (l : List Nat) : Bool := allSig l && !decide (10 ∈ l)
/-- of a text f of its signs; of what is none, False -/
def spLine (K : PySem.W.Frag) (f : List Nat → Bool) : Sp := fun vs H Q _ => ∃ v, vs = [v] ∧
  ((∃ z : Str, v = .str z ∧ z.length ≤ 10000 ∧ ∀ H', Same H H' → Q (.bl (f z.cps.toList)) H') ∨ (∃ t, TyX K H v t ∧ PySem.W.kitOne K t (.type "str") = some false ∧ Q (.bl false) H))
theorem scIsText : FnScope ["value", "sign"] ["value"] (defScope sIsText) := ⟨rfl, rfl, rfl, by decide +kernel, rfl, by decide +kernel, by decide +kernel⟩
theorem r_is_text (A : FnAt K mg "is_text" sIsText) (RS : Ready P w K mg base 1 "_is_sign" ["sign"] (spSign isSig)) (mi : mg "isinstance" = none) (ms : mg "str" = none) (ma : mg "all" = none) :
    Ready P w K mg base 2 "is_text" ["value"] (spLine K allSig) := by
  obtain ⟨fS, fdS, gS, kS, bS, GS⟩ := RS
  refine ready_of A (fun _ _ _ _ _ _ us hl => match us, hl with | [_], _ => rfl) fun f fd F => ?_
  refine F.ok scIsText (fun vs H Q E h => ?_) (fun cdv A outer s H vs Q E hr h => ?_)
  · obtain ⟨v, rfl, _⟩ := h
    rfl
  · obtain ⟨v, rfl, q⟩ := h
    refine ⟨_, pss_one (ps_ret (pe_and (pe_callB call_isi (by rfl) mi (by decide +kernel) (pa_cons (pv 0) (pa_cons (pe_bltn (v := .ty "str") (by rfl) ms (by decide +kernel) rfl) pa_nil)))
      (pe_one (pe_callB (cr_all rfl) (by rfl) ma (by decide +kernel) (pa_cons (pe_lc (own := [("sign", 1)]) (g := gName 1) (tt := tYes) (by rfl) scIsText.nd (pi_str (pv 0))
        (blkOk_by (own := [("sign", 1)]) (N := ["value", "sign"]) (sc := defScope sIsText) (by decide +kernel)) (fun _ _ _ _ _ => pg_name (i := 1) scIsText.nd rfl (Or.inl rfl)) (fun _ _ _ _ _ => pts_nil)
        (fun _ _ _ _ _ => pe_call GS hr (by rfl) gS kS bS .nil pass0 (pa_cons (pv 1) pa_nil))) pa_nil))))), ?_⟩
    rcases q with ⟨z, rfl, hz, q⟩ | ⟨t, ht, hk, q⟩
    · refine ⟨_, rfl, _, _, .type "str", .type "str", true, rfl, ClsV.ty "str", .base (.str z), kit_ty (by decide +kernel), true, rfl, iteT ?_⟩
      refine ⟨_, rfl, z, rfl, fun D hD => ?_⟩
      refine lc_it walk_str (fun i H' => Same H H' ∧ H' D = some (.lst ((z.cps.toList.take i).map fun c => V.bl (isSig c)))) ⟨same_new hD, upd_same⟩ (fun _ _ _ _ => trivial) (fun i x H1 H2 hi hp hy => ?_) (fun H1 hp => ?_)
      · obtain ⟨rfl, c, hc, rfl⟩ := hy
        obtain ⟨sm, hd⟩ := hp
        have hc' : z.cps.toList[i]? = some c := by
          rw [Array.getElem?_toList]
          exact hc
        refine ⟨rfl, ?_⟩
        unfold tYes
        refine iteT ?_
        refine ⟨_, rfl, c, rfl, _, hd, ?_, same_set sm hD, ?_⟩
        · rw [List.length_map]
          exact Nat.lt_of_le_of_lt (List.length_take_le _ _) (szl (by have h2 : z.cps.size = z.length := rfl; omega))
        · rw [upd_same, take_more hc', List.map_append]
          rfl
      · obtain ⟨sm, hd⟩ := hp
        have e : z.cps.toList.take z.cps.size = z.cps.toList := List.take_of_length_le (by simp)
        rw [e] at hd
        refine ⟨D, z.cps.toList.map isSig, rfl, SqL.of (by rw [List.map_map]; exact hd), bl_to ?_ (q H1 sm)⟩
        unfold allSig
        rw [List.all_map]
        rfl
    · exact ⟨_, rfl, _, _, t, .type "str", false, rfl, ClsV.ty "str", ht, hk, false, rfl, iteF q⟩
theorem scIsLine : FnScope ["value"] ["value"] (defScope sIsLine) := ⟨rfl, rfl, rfl, by decide +kernel, rfl, by decide +kernel, by decide +kernel⟩
theorem r_is_line (A : FnAt K mg "is_line" sIsLine) (RS : Ready P w K mg base 2 "is_text" ["value"] (spLine K allSig)) :
    Ready P w K mg base 3 "is_line" ["value"] (spLine K isLn) := by
  obtain ⟨fS, fdS, gS, kS, bS, GS⟩ := RS
  refine ready_of A (fun _ _ _ _ _ _ us hl => match us, hl with | [_], _ => rfl) fun f fd F => ?_
  refine F.ok scIsLine (fun vs H Q E h => ?_) (fun cdv A outer s H vs Q E hr h => ?_)
  · obtain ⟨v, rfl, _⟩ := h
    rfl
  · obtain ⟨v, rfl, q⟩ := h
    refine ⟨_, pss_one (ps_ret (pe_and (pe_call GS hr (by rfl) gS kS bS .nil pass0 (pa_cons (pv 0) pa_nil)) (pe_one (pe_cmpR op_notIn_sign pe_str (pv 0) (by rfl))))), ?_⟩
    refine ⟨_, rfl, v, rfl, ?_⟩
    rcases q with ⟨z, rfl, hz, q⟩ | ⟨t, ht, hk, q⟩
    · refine .inl ⟨z, rfl, hz, fun H' sm => ⟨_, rfl, ?_⟩⟩
      by_cases h1 : allSig z.cps.toList = true
      · rw [h1, if_pos rfl]
        refine ⟨_, rfl, 10, z, rfl, rfl, bl_to ?_ (q H' sm)⟩
        unfold isLn
        rw [h1]
        rfl
      · rw [eq_false_of_ne_true h1, if_neg Bool.false_ne_true]
        refine bl_to ?_ (q H' sm)
        unfold isLn
        rw [eq_false_of_ne_true h1]
        rfl
    · exact .inr ⟨t, ht, hk, false, rfl, iteF q⟩
theorem len_cps (z : Str) : z.cps.toList.length = z.length := by simp [Str.length]
end
end FL

namespace FL
open PySem PySem.Spec PyProof.Rows L2
section
variable {P : Program} {w : World} {K : PySem.W.Frag} {mg : Str → Option Value} {base : Heap}
theorem scIsAtom : FnScope ["sign"] ["sign"] (defScope sIsAtom) := ⟨rfl, rfl, rfl, by decide +kernel, rfl, by decide +kernel, by decide +kernel⟩
def atomText : Str := "!#$&'*+-./=?^_`{|}~"
theorem atomText_codes : atomText.cps.toList = atomSigns := by decide +kernel
theorem r_is_atom (A : FnAt K mg "_is_atom_sign" sIsAtom) (RL : Ready P w K mg base 1 "is_letter" ["sign"] (spSign isLet)) (RF : Ready P w K mg base 1 "is_figure" ["sign"] (spSign isFig)) {tp : Tok} (mp : mg "ATOM_SIGNS" = some (.str atomText tp)) :
    Ready P w K mg base 2 "_is_atom_sign" ["sign"] (spSign isAtm) := by
  obtain ⟨f1, fd1, g1, k1, b1, G1⟩ := RL
  obtain ⟨f2, fd2, g2, k2, b2, G2⟩ := RF
  refine ready_of A (fun _ _ _ _ _ _ us hl => match us, hl with | [_], _ => rfl) fun f fd F => ?_
  refine F.ok scIsAtom (fun vs H Q E h => ?_) (fun cdv A outer s H vs Q E hr h => ?_)
  · obtain ⟨c, rfl, _⟩ := h
    rfl
  · obtain ⟨c, rfl, q⟩ := h
    refine ⟨_, pss_one (ps_ret (pe_or (pe_call G1 hr (by rfl) g1 k1 b1 .nil pass0 (pa_cons (pv 0) pa_nil)) (pe_or (pe_call G2 hr (by rfl) g2 k2 b2 .nil pass0 (pa_cons (pv 0) pa_nil))
      (pe_one (pe_cmpR op_in_sign (pv 0) (pe_glob (v := .str atomText) rfl mp ⟨tp, rfl⟩) (by rfl)))))), ?_⟩
    refine ⟨_, rfl, c, rfl, _, rfl, ?_⟩
    cases h1 : isLet c with
    | true =>
      rw [if_pos rfl]
      exact bl_to (by unfold isAtm; rw [h1]; rfl) q
    | false =>
      rw [if_neg Bool.false_ne_true]
      refine ⟨_, rfl, c, rfl, _, rfl, ?_⟩
      cases h2 : isFig c with
      | true =>
        rw [if_pos rfl]
        exact bl_to (by unfold isAtm; rw [h1, h2]; rfl) q
      | false =>
        rw [if_neg Bool.false_ne_true]
        refine ⟨_, rfl, c, atomText, rfl, rfl, bl_to ?_ q⟩
        rw [atomText_codes]
        unfold isAtm
        rw [h1, h2]
        rfl
/-! ### _atom_end -/
def atomEnd (l : List Nat) (b : Nat) : Nat := b + ((l.drop b).takeWhile isAtm).length
theorem atomEnd_step {l : List Nat} {b c : Nat} (h : l[b]? = some c) (a : isAtm c = true) : atomEnd l b = atomEnd l (b + 1) := by
  have hb : b < l.length := (List.getElem?_eq_some_iff.mp h).1
  have e : l[b] = c := (List.getElem?_eq_some_iff.mp h).2
  unfold atomEnd
  rw [List.drop_eq_getElem_cons hb, e, List.takeWhile_cons, a]
  simp
  omega
theorem atomEnd_stop {l : List Nat} {b c : Nat} (h : l[b]? = some c) (a : isAtm c = false) : atomEnd l b = b := by
  have hb : b < l.length := (List.getElem?_eq_some_iff.mp h).1
  have e : l[b] = c := (List.getElem?_eq_some_iff.mp h).2
  unfold atomEnd
  rw [List.drop_eq_getElem_cons hb, e, List.takeWhile_cons, a]
  simp
theorem atomEnd_end {l : List Nat} {b : Nat} (h : l.length ≤ b) : atomEnd l b = b := by
  unfold atomEnd
  rw [List.drop_eq_nil_of_le h]
  rfl
theorem atomEnd_le {l : List Nat} {b : Nat} (h : b ≤ l.length) : atomEnd l b ≤ l.length := by
  unfold atomEnd
  have := (List.takeWhile_prefix (p := isAtm) (l := l.drop b)).length_le
  rw [List.length_drop] at this
  omega
def spAtomEnd : Sp := fun vs H Q _ => ∃ (z : Str) (b : Nat), vs = [.str z, .int (b : Nat)] ∧ z.length ≤ 10000 ∧ b ≤ z.length ∧ Q (.int (atomEnd z.cps.toList b : Nat)) H
theorem scAtomEnd : FnScope ["text", "begin", "end"] ["text", "begin"] (defScope sAtomEnd) := ⟨rfl, rfl, rfl, by decide +kernel, rfl, by decide +kernel, by decide +kernel⟩
theorem r_atom_end (A : FnAt K mg "_atom_end" sAtomEnd) (RS : Ready P w K mg base 2 "_is_atom_sign" ["sign"] (spSign isAtm)) (ml : mg "len" = none) :
    Ready P w K mg base 3 "_atom_end" ["text", "begin"] spAtomEnd := by
  obtain ⟨fS, fdS, gS, kS, bS, GS⟩ := RS
  refine ready_of A (fun _ _ _ _ _ _ us hl => match us, hl with | [_, _], _ => rfl) fun f fd F => ?_
  refine F.ok scAtomEnd (fun vs H Q E h => ?_) (fun cdv A outer s H vs Q E hr h => ?_)
  · obtain ⟨z, b, rfl, _⟩ := h
    rfl
  · obtain ⟨z, b, rfl, hz, hb, q⟩ := h
    refine ⟨_, pss_cons (ps_set (i := 2) scAtomEnd.nd rfl (.inl rfl) (pv 1))
      (pss_cons (ps_while PassesOwn.never (PW.pt (pw_and (pt_cmpR op_lt (pv 2) (pe_callB call_len_str (by rfl) ml PySem.boot_len (pa_cons (pv 0) pa_nil)) (nomark _))
        (pw_and1 (pt_val (pe_call GS hr (by rfl) gS kS bS .nil pass0 (pa_cons (pe_item_str (pv 0) (pv 2) (fun _ _ => rfl)) pa_nil))))))
        (pss_one (ps_aug (i := 2) scAtomEnd.nd rfl (.inl rfl) pe_int ip_add)))
      (pss_one (ps_ret (pv 2)))), ?_⟩
    refine ⟨.int b, rfl, ?_⟩
    refine ⟨fun m σ H' => ∃ e : Nat, σ = [some (.str z), some (.int b), some (.int e)] ∧ H' = H ∧ e ≤ z.length ∧ m = z.length - e ∧ atomEnd z.cps.toList b = atomEnd z.cps.toList e,
      ⟨z.length - b, b, rfl, rfl, hb, rfl, rfl⟩, fun m σ H' hW => ?_⟩
    obtain ⟨e, rfl, rfl, he, rfl, hE⟩ := hW
    refine ⟨_, rfl, _, rfl, z, rfl, Nat.le_of_lt (szl hz), _, _, rfl, rfl, _, rfl, ?_⟩
    by_cases h1 : e < z.length
    · rw [decide_eq_true (by omega : (e : Int) < (z.length : Int))]
      obtain ⟨c, hc⟩ : ∃ c, z.cps[e]? = some c := ⟨_, Array.getElem?_eq_getElem (show e < z.cps.size from h1)⟩
      have hc' : z.cps.toList[e]? = some c := by
        rw [Array.getElem?_toList]
        exact hc
      refine iteT ⟨_, rfl, _, rfl, z, e, c, rfl, rfl, by omega, by omega, by omega, ?_, c, rfl, _, rfl, ?_⟩
      · rw [Int.toNat_natCast]
        exact hc
      · cases ha : isAtm c with
        | true =>
          refine iteT ⟨fun σ' H'' => ∃ e' : Nat, σ' = [some (.str z), some (.int b), some (.int e')] ∧ H'' = H' ∧ e' = e + 1, fun σ' H'' hN => ?_, ?_⟩
          · obtain ⟨e', rfl, rfl, rfl⟩ := hN
            exact ⟨_, (by omega : z.length - (e + 1) < z.length - e), e + 1, rfl, rfl, h1, rfl, hE.trans (atomEnd_step hc' ha)⟩
          · exact ⟨_, rfl, _, _, rfl, rfl, e + 1, rfl, rfl, rfl⟩
        | false =>
          refine iteF ⟨_, rfl, ?_⟩
          rw [hE, atomEnd_stop hc' ha] at q
          exact q
    · rw [decide_eq_false (by omega : ¬ (e : Int) < (z.length : Int))]
      refine iteF (iteF ⟨_, rfl, ?_⟩)
      rw [hE, atomEnd_end (by rw [len_cps]; omega)] at q
      exact q
end
end FL

namespace FL
open PySem PySem.Spec PyProof.Rows L2
section
variable {P : Program} {w : World} {K : PySem.W.Frag} {mg : Str → Option Value} {base : Heap}
def spCellAt (K : PySem.W.Frag) : Sp := fun vs H Q _ => ∃ (a : Addr) (ns : List Int) (k : Nat), vs = [.ref a, .int (k : Nat)] ∧ SqL K H a (ns.map V.int) ∧ ∀ x : Int, Q (.int x) H
theorem scCellAt : FnScope ["_law_script", "_law_k"] ["_law_script", "_law_k"] (defScope sCellAt) := ⟨rfl, rfl, rfl, by decide +kernel, rfl, by decide +kernel, by decide +kernel⟩
theorem r_cell_at (A : FnAt K mg "_law_cell_at" sCellAt) (ml : mg "len" = none) : Ready P w K mg base 1 "_law_cell_at" ["_law_script", "_law_k"] (spCellAt K) := by
  refine ready_of A (fun _ _ _ _ _ _ us hl => match us, hl with | [_, _], _ => rfl) fun f fd F => ?_
  refine F.ok scCellAt (fun vs H Q E h => ?_) (fun cdv A outer s H vs Q E hr h => ?_)
  · obtain ⟨a, ns, k, rfl, _⟩ := h
    rfl
  · obtain ⟨a, ns, k, rfl, hS, q⟩ := h
    refine ⟨_, pss_cons (ps_if (pt_cmpR op_lt (pv 1) (pe_callB call_len_seq (by rfl) ml PySem.boot_len (pa_cons (pv 0) pa_nil)) (nomark _)) (pss_one (ps_ret (pe_ix ix_list (pv 0) (pv 1) (fun _ _ => rfl)))) pss_nil)
      (pss_one (ps_ret pe_int)), ?_⟩
    refine ⟨_, rfl, _, rfl, a, _, rfl, .inl hS, _, _, rfl, rfl, _, rfl, ite2 (fun h => ?_) (fun h => ?_)⟩
    · have h1 : k < ns.length := by
        have := of_decide_eq_true h
        rw [List.length_map] at this
        omega
      refine ⟨_, rfl, _, rfl, a, _, _, _, rfl, rfl, hS, atI_nat (v := .int ns[k]) ?_, q _⟩
      rw [List.getElem?_map, List.getElem?_eq_getElem h1]
      rfl
    · exact q 0
def spMixed : Sp := fun vs H Q _ => ∃ (c k : Int), vs = [.int c, .int k] ∧ ∀ r : Int, 0 ≤ r → r < 2147483563 → Q (.int r) H
theorem scMixed : FnScope ["_law_cell", "_law_k", "_law_low"] ["_law_cell", "_law_k"] (defScope sMixed) := ⟨rfl, rfl, rfl, by decide +kernel, rfl, by decide +kernel, by decide +kernel⟩
theorem r_mixed (A : FnAt K mg "_law_mixed" sMixed) : Ready P w K mg base 1 "_law_mixed" ["_law_cell", "_law_k"] spMixed := by
  refine ready_of A (fun _ _ _ _ _ _ us hl => match us, hl with | [_, _], _ => rfl) fun f fd F => ?_
  refine F.ok scMixed (fun vs H Q E h => ?_) (fun cdv A outer s H vs Q E hr h => ?_)
  · obtain ⟨c, k, rfl, _⟩ := h
    rfl
  · obtain ⟨c, k, rfl, q⟩ := h
    refine ⟨_, pss_cons (ps_set (i := 2) scMixed.nd rfl (.inl rfl) (pe_op op_add (pe_op op_mod (pv 0) pe_int) (pe_op op_mul (pe_op op_fdivW (pv 0) pe_int) pe_int)))
      (pss_cons (ps_set (i := 2) scMixed.nd rfl (.inl rfl) (pe_op op_mod (pe_op op_mul (pe_op op_add (pe_op op_add (pv 2) (pe_op op_mul pe_int (pv 1))) pe_int) pe_int) pe_int))
      (pss_cons (ps_set (i := 2) scMixed.nd rfl (.inl rfl) (pe_op op_mod (pe_op op_mul (pv 2) (pe_op op_add (pe_op op_add (pe_op op_fdivN (pv 2) pe_int) pe_int) (pv 1))) pe_int))
      (pss_one (ps_ret (pe_op op_mod (pe_op op_mul (pv 2) (pe_op op_add (pe_op op_fdivN (pv 2) pe_int) pe_int)) pe_int))))), ?_⟩
    refine ⟨_, rfl, _, _, rfl, rfl, (show (0 : Int) < 2147483629 by decide), _, rfl, _, _, rfl, rfl, wide_div (b := 40) (by decide) (by decide) (by decide) (by decide), _, _, rfl, rfl, .inr (by decide), _, _, rfl, rfl, ?_⟩
    generalize c % 2147483629 + c / 2147483629 * 30011 = x1
    refine ⟨_, rfl, _, rfl, _, _, rfl, rfl, .inl (by decide), _, _, rfl, rfl, _, _, rfl, rfl, _, _, rfl, rfl, .inr (by decide), _, _, rfl, rfl, (show (0 : Int) < 2147483629 by decide), ?_⟩
    have a2 := Int.emod_nonneg ((x1 + 69621 * k + 1) * 48271) (by decide : (2147483629 : Int) ≠ 0)
    have b2 := Int.emod_lt_of_pos ((x1 + 69621 * k + 1) * 48271) (by decide : (0 : Int) < 2147483629)
    generalize ((x1 + 69621 * k + 1) * 48271) % 2147483629 = x2 at a2 b2
    refine ⟨_, rfl, _, rfl, _, _, rfl, rfl, ⟨by decide, by decide⟩, _, _, rfl, rfl, _, rfl, _, _, rfl, rfl, _, _, rfl, rfl, .inl ⟨by omega, by omega⟩, _, _, rfl, rfl, (show (0 : Int) < 2147483587 by decide), ?_⟩
    generalize hX : x2 * (x2.fdiv 907 + 16831 + k) = X3
    have a3 := Int.emod_nonneg X3 (by decide : (2147483587 : Int) ≠ 0)
    have b3 := Int.emod_lt_of_pos X3 (by decide : (0 : Int) < 2147483587)
    generalize X3 % 2147483587 = x3 at a3 b3
    refine ⟨_, rfl, _, rfl, _, _, rfl, rfl, ⟨by decide, by decide⟩, _, _, rfl, rfl, _, _, rfl, rfl, .inl ⟨by omega, by omega⟩, _, _, rfl, rfl, (show (0 : Int) < 2147483563 by decide), ?_⟩
    exact q _ (Int.emod_nonneg _ (by decide)) (Int.emod_lt_of_pos _ (by decide))
/-- a source: three numbers at a -/
def Src (H : Hp) (a : Addr) : Prop := ∃ x y z : Int, H a = some (.lst [.int x, .int y, .int z])
def spSource (K : PySem.W.Frag) : Sp := fun vs H Q _ => ∃ (a : Addr) (ns : List Int) (k : Nat), vs = [.ref a, .int (k : Nat)] ∧ SqL K H a (ns.map V.int) ∧ ∀ H' p, Same H H' → H p = none → Src H' p → Q (.ref p) H'
theorem scSource : FnScope ["_law_script", "_law_k", "_law_cell"] ["_law_script", "_law_k"] (defScope sSource) := ⟨rfl, rfl, rfl, by decide +kernel, rfl, by decide +kernel, by decide +kernel⟩
theorem r_source (A : FnAt K mg "_law_source" sSource) (RC : Ready P w K mg base 1 "_law_cell_at" ["_law_script", "_law_k"] (spCellAt K)) (RM : Ready P w K mg base 1 "_law_mixed" ["_law_cell", "_law_k"] spMixed) (ml : mg "len" = none) :
    Ready P w K mg base 2 "_law_source" ["_law_script", "_law_k"] (spSource K) := by
  obtain ⟨f1, fd1, g1, k1, b1, G1⟩ := RC
  obtain ⟨f2, fd2, g2, k2, b2, G2⟩ := RM
  refine ready_of A (fun _ _ _ _ _ _ us hl => match us, hl with | [_, _], _ => rfl) fun f fd F => ?_
  refine F.ok scSource (fun vs H Q E h => ?_) (fun cdv A outer s H vs Q E hr h => ?_)
  · obtain ⟨a, ns, k, rfl, _⟩ := h
    rfl
  · obtain ⟨a, ns, k, rfl, hS, q⟩ := h
    have ix : ∀ e1 e2, PlainIx (.Name e1 e2) := fun _ _ _ _ => rfl
    refine ⟨_, pss_cons (ps_if (pt_cmpR op_lt (pv 1) (pe_callB call_len_seq (by rfl) ml PySem.boot_len (pa_cons (pv 0) pa_nil)) (nomark _))
        (pss_one (ps_ret (pe_lst (pa_cons (pe_ix ix_list (pv 0) (pv 1) (fun _ _ => rfl)) (pa_cons (pe_ix ix_list (pv 0) (pv 1) (fun _ _ => rfl)) (pa_cons pe_int pa_nil)))))) pss_nil)
      (pss_cons (ps_set (i := 2) scSource.nd rfl (.inl rfl) (pe_call G2 hr (by rfl) g2 k2 b2 .nil pass0 (pa_cons (pe_call G1 hr (by rfl) g1 k1 b1 .nil pass0 (pa_cons (pv 0) (pa_cons pe_int pa_nil))) (pa_cons (pe_op op_add pe_int (pv 1)) pa_nil))))
      (pss_one (ps_ret (pe_lst (pa_cons (pv 2) (pa_cons (pv 2) (pa_cons pe_int pa_nil))))))), ?_⟩
    refine ⟨_, rfl, _, rfl, a, _, rfl, .inl hS, _, _, rfl, rfl, _, rfl, ite2 (fun h => ?_) (fun h => ?_)⟩
    · have h1 : k < ns.length := by
        have := of_decide_eq_true h
        rw [List.length_map] at this
        omega
      have g : (ns.map V.int)[k]? = some (.int ns[k]) := by
        rw [List.getElem?_map, List.getElem?_eq_getElem h1]
        rfl
      refine ⟨_, rfl, _, rfl, a, _, _, _, rfl, rfl, hS, atI_nat g, _, rfl, _, rfl, a, _, _, _, rfl, rfl, hS, atI_nat g, (by show 3 ≤ sizeLine; decide), fun l hl => ?_⟩
      exact q _ l (same_new hl) hl ⟨_, _, _, upd_same⟩
    · refine ⟨_, rfl, a, ns, 0, rfl, hS, fun x => ⟨_, rfl, _, _, rfl, rfl, x, _, rfl, fun r _ _ => ?_⟩⟩
      refine ⟨_, rfl, _, rfl, (by show 3 ≤ sizeLine; decide), fun l hl => ?_⟩
      exact q _ l (same_new hl) hl ⟨_, _, _, upd_same⟩
def spNext : Sp := fun vs H Q _ => ∃ (a : Addr) (m : Nat) (x y z : Int), vs = [.ref a, .int (m : Nat)] ∧ 1 ≤ m ∧ m ≤ 100000 ∧ H a = some (.lst [.int x, .int y, .int z]) ∧
  ∀ (r : Nat) (x' z' : Int), r < m → Q (.int (r : Nat)) (upd H a (.lst [.int x', .int y, .int z']))
theorem scNext : FnScope ["_law_source_here", "_law_many", "_law_found"] ["_law_source_here", "_law_many"] (defScope sNext) := ⟨rfl, rfl, rfl, by decide +kernel, rfl, by decide +kernel, by decide +kernel⟩
theorem r_next (A : FnAt K mg "_law_next" sNext) (RM : Ready P w K mg base 1 "_law_mixed" ["_law_cell", "_law_k"] spMixed) : Ready P w K mg base 2 "_law_next" ["_law_source_here", "_law_many"] spNext := by
  obtain ⟨f2, fd2, g2, k2, b2, G2⟩ := RM
  refine ready_of A (fun _ _ _ _ _ _ us hl => match us, hl with | [_, _], _ => rfl) fun f fd F => ?_
  refine F.ok scNext (fun vs H Q E h => ?_) (fun cdv A outer s H vs Q E hr h => ?_)
  · obtain ⟨a, m, x, y, z, rfl, _⟩ := h
    rfl
  · obtain ⟨a, m, x, y, z, rfl, hm1, hm2, hS, q⟩ := h
    refine ⟨_, pss_cons (ps_if (pt_cmpR op_ge (pe_ix ix_list (pv 0) pe_int (fun _ _ => rfl)) (pe_op op_pow pe_int pe_int) (nomark _))
        (pss_cons (ps_set (i := 2) scNext.nd rfl (.inl rfl) (pe_op op_mod (pe_ix ix_list (pv 0) pe_int (fun _ _ => rfl)) (pv 1)))
          (pss_cons (ps_asg (pe_op op_fdivN (pe_ix ix_list (pv 0) pe_int (fun _ _ => rfl)) (pv 1)) (pg_sub (pv 0) pe_int set_list))
          (pss_one (ps_ret (pv 2))))) pss_nil)
      (pss_cons (ps_asg (pe_op op_add (pe_ix ix_list (pv 0) pe_int (fun _ _ => rfl)) pe_int) (pg_sub (pv 0) pe_int set_list))
      (pss_one (ps_ret (pe_op op_mod (pe_call G2 hr (by rfl) g2 k2 b2 .nil pass0 (pa_cons (pe_ix ix_list (pv 0) pe_int (fun _ _ => rfl)) (pa_cons (pe_ix ix_list (pv 0) pe_int (fun _ _ => rfl)) pa_nil))) (pv 1))))), ?_⟩
    have hm0 : (0 : Int) < (m : Int) := by omega
    refine ⟨_, rfl, a, _, _, .int x, rfl, rfl, SqL.of hS, rfl, _, _, rfl, rfl, ⟨by decide, by decide, by decide⟩, _, _, rfl, rfl, _, rfl, ite2 (fun h => ?_) (fun h => ?_)⟩
    · refine ⟨_, rfl, a, _, _, .int x, rfl, rfl, SqL.of hS, rfl, _, rfl, _, _, rfl, rfl, hm0, ?_⟩
      refine ⟨_, rfl, a, _, _, .int x, rfl, rfl, SqL.of hS, rfl, _, rfl, _, _, rfl, rfl, ⟨by omega, by omega⟩, _, rfl, a, _, _, 0, rfl, rfl, hS, rfl, ?_⟩
      have h1 := Int.emod_nonneg x (by omega : (m : Int) ≠ 0)
      have h2 := Int.emod_lt_of_pos x hm0
      have e : ((x % (m : Int)).toNat : Int) = x % (m : Int) := Int.toNat_of_nonneg h1
      refine ⟨_, rfl, ?_⟩
      have := q (x % (m : Int)).toNat (x.fdiv m) z (by omega)
      rw [e] at this
      exact this
    · refine ⟨_, rfl, a, _, _, .int z, rfl, rfl, SqL.of hS, rfl, _, _, rfl, rfl, _, rfl, a, _, _, 2, rfl, rfl, hS, rfl, ?_⟩
      refine ⟨_, rfl, a, _, _, .int y, rfl, rfl, SqL.of upd_same, rfl, _, rfl, a, _, _, .int (z + 1), rfl, rfl, SqL.of upd_same, rfl, y, _, rfl, fun r _ _ => ?_⟩
      refine ⟨_, rfl, _, _, rfl, rfl, hm0, ?_⟩
      have h1 := Int.emod_nonneg r (by omega : (m : Int) ≠ 0)
      have h2 := Int.emod_lt_of_pos r hm0
      have e : ((r % (m : Int)).toNat : Int) = r % (m : Int) := Int.toNat_of_nonneg h1
      have := q (r % (m : Int)).toNat x (z + 1) (by omega)
      rw [e] at this
      exact this
end
end FL

namespace FL
open PySem PySem.Spec PyProof.Rows L2
section
variable {P : Program} {w : World} {K : PySem.W.Frag} {mg : Str → Option Value} {base : Heap}
/-- only the source at a has changed, and new things came -/
structure Drawn (a : Addr) (H H' : Hp) : Prop where
  old : ∀ b o, b ≠ a → H b = some o → H' b = some o
  src : Src H' a
theorem Drawn.refl {a : Addr} {H : Hp} (h : Src H a) : Drawn a H H := ⟨fun _ _ _ h => h, h⟩
theorem Drawn.trans {a : Addr} {H H1 H2 : Hp} (x : Drawn a H H1) (y : Drawn a H1 H2) : Drawn a H H2 := ⟨fun b o n h => y.old b o n (x.old b o n h), y.src⟩
theorem Drawn.same {a : Addr} {H H1 H2 : Hp} (x : Drawn a H H1) (s : Same H1 H2) : Drawn a H H2 :=
  ⟨fun b o n h => s b o (x.old b o n h), let ⟨p, q, r, e⟩ := x.src; ⟨p, q, r, s _ _ e⟩⟩
theorem drawn_upd {a : Addr} {H : Hp} {x y z : Int} : Drawn a H (upd H a (.lst [.int x, .int y, .int z])) := ⟨fun b o n h => by rw [upd_ne n]; exact h, ⟨x, y, z, upd_same⟩⟩
theorem drawn_set {a p : Addr} {H H1 : Hp} {o : HO} (x : Drawn a H H1) (h : H p = none) (n : a ≠ p) : Drawn a H (upd H1 p o) :=
  ⟨fun b u nb e => by rw [upd_ne (ne_of_none e h)]; exact x.old b u nb e, let ⟨u, v, r, e⟩ := x.src; ⟨u, v, r, by rw [upd_ne n]; exact e⟩⟩
theorem joinL_nil : ∀ L : List (List Nat), TL.joinL [] L = L.flatten
  | [] => rfl
  | [p] => by simp [TL.joinL]
  | p :: q :: r => by
    have := joinL_nil (q :: r)
    show p ++ ([] ++ TL.joinL [] (q :: r)) = _
    rw [List.nil_append, this]
    rfl
theorem join_codes (ys : List Str) : (Txt.join ("" : Str) ys).cps.toList = (ys.map fun y => y.cps.toList).flatten := by
  have e : TL.tl ("" : Str) = [] := by decide +kernel
  have h := TL.tl_join ("" : Str) ys
  rw [← TL.join_eq, e, joinL_nil] at h
  exact h
theorem sum_one {ys : List Str} (h : ∀ t ∈ ys, t.length ≤ 1) : (ys.map (·.length)).sum ≤ ys.length := by
  induction ys with
  | nil => exact Nat.le_refl _
  | cons y r ih =>
    have h1 := h y (List.mem_cons_self ..)
    have h2 := ih fun t ht => h t (List.mem_cons_of_mem _ ht)
    rw [List.map_cons, List.sum_cons, List.length_cons]
    omega
theorem codes_one (c : Nat) : (⟨#[c]⟩ : Str).cps.toList = [c] := rfl
theorem flat_ones {ys : List Str} {l : List Nat} (h : ∀ t ∈ ys, ∃ c ∈ l, t = ⟨#[c]⟩) : (∀ c ∈ (ys.map fun y => y.cps.toList).flatten, c ∈ l) ∧ ((ys.map fun y => y.cps.toList).flatten).length = ys.length := by
  induction ys with
  | nil => exact ⟨fun c hc => by simp at hc, rfl⟩
  | cons y r ih =>
    obtain ⟨i1, i2⟩ := ih fun t ht => h t (List.mem_cons_of_mem _ ht)
    obtain ⟨c, hc, rfl⟩ := h y (List.mem_cons_self ..)
    rw [List.map_cons, List.flatten_cons]
    show (∀ d ∈ [c] ++ _, d ∈ l) ∧ ([c] ++ _).length = _
    refine ⟨fun d hd => ?_, by rw [List.length_append, i2, List.length_cons]; simp; omega⟩
    rcases List.mem_append.mp hd with hd | hd
    · rw [List.mem_singleton.mp hd]; exact hc
    · exact i1 d hd
def spSigns : Sp := fun vs H Q _ => ∃ (a : Addr) (s : Str) (m : Nat), vs = [.ref a, .str s, .int (m : Nat)] ∧ 1 ≤ s.length ∧ s.length ≤ 10000 ∧ m ≤ 10000 ∧ Src H a ∧
  ∀ (t : Str) (H' : Hp), (∀ c ∈ t.cps.toList, c ∈ s.cps.toList) → t.length = m → Drawn a H H' → Q (.str t) H'
theorem scSigns : FnScope ["_law_source_here", "_law_signs_here", "_law_many", "_law_k"] ["_law_source_here", "_law_signs_here", "_law_many"] (defScope sSigns) := ⟨rfl, rfl, rfl, by decide +kernel, rfl, by decide +kernel, by decide +kernel⟩
theorem r_signs (A : FnAt K mg "_law_signs" sSigns) (RN : Ready P w K mg base 2 "_law_next" ["_law_source_here", "_law_many"] spNext) (ml : mg "len" = none) (mr : mg "range" = none) :
    Ready P w K mg base 3 "_law_signs" ["_law_source_here", "_law_signs_here", "_law_many"] spSigns := by
  obtain ⟨f2, fd2, g2, k2, b2, G2⟩ := RN
  refine ready_of A (fun _ _ _ _ _ _ us hl => match us, hl with | [_, _, _], _ => rfl) fun f fd F => ?_
  refine F.ok scSigns (fun vs H Q E h => ?_) (fun cdv A outer s H vs Q E hr h => ?_)
  · obtain ⟨a, s, m, rfl, _⟩ := h
    rfl
  · obtain ⟨a, z, m, rfl, hz1, hz2, hm, hS, q⟩ := h
    refine ⟨_, pss_one (ps_ret (pe_join pe_str (pe_lc (own := [("_law_k", 3)]) (g := gName 3) (tt := tYes) (by rfl) scSigns.nd (pi_range1 (by rfl) mr (pa_cons (pv 2) pa_nil))
      (blkOk_by (own := [("_law_k", 3)]) (N := ["_law_source_here", "_law_signs_here", "_law_many", "_law_k"]) (sc := defScope sSigns) (by decide +kernel)) (fun _ _ _ _ _ => pg_name (i := 3) scSigns.nd rfl (Or.inl rfl)) (fun _ _ _ _ _ => pts_nil)
      (fun _ _ _ _ _ => pe_item_str (pv 1) (pe_call G2 hr (by rfl) g2 k2 b2 .nil pass0 (pa_cons (pv 0) (pa_cons (pe_callB call_len_str (by rfl) ml PySem.boot_len (pa_cons (pv 1) pa_nil)) pa_nil))) (fun _ _ => rfl))))), ?_⟩
    refine ⟨⟨_, rfl⟩, _, rfl, m, rfl, by omega, by omega, fun D hD => ?_⟩
    have hDa : a ≠ D := fun e => by
      obtain ⟨x, y, u, hx⟩ := hS
      rw [e, hD] at hx
      cases hx
    rw [Int.toNat_natCast]
    refine lc_it walk_range (fun i H' => Drawn a H H' ∧ ∃ ys : List Str, H' D = some (.lst (ys.map V.str)) ∧ ys.length = i ∧ ∀ t ∈ ys, ∃ c ∈ z.cps.toList, t = ⟨#[c]⟩) ⟨drawn_set (Drawn.refl hS) hD hDa, [], upd_same, rfl, fun _ h => by simp at h⟩ (fun _ _ _ _ => trivial) (fun i x H1 H2 hi hp hy => ?_) (fun H1 hp => ?_)
    · obtain ⟨rfl, rfl⟩ := hy
      obtain ⟨dr, ys, hd, hy1, hy2⟩ := hp
      obtain ⟨x, y, u, hx⟩ := dr.src
      refine ⟨rfl, ?_⟩
      unfold tYes
      refine iteT ?_
      refine ⟨_, rfl, _, rfl, _, rfl, z, rfl, Nat.le_of_lt (szl hz2), a, z.length, x, y, u, rfl, hz1, by omega, hx, fun r x' z' hr' => ?_⟩
      have hc : z.cps[r]? = some (z.cps[r]'hr') := Array.getElem?_eq_getElem hr'
      refine ⟨z, r, _, rfl, rfl, by omega, by omega, by omega, by rw [Int.toNat_natCast]; exact hc, ?_⟩
      have hd' : (upd H2 a (.lst [.int x', .int y, .int z'])) D = some (.lst (ys.map V.str)) := by rw [upd_ne hDa.symm]; exact hd
      refine ⟨_, hd', ?_, ?_, ys ++ [⟨#[z.cps[r]'hr']⟩], ?_, ?_, ?_⟩
      · rw [List.length_map]
        exact szl (by omega)
      · exact drawn_set (dr.trans drawn_upd) hD hDa
      · rw [upd_same, List.map_append]
        rfl
      · rw [List.length_append, hy1]
        rfl
      · intro t ht
        rcases List.mem_append.mp ht with ht | ht
        · exact hy2 t ht
        · exact ⟨_, Array.mem_def.mp (Array.getElem_mem hr'), List.mem_singleton.mp ht⟩
    · obtain ⟨dr, ys, hd, hy1, hy2⟩ := hp
      have h3 := sum_one (ys := ys) fun t ht => by
        obtain ⟨c, _, rfl⟩ := hy2 t ht
        exact Nat.le_refl 1
      obtain ⟨h4, h5⟩ := flat_ones hy2
      rw [← join_codes] at h4 h5
      have e0 : ("" : Str).length = 0 := by decide +kernel
      refine ⟨("" : Str), D, ys, rfl, rfl, .inl (SqL.of hd), ?_, q _ H1 h4 ?_ dr⟩
      · rw [e0]
        omega
      · rw [← len_cps, h5, hy1]
end
end FL

namespace FL
open PySem PySem.Spec PyProof.Rows L2
/-! ### the class of a caught error that has a dict of its own -/
section
open PySem.W PySem.Calls
theorem cls_found {K : Frag} {D : Addr} {oo : Option Obj} (G : ExcC K D) : findObj K D oo "__class__" = some (.bind (.builtin "getset_descriptor.__get__") (.builtin "object.__class__")) := by
  obtain ⟨cd, hc, _⟩ := any_some G.hd
  unfold findObj
  rw [hc, Option.bind_some, G.ha, Option.bind_some]
  simp [G.hn, G.ht]
theorem cls_of_exc {prog : Program} {w : World} {A : Around} {E : Value → Shared → Prop} {s : Shared} {K : Frag} {x D : Addr} {ox : Obj} {oo : Option Obj} {Q : Option Value → Shared → Prop}
    (G : ExcC K D) (Y : K.In s.heap) (J : InstAt s.heap x ox D oo) (q : Q (some (.ref D)) { s with toks := s.toks + 1 }) : wpAny (model prog w) A (getAttr? (.ref x) "__class__") Q E s := by
  have found := cls_found (oo := oo) G
  obtain ⟨hh, gg, dd, tt, oos⟩ := s
  have t0 : Looks (model prog w) hh (typeOf (.ref x)) (.ref D) := J.type
  have t1 := looks_findIn (M := model prog w) Y G.hg
  have t2 := looks_findIn (M := model prog w) Y G.hk
  have t3 := looks_find (M := model prog w) Y J found
  have isB : Looks (model prog w) hh (isInstance (.ref x) (.type "BaseException")) true := t0.andThen (looks_subIn Y G.hs)
  have n0 : (false && onTheHeap (Value.builtin "BaseException.__getattribute__")) = false := rfl
  have n1 : (onTheHeap (Value.ref D) && Value.builtin "BaseException.__getattribute__" == Value.builtin "object.__getattribute__") = false := by
    rw [show (Value.builtin "BaseException.__getattribute__" == Value.builtin "object.__getattribute__") = false by decide +kernel]
    rfl
  unfold getAttr? getAttrBy? getAttrBy
  refine wpAny_bind (wpAny_mkText (wpAny_bind (wpAny_attempt (wpAny_holding (wpAny_bind (t0.at (wpAny_bind (t1.at ?_))))))))
  refine (show wpAny (model prog w) A (if (onTheHeap (Value.ref D) && Value.builtin "BaseException.__getattribute__" == Value.builtin "object.__getattribute__") = true then _ else _) _ _ _ from ?_)
  rw [n1, if_neg Bool.false_ne_true]
  unfold getAttrByItsOwn hookBefore
  refine wpAny_bind ?_
  rw [if_pos (show onTheHeap (Value.ref D) = true from rfl)]
  refine t2.at (wpAny_bind (wpAny_attempt (wpAny_holding ?_)))
  unfold callGetattribute
  rw [n0, if_neg Bool.false_ne_true]
  unfold boundAndCalled
  rw [PySem.F.excAttr_ValueError.ga.bind (.ref x)]
  refine wpAny_bind (wpAny_pure ?_)
  refine (show wpAny (model prog w) _ (call (.builtin "BaseException.__getattribute__") [.ref x, .str "__class__" tt]) _ _ _ from ?_)
  refine wpAny_call (codeAny_call_builtin PySem.F.excAttr_ValueError.ga.plain PySem.F.entry_bexc_ga ?_)
  refine @check_slot (model prog w) _ _ ⟨hh, gg, dd, tt + 1, oos⟩ "BaseException.__getattribute__" "BaseException" "__getattribute__" (.ref x) [.str "__class__" tt] [] _ (by decide +kernel) (by decide +kernel) isB (PySem.F.args_bexc_ga (.ref x) (.str "__class__" tt)) ?_
  unfold Builtin.«object.__getattribute__»
  refine wpAny_bind (wpAny_of_eq (a := ((Value.ref x : Value), [Value.str "__class__" tt])) (by first | rfl | (simp only [slotArgs]; rfl)) ?_)
  refine wpAny_bind (wpAny_pure (wpAny_bind (t0.at (wpAny_bind (t3.at ?_)))))
  refine (show wpAny (model prog w) _ (holding [Value.builtin "object.__class__"] (call (.builtin "getset_descriptor.__get__") [.builtin "object.__class__", .ref x, .ref D]) >>= ret) _ _ _ from ?_)
  refine wpAny_bind (wpAny_holding (wpAny_call (class_get (s := ⟨hh, gg, dd, tt + 1, oos⟩) (ox := ox) (od := oo) Y J G.hm (wpAny_pure ?_))))
  refine (show wpAny (model prog w) _ (handedOut (.ref D)) _ _ _ from ?_)
  rw [handedOut_of (v := .ref D) rfl]
  first
    | exact wpAny_pure (wpAny_pure q)
    | exact wpAny_pure q
    | exact wpAny_pure (wpAny_bind (wpAny_pure (wpAny_pure q)))
/-- an own class at D stands in the written part as a class -/
theorem cls_there {K : Frag} {D : Addr} (h : hasDictIn K D = true) : ∃ c d' cd sl, K.lookup D = some ⟨c, d', .cls cd, sl⟩ := by
  obtain ⟨cd, hc, _⟩ := any_some h
  unfold clsIn at hc
  split at hc
  · rename_i c' d' cd' sl' ho
    exact ⟨c', d', cd', sl', ho⟩
  · cases hc
theorem kitx_excD {K : Frag} {x D : Addr} {ox : Obj} {oo : Option Obj} (G : ExcC K D) : KitX K (.ref x) (.ref D) (fun h => InstAt h x ox D oo) where
  ty := fun _ _ _ J => J.type
  it := fun _ _ Y _ => by
    obtain ⟨c', d', cd', sl', ho⟩ := cls_there G.hd
    intro A' Q' E' s' k q
    unfold isType loadHead
    exact wpAny_bind (wpAny_loadPart (k _ _ (Y _ _ ho)) (wpAny_pure q))
  ne := fun h tp dd its n sl Y htp => by
    obtain ⟨c', d', cd', sl', ho⟩ := cls_there G.hd
    refine Bool.eq_false_iff.mpr fun z => ?_
    have e : D = tp := Value.ref.inj (beq_iff_eq.mp z)
    subst e
    have z2 := (Y _ _ ho).symm.trans htp
    cases z2
  ca := fun Y J k => cls_of_exc G Y J k
end
theorem kit_same {K : PySem.W.Frag} {C : Addr} : PySem.W.kitOne K (.ref C) (.ref C) = some true := by
  unfold PySem.W.kitOne
  rw [if_pos (beq_self_eq_true _)]
theorem kit_own {K : PySem.W.Frag} {C D : Addr} {b : Bool} (n : ((Value.ref C) == (Value.ref D)) = false) (t : PySem.W.typeIn K (.ref D) = some (.type "type")) (d : PySem.W.hasDictIn K D = true) (s : PySem.W.subIn K (.ref C) (.ref D) = some b) : PySem.W.kitOne K (.ref C) (.ref D) = some b := by
  obtain ⟨cd, hc, _⟩ := PySem.W.any_some d
  unfold PySem.W.kitOne
  rw [if_neg (by rw [n]; exact Bool.false_ne_true)]
  show (if ((PySem.W.clsIn K D).isSome && PySem.W.typeIn K (.ref D) == some (.type "type")) = true then PySem.W.subIn K (.ref C) (.ref D) else none) = some b
  rw [hc, t, if_pos (by rfl)]
  exact s
/-- isinstance(e, c), e the caught error at a, its own dict at dd -/
def rIsD (K : PySem.W.Frag) (D a : Addr) (dd : Addr) : List V → Hp → VK → Prop := fun xs H Q => ∃ (c : V) (cv : Value) (b : Bool) (fs : List (Str × V)), xs = [.ref a, c] ∧ H dd = some (.xd fs) ∧ (∀ u, RelV c u → u = cv) ∧ PySem.W.kitOne K (.ref D) cv = some b ∧ Q (.bl b) H
theorem call_isD {X : Cx} {a D dd : Addr} {oe : Obj} {pn : List (Addr × Obj)} (G : ExcC X.K D) (hz : Zc (.ref D) (some dd) oe) (hf : ∃ vs, oe.data = .fields vs) : CallR (X.suite a ((a, oe) :: pn)) (.builtin "isinstance") (rIsD X.K D a dd) := by
  intro pins s σ H xs us Q I r h
  obtain ⟨c, cv, b, fs, rfl, hd, hcv, e, q⟩ := h
  obtain ⟨u1, u2, rfl, rx, rt⟩ := vals2 r
  cases rx
  have ec := hcv _ rt
  subst ec
  obtain ⟨hget, _⟩ := I.pin (a, oe) (List.mem_append.mpr (.inl List.mem_cons_self))
  obtain ⟨vs, hv⟩ := hf
  have hx : ObjOk X.prog X.w H s.heap dd (.xd fs) := I.hok dd _ hd
  obtain ⟨mA, hns, _⟩ := hx
  obtain ⟨od, ho, _⟩ := lookIn_ns hns
  have J : PySem.W.InstAt s.heap a oe D (some od) := ⟨hget, hz.1, by unfold PySem.W.notCls; rw [hv] <;> rfl, by rw [hz.2]; exact ho⟩
  exact PySem.W.kia_one (kitx_excD G) I.kIn J e (fun z => nomatch z) fun tk => ⟨.bl b, H, I.kept (t' := tk) fun _ _ z => z, rfl, q⟩
/-- the same, where it is told only later which class and which dict the caught error has -/
def rIsG (K : PySem.W.Frag) (D a : Addr) (cls : Value) (d : Option Addr) : List V → Hp → VK → Prop := fun xs H Q => cls = .ref D ∧ ∃ dd, d = some dd ∧ rIsD K D a dd xs H Q
theorem call_isG {X : Cx} {a D : Addr} {cls : Value} {d : Option Addr} {oe : Obj} {pn : List (Addr × Obj)} (G : ExcC X.K D) (hz : Zc cls d oe) (hf : ∃ vs, oe.data = .fields vs) : CallR (X.suite a ((a, oe) :: pn)) (.builtin "isinstance") (rIsG X.K D a cls d) := by
  intro pins s σ H xs us Q I r h
  obtain ⟨rfl, dd, rfl, h⟩ := h
  exact call_isD G hz hf pins s σ H xs us Q I r h
/-! ### C.__init__(self, ..), C an own class -/
structure ClsFn (K : PySem.W.Frag) (C fI : Addr) : Prop where
  ga : PySem.W.specialIn K (.ref C) "__getattribute__" = some (some (.builtin "type.__getattribute__"))
  rd : PySem.W.readsIn K C (.type "type") = true
  at_ : PySem.W.findCls K (.ref C) (.type "type") "__init__" = some (.val (.ref fI))
  kp : PySem.W.keepIn K (.ref fI) = true
theorem pe_cinit {X : Cx} {x : Str} {C fI : Addr} {CX : CXT} {k : Nat} {fd : FuncData} {ps : List Str} {sp : Sp} {ds : List Value} {dvs : List V} {E : XK} {e : Expr} {es : List Expr} {t : TA} {p1 p2 pos : Pos} {pl : Sem Bool} (T : ClsFn X.K C fI) (F : FnOk X.prog X.w X.K X.mg X.base CX k fI fd ps sp) (hr : Room k X.A)
    (hg : Gl X x) (hm : X.mg x = some (.ref C)) (hb : Binds X.K fd ps ds) (hd : Vals dvs ds) (hx : Passes CX X E) (ha : PA X (e :: es) t)
    (hc : eval (.Call (.Attribute (.Name x p1) "__init__" p2) (e :: es) [] pos) X.env = (do
      let ov ← eval (.Name x p1) X.env
      standAt p2.atName
      let (f, first) ← holding [ov] (getMethod ov "__init__" pl)
      callWith pos f first (backTo pos (starEach (e :: es) X.env)) (backToKw pos (keywordEach [] X.env))) := by rfl)
    (hdb : (x == ("__debug__" : Str)) = false := by decide) (he : starEach (e :: es) X.env = (false, eval e X.env) :: starEach es X.env := by rfl) (hpl : (backTo pos (starEach es X.env)).any (·.1) = false := by rfl) :
    PE X (.Call (.Attribute (.Name x p1) "__init__" p2) (e :: es) [] pos) (tCall sp dvs E t) := by
  refine ⟨fun pins s σ H Q I h => ?_⟩
  refine PySem.W.methodCall_KW (ld_glob I hg hm ?_ hdb) hc
  refine PySem.W.method_cls I.kIn T.ga (ClX.getcval_ok (v := .ref fI) (u := .ref fI) I ⟨T.rd, T.ga⟩ ⟨T.at_, rfl⟩ fun s1 I1 => ?_)
  refine (show wpAny (model X.prog X.w) X.A (callWith pos (.ref fI) [] (backTo pos (starEach (e :: es) X.env)) []) _ _ _ from ?_)
  refine PySem.W.callWith_K (h₀ := X.base) I.ok.mod.kin T.kp (thn (ha.run pos pins s1 σ H _ I1 h) fun us s2 ⟨vs, H1, I2, r, q⟩ => ⟨I2.kIn, ?_⟩) he hpl
  exact run_fn F hr hb hd hx I2 r q
section
variable {P : Program} {w : World} {K : PySem.W.Frag} {mg : Str → Option Value} {base : Heap}
abbrev sLE : Stmt := inClass cLetterError 0
abbrev FunA (K : PySem.W.Frag) (qual : Str) (st : Stmt) (dvs : List V) (f : Addr) (fd : FuncData) : Prop := FunD K "__init__" qual (defArgs st) (defBody st) (defScope st) dvs [] f fd
def spLE (K : PySem.W.Frag) : Sp := fun vs H Q _ => ∃ (a C : Addr) (v : V), vs = [.ref a, v] ∧ OexC K C ∧ H a = some (exo a C none) ∧ Q .non H
theorem scLE : FnScope ["self", "why"] ["self", "why"] (defScope sLE) := ⟨rfl, rfl, rfl, by decide +kernel, rfl, by decide +kernel, by decide +kernel⟩
theorem ok_LE {f : Addr} {fd : FuncData} (F : FunA K "LetterError.__init__" sLE [.str ""] f fd) (mV : mg "ValueError" = none) (vV : PySem.W.findCls K (.type "ValueError") (.type "type") "__init__" = some (.val (.builtin "ValueError.__init__"))) :
    FnOk P w K mg base CX0 1 f fd ["self", "why"] (spLE K) := by
  refine FunD.ok F scLE (fun vs H Q E h => ?_) (fun cdv A outer s H vs Q E hr h => ?_)
  · obtain ⟨a, C, v, rfl, _⟩ := h
    rfl
  · obtain ⟨a, C, v, rfl, T, hH, q⟩ := h
    refine ⟨_, pss_one (ps_expr (pe_veinit (by rfl) mV vV (pa_cons (pv 0) (pa_cons (pv 1) pa_nil)))), ?_⟩
    exact ⟨_, rfl, _, rfl, a, C, [v], rfl, by show 1 ≤ 1000; decide, T, hH, q⟩
theorem bind_LE {f : Addr} {fd : FuncData} (F : FunA K "LetterError.__init__" sLE [.str ""] f fd) : ∃ ds, Vals [] ds ∧ Binds K fd ["self", "why"] ds :=
  FunD.binds1 (ps := ["self", "why"]) F 2 1 (by simp) rfl fun T kV doc pm an cdv ct us its hu hi => match us, its, hu, hi with | [_, _], [_], _, _ => ⟨_, rfl, rfl⟩
/-- C(why, y): a new error of the class at C, its field set -/
def spFld (C : Addr) (fld : Str) : Sp := fun vs H Q _ => ∃ (a : Addr) (v y : V), vs = [.ref a, v, y] ∧ H a = some (exo a C none) ∧ ∀ dx, H dx = none → dx ≠ a → Q .non (upd (upd H dx (exd dx [(fld, y)])) a (exo a C (some dx)))
/-- what a raise of C(..) asks and gives -/
structure MkFld (P : Program) (w : World) (K : PySem.W.Frag) (mg : Str → Option Value) (base : Heap) (x : Str) (C : Addr) (fld : Str) : Prop where
  T : OexC K C
  g : mg x = some (.ref C)
  init : ∃ fI fd, PySem.W.findIn K (.ref C) "__init__" = some (some (.ref fI)) ∧ PySem.W.typeIn K (.ref fI) = some (.type "function") ∧ FnOk P w K mg base CX0 2 fI fd ["self", "why", fld] (spFld C fld) ∧
    (∃ ds, Vals [] ds ∧ Binds K fd ["self", "why", fld] ds) ∧ ∃ ds, Vals [.int 0] ds ∧ Binds K fd ["self", "why", fld] ds
/-- the leaf: what the raise gives -/
theorem mk_leaf {C : Addr} {fld : Str} {v y : V} {vs dvs : List V} {H1 : Hp} {Q : XK} (hv : vs ++ dvs = [v, y]) (hl : vs.length ≤ 2) (h : ∀ (d : Addr) (H' : Hp), Same H1 H' → H1 d = none → H' d = some (.xd [(fld, y)]) → Q (.ref C) (some d) H') :
    vs.length ≤ 1000 ∧ ∀ a, H1 a = none → spFld C fld (.ref a :: (vs ++ dvs)) (upd H1 a (exo a C none))
      (fun v H2 => v = .non ∧ ∃ (d : Addr) (fs : List (Str × V)), H2 a = some (exo a C (some d)) ∧ H2 d = some (exd d fs) ∧ H1 d = none ∧ Q (.ref C) (some d) (upd (del H2 a) d (.xd fs))) (fun _ _ _ => False) := by
  refine ⟨by omega, fun a na => ⟨a, v, y, by rw [hv], upd_same, fun dx n1 n2 => ?_⟩⟩
  rw [upd_ne n2] at n1
  refine ⟨rfl, dx, [(fld, y)], upd_same, by rw [upd_ne n2, upd_same], n1, h dx _ (fun b o e => ?_) n1 upd_same⟩
  have hb1 : b ≠ a := ne_of_none e na
  have hb2 : b ≠ dx := ne_of_none e n1
  rw [upd_ne hb2, del_ne hb1, upd_ne hb1, upd_ne hb2, upd_ne hb1]
  exact e
theorem pmk_fld {X : Cx} {x fld : Str} {C : Addr} {e : Expr} {es : List Expr} {ta : TA} {p pos : Pos} (M : MkFld X.prog X.w X.K X.mg X.base x C fld) (hr : Room (2 + 1) X.A) (hg : Gl X x) (ha : PA X (e :: es) ta) (dvs : List V) (hdv : dvs = [] ∨ dvs = [.int 0])
    (hdb : (x == ("__debug__" : Str)) = false := by decide) (he : starEach (e :: es) X.env = (false, eval e X.env) :: starEach es X.env := by rfl) (hpl : (backTo pos (starEach es X.env)).any (·.1) = false := by rfl) :
    PMk X (.Call (.Name x p) (e :: es) [] pos) (tMkO C (spFld C fld) dvs ta) := by
  obtain ⟨fI, fd, iC, tI, F1, ⟨ds1, v1, b1⟩, ⟨ds2, v2, b2⟩⟩ := M.init
  rcases hdv with rfl | rfl
  · exact pmk_oex M.T iC tI F1 hr b1 v1 pass0 hg M.g ha hdb he hpl
  · exact pmk_oex M.T iC tI F1 hr b2 v2 pass0 hg M.g ha hdb he hpl
end
end FL

namespace FL
open PySem PySem.Spec PyProof.Rows L2
/-! ### texts as lists of signs -/
def mk (l : List Nat) : Str := ⟨l.toArray⟩
theorem mk_codes (l : List Nat) : (mk l).cps.toList = l := by simp [mk]
theorem mk_of (z : Str) : mk z.cps.toList = z := TL.mk_tl z
theorem mk_eq {z : Str} {l : List Nat} (h : z.cps.toList = l) : z = mk l := by rw [← h, mk_of]
theorem mk_inj {l m : List Nat} (h : mk l = mk m) : l = m := by rw [← mk_codes l, h, mk_codes]
theorem mk_len (l : List Nat) : (mk l).length = l.length := by simp [mk, Str.length]
theorem mk_one (c : Nat) : mk [c] = ⟨#[c]⟩ := rfl
theorem mk_app (l m : List Nat) : mk l ++ mk m = mk (l ++ m) := by
  have h : (mk l ++ mk m).cps.toList = l ++ m := by
    have := TL.tl_append (mk l) (mk m)
    show (mk l ++ mk m).cps.toList = l ++ m
    rw [show (mk l ++ mk m).cps.toList = (mk l).cps.toList ++ (mk m).cps.toList from this, mk_codes, mk_codes]
  exact mk_eq h
/-! ### slices -/
theorem cutS_one (z : Str) (p : Nat) : (cutS z (some (p : Nat)) (some ((p + 1 : Nat) : Int))).cps.toList = (z.cps.toList.drop p).take 1 := by
  unfold cutS
  rw [HT.sIx_nat, HT.sIx_nat]
  show (List.take _ (List.drop _ _)) = _
  have hl := len_cps z
  by_cases h : p < z.length
  · rw [Nat.min_eq_left (by omega), Nat.min_eq_left (by omega), show p + 1 - p = 1 by omega]
  · rw [Nat.min_eq_right (by omega), Nat.min_eq_right (by omega), Nat.sub_self, List.take_zero, List.drop_eq_nil_of_le (by omega)]
    rfl
theorem cutS_nat (z : Str) {i j : Nat} (h1 : i ≤ z.length) (h2 : j ≤ z.length) : (cutS z (some (i : Nat)) (some (j : Nat))).cps.toList = (z.cps.toList.drop i).take (j - i) := by
  unfold cutS
  rw [HT.sIx_nat, HT.sIx_nat]
  show (List.take _ (List.drop _ _)) = _
  rw [Nat.min_eq_left h1, Nat.min_eq_left h2]
theorem cps_at {z : Str} {p c : Nat} (h : z.cps[p]? = some c) : z.cps.toList[p]? = some c := by rw [Array.getElem?_toList]; exact h
theorem drop_at {l : List Nat} {p c : Nat} (h : l[p]? = some c) : l.drop p = c :: l.drop (p + 1) := by
  have hb : p < l.length := (List.getElem?_eq_some_iff.mp h).1
  have e : l[p] = c := (List.getElem?_eq_some_iff.mp h).2
  rw [List.drop_eq_getElem_cons hb, e]
section
variable {P : Program} {w : World} {K : PySem.W.Frag} {mg : Str → Option Value} {base : Heap}
theorem sign_is {c d : Nat} {x : Str} (hx : x = ⟨#[d]⟩) : decide (V.str ⟨#[c]⟩ = V.str x) = decide (c = d) := by
  rw [hx]
  exact decide_eq_decide.mpr str_one
def ReadyX (P : Program) (w : World) (K : PySem.W.Frag) (mg : Str → Option Value) (base : Heap) (k : Nat) (x : Str) (ps : List Str) (sp : Sp) : Prop :=
  ∃ f fd, mg x = some (.ref f) ∧ PySem.W.keepIn K (.ref f) = true ∧ Binds K fd ps [] ∧ FnOk P w K mg base (L2.CX P w) k f fd ps sp
theorem readyX_of {x : Str} {st : Stmt} {k : Nat} {ps : List Str} {sp : Sp} (A : FnAt K mg x st)
    (hb : ∀ (kV doc pm : Value) (an : Option Addr) (cdv ct : Value) (us : List Value), us.length = ps.length → bindArgs (PySem.W.fnOf x x (defArgs st) (defBody st) (defScope st) .none kV doc pm an cdv ct) ⟨us, []⟩ = pure (ps.zip us))
    (ok : ∀ f fd, Fun K x x st f fd → FnOk P w K mg base (L2.CX P w) k f fd ps sp) : ReadyX P w K mg base k x ps sp := by
  obtain ⟨f, fd, F, g⟩ := A.ex
  exact ⟨f, fd, g, F.kp, F.binds hb, ok f fd F⟩
/-- v is no text without line feeds -/
def NoLine (K : PySem.W.Frag) (H : Hp) (v : V) : Prop := (∃ z : Str, v = .str z ∧ z.length ≤ 10000 ∧ isLn z.cps.toList = false) ∨ (∃ t, TyX K H v t ∧ PySem.W.kitOne K t (.type "str") = some false)
/-- an error of the class at C with its field at y is wished for -/
def Fails (C : Addr) (fld : Str) (y : Int) (H : Hp) (E : XK) : Prop := ∀ (d : Addr) H', Same H H' → H d = none → H' d = some (.xd [(fld, .int y)]) → E (.ref C) (some d) H'
theorem Fails.later {C : Addr} {fld : Str} {y : Int} {H H1 : Hp} {E : XK} (h : Fails C fld y H E) (s : Same H H1) : Fails C fld y H1 E := fun d H' s' n e => h d H' (s.trans s') (Same.free s n) e
theorem len_append (a b : Str) : (a ++ b).length = a.length + b.length := by
  have := TL.tl_append a b
  rw [← len_cps, ← len_cps, ← len_cps]
  rw [show (a ++ b).cps.toList = a.cps.toList ++ b.cps.toList from this, List.length_append]
end
end FL

namespace FL
open PySem PySem.Spec PyProof.Rows L2
section
variable {P : Program} {w : World} {K : PySem.W.Frag} {mg : Str → Option Value} {base : Heap}
abbrev sNW : Stmt := inClass cNoWords 0
theorem scNW : FnScope ["self", "why", "at"] ["self", "why", "at"] (defScope sNW) := ⟨rfl, rfl, rfl, by decide +kernel, rfl, by decide +kernel, by decide +kernel⟩
theorem ok_NW {C CL fL f : Addr} {fd fdL : FuncData} (F : FunA K "NoWords.__init__" sNW [.int 0] f fd) (FL : FunA K "LetterError.__init__" sLE [.str ""] fL fdL) (TL : ClsFn K CL fL) (gL : mg "LetterError" = some (.ref CL)) (mV : mg "ValueError" = none)
    (vV : PySem.W.findCls K (.type "ValueError") (.type "type") "__init__" = some (.val (.builtin "ValueError.__init__"))) (T : OexC K C) (hno : PySem.W.findIn K (.ref C) "at" = some none) :
    FnOk P w K mg base CX0 2 f fd ["self", "why", "at"] (spFld C "at") := by
  have GL : FnOk P w K mg base CX0 1 fL fdL ["self", "why"] (spLE K) := ok_LE FL mV vV
  obtain ⟨ds, vds, bds⟩ := bind_LE FL
  refine FunD.ok F scNW (fun vs H Q E h => ?_) (fun cdv A outer s H vs Q E hr h => ?_)
  · obtain ⟨a, v, y, rfl, _⟩ := h
    rfl
  · obtain ⟨a, v, y, rfl, hH, q⟩ := h
    refine ⟨_, pss_cons (ps_expr (pe_cinit TL GL hr (by rfl) gL bds vds pass0 (pa_cons (pv 0) (pa_cons (pv 1) pa_nil)))) (pss_one (ps_ost (pv 0) (pv 2))), ?_⟩
    refine ⟨_, rfl, _, rfl, a, C, v, rfl, T, hH, ?_⟩
    exact ⟨_, rfl, _, rfl, a, C, rfl, T, hno, .inl ⟨hH, fun dx n1 n2 => q dx n1 n2⟩⟩
theorem mk_NW {C CL fL f : Addr} {fd fdL : FuncData} (F : FunA K "NoWords.__init__" sNW [.int 0] f fd) (FL : FunA K "LetterError.__init__" sLE [.str ""] fL fdL) (TL : ClsFn K CL fL) (gL : mg "LetterError" = some (.ref CL)) (mV : mg "ValueError" = none)
    (vV : PySem.W.findCls K (.type "ValueError") (.type "type") "__init__" = some (.val (.builtin "ValueError.__init__"))) (T : OexC K C) (hno : PySem.W.findIn K (.ref C) "at" = some none) (g : mg "NoWords" = some (.ref C))
    (iC : PySem.W.findIn K (.ref C) "__init__" = some (some (.ref f))) (tI : PySem.W.typeIn K (.ref f) = some (.type "function")) : MkFld P w K mg base "NoWords" C "at" :=
  ⟨T, g, f, fd, iC, tI, ok_NW F FL TL gL mV vV T hno,
    FunD.binds1 (ps := ["self", "why", "at"]) F 3 1 (by simp) rfl fun T kV doc pm an cdv ct us its hu hi => match us, its, hu, hi with | [_, _, _], [_], _, _ => ⟨_, rfl, rfl⟩,
    FunD.binds1 (ps := ["self", "why", "at"]) F 2 0 (by simp) rfl fun T kV doc pm an cdv ct us its hu hi => match us, its, hu, hi with | [_, _], [_], _, _ => ⟨_, rfl, rfl⟩⟩
end
end FL

namespace FL
open PySem PySem.Spec PyProof.Rows L2
/-! ### the mirror of words -/
/-- a quoted word behind its first quote: what is kept so far, the place, the rest -/
def quo (acc : List Nat) (p : Nat) : List Nat → Option (List Nat × Nat)
  | [] => none
  | [c] => if c = 34 then some (acc, p + 1) else none
  | c :: d :: r => if c = 34 then some (acc, p + 1) else if c = 92 then quo (acc ++ [d]) (p + 2) r else quo (acc ++ [c]) (p + 1) (d :: r)
/-- a remark from its place on: the depth, the place, the rest -/
def rem (d : Int) (p : Nat) : List Nat → Option Nat
  | [] => none
  | [c] => if c = 41 then (if d - 1 = 0 then some p else none) else none
  | c :: e :: r => if c = 92 then rem d (p + 2) r else if c = 40 then rem (d + 1) (p + 1) (e :: r)
      else if c = 41 then (if d - 1 = 0 then some p else rem (d - 1) (p + 1) (e :: r)) else rem d (p + 1) (e :: r)
theorem rem_nil {d : Int} {p : Nat} : rem d p [] = none := rfl
theorem quo_nil {a : List Nat} {p : Nat} : quo a p [] = none := rfl
theorem quo_end {a : List Nat} {p : Nat} {r : List Nat} : quo a p (34 :: r) = some (a, p + 1) := by
  cases r <;> simp [quo]
theorem quo_esc {a : List Nat} {p : Nat} {r : List Nat} : quo a p (92 :: r) = quo (a ++ r.take 1) (p + 2) (r.drop 1) := by
  cases r with
  | nil => simp [quo]
  | cons d r => simp [quo]
theorem quo_other {a : List Nat} {p c : Nat} {r : List Nat} (h1 : c ≠ 34) (h2 : c ≠ 92) : quo a p (c :: r) = quo (a ++ [c]) (p + 1) r := by
  cases r with
  | nil => simp [quo, h1]
  | cons d r => simp [quo, h1, h2]
theorem rem_esc {d : Int} {p : Nat} {r : List Nat} : rem d p (92 :: r) = rem d (p + 2) (r.drop 1) := by
  cases r with
  | nil => simp [rem]
  | cons e r => simp [rem]
theorem rem_open {d : Int} {p : Nat} {r : List Nat} : rem d p (40 :: r) = rem (d + 1) (p + 1) r := by
  cases r with
  | nil => simp [rem]
  | cons e r => simp [rem]
theorem rem_close {d : Int} {p : Nat} {r : List Nat} : rem d p (41 :: r) = if d - 1 = 0 then some p else rem (d - 1) (p + 1) r := by
  cases r with
  | nil => simp [rem]
  | cons e r => simp [rem]
theorem rem_other {d : Int} {p c : Nat} {r : List Nat} (h1 : c ≠ 92) (h2 : c ≠ 40) (h3 : c ≠ 41) : rem d p (c :: r) = rem d (p + 1) r := by
  cases r with
  | nil => simp [rem, h3]
  | cons e r => simp [rem, h1, h2, h3]
def marks : List Nat := [60, 62, 64, 44, 59, 58, 91, 93]
/-- sort, text, end -/
def wordAt (l : List Nat) (b : Nat) : Option (Str × List Nat × Nat) :=
  match l[b]? with
  | none => none
  | some c => if isAtm c = true then some ("atom", (l.drop b).takeWhile isAtm, atomEnd l b)
    else if c = 34 then (quo [] (b + 1) (l.drop (b + 1))).map fun p => ("quoted", p.1, p.2)
    else if c = 40 then (rem 0 b (l.drop b)).map fun e => ("remark", (l.drop (b + 1)).take (e - (b + 1)), e + 1)
    else if c ∈ marks then some ("mark", [c], b + 1) else none
/-- sort, text, begin, end -/
abbrev Wd := Str × List Nat × Nat × Nat
def cutF (l : List Nat) : Nat → Nat → Option (List Wd)
  | 0, p => if p < l.length then none else some []
  | n + 1, p => match l[p]? with
    | none => some []
    | some c => if c = 32 then cutF l n (p + 1) else match wordAt l p with
      | none => none
      | some (s, t, e) => (cutF l n e).map fun r => (s, t, p, e) :: r
def wdV (x : Wd) : List V := [.str x.1, .str (mk x.2.1), .int (x.2.2.1 : Nat), .int (x.2.2.2 : Nat)]
section
variable {P : Program} {w : World} {K : PySem.W.Frag} {mg : Str → Option Value} {base : Heap}
/-- at b stands a word: its sort, its text, its end; or none does -/
def spWordX (C : Addr) (f : List Nat → Nat → Option (Str × List Nat × Nat)) : Sp := fun vs H Q E => ∃ (z : Str) (b : Nat), vs = [.str z, .int (b : Nat)] ∧ z.length ≤ 10000 ∧ b < z.length ∧
  (∀ s t e, f z.cps.toList b = some (s, t, e) → ∀ H' T, Same H H' → H T = none → H' T = some (.tup (wdV (s, t, b, e))) → Q (.ref T) H') ∧
  (f z.cps.toList b = none → ∀ (d : Addr) H', Same H H' → H d = none → H' d = some (.xd [(("at" : Str), .int (b : Nat))]) → E (.ref C) (some d) H')
def quoAt (l : List Nat) (b : Nat) : Option (Str × List Nat × Nat) := (quo [] (b + 1) (l.drop (b + 1))).map fun p => ("quoted", p.1, p.2)
def remAt (l : List Nat) (b : Nat) : Option (Str × List Nat × Nat) := (rem 0 b (l.drop b)).map fun e => ("remark", (l.drop (b + 1)).take (e - (b + 1)), e + 1)
theorem scQuotedWord : FnScope ["text", "begin", "kept", "place"] ["text", "begin"] (defScope sQuotedWord) := ⟨rfl, rfl, rfl, by decide +kernel, rfl, by decide +kernel, by decide +kernel⟩
theorem x_quoted_word {C : Addr} (M : MkFld P w K mg base "NoWords" C "at") (A : FnAt K mg "_quoted_word" sQuotedWord) (ml : mg "len" = none) : ReadyX P w K mg base 4 "_quoted_word" ["text", "begin"] (spWordX C quoAt) := by
  refine readyX_of A (fun _ _ _ _ _ _ us hl => match us, hl with | [_, _], _ => rfl) fun f fd F => ?_
  refine F.okX scQuotedWord (fun vs H Q E h => ?_) (fun cdv A outer s H vs Q E hr h => ?_)
  · obtain ⟨z, b, rfl, _⟩ := h
    rfl
  · obtain ⟨z, b, rfl, hz, hb, q, qe⟩ := h
    have sc := scQuotedWord
    refine ⟨_, pss_cons (ps_set (i := 2) sc.nd rfl (.inl rfl) (pe_lst pa_nil))
      (pss_cons (ps_set (i := 3) sc.nd rfl (.inl rfl) (pe_op op_add (pv 1) pe_int))
      (pss_cons (ps_while (passes_of rfl) (pt_cmpR op_lt (pv 3) (pe_callB call_len_str (by rfl) ml PySem.boot_len (pa_cons (pv 0) pa_nil)) (nomark _))
        (pss_cons (ps_if (pt_cmpR op_eq (pe_item_str (pv 0) (pv 3) (fun _ _ => rfl)) pe_str (nomark _))
            (pss_one (ps_ret (pe_tup (pa_cons pe_str (pa_cons (pe_join pe_str (pv 2)) (pa_cons (pv 1) (pa_cons (pe_op op_add (pv 3) pe_int) pa_nil))))))) pss_nil)
          (pss_cons (ps_if (pt_cmpR op_eq (pe_item_str (pv 0) (pv 3) (fun _ _ => rfl)) pe_str (nomark _)) (pss_one (ps_aug (i := 3) sc.nd rfl (.inl rfl) pe_int ip_add)) pss_nil)
          (pss_cons (ps_expr (pe_bm PySem.F.plainAttrs_list PySem.F.slot_list_append PySem.F.type_list_append mt_append (pv 2) (pa_cons (pe_slice sl_str (pv 0) (po_some (pv 3)) (po_some (pe_op op_add (pv 3) pe_int))) pa_nil)))
          (pss_one (ps_aug (i := 3) sc.nd rfl (.inl rfl) pe_int ip_add))))))
      (pss_one (ps_raise rfl (takes_of rfl rfl rfl rfl) (pmk_fld M hr (by rfl) (pa_cons pe_str (pa_cons (pv 1) pa_nil)) [] (.inl rfl)))))), ?_⟩
    obtain ⟨R, hq⟩ : ∃ R, quo [] (b + 1) (z.cps.toList.drop (b + 1)) = R := ⟨_, rfl⟩
    refine ⟨Nat.zero_le _, fun kp nk => ?_⟩
    refine ⟨_, rfl, _, _, rfl, rfl, ?_⟩
    refine ⟨fun m σ H' => ∃ (p : Nat) (ys : List Str), σ = [some (.str z), some (.int b), some (.ref kp), some (.int (p : Nat))] ∧ Same H H' ∧ H' kp = some (.lst (ys.map V.str)) ∧ ys.length ≤ p ∧ (∀ y ∈ ys, y.length ≤ 1) ∧ p ≤ z.length + 1 ∧ m = z.length + 1 - p ∧
      quo (ys.map fun y => y.cps.toList).flatten p (z.cps.toList.drop p) = R, ⟨z.length + 1 - (b + 1), b + 1, [], rfl, same_new nk, upd_same, Nat.zero_le _, fun _ h => by simp at h, by omega, rfl, hq⟩, fun m σ H' hW => ?_⟩
    obtain ⟨p, ys, rfl, sm, hk, hy1, hy2, hp, rfl, hQ⟩ := hW
    refine ⟨_, rfl, _, rfl, z, rfl, Nat.le_of_lt (szl hz), _, _, rfl, rfl, _, rfl, ?_⟩
    by_cases h1 : p < z.length
    · rw [decide_eq_true (by omega : (p : Int) < (z.length : Int))]
      obtain ⟨c, hc⟩ : ∃ c, z.cps[p]? = some c := ⟨_, Array.getElem?_eq_getElem (show p < z.cps.size from h1)⟩
      have hd := drop_at (cps_at hc)
      rw [hd] at hQ
      have hcI : z.cps[((p : Nat) : Int).toNat]? = some c := by rw [Int.toNat_natCast]; exact hc
      refine iteT ⟨fun σ' H'' => ∃ (p' : Nat) (ys' : List Str), σ' = [some (.str z), some (.int b), some (.ref kp), some (.int (p' : Nat))] ∧ Same H H'' ∧ H'' kp = some (.lst (ys'.map V.str)) ∧ ys'.length ≤ p' ∧ (∀ y ∈ ys', y.length ≤ 1) ∧ p' ≤ z.length + 1 ∧ p < p' ∧
        quo (ys'.map fun y => y.cps.toList).flatten p' (z.cps.toList.drop p') = R, fun σ' H'' hN => ?_, ?_⟩
      · obtain ⟨p', ys', rfl, a1, a2, a3, a4, a5, a6, a7⟩ := hN
        exact ⟨z.length + 1 - p', by omega, p', ys', rfl, a1, a2, a3, a4, a5, rfl, a7⟩
      · refine ⟨_, rfl, _, rfl, z, p, c, rfl, rfl, by omega, by omega, by omega, hcI, rfl, _, rfl, ?_⟩
        rw [show decide (V.str ⟨#[c]⟩ = V.str ("\"" : Str)) = decide (c = 34) from sign_is rfl]
        refine ite2 (fun h => ?_) (fun h => ?_)
        · -- the closing quote
          have hc34 : c = 34 := of_decide_eq_true h
          subst hc34
          rw [quo_end] at hQ
          have e0 : ("" : Str).length = 0 := by decide +kernel
          have hs := sum_one hy2
          refine ⟨⟨_, rfl⟩, _, rfl, ("" : Str), kp, ys, rfl, rfl, .inl (SqL.of hk), by rw [e0]; omega, _, rfl, _, rfl, _, _, rfl, rfl, (by show 4 ≤ sizeLine; decide), fun T nT => ?_⟩
          refine q (("quoted" : Str)) (ys.map fun y => y.cps.toList).flatten (p + 1) (by unfold quoAt; rw [hq, ← hQ]; rfl) _ T (fun bb x ee => ?_) (Same.free sm nT) ?_
          · rw [upd_ne (ne_of_none (sm _ _ ee) nT)]
            exact sm _ _ ee
          · rw [upd_same]
            have ej : Txt.join ("" : Str) ys = mk (ys.map fun y => y.cps.toList).flatten := mk_eq (join_codes ys)
            rw [ej]
            rfl
        · have hc34 : c ≠ 34 := fun z => h (decide_eq_true z)
          refine ⟨_, rfl, _, rfl, z, p, c, rfl, rfl, by omega, by omega, by omega, hcI, rfl, _, rfl, ?_⟩
          rw [show decide (V.str ⟨#[c]⟩ = V.str ("\\" : Str)) = decide (c = 92) from sign_is rfl]
          have go : ∀ (p' : Nat), p ≤ p' → p' ≤ z.length → quo ((ys.map fun y => y.cps.toList).flatten ++ (z.cps.toList.drop p').take 1) (p' + 1) (z.cps.toList.drop (p' + 1)) = R → ys.length ≤ p' →
              (∃ (p'' : Nat) (ys' : List Str), [some (V.str z), some (.int b), some (.ref kp), some (.int ((p' : Nat) + 1))] = [some (.str z), some (.int b), some (.ref kp), some (.int (p'' : Nat))] ∧ Same H (upd H' kp (.lst (ys.map V.str ++ [V.str (cutS z (some (p' : Nat)) (some ((p' : Nat) + 1)))]))) ∧ (upd H' kp (.lst (ys.map V.str ++ [V.str (cutS z (some (p' : Nat)) (some ((p' : Nat) + 1)))]))) kp = some (.lst (ys'.map V.str)) ∧ ys'.length ≤ p'' ∧ (∀ y ∈ ys', y.length ≤ 1) ∧ p'' ≤ z.length + 1 ∧ p < p'' ∧
                quo (ys'.map fun y => y.cps.toList).flatten p'' (z.cps.toList.drop p'') = R) := fun p' g1 g2 g3 g4 => by
            have cs : (cutS z (some (p' : Nat)) (some ((p' : Nat) + 1))).cps.toList = (z.cps.toList.drop p').take 1 := cutS_one z p'
            refine ⟨p' + 1, ys ++ [cutS z (some (p' : Nat)) (some ((p' : Nat) + 1))], rfl, same_set sm nk, by rw [upd_same, List.map_append]; rfl, by rw [List.length_append, List.length_singleton]; omega, fun y hy => ?_, by omega, by omega, ?_⟩
            · rcases List.mem_append.mp hy with hy | hy
              · exact hy2 y hy
              · rw [List.mem_singleton.mp hy, ← len_cps, cs]
                exact List.length_take_le _ _
            · rw [List.map_append, List.flatten_append]
              show quo (_ ++ [(cutS z (some (p' : Nat)) (some ((p' : Nat) + 1))).cps.toList].flatten) _ _ = _
              rw [cs]
              show quo (_ ++ ((z.cps.toList.drop p').take 1 ++ [])) _ _ = _
              rw [List.append_nil]
              exact g3
          refine ite2 (fun h => ?_) (fun h => ?_)
          · have hc92 : c = 92 := of_decide_eq_true h
            subst hc92
            rw [quo_esc, List.drop_drop] at hQ
            refine ⟨_, rfl, _, _, rfl, rfl, ?_⟩
            refine ⟨_, rfl, .inl ⟨rfl, _, SqL.of hk⟩, _, rfl, _, rfl, _, rfl, _, rfl, _, _, rfl, rfl, _, rfl, z, rfl, Nat.le_of_lt (szl hz), kp, _, _, rfl, rfl, hk, ?_, ?_⟩
            · rw [List.length_map]
              exact szl (by omega)
            · refine ⟨_, rfl, _, _, rfl, rfl, ?_⟩
              exact go (p + 1) (by omega) (by omega) hQ (by omega)
          · have hc92 : c ≠ 92 := fun z => h (decide_eq_true z)
            rw [quo_other hc34 hc92] at hQ
            refine ⟨_, rfl, .inl ⟨rfl, _, SqL.of hk⟩, _, rfl, _, rfl, _, rfl, _, rfl, _, _, rfl, rfl, _, rfl, z, rfl, Nat.le_of_lt (szl hz), kp, _, _, rfl, rfl, hk, ?_, ?_⟩
            · rw [List.length_map]
              exact szl (by omega)
            · refine ⟨_, rfl, _, _, rfl, rfl, ?_⟩
              exact go p (by omega) (by omega) (by rw [hd]; exact hQ) hy1
    · rw [decide_eq_false (by omega : ¬ (p : Int) < (z.length : Int))]
      refine iteF ?_
      rw [List.drop_eq_nil_of_le (by rw [len_cps]; omega), quo_nil] at hQ
      have hn : quoAt z.cps.toList b = none := by
        unfold quoAt
        rw [hq, ← hQ]
        rfl
      exact ⟨_, rfl, mk_leaf rfl (Nat.le_refl _) fun d H9 s9 n9 h9 => qe hn d H9 (sm.trans s9) (Same.free sm n9) h9⟩
end
end FL

namespace FL
open PySem PySem.Spec PyProof.Rows L2
section
variable {P : Program} {w : World} {K : PySem.W.Frag} {mg : Str → Option Value} {base : Heap}
theorem scRemark : FnScope ["text", "begin", "depth", "place"] ["text", "begin"] (defScope sRemark) := ⟨rfl, rfl, rfl, by decide +kernel, rfl, by decide +kernel, by decide +kernel⟩
theorem x_remark {C : Addr} (M : MkFld P w K mg base "NoWords" C "at") (A : FnAt K mg "_remark" sRemark) (ml : mg "len" = none) : ReadyX P w K mg base 4 "_remark" ["text", "begin"] (spWordX C remAt) := by
  refine readyX_of A (fun _ _ _ _ _ _ us hl => match us, hl with | [_, _], _ => rfl) fun f fd F => ?_
  refine F.okX scRemark (fun vs H Q E h => ?_) (fun cdv A outer s H vs Q E hr h => ?_)
  · obtain ⟨z, b, rfl, _⟩ := h
    rfl
  · obtain ⟨z, b, rfl, hz, hb, q, qe⟩ := h
    have sc := scRemark
    refine ⟨_, pss_cons (ps_set (i := 2) sc.nd rfl (.inl rfl) pe_int)
      (pss_cons (ps_set (i := 3) sc.nd rfl (.inl rfl) (pv 1))
      (pss_cons (ps_while (passes_of rfl) (pt_cmpR op_lt (pv 3) (pe_callB call_len_str (by rfl) ml PySem.boot_len (pa_cons (pv 0) pa_nil)) (nomark _))
        (pss_cons (ps_if (pt_cmpR op_eq (pe_item_str (pv 0) (pv 3) (fun _ _ => rfl)) pe_str (nomark _)) (pss_one (ps_aug (i := 3) sc.nd rfl (.inl rfl) pe_int ip_add))
            (pss_one (ps_if (pt_cmpR op_eq (pe_item_str (pv 0) (pv 3) (fun _ _ => rfl)) pe_str (nomark _)) (pss_one (ps_aug (i := 2) sc.nd rfl (.inl rfl) pe_int ip_add))
              (pss_one (ps_if (pt_cmpR op_eq (pe_item_str (pv 0) (pv 3) (fun _ _ => rfl)) pe_str (nomark _)) (pss_cons (ps_aug (i := 2) sc.nd rfl (.inl rfl) pe_int ip_sub)
                (pss_one (ps_if (pt_cmpR op_eq (pv 2) pe_int (nomark _)) (pss_one (ps_ret (pe_tup (pa_cons pe_str (pa_cons (pe_slice sl_str (pv 0) (po_some (pe_op op_add (pv 1) pe_int)) (po_some (pv 3))) (pa_cons (pv 1) (pa_cons (pe_op op_add (pv 3) pe_int) pa_nil))))))) pss_nil))) pss_nil)))))
          (pss_one (ps_aug (i := 3) sc.nd rfl (.inl rfl) pe_int ip_add))))
      (pss_one (ps_raise rfl (takes_of rfl rfl rfl rfl) (pmk_fld M hr (by rfl) (pa_cons pe_str (pa_cons (pv 1) pa_nil)) [] (.inl rfl)))))), ?_⟩
    obtain ⟨R, hq⟩ : ∃ R, rem 0 b (z.cps.toList.drop b) = R := ⟨_, rfl⟩
    refine ⟨_, rfl, ?_⟩
    refine ⟨fun m σ H' => ∃ (p : Nat) (d : Int), σ = [some (.str z), some (.int b), some (.int d), some (.int (p : Nat))] ∧ H' = H ∧ p ≤ z.length + 1 ∧ m = z.length + 1 - p ∧
      rem d p (z.cps.toList.drop p) = R, ⟨z.length + 1 - b, b, 0, rfl, rfl, by omega, rfl, hq⟩, fun m σ H' hW => ?_⟩
    obtain ⟨p, d, rfl, rfl, hp, rfl, hQ⟩ := hW
    refine ⟨_, rfl, _, rfl, z, rfl, Nat.le_of_lt (szl hz), _, _, rfl, rfl, _, rfl, ?_⟩
    by_cases h1 : p < z.length
    · rw [decide_eq_true (by omega : (p : Int) < (z.length : Int))]
      obtain ⟨c, hc⟩ : ∃ c, z.cps[p]? = some c := ⟨_, Array.getElem?_eq_getElem (show p < z.cps.size from h1)⟩
      have hd := drop_at (cps_at hc)
      rw [hd] at hQ
      have hcI : z.cps[((p : Nat) : Int).toNat]? = some c := by rw [Int.toNat_natCast]; exact hc
      refine iteT ⟨fun σ' H'' => ∃ (p' : Nat) (d' : Int), σ' = [some (.str z), some (.int b), some (.int d'), some (.int (p' : Nat))] ∧ H'' = H' ∧ p' ≤ z.length + 1 ∧ p < p' ∧
        rem d' p' (z.cps.toList.drop p') = R, fun σ' H'' hN => ?_, ?_⟩
      · obtain ⟨p', d', rfl, rfl, a5, a6, a7⟩ := hN
        exact ⟨z.length + 1 - p', by omega, p', d', rfl, rfl, a5, rfl, a7⟩
      · refine ⟨_, rfl, _, rfl, z, p, c, rfl, rfl, by omega, by omega, by omega, hcI, rfl, _, rfl, ?_⟩
        rw [show decide (V.str ⟨#[c]⟩ = V.str ("\\" : Str)) = decide (c = 92) from sign_is rfl]
        refine ite2 (fun h => ?_) (fun h => ?_)
        · have hc92 : c = 92 := of_decide_eq_true h
          subst hc92
          rw [rem_esc, List.drop_drop] at hQ
          refine ⟨_, rfl, _, _, rfl, rfl, ?_⟩
          refine ⟨_, rfl, _, _, rfl, rfl, ?_⟩
          exact ⟨p + 2, d, by congr 4, rfl, by omega, by omega, hQ⟩
        · have hc92 : c ≠ 92 := fun z => h (decide_eq_true z)
          refine ⟨_, rfl, _, rfl, z, p, c, rfl, rfl, by omega, by omega, by omega, hcI, rfl, _, rfl, ?_⟩
          rw [show decide (V.str ⟨#[c]⟩ = V.str ("(" : Str)) = decide (c = 40) from sign_is rfl]
          refine ite2 (fun h => ?_) (fun h => ?_)
          · have hc40 : c = 40 := of_decide_eq_true h
            subst hc40
            rw [rem_open] at hQ
            refine ⟨_, rfl, _, _, rfl, rfl, ?_⟩
            refine ⟨_, rfl, _, _, rfl, rfl, ?_⟩
            exact ⟨p + 1, d + 1, rfl, rfl, by omega, by omega, hQ⟩
          · have hc40 : c ≠ 40 := fun z => h (decide_eq_true z)
            refine ⟨_, rfl, _, rfl, z, p, c, rfl, rfl, by omega, by omega, by omega, hcI, rfl, _, rfl, ?_⟩
            rw [show decide (V.str ⟨#[c]⟩ = V.str (")" : Str)) = decide (c = 41) from sign_is rfl]
            refine ite2 (fun h => ?_) (fun h => ?_)
            · have hc41 : c = 41 := of_decide_eq_true h
              subst hc41
              rw [rem_close] at hQ
              refine ⟨_, rfl, _, _, rfl, rfl, ?_⟩
              refine ⟨_, rfl, rfl, _, rfl, ite2 (fun h => ?_) (fun h => ?_)⟩
              · have hd0 : d - 1 = 0 := V.int.inj (of_decide_eq_true h)
                rw [if_pos hd0] at hQ
                refine ⟨_, rfl, _, rfl, _, _, rfl, rfl, _, rfl, _, rfl, _, rfl, z, rfl, Nat.le_of_lt (szl hz), _, rfl, _, rfl, _, _, rfl, rfl, (by show 4 ≤ sizeLine; decide), fun T nT => ?_⟩
                refine q ("remark" : Str) ((z.cps.toList.drop (b + 1)).take (p - (b + 1))) (p + 1) (by unfold remAt; rw [hq, ← hQ]; rfl) _ T (same_new nT) nT ?_
                rw [upd_same]
                have ec : cutS z (some ((b : Nat) + 1 : Int)) (some (p : Nat)) = mk ((z.cps.toList.drop (b + 1)).take (p - (b + 1))) := mk_eq (cutS_nat z (i := b + 1) (by omega) (by omega))
                rw [ec]
                rfl
              · have hd0 : ¬ d - 1 = 0 := fun z => h (decide_eq_true (congrArg V.int z))
                rw [if_neg hd0] at hQ
                refine ⟨_, rfl, _, _, rfl, rfl, ?_⟩
                exact ⟨p + 1, d - 1, rfl, rfl, by omega, by omega, hQ⟩
            · have hc41 : c ≠ 41 := fun z => h (decide_eq_true z)
              rw [rem_other hc92 hc40 hc41] at hQ
              refine ⟨_, rfl, _, _, rfl, rfl, ?_⟩
              exact ⟨p + 1, d, rfl, rfl, by omega, by omega, hQ⟩
    · rw [decide_eq_false (by omega : ¬ (p : Int) < (z.length : Int))]
      refine iteF ?_
      rw [List.drop_eq_nil_of_le (by rw [len_cps]; omega), rem_nil] at hQ
      have hn : remAt z.cps.toList b = none := by
        unfold remAt
        rw [hq, ← hQ]
        rfl
      exact ⟨_, rfl, mk_leaf rfl (Nat.le_refl _) fun d H9 s9 n9 h9 => qe hn d H9 s9 n9 h9⟩
def marksText : Str := "<>@,;:[]"
theorem marksText_codes : marksText.cps.toList = marks := by decide +kernel
theorem scWordAt : FnScope ["text", "begin", "sign", "end"] ["text", "begin"] (defScope sWordAt) := ⟨rfl, rfl, rfl, by decide +kernel, rfl, by decide +kernel, by decide +kernel⟩
theorem x_word_at {C : Addr} (M : MkFld P w K mg base "NoWords" C "at") (A : FnAt K mg "_word_at" sWordAt) (RA : Ready P w K mg base 2 "_is_atom_sign" ["sign"] (spSign isAtm)) (RE : Ready P w K mg base 3 "_atom_end" ["text", "begin"] spAtomEnd)
    (RQ : ReadyX P w K mg base 4 "_quoted_word" ["text", "begin"] (spWordX C quoAt)) (RR : ReadyX P w K mg base 4 "_remark" ["text", "begin"] (spWordX C remAt)) {tp : Tok} (mp : mg "MARKS" = some (.str marksText tp)) :
    ReadyX P w K mg base 5 "_word_at" ["text", "begin"] (spWordX C wordAt) := by
  obtain ⟨f1, fd1, g1, k1, b1, G1⟩ := RA
  obtain ⟨f2, fd2, g2, k2, b2, G2⟩ := RE
  obtain ⟨f3, fd3, g3, k3, b3, G3⟩ := RQ
  obtain ⟨f4, fd4, g4, k4, b4, G4⟩ := RR
  refine readyX_of A (fun _ _ _ _ _ _ us hl => match us, hl with | [_, _], _ => rfl) fun f fd F => ?_
  refine F.okX scWordAt (fun vs H Q E h => ?_) (fun cdv A outer s H vs Q E hr h => ?_)
  · obtain ⟨z, b, rfl, _⟩ := h
    rfl
  · obtain ⟨z, b, rfl, hz, hb, q, qe⟩ := h
    have sc := scWordAt
    refine ⟨_, pss_cons (ps_set (i := 2) sc.nd rfl (.inl rfl) (pe_item_str (pv 0) (pv 1) (fun _ _ => rfl)))
      (pss_cons (ps_if (pt_val (pe_call G1 (hr.mono (by decide)) (by rfl) g1 k1 b1 .nil pass0 (pa_cons (pv 2) pa_nil)))
        (pss_cons (ps_set (i := 3) sc.nd rfl (.inl rfl) (pe_call G2 (hr.mono (by decide)) (by rfl) g2 k2 b2 .nil pass0 (pa_cons (pv 0) (pa_cons (pv 1) pa_nil))))
          (pss_one (ps_ret (pe_tup (pa_cons pe_str (pa_cons (pe_slice sl_str (pv 0) (po_some (pv 1)) (po_some (pv 3))) (pa_cons (pv 1) (pa_cons (pv 3) pa_nil)))))))) pss_nil)
      (pss_cons (ps_if (pt_cmpR op_eq (pv 2) pe_str (nomark _)) (pss_one (ps_ret (pe_call G3 hr (by rfl) g3 k3 b3 .nil (E := E) (passes_call (takes_of rfl rfl rfl rfl) (fun _ _ _ _ h => h)) (pa_cons (pv 0) (pa_cons (pv 1) pa_nil))))) pss_nil)
      (pss_cons (ps_if (pt_cmpR op_eq (pv 2) pe_str (nomark _)) (pss_one (ps_ret (pe_call G4 hr (by rfl) g4 k4 b4 .nil (E := E) (passes_call (takes_of rfl rfl rfl rfl) (fun _ _ _ _ h => h)) (pa_cons (pv 0) (pa_cons (pv 1) pa_nil))))) pss_nil)
      (pss_cons (ps_if (pt_cmpR op_in_sign (pv 2) (pe_glob (v := .str marksText) rfl mp ⟨tp, rfl⟩) (by rfl)) (pss_one (ps_ret (pe_tup (pa_cons pe_str (pa_cons (pv 2) (pa_cons (pv 1) (pa_cons (pe_op op_add (pv 1) pe_int) pa_nil))))))) pss_nil)
      (pss_one (ps_raise rfl (takes_of rfl rfl rfl rfl) (pmk_fld M (hr.mono (by decide)) (by rfl) (pa_cons pe_str (pa_cons (pv 1) pa_nil)) [] (.inl rfl)))))))), ?_⟩
    obtain ⟨c, hc⟩ : ∃ c, z.cps[b]? = some c := ⟨_, Array.getElem?_eq_getElem (show b < z.cps.size from hb)⟩
    have hcI : z.cps[((b : Nat) : Int).toNat]? = some c := by rw [Int.toNat_natCast]; exact hc
    have hl := cps_at hc
    obtain ⟨R, hw⟩ : ∃ R, wordAt z.cps.toList b = R := ⟨_, rfl⟩
    have hw0 := hw
    unfold wordAt at hw
    rw [hl] at hw
    dsimp only at hw
    refine ⟨_, rfl, _, rfl, z, b, c, rfl, rfl, by omega, by omega, by omega, hcI, ?_⟩
    refine ⟨_, rfl, c, rfl, _, rfl, ?_⟩
    cases ha : isAtm c with
    | true =>
      rw [if_pos ha] at hw
      rw [← hw] at hw0
      refine iteT ⟨_, rfl, _, rfl, z, b, rfl, hz, Nat.le_of_lt hb, ?_⟩
      refine ⟨_, rfl, _, rfl, _, rfl, _, rfl, _, rfl, z, rfl, Nat.le_of_lt (szl hz), _, rfl, _, rfl, (by show 4 ≤ sizeLine; decide), fun T nT => ?_⟩
      refine q _ _ _ hw0 _ T (same_new nT) nT ?_
      rw [upd_same]
      have hle := atomEnd_le (l := z.cps.toList) (b := b) (by rw [len_cps]; omega)
      rw [len_cps] at hle
      have ec : cutS z (some (b : Nat)) (some (atomEnd z.cps.toList b : Nat)) = mk ((z.cps.toList.drop b).takeWhile isAtm) := mk_eq (by
        rw [cutS_nat z (by omega) hle]
        unfold atomEnd
        rw [Nat.add_sub_cancel_left]
        exact (List.prefix_iff_eq_take.mp (List.takeWhile_prefix isAtm)).symm)
      rw [ec]
      rfl
    | false =>
      rw [if_neg (by rw [ha]; exact Bool.false_ne_true)] at hw
      refine iteF ?_
      refine ⟨_, rfl, rfl, _, rfl, ?_⟩
      rw [show decide (V.str ⟨#[c]⟩ = V.str ("\"" : Str)) = decide (c = 34) from sign_is rfl]
      refine ite2 (fun h => ?_) (fun h => ?_)
      · rw [if_pos (of_decide_eq_true h)] at hw
        rw [← hw] at hw0
        exact ⟨_, rfl, _, rfl, z, b, rfl, hz, hb, fun s t e he => q s t e (hw0.trans he), fun he => qe (hw0.trans he)⟩
      · rw [if_neg (fun z => h (decide_eq_true z))] at hw
        refine ⟨_, rfl, rfl, _, rfl, ?_⟩
        rw [show decide (V.str ⟨#[c]⟩ = V.str ("(" : Str)) = decide (c = 40) from sign_is rfl]
        refine ite2 (fun h => ?_) (fun h => ?_)
        · rw [if_pos (of_decide_eq_true h)] at hw
          rw [← hw] at hw0
          exact ⟨_, rfl, _, rfl, z, b, rfl, hz, hb, fun s t e he => q s t e (hw0.trans he), fun he => qe (hw0.trans he)⟩
        · rw [if_neg (fun z => h (decide_eq_true z))] at hw
          refine ⟨_, rfl, c, marksText, rfl, rfl, _, rfl, ?_⟩
          rw [marksText_codes]
          refine ite2 (fun h => ?_) (fun h => ?_)
          · rw [if_pos (of_decide_eq_true h)] at hw
            rw [← hw] at hw0
            refine ⟨_, rfl, _, rfl, _, rfl, _, _, rfl, rfl, (by show 4 ≤ sizeLine; decide), fun T nT => ?_⟩
            refine q _ _ _ hw0 _ T (same_new nT) nT ?_
            rw [upd_same]
            rfl
          · rw [if_neg (fun z => h (decide_eq_true z))] at hw
            rw [← hw] at hw0
            exact ⟨_, rfl, mk_leaf rfl (Nat.le_refl _) fun d H9 s9 n9 h9 => qe hw0 d H9 s9 n9 h9⟩
end
end FL

namespace FL
open PySem PySem.Spec PyProof.Rows L2
section
variable {P : Program} {w : World} {K : PySem.W.Frag} {mg : Str → Option Value} {base : Heap}
def TupsAt (H0 H : Hp) (Ts : List Addr) (ws : List Wd) : Prop := Paired (fun T x => H0 T = none ∧ H T = some (.tup (wdV x))) Ts ws
theorem TupsAt.same {H0 H H' : Hp} {Ts : List Addr} {ws : List Wd} (h : TupsAt H0 H Ts ws) (k : ∀ T x, T ∈ Ts → H T = some (.tup (wdV x)) → H' T = some (.tup (wdV x))) : TupsAt H0 H' Ts ws := by
  unfold TupsAt at h ⊢
  induction h with
  | nil => exact .nil
  | cons a b ih => exact .cons ⟨a.1, k _ _ (List.mem_cons_self ..) a.2⟩ (ih fun T x hT => k T x (List.mem_cons_of_mem _ hT))
/-- the words from a place on, or the place of what can't be cut -/
def cutR (l : List Nat) : Nat → Nat → Option (Except Nat (List Wd))
  | 0, p => if p < l.length then none else some (.ok [])
  | n + 1, p => match l[p]? with
    | none => some (.ok [])
    | some c => if c = 32 then cutR l n (p + 1) else match wordAt l p with
      | none => some (.error p)
      | some (s, t, e) => (cutR l n e).map fun r => match r with
        | .ok ws => .ok ((s, t, p, e) :: ws)
        | .error q => .error q
def glue (dn : List Wd) : Except Nat (List Wd) → Except Nat (List Wd)
  | .ok ws => .ok (dn ++ ws)
  | .error q => .error q
theorem quo_lt : ∀ (r acc : List Nat) (p : Nat) (t : List Nat) (e : Nat), quo acc p r = some (t, e) → p < e
  | [], _, _, _, _, h => by simp [quo] at h
  | [c], acc, p, t, e, h => by
    by_cases hc : c = 34
    · subst hc
      rw [quo_end] at h
      injection h with h
      injection h with _ h
      omega
    · simp [quo, hc] at h
  | c :: d :: r, acc, p, t, e, h => by
    by_cases hc : c = 34
    · subst hc
      rw [quo_end] at h
      injection h with h
      injection h with _ h
      omega
    · by_cases h9 : c = 92
      · subst h9
        rw [quo_esc] at h
        have := quo_lt r (acc ++ [d]) (p + 2) t e h
        omega
      · rw [quo_other hc h9] at h
        have := quo_lt (d :: r) (acc ++ [c]) (p + 1) t e h
        omega
theorem rem_lt : ∀ (r : List Nat) (d : Int) (p e : Nat), rem d p r = some e → p ≤ e
  | [], _, _, _, h => by simp [rem] at h
  | [c], d, p, e, h => by
    by_cases hc : c = 41
    · subst hc
      rw [rem_close] at h
      by_cases hd : d - 1 = 0
      · rw [if_pos hd] at h
        injection h with h
        omega
      · rw [if_neg hd, rem_nil] at h
        cases h
    · simp [rem, hc] at h
  | c :: x :: r, d, p, e, h => by
    by_cases h1 : c = 92
    · subst h1
      rw [rem_esc] at h
      have := rem_lt r d (p + 2) e h
      omega
    · by_cases h2 : c = 40
      · subst h2
        rw [rem_open] at h
        have := rem_lt (x :: r) (d + 1) (p + 1) e h
        omega
      · by_cases h3 : c = 41
        · subst h3
          rw [rem_close] at h
          by_cases hd : d - 1 = 0
          · rw [if_pos hd] at h
            injection h with h
            omega
          · rw [if_neg hd] at h
            have := rem_lt (x :: r) (d - 1) (p + 1) e h
            omega
        · rw [rem_other h1 h2 h3] at h
          have := rem_lt (x :: r) d (p + 1) e h
          omega
theorem wordAt_lt {l t : List Nat} {p e : Nat} {s : Str} (h : wordAt l p = some (s, t, e)) : p < e := by
  unfold wordAt at h
  cases hc : l[p]? with
  | none => rw [hc] at h; cases h
  | some c =>
    rw [hc] at h
    dsimp only at h
    by_cases ha : isAtm c = true
    · rw [if_pos ha] at h
      injection h with h
      injection h with _ h
      injection h with _ h
      have hb : p < l.length := (List.getElem?_eq_some_iff.mp hc).1
      have e1 : l[p] = c := (List.getElem?_eq_some_iff.mp hc).2
      have : atomEnd l p = p + ((l.drop (p + 1)).takeWhile isAtm).length + 1 := by
        unfold atomEnd
        rw [List.drop_eq_getElem_cons hb, e1, List.takeWhile_cons, ha]
        simp
        omega
      omega
    · rw [if_neg ha] at h
      by_cases h1 : c = 34
      · rw [if_pos h1] at h
        obtain ⟨⟨t', e'⟩, hq, heq⟩ := Option.map_eq_some_iff.mp h
        injection heq with _ heq
        injection heq with _ heq
        have := quo_lt _ _ _ _ _ hq
        dsimp only at heq
        omega
      · rw [if_neg h1] at h
        by_cases h2 : c = 40
        · rw [if_pos h2] at h
          obtain ⟨e', hq, heq⟩ := Option.map_eq_some_iff.mp h
          injection heq with _ heq
          injection heq with _ heq
          have := rem_lt _ _ _ _ hq
          omega
        · rw [if_neg h2] at h
          by_cases h3 : c ∈ marks
          · rw [if_pos h3] at h
            injection h with h
            injection h with _ h
            injection h with _ h
            omega
          · rw [if_neg h3] at h
            cases h
def spWordsX (K : PySem.W.Frag) (C : Addr) : Sp := fun vs H Q E => ∃ v : V, vs = [v] ∧
  ((∃ (z : Str) (n : Nat) (r : Except Nat (List Wd)), v = .str z ∧ z.length ≤ 10000 ∧ isLn z.cps.toList = true ∧ cutR z.cps.toList n 0 = some r ∧
      (∀ ws, r = .ok ws → ∀ H' D Ts, Same H H' → H D = none → H' D = some (.lst (Ts.map V.ref)) → TupsAt H H' Ts ws → Q (.ref D) H') ∧ ∀ p : Nat, r = .error p → Fails C "at" (p : Nat) H E) ∨
    (NoLine K H v ∧ Fails C "at" 0 H E))
theorem scWords : FnScope ["text", "cut", "place", "word"] ["text"] (defScope sWords) := ⟨rfl, rfl, rfl, by decide +kernel, rfl, by decide +kernel, by decide +kernel⟩
theorem x_words {C : Addr} (M : MkFld P w K mg base "NoWords" C "at") (A : FnAt K mg "words" sWords) (RL : Ready P w K mg base 3 "is_line" ["value"] (spLine K isLn)) (RW : ReadyX P w K mg base 5 "_word_at" ["text", "begin"] (spWordX C wordAt)) (ml : mg "len" = none) :
    ReadyX P w K mg base 6 "words" ["text"] (spWordsX K C) := by
  obtain ⟨f1, fd1, g1, k1, b1, G1⟩ := RL
  obtain ⟨f2, fd2, g2, k2, b2, G2⟩ := RW
  refine readyX_of A (fun _ _ _ _ _ _ us hl => match us, hl with | [_], _ => rfl) fun f fd F => ?_
  refine F.okX scWords (fun vs H Q E h => ?_) (fun cdv A outer s H vs Q E hr h => ?_)
  · obtain ⟨v, rfl, _⟩ := h
    rfl
  · obtain ⟨v, rfl, h⟩ := h
    have sc := scWords
    refine ⟨_, pss_cons (ps_if (pt_not (pt_val (pe_call G1 (hr.mono (by decide)) (by rfl) g1 k1 b1 .nil pass0 (pa_cons (pv 0) pa_nil)))) (pss_one (ps_raise rfl (takes_of rfl rfl rfl rfl) (pmk_fld M (hr.mono (by decide)) (by rfl) (pa_cons pe_str pa_nil) [.int 0] (.inr rfl)))) pss_nil)
      (pss_cons (ps_set (i := 1) sc.nd rfl (.inl rfl) (pe_lst pa_nil))
      (pss_cons (ps_set (i := 2) sc.nd rfl (.inl rfl) pe_int)
      (pss_cons (ps_while (passes_of rfl) (pt_cmpR op_lt (pv 2) (pe_callB call_len_str (by rfl) ml PySem.boot_len (pa_cons (pv 0) pa_nil)) (nomark _))
        (pss_one (ps_if (pt_cmpR op_eq (pe_item_str (pv 0) (pv 2) (fun _ _ => rfl)) pe_str (nomark _)) (pss_one (ps_aug (i := 2) sc.nd rfl (.inl rfl) pe_int ip_add))
          (pss_cons (ps_set (i := 3) sc.nd rfl (.inl rfl) (pe_call G2 hr (by rfl) g2 k2 b2 .nil (E := E) (passes_call (takes_of rfl rfl rfl rfl) (fun _ _ _ _ h => h)) (pa_cons (pv 0) (pa_cons (pv 2) pa_nil))))
          (pss_cons (ps_expr (pe_bm PySem.F.plainAttrs_list PySem.F.slot_list_append PySem.F.type_list_append mt_append (pv 1) (pa_cons (pv 3) pa_nil)))
          (pss_one (ps_set (i := 2) sc.nd rfl (.inl rfl) (pe_ix ix_tup (pv 3) pe_int (fun _ _ => rfl)))))))))
      (pss_one (ps_ret (pv 1)))))), ?_⟩
    rcases h with ⟨z, n, r, rfl, hz, hl, hw, q, qe⟩ | ⟨hno, qe⟩
    · refine ⟨_, rfl, _, rfl, .inl ⟨z, rfl, hz, fun H0 s0 => ⟨_, rfl, ?_⟩⟩⟩
      rw [hl]
      refine iteF ?_
      refine ⟨Nat.zero_le _, fun D nD0 => ?_⟩
      have nD : H D = none := Same.free s0 nD0
      refine ⟨fun m σ H' => ∃ (n p : Nat) (Ts : List Addr) (dn : List Wd) (r' : Except Nat (List Wd)) (y3 : Option V), σ = [some (.str z), some (.ref D), some (.int (p : Nat)), y3] ∧ Same H H' ∧ H' D = some (.lst (Ts.map V.ref)) ∧ TupsAt H H' Ts dn ∧ cutR z.cps.toList n p = some r' ∧ r = glue dn r' ∧ dn.length ≤ p ∧ m = n,
        ⟨n, n, 0, [], [], r, none, rfl, same_set s0 nD, upd_same, .nil, hw, by cases r <;> rfl, Nat.le_refl _, rfl⟩, fun m σ H' hW => ?_⟩
      obtain ⟨n', p, Ts, dn, r', y3, rfl, sm, hD, hT, hC, hws', hdn, rfl⟩ := hW
      refine ⟨_, rfl, _, rfl, z, rfl, Nat.le_of_lt (szl hz), _, _, rfl, rfl, _, rfl, ?_⟩
      by_cases h1 : p < z.length
      · rw [decide_eq_true (by omega : (p : Int) < (z.length : Int))]
        obtain ⟨c, hc⟩ : ∃ c, z.cps[p]? = some c := ⟨_, Array.getElem?_eq_getElem (show p < z.cps.size from h1)⟩
        have hcI : z.cps[((p : Nat) : Int).toNat]? = some c := by rw [Int.toNat_natCast]; exact hc
        cases m with
        | zero =>
          exfalso
          unfold cutR at hC
          rw [if_pos (by rw [len_cps]; exact h1)] at hC
          cases hC
        | succ n' =>
          unfold cutR at hC
          rw [cps_at hc] at hC
          dsimp only at hC
          refine iteT ⟨fun σ' H'' => ∃ (p : Nat) (Ts : List Addr) (dn : List Wd) (r' : Except Nat (List Wd)) (y3 : Option V), σ' = [some (.str z), some (.ref D), some (.int (p : Nat)), y3] ∧ Same H H'' ∧ H'' D = some (.lst (Ts.map V.ref)) ∧ TupsAt H H'' Ts dn ∧ cutR z.cps.toList n' p = some r' ∧ r = glue dn r' ∧ dn.length ≤ p, fun σ' H'' hN => ?_, ?_⟩
          · obtain ⟨p, Ts, dn, rest, y3, a1, a2, a3, a4, a5, a6, a7⟩ := hN
            exact ⟨n', Nat.lt_succ_self _, n', p, Ts, dn, rest, y3, a1, a2, a3, a4, a5, a6, a7, rfl⟩
          · refine ⟨_, rfl, _, rfl, z, p, c, rfl, rfl, by omega, by omega, by omega, hcI, rfl, _, rfl, ?_⟩
            rw [show decide (V.str ⟨#[c]⟩ = V.str (" " : Str)) = decide (c = 32) from sign_is rfl]
            refine ite2 (fun h => ?_) (fun h => ?_)
            · rw [if_pos (of_decide_eq_true h)] at hC
              refine ⟨_, rfl, _, _, rfl, rfl, ?_⟩
              exact ⟨p + 1, Ts, dn, r', y3, rfl, sm, hD, hT, hC, hws', by omega⟩
            · rw [if_neg (fun z => h (decide_eq_true z))] at hC
              refine ⟨_, rfl, _, rfl, z, p, rfl, hz, h1, fun so t e hwd H2 T s2 nT hT2 => ?_, fun hwd => ?_⟩
              · rw [hwd] at hC
                obtain ⟨r2, hr1, hr2⟩ := Option.map_eq_some_iff.mp hC
                have nT0 : H T = none := Same.free sm nT
                have hD2 : H2 D = some (.lst (Ts.map V.ref)) := s2 _ _ hD
                have hDT : D ≠ T := ne_of_none hD nT
                have hlen : dn.length = Ts.length := (Paired.length hT).symm
                have hlt := wordAt_lt hwd
                refine ⟨_, rfl, .inl ⟨rfl, _, SqL.of hD2⟩, _, rfl, D, _, _, rfl, rfl, hD2, ?_, ?_⟩
                · rw [List.length_map]
                  exact szl (by omega)
                · have hT3 : (upd H2 D (.lst (Ts.map V.ref ++ [V.ref T]))) T = some (.tup (wdV (so, t, p, e))) := by rw [upd_ne hDT.symm]; exact hT2
                  refine ⟨_, rfl, T, _, _, .int (e : Nat), rfl, rfl, SqT.of hT3, rfl, ?_⟩
                  refine ⟨e, Ts ++ [T], dn ++ [(so, t, p, e)], r2, _, rfl, same_set (sm.trans s2) nD, ?_, ?_, hr1, ?_, by rw [List.length_append, List.length_singleton]; omega⟩
                  · rw [upd_same, List.map_append]
                    rfl
                  · refine Paired.snoc (TupsAt.same hT fun T' x _ hx => ?_) ⟨nT0, hT3⟩
                    have hne : T' ≠ D := fun e => by
                      rw [e, hD] at hx
                      cases hx
                    rw [upd_ne hne]
                    exact s2 _ _ hx
                  · rw [hws', ← hr2]
                    cases r2 with
                    | ok ws => show Except.ok (dn ++ _) = Except.ok ((dn ++ _) ++ _); rw [List.append_assoc]; rfl
                    | error q => rfl
              · rw [hwd] at hC
                injection hC with hC
                rw [← hC] at hws'
                exact fun d H9 s9 n9 h9 => qe p hws' d H9 (sm.trans s9) (Same.free sm n9) h9
      · rw [decide_eq_false (by omega : ¬ (p : Int) < (z.length : Int))]
        refine iteF ⟨_, rfl, ?_⟩
        have hr0 : r' = .ok [] := by
          cases m with
          | zero =>
            unfold cutR at hC
            rw [if_neg (by rw [len_cps]; exact h1)] at hC
            injection hC with hC
            exact hC.symm
          | succ n' =>
            unfold cutR at hC
            rw [List.getElem?_eq_none (by rw [len_cps]; omega)] at hC
            injection hC with hC
            exact hC.symm
        rw [hr0] at hws'
        have hws2 : r = .ok dn := by
          rw [hws']
          show Except.ok (dn ++ []) = _
          rw [List.append_nil]
        exact q dn hws2 H' D Ts sm nD hD hT
    · rcases hno with ⟨z, rfl, hz, hl⟩ | ⟨t, ht, hk⟩
      · refine ⟨_, rfl, _, rfl, .inl ⟨z, rfl, hz, fun H0 s0 => ⟨_, rfl, ?_⟩⟩⟩
        rw [hl]
        exact iteT (mk_leaf rfl (by decide) (Fails.later qe s0))
      · exact ⟨_, rfl, _, rfl, .inr ⟨t, ht, hk, ⟨_, rfl, iteT (mk_leaf rfl (by decide) qe)⟩⟩⟩
/-! ### quoted -/
end
end FL

namespace FL
open PySem PySem.Spec PyProof.Rows L2
theorem strOk_of {z : Str} (h : ∀ c ∈ z.cps.toList, c < 128) : PyData.strOk z = true := by
  unfold PyData.strOk
  rw [← Array.all_toList]
  refine List.all_eq_true.mpr fun c hc => decide_eq_true ?_
  have := h c hc
  omega
theorem canLayAll_of : ∀ {ds : List PyData}, (∀ d ∈ ds, d.canLay0 = true) → PyData.canLayAll0 ds = true
  | [], _ => by simp [PyData.canLayAll0]
  | d :: r, h => by
    rw [PyData.canLayAll0, h d (List.mem_cons_self ..), canLayAll_of fun x hx => h x (List.mem_cons_of_mem _ hx)]
    rfl
theorem depthAll_of {k : Nat} : ∀ {ds : List PyData}, (∀ d ∈ ds, d.depth ≤ k) → PyData.depthAll ds ≤ k
  | [], _ => by simp [PyData.depthAll]
  | d :: r, h => by
    rw [PyData.depthAll]
    exact Nat.max_le.mpr ⟨h d (List.mem_cons_self ..), depthAll_of fun x hx => h x (List.mem_cons_of_mem _ hx)⟩
theorem canLay_str {z : Str} (h : PyData.strOk z = true) : (PyData.str z).canLay0 = true := by
  unfold PyData.canLay0
  exact h
theorem shaped_of {d : PyData} (h : d.canLay0 = true) (k : d.depth ≤ 64) : SeqAt.shaped d = true := by
  unfold SeqAt.shaped
  rw [h, decide_eq_true k]
  rfl
theorem shaped_strs {zs : List Str} (h : ∀ z ∈ zs, PyData.strOk z = true) : SeqAt.shaped (.list (zs.map PyData.str)) = true := by
  refine shaped_of ?_ ?_
  · rw [PyData.canLay0]
    refine canLayAll_of fun d hd => ?_
    obtain ⟨z, hz, rfl⟩ := List.mem_map.mp hd
    exact canLay_str (h z hz)
  · rw [PyData.depth]
    have : PyData.depthAll (zs.map PyData.str) ≤ 0 := depthAll_of fun d hd => by
      obtain ⟨z, hz, rfl⟩ := List.mem_map.mp hd
      rw [PyData.depth]
      exact Nat.le_refl _
    omega
theorem dp_strs {K : PySem.W.Frag} {H : Hp} : ∀ zs : List Str, DpAll K H (zs.map V.str) (zs.map PyData.str)
  | [] => .nil
  | z :: r => .cons (.str z) (dp_strs r)
theorem eqv_nil (ds : List PyData) : PyData.eqv (.list ds) (.list []) = ds.isEmpty := by
  cases ds <;> simp [PyData.eqv, PyData.eqvAll]
theorem same_drawn {H H1 H2 : Hp} {p : Addr} (s : Same H H1) (n : H p = none) (d : Drawn p H1 H2) : Same H H2 := fun b o e => d.old b o (ne_of_none e n) (s b o e)
theorem app_codes (a b : Str) : (a ++ b).cps.toList = a.cps.toList ++ b.cps.toList := TL.tl_append a b
/-- a list of texts as data: in order, and itself -/
theorem strs_ok {zs : List Str} (h : ∀ z ∈ zs, PyData.strOk z = true) : SeqAt.shaped (.list (zs.map PyData.str)) = true ∧ PyData.eqv (.list (zs.map PyData.str)) (.list (zs.map PyData.str)) = true := by
  have hs := shaped_strs h
  exact ⟨hs, SeqAt.eqv_refl _ (Bool.and_eq_true_iff.mp hs).1⟩
end FL

namespace FL
open PySem PySem.Spec PyProof.Rows L2
def okS (c : Nat) : Bool := isSig c && (!decide (c = 10) && decide (c < 128))
theorem okS_lt {c : Nat} (h : okS c = true) : c < 128 := by
  unfold okS at h
  simp only [Bool.and_eq_true, decide_eq_true_eq] at h
  exact h.2.2
theorem isLn_okS {l : List Nat} (h : ∀ c ∈ l, okS c = true) : isLn l = true := by
  unfold isLn allSig
  have h1 : l.all isSig = true := List.all_eq_true.mpr fun c hc => by
    have := h c hc
    unfold okS at this
    simp only [Bool.and_eq_true] at this
    exact this.1
  have h2 : 10 ∉ l := fun hc => by
    have := h 10 hc
    exact absurd this (by decide)
  rw [h1, decide_eq_false h2]
  rfl
section
variable {P : Program} {w : World} {K : PySem.W.Frag} {mg : Str → Option Value} {base : Heap}
/-- what the suite asks of the class of NoWords at C, its fellows at CT, CH, and of LetterError at CL -/
structure Caught (K : PySem.W.Frag) (mg : Str → Option Value) (C CT CH CL : Addr) (fld : Str) : Prop where
  gC : mg "NoWords" = some (.ref C)
  gT : mg "NoText" = some (.ref CT)
  gH : mg "NoHead" = some (.ref CH)
  gL : mg "LetterError" = some (.ref CL)
  te : PySem.W.exmOne K (.ref C) (.ref CL) = some true
  G : ExcC K C
  F : XfC K C
  no : PySem.W.findIn K (.ref C) fld = some none
  kC : PySem.W.kitOne K (.ref C) (.ref C) = some true
  kT : PySem.W.kitOne K (.ref C) (.ref CT) = some false
  kH : PySem.W.kitOne K (.ref C) (.ref CH) = some false
def spClosed : Sp := fun vs H Q _ => ∃ (z : Str) (b : Nat), vs = [.str z, .int (b : Nat)] ∧ z.length ≤ 10000 ∧ z.cps.toList[b]? = some 40 ∧
  (∀ e : Nat, rem 0 b (z.cps.toList.drop b) = some e → ∀ H', Same H H' → Q (.int ((e + 1 : Nat) : Int)) H') ∧ (rem 0 b (z.cps.toList.drop b) = none → ∀ H', Same H H' → Q .non H')
theorem scClosed : FnScope ["_law_text", "_law_at", "_law_deep"] ["_law_text", "_law_at"] (defScope sLawClosed) := ⟨rfl, rfl, rfl, by decide +kernel, rfl, by decide +kernel, by decide +kernel⟩
theorem r_closed (A : FnAt K mg "_law_closed" sLawClosed) (ml : mg "len" = none) (mt : mg "int" = none) : Ready P w K mg base 1 "_law_closed" ["_law_text", "_law_at"] spClosed := by
  refine ready_of A (fun _ _ _ _ _ _ us hl => match us, hl with | [_, _], _ => rfl) fun f fd F => ?_
  refine F.ok scClosed (fun vs H Q E h => ?_) (fun cdv A outer s H vs Q E hr h => ?_)
  · obtain ⟨z, b, rfl, _⟩ := h
    rfl
  · obtain ⟨z, b, rfl, hz, hb, q, qn⟩ := h
    have sc := scClosed
    refine ⟨_, pss_cons (ps_set (i := 2) sc.nd rfl (.inl rfl) pe_int)
      (pss_cons (ps_while PassesOwn.never (pt_cmpR op_lt (pv 1) (pe_callB call_len_str (by rfl) ml PySem.boot_len (pa_cons (pv 0) pa_nil)) (nomark _))
        (pss_cons (ps_if (pt_cmpR op_eq (pe_item_str (pv 0) (pv 1) (fun _ _ => rfl)) pe_str (nomark _)) (pss_one (ps_set (i := 1) sc.nd rfl (.inl rfl) (pe_op op_add (pv 1) pe_int)))
          (pss_one (ps_set (i := 2) sc.nd rfl (.inl rfl) (pe_op op_sub (pe_op op_add (pv 2) (pe_callTy call_int1 (by rfl) mt (by decide +kernel) (pa_cons (pe_cmpR op_eq (pe_item_str (pv 0) (pv 1) (fun _ _ => rfl)) pe_str (nomark _)) pa_nil)))
            (pe_callTy call_int1 (by rfl) mt (by decide +kernel) (pa_cons (pe_cmpR op_eq (pe_item_str (pv 0) (pv 1) (fun _ _ => rfl)) pe_str (nomark _)) pa_nil))))))
        (pss_cons (ps_set (i := 1) sc.nd rfl (.inl rfl) (pe_op op_add (pv 1) pe_int))
        (pss_one (ps_if (pt_cmpR op_eq (pv 2) pe_int (nomark _)) (pss_one (ps_ret (pe_ix ix_list (pe_lst (pa_cons (pv 1) (pa_cons pe_non pa_nil))) (pe_callTy call_int1 (by rfl) mt (by decide +kernel) (pa_cons (pe_cmpR op_gt (pv 1) (pe_callB call_len_str (by rfl) ml PySem.boot_len (pa_cons (pv 0) pa_nil)) (nomark _)) pa_nil)) (fun _ _ => rfl)))) pss_nil)))))
      (pss_one (ps_ret pe_non))), ?_⟩
    have hzl := len_cps z
    have hzs : z.length ≤ sizeLine := Nat.le_of_lt (szl hz)
    have hbl : b < z.length := by rw [← hzl]; exact (List.getElem?_eq_some_iff.mp hb).1
    refine ⟨fun m σ H' => ∃ (p : Nat) (d : Int), σ = [some (.str z), some (.int (p : Nat)), some (.int d)] ∧ Same H H' ∧ p ≤ z.length + 1 ∧ ((d = 0 ∧ p = b) ∨ (1 ≤ d ∧ d ≤ p)) ∧ rem d p (z.cps.toList.drop p) = rem 0 b (z.cps.toList.drop b) ∧ m = z.length + 2 - p,
      ⟨_, b, 0, rfl, Same.refl H, by omega, .inl ⟨rfl, rfl⟩, rfl, rfl⟩, fun m σ H' hW => ?_⟩
    obtain ⟨p, d, rfl, sm, hp, hd, hR, rfl⟩ := hW
    refine ⟨_, rfl, _, rfl, z, rfl, hzs, _, _, rfl, rfl, _, rfl, ?_⟩
    by_cases hlt : p < z.length
    · rw [decide_eq_true (by omega : (p : Int) < (z.length : Int))]
      refine iteT ⟨fun σ' H'' => ∃ (p' : Nat) (d : Int), σ' = [some (.str z), some (.int (p' : Nat)), some (.int d)] ∧ Same H H'' ∧ p < p' ∧ p' ≤ z.length + 1 ∧ ((d = 0 ∧ p' = b) ∨ (1 ≤ d ∧ d ≤ p')) ∧ rem d p' (z.cps.toList.drop p') = rem 0 b (z.cps.toList.drop b), fun σ' H'' hN => ?_, ?_⟩
      · obtain ⟨p', d', a1, a2, a3, a4, a5, a6⟩ := hN
        exact ⟨_, (by omega : z.length + 2 - p' < z.length + 2 - p), p', d', a1, a2, a4, a5, a6, rfl⟩
      · obtain ⟨c, hc⟩ : ∃ c, z.cps[p]? = some c := ⟨_, Array.getElem?_eq_getElem (show p < z.cps.size from hlt)⟩
        have hcl := cps_at hc
        have hdr := drop_at hcl
        rw [hdr] at hR
        refine ⟨_, rfl, _, rfl, z, (p : Int), c, rfl, rfl, by omega, by omega, by omega, by rw [Int.toNat_natCast]; exact hc, rfl, _, rfl, ?_⟩
        rw [show decide (V.str ⟨#[c]⟩ = V.str ("\\" : Str)) = decide (c = 92) from sign_is rfl]
        by_cases h92 : c = 92
        · rw [decide_eq_true h92]
          subst h92
          have hd1 : 1 ≤ d ∧ d ≤ p := by
            rcases hd with ⟨_, rfl⟩ | h
            · rw [hcl] at hb
              cases hb
            · exact h
          refine iteT ⟨_, rfl, _, _, rfl, rfl, ?_⟩
          refine ⟨_, rfl, _, _, rfl, rfl, ?_⟩
          refine ⟨_, rfl, rfl, _, rfl, ?_⟩
          rw [decide_eq_false (fun e => by injection e with e; omega : ¬ (V.int d = V.int 0))]
          refine iteF ⟨p + 2, d, ?_, sm, by omega, by omega, .inr ⟨hd1.1, by omega⟩, ?_⟩
          · show [some (V.str z), some (V.int ((p : Int) + 1 + 1)), some (V.int d)] = _
            have : ((p : Int) + 1 + 1) = ((p + 2 : Nat) : Int) := by omega
            rw [this]
          · rw [rem_esc, List.drop_drop] at hR
            exact hR
        · rw [decide_eq_false h92]
          refine iteF ?_
          have go : (((p : Nat) : Int) + 1) = ((p + 1 : Nat) : Int) := by omega
          refine ⟨_, rfl, _, rfl, _, rfl, z, (p : Int), c, rfl, rfl, by omega, by omega, by omega, by rw [Int.toNat_natCast]; exact hc, rfl, .inr ⟨_, rfl, _, _, rfl, rfl, ?_⟩⟩
          rw [show decide (V.str ⟨#[c]⟩ = V.str ("(" : Str)) = decide (c = 40) from sign_is rfl]
          refine ⟨_, rfl, _, rfl, z, (p : Int), c, rfl, rfl, by omega, by omega, by omega, by rw [Int.toNat_natCast]; exact hc, rfl, .inr ⟨_, rfl, _, _, rfl, rfl, ?_⟩⟩
          rw [show decide (V.str ⟨#[c]⟩ = V.str (")" : Str)) = decide (c = 41) from sign_is rfl]
          generalize hv : (fun (i j : Int) => V.int (i - j)) (d + if decide (c = 40) = true then 1 else 0) (if decide (c = 41) = true then 1 else 0) = v
          have hv' : v = V.int (d + (if decide (c = 40) = true then 1 else 0) - (if decide (c = 41) = true then 1 else 0)) := hv.symm
          clear hv
          refine ⟨_, rfl, _, _, rfl, rfl, ?_⟩
          by_cases h40 : c = 40
          · subst h40
            rw [rem_open] at hR
            have e1 : d + (if decide (40 = 40) = true then 1 else 0) - (if decide ((40 : Nat) = 41) = true then 1 else 0) = d + 1 := by
              rw [if_pos (by decide), if_neg (by decide)]
              omega
            rw [e1] at hv'
            subst hv'
            refine ⟨_, rfl, rfl, _, rfl, ?_⟩
            rw [decide_eq_false (fun e => by injection e with e; omega : ¬ (V.int (d + 1) = V.int 0))]
            exact iteF ⟨p + 1, d + 1, rfl, sm, by omega, by omega, .inr ⟨by omega, by omega⟩, hR⟩
          · have hd1 : 1 ≤ d ∧ d ≤ p := by
              rcases hd with ⟨_, rfl⟩ | h
              · rw [hcl] at hb
                injection hb with hb
                exact absurd hb h40
              · exact h
            by_cases h41 : c = 41
            · subst h41
              rw [rem_close] at hR
              have e1 : d + (if decide ((41 : Nat) = 40) = true then 1 else 0) - (if decide ((41 : Nat) = 41) = true then 1 else 0) = d - 1 := by
                rw [if_neg (by decide), if_pos (by decide)]
                omega
              rw [e1] at hv'
              subst hv'
              refine ⟨_, rfl, rfl, _, rfl, ?_⟩
              by_cases hz0 : d - 1 = 0
              · rw [if_pos hz0] at hR
                rw [decide_eq_true (by rw [hz0] : V.int (d - 1) = V.int 0)]
                refine iteT ⟨_, rfl, (by show 2 ≤ sizeLine; decide), fun p2 np2 => ?_⟩
                refine ⟨_, rfl, _, rfl, z, rfl, hzs, _, _, rfl, rfl, .inr ⟨_, rfl, ?_⟩⟩
                rw [decide_eq_false (by omega : ¬ ((p : Int) + 1 > (z.length : Int)))]
                exact ⟨p2, _, 0, _, rfl, rfl, SqL.of upd_same, rfl, q p hR.symm _ (sm.trans (same_new np2))⟩
              · rw [if_neg hz0] at hR
                rw [decide_eq_false (fun e => by injection e with e; exact hz0 e : ¬ (V.int (d - 1) = V.int 0))]
                exact iteF ⟨p + 1, d - 1, rfl, sm, by omega, by omega, .inr ⟨by omega, by omega⟩, hR⟩
            · rw [rem_other h92 h40 h41] at hR
              have e1 : d + (if decide (c = 40) = true then 1 else 0) - (if decide (c = 41) = true then 1 else 0) = d := by
                rw [decide_eq_false h40, decide_eq_false h41, if_neg Bool.false_ne_true]
                omega
              rw [e1] at hv'
              subst hv'
              refine ⟨_, rfl, rfl, _, rfl, ?_⟩
              rw [decide_eq_false (fun e => by injection e with e; omega : ¬ (V.int d = V.int 0))]
              exact iteF ⟨p + 1, d, rfl, sm, by omega, by omega, .inr ⟨by omega, by omega⟩, hR⟩
    · rw [decide_eq_false (by omega : ¬ (p : Int) < (z.length : Int))]
      refine iteF ?_
      rw [List.drop_eq_nil_of_le (by omega), rem_nil] at hR
      exact qn hR.symm _ sm
end
end FL

namespace FL
open PySem PySem.Spec PyProof.Rows L2
theorem szl3b {n : Nat} (h : n ≤ 100000) : n < sizeLine := Nat.lt_of_le_of_lt h (by decide)
theorem cut_one {z : Str} {p : Nat} : (cutS z (some (p : Nat)) (some ((p : Int) + 1))).cps.toList = (z.cps.toList.drop p).take 1 := cutS_one z p
section
variable {P : Program} {w : World} {K : PySem.W.Frag} {mg : Str → Option Value} {base : Heap}
def spUnquoted : Sp := fun vs H Q _ => ∃ (z : Str) (b : Nat), vs = [.str z, .int (b : Nat)] ∧ z.length ≤ 10000 ∧ b < z.length ∧
  (∀ t e, quo [] (b + 1) (z.cps.toList.drop (b + 1)) = some (t, e) → ∀ H' T, Same H H' → H T = none → H' T = some (.tup [.str (mk t), .int (e : Nat)]) → Q (.ref T) H') ∧ (quo [] (b + 1) (z.cps.toList.drop (b + 1)) = none → ∀ H', Same H H' → Q .non H')
theorem scUnquoted : FnScope ["_law_text", "_law_at", "_law_found"] ["_law_text", "_law_at"] (defScope sLawUnquoted) := ⟨rfl, rfl, rfl, by decide +kernel, rfl, by decide +kernel, by decide +kernel⟩
theorem r_unquoted (A : FnAt K mg "_law_unquoted" sLawUnquoted) (ml : mg "len" = none) (mt : mg "int" = none) : Ready P w K mg base 1 "_law_unquoted" ["_law_text", "_law_at"] spUnquoted := by
  refine ready_of A (fun _ _ _ _ _ _ us hl => match us, hl with | [_, _], _ => rfl) fun f fd F => ?_
  refine F.ok scUnquoted (fun vs H Q E h => ?_) (fun cdv A outer s H vs Q E hr h => ?_)
  · obtain ⟨z, b, rfl, _⟩ := h
    rfl
  · obtain ⟨z, b, rfl, hz, hb, q, qn⟩ := h
    have sc := scUnquoted
    refine ⟨_, pss_cons (ps_set (i := 2) sc.nd rfl (.inl rfl) pe_str)
      (pss_cons (ps_set (i := 1) sc.nd rfl (.inl rfl) (pe_op op_add (pv 1) pe_int))
      (pss_cons (ps_while PassesOwn.never (pt_cmpR op_lt (pv 1) (pe_callB call_len_str (by rfl) ml PySem.boot_len (pa_cons (pv 0) pa_nil)) (nomark _))
        (pss_cons (ps_if (pt_cmpR op_eq (pe_item_str (pv 0) (pv 1) (fun _ _ => rfl)) pe_str (nomark _)) (pss_one (ps_ret (pe_tup (pa_cons (pv 2) (pa_cons (pe_op op_add (pv 1) pe_int) pa_nil))))) pss_nil)
        (pss_cons (ps_set (i := 1) sc.nd rfl (.inl rfl) (pe_op op_add (pv 1) (pe_callTy call_int1 (by rfl) mt (by decide +kernel) (pa_cons (pe_cmpR op_eq (pe_item_str (pv 0) (pv 1) (fun _ _ => rfl)) pe_str (nomark _)) pa_nil))))
        (pss_cons (ps_set (i := 2) sc.nd rfl (.inl rfl) (pe_op op_add_str (pv 2) (pe_slice sl_str (pv 0) (po_some (pv 1)) (po_some (pe_op op_add (pv 1) pe_int)))))
        (pss_one (ps_set (i := 1) sc.nd rfl (.inl rfl) (pe_op op_add (pv 1) pe_int)))))))
      (pss_one (ps_ret pe_non)))), ?_⟩
    have hzl := len_cps z
    have hzs : z.length ≤ sizeLine := Nat.le_of_lt (szl hz)
    have e00 : ("" : Str) = mk [] := by decide +kernel
    refine ⟨_, rfl, _, _, rfl, rfl, ?_⟩
    refine ⟨fun m σ H' => ∃ (p : Nat) (acc : List Nat), σ = [some (.str z), some (.int (p : Nat)), some (.str (mk acc))] ∧ Same H H' ∧ p ≤ z.length + 1 ∧ acc.length ≤ p ∧ quo acc p (z.cps.toList.drop p) = quo [] (b + 1) (z.cps.toList.drop (b + 1)) ∧ m = z.length + 2 - p,
      ⟨_, b + 1, [], rfl, Same.refl H, by omega, by simp, rfl, rfl⟩, fun m σ H' hW => ?_⟩
    obtain ⟨p, acc, rfl, sm, hp, hac, hR, rfl⟩ := hW
    refine ⟨_, rfl, _, rfl, z, rfl, hzs, _, _, rfl, rfl, _, rfl, ?_⟩
    by_cases hlt : p < z.length
    · rw [decide_eq_true (by omega : (p : Int) < (z.length : Int))]
      refine iteT ⟨fun σ' H'' => ∃ (p' : Nat) (acc : List Nat), σ' = [some (.str z), some (.int (p' : Nat)), some (.str (mk acc))] ∧ Same H H'' ∧ p < p' ∧ p' ≤ z.length + 1 ∧ acc.length ≤ p' ∧ quo acc p' (z.cps.toList.drop p') = quo [] (b + 1) (z.cps.toList.drop (b + 1)), fun σ' H'' hN => ?_, ?_⟩
      · obtain ⟨p', d', a1, a2, a3, a4, a5, a6⟩ := hN
        exact ⟨_, (by omega : z.length + 2 - p' < z.length + 2 - p), p', d', a1, a2, a4, a5, a6, rfl⟩
      · obtain ⟨c, hc⟩ : ∃ c, z.cps[p]? = some c := ⟨_, Array.getElem?_eq_getElem (show p < z.cps.size from hlt)⟩
        have hcl := cps_at hc
        have hdr := drop_at hcl
        rw [hdr] at hR
        refine ⟨_, rfl, _, rfl, z, (p : Int), c, rfl, rfl, by omega, by omega, by omega, by rw [Int.toNat_natCast]; exact hc, rfl, _, rfl, ?_⟩
        rw [show decide (V.str ⟨#[c]⟩ = V.str ("\"" : Str)) = decide (c = 34) from sign_is rfl]
        by_cases h34 : c = 34
        · rw [decide_eq_true h34]
          subst h34
          rw [quo_end] at hR
          refine iteT ⟨_, rfl, _, rfl, _, _, rfl, rfl, (by show 2 ≤ sizeLine; decide), fun T nT => ?_⟩
          exact q acc (p + 1) hR.symm _ T (sm.trans (same_new nT)) (Same.free sm nT) upd_same
        · rw [decide_eq_false h34]
          refine iteF ?_
          refine ⟨_, rfl, _, rfl, _, rfl, z, (p : Int), c, rfl, rfl, by omega, by omega, by omega, by rw [Int.toNat_natCast]; exact hc, rfl, .inr ⟨_, rfl, _, _, rfl, rfl, ?_⟩⟩
          rw [show decide (V.str ⟨#[c]⟩ = V.str ("\\" : Str)) = decide (c = 92) from sign_is rfl]
          by_cases h92 : c = 92
          · rw [decide_eq_true h92]
            subst h92
            rw [quo_esc, List.drop_drop] at hR
            have hcut := cut_one (z := z) (p := p + 1)
            have hcl := cutS_length z (some ((p + 1 : Nat) : Int)) (some (((p + 1 : Nat) : Int) + 1))
            refine ⟨_, rfl, _, rfl, _, rfl, _, rfl, _, rfl, _, _, rfl, rfl, _, rfl, z, rfl, hzs, _, _, rfl, rfl, ?_, ?_⟩
            · show (mk acc).length + (cutS z (some ((p + 1 : Nat) : Int)) (some (((p + 1 : Nat) : Int) + 1))).length ≤ _
              rw [mk_len]
              exact Nat.le_of_lt (szl3b (by omega))
            · refine ⟨_, rfl, _, _, rfl, rfl, p + 2, acc ++ (z.cps.toList.drop (p + 1)).take 1, ?_, sm, by omega, by omega, ?_, hR⟩
              · have ev : mk acc ++ cutS z (some ((p + 1 : Nat) : Int)) (some (((p + 1 : Nat) : Int) + 1)) = mk (acc ++ (z.cps.toList.drop (p + 1)).take 1) := mk_eq (by rw [app_codes, mk_codes, hcut])
                rw [← ev]
                rfl
              · rw [List.length_append, List.length_take]
                omega
          · rw [decide_eq_false h92]
            rw [quo_other h34 h92] at hR
            have hcut := cut_one (z := z) (p := p)
            rw [hdr] at hcut
            have hcl := cutS_length z (some ((p : Nat) : Int)) (some (((p : Nat) : Int) + 1))
            have e0 : ((p : Nat) : Int) + 0 = ((p : Nat) : Int) := Int.add_zero _
            have hz0 : ((p : Nat) : Int) + (if false = true then 1 else 0) = ((p : Nat) : Int) := e0
            have hcl2 : (mk acc).length + (cutS z (some ((p : Nat) : Int)) (some (((p : Nat) : Int) + 1))).length ≤ sizeLine := by
              rw [mk_len]
              exact Nat.le_of_lt (szl3b (by omega))
            refine ⟨_, rfl, _, rfl, _, rfl, _, rfl, _, rfl, _, _, rfl, rfl, _, rfl, z, rfl, hzs, _, _, rfl, rfl, ?_, ?_⟩
            · show (mk acc).length + (cutS z (some (((p : Nat) : Int) + (if false = true then 1 else 0))) (some (((p : Nat) : Int) + (if false = true then 1 else 0) + 1))).length ≤ _
              rw [hz0]
              exact hcl2
            · refine ⟨_, rfl, _, _, rfl, rfl, p + 1, acc ++ [c], ?_, sm, by omega, by omega, by rw [List.length_append, List.length_singleton]; omega, hR⟩
              have ev : mk acc ++ cutS z (some ((p : Nat) : Int)) (some (((p : Nat) : Int) + 1)) = mk (acc ++ [c]) := mk_eq (by rw [app_codes, mk_codes, hcut]; rfl)
              show [some (V.str z), some (V.int (((p : Nat) : Int) + (if false = true then 1 else 0) + 1)), some (V.str (mk acc ++ cutS z (some (((p : Nat) : Int) + (if false = true then 1 else 0))) (some (((p : Nat) : Int) + (if false = true then 1 else 0) + 1))))] = _
              rw [hz0, ev]
              rfl
    · rw [decide_eq_false (by omega : ¬ (p : Int) < (z.length : Int))]
      refine iteF ?_
      rw [List.drop_eq_nil_of_le (by omega), quo_nil] at hR
      exact qn hR.symm _ sm
end
end FL

namespace FL
open PySem PySem.Spec PyProof.Rows L2
def atoms6 : Str := "abcdefghijklmnopqrstuvwxyzABCDEFGHIJKLMNOPQRSTUVWXYZ0123456789!#$&'*+-./=?^_`{|}~"
theorem atoms6_is : ∀ c, c < 128 → decide (c ∈ atoms6.cps.toList) = isAtm c := by decide +kernel
theorem mark_no : ∀ c ∈ marks, isAtm c = false ∧ c ≠ 34 ∧ c ≠ 40 ∧ c ≠ 32 := by decide
theorem thirty4 : isAtm 34 = false ∧ isAtm 40 = false ∧ isAtm 32 = false := by decide
def wsD (ws : List Wd) : List PyData := ws.map fun x => .tuple [.str x.1, .str (mk x.2.1), .int (x.2.2.1 : Nat), .int (x.2.2.2 : Nat)]
def WsOk (ws : List Wd) : Prop := ∀ x ∈ ws, (∀ c ∈ x.1.cps.toList, c < 128) ∧ ∀ c ∈ x.2.1, c < 128
theorem ws_dp {K : PySem.W.Frag} {H0 H : Hp} {Ts : List Addr} {ws : List Wd} (h : TupsAt H0 H Ts ws) : DpAll K H (Ts.map V.ref) (wsD ws) := by
  unfold TupsAt at h
  induction h with
  | nil => exact .nil
  | cons a b ih => exact .cons (.tup (SqT.of a.2) (.cons (.str _) (.cons (.str _) (.cons (.int _) (.cons (.int _) .nil))))) ih
theorem ws_shaped {ws : List Wd} (h : WsOk ws) : SeqAt.shaped (.list (wsD ws)) = true := by
  refine shaped_of ?_ ?_
  · rw [PyData.canLay0]
    refine canLayAll_of fun d hd => ?_
    obtain ⟨x, hx, rfl⟩ := List.mem_map.mp hd
    rw [PyData.canLay0]
    refine canLayAll_of fun e he => ?_
    simp only [List.mem_cons, List.not_mem_nil, or_false] at he
    rcases he with rfl | rfl | rfl | rfl
    · exact canLay_str (strOk_of (h x hx).1)
    · exact canLay_str (strOk_of fun c hc => (h x hx).2 c (by rw [mk_codes] at hc; exact hc))
    · rfl
    · rfl
  · rw [PyData.depth]
    have : PyData.depthAll (wsD ws) ≤ 1 := depthAll_of fun d hd => by
      obtain ⟨x, hx, rfl⟩ := List.mem_map.mp hd
      rw [PyData.depth]
      have : PyData.depthAll [PyData.str x.1, PyData.str (mk x.2.1), PyData.int (x.2.2.1 : Nat), PyData.int (x.2.2.2 : Nat)] ≤ 0 := depthAll_of fun e he => by
        simp only [List.mem_cons, List.not_mem_nil, or_false] at he
        rcases he with rfl | rfl | rfl | rfl <;> (rw [PyData.depth]; exact Nat.le_refl _)
      omega
    omega
theorem ws_self {ws : List Wd} (h : SeqAt.shaped (.list (wsD ws)) = true) : PyData.eqv (.list (wsD ws)) (.list (wsD ws)) = true := SeqAt.eqv_refl _ (Bool.and_eq_true_iff.mp h).1
theorem quo_mem : ∀ (r acc : List Nat) (p : Nat) (t : List Nat) (e : Nat), quo acc p r = some (t, e) → ∀ c ∈ t, c ∈ acc ∨ c ∈ r
  | [], _, _, _, _, h => by simp [quo] at h
  | [c], acc, p, t, e, h => by
    by_cases hc : c = 34
    · subst hc
      rw [quo_end] at h
      injection h with h
      injection h with h _
      subst h
      exact fun c hc => .inl hc
    · simp [quo, hc] at h
  | c :: d :: r, acc, p, t, e, h => by
    by_cases hc : c = 34
    · subst hc
      rw [quo_end] at h
      injection h with h
      injection h with h _
      subst h
      exact fun c hc => .inl hc
    · by_cases h9 : c = 92
      · subst h9
        rw [quo_esc] at h
        intro x hx
        rcases quo_mem r (acc ++ [d]) (p + 2) t e h x hx with h1 | h1
        · rcases List.mem_append.mp h1 with h1 | h1
          · exact .inl h1
          · exact .inr (by rw [List.mem_singleton.mp h1]; simp)
        · exact .inr (by simp [h1])
      · rw [quo_other hc h9] at h
        intro x hx
        rcases quo_mem (d :: r) (acc ++ [c]) (p + 1) t e h x hx with h1 | h1
        · rcases List.mem_append.mp h1 with h1 | h1
          · exact .inl h1
          · exact .inr (by rw [List.mem_singleton.mp h1]; simp)
        · exact .inr (List.mem_cons_of_mem _ h1)
theorem wordAt_le {l t : List Nat} {p e : Nat} {s : Str} (h : wordAt l p = some (s, t, e)) (hs : s.length ≤ 100) : True := trivial
theorem quo_hi : ∀ (r acc : List Nat) (p : Nat) (t : List Nat) (e : Nat), quo acc p r = some (t, e) → e ≤ p + r.length
  | [], _, _, _, _, h => by simp [quo] at h
  | [c], acc, p, t, e, h => by
    by_cases hc : c = 34
    · subst hc
      rw [quo_end] at h
      injection h with h
      injection h with _ h
      simp
      omega
    · simp [quo, hc] at h
  | c :: d :: r, acc, p, t, e, h => by
    by_cases hc : c = 34
    · subst hc
      rw [quo_end] at h
      injection h with h
      injection h with _ h
      simp
      omega
    · by_cases h9 : c = 92
      · subst h9
        rw [quo_esc] at h
        have := quo_hi r (acc ++ [d]) (p + 2) t e h
        simp
        omega
      · rw [quo_other hc h9] at h
        have := quo_hi (d :: r) (acc ++ [c]) (p + 1) t e h
        simp at this ⊢
        omega
theorem rem_hi : ∀ (r : List Nat) (d : Int) (p e : Nat), rem d p r = some e → e + 1 ≤ p + r.length
  | [], _, _, _, h => by simp [rem] at h
  | [c], d, p, e, h => by
    by_cases hc : c = 41
    · subst hc
      rw [rem_close] at h
      by_cases hd : d - 1 = 0
      · rw [if_pos hd] at h
        injection h with h
        simp
        omega
      · rw [if_neg hd, rem_nil] at h
        cases h
    · simp [rem, hc] at h
  | c :: x :: r, d, p, e, h => by
    by_cases h9 : c = 92
    · subst h9
      rw [rem_esc] at h
      have := rem_hi r d (p + 2) e h
      simp
      omega
    · by_cases h4 : c = 40
      · subst h4
        rw [rem_open] at h
        have := rem_hi (x :: r) (d + 1) (p + 1) e h
        simp at this ⊢
        omega
      · by_cases h1 : c = 41
        · subst h1
          rw [rem_close] at h
          by_cases hd : d - 1 = 0
          · rw [if_pos hd] at h
            injection h with h
            simp
            omega
          · rw [if_neg hd] at h
            have := rem_hi (x :: r) (d - 1) (p + 1) e h
            simp at this ⊢
            omega
        · rw [rem_other h9 h4 h1] at h
          have := rem_hi (x :: r) d (p + 1) e h
          simp at this ⊢
          omega
theorem pairedW_last {α β : Type} {F : α → β → Prop} : ∀ {as : List α} {bs : List β} {b : β}, Paired F as (bs ++ [b]) → ∃ as0 a, as = as0 ++ [a] ∧ Paired F as0 bs ∧ F a b
  | _, [], b, h => by
    cases h with
    | cons x y =>
      cases y
      exact ⟨[], _, rfl, .nil, x⟩
  | _, c :: r, b, h => by
    cases h with
    | cons x y =>
      obtain ⟨as0, a, rfl, h1, h2⟩ := pairedW_last (bs := r) y
      exact ⟨_ :: as0, a, rfl, .cons x h1, h2⟩
theorem glue_more (dn : List Wd) (x : Wd) (r : Except Nat (List Wd)) : glue dn (match r with | .ok ws => .ok (x :: ws) | .error q => .error q) = glue (dn ++ [x]) r := by
  cases r with
  | ok ws => show Except.ok (dn ++ _) = Except.ok ((dn ++ _) ++ _); rw [List.append_assoc]; rfl
  | error q => rfl
theorem app_facts {H Hy : Hp} {L T : Addr} {Ts : List Addr} {dn : List Wd} {w : Wd} {vals : List V} (smy : Same H Hy) (nL : H L = none) (hLy : Hy L = some (.lst (Ts.map V.ref))) (hTy : TupsAt H Hy Ts dn) (nT : Hy T = none) (hv : vals = wdV w) :
    Same H (upd (upd Hy T (.tup vals)) L (.lst (Ts.map V.ref ++ [V.ref T]))) ∧ (upd (upd Hy T (.tup vals)) L (.lst (Ts.map V.ref ++ [V.ref T]))) L = some (.lst (Ts.map V.ref ++ [V.ref T])) ∧ TupsAt H (upd (upd Hy T (.tup vals)) L (.lst (Ts.map V.ref ++ [V.ref T]))) (Ts ++ [T]) (dn ++ [w]) ∧
    (upd (upd Hy T (.tup vals)) L (.lst (Ts.map V.ref ++ [V.ref T]))) T = some (.tup (wdV w)) := by
  subst hv
  have sT := same_new (o := .tup (wdV w)) nT
  have hne : T ≠ L := fun e => by rw [e, hLy] at nT; cases nT
  have h4 : (upd (upd Hy T (.tup (wdV w))) L (.lst (Ts.map V.ref ++ [V.ref T]))) T = some (.tup (wdV w)) := by rw [upd_ne hne, upd_same]
  refine ⟨same_set (smy.trans sT) nL, upd_same, Paired.snoc (TupsAt.same hTy fun T' x _ hx => ?_) ⟨Same.free smy nT, h4⟩, h4⟩
  have : T' ≠ L := fun e => by
    rw [e, hLy] at hx
    cases hx
  rw [upd_ne this]
  exact sT _ _ hx
section
variable {P : Program} {w : World} {K : PySem.W.Frag} {mg : Str → Option Value} {base : Heap}
def spCut : Sp := fun vs H Q _ => ∃ (z : Str) (N : Nat) (R : Except Nat (List Wd)), vs = [.str z] ∧ z.length ≤ 1000 ∧ (∀ c ∈ z.cps.toList, c < 128) ∧ cutR z.cps.toList N 0 = some R ∧
  (∀ ws, R = .ok ws → WsOk ws → ws.length ≤ 1000 → ∀ H' D Ts, Same H H' → H D = none → H' D = some (.lst (Ts.map V.ref)) → TupsAt H H' Ts ws → Q (.ref D) H') ∧ (∀ p : Nat, R = .error p → ∀ H', Same H H' → Q (.int (p : Nat)) H')
theorem scCut : FnScope ["_law_text", "_law_atoms", "_law_found", "_law_at", "_law_sign", "_law_end", "_law_told_here"] ["_law_text"] (defScope sLawCut) := ⟨rfl, rfl, rfl, by decide +kernel, rfl, by decide +kernel, by decide +kernel⟩
theorem r_cut (A : FnAt K mg "_law_cut" sLawCut) (RC : Ready P w K mg base 1 "_law_closed" ["_law_text", "_law_at"] spClosed) (RU : Ready P w K mg base 1 "_law_unquoted" ["_law_text", "_law_at"] spUnquoted) (ml : mg "len" = none) :
    Ready P w K mg base 2 "_law_cut" ["_law_text"] spCut := by
  obtain ⟨f1, fd1, g1, k1, b1, G1⟩ := RC
  obtain ⟨f2, fd2, g2, k2, b2, G2⟩ := RU
  refine ready_of A (fun _ _ _ _ _ _ us hl => match us, hl with | [_], _ => rfl) fun f fd F => ?_
  refine F.ok scCut (fun vs H Q E h => ?_) (fun cdv A outer s H vs Q E hr h => ?_)
  · obtain ⟨z, N, R, rfl, _⟩ := h
    rfl
  · obtain ⟨z, N, R, rfl, hz, h128, hCN, q, qe⟩ := h
    have sc := scCut
    refine ⟨_, pss_cons (ps_set (i := 1) sc.nd rfl (.inl rfl) pe_str) (pss_cons (ps_set (i := 2) sc.nd rfl (.inl rfl) (pe_lst pa_nil)) (pss_cons (ps_set (i := 3) sc.nd rfl (.inl rfl) pe_int) (pss_cons (ps_while PassesOwn.never (pt_cmpR op_lt (pv 3) (pe_callB call_len_str (by rfl) ml PySem.boot_len (pa_cons (pv 0) pa_nil)) (nomark _)) (pss_cons (ps_set (i := 4) sc.nd rfl (.inl rfl) (pe_item_str (pv 0) (pv 3) (fun _ _ => rfl))) (pss_cons (ps_if (pt_cmpR op_in_sign (pv 4) pe_str (by rfl)) (pss_one (ps_expr (pe_bm PySem.F.plainAttrs_list PySem.F.slot_list_append PySem.F.type_list_append mt_append (pv 2) (pa_cons (pe_tup (pa_cons pe_str (pa_cons (pv 4) (pa_cons (pv 3) (pa_cons (pe_op op_add (pv 3) pe_int) pa_nil))))) pa_nil)))) (pss_one (ps_if (pt_cmpR op_in_sign (pv 4) (pv 1) (by rfl)) (pss_cons (ps_set (i := 5) sc.nd rfl (.inl rfl) (pv 3)) (pss_cons (ps_while PassesOwn.never (PW.pt (pw_and (pt_cmpR op_lt (pv 5) (pe_callB call_len_str (by rfl) ml PySem.boot_len (pa_cons (pv 0) pa_nil)) (nomark _)) (pw_and1 (pt_cmpR op_in_sign (pe_item_str (pv 0) (pv 5) (fun _ _ => rfl)) (pv 1) (by rfl))))) (pss_one (ps_set (i := 5) sc.nd rfl (.inl rfl) (pe_op op_add (pv 5) pe_int)))) (pss_one (ps_expr (pe_bm PySem.F.plainAttrs_list PySem.F.slot_list_append PySem.F.type_list_append mt_append (pv 2) (pa_cons (pe_tup (pa_cons pe_str (pa_cons (pe_slice sl_str (pv 0) (po_some (pv 3)) (po_some (pv 5))) (pa_cons (pv 3) (pa_cons (pv 5) pa_nil))))) pa_nil)))))) (pss_one (ps_if (pt_cmpR op_eq (pv 4) pe_str (nomark _)) (pss_cons (ps_set (i := 6) sc.nd rfl (.inl rfl) (pe_call G2 hr (by rfl) g2 k2 b2 .nil pass0 (pa_cons (pv 0) (pa_cons (pv 3) pa_nil)))) (pss_cons (ps_if (pt_cmpR op_isN (pv 6) pe_non (nomark _)) (pss_one (ps_ret (pv 3))) pss_nil) (pss_one (ps_expr (pe_bm PySem.F.plainAttrs_list PySem.F.slot_list_append PySem.F.type_list_append mt_append (pv 2) (pa_cons (pe_tup (pa_cons pe_str (pa_cons (pe_ix ix_tup (pv 6) pe_int (fun _ _ => rfl)) (pa_cons (pv 3) (pa_cons (pe_ix ix_tup (pv 6) pe_int (fun _ _ => rfl)) pa_nil))))) pa_nil)))))) (pss_one (ps_if (pt_cmpR op_eq (pv 4) pe_str (nomark _)) (pss_cons (ps_set (i := 5) sc.nd rfl (.inl rfl) (pe_call G1 hr (by rfl) g1 k1 b1 .nil pass0 (pa_cons (pv 0) (pa_cons (pv 3) pa_nil)))) (pss_cons (ps_if (pt_cmpR op_isN (pv 5) pe_non (nomark _)) (pss_one (ps_ret (pv 3))) pss_nil) (pss_one (ps_expr (pe_bm PySem.F.plainAttrs_list PySem.F.slot_list_append PySem.F.type_list_append mt_append (pv 2) (pa_cons (pe_tup (pa_cons pe_str (pa_cons (pe_slice sl_str (pv 0) (po_some (pe_op op_add (pv 3) pe_int)) (po_some (pe_op op_sub (pv 5) pe_int))) (pa_cons (pv 3) (pa_cons (pv 5) pa_nil))))) pa_nil)))))) (pss_one (ps_if (pt_cmpR op_ne (pv 4) pe_str (nomark _)) (pss_one (ps_ret (pv 3))) pss_nil))))))))) (pss_cons (ps_set (i := 3) sc.nd rfl (.inl rfl) (pe_op op_add (pv 3) pe_int)) (pss_one (ps_if (PW.pt (pw_and (pt_cmpR (op_neD hr.units) (pv 2) (pe_lst pa_nil) (nomark _)) (pw_and1 (pt_cmpR op_eq (pe_ix ix_tup (pe_ix ix_list (pv 2) (pe_un un_neg pe_int) (fun _ _ => rfl)) pe_int (fun _ _ => rfl)) (pe_op op_sub (pv 3) pe_int) (nomark _))))) (pss_one (ps_set (i := 3) sc.nd rfl (.inl rfl) (pe_ix ix_tup (pe_ix ix_list (pv 2) (pe_un un_neg pe_int) (fun _ _ => rfl)) pe_int (fun _ _ => rfl)))) pss_nil)))))) (pss_one (ps_ret (pv 2)))))), ?_⟩
    have hzl := len_cps z
    have hzs : z.length ≤ sizeLine := Nat.le_of_lt (szl (by omega))
    refine ⟨Nat.zero_le _, fun L nL => ?_⟩
    refine ⟨fun m σ H' => ∃ (p : Nat) (Ts : List Addr) (dn : List Wd) (n : Nat) (r : Except Nat (List Wd)) (y4 y5 y6 : Option V), σ = [some (.str z), some (.str atoms6), some (.ref L), some (.int (p : Nat)), y4, y5, y6] ∧ Same H H' ∧ H' L = some (.lst (Ts.map V.ref)) ∧ TupsAt H H' Ts dn ∧ WsOk dn ∧ dn.length ≤ p ∧ p ≤ z.length ∧ (∀ x ∈ dn, x.2.2.1 < p) ∧ cutR z.cps.toList n p = some r ∧ R = glue dn r ∧ m = z.length - p,
      ⟨_, 0, [], [], N, R, none, none, none, rfl, same_new nL, upd_same, .nil, (fun _ h => by cases h), Nat.le_refl _, Nat.zero_le _, (fun _ h => by cases h), hCN, by cases R <;> rfl, rfl⟩, fun m σ H' hW => ?_⟩
    obtain ⟨p, Ts, dn, n, r, y4, y5, y6, rfl, sm, hL, hT, hok, hdn, hp, hbg, hC, hG, rfl⟩ := hW
    have hTl : Ts.length = dn.length := Paired.length hT
    refine ⟨_, rfl, _, rfl, z, rfl, hzs, _, _, rfl, rfl, _, rfl, ?_⟩
    by_cases hlt : p < z.length
    · rw [decide_eq_true (by omega : (p : Int) < (z.length : Int))]
      refine iteT ⟨fun σ' H'' => ∃ (p' : Nat) (Ts : List Addr) (dn : List Wd) (n : Nat) (r : Except Nat (List Wd)) (y4 y5 y6 : Option V), σ' = [some (.str z), some (.str atoms6), some (.ref L), some (.int (p' : Nat)), y4, y5, y6] ∧ Same H H'' ∧ H'' L = some (.lst (Ts.map V.ref)) ∧ TupsAt H H'' Ts dn ∧ WsOk dn ∧ dn.length ≤ p' ∧ p' ≤ z.length ∧ (∀ x ∈ dn, x.2.2.1 < p') ∧ cutR z.cps.toList n p' = some r ∧ R = glue dn r ∧ p < p', fun σ' H'' hN => ?_, ?_⟩
      · obtain ⟨p', Ts, dn, n, r, y4, y5, y6, c1, c2, c3, c4, c5, c6, c7, c8, c9, c10, c11⟩ := hN
        exact ⟨_, (by omega : z.length - p' < z.length - p), p', Ts, dn, n, r, y4, y5, y6, c1, c2, c3, c4, c5, c6, c7, c8, c9, c10, rfl⟩
      · obtain ⟨c, hc⟩ : ∃ c, z.cps[p]? = some c := ⟨_, Array.getElem?_eq_getElem (show p < z.cps.size from hlt)⟩
        have hcl := cps_at hc
        have hc128 := h128 c (List.mem_of_getElem? hcl)
        cases n with
        | zero =>
          exfalso
          rw [cutR, if_pos (by rw [hzl]; exact hlt)] at hC
          cases hC
        | succ n =>
          rw [cutR, hcl] at hC
          dsimp only at hC
          refine ⟨_, rfl, _, rfl, z, (p : Int), c, rfl, rfl, by omega, by omega, by omega, by rw [Int.toNat_natCast]; exact hc, ?_⟩
          refine ⟨_, rfl, c, marksText, rfl, rfl, _, rfl, ?_⟩
          by_cases hmk : c ∈ marksText.cps.toList
          · rw [decide_eq_true hmk]
            refine iteT ?_
            have hm : c ∈ marks := by rw [← marksText_codes]; exact hmk
            obtain ⟨m1, m2, m3, h32⟩ := mark_no c hm
            refine ⟨_, rfl, .inl ⟨rfl, _, SqL.of hL⟩, _, rfl, _, rfl, _, rfl, _, _, rfl, rfl, (by show 4 ≤ sizeLine; decide), fun T nT => ?_⟩
            refine ⟨L, _, _, rfl, rfl, same_new nT _ _ hL, by rw [List.length_map, hTl]; exact szl (by omega), ?_⟩

            obtain ⟨a1, a2, a3, a4⟩ := app_facts (w := (("mark" : Str), [c], p, p + 1)) (vals := [V.str ("mark" : Str), .str ⟨#[c]⟩, .int (p : Nat), .int ((p : Nat) + 1 : Int)]) sm nL hL hT nT rfl
            have okn : WsOk (dn ++ [(("mark" : Str), [c], p, p + 1)]) := fun x hx => by
              rcases List.mem_append.mp hx with hx | hx
              · exact hok x hx
              · rw [List.mem_singleton.mp hx]
                exact ⟨by show ∀ c ∈ ("mark" : Str).cps.toList, c < 128; decide +kernel, fun d hd => by rw [List.mem_singleton.mp hd]; exact hc128⟩
            have hmap : Ts.map V.ref ++ [V.ref T] = (Ts ++ [T]).map V.ref := by rw [List.map_append]; rfl
            have hwa : wordAt z.cps.toList p = some ((("mark" : Str), [c], p, p + 1).1, (("mark" : Str), [c], p, p + 1).2.1, (("mark" : Str), [c], p, p + 1).2.2.2) := by unfold wordAt; rw [hcl]; dsimp only; rw [if_neg (by rw [m1]; exact Bool.false_ne_true), if_neg m2, if_neg m3, if_pos hm]
            have hlt' := wordAt_lt hwa
            have hle' : (("mark" : Str), [c], p, p + 1).2.2.2 ≤ z.length := (by show p + 1 ≤ z.length; omega)
            rw [if_neg h32, hwa] at hC
            obtain ⟨r2, hr1, hr2⟩ := Option.map_eq_some_iff.mp hC
            generalize (upd (upd H' T (.tup [V.str ("mark" : Str), .str ⟨#[c]⟩, .int (p : Nat), .int ((p : Nat) + 1 : Int)])) L (.lst (Ts.map V.ref ++ [V.ref T]))) = Hx at a1 a2 a3 a4 ⊢
            refine ⟨_, rfl, _, _, rfl, rfl, ?_⟩
            refine ⟨_, rfl, Nat.zero_le _, fun p0 np0 => ?_⟩
            have s0 := same_new (o := .lst []) np0
            have b2 := s0 _ _ a2
            have b4 := s0 _ _ a4
            have b3 : TupsAt H (upd Hx p0 (.lst [])) (Ts ++ [T]) (dn ++ [(("mark" : Str), [c], p, p + 1)]) := a3.same fun T' x _ h => s0 _ _ h
            refine ⟨_, _, .lst (SqL.of (by rw [b2, hmap])) (ws_dp b3), .lst (SqL.of upd_same) .nil, ws_shaped okn, by decide +kernel, _, rfl, ?_⟩
            rw [eqv_nil, show (wsD (dn ++ [(("mark" : Str), [c], p, p + 1)])).isEmpty = false from by unfold wsD; rw [List.map_append]; cases (dn.map _) <;> rfl]
            refine iteT ?_
            refine ⟨_, rfl, 1, rfl, L, _, -1, .ref T, rfl, rfl, SqL.of b2, atI_last _ _, T, _, 2, .int (p : Nat), rfl, rfl, SqT.of b4, rfl, _, rfl, _, _, rfl, rfl, rfl, _, rfl, ?_⟩
            rw [show decide (V.int ((p : Nat) : Int) = V.int (((p : Nat) : Int) + 1 - 1)) = true from decide_eq_true (congrArg V.int (by omega))]
            refine iteT ?_
            refine ⟨_, rfl, 1, rfl, L, _, -1, .ref T, rfl, rfl, SqL.of b2, atI_last _ _, T, _, 3, .int ((("mark" : Str), [c], p, p + 1).2.2.2 : Nat), rfl, rfl, SqT.of b4, rfl, ?_⟩
            refine ⟨(("mark" : Str), [c], p, p + 1).2.2.2, Ts ++ [T], dn ++ [(("mark" : Str), [c], p, p + 1)], _, r2, _, _, _, rfl, a1.trans s0, by rw [b2, hmap], b3, okn, by rw [List.length_append, List.length_singleton]; omega, hle', fun x hx => ?_, hr1, ?_, hlt'⟩
            · rcases List.mem_append.mp hx with hx | hx
              · have := hbg x hx
                omega
              · rw [List.mem_singleton.mp hx]
                exact hlt'
            · rw [hG, ← hr2]
              exact glue_more dn (("mark" : Str), [c], p, p + 1) r2
          · rw [decide_eq_false hmk]
            refine iteF ?_
            have hnm : c ∉ marks := fun h => hmk (by rw [marksText_codes]; exact h)
            refine ⟨_, rfl, _, rfl, c, atoms6, rfl, rfl, _, rfl, ?_⟩
            rw [atoms6_is c hc128]
            cases hat : isAtm c with
            | true =>
              refine iteT ?_
              have h32 : c ≠ 32 := fun e => by rw [e] at hat; exact absurd hat (by decide)
              have hae : atomEnd z.cps.toList p ≤ z.length := by
                have := atomEnd_le (l := z.cps.toList) (b := p) (by rw [hzl]; omega)
                rw [hzl] at this
                exact this
              refine ⟨_, rfl, ?_⟩
              refine ⟨fun m σ H'' => ∃ e : Nat, σ = [some (.str z), some (.str atoms6), some (.ref L), some (.int (p : Nat)), some (.str ⟨#[c]⟩), some (.int (e : Nat)), y6] ∧ H'' = H' ∧ e ≤ z.length ∧ atomEnd z.cps.toList p = atomEnd z.cps.toList e ∧ m = z.length - e, ⟨_, p, rfl, rfl, by omega, rfl, rfl⟩, fun m σ H'' hW => ?_⟩
              obtain ⟨e, rfl, hh, he, hE, rfl⟩ := hW
              replace hh := hh.symm
              subst hh
              refine ⟨_, rfl, _, rfl, z, rfl, hzs, _, _, rfl, rfl, _, rfl, ?_⟩
              by_cases hel : e < z.length
              · rw [decide_eq_true (by omega : (e : Int) < (z.length : Int))]
                obtain ⟨d, hd⟩ : ∃ d, z.cps[e]? = some d := ⟨_, Array.getElem?_eq_getElem (show e < z.cps.size from hel)⟩
                have hdl := cps_at hd
                refine iteT ?_
                refine ⟨_, rfl, _, rfl, z, (e : Int), d, rfl, rfl, by omega, by omega, by omega, by rw [Int.toNat_natCast]; exact hd, _, rfl, d, atoms6, rfl, rfl, _, rfl, ?_⟩
                rw [atoms6_is d (h128 d (List.mem_of_getElem? hdl))]
                cases had : isAtm d with
                | true =>
                  refine iteT ⟨fun σ' H'' => ∃ e' : Nat, σ' = [some (.str z), some (.str atoms6), some (.ref L), some (.int (p : Nat)), some (.str ⟨#[c]⟩), some (.int (e' : Nat)), y6] ∧ H'' = H' ∧ e' = e + 1, fun σ' H'' hN => ?_, ?_⟩
                  · obtain ⟨e', rfl, rfl, rfl⟩ := hN
                    exact ⟨_, (by omega : z.length - (e + 1) < z.length - e), e + 1, rfl, rfl, hel, by rw [hE, atomEnd_step hdl had], rfl⟩
                  · exact ⟨_, rfl, _, _, rfl, rfl, e + 1, rfl, rfl, rfl⟩
                | false =>
                  refine iteF ?_
                  have hee : atomEnd z.cps.toList p = e := by rw [hE, atomEnd_stop hdl had]
                  subst hee
                  have hcutA : cutS z (some ((p : Nat) : Int)) (some ((atomEnd z.cps.toList p : Nat) : Int)) = mk ((z.cps.toList.drop p).takeWhile isAtm) := mk_eq (by
                    rw [cutS_nat z (by omega) hae]
                    have e1 : atomEnd z.cps.toList p - p = ((z.cps.toList.drop p).takeWhile isAtm).length := by unfold atomEnd; omega
                    rw [e1]
                    exact (List.prefix_iff_eq_take.mp (List.takeWhile_prefix ..)).symm)
                  refine ⟨_, rfl, .inl ⟨rfl, _, SqL.of hL⟩, _, rfl, _, rfl, _, rfl, _, rfl, _, rfl, z, rfl, hzs, _, rfl, _, rfl, (by show 4 ≤ sizeLine; decide), fun T nT => ?_⟩
                  refine ⟨L, _, _, rfl, rfl, same_new nT _ _ hL, by rw [List.length_map, hTl]; exact szl (by omega), ?_⟩

                  obtain ⟨a1, a2, a3, a4⟩ := app_facts (w := (("atom" : Str), (z.cps.toList.drop p).takeWhile isAtm, p, atomEnd z.cps.toList p)) (vals := [V.str ("atom" : Str), .str (cutS z (some ((p : Nat) : Int)) (some ((atomEnd z.cps.toList p : Nat) : Int))), .int (p : Nat), .int (atomEnd z.cps.toList p : Nat)]) sm nL hL hT nT (by rw [hcutA]; rfl)
                  have okn : WsOk (dn ++ [(("atom" : Str), (z.cps.toList.drop p).takeWhile isAtm, p, atomEnd z.cps.toList p)]) := fun x hx => by
                    rcases List.mem_append.mp hx with hx | hx
                    · exact hok x hx
                    · rw [List.mem_singleton.mp hx]
                      exact ⟨by show ∀ c ∈ ("atom" : Str).cps.toList, c < 128; decide +kernel, fun d hd => h128 d (List.mem_of_mem_drop ((List.takeWhile_prefix isAtm).subset hd))⟩
                  have hmap : Ts.map V.ref ++ [V.ref T] = (Ts ++ [T]).map V.ref := by rw [List.map_append]; rfl
                  have hwa : wordAt z.cps.toList p = some ((("atom" : Str), (z.cps.toList.drop p).takeWhile isAtm, p, atomEnd z.cps.toList p).1, (("atom" : Str), (z.cps.toList.drop p).takeWhile isAtm, p, atomEnd z.cps.toList p).2.1, (("atom" : Str), (z.cps.toList.drop p).takeWhile isAtm, p, atomEnd z.cps.toList p).2.2.2) := by unfold wordAt; rw [hcl]; dsimp only; rw [if_pos hat]
                  have hlt' := wordAt_lt hwa
                  have hle' : (("atom" : Str), (z.cps.toList.drop p).takeWhile isAtm, p, atomEnd z.cps.toList p).2.2.2 ≤ z.length := hae
                  rw [if_neg h32, hwa] at hC
                  obtain ⟨r2, hr1, hr2⟩ := Option.map_eq_some_iff.mp hC
                  generalize (upd (upd H' T (.tup [V.str ("atom" : Str), .str (cutS z (some ((p : Nat) : Int)) (some ((atomEnd z.cps.toList p : Nat) : Int))), .int (p : Nat), .int (atomEnd z.cps.toList p : Nat)])) L (.lst (Ts.map V.ref ++ [V.ref T]))) = Hx at a1 a2 a3 a4 ⊢
                  refine ⟨_, rfl, _, _, rfl, rfl, ?_⟩
                  refine ⟨_, rfl, Nat.zero_le _, fun p0 np0 => ?_⟩
                  have s0 := same_new (o := .lst []) np0
                  have b2 := s0 _ _ a2
                  have b4 := s0 _ _ a4
                  have b3 : TupsAt H (upd Hx p0 (.lst [])) (Ts ++ [T]) (dn ++ [(("atom" : Str), (z.cps.toList.drop p).takeWhile isAtm, p, atomEnd z.cps.toList p)]) := a3.same fun T' x _ h => s0 _ _ h
                  refine ⟨_, _, .lst (SqL.of (by rw [b2, hmap])) (ws_dp b3), .lst (SqL.of upd_same) .nil, ws_shaped okn, by decide +kernel, _, rfl, ?_⟩
                  rw [eqv_nil, show (wsD (dn ++ [(("atom" : Str), (z.cps.toList.drop p).takeWhile isAtm, p, atomEnd z.cps.toList p)])).isEmpty = false from by unfold wsD; rw [List.map_append]; cases (dn.map _) <;> rfl]
                  refine iteT ?_
                  refine ⟨_, rfl, 1, rfl, L, _, -1, .ref T, rfl, rfl, SqL.of b2, atI_last _ _, T, _, 2, .int (p : Nat), rfl, rfl, SqT.of b4, rfl, _, rfl, _, _, rfl, rfl, rfl, _, rfl, ?_⟩
                  rw [show decide (V.int ((p : Nat) : Int) = V.int (((p : Nat) : Int) + 1 - 1)) = true from decide_eq_true (congrArg V.int (by omega))]
                  refine iteT ?_
                  refine ⟨_, rfl, 1, rfl, L, _, -1, .ref T, rfl, rfl, SqL.of b2, atI_last _ _, T, _, 3, .int ((("atom" : Str), (z.cps.toList.drop p).takeWhile isAtm, p, atomEnd z.cps.toList p).2.2.2 : Nat), rfl, rfl, SqT.of b4, rfl, ?_⟩
                  refine ⟨(("atom" : Str), (z.cps.toList.drop p).takeWhile isAtm, p, atomEnd z.cps.toList p).2.2.2, Ts ++ [T], dn ++ [(("atom" : Str), (z.cps.toList.drop p).takeWhile isAtm, p, atomEnd z.cps.toList p)], _, r2, _, _, _, rfl, a1.trans s0, by rw [b2, hmap], b3, okn, by rw [List.length_append, List.length_singleton]; omega, hle', fun x hx => ?_, hr1, ?_, hlt'⟩
                  · rcases List.mem_append.mp hx with hx | hx
                    · have := hbg x hx
                      omega
                    · rw [List.mem_singleton.mp hx]
                      exact hlt'
                  · rw [hG, ← hr2]
                    exact glue_more dn (("atom" : Str), (z.cps.toList.drop p).takeWhile isAtm, p, atomEnd z.cps.toList p) r2
              · rw [decide_eq_false (by omega : ¬ (e : Int) < (z.length : Int))]
                refine iteF (iteF ?_)
                have hee : atomEnd z.cps.toList p = e := by rw [hE, atomEnd_end (by omega)]
                subst hee
                have hcutA : cutS z (some ((p : Nat) : Int)) (some ((atomEnd z.cps.toList p : Nat) : Int)) = mk ((z.cps.toList.drop p).takeWhile isAtm) := mk_eq (by
                  rw [cutS_nat z (by omega) hae]
                  have e1 : atomEnd z.cps.toList p - p = ((z.cps.toList.drop p).takeWhile isAtm).length := by unfold atomEnd; omega
                  rw [e1]
                  exact (List.prefix_iff_eq_take.mp (List.takeWhile_prefix ..)).symm)
                refine ⟨_, rfl, .inl ⟨rfl, _, SqL.of hL⟩, _, rfl, _, rfl, _, rfl, _, rfl, _, rfl, z, rfl, hzs, _, rfl, _, rfl, (by show 4 ≤ sizeLine; decide), fun T nT => ?_⟩
                refine ⟨L, _, _, rfl, rfl, same_new nT _ _ hL, by rw [List.length_map, hTl]; exact szl (by omega), ?_⟩

                obtain ⟨a1, a2, a3, a4⟩ := app_facts (w := (("atom" : Str), (z.cps.toList.drop p).takeWhile isAtm, p, atomEnd z.cps.toList p)) (vals := [V.str ("atom" : Str), .str (cutS z (some ((p : Nat) : Int)) (some ((atomEnd z.cps.toList p : Nat) : Int))), .int (p : Nat), .int (atomEnd z.cps.toList p : Nat)]) sm nL hL hT nT (by rw [hcutA]; rfl)
                have okn : WsOk (dn ++ [(("atom" : Str), (z.cps.toList.drop p).takeWhile isAtm, p, atomEnd z.cps.toList p)]) := fun x hx => by
                  rcases List.mem_append.mp hx with hx | hx
                  · exact hok x hx
                  · rw [List.mem_singleton.mp hx]
                    exact ⟨by show ∀ c ∈ ("atom" : Str).cps.toList, c < 128; decide +kernel, fun d hd => h128 d (List.mem_of_mem_drop ((List.takeWhile_prefix isAtm).subset hd))⟩
                have hmap : Ts.map V.ref ++ [V.ref T] = (Ts ++ [T]).map V.ref := by rw [List.map_append]; rfl
                have hwa : wordAt z.cps.toList p = some ((("atom" : Str), (z.cps.toList.drop p).takeWhile isAtm, p, atomEnd z.cps.toList p).1, (("atom" : Str), (z.cps.toList.drop p).takeWhile isAtm, p, atomEnd z.cps.toList p).2.1, (("atom" : Str), (z.cps.toList.drop p).takeWhile isAtm, p, atomEnd z.cps.toList p).2.2.2) := by unfold wordAt; rw [hcl]; dsimp only; rw [if_pos hat]
                have hlt' := wordAt_lt hwa
                have hle' : (("atom" : Str), (z.cps.toList.drop p).takeWhile isAtm, p, atomEnd z.cps.toList p).2.2.2 ≤ z.length := hae
                rw [if_neg h32, hwa] at hC
                obtain ⟨r2, hr1, hr2⟩ := Option.map_eq_some_iff.mp hC
                generalize (upd (upd H' T (.tup [V.str ("atom" : Str), .str (cutS z (some ((p : Nat) : Int)) (some ((atomEnd z.cps.toList p : Nat) : Int))), .int (p : Nat), .int (atomEnd z.cps.toList p : Nat)])) L (.lst (Ts.map V.ref ++ [V.ref T]))) = Hx at a1 a2 a3 a4 ⊢
                refine ⟨_, rfl, _, _, rfl, rfl, ?_⟩
                refine ⟨_, rfl, Nat.zero_le _, fun p0 np0 => ?_⟩
                have s0 := same_new (o := .lst []) np0
                have b2 := s0 _ _ a2
                have b4 := s0 _ _ a4
                have b3 : TupsAt H (upd Hx p0 (.lst [])) (Ts ++ [T]) (dn ++ [(("atom" : Str), (z.cps.toList.drop p).takeWhile isAtm, p, atomEnd z.cps.toList p)]) := a3.same fun T' x _ h => s0 _ _ h
                refine ⟨_, _, .lst (SqL.of (by rw [b2, hmap])) (ws_dp b3), .lst (SqL.of upd_same) .nil, ws_shaped okn, by decide +kernel, _, rfl, ?_⟩
                rw [eqv_nil, show (wsD (dn ++ [(("atom" : Str), (z.cps.toList.drop p).takeWhile isAtm, p, atomEnd z.cps.toList p)])).isEmpty = false from by unfold wsD; rw [List.map_append]; cases (dn.map _) <;> rfl]
                refine iteT ?_
                refine ⟨_, rfl, 1, rfl, L, _, -1, .ref T, rfl, rfl, SqL.of b2, atI_last _ _, T, _, 2, .int (p : Nat), rfl, rfl, SqT.of b4, rfl, _, rfl, _, _, rfl, rfl, rfl, _, rfl, ?_⟩
                rw [show decide (V.int ((p : Nat) : Int) = V.int (((p : Nat) : Int) + 1 - 1)) = true from decide_eq_true (congrArg V.int (by omega))]
                refine iteT ?_
                refine ⟨_, rfl, 1, rfl, L, _, -1, .ref T, rfl, rfl, SqL.of b2, atI_last _ _, T, _, 3, .int ((("atom" : Str), (z.cps.toList.drop p).takeWhile isAtm, p, atomEnd z.cps.toList p).2.2.2 : Nat), rfl, rfl, SqT.of b4, rfl, ?_⟩
                refine ⟨(("atom" : Str), (z.cps.toList.drop p).takeWhile isAtm, p, atomEnd z.cps.toList p).2.2.2, Ts ++ [T], dn ++ [(("atom" : Str), (z.cps.toList.drop p).takeWhile isAtm, p, atomEnd z.cps.toList p)], _, r2, _, _, _, rfl, a1.trans s0, by rw [b2, hmap], b3, okn, by rw [List.length_append, List.length_singleton]; omega, hle', fun x hx => ?_, hr1, ?_, hlt'⟩
                · rcases List.mem_append.mp hx with hx | hx
                  · have := hbg x hx
                    omega
                  · rw [List.mem_singleton.mp hx]
                    exact hlt'
                · rw [hG, ← hr2]
                  exact glue_more dn (("atom" : Str), (z.cps.toList.drop p).takeWhile isAtm, p, atomEnd z.cps.toList p) r2
            | false =>
              refine iteF ?_
              refine ⟨_, rfl, rfl, _, rfl, ?_⟩
              rw [show decide (V.str ⟨#[c]⟩ = V.str ("\"" : Str)) = decide (c = 34) from sign_is rfl]
              by_cases h34 : c = 34
              · rw [decide_eq_true h34]
                subst h34
                refine iteT ?_
                have h32 : (34 : Nat) ≠ 32 := by decide
                refine ⟨_, rfl, _, rfl, z, p, rfl, by omega, hlt, fun t e hq H2 T2 s2 n2 h2 => ?_, fun hq H2 s2 => ?_⟩
                · refine ⟨_, rfl, rfl, _, rfl, ?_⟩
                  rw [show decide (V.ref T2 = V.non) = false from decide_eq_false (fun h => by cases h)]
                  refine iteF ?_
                  have he1 := quo_hi _ _ _ _ _ hq
                  rw [List.length_drop, hzl] at he1
                  have sm := sm.trans s2
                  have hL := s2 _ _ hL
                  have hT : TupsAt H H2 Ts dn := TupsAt.same hT fun T' x _ h => s2 _ _ h

                  refine ⟨_, rfl, .inl ⟨rfl, _, SqL.of hL⟩, _, rfl, T2, _, 0, _, rfl, rfl, SqT.of h2, rfl, _, rfl, _, rfl, T2, _, 1, _, rfl, rfl, SqT.of h2, rfl, (by show 4 ≤ sizeLine; decide), fun T nT => ?_⟩
                  refine ⟨L, _, _, rfl, rfl, same_new nT _ _ hL, by rw [List.length_map, hTl]; exact szl (by omega), ?_⟩
                  obtain ⟨a1, a2, a3, a4⟩ := app_facts (w := (("quoted" : Str), t, p, e)) (vals := [V.str ("quoted" : Str), .str (mk t), .int (p : Nat), .int (e : Nat)]) sm nL hL hT nT rfl
                  have okn : WsOk (dn ++ [(("quoted" : Str), t, p, e)]) := fun x hx => by
                    rcases List.mem_append.mp hx with hx | hx
                    · exact hok x hx
                    · rw [List.mem_singleton.mp hx]
                      exact ⟨by show ∀ c ∈ ("quoted" : Str).cps.toList, c < 128; decide +kernel, fun d hd => h128 d ((quo_mem _ _ _ _ _ hq d hd).elim (fun h => by cases h) (fun h => List.mem_of_mem_drop h))⟩
                  have hmap : Ts.map V.ref ++ [V.ref T] = (Ts ++ [T]).map V.ref := by rw [List.map_append]; rfl
                  have hwa : wordAt z.cps.toList p = some ((("quoted" : Str), t, p, e).1, (("quoted" : Str), t, p, e).2.1, (("quoted" : Str), t, p, e).2.2.2) := by unfold wordAt; rw [hcl]; dsimp only; rw [if_neg (by rw [hat]; exact Bool.false_ne_true), if_pos rfl, hq]; rfl
                  have hlt' := wordAt_lt hwa
                  have hle' : (("quoted" : Str), t, p, e).2.2.2 ≤ z.length := (by show e ≤ z.length; omega)
                  rw [if_neg h32, hwa] at hC
                  obtain ⟨r2, hr1, hr2⟩ := Option.map_eq_some_iff.mp hC
                  generalize (upd (upd H2 T (.tup [V.str ("quoted" : Str), .str (mk t), .int (p : Nat), .int (e : Nat)])) L (.lst (Ts.map V.ref ++ [V.ref T]))) = Hx at a1 a2 a3 a4 ⊢
                  refine ⟨_, rfl, _, _, rfl, rfl, ?_⟩
                  refine ⟨_, rfl, Nat.zero_le _, fun p0 np0 => ?_⟩
                  have s0 := same_new (o := .lst []) np0
                  have b2 := s0 _ _ a2
                  have b4 := s0 _ _ a4
                  have b3 : TupsAt H (upd Hx p0 (.lst [])) (Ts ++ [T]) (dn ++ [(("quoted" : Str), t, p, e)]) := a3.same fun T' x _ h => s0 _ _ h
                  refine ⟨_, _, .lst (SqL.of (by rw [b2, hmap])) (ws_dp b3), .lst (SqL.of upd_same) .nil, ws_shaped okn, by decide +kernel, _, rfl, ?_⟩
                  rw [eqv_nil, show (wsD (dn ++ [(("quoted" : Str), t, p, e)])).isEmpty = false from by unfold wsD; rw [List.map_append]; cases (dn.map _) <;> rfl]
                  refine iteT ?_
                  refine ⟨_, rfl, 1, rfl, L, _, -1, .ref T, rfl, rfl, SqL.of b2, atI_last _ _, T, _, 2, .int (p : Nat), rfl, rfl, SqT.of b4, rfl, _, rfl, _, _, rfl, rfl, rfl, _, rfl, ?_⟩
                  rw [show decide (V.int ((p : Nat) : Int) = V.int (((p : Nat) : Int) + 1 - 1)) = true from decide_eq_true (congrArg V.int (by omega))]
                  refine iteT ?_
                  refine ⟨_, rfl, 1, rfl, L, _, -1, .ref T, rfl, rfl, SqL.of b2, atI_last _ _, T, _, 3, .int ((("quoted" : Str), t, p, e).2.2.2 : Nat), rfl, rfl, SqT.of b4, rfl, ?_⟩
                  refine ⟨(("quoted" : Str), t, p, e).2.2.2, Ts ++ [T], dn ++ [(("quoted" : Str), t, p, e)], _, r2, _, _, _, rfl, a1.trans s0, by rw [b2, hmap], b3, okn, by rw [List.length_append, List.length_singleton]; omega, hle', fun x hx => ?_, hr1, ?_, hlt'⟩
                  · rcases List.mem_append.mp hx with hx | hx
                    · have := hbg x hx
                      omega
                    · rw [List.mem_singleton.mp hx]
                      exact hlt'
                  · rw [hG, ← hr2]
                    exact glue_more dn (("quoted" : Str), t, p, e) r2
                · refine ⟨_, rfl, rfl, _, rfl, ?_⟩
                  rw [show decide (V.non = V.non) = true from decide_eq_true rfl]
                  refine iteT ⟨_, rfl, ?_⟩
                  have hwn : wordAt z.cps.toList p = none := by
                    unfold wordAt
                    rw [hcl]
                    dsimp only
                    rw [if_neg (by rw [hat]; exact Bool.false_ne_true), if_pos rfl, hq]
                    rfl
                  rw [if_neg h32, hwn] at hC
                  injection hC with hC
                  rw [← hC] at hG
                  exact qe p hG _ (sm.trans s2)
              · rw [decide_eq_false h34]
                refine iteF ?_
                refine ⟨_, rfl, rfl, _, rfl, ?_⟩
                rw [show decide (V.str ⟨#[c]⟩ = V.str ("(" : Str)) = decide (c = 40) from sign_is rfl]
                by_cases h40 : c = 40
                · rw [decide_eq_true h40]
                  subst h40
                  refine iteT ?_
                  have h32 : (40 : Nat) ≠ 32 := by decide
                  refine ⟨_, rfl, _, rfl, z, p, rfl, by omega, hcl, fun e hq H2 s2 => ?_, fun hq H2 s2 => ?_⟩
                  · refine ⟨_, rfl, rfl, _, rfl, ?_⟩
                    rw [show decide (V.int ((e + 1 : Nat) : Int) = V.non) = false from decide_eq_false (fun h => by cases h)]
                    refine iteF ?_
                    have he1 := rem_hi _ _ _ _ hq
                    rw [List.length_drop, hzl] at he1
                    have hwa0 : wordAt z.cps.toList p = some (("remark" : Str), (z.cps.toList.drop (p + 1)).take (e - (p + 1)), e + 1) := by
                      unfold wordAt
                      rw [hcl]
                      dsimp only
                      rw [if_neg (by rw [hat]; exact Bool.false_ne_true), if_neg (by decide), if_pos rfl, hq]
                      rfl
                    have hge : p + 1 ≤ e + 1 := wordAt_lt hwa0
                    have sm := sm.trans s2
                    have hL := s2 _ _ hL
                    have hT : TupsAt H H2 Ts dn := TupsAt.same hT fun T' x _ h => s2 _ _ h

                    have hcutR : cutS z (some ((p : Nat) + 1 : Int)) (some (((e + 1 : Nat) : Int) - 1)) = mk ((z.cps.toList.drop (p + 1)).take (e - (p + 1))) := by
                      rw [show (((e + 1 : Nat) : Int) - 1) = ((e : Nat) : Int) by omega]
                      exact mk_eq (cutS_nat z (i := p + 1) (by omega) (by omega))
                    refine ⟨_, rfl, .inl ⟨rfl, _, SqL.of hL⟩, _, rfl, _, rfl, _, _, rfl, rfl, _, rfl, _, rfl, _, _, rfl, rfl, _, rfl, z, rfl, hzs, _, rfl, _, rfl, (by show 4 ≤ sizeLine; decide), fun T nT => ?_⟩
                    refine ⟨L, _, _, rfl, rfl, same_new nT _ _ hL, by rw [List.length_map, hTl]; exact szl (by omega), ?_⟩
                    obtain ⟨a1, a2, a3, a4⟩ := app_facts (w := (("remark" : Str), (z.cps.toList.drop (p + 1)).take (e - (p + 1)), p, e + 1)) (vals := [V.str ("remark" : Str), .str (cutS z (some ((p : Nat) + 1 : Int)) (some (((e + 1 : Nat) : Int) - 1))), .int (p : Nat), .int ((e + 1 : Nat) : Int)]) sm nL hL hT nT (by rw [hcutR]; rfl)
                    have okn : WsOk (dn ++ [(("remark" : Str), (z.cps.toList.drop (p + 1)).take (e - (p + 1)), p, e + 1)]) := fun x hx => by
                      rcases List.mem_append.mp hx with hx | hx
                      · exact hok x hx
                      · rw [List.mem_singleton.mp hx]
                        exact ⟨by show ∀ c ∈ ("remark" : Str).cps.toList, c < 128; decide +kernel, fun d hd => h128 d (List.mem_of_mem_drop (List.mem_of_mem_take hd))⟩
                    have hmap : Ts.map V.ref ++ [V.ref T] = (Ts ++ [T]).map V.ref := by rw [List.map_append]; rfl
                    have hwa : wordAt z.cps.toList p = some ((("remark" : Str), (z.cps.toList.drop (p + 1)).take (e - (p + 1)), p, e + 1).1, (("remark" : Str), (z.cps.toList.drop (p + 1)).take (e - (p + 1)), p, e + 1).2.1, (("remark" : Str), (z.cps.toList.drop (p + 1)).take (e - (p + 1)), p, e + 1).2.2.2) := hwa0
                    have hlt' := wordAt_lt hwa
                    have hle' : (("remark" : Str), (z.cps.toList.drop (p + 1)).take (e - (p + 1)), p, e + 1).2.2.2 ≤ z.length := (by show e + 1 ≤ z.length; omega)
                    rw [if_neg h32, hwa] at hC
                    obtain ⟨r2, hr1, hr2⟩ := Option.map_eq_some_iff.mp hC
                    generalize (upd (upd H2 T (.tup [V.str ("remark" : Str), .str (cutS z (some ((p : Nat) + 1 : Int)) (some (((e + 1 : Nat) : Int) - 1))), .int (p : Nat), .int ((e + 1 : Nat) : Int)])) L (.lst (Ts.map V.ref ++ [V.ref T]))) = Hx at a1 a2 a3 a4 ⊢
                    refine ⟨_, rfl, _, _, rfl, rfl, ?_⟩
                    refine ⟨_, rfl, Nat.zero_le _, fun p0 np0 => ?_⟩
                    have s0 := same_new (o := .lst []) np0
                    have b2 := s0 _ _ a2
                    have b4 := s0 _ _ a4
                    have b3 : TupsAt H (upd Hx p0 (.lst [])) (Ts ++ [T]) (dn ++ [(("remark" : Str), (z.cps.toList.drop (p + 1)).take (e - (p + 1)), p, e + 1)]) := a3.same fun T' x _ h => s0 _ _ h
                    refine ⟨_, _, .lst (SqL.of (by rw [b2, hmap])) (ws_dp b3), .lst (SqL.of upd_same) .nil, ws_shaped okn, by decide +kernel, _, rfl, ?_⟩
                    rw [eqv_nil, show (wsD (dn ++ [(("remark" : Str), (z.cps.toList.drop (p + 1)).take (e - (p + 1)), p, e + 1)])).isEmpty = false from by unfold wsD; rw [List.map_append]; cases (dn.map _) <;> rfl]
                    refine iteT ?_
                    refine ⟨_, rfl, 1, rfl, L, _, -1, .ref T, rfl, rfl, SqL.of b2, atI_last _ _, T, _, 2, .int (p : Nat), rfl, rfl, SqT.of b4, rfl, _, rfl, _, _, rfl, rfl, rfl, _, rfl, ?_⟩
                    rw [show decide (V.int ((p : Nat) : Int) = V.int (((p : Nat) : Int) + 1 - 1)) = true from decide_eq_true (congrArg V.int (by omega))]
                    refine iteT ?_
                    refine ⟨_, rfl, 1, rfl, L, _, -1, .ref T, rfl, rfl, SqL.of b2, atI_last _ _, T, _, 3, .int ((("remark" : Str), (z.cps.toList.drop (p + 1)).take (e - (p + 1)), p, e + 1).2.2.2 : Nat), rfl, rfl, SqT.of b4, rfl, ?_⟩
                    refine ⟨(("remark" : Str), (z.cps.toList.drop (p + 1)).take (e - (p + 1)), p, e + 1).2.2.2, Ts ++ [T], dn ++ [(("remark" : Str), (z.cps.toList.drop (p + 1)).take (e - (p + 1)), p, e + 1)], _, r2, _, _, _, rfl, a1.trans s0, by rw [b2, hmap], b3, okn, by rw [List.length_append, List.length_singleton]; omega, hle', fun x hx => ?_, hr1, ?_, hlt'⟩
                    · rcases List.mem_append.mp hx with hx | hx
                      · have := hbg x hx
                        omega
                      · rw [List.mem_singleton.mp hx]
                        exact hlt'
                    · rw [hG, ← hr2]
                      exact glue_more dn (("remark" : Str), (z.cps.toList.drop (p + 1)).take (e - (p + 1)), p, e + 1) r2
                  · refine ⟨_, rfl, rfl, _, rfl, ?_⟩
                    rw [show decide (V.non = V.non) = true from decide_eq_true rfl]
                    refine iteT ⟨_, rfl, ?_⟩
                    have hwn : wordAt z.cps.toList p = none := by
                      unfold wordAt
                      rw [hcl]
                      dsimp only
                      rw [if_neg (by rw [hat]; exact Bool.false_ne_true), if_neg (by decide), if_pos rfl, hq]
                      rfl
                    rw [if_neg h32, hwn] at hC
                    injection hC with hC
                    rw [← hC] at hG
                    exact qe p hG _ (sm.trans s2)
                · rw [decide_eq_false h40]
                  refine iteF ?_
                  have hwn : wordAt z.cps.toList p = none := by
                    unfold wordAt
                    rw [hcl]
                    dsimp only
                    rw [if_neg (by rw [hat]; exact Bool.false_ne_true), if_neg h34, if_neg h40, if_neg hnm]
                  refine ⟨_, rfl, rfl, _, rfl, ?_⟩
                  rw [show decide (V.str ⟨#[c]⟩ = V.str (" " : Str)) = decide (c = 32) from sign_is rfl]
                  by_cases h32 : c = 32
                  · rw [decide_eq_true h32]
                    refine iteF ?_
                    rw [if_pos h32] at hC
                    refine ⟨_, rfl, _, _, rfl, rfl, ?_⟩
                    refine ⟨_, rfl, Nat.zero_le _, fun p0 np0 => ?_⟩
                    have s0 := same_new (o := .lst []) np0
                    have b2 := s0 _ _ hL
                    have b3 : TupsAt H (upd H' p0 (.lst [])) Ts dn := TupsAt.same hT fun T' x _ h => s0 _ _ h
                    refine ⟨_, _, .lst (SqL.of b2) (ws_dp b3), .lst (SqL.of upd_same) .nil, ws_shaped hok, by decide +kernel, _, rfl, ?_⟩
                    rw [eqv_nil]
                    have done : ∀ y4 y5 y6 : Option V, ∃ (p' : Nat) (Ts : List Addr) (dn : List Wd) (n : Nat) (r : Except Nat (List Wd)) (z4 z5 z6 : Option V), [some (.str z), some (.str atoms6), some (.ref L), some (.int ((p : Nat) + 1 : Int)), y4, y5, y6] = [some (.str z), some (.str atoms6), some (.ref L), some (.int (p' : Nat)), z4, z5, z6] ∧ Same H (upd H' p0 (.lst [])) ∧ (upd H' p0 (.lst [])) L = some (.lst (Ts.map V.ref)) ∧ TupsAt H (upd H' p0 (.lst [])) Ts dn ∧ WsOk dn ∧ dn.length ≤ p' ∧ p' ≤ z.length ∧ (∀ x ∈ dn, x.2.2.1 < p') ∧ cutR z.cps.toList n p' = some r ∧ R = glue dn r ∧ p < p' := fun y4 y5 y6 =>
                      ⟨p + 1, Ts, dn, n, r, y4, y5, y6, rfl, sm.trans s0, b2, b3, hok, by omega, hlt, fun x hx => by have := hbg x hx; omega, hC, hG, Nat.lt_succ_self _⟩
                    by_cases hdn0 : dn = []
                    · rw [show (wsD dn).isEmpty = true from by rw [hdn0]; rfl]
                      exact iteF (iteF (done _ _ _))
                    · rw [show (wsD dn).isEmpty = false from by cases dn with
                        | nil => exact absurd rfl hdn0
                        | cons => rfl]
                      refine iteT ?_
                      have hsn : dn = dn.dropLast ++ [dn.getLast hdn0] := (List.dropLast_concat_getLast hdn0).symm
                      have b3' := b3
                      rw [hsn] at b3'
                      obtain ⟨Ts0, T, hTs, _, hTT⟩ := pairedW_last b3'
                      have hx0 := hbg _ (List.getLast_mem hdn0)
                      have hat2 : atI (Ts.map V.ref) (-1) = some (.ref T) := by
                        rw [hTs, List.map_append]
                        exact atI_last _ _
                      refine ⟨_, rfl, 1, rfl, L, _, -1, .ref T, rfl, rfl, SqL.of b2, hat2, T, _, 2, .int ((dn.getLast hdn0).2.2.1 : Nat), rfl, rfl, SqT.of hTT.2, rfl, _, rfl, _, _, rfl, rfl, rfl, _, rfl, ?_⟩
                      rw [show decide (V.int (((dn.getLast hdn0).2.2.1 : Nat) : Int) = V.int (((p : Nat) : Int) + 1 - 1)) = false from decide_eq_false (fun h => by injection h with h; omega)]
                      exact iteF (done _ _ _)
                  · rw [decide_eq_false h32]
                    refine iteT ⟨_, rfl, ?_⟩
                    rw [if_neg h32, hwn] at hC
                    injection hC with hC
                    rw [← hC] at hG
                    exact qe p hG _ sm
    · rw [decide_eq_false (by omega : ¬ (p : Int) < (z.length : Int))]
      refine iteF ⟨_, rfl, ?_⟩
      have hr0 : r = .ok [] := by
        have hnone : z.cps.toList[p]? = none := List.getElem?_eq_none (by omega)
        cases n with
        | zero =>
          rw [cutR, if_neg (by omega)] at hC
          injection hC with hC
          exact hC.symm
        | succ n =>
          rw [cutR, hnone] at hC
          injection hC with hC
          exact hC.symm
      rw [hr0] at hG
      have hR : R = .ok dn := by
        rw [hG]
        show Except.ok (dn ++ []) = _
        rw [List.append_nil]
      exact q dn hR hok (by omega) H' L Ts sm nL hL hT
end
end FL

namespace FL
open PySem PySem.Spec PyProof.Rows L2
theorem cut_total (l : List Nat) : ∀ (n p : Nat), l.length ≤ n + p → ∃ r, cutR l n p = some r
  | 0, p, hp => ⟨.ok [], by rw [cutR, if_neg (by omega)]⟩
  | n + 1, p, hp => by
    cases hc : l[p]? with
    | none => exact ⟨.ok [], by rw [cutR, hc]⟩
    | some c =>
      by_cases h32 : c = 32
      · obtain ⟨r, e⟩ := cut_total l n (p + 1) (by omega)
        exact ⟨r, by rw [cutR, hc]; dsimp only; rw [if_pos h32, e]⟩
      · cases hw : wordAt l p with
        | none => exact ⟨.error p, by rw [cutR, hc]; dsimp only; rw [if_neg h32, hw]⟩
        | some x =>
          obtain ⟨s, t, e⟩ := x
          have hlt := wordAt_lt hw
          obtain ⟨r, e2⟩ := cut_total l n e (by omega)
          exact ⟨_, by rw [cutR, hc]; dsimp only; rw [if_neg h32, hw]; dsimp only; rw [e2]; rfl⟩
theorem okA {a b : Str} (ha : ∀ c ∈ a.cps.toList, okS c = true) (hb : ∀ c ∈ b.cps.toList, okS c = true) : ∀ c ∈ (a ++ b).cps.toList, okS c = true := fun c hc => by
  rw [app_codes] at hc
  rcases List.mem_append.mp hc with hc | hc
  · exact ha c hc
  · exact hb c hc
def vsMenu : Str := " aab1\"\"(())\\\\<>@,;:[]=.-_?!#$&'*+/^`{|}~"
theorem vsMenu_ok : ∀ c ∈ vsMenu.cps.toList, okS c = true := by decide +kernel
def inMenu : Str := "ab <;=."
theorem inMenu_ok : ∀ c ∈ inMenu.cps.toList, okS c = true := by decide +kernel
def atMenu : Str := "ab1.-=?_"
theorem atMenu_ok : ∀ c ∈ atMenu.cps.toList, okS c = true := by decide +kernel
def gapMenu : List Str := [" ", "", "  "]
theorem gapMenu_ok : ∀ t ∈ gapMenu, (∀ c ∈ t.cps.toList, okS c = true) ∧ t.length ≤ 2 := by decide +kernel
section
variable {P : Program} {w : World} {K : PySem.W.Frag} {mg : Str → Option Value} {base : Heap}
def spVS : Sp := fun vs H Q _ => ∃ (a : Addr) (m : Nat), vs = [.ref a, .int (m : Nat)] ∧ m ≤ 100 ∧ Src H a ∧ ∀ (t : Str) H', (∀ c ∈ t.cps.toList, okS c = true) → t.length ≤ 200 → Drawn a H H' → Q (.str t) H'
theorem scVS : FnScope ["_law_source_here", "_law_many", "_law_signs_here"] ["_law_source_here", "_law_many"] (defScope sLawValueSigns) := ⟨rfl, rfl, rfl, by decide +kernel, rfl, by decide +kernel, by decide +kernel⟩
theorem r_vs (A : FnAt K mg "_law_value_signs" sLawValueSigns) (RS : Ready P w K mg base 3 "_law_signs" ["_law_source_here", "_law_signs_here", "_law_many"] spSigns) : Ready P w K mg base 4 "_law_value_signs" ["_law_source_here", "_law_many"] spVS := by
  obtain ⟨f1, fd1, g1, k1, b1, G1⟩ := RS
  refine ready_of A (fun _ _ _ _ _ _ us hl => match us, hl with | [_, _], _ => rfl) fun f fd F => ?_
  refine F.ok scVS (fun vs H Q E h => ?_) (fun cdv A outer s H vs Q E hr h => ?_)
  · obtain ⟨a, m, rfl, _⟩ := h
    rfl
  · obtain ⟨a, m, rfl, hm, hS, q⟩ := h
    have sc := scVS
    refine ⟨_, pss_cons (ps_set (i := 2) sc.nd rfl (.inl rfl) pe_str) (pss_one (ps_ret (pe_call G1 hr (by rfl) g1 k1 b1 .nil pass0 (pa_cons (pv 0) (pa_cons (pv 2) (pa_cons (pv 1) pa_nil)))))), ?_⟩
    refine ⟨_, rfl, _, rfl, _, rfl, a, vsMenu, m, rfl, by decide +kernel, by decide +kernel, by omega, hS, fun t H' h1 h2 d => q t H' (fun c hc => vsMenu_ok c (h1 c hc)) (by omega) d⟩
def spBuilt : Sp := fun vs H Q _ => ∃ a : Addr, vs = [.ref a] ∧ Src H a ∧ ∀ (t : Str) H', (∀ c ∈ t.cps.toList, okS c = true) → t.length ≤ 200 → Drawn a H H' → Q (.str t) H'
theorem scBuilt : FnScope ["_law_source_here", "_law_found", "_law_k", "_law_inner", "_law_told_here", "_law_some"] ["_law_source_here"] (defScope sLawBuilt) := ⟨rfl, rfl, rfl, by decide +kernel, rfl, by decide +kernel, by decide +kernel⟩
theorem r_built (A : FnAt K mg "_law_built" sLawBuilt) (RN : Ready P w K mg base 2 "_law_next" ["_law_source_here", "_law_many"] spNext) (RS : Ready P w K mg base 3 "_law_signs" ["_law_source_here", "_law_signs_here", "_law_many"] spSigns)
    (mr : mg "range" = none) : Ready P w K mg base 4 "_law_built" ["_law_source_here"] spBuilt := by
  obtain ⟨f1, fd1, g1, k1, b1, G1⟩ := RS
  obtain ⟨f2, fd2, g2, k2, b2, G2⟩ := RN
  refine ready_of A (fun _ _ _ _ _ _ us hl => match us, hl with | [_], _ => rfl) fun f fd F => ?_
  refine F.ok scBuilt (fun vs H Q E h => ?_) (fun cdv A outer s H vs Q E hr h => ?_)
  · obtain ⟨a, rfl, _⟩ := h
    rfl
  · obtain ⟨a, rfl, hS, q⟩ := h
    have sc := scBuilt
    have r2 : Room 2 _ := hr.mono (by decide)
    refine ⟨_, pss_cons (ps_set (i := 1) sc.nd rfl (.inl rfl) pe_str)
      (pss_cons (ps_for PassesOwn.never rfl (pi_range1 (by rfl) mr (pa_cons (pe_call G2 r2 (by rfl) g2 k2 b2 .nil pass0 (pa_cons (pv 0) (pa_cons pe_int pa_nil))) pa_nil)) (pg_name (i := 2) sc.nd rfl (.inl rfl))
        (pss_cons (ps_set (i := 3) sc.nd rfl (.inl rfl) (pe_call G1 hr (by rfl) g1 k1 b1 .nil pass0 (pa_cons (pv 0) (pa_cons pe_str (pa_cons (pe_call G2 r2 (by rfl) g2 k2 b2 .nil pass0 (pa_cons (pv 0) (pa_cons pe_int pa_nil))) pa_nil)))))
        (pss_cons (ps_set (i := 4) sc.nd rfl (.inl rfl) (pe_call G1 hr (by rfl) g1 k1 b1 .nil pass0 (pa_cons (pv 0) (pa_cons pe_str (pa_cons (pe_op op_add pe_int (pe_call G2 r2 (by rfl) g2 k2 b2 .nil pass0 (pa_cons (pv 0) (pa_cons pe_int pa_nil)))) pa_nil)))))
        (pss_cons (ps_set (i := 5) sc.nd rfl (.inl rfl) (pe_lst (pa_cons (pv 4) (pa_cons (pe_op op_add_str (pe_op op_add_str pe_str (pv 3)) pe_str) (pa_cons (pe_op op_add_str (pe_op op_add_str (pe_op op_add_str (pe_op op_add_str pe_str (pv 3)) pe_str) (pv 3)) pe_str)
          (pa_cons (pe_op op_add_str (pe_op op_add_str pe_str (pv 3)) pe_str) pa_nil))))))
        (pss_cons (ps_set (i := 5) sc.nd rfl (.inl rfl) (pe_op op_cat (pv 5) (pe_lst (pa_cons (pe_op op_add_str (pe_op op_add_str (pe_op op_add_str (pe_op op_add_str pe_str (pv 3)) pe_str) (pv 3)) pe_str) (pa_cons (pe_op op_add_str (pe_op op_add_str pe_str (pv 3)) pe_str)
          (pa_cons pe_str (pa_cons pe_str (pa_cons pe_str pa_nil))))))))
        (pss_one (ps_set (i := 1) sc.nd rfl (.inl rfl) (pe_op op_add_str (pe_op op_add_str (pv 1) (pe_ix ix_list (pe_lst (pa_cons pe_str (pa_cons pe_str (pa_cons pe_str pa_nil)))) (pe_call G2 r2 (by rfl) g2 k2 b2 .nil pass0 (pa_cons (pv 0) (pa_cons pe_int pa_nil))) (fun _ _ => rfl)))
          (pe_ix ix_list (pv 5) (pe_call G2 r2 (by rfl) g2 k2 b2 .nil pass0 (pa_cons (pv 0) (pa_cons pe_int pa_nil))) (fun _ _ => rfl)))))))))) 
      (pss_one (ps_ret (pv 1)))), ?_⟩
    have d0 : Drawn a H H := Drawn.refl hS
    obtain ⟨x, y, u, hx⟩ := hS
    refine ⟨_, rfl, a, 6, x, y, u, rfl, by decide, by decide, hx, fun nn x1 u1 hnn => ?_⟩
    have d1 := d0.trans (drawn_upd (x := x1) (y := y) (z := u1))
    refine ⟨(nn : Int), rfl, by omega, by omega, ?_⟩
    rw [Int.toNat_natCast]
    have q1 : ("\"" : Str).length = 1 := by decide +kernel
    have q2 : ("\\\"" : Str).length = 2 := by decide +kernel
    have q3 : ("(" : Str).length = 1 := by decide +kernel
    have q4 : (")" : Str).length = 1 := by decide +kernel
    have q5 : ("((" : Str).length = 2 := by decide +kernel
    have q6 : ("(\\)" : Str).length = 3 := by decide +kernel
    have o1 : ∀ c ∈ ("\"" : Str).cps.toList, okS c = true := by decide +kernel
    have o2 : ∀ c ∈ ("\\\"" : Str).cps.toList, okS c = true := by decide +kernel
    have o3 : ∀ c ∈ ("(" : Str).cps.toList, okS c = true := by decide +kernel
    have o4 : ∀ c ∈ (")" : Str).cps.toList, okS c = true := by decide +kernel
    have o5 : ∀ c ∈ ("((" : Str).cps.toList, okS c = true := by decide +kernel
    have o6 : ∀ c ∈ ("(\\)" : Str).cps.toList, okS c = true := by decide +kernel
    refine for_it walk_range (fun i σ H' => ∃ (t : Str) (y2 y3 y4 y5 : Option V), σ = [some (.ref a), some (.str t), y2, y3, y4, y5] ∧ Drawn a H H' ∧ (∀ c ∈ t.cps.toList, okS c = true) ∧ t.length ≤ 20 * i) ⟨("" : Str), none, none, none, none, rfl, d1, by decide +kernel, by decide +kernel⟩ (fun _ _ _ _ _ => trivial) (fun i xx σ H1 H2 hi hp hy => ?_) (fun σ H1 hp => ?_)
    · obtain ⟨t, y2, y3, y4, y5, rfl, dr, hok, hlen⟩ := hp
      obtain ⟨rfl, rfl⟩ := hy
      obtain ⟨x, y, u, hx⟩ := dr.src
      refine ⟨_, rfl, _, rfl, a, 5, x, y, u, rfl, by decide, by decide, hx, fun r1 x2 u2 hr1 => ?_⟩
      have d2 := dr.trans (drawn_upd (x := x2) (y := y) (z := u2))
      refine ⟨a, inMenu, r1, rfl, by decide +kernel, by decide +kernel, by omega, d2.src, fun inn H3 i1 i2 dd3 => ?_⟩
      have d3 := d2.trans dd3
      have oi : ∀ c ∈ inn.cps.toList, okS c = true := fun c hc => inMenu_ok c (i1 c hc)
      obtain ⟨x, y, u, hx⟩ := d3.src
      refine ⟨_, rfl, _, rfl, a, 5, x, y, u, rfl, by decide, by decide, hx, fun r2 x3 u3 hr2 => ?_⟩
      have d4 := d3.trans (drawn_upd (x := x3) (y := y) (z := u3))
      refine ⟨_, _, rfl, rfl, a, atMenu, 1 + r2, by show [V.ref a, .str atMenu, .int (1 + (r2 : Int))] = [V.ref a, .str atMenu, .int ((1 + r2 : Nat) : Int)]; rw [Int.natCast_add]; rfl, by decide +kernel, by decide +kernel, by omega, d4.src, fun tol H4 t1 t2 dd5 => ?_⟩
      have d5 := d4.trans dd5
      have ot : ∀ c ∈ tol.cps.toList, okS c = true := fun c hc => atMenu_ok c (t1 c hc)
      have sz : ∀ {n : Nat}, n ≤ 1000 → n ≤ sizeLine := fun h => Nat.le_of_lt (szl (by omega))
      refine ⟨_, rfl, _, rfl, _, _, rfl, rfl, by rw [q1]; exact sz (by omega), _, _, rfl, rfl, by rw [len_append, q1]; exact sz (by omega), ?_⟩
      refine ⟨_, rfl, _, _, rfl, rfl, by rw [q1]; exact sz (by omega), _, _, rfl, rfl, by rw [len_append, q1, q2]; exact sz (by omega), _, rfl, _, _, rfl, rfl, by rw [len_append, len_append, q1, q2]; exact sz (by omega), _, _, rfl, rfl, by rw [len_append, len_append, len_append, q1, q2]; exact sz (by omega), ?_⟩
      refine ⟨_, rfl, _, _, rfl, rfl, by rw [q3]; exact sz (by omega), _, _, rfl, rfl, by rw [len_append, q3, q4]; exact sz (by omega), (by show 4 ≤ sizeLine; decide), fun p1 np1 => ?_⟩
      refine ⟨_, rfl, _, rfl, _, _, rfl, rfl, by rw [q5]; exact sz (by omega), _, _, rfl, rfl, by rw [len_append, q5, q4]; exact sz (by omega), _, rfl, _, _, rfl, rfl, by rw [len_append, len_append, q5, q4]; exact sz (by omega), _, _, rfl, rfl, by rw [len_append, len_append, len_append, q5, q4]; exact sz (by omega), ?_⟩
      refine ⟨_, rfl, _, _, rfl, rfl, by rw [q6]; exact sz (by omega), _, _, rfl, rfl, by rw [len_append, q6, q4]; exact sz (by omega), (by show 5 ≤ sizeLine; decide), fun p2 np2 => ?_⟩
      have okIt : ∀ v ∈ (([tol, ("\"" : Str) ++ inn ++ ("\"" : Str), ("\"" : Str) ++ inn ++ ("\\\"" : Str) ++ inn ++ ("\"" : Str), ("(" : Str) ++ inn ++ (")" : Str)] : List Str) ++ ([("((" : Str) ++ inn ++ (")" : Str) ++ inn ++ (")" : Str), ("(\\)" : Str) ++ inn ++ (")" : Str), ("<" : Str), ("," : Str), (";" : Str)] : List Str)), (∀ c ∈ v.cps.toList, okS c = true) ∧ v.length ≤ 13 := fun v hv => by
        simp only [List.cons_append, List.nil_append, List.mem_cons, List.not_mem_nil, or_false] at hv
        rcases hv with rfl | rfl | rfl | rfl | rfl | rfl | rfl | rfl | rfl
        · exact ⟨ot, by omega⟩
        · exact ⟨okA (okA o1 oi) o1, by rw [len_append, len_append, q1]; omega⟩
        · exact ⟨okA (okA (okA (okA o1 oi) o2) oi) o1, by rw [len_append, len_append, len_append, len_append, q1, q2]; omega⟩
        · exact ⟨okA (okA o3 oi) o4, by rw [len_append, len_append, q3, q4]; omega⟩
        · exact ⟨okA (okA (okA (okA o5 oi) o4) oi) o4, by rw [len_append, len_append, len_append, len_append, q5, q4]; omega⟩
        · exact ⟨okA (okA o6 oi) o4, by rw [len_append, len_append, q6, q4]; omega⟩
        · exact ⟨by decide +kernel, by decide +kernel⟩
        · exact ⟨by decide +kernel, by decide +kernel⟩
        · exact ⟨by decide +kernel, by decide +kernel⟩
      have d6 := d5.same (same_new (o := .lst (([tol, ("\"" : Str) ++ inn ++ ("\"" : Str), ("\"" : Str) ++ inn ++ ("\\\"" : Str) ++ inn ++ ("\"" : Str), ("(" : Str) ++ inn ++ (")" : Str)] : List Str).map V.str)) np1)
      have d7 := d6.same (same_new (o := .lst (([("((" : Str) ++ inn ++ (")" : Str) ++ inn ++ (")" : Str), ("(\\)" : Str) ++ inn ++ (")" : Str), ("<" : Str), ("," : Str), (";" : Str)] : List Str).map V.str)) np2)
      have hp1 := (same_new (o := .lst (([("((" : Str) ++ inn ++ (")" : Str) ++ inn ++ (")" : Str), ("(\\)" : Str) ++ inn ++ (")" : Str), ("<" : Str), ("," : Str), (";" : Str)] : List Str).map V.str)) np2) p1 _ (upd_same (o := .lst (([tol, ("\"" : Str) ++ inn ++ ("\"" : Str), ("\"" : Str) ++ inn ++ ("\\\"" : Str) ++ inn ++ ("\"" : Str), ("(" : Str) ++ inn ++ (")" : Str)] : List Str).map V.str)))
      refine ⟨p1, p2, _, _, rfl, rfl, hp1, upd_same, (by show 9 ≤ sizeLine; decide), fun p3 np3 => ?_⟩
      have s8 := same_new (o := .lst (([tol, ("\"" : Str) ++ inn ++ ("\"" : Str), ("\"" : Str) ++ inn ++ ("\\\"" : Str) ++ inn ++ ("\"" : Str), ("(" : Str) ++ inn ++ (")" : Str)] : List Str).map V.str ++ ([("((" : Str) ++ inn ++ (")" : Str) ++ inn ++ (")" : Str), ("(\\)" : Str) ++ inn ++ (")" : Str), ("<" : Str), ("," : Str), (";" : Str)] : List Str).map V.str)) np3
      have d8 := d7.same s8
      have e3 : a ≠ p3 := let ⟨_, _, _, e⟩ := d7.src; ne_of_none e np3
      refine ⟨_, rfl, (by show 3 ≤ sizeLine; decide), fun p4 np4 => ?_⟩
      have s9 := same_new (o := .lst (gapMenu.map V.str)) np4
      have d9 := d8.same s9
      have e4 : a ≠ p4 := let ⟨_, _, _, e⟩ := d8.src; ne_of_none e np4
      obtain ⟨x, y, u, hx⟩ := d9.src
      refine ⟨_, rfl, a, 3, x, y, u, rfl, by decide, by decide, hx, fun r3 x4 u4 hr3 => ?_⟩
      have d10 := d9.trans (drawn_upd (x := x4) (y := y) (z := u4))
      have hr3' : r3 < gapMenu.length := hr3
      have hg := gapMenu_ok _ (List.getElem_mem hr3')
      refine ⟨p4, gapMenu.map V.str, _, .str (gapMenu[r3]'hr3'), rfl, rfl, SqL.of (by rw [upd_ne e4.symm]; exact upd_same), atI_nat (by rw [List.getElem?_map, List.getElem?_eq_getElem hr3']; rfl), ?_⟩
      generalize gapMenu[r3]'hr3' = gp at hg ⊢
      have hmi : t.length ≤ 20 * 5 := by omega
      refine ⟨_, _, rfl, rfl, sz (by omega), ?_⟩
      refine ⟨_, rfl, _, rfl, a, 9, x4, y, u4, rfl, by decide, by decide, upd_same, fun r4 x5 u5 hr4 => ?_⟩
      have d11 := d10.trans (drawn_upd (x := x5) (y := y) (z := u5))
      have hr4' : r4 < (([tol, ("\"" : Str) ++ inn ++ ("\"" : Str), ("\"" : Str) ++ inn ++ ("\\\"" : Str) ++ inn ++ ("\"" : Str), ("(" : Str) ++ inn ++ (")" : Str)] : List Str) ++ ([("((" : Str) ++ inn ++ (")" : Str) ++ inn ++ (")" : Str), ("(\\)" : Str) ++ inn ++ (")" : Str), ("<" : Str), ("," : Str), (";" : Str)] : List Str)).length := hr4
      have hv := okIt _ (List.getElem_mem hr4')
      refine ⟨p3, ([tol, ("\"" : Str) ++ inn ++ ("\"" : Str), ("\"" : Str) ++ inn ++ ("\\\"" : Str) ++ inn ++ ("\"" : Str), ("(" : Str) ++ inn ++ (")" : Str)] : List Str).map V.str ++ ([("((" : Str) ++ inn ++ (")" : Str) ++ inn ++ (")" : Str), ("(\\)" : Str) ++ inn ++ (")" : Str), ("<" : Str), ("," : Str), (";" : Str)] : List Str).map V.str, _, .str ((([tol, ("\"" : Str) ++ inn ++ ("\"" : Str), ("\"" : Str) ++ inn ++ ("\\\"" : Str) ++ inn ++ ("\"" : Str), ("(" : Str) ++ inn ++ (")" : Str)] : List Str) ++ ([("((" : Str) ++ inn ++ (")" : Str) ++ inn ++ (")" : Str), ("(\\)" : Str) ++ inn ++ (")" : Str), ("<" : Str), ("," : Str), (";" : Str)] : List Str))[r4]'hr4'), rfl, rfl, SqL.of (by rw [upd_ne e3.symm, upd_ne e3.symm]; exact s9 _ _ upd_same), atI_nat (by rw [← List.map_append, List.getElem?_map, List.getElem?_eq_getElem hr4']; rfl), ?_⟩
      generalize (([tol, ("\"" : Str) ++ inn ++ ("\"" : Str), ("\"" : Str) ++ inn ++ ("\\\"" : Str) ++ inn ++ ("\"" : Str), ("(" : Str) ++ inn ++ (")" : Str)] : List Str) ++ ([("((" : Str) ++ inn ++ (")" : Str) ++ inn ++ (")" : Str), ("(\\)" : Str) ++ inn ++ (")" : Str), ("<" : Str), ("," : Str), (";" : Str)] : List Str))[r4]'hr4' = v at hv ⊢
      refine ⟨_, _, rfl, rfl, by rw [len_append]; exact sz (by omega), ?_⟩
      exact ⟨t ++ gp ++ v, _, _, _, _, rfl, d11, okA (okA hok hg.1) hv.1, by rw [len_append, len_append]; omega⟩
    · obtain ⟨t, y2, y3, y4, y5, rfl, dr, hok, hlen⟩ := hp
      exact ⟨_, rfl, q t H1 hok (by omega) dr⟩
end
end FL

namespace FL
open PySem PySem.Spec PyProof.Rows L2
section
variable {P : Program} {w : World} {K : PySem.W.Frag} {mg : Str → Option Value} {base : Heap}
def spTold6 : Sp := fun vs H Q _ => ∃ (z : Str) (N : Nat) (R : Except Nat (List Wd)), vs = [.str z] ∧ z.length ≤ 1000 ∧ (∀ c ∈ z.cps.toList, okS c = true) ∧ cutR z.cps.toList N 0 = some R ∧
  (∀ ws, R = .ok ws → ∀ H' D Ts, Same H H' → H D = none → H' D = some (.lst (Ts.map V.ref)) → TupsAt H H' Ts ws → Q (.ref D) H') ∧ (∀ p : Nat, R = .error p → ∀ H', Same H H' → Q (.int (p : Nat)) H')
theorem scTold : FnScope ["_law_text", "e"] ["_law_text"] (defScope sLawTold) := ⟨rfl, rfl, rfl, by decide +kernel, rfl, by decide +kernel, by decide +kernel⟩
theorem r_told {C CT CH CL : Addr} (T : Caught K mg C CT CH CL "at") (A : FnAt K mg "_law_told" sLawTold) (RF : ReadyX P w K mg base 6 "words" ["text"] (spWordsX K C)) (mi : mg "isinstance" = none) :
    Ready P w K mg base 7 "_law_told" ["_law_text"] spTold6 := by
  obtain ⟨f1, fd1, g1, k1, b1, G1⟩ := RF
  refine ready_of A (fun _ _ _ _ _ _ us hl => match us, hl with | [_], _ => rfl) fun f fd F => ?_
  refine F.ok scTold (fun vs H Q E h => ?_) (fun cdv A outer s H vs Q E hr h => ?_)
  · obtain ⟨z, N, R, rfl, h⟩ := h
    rfl
  · obtain ⟨z, N, R, rfl, hz, hok, hR, q, qe⟩ := h
    have sc := scTold
    refine ⟨_, pss_one (ps_try_as (i := 1) (tb := fun W => (tRet (tCallS (spWordsX K C) (WE W) (tCons (tVar 0) tNil)))) (Wout := fun _ _ _ _ => False) rfl rfl sc.nd rfl rfl ⟨rfl, by decide, Or.inl T.gL⟩ takes0
        (fun W pn xe tk _ => pss_one (ps_ret (by exact (pe_callS G1 hr rfl g1 k1 b1 (fun σ => passAt tk σ) (by exact (pa_cons (pv 0) pa_nil))))))
        (fun a oe cls d pn hz hf => pss_cons (ps_if (PW.pt (pw_and (pt_val (pe_callB (call_isG T.G hz hf) (by rfl) mi (by decide +kernel) (pa_cons (pv 1) (pa_cons (pe_glob (v := .ref C) rfl T.gC rfl) pa_nil))))
            (pw_and (pt_not (pt_val (pe_callB (call_isG T.G hz hf) (by rfl) mi (by decide +kernel) (pa_cons (pv 1) (pa_cons (pe_glob (v := .ref CT) rfl T.gT rfl) pa_nil)))))
            (pw_and1 (pt_not (pt_val (pe_callB (call_isG T.G hz hf) (by rfl) mi (by decide +kernel) (pa_cons (pv 1) (pa_cons (pe_glob (v := .ref CH) rfl T.gH rfl) pa_nil)))))))))
          (pss_one (ps_ret (pe_xf T.F T.no hz hf (pv 1)))) pss_nil) (pss_one (ps_ret pe_non)))), ?_⟩
    refine ⟨_, rfl, .str z, rfl, .inl ⟨z, N, R, rfl, by omega, isLn_okS hok, hR, fun ws e H' D Ts s' nD hD hT => q ws e H' D Ts s' nD hD hT, fun p e d H' s' nd hd => ?_⟩⟩
    refine ⟨true, T.te, fun _ a na => ?_, fun z => by cases z⟩
    refine ⟨_, rfl, rfl, d, rfl, .ref C, .ref C, true, _, rfl, hd, fun u hu => hu, T.kC, true, rfl, iteT ?_⟩
    refine ⟨_, rfl, rfl, d, rfl, .ref CT, .ref CT, false, _, rfl, hd, fun u hu => hu, T.kT, false, rfl, iteT ?_⟩
    refine ⟨_, rfl, rfl, d, rfl, .ref CH, .ref CH, false, _, rfl, hd, fun u hu => hu, T.kH, false, rfl, iteT ?_⟩
    exact ⟨_, rfl, rfl, rfl, d, _, _, rfl, hd, rfl, qe p e H' s'⟩
def spLaw (K : PySem.W.Frag) : Sp := fun vs H Q _ => ∃ (a : Addr) (ns : List Int), vs = [.ref a] ∧ SqL K H a (ns.map V.int) ∧ ns.length ≤ 63 ∧ ∀ H', Q (.bl true) H'
theorem scLaw : FnScope ["_law_script", "_law_k", "_law_source_here", "_law_text", "_law_due", "_law_told_here"] ["_law_script"] (defScope sLaw) := ⟨rfl, rfl, rfl, by decide +kernel, rfl, by decide +kernel, by decide +kernel⟩
theorem sp_words {C : Addr} {H : Hp} {Q : VK} {E : XK} {z : Str} {N : Nat} {ws : List Wd} (hz : z.length ≤ 1000) (hok : ∀ c ∈ z.cps.toList, okS c = true) (hR : cutR z.cps.toList N 0 = some (.ok ws))
    (q : ∀ H' D Ts, Same H H' → H D = none → H' D = some (.lst (Ts.map V.ref)) → TupsAt H H' Ts ws → Q (.ref D) H') : spWordsX K C [.str z] H Q E :=
  ⟨_, rfl, .inl ⟨z, N, .ok ws, rfl, by omega, isLn_okS hok, hR, fun ws' e H' D Ts s' nD hD hT => by
    injection e with e
    subst e
    exact q H' D Ts s' nD hD hT, fun p e => by cases e⟩⟩
theorem ok_law {C f : Addr} {fd : FuncData} (F : Fun K "law" "law" sLaw f fd) (RSo : Ready P w K mg base 2 "_law_source" ["_law_script", "_law_k"] (spSource K)) (RN : Ready P w K mg base 2 "_law_next" ["_law_source_here", "_law_many"] spNext)
    (RVS : Ready P w K mg base 4 "_law_value_signs" ["_law_source_here", "_law_many"] spVS) (RB : Ready P w K mg base 4 "_law_built" ["_law_source_here"] spBuilt) (RC : Ready P w K mg base 2 "_law_cut" ["_law_text"] spCut)
    (RT : Ready P w K mg base 7 "_law_told" ["_law_text"] spTold6) (RW : ReadyX P w K mg base 6 "words" ["text"] (spWordsX K C))
    (ml : mg "len" = none) (mr : mg "range" = none) (mx : mg "max" = none) (mn : mg "min" = none) (mli : mg "list" = none) (mi : mg "isinstance" = none) (mb : mg "bool" = none) :
    FnOk P w K mg base CX0 8 f fd ["_law_script"] (spLaw K) := by
  obtain ⟨f1, fd1, g1, k1, b1, G1⟩ := RSo
  obtain ⟨f2, fd2, g2, k2, b2, G2⟩ := RN
  obtain ⟨f3, fd3, g3, k3, b3, G3⟩ := RVS
  obtain ⟨f4, fd4, g4, k4, b4, G4⟩ := RB
  obtain ⟨f5, fd5, g5, k5, b5, G5⟩ := RC
  obtain ⟨f6, fd6, g6, k6, b6, G6⟩ := RT
  obtain ⟨f7, fd7, g7, k7, b7, G7⟩ := RW
  refine F.ok scLaw (fun vs H Q E h => ?_) (fun cdv A outer s H vs Q E hr h => ?_)
  · obtain ⟨a, ns, rfl, _⟩ := h
    rfl
  · obtain ⟨a, ns, rfl, hS, hns, q⟩ := h
    have sc := scLaw
    have r2 : Room 2 _ := hr.mono (by decide)
    have r4 : Room 4 _ := hr.mono (by decide)
    have r6 : Room 6 _ := hr.mono (by decide)
    refine ⟨_, pss_cons (ps_for PassesOwn.never rfl (pi_range1 (by rfl) mr (pa_cons (pe_callB (call_max2 rfl) (by rfl) mx (by decide +kernel) (pa_cons pe_int (pa_cons (pe_callB (call_min2 rfl) (by rfl) mn (by decide +kernel) (pa_cons pe_int
          (pa_cons (pe_callB call_len_seq (by rfl) ml PySem.boot_len (pa_cons (pv 0) pa_nil)) pa_nil))) pa_nil))) pa_nil)) (pg_name (i := 1) sc.nd rfl (.inl rfl))
        (pss_cons (ps_set (i := 2) sc.nd rfl (.inl rfl) (pe_call G1 r2 (by rfl) g1 k1 b1 .nil pass0 (pa_cons (pv 0) (pa_cons (pv 1) pa_nil))))
        (pss_one (ps_for PassesOwn.never rfl (pi_list (pe_lst (pa_cons (pe_call G3 r4 (by rfl) g3 k3 b3 .nil pass0 (pa_cons (pv 2) (pa_cons (pe_call G2 r2 (by rfl) g2 k2 b2 .nil pass0 (pa_cons (pv 2) (pa_cons pe_int pa_nil))) pa_nil))) (pa_cons (pe_call G4 r4 (by rfl) g4 k4 b4 .nil pass0 (pa_cons (pv 2) pa_nil)) pa_nil)))) (pg_name (i := 3) sc.nd rfl (.inl rfl))
          (pss_cons (ps_set (i := 4) sc.nd rfl (.inl rfl) (pe_call G5 r2 (by rfl) g5 k5 b5 .nil pass0 (pa_cons (pv 3) pa_nil)))
          (pss_cons (ps_set (i := 5) sc.nd rfl (.inl rfl) (pe_call G6 hr (by rfl) g6 k6 b6 .nil pass0 (pa_cons (pv 3) pa_nil)))
          (pss_cons (ps_if (PW.pt (pw_or (pt_cmpR (op_neD hr.units) (pv 5) (pv 4) (nomark _)) (pw_or1 (pt_val (pe_callB call_isi (by rfl) mi (by decide +kernel) (pa_cons (pv 5) (pa_cons (pe_bltn (v := .ty "bool") (by rfl) mb (by decide +kernel) rfl) pa_nil))))))) (pss_one (ps_ret pe_bl)) pss_nil)
          (pss_one (ps_if (pt_val (pe_callB call_isi (by rfl) mi (by decide +kernel) (pa_cons (pv 5) (pa_cons (pe_bltn (v := .ty "list") (by rfl) mli (by decide +kernel) rfl) pa_nil))))
            (pss_cons (ps_expr (pe_bm PySem.F.plainAttrs_list PySem.F.slot_list_append PySem.F.type_list_append mt_append (pv 5) (pa_cons pe_non pa_nil)))
              (pss_one (ps_if (pt_cmpR (op_neD hr.units) (pe_call G7 r6 (by rfl) g7 k7 b7 .nil passL (pa_cons (pv 3) pa_nil)) (pv 4) (nomark _)) (pss_one (ps_ret pe_bl)) pss_nil))) pss_nil)))))))))
      (pss_one (ps_ret (pe_and (pe_cmpR (op_eqD hr.units) (pe_call G7 r6 (by rfl) g7 k7 b7 .nil passL (pa_cons pe_str pa_nil)) (pe_lst pa_nil) (nomark _)) (pe_one (pe_cmpR (op_eqD hr.units) (pe_call G7 r6 (by rfl) g7 k7 b7 .nil passL (pa_cons pe_str pa_nil)) (pe_lst pa_nil) (nomark _)))))), ?_⟩
    have hlen : (ns.map V.int).length = ns.length := List.length_map ..
    refine ⟨_, rfl, a, _, rfl, .inl hS, ?_⟩
    rw [hlen]
    refine ⟨_, _, rfl, _, _, rfl, ?_⟩
    generalize hM : (if (if (ns.length : Int) < 6 then (ns.length : Int) else 6) > 1 then (if (ns.length : Int) < 6 then (ns.length : Int) else 6) else 1) = M
    have hM0 : 0 ≤ M ∧ M ≤ 100 := by
      rw [← hM]
      constructor <;> (split <;> split <;> omega)
    refine ⟨M, rfl, by omega, by omega, ?_⟩
    refine for_it walk_range (fun i σ H' => ∃ y1 y2 y3 y4 y5, σ = [some (.ref a), y1, y2, y3, y4, y5] ∧ Same H H') ⟨none, none, none, none, none, rfl, Same.refl H⟩ (fun _ _ _ _ _ => trivial) (fun i x σ H1 H2 hi hp hy => ?_) (fun σ H1 hp => ?_)
    rotate_left
    · have w0 : cutR ("" : Str).cps.toList 0 0 = some (.ok []) := by
        rw [show ("" : Str).cps.toList = [] from by decide +kernel]
        rfl
      have w2 : cutR ("  " : Str).cps.toList 2 0 = some (.ok []) := by
        rw [show ("  " : Str).cps.toList = [32, 32] from by decide +kernel]
        rfl
      dsimp only [tRet, tAndV, tOp, tCall, tCons, tC, tNil, List.append_nil]
      refine sp_words (by decide +kernel) (by decide +kernel) w0 fun H2 D Ts s2 n2 h2 hh2 => ?_
      have hT0 : Ts = [] := by cases hh2; rfl
      subst hT0
      refine ⟨Nat.zero_le _, fun p2 np2 => ?_⟩
      refine ⟨_, _, .lst (SqL.of ((same_new np2) _ _ h2)) .nil, .lst (SqL.of upd_same) .nil, by decide +kernel, by decide +kernel, ?_⟩
      rw [eqv_nil]
      refine ⟨_, rfl, iteT ?_⟩
      refine sp_words (by decide +kernel) (by decide +kernel) w2 fun H3 D3 T3 s3 n3 h3 hh3 => ?_
      have hT3 : T3 = [] := by cases hh3; rfl
      subst hT3
      refine ⟨Nat.zero_le _, fun p3 np3 => ?_⟩
      refine ⟨_, _, .lst (SqL.of ((same_new np3) _ _ h3)) .nil, .lst (SqL.of upd_same) .nil, by decide +kernel, by decide +kernel, ?_⟩
      rw [eqv_nil]
      exact q _
    obtain ⟨y1, y2, y3, y4, y5, rfl, sm⟩ := hp
    obtain ⟨rfl, hxv⟩ := hy
    have hx' : x = .int (i : Nat) := by
      rw [hxv]
      exact congrArg V.int (Int.zero_add _)
    subst hx'
    refine ⟨_, rfl, _, rfl, a, ns, i, rfl, sm.seq hS, fun H3 sr s3 nsr hsr => ?_⟩
    have nsr0 : H sr = none := Same.free sm nsr
    have s0 : Same H H3 := sm.trans s3
    obtain ⟨x, y, u, hx⟩ := hsr
    have d0 : Drawn sr H3 H3 := Drawn.refl ⟨x, y, u, hx⟩
    refine ⟨_, rfl, _, rfl, sr, 31, x, y, u, rfl, by decide, by decide, hx, fun r1 x1 u1 hr1 => ?_⟩
    have d1 := d0.trans (drawn_upd (x := x1) (y := y) (z := u1))
    refine ⟨sr, r1, rfl, by omega, d1.src, fun t1 H4 ok1 len1 dd2 => ?_⟩
    refine ⟨_, rfl, sr, rfl, dd2.src, fun t2 H5 ok2 len2 dd3 => ?_⟩
    have d3 := (d1.trans dd2).trans dd3
    have s5 := same_drawn s0 nsr0 d3
    refine ⟨(by show 2 ≤ sizeLine; decide), fun p np => ?_⟩
    have s6 := s5.trans (same_new (o := .lst [.str t1, .str t2]) np)
    have hp6 : (upd H5 p (.lst [.str t1, .str t2])) p = some (.lst [.str t1, .str t2]) := upd_same
    generalize (upd H5 p (.lst [.str t1, .str t2])) = H6 at s6 hp6 ⊢
    refine ⟨p, rfl, ⟨_, SqL.of hp6⟩, ?_⟩
    refine for_it (walk_list (K := K) (a := p) (xs := [V.str t1, V.str t2])) (fun j σ H' => ∃ y3 y4 y5, σ = [some (.ref a), some (.int (i : Nat)), some (.ref sr), y3, y4, y5] ∧ Same H6 H') ⟨y3, y4, y5, rfl, Same.refl _⟩ (fun j σ H' _ hp => ?_) (fun j x σ Hu Hv hj hp hy => ?_) (fun σ H7 hp => ?_)
    · obtain ⟨y3, y4, y5, rfl, s7⟩ := hp
      exact SqL.of (s7 _ _ hp6)
    · obtain ⟨y3, y4, y5, rfl, s7⟩ := hp
      obtain ⟨rfl, hx⟩ := hy
      obtain ⟨z, rfl, hz, hok⟩ : ∃ z : Str, x = .str z ∧ z.length ≤ 1000 ∧ ∀ c ∈ z.cps.toList, okS c = true := by
        cases j with
        | zero =>
          injection hx with hx
          exact ⟨t1, hx.symm, by omega, ok1⟩
        | succ j =>
          cases j with
          | zero =>
            injection hx with hx
            exact ⟨t2, hx.symm, by omega, ok2⟩
          | succ j => exact absurd hj (by simp)
      obtain ⟨R, hR⟩ := cut_total z.cps.toList z.cps.toList.length 0 (by omega)
      refine ⟨_, rfl, z, _, R, rfl, hz, fun c hc => okS_lt (hok c hc), hR, fun ws ews okw lw H8 D8 T8 s8 n8 h8 hh8 => ?_, fun pp ep H8 s8 => ?_⟩
      · subst ews
        refine ⟨_, rfl, z, _, _, rfl, hz, hok, hR, fun ws' e9 H9 D9 T9 s9 n9 h9 hh9 => ?_, fun p e9 => by cases e9⟩
        injection e9 with e9
        subst e9
        have sh := ws_shaped okw
        have h89 := s9 _ _ h8
        have hh89 : TupsAt Hv H9 T8 ws := TupsAt.same hh8 fun T x _ h => s9 _ _ h
        refine ⟨_, rfl, _, rfl, _, _, .lst (SqL.of h9) (ws_dp hh9), .lst (SqL.of h89) (ws_dp hh89), sh, sh, _, rfl, ?_⟩
        rw [ws_self sh]
        refine iteF ?_
        refine ⟨_, rfl, _, _, .type "list", .type "bool", false, rfl, ClsV.ty "bool", .base (.lst h9), kit_ty (by decide +kernel), false, rfl, iteF ?_⟩
        refine ⟨_, rfl, _, _, .type "list", .type "list", true, rfl, ClsV.ty "list", .base (.lst h9), kit_ty (by decide +kernel), true, rfl, iteT ?_⟩
        have h8D : D8 ≠ D9 := fun e => by
          rw [e, n9] at h8
          cases h8
        have hT9 : T9.length = ws.length := Paired.length hh9
        refine ⟨_, rfl, .inl ⟨rfl, _, SqL.of h9⟩, D9, _, _, rfl, rfl, h9, by rw [List.length_map]; exact szl (by omega), ?_⟩
        refine ⟨_, rfl, ?_⟩
        dsimp only [tNil, List.append_nil]
        refine sp_words hz hok hR fun H10 D10 T10 s10 n10 h10 hh10 => ?_
        have hh8x : TupsAt Hv H10 T8 ws := TupsAt.same hh89 fun T x _ h => s10 _ _ (by
          have : T ≠ D9 := fun e => by
            rw [e, h9] at h
            cases h
          rw [upd_ne this]
          exact h)
        refine ⟨_, rfl, _, _, .lst (SqL.of h10) (ws_dp hh10), .lst (SqL.of (s10 _ _ (by rw [upd_ne h8D]; exact h89))) (ws_dp hh8x), sh, sh, _, rfl, ?_⟩
        rw [ws_self sh]
        have n9' : H6 D9 = none := Same.free (s7.trans s8) n9
        exact iteF ⟨_, _, _, rfl, (same_set ((s7.trans s8).trans s9) n9').trans s10⟩
      · subst ep
        refine ⟨_, rfl, z, _, _, rfl, hz, hok, hR, (fun ws e9 => by cases e9), fun p' e9 H9 s9 => ?_⟩
        injection e9 with e9
        subst e9
        have shi : SeqAt.shaped (.int (pp : Int)) = true := rfl
        have eqi : PyData.eqv (.int (pp : Int)) (.int (pp : Int)) = true := SeqAt.eqv_refl _ rfl
        refine ⟨_, rfl, _, rfl, _, _, .int _, .int _, shi, shi, _, rfl, ?_⟩
        rw [eqi]
        refine iteF ?_
        refine ⟨_, rfl, _, _, .type "int", .type "bool", false, rfl, ClsV.ty "bool", .base (.int _), kit_ty (by decide +kernel), false, rfl, iteF ?_⟩
        refine ⟨_, rfl, _, _, .type "int", .type "list", false, rfl, ClsV.ty "list", .base (.int _), kit_ty (by decide +kernel), false, rfl, iteF ?_⟩
        exact ⟨_, _, _, rfl, (s7.trans s8).trans s9⟩
    · obtain ⟨y3, y4, y5, rfl, s7⟩ := hp
      exact ⟨_, _, _, _, _, rfl, s6.trans s7⟩
end
end FL

namespace FL
open PySem PySem.Spec PyProof.Rows L2
theorem all_mk {l : PySem.W.OpenLaw} {w : World} {K : PySem.W.Frag} {h : Heap} {mg : Str → Option Value} {fa f1 f2 f3 f4 f5 f6 f7 f8 f9 f10 f11 f12 f13 f14 f15 f16 f17 f18 f19 f20 f21 f22 f23 : Addr} (X : K.In h) (G : h.Ns mainGlobals mg) (hfa : mg "law" = some (.ref fa))
    {od1 an1 od2 an2 od3 an3 od4 an4 od5 an5 od6 an6 od7 an7 od8 an8 od9 an9 od10 an10 od11 an11 od12 an12 od13 an13 od14 an14 od15 an15 od16 an16 od17 an17 od18 an18 od19 an19 od20 an20 od21 an21 od22 an22 od23 an23 : Option Addr} {sl1 sl2 sl3 sl4 sl5 sl6 sl7 sl8 sl9 sl10 sl11 sl12 sl13 sl14 sl15 sl16 sl17 sl18 sl19 sl20 sl21 sl22 sl23 : Array (Option Value)} {oc1 kV1 dc1 pm1 cd1 ct1 oc2 kV2 dc2 pm2 cd2 ct2 oc3 kV3 dc3 pm3 cd3 ct3 oc4 kV4 dc4 pm4 cd4 ct4 oc5 kV5 dc5 pm5 cd5 ct5 oc6 kV6 dc6 pm6 cd6 ct6 oc7 kV7 dc7 pm7 cd7 ct7 oc8 kV8 dc8 pm8 cd8 ct8 oc9 kV9 dc9 pm9 cd9 ct9 oc10 kV10 dc10 pm10 cd10 ct10 oc11 kV11 dc11 pm11 cd11 ct11 oc12 kV12 dc12 pm12 cd12 ct12 oc13 kV13 dc13 pm13 cd13 ct13 oc14 kV14 dc14 pm14 cd14 ct14 oc15 kV15 dc15 pm15 cd15 ct15 oc16 kV16 dc16 pm16 cd16 ct16 oc17 kV17 dc17 pm17 cd17 ct17 oc18 kV18 dc18 pm18 cd18 ct18 oc19 kV19 dc19 pm19 cd19 ct19 oc20 kV20 dc20 pm20 cd20 ct20 oc21 kV21 dc21 pm21 cd21 ct21 oc22 kV22 dc22 pm22 cd22 ct22 oc23 kV23 dc23 pm23 cd23 ct23 : Value} {tk1 tk2 tk3 : Tok}
    {CL fL TL : Addr} {odL anL odTL : Option Addr} {slL slTL : Array (Option Value)} {ocL kVL dcL pmL cdL ctL ocTL : Value} {tkL : Tok} {nTL : Nat}
    {C fC TC NC : Addr} {nmC qC : Str} {bsC bmC : List Value} {snC : List Str} {subC : List Value} {abC : Bool} {colC : Option Bool} {ddC odC anC odTC : Option Addr} {m0C m1C m2C m3C m5C : Option Value} {slC slTC : Array (Option Value)} {ocC kVC dcC pmC cdC ctC ocTC : Value} {tkC : Tok} {nTC : Nat}
    {CT : Addr}
    {CH : Addr}
    (gL : PySem.W.nsIn K mainGlobals "LetterError" = some (some (.ref CL)))
    (iL : PySem.W.findIn K (.ref CL) "__init__" = some (some (.ref fL)))
    (lL : K.lookup fL = some ⟨ocL, odL, .func (PySem.W.fnOf "__init__" "LetterError.__init__" (defArgs sLE) (defBody sLE) (defScope sLE) (.ref TL) kVL dcL pmL anL cdL ctL), slL⟩)
    (cL : PySem.W.codeIn K cdL "LetterError.__init__" = true)
    (kL : PySem.W.keepIn K (.ref fL) = true)
    (dL : K.lookup TL = some ⟨ocTL, odTL, .seq #[.str ("" : Str) tkL] nTL, slTL⟩)
    (gaL : PySem.W.specialIn K (.ref CL) "__getattribute__" = some (some (.builtin "type.__getattribute__")))
    (rdL : PySem.W.readsIn K CL (.type "type") = true)
    (atL : PySem.W.findCls K (.ref CL) (.type "type") "__init__" = some (.val (.ref fL)))
    (vV : PySem.W.findCls K (.type "ValueError") (.type "type") "__init__" = some (.val (.builtin "ValueError.__init__")))
    (zVE : PySem.W.nsIn K mainGlobals "ValueError" = some none)
    (exL : PySem.W.subIn K (.ref CL) (.type "BaseException") = some true)
    (hdL : PySem.W.hasDictIn K CL = true)
    (tyL : PySem.W.typeIn K (.ref CL) = some (.type "type"))
    (gC : PySem.W.nsIn K mainGlobals "NoWords" = some (some (.ref C)))
    (xC : K.lookup C = some (excClassObj nmC qC C NC bsC bmC true snC subC abC colC ddC m0C m1C m2C m3C m5C "ValueError.__new__"))
    (rvC : PySem.HandSPX.refsVE bmC = true)
    (saC : PySem.W.findIn K (.ref C) "__setattr__" = some (some (.builtin "object.__setattr__")))
    (exC : PySem.W.subIn K (.ref C) (.type "BaseException") = some true)
    (tyC : PySem.W.typeIn K (.ref C) = some (.type "type"))
    (kcC : PySem.W.keepIn K (.ref C) = true)
    (noC : PySem.W.findIn K (.ref C) "at" = some none)
    (iC : PySem.W.findIn K (.ref C) "__init__" = some (some (.ref fC)))
    (tiC : PySem.W.typeIn K (.ref fC) = some (.type "function"))
    (lC : K.lookup fC = some ⟨ocC, odC, .func (PySem.W.fnOf "__init__" "NoWords.__init__" (defArgs sNW) (defBody sNW) (defScope sNW) (.ref TC) kVC dcC pmC anC cdC ctC), slC⟩)
    (cC : PySem.W.codeIn K cdC "NoWords.__init__" = true)
    (kC : PySem.W.keepIn K (.ref fC) = true)
    (dC : K.lookup TC = some ⟨ocTC, odTC, .seq #[.int 0 tkC] nTC, slTC⟩)
    (hgC : PySem.W.findIn K (.ref C) "__getattribute__" = some (some (.builtin "BaseException.__getattribute__")))
    (hkC : PySem.W.findIn K (.ref C) "__getattr__" = some none)
    (hdC : PySem.W.hasDictIn K C = true)
    (haC : PySem.W.findIn K (.ref C) "__class__" = some (some (.builtin "object.__class__")))
    (hmC : PySem.W.mroIn K C (.type "object") = some true)
    (suC : PySem.W.subIn K (.ref C) (.ref CL) = some true)
    (gCT : PySem.W.nsIn K mainGlobals "NoText" = some (some (.ref CT)))
    (gCH : PySem.W.nsIn K mainGlobals "NoHead" = some (some (.ref CH)))
    (hn0 : PySem.W.specialIn K (.builtin "object.__class__") "__get__" = some (some (.builtin "getset_descriptor.__get__")))
    (ht0 : PySem.W.takesIn K (.builtin "object.__class__") = some true)
    (kitTt : PySem.W.typeIn K (.ref CT) = some (.type "type"))
    (kitTd : PySem.W.hasDictIn K CT = true)
    (kitTs : PySem.W.subIn K (.ref C) (.ref CT) = some false)
    (kitTn : ((Value.ref C) == (Value.ref CT)) = false)
    (kitHt : PySem.W.typeIn K (.ref CH) = some (.type "type"))
    (kitHd : PySem.W.hasDictIn K CH = true)
    (kitHs : PySem.W.subIn K (.ref C) (.ref CH) = some false)
    (kitHn : ((Value.ref C) == (Value.ref CH)) = false)
    (a1 : PySem.W.nsIn K mainGlobals "is_text" = some (some (.ref f1))) (l1 : K.lookup f1 = some ⟨oc1, od1, .func (PySem.W.fnOf "is_text" "is_text" (defArgs sIsText) (defBody sIsText) (defScope sIsText) .none kV1 dc1 pm1 an1 cd1 ct1), sl1⟩) (c1 : PySem.W.codeIn K cd1 "is_text" = true) (k1 : PySem.W.keepIn K (.ref f1) = true)
    (a2 : PySem.W.nsIn K mainGlobals "is_line" = some (some (.ref f2))) (l2 : K.lookup f2 = some ⟨oc2, od2, .func (PySem.W.fnOf "is_line" "is_line" (defArgs sIsLine) (defBody sIsLine) (defScope sIsLine) .none kV2 dc2 pm2 an2 cd2 ct2), sl2⟩) (c2 : PySem.W.codeIn K cd2 "is_line" = true) (k2 : PySem.W.keepIn K (.ref f2) = true)
    (a3 : PySem.W.nsIn K mainGlobals "is_letter" = some (some (.ref f3))) (l3 : K.lookup f3 = some ⟨oc3, od3, .func (PySem.W.fnOf "is_letter" "is_letter" (defArgs sIsLetter) (defBody sIsLetter) (defScope sIsLetter) .none kV3 dc3 pm3 an3 cd3 ct3), sl3⟩) (c3 : PySem.W.codeIn K cd3 "is_letter" = true) (k3 : PySem.W.keepIn K (.ref f3) = true)
    (a4 : PySem.W.nsIn K mainGlobals "is_figure" = some (some (.ref f4))) (l4 : K.lookup f4 = some ⟨oc4, od4, .func (PySem.W.fnOf "is_figure" "is_figure" (defArgs sIsFigure) (defBody sIsFigure) (defScope sIsFigure) .none kV4 dc4 pm4 an4 cd4 ct4), sl4⟩) (c4 : PySem.W.codeIn K cd4 "is_figure" = true) (k4 : PySem.W.keepIn K (.ref f4) = true)
    (a5 : PySem.W.nsIn K mainGlobals "_is_sign" = some (some (.ref f5))) (l5 : K.lookup f5 = some ⟨oc5, od5, .func (PySem.W.fnOf "_is_sign" "_is_sign" (defArgs sIsSign) (defBody sIsSign) (defScope sIsSign) .none kV5 dc5 pm5 an5 cd5 ct5), sl5⟩) (c5 : PySem.W.codeIn K cd5 "_is_sign" = true) (k5 : PySem.W.keepIn K (.ref f5) = true)
    (a6 : PySem.W.nsIn K mainGlobals "words" = some (some (.ref f6))) (l6 : K.lookup f6 = some ⟨oc6, od6, .func (PySem.W.fnOf "words" "words" (defArgs sWords) (defBody sWords) (defScope sWords) .none kV6 dc6 pm6 an6 cd6 ct6), sl6⟩) (c6 : PySem.W.codeIn K cd6 "words" = true) (k6 : PySem.W.keepIn K (.ref f6) = true)
    (a7 : PySem.W.nsIn K mainGlobals "_word_at" = some (some (.ref f7))) (l7 : K.lookup f7 = some ⟨oc7, od7, .func (PySem.W.fnOf "_word_at" "_word_at" (defArgs sWordAt) (defBody sWordAt) (defScope sWordAt) .none kV7 dc7 pm7 an7 cd7 ct7), sl7⟩) (c7 : PySem.W.codeIn K cd7 "_word_at" = true) (k7 : PySem.W.keepIn K (.ref f7) = true)
    (a8 : PySem.W.nsIn K mainGlobals "_is_atom_sign" = some (some (.ref f8))) (l8 : K.lookup f8 = some ⟨oc8, od8, .func (PySem.W.fnOf "_is_atom_sign" "_is_atom_sign" (defArgs sIsAtom) (defBody sIsAtom) (defScope sIsAtom) .none kV8 dc8 pm8 an8 cd8 ct8), sl8⟩) (c8 : PySem.W.codeIn K cd8 "_is_atom_sign" = true) (k8 : PySem.W.keepIn K (.ref f8) = true)
    (a9 : PySem.W.nsIn K mainGlobals "_atom_end" = some (some (.ref f9))) (l9 : K.lookup f9 = some ⟨oc9, od9, .func (PySem.W.fnOf "_atom_end" "_atom_end" (defArgs sAtomEnd) (defBody sAtomEnd) (defScope sAtomEnd) .none kV9 dc9 pm9 an9 cd9 ct9), sl9⟩) (c9 : PySem.W.codeIn K cd9 "_atom_end" = true) (k9 : PySem.W.keepIn K (.ref f9) = true)
    (a10 : PySem.W.nsIn K mainGlobals "_quoted_word" = some (some (.ref f10))) (l10 : K.lookup f10 = some ⟨oc10, od10, .func (PySem.W.fnOf "_quoted_word" "_quoted_word" (defArgs sQuotedWord) (defBody sQuotedWord) (defScope sQuotedWord) .none kV10 dc10 pm10 an10 cd10 ct10), sl10⟩) (c10 : PySem.W.codeIn K cd10 "_quoted_word" = true) (k10 : PySem.W.keepIn K (.ref f10) = true)
    (a11 : PySem.W.nsIn K mainGlobals "_remark" = some (some (.ref f11))) (l11 : K.lookup f11 = some ⟨oc11, od11, .func (PySem.W.fnOf "_remark" "_remark" (defArgs sRemark) (defBody sRemark) (defScope sRemark) .none kV11 dc11 pm11 an11 cd11 ct11), sl11⟩) (c11 : PySem.W.codeIn K cd11 "_remark" = true) (k11 : PySem.W.keepIn K (.ref f11) = true)
    (a12 : PySem.W.nsIn K mainGlobals "_law_cell_at" = some (some (.ref f12))) (l12 : K.lookup f12 = some ⟨oc12, od12, .func (PySem.W.fnOf "_law_cell_at" "_law_cell_at" (defArgs sCellAt) (defBody sCellAt) (defScope sCellAt) .none kV12 dc12 pm12 an12 cd12 ct12), sl12⟩) (c12 : PySem.W.codeIn K cd12 "_law_cell_at" = true) (k12 : PySem.W.keepIn K (.ref f12) = true)
    (a13 : PySem.W.nsIn K mainGlobals "_law_mixed" = some (some (.ref f13))) (l13 : K.lookup f13 = some ⟨oc13, od13, .func (PySem.W.fnOf "_law_mixed" "_law_mixed" (defArgs sMixed) (defBody sMixed) (defScope sMixed) .none kV13 dc13 pm13 an13 cd13 ct13), sl13⟩) (c13 : PySem.W.codeIn K cd13 "_law_mixed" = true) (k13 : PySem.W.keepIn K (.ref f13) = true)
    (a14 : PySem.W.nsIn K mainGlobals "_law_source" = some (some (.ref f14))) (l14 : K.lookup f14 = some ⟨oc14, od14, .func (PySem.W.fnOf "_law_source" "_law_source" (defArgs sSource) (defBody sSource) (defScope sSource) .none kV14 dc14 pm14 an14 cd14 ct14), sl14⟩) (c14 : PySem.W.codeIn K cd14 "_law_source" = true) (k14 : PySem.W.keepIn K (.ref f14) = true)
    (a15 : PySem.W.nsIn K mainGlobals "_law_next" = some (some (.ref f15))) (l15 : K.lookup f15 = some ⟨oc15, od15, .func (PySem.W.fnOf "_law_next" "_law_next" (defArgs sNext) (defBody sNext) (defScope sNext) .none kV15 dc15 pm15 an15 cd15 ct15), sl15⟩) (c15 : PySem.W.codeIn K cd15 "_law_next" = true) (k15 : PySem.W.keepIn K (.ref f15) = true)
    (a16 : PySem.W.nsIn K mainGlobals "_law_signs" = some (some (.ref f16))) (l16 : K.lookup f16 = some ⟨oc16, od16, .func (PySem.W.fnOf "_law_signs" "_law_signs" (defArgs sSigns) (defBody sSigns) (defScope sSigns) .none kV16 dc16 pm16 an16 cd16 ct16), sl16⟩) (c16 : PySem.W.codeIn K cd16 "_law_signs" = true) (k16 : PySem.W.keepIn K (.ref f16) = true)
    (a17 : PySem.W.nsIn K mainGlobals "_law_value_signs" = some (some (.ref f17))) (l17 : K.lookup f17 = some ⟨oc17, od17, .func (PySem.W.fnOf "_law_value_signs" "_law_value_signs" (defArgs sLawValueSigns) (defBody sLawValueSigns) (defScope sLawValueSigns) .none kV17 dc17 pm17 an17 cd17 ct17), sl17⟩) (c17 : PySem.W.codeIn K cd17 "_law_value_signs" = true) (k17 : PySem.W.keepIn K (.ref f17) = true)
    (a18 : PySem.W.nsIn K mainGlobals "_law_closed" = some (some (.ref f18))) (l18 : K.lookup f18 = some ⟨oc18, od18, .func (PySem.W.fnOf "_law_closed" "_law_closed" (defArgs sLawClosed) (defBody sLawClosed) (defScope sLawClosed) .none kV18 dc18 pm18 an18 cd18 ct18), sl18⟩) (c18 : PySem.W.codeIn K cd18 "_law_closed" = true) (k18 : PySem.W.keepIn K (.ref f18) = true)
    (a19 : PySem.W.nsIn K mainGlobals "_law_unquoted" = some (some (.ref f19))) (l19 : K.lookup f19 = some ⟨oc19, od19, .func (PySem.W.fnOf "_law_unquoted" "_law_unquoted" (defArgs sLawUnquoted) (defBody sLawUnquoted) (defScope sLawUnquoted) .none kV19 dc19 pm19 an19 cd19 ct19), sl19⟩) (c19 : PySem.W.codeIn K cd19 "_law_unquoted" = true) (k19 : PySem.W.keepIn K (.ref f19) = true)
    (a20 : PySem.W.nsIn K mainGlobals "_law_cut" = some (some (.ref f20))) (l20 : K.lookup f20 = some ⟨oc20, od20, .func (PySem.W.fnOf "_law_cut" "_law_cut" (defArgs sLawCut) (defBody sLawCut) (defScope sLawCut) .none kV20 dc20 pm20 an20 cd20 ct20), sl20⟩) (c20 : PySem.W.codeIn K cd20 "_law_cut" = true) (k20 : PySem.W.keepIn K (.ref f20) = true)
    (a21 : PySem.W.nsIn K mainGlobals "_law_told" = some (some (.ref f21))) (l21 : K.lookup f21 = some ⟨oc21, od21, .func (PySem.W.fnOf "_law_told" "_law_told" (defArgs sLawTold) (defBody sLawTold) (defScope sLawTold) .none kV21 dc21 pm21 an21 cd21 ct21), sl21⟩) (c21 : PySem.W.codeIn K cd21 "_law_told" = true) (k21 : PySem.W.keepIn K (.ref f21) = true)
    (a22 : PySem.W.nsIn K mainGlobals "_law_built" = some (some (.ref f22))) (l22 : K.lookup f22 = some ⟨oc22, od22, .func (PySem.W.fnOf "_law_built" "_law_built" (defArgs sLawBuilt) (defBody sLawBuilt) (defScope sLawBuilt) .none kV22 dc22 pm22 an22 cd22 ct22), sl22⟩) (c22 : PySem.W.codeIn K cd22 "_law_built" = true) (k22 : PySem.W.keepIn K (.ref f22) = true)
    (a23 : PySem.W.nsIn K mainGlobals "law" = some (some (.ref f23))) (l23 : K.lookup f23 = some ⟨oc23, od23, .func (PySem.W.fnOf "law" "law" (defArgs sLaw) (defBody sLaw) (defScope sLaw) .none kV23 dc23 pm23 an23 cd23 ct23), sl23⟩) (c23 : PySem.W.codeIn K cd23 "law" = true) (k23 : PySem.W.keepIn K (.ref f23) = true)
    (z1 : PySem.W.nsIn K mainGlobals "isinstance" = some none) (z2 : PySem.W.nsIn K mainGlobals "str" = some none) (z3 : PySem.W.nsIn K mainGlobals "all" = some none) (z4 : PySem.W.nsIn K mainGlobals "ord" = some none) (z5 : PySem.W.nsIn K mainGlobals "len" = some none) (z6 : PySem.W.nsIn K mainGlobals "range" = some none) (z7 : PySem.W.nsIn K mainGlobals "max" = some none) (z8 : PySem.W.nsIn K mainGlobals "min" = some none) (z9 : PySem.W.nsIn K mainGlobals "list" = some none) (z10 : PySem.W.nsIn K mainGlobals "bool" = some none) (z11 : PySem.W.nsIn K mainGlobals "int" = some none) (v1 : PySem.W.nsIn K mainGlobals "PERCENT" = some (some (.int 37 tk1))) (v2 : PySem.W.nsIn K mainGlobals "ATOM_SIGNS" = some (some (.str atomText tk2))) (v3 : PySem.W.nsIn K mainGlobals "MARKS" = some (some (.str marksText tk3))) :
    ∃ fd : FuncData, (∀ (s : Shared) (v : Value), BindsTo s fd ⟨[v], []⟩ [("_law_script", v)]) ∧ ∀ base : Heap, K.In base → base.Ns mainGlobals mg → FnOk l.prog w K mg base CX0 8 fa fd ["_law_script"] (spLaw K) := by
  have e := hfa.symm.trans (PySem.W.mg_of X G a23)
  cases e
  have m_ValueError : mg "ValueError" = none := PySem.W.mg_none_of X G zVE
  have m_LetterError := PySem.W.mg_of X G gL
  have FL : FunA K "LetterError.__init__" sLE [.str ""] fL _ := ⟨⟨_, _, _, _, _, _, _, _, _, _, rfl, lL, cL, .inr ⟨by simp, TL, _, [.str ("" : Str) tkL], nTL, rfl, dL, rfl, .cons ⟨tkL, rfl⟩ .nil⟩, .inl rfl⟩, kL⟩
  have TLc : ClsFn K CL fL := ⟨gaL, rdL, atL, kL⟩
  have m_NoWords := PySem.W.mg_of X G gC
  have FC : FunA K "NoWords.__init__" sNW [.int 0] fC _ := ⟨⟨_, _, _, _, _, _, _, _, _, _, rfl, lC, cC, .inr ⟨by simp, TC, _, [.int 0 tkC], nTC, rfl, dC, rfl, .cons ⟨tkC, rfl⟩ .nil⟩, .inl rfl⟩, kC⟩
  have OC : OexC K C := ⟨⟨nmC, qC, NC, bsC, bmC, snC, subC, abC, colC, ddC, m0C, m1C, m2C, m3C, m5C, xC, rvC⟩, saC, exC, tyC, kcC⟩
  have ECC : ExcC K C := ⟨hgC, hkC, exC, hdC, haC, hn0, ht0, hmC⟩
  have teC : PySem.W.exmOne K (.ref C) (.ref CL) = some true := PySem.W.exm_ref exL hdL tyL suC
  have XFC : XfC K C := ⟨hgC, hkC, exC, hdC⟩
  have m_NoText := PySem.W.mg_of X G gCT
  have m_NoHead := PySem.W.mg_of X G gCH
  have kitC : PySem.W.kitOne K (.ref C) (.ref C) = some true := kit_same
  have kitT : PySem.W.kitOne K (.ref C) (.ref CT) = some false := kit_own kitTn kitTt kitTd kitTs
  have kitH : PySem.W.kitOne K (.ref C) (.ref CH) = some false := kit_own kitHn kitHt kitHd kitHs
  have A1 : FnAt K mg "is_text" sIsText := ⟨f1, _, fun_mk (st := sIsText) l1 c1 k1, PySem.W.mg_of X G a1⟩
  have A2 : FnAt K mg "is_line" sIsLine := ⟨f2, _, fun_mk (st := sIsLine) l2 c2 k2, PySem.W.mg_of X G a2⟩
  have A3 : FnAt K mg "is_letter" sIsLetter := ⟨f3, _, fun_mk (st := sIsLetter) l3 c3 k3, PySem.W.mg_of X G a3⟩
  have A4 : FnAt K mg "is_figure" sIsFigure := ⟨f4, _, fun_mk (st := sIsFigure) l4 c4 k4, PySem.W.mg_of X G a4⟩
  have A5 : FnAt K mg "_is_sign" sIsSign := ⟨f5, _, fun_mk (st := sIsSign) l5 c5 k5, PySem.W.mg_of X G a5⟩
  have A6 : FnAt K mg "words" sWords := ⟨f6, _, fun_mk (st := sWords) l6 c6 k6, PySem.W.mg_of X G a6⟩
  have A7 : FnAt K mg "_word_at" sWordAt := ⟨f7, _, fun_mk (st := sWordAt) l7 c7 k7, PySem.W.mg_of X G a7⟩
  have A8 : FnAt K mg "_is_atom_sign" sIsAtom := ⟨f8, _, fun_mk (st := sIsAtom) l8 c8 k8, PySem.W.mg_of X G a8⟩
  have A9 : FnAt K mg "_atom_end" sAtomEnd := ⟨f9, _, fun_mk (st := sAtomEnd) l9 c9 k9, PySem.W.mg_of X G a9⟩
  have A10 : FnAt K mg "_quoted_word" sQuotedWord := ⟨f10, _, fun_mk (st := sQuotedWord) l10 c10 k10, PySem.W.mg_of X G a10⟩
  have A11 : FnAt K mg "_remark" sRemark := ⟨f11, _, fun_mk (st := sRemark) l11 c11 k11, PySem.W.mg_of X G a11⟩
  have A12 : FnAt K mg "_law_cell_at" sCellAt := ⟨f12, _, fun_mk (st := sCellAt) l12 c12 k12, PySem.W.mg_of X G a12⟩
  have A13 : FnAt K mg "_law_mixed" sMixed := ⟨f13, _, fun_mk (st := sMixed) l13 c13 k13, PySem.W.mg_of X G a13⟩
  have A14 : FnAt K mg "_law_source" sSource := ⟨f14, _, fun_mk (st := sSource) l14 c14 k14, PySem.W.mg_of X G a14⟩
  have A15 : FnAt K mg "_law_next" sNext := ⟨f15, _, fun_mk (st := sNext) l15 c15 k15, PySem.W.mg_of X G a15⟩
  have A16 : FnAt K mg "_law_signs" sSigns := ⟨f16, _, fun_mk (st := sSigns) l16 c16 k16, PySem.W.mg_of X G a16⟩
  have A17 : FnAt K mg "_law_value_signs" sLawValueSigns := ⟨f17, _, fun_mk (st := sLawValueSigns) l17 c17 k17, PySem.W.mg_of X G a17⟩
  have A18 : FnAt K mg "_law_closed" sLawClosed := ⟨f18, _, fun_mk (st := sLawClosed) l18 c18 k18, PySem.W.mg_of X G a18⟩
  have A19 : FnAt K mg "_law_unquoted" sLawUnquoted := ⟨f19, _, fun_mk (st := sLawUnquoted) l19 c19 k19, PySem.W.mg_of X G a19⟩
  have A20 : FnAt K mg "_law_cut" sLawCut := ⟨f20, _, fun_mk (st := sLawCut) l20 c20 k20, PySem.W.mg_of X G a20⟩
  have A21 : FnAt K mg "_law_told" sLawTold := ⟨f21, _, fun_mk (st := sLawTold) l21 c21 k21, PySem.W.mg_of X G a21⟩
  have A22 : FnAt K mg "_law_built" sLawBuilt := ⟨f22, _, fun_mk (st := sLawBuilt) l22 c22 k22, PySem.W.mg_of X G a22⟩
  have F23 := fun_mk (st := sLaw) l23 c23 k23
  have m_isinstance : mg "isinstance" = none := PySem.W.mg_none_of X G z1
  have m_str : mg "str" = none := PySem.W.mg_none_of X G z2
  have m_all : mg "all" = none := PySem.W.mg_none_of X G z3
  have m_ord : mg "ord" = none := PySem.W.mg_none_of X G z4
  have m_len : mg "len" = none := PySem.W.mg_none_of X G z5
  have m_range : mg "range" = none := PySem.W.mg_none_of X G z6
  have m_max : mg "max" = none := PySem.W.mg_none_of X G z7
  have m_min : mg "min" = none := PySem.W.mg_none_of X G z8
  have m_list : mg "list" = none := PySem.W.mg_none_of X G z9
  have m_bool : mg "bool" = none := PySem.W.mg_none_of X G z10
  have m_int : mg "int" = none := PySem.W.mg_none_of X G z11
  have m_PERCENT := PySem.W.mg_of X G v1
  have m_ATOM_SIGNS := PySem.W.mg_of X G v2
  have m_MARKS := PySem.W.mg_of X G v3
  refine ⟨PySem.W.fnOf "law" "law" (defArgs sLaw) (defBody sLaw) (defScope sLaw) .none kV23 dc23 pm23 an23 cd23 ct23, fun s v => .of_eq rfl, fun base _ _ => ?_⟩
  have MC := mk_NW (P := l.prog) (w := w) (base := base) FC FL TLc m_LetterError m_ValueError vV OC noC m_NoWords iC tiC
  have R1 := r_is_letter (P := l.prog) (w := w) (base := base) A3
  have R2 := r_is_figure (P := l.prog) (w := w) (base := base) A4
  have R3 := r_is_sign (P := l.prog) (w := w) (base := base) A5 m_ord m_PERCENT
  have R4 := r_is_text A1 R3 m_isinstance m_str m_all
  have R5 := r_is_line A2 R4
  have R6 := r_is_atom A8 R1 R2 m_ATOM_SIGNS
  have R7 := r_atom_end A9 R6 m_len
  have R8 := x_quoted_word MC A10 m_len
  have R9 := x_remark MC A11 m_len
  have R10 := x_word_at MC A7 R6 R7 R8 R9 m_MARKS
  have R11 := x_words MC A6 R5 R10 m_len
  have R13 := r_cell_at (P := l.prog) (w := w) (base := base) A12 m_len
  have R14 := r_mixed (P := l.prog) (w := w) (base := base) A13
  have R15 := r_source A14 R13 R14 m_len
  have R16 := r_next A15 R14
  have R17 := r_signs A16 R16 m_len m_range
  have R18 := r_vs A17 R17
  have R19 := r_closed (P := l.prog) (w := w) (base := base) A18 m_len m_int
  have R20 := r_unquoted (P := l.prog) (w := w) (base := base) A19 m_len m_int
  have R21 := r_cut A20 R19 R20 m_len
  have TC : Caught K mg C CT CH CL "at" := ⟨m_NoWords, m_NoText, m_NoHead, m_LetterError, teC, ECC, XFC, noC, kitC, kitT, kitH⟩
  have R22 := r_told TC A21 R11 m_isinstance
  have R23 := r_built A22 R16 R17 m_range
  exact ok_law F23 R15 R16 R18 R23 R21 R22 R11 m_len m_range m_max m_min m_list m_isinstance m_bool
end FL
open PySem PySem.W PyProof.Rows
set_option maxRecDepth 100000 in
set_option maxHeartbeats 8000000 in
theorem PySem.Challenge.cw_foldletter_k06_values_cut_holds : PySem.Challenge.rw_foldletter_k06_values_cut.Holds := by
  w_on; o_law; k_head; (case hw => w_witness2)
  k_fill
  refine L2.walk_of (l := PySem.Challenge.rw_foldletter_k06_values_cut) (n := 63) (k := 8) (x := "_law_script") (CX := fun _ => L2.CX0) (sp := fun w => FL.spLaw _) rfl (by decide) rfl ⟨rfl, by decide, by decide⟩ (fun w h Y => PySem.W.kIn_of Y) ?F (fun _ _ a ns hl _ hS => ⟨a, ns, rfl, hS, hl, fun _ => rfl⟩) (fun _ _ _ _ _ h => h)
  case F =>
    intro w mg fa h KX G hmg
    refine' FL.all_mk KX G hmg ?gL ?iL ?lL ?cL ?kL ?dL ?gaL ?rdL ?atL ?vV ?zVE ?exL ?hdL ?tyL ?gC ?xC ?rvC ?saC ?exC ?tyC ?kcC ?noC ?iC ?tiC ?lC ?cC ?kC ?dC ?hgC ?hkC ?hdC ?haC ?hmC ?suC ?gCT ?gCH ?hn0 ?ht0 ?kitTt ?kitTd ?kitTs ?kitTn ?kitHt ?kitHd ?kitHs ?kitHn ?a1 ?l1 ?c1 ?k1 ?a2 ?l2 ?c2 ?k2 ?a3 ?l3 ?c3 ?k3 ?a4 ?l4 ?c4 ?k4 ?a5 ?l5 ?c5 ?k5 ?a6 ?l6 ?c6 ?k6 ?a7 ?l7 ?c7 ?k7 ?a8 ?l8 ?c8 ?k8 ?a9 ?l9 ?c9 ?k9 ?a10 ?l10 ?c10 ?k10 ?a11 ?l11 ?c11 ?k11 ?a12 ?l12 ?c12 ?k12 ?a13 ?l13 ?c13 ?k13 ?a14 ?l14 ?c14 ?k14 ?a15 ?l15 ?c15 ?k15 ?a16 ?l16 ?c16 ?k16 ?a17 ?l17 ?c17 ?k17 ?a18 ?l18 ?c18 ?k18 ?a19 ?l19 ?c19 ?k19 ?a20 ?l20 ?c20 ?k20 ?a21 ?l21 ?c21 ?k21 ?a22 ?l22 ?c22 ?k22 ?a23 ?l23 ?c23 ?k23 ?z1 ?z2 ?z3 ?z4 ?z5 ?z6 ?z7 ?z8 ?z9 ?z10 ?z11 ?v1 ?v2 ?v3
    (case gL => k_is); (case iL => k_is); (case lL => k_is); (case cL => k_is); (case kL => k_is); (case dL => k_is); (case gaL => k_is); (case rdL => k_is); (case atL => k_is); (case vV => k_is); (case zVE => k_is); (case exL => k_is); (case hdL => k_is); (case tyL => k_is); (case gC => k_is); (case xC => k_is); (case rvC => first | rfl | k_is); (case saC => k_is); (case exC => k_is); (case tyC => k_is); (case kcC => k_is); (case noC => k_is); (case iC => k_is); (case tiC => k_is); (case lC => k_is); (case cC => k_is); (case kC => k_is); (case dC => k_is); (case hgC => k_is); (case hkC => k_is); (case hdC => k_is); (case haC => k_is); (case hmC => k_is); (case suC => k_is); (case gCT => k_is); (case gCH => k_is); (case hn0 => k_is); (case ht0 => k_is); (case kitTt => k_is); (case kitTd => k_is); (case kitTs => k_is); (case kitTn => first | rfl | k_is); (case kitHt => k_is); (case kitHd => k_is); (case kitHs => k_is); (case kitHn => first | rfl | k_is); (case a1 => k_is); (case l1 => k_is); (case c1 => k_is); (case k1 => k_is); (case a2 => k_is); (case l2 => k_is); (case c2 => k_is); (case k2 => k_is); (case a3 => k_is); (case l3 => k_is); (case c3 => k_is); (case k3 => k_is); (case a4 => k_is); (case l4 => k_is); (case c4 => k_is); (case k4 => k_is); (case a5 => k_is); (case l5 => k_is); (case c5 => k_is); (case k5 => k_is); (case a6 => k_is); (case l6 => k_is); (case c6 => k_is); (case k6 => k_is); (case a7 => k_is); (case l7 => k_is); (case c7 => k_is); (case k7 => k_is); (case a8 => k_is); (case l8 => k_is); (case c8 => k_is); (case k8 => k_is); (case a9 => k_is); (case l9 => k_is); (case c9 => k_is); (case k9 => k_is); (case a10 => k_is); (case l10 => k_is); (case c10 => k_is); (case k10 => k_is); (case a11 => k_is); (case l11 => k_is); (case c11 => k_is); (case k11 => k_is); (case a12 => k_is); (case l12 => k_is); (case c12 => k_is); (case k12 => k_is); (case a13 => k_is); (case l13 => k_is); (case c13 => k_is); (case k13 => k_is); (case a14 => k_is); (case l14 => k_is); (case c14 => k_is); (case k14 => k_is); (case a15 => k_is); (case l15 => k_is); (case c15 => k_is); (case k15 => k_is); (case a16 => k_is); (case l16 => k_is); (case c16 => k_is); (case k16 => k_is); (case a17 => k_is); (case l17 => k_is); (case c17 => k_is); (case k17 => k_is); (case a18 => k_is); (case l18 => k_is); (case c18 => k_is); (case k18 => k_is); (case a19 => k_is); (case l19 => k_is); (case c19 => k_is); (case k19 => k_is); (case a20 => k_is); (case l20 => k_is); (case c20 => k_is); (case k20 => k_is); (case a21 => k_is); (case l21 => k_is); (case c21 => k_is); (case k21 => k_is); (case a22 => k_is); (case l22 => k_is); (case c22 => k_is); (case k22 => k_is); (case a23 => k_is); (case l23 => k_is); (case c23 => k_is); (case k23 => k_is); (case z1 => k_is); (case z2 => k_is); (case z3 => k_is); (case z4 => k_is); (case z5 => k_is); (case z6 => k_is); (case z7 => k_is); (case z8 => k_is); (case z9 => k_is); (case z10 => k_is); (case z11 => k_is); (case v1 => k_is); (case v2 => k_is); (case v3 => k_is)
