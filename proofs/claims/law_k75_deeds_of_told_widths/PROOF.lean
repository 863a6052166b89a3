import PyProof.Rows.All
import Wide.All
import OpenK.AllK
import Wide.FinOn
import HandS.ForMost
import HandS.Wide
import HandS.WideBits
import HandS.Zip
import HandS.Walk
import HandS.IsInst
import HandS.Defaults
import KE.GoesEnum
import HandS.Codes
import HandS.Style
import HandS.SortInts
import HandS.Replace
import HandS.Conv
import PyProof.ReprRoads
import HandS.RaiseMore
import HandS.AnyAll
import KE.DataMinMax
import KE.DataFind
import KE.KDictList
import HandS.DictComp
import PySem.Challenge.RW_sideswaps_k75_deeds_of_told_widths
set_option Elab.async false
set_option linter.all false
set_option maxRecDepth 100000
set_option maxHeartbeats 4000000
/-! Own rules over the hand layer: a great power, zip of two texts, enumerate of a text. -/
namespace Sw
open PySem PySem.Spec PyProof.Rows L2
/-- a ** n while the answer stays small enough -/
def CPowW (i j : Int) : Prop := 0 ≤ j ∧ (Builtin.Int.intBits i : Int) * j ≤ 2 ^ 27
theorem op_powW {X : Cx} : OpR X (binaryOp .Pow) (rI CPowW fun i j => .int (i ^ j.toNat)) :=
  opI fun _ _ _ _ _ _ _ hc q => pow_int hc.1 hc.2 q

/-! ### two texts side by side -/
/-- new pairs of the signs of x and y that stand at one place -/
def Itzs (x y : Str) : It :=
  ⟨fun i _ => i < min x.cps.size y.cps.size,
   fun i H v H' => ∃ T c d, v = .ref T ∧ H T = none ∧ H' = upd H T (.tup [.str ⟨#[c]⟩, .str ⟨#[d]⟩]) ∧ x.cps[i]? = some c ∧ y.cps[i]? = some d,
   fun i _ => min x.cps.size y.cps.size ≤ i⟩
theorem turn_zipS {P : Program} {w : World} {K : PySem.W.Frag} {elts : List Expr} {kk : Nat} {tpos : Pos} {z TI TO i1 i2 : Addr} (x y : Str) (t u : Tok) (S : ZipSep2 z TI TO i1 i2 [i1] [i2]) :
    Turn P w K (.Tuple elts kk tpos) (Itzs x y) [z, TI, TO, i1, i2] z
      (fun i h => i ≤ min x.cps.size y.cps.size ∧ IsZip h z TI TO .none ∧ IsTupOf2 h TI (.ref i1) (.ref i2) ∧ (∃ a b, IsTupOf2 h TO a b) ∧ h.IsStrIter i1 (strIterType x) x t i ∧ h.IsStrIter i2 (strIterType y) y u i) where
  mem := by simp
  obj := fun i h st c hc => by
    obtain ⟨_, hz, hTI, ⟨a, b, hTO⟩, ⟨o1, e1, _, d1⟩, ⟨o2, e2, _, d2⟩⟩ := st
    have cs : c = z ∨ c = TI ∨ c = TO ∨ c = i1 ∨ c = i2 := by simpa using hc
    rcases cs with rfl | rfl | rfl | rfl | rfl
    · exact ⟨_, hz, fun v q => by cases q⟩
    · exact ⟨_, hTI, fun v q => by cases q⟩
    · exact ⟨_, hTO, fun v q => by cases q⟩
    · exact ⟨o1, e1, fun v q => by rw [d1] at q; cases q⟩
    · exact ⟨o2, e2, fun v q => by rw [d2] at q; cases q⟩
  keep := fun i h h' st k => by
    obtain ⟨hle, hz, hTI, ⟨a, b, hTO⟩, h1, h2⟩ := st
    refine ⟨hle, k z (by simp) _ hz, k TI (by simp) _ hTI, ⟨a, b, k TO (by simp) _ hTO⟩, ?_, ?_⟩
    · obtain ⟨o, ho, r⟩ := h1; exact ⟨o, k i1 (by simp) o ho, r⟩
    · obtain ⟨o, ho, r⟩ := h2; exact ⟨o, k i2 (by simp) o ho, r⟩
  item := by
    intro X hP hw hK hc i pins s σ H E I hf st hg
    subst hP hw hK
    obtain ⟨hle, hz, hTI, ⟨a, b, hTO⟩, h1, h2⟩ := st
    have hg' : i < min x.cps.size y.cps.size := hg
    have hx : i < x.cps.size := by omega
    have hy : i < y.cps.size := by omega
    have hh := I.ok.hd hc
    have D1 := Draws.text (prog := X.prog) (w := X.w) (A := X.A.in1) hh i1 x t
    have D2 := Draws.text (prog := X.prog) (w := X.w) (A := X.A.in1) hh i2 y u
    have hzl : z < s.heap.objs.size := Heap.lt_size hz
    refine wpAny_pyNext_zipD2_item S D1 D2 hz hTI hTO h1 h2 hx hy fun v1 v2 h' tk p1 p2 z' TO' h1' h2' hT hsz hk => ?_
    obtain ⟨c, t1, hc1, rfl⟩ := p1
    obtain ⟨d, t2, hd1, rfl⟩ := p2
    refine ⟨_, rfl, wpAny_letOwnedTupleGo_zip (s := { s with heap := h', toks := tk }) z' fun h'' z'' sb => ?_⟩
    have hT2 := (sb.2 _ (Nat.ne_of_gt hzl)).trans hT
    have new : ObjOk X.prog X.w (upd H s.heap.objs.size (.tup [.str ⟨#[c]⟩, .str ⟨#[d]⟩])) h'' s.heap.objs.size (.tup [.str ⟨#[c]⟩, .str ⟨#[d]⟩]) :=
      ⟨by show 2 ≤ sizeLine; decide, [.str ⟨#[c]⟩ t1, .str ⟨#[d]⟩ t2], .cons ⟨_, rfl⟩ (.cons ⟨_, rfl⟩ .nil), ⟨_, hT2, rfl, _, rfl⟩⟩
    have off : ∀ {c : Addr}, c ∉ [z, TI, TO, i1, i2] → c ≠ z ∧ c ≠ TO ∧ c ≠ i1 ∧ c ≠ i2 := fun {c} hb => by
      simp only [List.mem_cons, List.not_mem_nil, or_false, not_or] at hb
      exact ⟨hb.1, hb.2.2.1, hb.2.2.2.1, hb.2.2.2.2⟩
    have I1 := I.turnedNew (h' := h'') (t' := tk) (ch := [z, TI, TO, i1, i2]) (fun c o hb q => by
      obtain ⟨n1, n2, n3, n4⟩ := off hb
      exact (sb.2 c n1).trans (hk c o n1 n2 n3 n4 q)) hf (Nat.le_refl _) new
    refine ⟨.ref s.heap.objs.size, _, I1, rfl, ⟨_, c, d, rfl, I.hok.fresh (Nat.le_refl _), rfl, hc1, hd1⟩, ⟨by omega, z'', ?_, ⟨_, _, (sb.2 _ S.TOz).trans TO'⟩, ?_, ?_⟩, fun c hcm => ?_⟩
    · exact (sb.2 _ S.TIz).trans (hk _ _ S.TIz S.TITO S.TIi1 S.TIi2 hTI)
    · obtain ⟨o, ho, r⟩ := h1'; exact ⟨o, (sb.2 _ (fun e => S.zi1 e.symm)).trans ho, r⟩
    · obtain ⟨o, ho, r⟩ := h2'; exact ⟨o, (sb.2 _ (fun e => S.zi2 e.symm)).trans ho, r⟩
    · have hlt : c < s.heap.objs.size := by
        have cs : c = z ∨ c = TI ∨ c = TO ∨ c = i1 ∨ c = i2 := by simpa using hcm
        rcases cs with rfl | rfl | rfl | rfl | rfl
        · exact hzl
        · exact Heap.lt_size hTI
        · exact Heap.lt_size hTO
        · obtain ⟨_, e1, _⟩ := h1; exact Heap.lt_size e1
        · obtain ⟨_, e2, _⟩ := h2; exact Heap.lt_size e2
      rw [upd_ne (Nat.ne_of_lt hlt)]
      exact (hf c hcm).1
  done := by
    intro X hP hw hK hc i pins s σ H E I hf st hg
    subst hP hw hK
    obtain ⟨hle, hz, hTI, ⟨a, b, hTO⟩, h1, h2⟩ := st
    have hg' : min x.cps.size y.cps.size ≤ i := hg
    have hh := I.ok.hd hc
    have D1 := Draws.text (prog := X.prog) (w := X.w) (A := X.A.in1) hh i1 x t
    have D2 := Draws.text (prog := X.prog) (w := X.w) (A := X.A.in1) hh i2 y u
    refine wpAny_pyNext_zipD2_end S D1 D2 hz hTI hTO h1 h2 (by omega) (by omega) (by omega) fun h' tk hk => ⟨rfl, I.turnedL (t' := tk) (ch := [z, TI, TO, i1, i2]) (fun c o hb q => ?_) hf⟩
    simp only [List.mem_cons, List.not_mem_nil, or_false, not_or] at hb
    exact hk c o hb.1 hb.2.2.1 hb.2.2.2.1 hb.2.2.2.2 q
  self := fun A i s Q E st h => wpAny_pyIter_zip st.2.1 h
def iZipS (ta : TA) : TI := fun σ H R => ta σ H fun vs H1 => ∃ x y, vs = [.str x, .str y] ∧ R (Itzs x y) H1
theorem pi_zipS {X : Cx} {e e2 : Expr} {ta : TA} {p pos tpos : Pos} {elts : List Expr} {kk : Nat} (hg : Gl X "zip") (hm : X.mg "zip" = none) (ha : PA X [e, e2] ta)
    (hs : starEach [e, e2] X.env = (false, eval e X.env) :: starEach [e2] X.env := by rfl) (hpl : (backTo pos (starEach [e2] X.env)).any (·.1) = false := by rfl) :
    PI X (.Tuple elts kk tpos) (.Call (.Name "zip" p) [e, e2] [] pos) (iZipS ta) := by
  refine ⟨fun pins s σ H R I h => ?_⟩
  refine Call_ (ld_blt I hg hm PyProof.Rows.boot_zip (PyProof.Rows.callWith_type1 (thn (ha.run pos pins s σ H _ I h) fun us s1 ⟨vs, H1, I1, r1, q1⟩ => ?_) hs hpl))
  obtain ⟨x, y, ex, q⟩ := q1
  subst ex
  cases r1 with
  | cons r rr =>
    cases rr with
    | cons r' rr =>
    cases rr
    obtain ⟨t, rfl⟩ := r
    obtain ⟨u, rfl⟩ := r'
    refine zip_begins2 (begins_text x t) (begins_text y u) trivial trivial fun h' hz hTI hTO h1 h2 hsz hk => wpAny_pyIter_zip hz ?_
    have I2 : Inv X pins σ H1 { s1 with heap := h' } := I1.kept (t' := s1.toks) hk
    refine ⟨s1.heap.objs.size + 4, [s1.heap.objs.size + 4, s1.heap.objs.size + 2, s1.heap.objs.size + 3, s1.heap.objs.size, s1.heap.objs.size + 1], _, _, H1, rfl, I2,
      turn_zipS x y t u (zip_sep2 (by simp) (by simp)), ⟨Nat.zero_le _, hz, hTI, ⟨_, _, hTO⟩, ⟨_, h1, rfl, rfl⟩, ⟨_, h2, rfl, rfl⟩⟩, fun c hcm => ?_, q⟩
    have hle : s1.heap.objs.size ≤ c := by
      have cs : c = s1.heap.objs.size + 4 ∨ c = s1.heap.objs.size + 2 ∨ c = s1.heap.objs.size + 3 ∨ c = s1.heap.objs.size ∨ c = s1.heap.objs.size + 1 := by simpa using hcm
      rcases cs with e | e | e | e | e <;> rw [e] <;> first | exact Nat.le_refl _ | exact Nat.le_add_right _ _
    exact I1.fpOk hle (I1.hok.fresh hle)
/-- its turns -/
theorem walk_zipS {x y : Str} : Walk (Itzs x y) (min x.cps.size y.cps.size) (fun _ => True) (YPair (fun i => (x.cps[i]?).map fun c => V.str ⟨#[c]⟩) (fun i => (y.cps[i]?).map fun c => V.str ⟨#[c]⟩)) :=
  ⟨fun _ _ hi _ => hi, fun _ _ => Nat.le_refl _, fun i H v H' _ _ yy => by
    obtain ⟨T, c, d, h1, h2, h3, h4, h5⟩ := yy
    exact ⟨T, _, _, h1, h2, h3, by simp [h4], by simp [h5]⟩⟩

/-! ### a text by its places -/
def Ites (x : Str) : It :=
  ⟨fun i _ => i < x.cps.size, fun i H v H' => ∃ T c, v = .ref T ∧ H T = none ∧ H' = upd H T (.tup [.int (i : Nat), .str ⟨#[c]⟩]) ∧ x.cps[i]? = some c, fun i _ => x.cps.size ≤ i⟩
theorem turn_enumS {P : Program} {w : World} {K : PySem.W.Frag} {elts : List Expr} {kk : Nat} {tpos : Pos} (e it : Addr) (x : Str) (t : Tok) (hei : e ≠ it) :
    Turn P w K (.Tuple elts kk tpos) (Ites x) [e, it] e (fun i h => i ≤ x.cps.size ∧ (∃ old, IsEnum h e it ((i : Nat) : Int) old) ∧ h.IsStrIter it (strIterType x) x t i) where
  mem := by simp
  obj := fun i h st b hb => by
    obtain ⟨_, ⟨old, he⟩, ⟨o, ho, hc, hd⟩⟩ := st
    have cs : b = e ∨ b = it := by simpa using hb
    rcases cs with rfl | rfl
    · exact ⟨_, he, fun v q => by cases q⟩
    · exact ⟨o, ho, fun v q => by rw [hd] at q; cases q⟩
  keep := fun i h h' st k => by
    obtain ⟨hle, ⟨old, he⟩, ⟨o, ho, r⟩⟩ := st
    exact ⟨hle, ⟨old, k e (by simp) _ he⟩, ⟨o, k it (by simp) o ho, r⟩⟩
  item := by
    intro X hP hw hK hc i pins s σ H E I hf st hg
    subst hP hw hK
    obtain ⟨hle, ⟨old, he⟩, hit⟩ := st
    have hg' : i < x.cps.size := hg
    have D := Draws.text (prog := X.prog) (w := X.w) (A := X.A.in1) (I.ok.hd hc) it x t
    have hel : e < s.heap.objs.size := Heap.lt_size he
    have hil : it < s.heap.objs.size := by obtain ⟨_, q, _⟩ := hit; exact Heap.lt_size q
    have hei2 : e ∉ [it] := by simpa using hei
    refine wpAny_pyNext_enum_itemD D he hit hg' hei hei2 fun v h' tk p ho hit' hT hsz hk => ?_
    obtain ⟨c, t1, hc1, rfl⟩ := p
    refine ⟨_, rfl, wpAny_letOwnedTupleGo_enum (s := { s with heap := h', toks := tk + 1 }) ho fun h'' he' sb => ?_⟩
    have hT2 := (sb.2 _ (Nat.ne_of_gt hel)).trans hT
    have new : ObjOk X.prog X.w (upd H s.heap.objs.size (.tup [.int (i : Nat), .str ⟨#[c]⟩])) h'' s.heap.objs.size (.tup [.int (i : Nat), .str ⟨#[c]⟩]) :=
      ⟨by show 2 ≤ sizeLine; decide, [.int i tk, .str ⟨#[c]⟩ t1], .cons ⟨_, rfl⟩ (.cons ⟨_, rfl⟩ .nil), ⟨_, hT2, rfl, _, rfl⟩⟩
    have I1 := I.turnedNew (h' := h'') (t' := tk + 1) (ch := [e, it]) (fun b ob hb q => by
      simp only [List.mem_cons, List.not_mem_nil, or_false, not_or] at hb
      exact (sb.2 b hb.1).trans (hk b ob hb.1 hb.2 q)) hf (Nat.le_refl _) new
    refine ⟨.ref s.heap.objs.size, _, I1, rfl, ⟨_, c, rfl, I.hok.fresh (Nat.le_refl _), rfl, hc1⟩, ⟨by omega, ⟨.str ⟨#[c]⟩ t1, ?_⟩, ?_⟩, fun b hb => ?_⟩
    · have e1 : ((i + 1 : Nat) : Int) = (i : Int) + 1 := by omega
      rw [e1]; exact he'
    · obtain ⟨o, ho', r⟩ := hit'; exact ⟨o, (sb.2 it (Ne.symm hei)).trans ho', r⟩
    · have hb' : b < s.heap.objs.size := by
        have cs : b = e ∨ b = it := by simpa using hb
        rcases cs with rfl | rfl
        · exact hel
        · exact hil
      rw [upd_ne (Nat.ne_of_lt hb')]
      exact (hf b hb).1
  done := by
    intro X hP hw hK hc i pins s σ H E I hf st hg
    subst hP hw hK
    obtain ⟨hle, ⟨old, he⟩, hit⟩ := st
    have hg' : x.cps.size ≤ i := hg
    have ei : i = x.cps.size := Nat.le_antisymm hle hg'
    subst ei
    have D := Draws.text (prog := X.prog) (w := X.w) (A := X.A.in1) (I.ok.hd hc) it x t
    obtain ⟨f0, f1, f2, f3, f4, f5⟩ := hf it (by simp)
    exact wpAny_pyNext_enum_endD D he hit fun h' eb => ⟨rfl, I.turned (t' := s.toks) (fun b o hb q => eb b o hb q) f0 f1 f3 f4 f5⟩
  self := fun A i s Q E st h => by
    obtain ⟨_, ⟨old, he⟩, _⟩ := st
    exact wpAny_pyIter_enum he h
def iEnumS (ta : TA) : TI := fun σ H R => ta σ H fun vs H1 => ∃ x, vs = [.str x] ∧ R (Ites x) H1
theorem pi_enumS {X : Cx} {e : Expr} {ta : TA} {p pos tpos : Pos} {elts : List Expr} {kk : Nat} (hg : Gl X "enumerate") (hm : X.mg "enumerate" = none) (ha : PA X [e] ta) (hs : starEach [e] X.env = [(false, eval e X.env)] := by rfl) :
    PI X (.Tuple elts kk tpos) (.Call (.Name "enumerate" p) [e] [] pos) (iEnumS ta) := by
  refine ⟨fun pins s σ H R I h => ?_⟩
  refine Call_ (ld_blt I hg hm boot_enumerate (PyProof.Rows.callWith_type1 (thn (ha.run pos pins s σ H _ I h) fun us s1 ⟨vs, H1, I1, r1, q1⟩ => ?_) hs rfl))
  obtain ⟨x, ex, q⟩ := q1
  subst ex
  cases r1 with
  | cons r rr =>
    cases rr
    obtain ⟨t, rfl⟩ := r
    refine call_enumerate_str fun h' he hit hsz hk => wpAny_pyIter_enum he ?_
    have I2 : Inv X pins σ H1 { s1 with heap := h' } := I1.kept (t' := s1.toks) hk
    refine ⟨s1.heap.objs.size + 1, [s1.heap.objs.size + 1, s1.heap.objs.size], _, _, H1, rfl, I2, turn_enumS (s1.heap.objs.size + 1) s1.heap.objs.size x t (Nat.succ_ne_self _), ⟨Nat.zero_le _, ⟨.none, he⟩, hit⟩, fun b hb => ?_, q⟩
    have hle : s1.heap.objs.size ≤ b := by
      have cs : b = s1.heap.objs.size + 1 ∨ b = s1.heap.objs.size := by simpa using hb
      rcases cs with e | e <;> rw [e] <;> first | exact Nat.le_refl _ | exact Nat.le_add_right _ _
    exact I1.fpOk hle (I1.hok.fresh hle)
theorem walk_enumS {x : Str} : Walk (Ites x) x.cps.size (fun _ => True) (YPair (fun i => some (.int (i : Nat))) (fun i => (x.cps[i]?).map fun c => V.str ⟨#[c]⟩)) :=
  ⟨fun _ _ hi _ => hi, fun _ _ => Nat.le_refl _, fun i H v H' _ _ yy => by
    obtain ⟨T, c, h1, h2, h3, h4⟩ := yy
    exact ⟨T, _, _, h1, h2, h3, rfl, by simp [h4]⟩⟩
end Sw
namespace Sw
open PySem PySem.Spec PyProof.Rows L2
/-! ### the rules that speak of the written part, the part named (within a comprehension) -/
section
variable {X : Cx} (K : PySem.W.Frag)
theorem call_lenK (h : X.K = K := by rfl) : CallR X (.builtin "len") (fun xs H Q => ∃ x n, xs = [x] ∧ LenV K x H n ∧ Q (.int n) H) := h ▸ call_len
theorem call_len_seqK (h : X.K = K := by rfl) : CallR X (.builtin "len") (fun xs H Q => ∃ p ys, xs = [.ref p] ∧ (SqL K H p ys ∨ SqT K H p ys) ∧ Q (.int ys.length) H) := h ▸ call_len_seq
theorem ix_listK (h : X.K = K := by rfl) : IxR X (rIxL K) := h ▸ ix_list
theorem ix_tupK (h : X.K = K := by rfl) : IxR X (rIxT K) := h ▸ ix_tup
theorem op_in_seqK (h : X.K = K := by rfl) : OpR X (compareOp .In) (rIn K false) := h ▸ op_in_seq
theorem sl_listK (h : X.K = K := by rfl) : SlR X (rSlL K) := h ▸ sl_list
theorem cr_sumK (hc : X.calm = true) (h : X.K = K := by rfl) : CallR X (.builtin "sum") (rSum K) := h ▸ cr_sum hc
theorem cr_allK (hc : X.calm = true) (h : X.K = K := by rfl) : CallR X (.builtin "all") (rAll K) := h ▸ cr_all hc
theorem call_isiK (h : X.K = K := by rfl) : CallR X (.builtin "isinstance") (rIsi K) := h ▸ call_isi
theorem pg_tupK {es : List Expr} {k n : Nat} {t : TGs} {pos : Pos} (hc : X.calm = true) (h : PGs X es t) (hK : X.K = K := by rfl)
    (hn : (assignEach es X.env).length = n := by rfl) (hst : (assignEach es X.env).findIdx? (·.1) = none := by rfl) : PG X (.Tuple es k pos) (gTup K n t) := hK ▸ pg_tup hc h hn hst
end
/-- f(k = v, ..), nothing by place -/
theorem pe_callN0 {X : Cx} {CX : CXT} {k : Nat} {f : Addr} {fd : FuncData} {ps ks : List Str} {sp : Sp} {E : XK} {x : Str} {p pos : Pos} {kws : List Keyword} {tk : TA} {g : List Value → List Value → List Value} {gV : List V → List V → List V}
    (F : FnOk X.prog X.w X.K X.mg X.base CX k f fd ps sp) (hr : Room k X.A) (hg : Gl X x) (hm : X.mg x = some (.ref f)) (hk : PySem.W.keepIn X.K (.ref f) = true) (hb : KBn X.K fd ps 0 ks g gV) (hx : Passes CX X E) (hkw : PK X kws tk)
    (hall : (backToKw pos (keywordEach kws X.env)).all (·.1.isSome) = true := by rfl) (hks : (backToKw pos (keywordEach kws X.env)).filterMap (·.1) = ks := by rfl) (hdb : (x == ("__debug__" : Str)) = false := by decide)
    (hpl : ((backTo pos (starEach [] X.env)).any (·.1) || (backToKw pos (keywordEach kws X.env)).any (·.1.isNone)) = false := by rfl) :
    PE X (.Call (.Name x p) [] kws pos) (tCallN 0 ks.length sp gV E tNil tk) := by
  refine ⟨fun pins s σ H Q I h => wpAny_Call_Name_kw (ld_glob I hg hm ?_ hdb)⟩
  refine PySem.W.callWith_KW0 (h₀ := X.base) I.ok.mod.kin hk hall (thn (hkw.run pos pins s σ H _ I h) fun ws s2 ⟨zs, H2, I2, rz, l1, l2, q2⟩ => ⟨I2.kIn, ?_⟩) hpl
  rw [hks]
  exact run_fnN (us := []) F hr hb hx I2 .nil rz l1 l2 q2
end Sw
/-! Words as lists of signs; what a def keeps of the heap; draws. -/
namespace Sw
open PySem PySem.Spec PyProof.Rows L2
/-- the text of these signs -/
abbrev S (l : List Nat) : Str := SX.S l
/-- all that was tracked is as it was, but for what stands at g -/
def But (g : Addr) (H H' : Hp) : Prop := ∀ b o, b ≠ g → H b = some o → H' b = some o
theorem But.refl (g : Addr) (H : Hp) : But g H H := fun _ _ _ h => h
theorem But.trans {g : Addr} {H H1 H2 : Hp} (a : But g H H1) (b : But g H1 H2) : But g H H2 := fun c o n h => b c o n (a c o n h)
theorem But.same {g : Addr} {H H' : Hp} (a : Same H H') : But g H H' := fun c o _ h => a c o h
theorem But.upd {g : Addr} {H : Hp} {o : HO} : But g H (upd H g o) := fun c u n h => by rw [upd_ne n]; exact h
theorem Same.upd {H : Hp} {p : Addr} {o : HO} (hp : H p = none) : Same H (upd H p o) := fun c u h => by rw [upd_ne (ne_of_none h hp)]; exact h
theorem But.new {g p : Addr} {H H1 : Hp} {o : HO} (a : But g H H1) (hp : H1 p = none) : But g H (L2.upd H1 p o) := a.trans (.same (Same.upd hp))
theorem But.seq {K : PySem.W.Frag} {g a : Addr} {H H' : Hp} {xs : List V} (e : But g H H') (n : a ≠ g) (h : SqL K H a xs) : SqL K H' a xs := by
  rcases h with (h | ⟨o, h⟩) | h
  · exact .inl (.inl (e _ _ n h))
  · exact .inl (.inr ⟨o, e _ _ n h⟩)
  · exact .inr h
/-- the drawing state: what is left of the seed, its hash's part, how many were drawn -/
def GenAt (H : Hp) (g : Addr) (n : Nat) : Prop := ∃ x y z : Int, H g = some (.lst [.int x, .int y, .int z]) ∧ (0 ≤ x ∧ x.natAbs < 2 ^ 2000) ∧ (0 ≤ y ∧ y < 2147483647) ∧ (0 ≤ z ∧ z ≤ (n : Int))
theorem GenAt.same {H H' : Hp} {g : Addr} {n : Nat} (e : Same H H') (h : GenAt H g n) : GenAt H' g n := by
  obtain ⟨x, y, z, h0, r⟩ := h
  exact ⟨x, y, z, e _ _ h0, r⟩
theorem GenAt.mono {H : Hp} {g : Addr} {n m : Nat} (h : GenAt H g n) (l : n ≤ m) : GenAt H g m := by
  obtain ⟨x, y, z, h0, hx, hy, hz⟩ := h
  exact ⟨x, y, z, h0, hx, hy, hz.1, by omega⟩
theorem GenAt.new {H : Hp} {g p : Addr} {n : Nat} {o : HO} (h : GenAt H g n) (hp : H p = none) : GenAt (upd H p o) g n := h.same (Same.upd hp)
theorem GenAt.ne {H : Hp} {g p : Addr} {n : Nat} (h : GenAt H g n) (hp : H p = none) : p ≠ g := by
  obtain ⟨x, y, z, h0, _⟩ := h
  exact (ne_of_none h0 hp).symm
/-! ### signs -/
def signB (c : Nat) : Bool := decide (97 ≤ c) && decide (c ≤ 122)
def wordB (l : List Nat) : Bool := l.all signB
def ascB (l : List Nat) : Bool := (l.zip l.tail).all fun p => decide (p.1 < p.2)
def jointsB (l : List Nat) : Bool := wordB l && ascB l
theorem one_lt {c d : Nat} : (([c] : List Nat) < [d]) ↔ c < d := by
  constructor
  · intro h
    cases h with
    | rel h => exact h
    | cons h => cases h
  · exact fun h => List.Lex.rel h
theorem sign_chain (c : Nat) : (if (!decide ((⟨#[c]⟩ : Str).cps.toList < (Str.ofString "a").cps.toList)) = true then !decide ((Str.ofString "z").cps.toList < (⟨#[c]⟩ : Str).cps.toList) else false) = signB c := by
  have e1 : (Str.ofString "a").cps.toList = [97] := by decide +kernel
  have e2 : (Str.ofString "z").cps.toList = [122] := by decide +kernel
  rw [e1, e2]
  show (if (!decide (([c] : List Nat) < [97])) = true then !decide (([122] : List Nat) < [c]) else false) = signB c
  unfold signB
  simp only [one_lt]
  by_cases h1 : c < 97
  · simp [h1, Nat.not_le.mpr h1]
  · by_cases h2 : 122 < c
    · simp [h1, h2]
    · simp [h1, h2, Nat.not_lt.mp h1, Nat.not_lt.mp h2]
theorem size_S {l : List Nat} : (S l).cps.size = l.length := by simp [SX.S]
theorem at_S {l : List Nat} {i : Nat} : (S l).cps[i]? = l[i]? := by simp [SX.S]
theorem len_S (l : List Nat) : (S l).length = l.length := SX.S_len l
theorem take_snoc {α : Type} {l : List α} {i : Nat} {x : α} (h : l[i]? = some x) : l.take (i + 1) = l.take i ++ [x] := by
  rw [List.take_add_one, h]
  rfl
end Sw
namespace Sw
open PySem PySem.Spec PyProof.Rows L2
theorem small_line {n : Nat} (h : n ≤ 100000) : n < sizeLine := Nat.lt_of_le_of_lt h (by decide)
theorem small_le {n : Nat} (h : n ≤ 100000) : n ≤ sizeLine := Nat.le_of_lt (small_line h)
end Sw
namespace Sw
open PySem PySem.Spec PyProof.Rows L2
/-! ### slices of texts -/
theorem cutS_from {l : List Nat} {i : Int} (h : 0 ≤ i) : cutS (S l) (some i) none = S (l.drop i.toNat) := by
  rw [C8.cutS_slice]; exact SX.slice_from h
theorem cutS_to {l : List Nat} {i : Int} (h : 0 ≤ i) : cutS (S l) none (some i) = S (l.take i.toNat) := by
  rw [C8.cutS_slice]; exact SX.slice_to h
end Sw
namespace Sw
open PySem PySem.Spec PyProof.Rows L2
theorem zip_tail {l : List Nat} {i c d : Nat} (h1 : l[i]? = some c) (h2 : (l.drop (1 : Int).toNat)[i]? = some d) : (l.zip l.tail)[i]? = some (c, d) := by
  rw [List.getElem?_zip_eq_some]
  refine ⟨h1, ?_⟩
  have e : l.drop (1 : Int).toNat = l.tail := List.drop_one
  rw [e] at h2
  exact h2
theorem zip_size {l : List Nat} : min (S l).cps.size (S (l.drop (1 : Int).toNat)).cps.size = (l.zip l.tail).length := by
  rw [size_S, size_S, List.length_zip]
  have e : l.drop (1 : Int).toNat = l.tail := List.drop_one
  rw [e]
theorem one_lt_S {c d : Nat} : decide ((⟨#[c]⟩ : Str).cps.toList < (⟨#[d]⟩ : Str).cps.toList) = decide (c < d) := by
  show decide (([c] : List Nat) < [d]) = decide (c < d)
  simp only [one_lt]
end Sw
namespace Sw
open PySem PySem.Spec PyProof.Rows L2
theorem cutS_mid {l : List Nat} {i j : Nat} (h : i ≤ j) (hj : j ≤ l.length) : cutS (S l) (some (i : Int)) (some (j : Int)) = S ((l.drop i).take (j - i)) := by
  unfold cutS
  rw [HT.sIx_nat, HT.sIx_nat, len_S, Nat.min_eq_left hj, Nat.min_eq_left (Nat.le_trans h hj)]
/-! ### the first place of a sign -/
open PySem.StrLaws in
theorem occ_full (s sub : Str) (hi : Nat) (p : Nat) : ∀ (l : List Nat) (f : Nat), (forIn l ((#[p] : Array Nat), f) (occBody s sub hi 1)).run.fst = #[p]
  | [], f => rfl
  | a :: l, f => by
    rw [List.forIn_cons]
    unfold occBody
    rw [if_neg (by simp)]
    exact occ_full s sub hi p l f
open PySem.StrLaws in
theorem occ_to (s sub : Str) (hi p : Nat) (hp : p + sub.length ≤ hi) (hs : Builtin.Str.subAt s sub p = true) : ∀ (n a f : Nat), f ≤ a → a ≤ p → p < a + n → (∀ i, a ≤ i → i < p → ¬ Builtin.Str.subAt s sub i = true) →
    (forIn (List.range' a n) ((#[] : Array Nat), f) (occBody s sub hi 1)).run.fst = #[p]
  | 0, a, f, _, h1, h2, _ => by omega
  | n + 1, a, f, h0, h1, h2, hn => by
    rw [List.range'_succ, List.forIn_cons]
    by_cases e : a = p
    · subst e
      unfold occBody
      rw [if_pos ⟨⟨⟨by simp, h0⟩, hp⟩, hs⟩]
      exact occ_full s sub hi a _ _
    · unfold occBody
      rw [if_neg (fun z => hn a (Nat.le_refl _) (by omega) z.2)]
      exact occ_to s sub hi p hp hs n (a + 1) f (by omega) (by omega) (by omega) fun i h3 h4 => hn i (by omega) h4
theorem first_sign {l : List Nat} {c p : Nat} (h : l[p]? = some c) (hn : ∀ i, i < p → l[i]? ≠ some c) : Builtin.Str.occurrences (S l) (S [c]) 0 (S l).length 1 = [p] := by
  have hp : p < l.length := (List.getElem?_eq_some_iff.mp h).1
  have e1 : (S [c]).length = 1 := rfl
  have at1 := PySem.StrLaws.subAt_one (S l) c
  rw [PySem.StrLaws.occ_eq, occ_to (S l) (S [c]) (S l).length p (by rw [e1, len_S]; omega) ((at1 p).mpr h).2 _ 0 0 (Nat.le_refl _) (Nat.zero_le _) (by rw [len_S]; omega) fun i _ h4 z => hn i h4 ((at1 i).mp ⟨?_, z⟩)]
  show i + 1 ≤ (S l).length
  rw [len_S]
  omega
end Sw
namespace Sw
open PySem PySem.Spec PyProof.Rows L2
/-! ### the deed -/
def swapL (l : List Nat) (p : Nat) : List Nat := l.drop (p + 1) ++ (l.drop p).take 1 ++ l.take p
theorem drop_one {l : List Nat} {p c : Nat} (h : l[p]? = some c) : (l.drop p).take 1 = [c] := by
  obtain ⟨hp, e⟩ := List.getElem?_eq_some_iff.mp h
  rw [List.drop_eq_getElem_cons hp, e]
  rfl
theorem swapL_one {l : List Nat} {p c : Nat} (h : l[p]? = some c) : swapL l p = l.drop (p + 1) ++ [c] ++ l.take p := by
  unfold swapL
  rw [drop_one h]
theorem swapL_len {l : List Nat} {p : Nat} (h : p < l.length) : (swapL l p).length = l.length := by
  unfold swapL
  simp
  omega
theorem swapL_mem {l : List Nat} {p c : Nat} (h : c ∈ swapL l p) : c ∈ l := by
  unfold swapL at h
  rcases List.mem_append.mp h with h | h
  · rcases List.mem_append.mp h with h | h
    · exact List.mem_of_mem_drop h
    · exact List.mem_of_mem_drop (List.mem_of_mem_take h)
  · exact List.mem_of_mem_take h
/-- at the place counted from the end the same sign, and its deed leads back -/
theorem swapL_at {l : List Nat} {p : Nat} (h : p < l.length) : (swapL l p)[l.length - 1 - p]? = l[p]? := by
  have hc : l[p]? = some l[p] := List.getElem?_eq_getElem h
  rw [swapL_one hc, hc, List.append_assoc, List.getElem?_append_right (by rw [List.length_drop]; omega), List.length_drop, show l.length - 1 - p - (l.length - (p + 1)) = 0 by omega]
  rfl
theorem swapL_back {l : List Nat} {p : Nat} (h : p < l.length) : swapL (swapL l p) (l.length - 1 - p) = l := by
  have hc : l[p]? = some l[p] := List.getElem?_eq_getElem h
  rw [swapL_one ((swapL_at h).trans hc), swapL_one hc]
  have e1 : (l.drop (p + 1)).length = l.length - 1 - p := by rw [List.length_drop]; omega
  have e2 : (l.drop (p + 1) ++ [l[p]]).length = l.length - 1 - p + 1 := by rw [List.length_append, e1]; rfl
  rw [List.drop_left' e2, List.append_assoc (l.drop (p + 1)), List.take_left' e1, List.append_assoc]
  rw [List.singleton_append, ← List.drop_eq_getElem_cons h, List.take_append_drop]
/-- the places at which a joint stands -/
def openL (l js : List Nat) : List Nat := (List.range l.length).filter fun i => (l[i]?).any fun c => decide (c ∈ js)
theorem openL_len (l js : List Nat) : (openL l js).length ≤ l.length := by
  unfold openL
  have h := List.length_filter_le (fun i => (l[i]?).any fun c => decide (c ∈ js)) (List.range l.length)
  rw [List.length_range] at h
  exact h
theorem openL_snoc {l : List Nat} (js : List Nat) {i c : Nat} (h : l[i]? = some c) : openL (l.take (i + 1)) js = openL (l.take i) js ++ (if c ∈ js then [i] else []) := by
  obtain ⟨hi, e⟩ := List.getElem?_eq_some_iff.mp h
  have l1 : (l.take (i + 1)).length = i + 1 := by rw [List.length_take]; omega
  have l2 : (l.take i).length = i := by rw [List.length_take]; omega
  unfold openL
  rw [l1, l2, List.range_succ, List.filter_append]
  congr 1
  · refine List.filter_congr fun k hk => ?_
    have hk' : k < i := List.mem_range.mp hk
    rw [List.getElem?_take_of_lt (by omega), List.getElem?_take_of_lt hk']
  · rw [List.filter_cons, List.getElem?_take_of_lt (by omega), h]
    by_cases hm : c ∈ js <;> simp [hm]
theorem mem_openL {l js : List Nat} {i : Nat} (h : i ∈ openL l js) : ∃ c, l[i]? = some c ∧ c ∈ js := by
  unfold openL at h
  obtain ⟨_, h2⟩ := List.mem_filter.mp h
  cases e : l[i]? with
  | none => rw [e] at h2; cases h2
  | some c =>
    rw [e] at h2
    exact ⟨c, rfl, of_decide_eq_true h2⟩
end Sw
namespace Sw
open PySem PySem.Spec PyProof.Rows L2
theorem wordB_mem {l : List Nat} (h : wordB l = true) {c : Nat} (hc : c ∈ l) : 97 ≤ c ∧ c ≤ 122 := by
  have q := List.all_eq_true.mp h c hc
  unfold signB at q
  rw [Bool.and_eq_true] at q
  exact ⟨of_decide_eq_true q.1, of_decide_eq_true q.2⟩
theorem wordB_of {l : List Nat} (h : ∀ c ∈ l, 97 ≤ c ∧ c ≤ 122) : wordB l = true := by
  refine List.all_eq_true.mpr fun c hc => ?_
  unfold signB
  rw [decide_eq_true (h c hc).1, decide_eq_true (h c hc).2]
  rfl
theorem underscore : Str.ofString "_" = S [95] := by decide +kernel
/-- the ring with its hole at p, read from behind the hole on -/
theorem ring_hole {l : List Nat} {p c : Nat} (hw : wordB l = true) (hc : l[p]? = some c) :
    Builtin.Str.occurrences (S (l.take p ++ [95] ++ l.drop (p + 1) ++ [c])) (S [95]) 0 (S (l.take p ++ [95] ++ l.drop (p + 1) ++ [c])).length 1 = [p] := by
  obtain ⟨hp, e⟩ := List.getElem?_eq_some_iff.mp hc
  have lt : (l.take p).length = p := by rw [List.length_take]; omega
  refine first_sign ?_ fun i hi z => ?_
  · rw [List.append_assoc, List.append_assoc, List.getElem?_append_right (by omega), lt, Nat.sub_self]
    rfl
  · rw [List.append_assoc, List.append_assoc, List.getElem?_append_left (by omega)] at z
    have := wordB_mem hw (List.mem_of_mem_take (List.mem_of_getElem? z))
    omega
theorem ring_from {l : List Nat} {p c : Nat} (hp : p < l.length) : (l.take p ++ [95] ++ l.drop (p + 1) ++ [c]).drop (p + 1) = l.drop (p + 1) ++ [c] := by
  have lt : (l.take p ++ [95]).length = p + 1 := by rw [List.length_append, List.length_take]; simp; omega
  rw [List.append_assoc, List.drop_left' lt]
theorem ring_to {l : List Nat} {p c : Nat} (hp : p < l.length) : (l.take p ++ [95] ++ l.drop (p + 1) ++ [c]).take p = l.take p := by
  have lt : (l.take p).length = p := by rw [List.length_take]; omega
  rw [List.append_assoc, List.append_assoc, List.take_left' lt]
end Sw
namespace Sw
open PySem PySem.Spec PyProof.Rows L2
theorem cutV_to1 {ns : List Int} : some (HO.lst (cutV (ns.map V.int) none (some 1))) = some (HO.lst ((ns.take 1).map V.int)) := by
  have e : cutV (ns.map V.int) none (some 1) = (ns.map V.int).take 1 := by
    unfold cutV
    rw [HT.sIx_none, show (some (1 : Int)) = some ((1 : Nat) : Int) from rfl, HT.sIx_nat, List.drop_zero, Nat.sub_zero]
    rcases Nat.lt_or_ge (ns.map V.int).length 1 with h | h
    · rw [Nat.min_eq_right (by omega), List.take_length, List.take_of_length_le (by omega)]
    · rw [Nat.min_eq_left h]
  rw [e, List.map_take]
theorem seed_ok (x : Int) : 0 ≤ x % (10 ^ (60 : Int).toNat) ^ (10 : Int).toNat ∧ (x % (10 ^ (60 : Int).toNat) ^ (10 : Int).toNat).natAbs < 2 ^ 2000 := by
  have h0 : (0 : Int) < (10 ^ (60 : Int).toNat) ^ (10 : Int).toNat := by decide +kernel
  have h1 : ((10 ^ (60 : Int).toNat) ^ (10 : Int).toNat : Int).natAbs < 2 ^ 2000 := by decide +kernel
  have a := Int.emod_nonneg x (show ((10 ^ (60 : Int).toNat) ^ (10 : Int).toNat : Int) ≠ 0 by omega)
  have b := Int.emod_lt_of_pos x h0
  exact ⟨a, Nat.lt_of_lt_of_le (by omega) (Nat.le_of_lt h1)⟩
theorem joinL_signs : ∀ ws : List Nat, TL.joinL [] (ws.map fun c => [c]) = ws
  | [] => rfl
  | [c] => rfl
  | c :: d :: r => by
    have ih := joinL_signs (d :: r)
    show [c] ++ ([] ++ TL.joinL [] ((d :: r).map fun c => [c])) = c :: d :: r
    rw [ih]
    rfl
theorem join_signs (ws : List Nat) : Txt.join (Str.ofString "") (ws.map fun c => S [c]) = S ws := by
  have e0 : Str.ofString "" = S [] := by decide +kernel
  have e1 : (ws.map fun c => S [c]) = (ws.map fun c => [c]).map SX.S := by rw [List.map_map]; rfl
  rw [e0, e1, SX.join_S, joinL_signs]
theorem join_bound {ws : List Nat} (h : ws.length ≤ 100000) : ((ws.map fun c => S [c]).map (·.length)).sum + (ws.map fun c => S [c]).length * (Str.ofString "").length ≤ 16777216 := by
  have e0 : (Str.ofString "").length = 0 := by decide +kernel
  have e1 : ((ws.map fun c => S [c]).map (·.length)).sum = ws.length := by
    rw [List.map_map]
    have : ((fun x : Str => x.length) ∘ fun c => S [c]) = fun _ : Nat => 1 := funext fun c => rfl
    rw [this, List.map_const', List.sum_replicate_nat, Nat.mul_one]
  rw [e0, e1]
  omega
theorem alpha_len : (Str.ofString "abcdefghijklmnopqrstuvwxyz").length = 26 := by decide +kernel
theorem alpha_at (i : Nat) (h : i < 26) : (Str.ofString "abcdefghijklmnopqrstuvwxyz").cps[i]? = some (97 + i) := by
  have all : ∀ k : Fin 26, (Str.ofString "abcdefghijklmnopqrstuvwxyz").cps[k.val]? = some (97 + k.val) := by decide +kernel
  exact all ⟨i, h⟩
end Sw
namespace Sw
open PySem PySem.Spec PyProof.Rows L2
/-! ### lists of places compared -/
abbrev placesV (ns : List Nat) : List V := ns.map fun i => V.int (i : Nat)
def placesD (ns : List Nat) : List PyData := ns.map fun i => PyData.int (i : Nat)
theorem places_dp {K : PySem.W.Frag} {H : Hp} : ∀ ns : List Nat, DpAll K H (placesV ns) (placesD ns)
  | [] => .nil
  | n :: r => .cons (.int _) (places_dp r)
theorem places_lay : ∀ ns : List Nat, PyData.canLayAll0 (placesD ns) = true
  | [] => rfl
  | n :: r => by
    show (PyData.canLay0 (.int (n : Nat)) && PyData.canLayAll0 (placesD r)) = true
    rw [places_lay r]
    rfl
theorem places_depth : ∀ ns : List Nat, PyData.depthAll (placesD ns) = 0
  | [] => rfl
  | n :: r => by
    show max (PyData.depth (.int (n : Nat))) (PyData.depthAll (placesD r)) = 0
    rw [places_depth r]
    rfl
theorem places_shaped (ns : List Nat) : SeqAt.shaped (.list (placesD ns)) = true := by
  unfold SeqAt.shaped
  have e : (PyData.list (placesD ns)).depth = 1 := by
    show PyData.depthAll (placesD ns) + 1 = 1
    rw [places_depth]
  have e2 : (PyData.list (placesD ns)).canLay0 = true := places_lay ns
  rw [e, e2]
  rfl
theorem places_eqv (ns : List Nat) : PyData.eqv (.list (placesD ns)) (.list (placesD ns)) = true := PySem.SeqAt.eqv_refl _ (places_lay ns)
/-- a test that two lists of places are unlike, which they are not -/
theorem ne_places {K : PySem.W.Frag} {H : Hp} {a b : Addr} {ns : List Nat} {Q : VK} (ha : SqL K H a (placesV ns)) (hb : SqL K H b (placesV ns)) (q : Q (.bl false) H) : rNeD K (.ref a) (.ref b) H Q := by
  refine ⟨_, _, .lst ha (places_dp ns), .lst hb (places_dp ns), places_shaped ns, places_shaped ns, ?_⟩
  rw [places_eqv]
  exact q
/-- one of three -/
theorem pick3 {a b c r : Int} (h0 : 0 ≤ r) (h1 : r < 3) {m : Int} (ha : 0 ≤ a ∧ a ≤ m) (hb : 0 ≤ b ∧ b ≤ m) (hc : 0 ≤ c ∧ c ≤ m) : ∃ n : Nat, atI [V.int a, V.int b, V.int c] r = some (V.int (n : Nat)) ∧ (n : Int) ≤ m := by
  have e : r = 0 ∨ r = 1 ∨ r = 2 := by omega
  rcases e with rfl | rfl | rfl
  · exact ⟨a.toNat, by show some (V.int a) = _; rw [Int.toNat_of_nonneg ha.1], by omega⟩
  · exact ⟨b.toNat, by show some (V.int b) = _; rw [Int.toNat_of_nonneg hb.1], by omega⟩
  · exact ⟨c.toNat, by show some (V.int c) = _; rw [Int.toNat_of_nonneg hc.1], by omega⟩
theorem ascB_of {l : List Nat} (h : l.Pairwise (· < ·)) : ascB l = true := by
  unfold ascB
  refine List.all_eq_true.mpr fun p hp => ?_
  refine decide_eq_true ?_
  induction h with
  | nil => cases hp
  | @cons a r hr _ ih =>
    cases r with
    | nil => cases hp
    | cons b t =>
      have hp' : p ∈ (a, b) :: ((b :: t).zip t) := hp
      rcases List.mem_cons.mp hp' with e | hp'
      · rw [e]; exact hr b List.mem_cons_self
      · exact ih hp'
theorem jointsB_of {l : List Nat} (h : l.Pairwise (· < ·)) (hw : ∀ c ∈ l, 97 ≤ c ∧ c ≤ 122) : jointsB l = true := by
  unfold jointsB
  rw [wordB_of hw, ascB_of h]
  rfl
theorem jointsB_one {c : Nat} (h : 97 ≤ c ∧ c ≤ 122) : jointsB [c] = true := jointsB_of (List.pairwise_singleton _ _) fun d hd => by rw [List.mem_singleton.mp hd]; exact h
/-- some of the places: the first twelve and the last two -/
theorem cutV_to12 (xs : List V) : cutV xs none (some 12) = xs.take 12 := by
  unfold cutV
  rw [HT.sIx_none, show (some (12 : Int)) = some ((12 : Nat) : Int) from rfl, HT.sIx_nat, List.drop_zero, Nat.sub_zero]
  rcases Nat.lt_or_ge xs.length 12 with h | h
  · rw [Nat.min_eq_right (by omega), List.take_length, List.take_of_length_le (by omega)]
  · rw [Nat.min_eq_left h]
theorem openL_nil (l : List Nat) : openL l [] = [] := by
  unfold openL
  refine List.filter_eq_nil_iff.mpr fun i _ => ?_
  cases l[i]? <;> simp
theorem cutV_from {xs : List V} {k : Nat} (h : k ≤ xs.length) : cutV xs (some (k : Int)) none = xs.drop k := by
  unfold cutV
  rw [HT.sIx_none, HT.sIx_nat, Nat.min_eq_left h, List.take_of_length_le (by rw [List.length_drop]; omega)]
end Sw
namespace Sw
open PySem PySem.Spec PyProof.Rows L2
/-- what was not there before may change -/
theorem But.after {g : Addr} {H H1 H2 : Hp} (b : But g H1 H2) (s : Same H H1) (hg : H g = none) : Same H H2 := fun c o h => b c o (ne_of_none h hg) (s c o h)
end Sw
/-! Roads, what they move, what they cost. -/
namespace Sw
open PySem PySem.Spec PyProof.Rows L2
/-- the word to which a road leads; the words it passes -/
def ends (l r : List Nat) : List Nat := r.foldl swapL l
def pass (l : List Nat) : List Nat → List (List Nat)
  | [] => [l]
  | p :: r => l :: pass (swapL l p) r
def IsRoad (js l : List Nat) : List Nat → Prop
  | [] => True
  | p :: r => (∃ c, l[p]? = some c ∧ c ∈ js) ∧ IsRoad js (swapL l p) r
def backL (n : Nat) (r : List Nat) : List Nat := r.reverse.map fun p => n - 1 - p
theorem ends_cons (l : List Nat) (p : Nat) (r : List Nat) : ends l (p :: r) = ends (swapL l p) r := rfl
theorem ends_append (l r q : List Nat) : ends l (r ++ q) = ends (ends l r) q := by unfold ends; rw [List.foldl_append]
theorem ends_snoc (l r : List Nat) (p : Nat) : ends l (r ++ [p]) = swapL (ends l r) p := by rw [ends_append]; rfl
theorem pass_len (l r : List Nat) : (pass l r).length = r.length + 1 := by
  induction r generalizing l with
  | nil => rfl
  | cons p r ih => unfold pass; rw [List.length_cons, ih]; rfl
theorem pass_snoc (l r : List Nat) (p : Nat) : pass l (r ++ [p]) = pass l r ++ [ends l (r ++ [p])] := by
  induction r generalizing l with
  | nil => rfl
  | cons q r ih =>
    show l :: pass (swapL l q) (r ++ [p]) = l :: pass (swapL l q) r ++ [ends (swapL l q) (r ++ [p])]
    rw [ih]
    rfl
theorem pass_last (l r : List Nat) : (pass l r)[r.length]? = some (ends l r) := by
  induction r generalizing l with
  | nil => rfl
  | cons p r ih => show (l :: pass (swapL l p) r)[r.length + 1]? = _; rw [List.getElem?_cons_succ, ih]; rfl
theorem road_lt {js l r : List Nat} (h : IsRoad js l r) : ∀ p ∈ r, p < l.length := by
  induction r generalizing l with
  | nil => intro p hp; cases hp
  | cons q r ih =>
    obtain ⟨⟨c, hc, _⟩, h2⟩ := h
    have hq : q < l.length := (List.getElem?_eq_some_iff.mp hc).1
    intro p hp
    rcases List.mem_cons.mp hp with e | hp
    · rw [e]; exact hq
    · have := ih h2 p hp
      rw [swapL_len hq] at this
      exact this
theorem ends_len {l r : List Nat} (h : ∀ p ∈ r, p < l.length) : (ends l r).length = l.length := by
  induction r generalizing l with
  | nil => rfl
  | cons q r ih =>
    have hq := h q List.mem_cons_self
    rw [ends_cons, ih fun p hp => by rw [swapL_len hq]; exact h p (List.mem_cons_of_mem _ hp), swapL_len hq]
theorem ends_mem {l r : List Nat} {c : Nat} (h : c ∈ ends l r) : c ∈ l := by
  induction r generalizing l with
  | nil => exact h
  | cons q r ih => exact swapL_mem (ih h)
theorem road_append {js l r q : List Nat} : IsRoad js l (r ++ q) ↔ IsRoad js l r ∧ IsRoad js (ends l r) q := by
  induction r generalizing l with
  | nil => exact ⟨fun h => ⟨trivial, h⟩, fun h => h.2⟩
  | cons p r ih =>
    constructor
    · rintro ⟨h1, h2⟩
      exact ⟨⟨h1, (ih.mp h2).1⟩, (ih.mp h2).2⟩
    · rintro ⟨⟨h1, h2⟩, h3⟩
      exact ⟨h1, ih.mpr ⟨h2, h3⟩⟩
theorem road_at {js l r : List Nat} {i p : Nat} (h : IsRoad js l r) (hi : r[i]? = some p) : ∃ c, (ends l (r.take i))[p]? = some c ∧ c ∈ js := by
  have e : r = r.take i ++ p :: r.drop (i + 1) := by
    obtain ⟨hl, e⟩ := List.getElem?_eq_some_iff.mp hi
    rw [← e, ← List.drop_eq_getElem_cons hl, List.take_append_drop]
  rw [e] at h
  exact (road_append.mp h).2.1
theorem ends_take {l r : List Nat} {i p : Nat} (hi : r[i]? = some p) : ends l (r.take (i + 1)) = swapL (ends l (r.take i)) p := by
  rw [take_snoc hi, ends_snoc]
theorem pass_take {l r : List Nat} {i p : Nat} (hi : r[i]? = some p) : pass l (r.take (i + 1)) = pass l (r.take i) ++ [ends l (r.take (i + 1))] := by
  rw [take_snoc hi, pass_snoc]
theorem road_take {js l r : List Nat} {i : Nat} (h : IsRoad js l r) : IsRoad js l (r.take i) := by
  have e : r = r.take i ++ r.drop i := (List.take_append_drop i r).symm
  rw [e] at h
  exact (road_append.mp h).1
theorem backL_cons (n p : Nat) (r : List Nat) : backL n (p :: r) = backL n r ++ [n - 1 - p] := by
  unfold backL
  rw [List.reverse_cons, List.map_append]
  rfl
theorem back_ends {l r : List Nat} (h : ∀ p ∈ r, p < l.length) : ends (ends l r) (backL l.length r) = l := by
  induction r generalizing l with
  | nil => rfl
  | cons p r ih =>
    have hp := h p List.mem_cons_self
    have hr : ∀ q ∈ r, q < (swapL l p).length := fun q hq => by rw [swapL_len hp]; exact h q (List.mem_cons_of_mem _ hq)
    have := ih hr
    rw [swapL_len hp] at this
    rw [backL_cons, ends_snoc, ends_cons, this, swapL_back hp]
theorem back_road {js l r : List Nat} (h : IsRoad js l r) : IsRoad js (ends l r) (backL l.length r) := by
  induction r generalizing l with
  | nil => trivial
  | cons p r ih =>
    obtain ⟨⟨c, hc, hm⟩, h2⟩ := h
    have hp : p < l.length := (List.getElem?_eq_some_iff.mp hc).1
    have i2 := ih h2
    have e2 := back_ends (road_lt h2)
    rw [swapL_len hp] at i2 e2
    rw [backL_cons, road_append, ends_cons]
    refine ⟨i2, ⟨c, ?_, hm⟩, trivial⟩
    rw [e2]
    exact (swapL_at hp).trans hc
/-! ### what goes along: the same for the places as for the signs -/
theorem swapL_map (f : Nat → Nat) (l : List Nat) (p : Nat) : swapL (l.map f) p = (swapL l p).map f := by
  unfold swapL
  rw [List.map_append, List.map_append, List.map_drop, List.map_take, List.map_drop, List.map_take]
theorem ends_map (f : Nat → Nat) (l r : List Nat) : ends (l.map f) r = (ends l r).map f := by
  induction r generalizing l with
  | nil => rfl
  | cons p r ih => rw [ends_cons, ends_cons, swapL_map, ih]
theorem range_get (l : List Nat) : (List.range l.length).map (fun i => l.getD i 0) = l := by
  refine List.ext_getElem (by simp) fun i h1 h2 => ?_
  simp at h1
  simp [h1]
theorem moved_get (l r : List Nat) : (ends (List.range l.length) r).map (fun i => l.getD i 0) = ends l r := by
  rw [← ends_map, range_get]
/-! ### prices -/
def PricesOk (ps : List (Nat × Int)) : Prop := (∀ q ∈ ps, (97 ≤ q.1 ∧ q.1 ≤ 122) ∧ 1 ≤ q.2) ∧ (ps.map (·.1)).Pairwise (· < ·)
def priceAt (ps : List (Nat × Int)) (c : Nat) : Int := ((ps.find? fun q => decide (q.1 = c)).map (·.2)).getD 0
def costL (ps : List (Nat × Int)) (l : List Nat) : List Nat → Int
  | [] => 0
  | p :: r => priceAt ps (l.getD p 0) + costL ps (swapL l p) r
theorem cost_append (ps : List (Nat × Int)) (l r q : List Nat) : costL ps l (r ++ q) = costL ps l r + costL ps (ends l r) q := by
  induction r generalizing l with
  | nil => show costL ps l q = 0 + costL ps l q; omega
  | cons p r ih => show priceAt ps (l.getD p 0) + costL ps (swapL l p) (r ++ q) = _; rw [ih, ends_cons]; show _ = (priceAt ps (l.getD p 0) + costL ps (swapL l p) r) + _; omega
theorem cost_take {ps : List (Nat × Int)} {l r : List Nat} {i p : Nat} (hi : r[i]? = some p) : costL ps l (r.take (i + 1)) = costL ps l (r.take i) + priceAt ps ((ends l (r.take i)).getD p 0) := by
  rw [take_snoc hi, cost_append]
  show _ + (priceAt ps _ + 0) = _
  omega
theorem cost_back (ps : List (Nat × Int)) {l r : List Nat} (h : ∀ p ∈ r, p < l.length) : costL ps (ends l r) (backL l.length r) = costL ps l r := by
  induction r generalizing l with
  | nil => rfl
  | cons p r ih =>
    have hp := h p List.mem_cons_self
    have hr : ∀ q ∈ r, q < (swapL l p).length := fun q hq => by rw [swapL_len hp]; exact h q (List.mem_cons_of_mem _ hq)
    have i2 := ih hr
    have e2 := back_ends hr
    rw [swapL_len hp] at i2 e2
    rw [backL_cons, cost_append, ends_cons, i2, e2]
    show costL ps (swapL l p) r + (priceAt ps ((swapL l p).getD (l.length - 1 - p) 0) + 0) = priceAt ps (l.getD p 0) + costL ps (swapL l p) r
    have e3 : (swapL l p).getD (l.length - 1 - p) 0 = l.getD p 0 := by rw [List.getD_eq_getElem?_getD, List.getD_eq_getElem?_getD, swapL_at hp]
    rw [e3]
    omega
/-- the price of a letter is the sum of all prices of this letter -/
theorem price_sum {ps : List (Nat × Int)} (h : (ps.map (·.1)).Pairwise (· < ·)) (c : Nat) : ((ps.filter fun q => decide (q.1 = c)).map (·.2)).sum = priceAt ps c := by
  induction ps with
  | nil => rfl
  | cons q r ih =>
    have h' : (q.1 :: r.map (·.1)).Pairwise (· < ·) := h
    obtain ⟨h1, h2⟩ := List.pairwise_cons.mp h'
    unfold priceAt
    rw [List.filter_cons, List.find?_cons]
    by_cases e : q.1 = c
    · have hno : r.filter (fun q => decide (q.1 = c)) = [] := List.filter_eq_nil_iff.mpr fun y hy z => by
        have := h1 y.1 (List.mem_map_of_mem hy)
        have := of_decide_eq_true z
        omega
      simp [e, hno]
    · have := ih h2
      unfold priceAt at this
      simp only [e, decide_false]
      exact this
theorem price_find {ps : List (Nat × Int)} {c : Nat} (h : c ∈ ps.map (·.1)) : ∃ v, (ps.find? fun q => decide (q.1 = c)) = some v ∧ v.2 = priceAt ps c := by
  unfold priceAt
  cases e : ps.find? fun q => decide (q.1 = c) with
  | some v => exact ⟨v, rfl, rfl⟩
  | none =>
    obtain ⟨q, hq, rfl⟩ := List.mem_map.mp h
    exact absurd (decide_eq_true rfl) (List.find?_eq_none.mp e q hq)
/-- prices as they stand in the heap -/
def PriceT (H : Hp) (t : V) (q : Nat × Int) : Prop := ∃ a, t = .ref a ∧ H a = some (.tup [.str (S [q.1]), .int q.2])
def PricesAt (H : Hp) (a : Addr) (ps : List (Nat × Int)) : Prop := ∃ ts : List V, H a = some (.lst ts) ∧ Paired (PriceT H) ts ps
theorem PriceT.same {H H' : Hp} {t : V} {q : Nat × Int} (s : Same H H') (h : PriceT H t q) : PriceT H' t q := by
  obtain ⟨a, e, h⟩ := h
  exact ⟨a, e, s _ _ h⟩
theorem PricesAt.same {H H' : Hp} {a : Addr} {ps : List (Nat × Int)} (s : Same H H') (h : PricesAt H a ps) : PricesAt H' a ps := by
  obtain ⟨ts, h1, h2⟩ := h
  exact ⟨ts, s _ _ h1, Paired.mapP h2 fun t q z => PriceT.same s z⟩
theorem Paired.len {α β : Type} {F : α → β → Prop} : ∀ {xs : List α} {ys : List β}, Paired F xs ys → xs.length = ys.length
  | _, _, .nil => rfl
  | _, _, .cons _ t => congrArg Nat.succ (Paired.len t)
theorem Paired.at {α β : Type} {F : α → β → Prop} : ∀ {xs : List α} {ys : List β} {i : Nat} {x : α}, Paired F xs ys → xs[i]? = some x → ∃ y, ys[i]? = some y ∧ F x y
  | _, _, _, _, .nil, e => by simp at e
  | _, _, 0, x, .cons r _, e => by simp at e; subst e; exact ⟨_, rfl, r⟩
  | _, _, i + 1, x, .cons _ t, e => Paired.at (i := i) t (by simpa using e)
theorem Paired.snoc {α β : Type} {F : α → β → Prop} : ∀ {xs : List α} {ys : List β} {x : α} {y : β}, Paired F xs ys → F x y → Paired F (xs ++ [x]) (ys ++ [y])
  | _, _, _, _, .nil, h => .cons h .nil
  | _, _, _, _, .cons r t, h => .cons r (Paired.snoc t h)
/-- the dict of prices -/
def pricesK (ps : List (Nat × Int)) : List (Key × V) := ps.map fun q => (Sum.inr (S [q.1]), V.int q.2)
theorem mergeK_new : ∀ (more kvs : List (Key × V)), (∀ q ∈ more, valV kvs q.1 = none) → (more.map (·.1)).Nodup → mergeK kvs more = kvs ++ more
  | [], kvs, _, _ => (List.append_nil kvs).symm
  | q :: r, kvs, h, nd => by
    obtain ⟨n1, n2⟩ := List.nodup_cons.mp (show (q.1 :: r.map (·.1)).Nodup from nd)
    have e := putK_new q.2 (h q List.mem_cons_self)
    show mergeK (putK kvs q.1 q.2) r = kvs ++ q :: r
    rw [e, mergeK_new r _ (fun y hy => ?_) n2, List.append_assoc]
    · rfl
    · rw [valV_snoc _ _ _ _ (h q List.mem_cons_self), if_neg (fun z : y.1 = q.1 => n1 (by rw [← z]; exact List.mem_map_of_mem hy))]
      exact h y (List.mem_cons_of_mem _ hy)
theorem S_one_inj {c d : Nat} (h : S [c] = S [d]) : c = d := by
  have := SX.S_inj h
  injection this
theorem prices_merge {ps : List (Nat × Int)} (h : (ps.map (·.1)).Pairwise (· < ·)) : mergeK [] (pricesK ps) = pricesK ps := by
  rw [mergeK_new (pricesK ps) [] (fun _ _ => rfl) ?_, List.nil_append]
  unfold pricesK
  rw [List.map_map]
  have e : ((fun x : Key × V => x.1) ∘ fun q : Nat × Int => ((Sum.inr (S [q.1]) : Key), V.int q.2)) = (fun c : Nat => (Sum.inr (S [c]) : Key)) ∘ fun q : Nat × Int => q.1 := rfl
  rw [e, ← List.map_map, List.Nodup, List.pairwise_map]
  refine h.imp fun {a b} lt z => ?_
  have := S_one_inj (Sum.inr.inj z)
  omega
theorem prices_val {ps : List (Nat × Int)} {c : Nat} (h : c ∈ ps.map (·.1)) : valV (pricesK ps) (Sum.inr (S [c])) = some (V.int (priceAt ps c)) := by
  obtain ⟨v, hv, e⟩ := price_find h
  rw [← e]
  unfold valV pricesK
  rw [List.find?_map]
  have e2 : ((fun kv : Key × V => decide (kv.1 = Sum.inr (S [c]))) ∘ fun q : Nat × Int => ((Sum.inr (S [q.1]) : Key), V.int q.2)) = fun q : Nat × Int => decide (q.1 = c) := by
    funext q
    show decide ((Sum.inr (S [q.1]) : Key) = Sum.inr (S [c])) = decide (q.1 = c)
    by_cases z : q.1 = c
    · rw [z]; simp
    · rw [decide_eq_false z, decide_eq_false fun y => z (S_one_inj (Sum.inr.inj y))]
  rw [e2, hv]
  rfl
end Sw
namespace Sw
open PySem PySem.Spec PyProof.Rows L2
theorem cutV_tail (xs : List V) : cutV xs (some 1) none = xs.tail := by
  unfold cutV
  rw [HT.sIx_none, show (some (1 : Int)) = some ((1 : Nat) : Int) from rfl, HT.sIx_nat]
  cases xs with
  | nil => rfl
  | cons x r =>
    have e : min 1 (x :: r).length = 1 := by simp
    rw [e, List.take_of_length_le (by simp)]
    rfl
theorem one_lt_S' {c d : Nat} : decide ((S [c]).cps.toList < (S [d]).cps.toList) = decide (c < d) := one_lt_S
abbrev wordsV (ws : List (List Nat)) : List V := ws.map fun l => V.str (S l)
theorem place_of {r : List Nat} {i : Nat} {y : V} (h : (placesV r)[i]? = some y) : ∃ p, r[i]? = some p ∧ y = V.int (p : Nat) := by
  rw [List.getElem?_map] at h
  obtain ⟨p, hp, e⟩ := Option.map_eq_some_iff.mp h
  exact ⟨p, hp, e.symm⟩
theorem at_last {xs : List V} {v : V} (h : xs[xs.length - 1]? = some v) : atI xs (-1) = some v := by
  have hl : 0 < xs.length := by
    have := (List.getElem?_eq_some_iff.mp h).1
    omega
  unfold atI ixN
  rw [if_neg (by omega), if_pos (by omega)]
  show xs[((xs.length : Int) + -1).toNat]? = some v
  rw [show ((xs.length : Int) + -1).toNat = xs.length - 1 by omega]
  exact h
theorem last_word {l r : List Nat} (_ : r.length = r.length) : atI (wordsV (pass l r)) (-1) = some (V.str (S (ends l r))) := by
  refine at_last ?_
  rw [List.length_map, pass_len, Nat.add_sub_cancel, List.getElem?_map, pass_last]
  rfl
end Sw
namespace Sw
open PySem PySem.Spec PyProof.Rows L2
theorem cutV_mid {xs : List V} {i j : Nat} (h : i ≤ j) (hj : j ≤ xs.length) : cutV xs (some (i : Int)) (some (j : Int)) = (xs.drop i).take (j - i) := by
  unfold cutV
  rw [HT.sIx_nat, HT.sIx_nat, Nat.min_eq_left hj, Nat.min_eq_left (Nat.le_trans h hj)]
theorem cutV_toN {xs : List V} {j : Nat} (hj : j ≤ xs.length) : cutV xs none (some (j : Int)) = xs.take j := by
  unfold cutV
  rw [HT.sIx_none, HT.sIx_nat, Nat.min_eq_left hj, List.drop_zero, Nat.sub_zero]
theorem rg_places {n : Nat} : rgV 0 (n : Int) = placesV (List.range n) := by
  unfold rgV
  rw [show ((n : Int) - 0).toNat = n by omega]
  refine List.map_congr_left fun i _ => ?_
  rw [Int.zero_add]
theorem pass_at {l r : List Nat} {i : Nat} (h : i ≤ r.length) : (pass l r)[i]? = some (ends l (r.take i)) := by
  induction r generalizing l i with
  | nil =>
    have e : i = 0 := by simp at h; exact h
    subst e
    rfl
  | cons p r ih =>
    cases i with
    | zero => rfl
    | succ i =>
      show (l :: pass (swapL l p) r)[i + 1]? = _
      rw [List.getElem?_cons_succ, ih (by simp at h; omega)]
      rfl
theorem prices_addrs {H : Hp} : ∀ {ts : List V} {ps : List (Nat × Int)}, Paired (PriceT H) ts ps → ∃ as : List Addr, ts = as.map V.ref ∧ Paired (fun a q => H a = some (.tup [.str (S q.1.1), .int q.2]) ∧ True) as (ps.map fun q => (([q.1], ()), q.2))
  | _, _, .nil => ⟨[], rfl, .nil⟩
  | _, _, .cons r t => by
    obtain ⟨a, rfl, h⟩ := r
    obtain ⟨as, rfl, hp⟩ := prices_addrs t
    exact ⟨a :: as, rfl, .cons ⟨h, trivial⟩ hp⟩
theorem prices_paired {K : PySem.W.Frag} {H : Hp} : ∀ {as : List Addr} {ps : List (Nat × Int)}, Paired (fun a (q : (List Nat × Unit) × Int) => H a = some (.tup [.str (S q.1.1), .int q.2]) ∧ True) as (ps.map fun q => (([q.1], ()), q.2)) →
    Paired (fun p (kv : Key × V) => SqT K H p [kV kv.1, kv.2]) as (pricesK ps)
  | [], [], _ => .nil
  | a :: as, q :: ps, h => by
    cases h with
    | cons h t => exact .cons (SqT.of h.1) (prices_paired t)
  | [], _ :: _, h => by cases h
  | _ :: _, [], h => by cases h
theorem places_ne_nil {K : PySem.W.Frag} {H : Hp} {a b : Addr} {ns : List Nat} {Q : VK} (ha : SqL K H a (placesV ns)) (hb : SqL K H b []) (q : Q (.bl (!ns.isEmpty)) H) : rNeD K (.ref a) (.ref b) H Q := by
  refine ⟨_, _, .lst ha (places_dp ns), .lst hb .nil, places_shaped ns, places_shaped [], ?_⟩
  have e : PyData.eqv (.list (placesD ns)) (.list []) = ns.isEmpty := by
    cases ns with
    | nil => exact places_eqv []
    | cons n r => rfl
  rw [e]
  exact q
end Sw
namespace Sw
open PySem PySem.Spec PyProof.Rows L2
/-- one of two -/
theorem pick2 {a b r : Int} (h0 : 0 ≤ r) (h1 : r < 2) : ∃ n : Int, atI [V.int a, V.int b] r = some (V.int n) ∧ (n = a ∨ n = b) ∧ True := by
  have e : r = 0 ∨ r = 1 := by omega
  rcases e with rfl | rfl
  · exact ⟨a, rfl, .inl rfl, trivial⟩
  · exact ⟨b, rfl, .inr rfl, trivial⟩
end Sw
namespace Sw
open PySem PySem.Spec PyProof.Rows L2
theorem Same.updF {H H1 : Hp} {p : Addr} {o : HO} (s : Same H H1) (hp : H p = none) : Same H (L2.upd H1 p o) := fun c u h => by
  rw [upd_ne (ne_of_none h hp)]
  exact s c u h
/-! ### prices compared -/
def priceD (q : Nat × Int) : PyData := .tuple [.str (S [q.1]), .int q.2]
theorem prices_dp {K : PySem.W.Frag} {H : Hp} : ∀ {ts : List V} {ps : List (Nat × Int)}, Paired (PriceT H) ts ps → DpAll K H ts (ps.map priceD)
  | _, _, .nil => .nil
  | _, _, .cons r t => by
    obtain ⟨a, rfl, h⟩ := r
    exact .cons (.tup (SqT.of h) (.cons (.str _) (.cons (.int _) .nil))) (prices_dp t)
theorem prices_lay : ∀ {ps : List (Nat × Int)}, (∀ q ∈ ps, q.1 ≤ 122) → PyData.canLayAll0 (ps.map priceD) = true
  | [], _ => rfl
  | q :: r, h => by
    have h1 := h q List.mem_cons_self
    have h2 := prices_lay (ps := r) fun y hy => h y (List.mem_cons_of_mem _ hy)
    have e : PyData.strOk (S [q.1]) = true := by
      show ((#[q.1] : Array Nat).all fun c => decide (c < 0x110000)) = true
      simp
      omega
    show ((PyData.strOk (S [q.1]) && (true && true)) && PyData.canLayAll0 (r.map priceD)) = true
    rw [e, h2]
    rfl
theorem prices_depth : ∀ ps : List (Nat × Int), PyData.depthAll (ps.map priceD) ≤ 1
  | [] => Nat.zero_le _
  | q :: r => Nat.max_le.mpr ⟨Nat.le_refl _, prices_depth r⟩
theorem prices_shaped {ps : List (Nat × Int)} (h : ∀ q ∈ ps, q.1 ≤ 122) : SeqAt.shaped (.list (ps.map priceD)) = true := by
  unfold SeqAt.shaped
  have e : (PyData.list (ps.map priceD)).depth ≤ 64 := by
    show PyData.depthAll (ps.map priceD) + 1 ≤ 64
    have := prices_depth ps
    omega
  have e2 : (PyData.list (ps.map priceD)).canLay0 = true := prices_lay h
  rw [e2, decide_eq_true e]
  rfl
theorem prices_same {K : PySem.W.Frag} {H : Hp} {a b : Addr} {ps : List (Nat × Int)} {Q : VK} (ok : PricesOk ps) (ha : PricesAt H a ps) (hb : PricesAt H b ps) (q : Q (.bl false) H) : rNeD K (.ref a) (.ref b) H Q := by
  obtain ⟨ts, h1, h2⟩ := ha
  obtain ⟨us, h3, h4⟩ := hb
  have hle : ∀ q ∈ ps, q.1 ≤ 122 := fun q hq => (ok.1 q hq).1.2
  refine ⟨_, _, .lst (SqL.of h1) (prices_dp h2), .lst (SqL.of h3) (prices_dp h4), prices_shaped hle, prices_shaped hle, ?_⟩
  rw [PySem.SeqAt.eqv_refl _ (show (PyData.list (ps.map priceD)).canLay0 = true from prices_lay hle)]
  exact q
theorem PriceT.upd {H : Hp} {D : Addr} {xs ys : List V} (hD : H D = some (.lst xs)) {t : V} {q : Nat × Int} (h : PriceT H t q) : PriceT (L2.upd H D (.lst ys)) t q := by
  obtain ⟨a, e, h⟩ := h
  exact ⟨a, e, by rw [upd_ne (ne_of h hD (by intro z; cases z))]; exact h⟩
theorem PricesAt.but {g a : Addr} {H H' : Hp} {n : Nat} {ps : List (Nat × Int)} (G : GenAt H g n) (ne : a ≠ g) (b : But g H H') (h : PricesAt H a ps) : PricesAt H' a ps := by
  obtain ⟨ts, h1, h2⟩ := h
  obtain ⟨x, y, z, g0, _⟩ := G
  refine ⟨ts, b _ _ ne h1, Paired.mapP h2 fun t q z => ?_⟩
  obtain ⟨c, e, h⟩ := z
  exact ⟨c, e, b _ _ (ne_of h g0 (by intro z; cases z)) h⟩
/-- what the last part of the law about moved letters leans on -/
structure Facts4 (H0 : Hp) (g D m fe v : Addr) (ps : List (Nat × Int)) (r due : List Nat) (c : Nat) (H : Hp) : Prop where
  pr : PricesAt H D ps
  fe : PricesAt H fe ps
  du : H m = some (.lst (placesV due))
  ro : H v = some (.lst (placesV r))
  G : GenAt H g c
  B : But g H0 H
theorem Facts4.same {H0 H H' : Hp} {g D m fe v : Addr} {ps : List (Nat × Int)} {r due : List Nat} {c : Nat} (F : Facts4 H0 g D m fe v ps r due c H) (s : Same H H') : Facts4 H0 g D m fe v ps r due c H' :=
  ⟨F.pr.same s, F.fe.same s, s _ _ F.du, s _ _ F.ro, F.G.same s, F.B.trans (.same s)⟩
theorem due_get {n : Nat} {r : List Nat} (h : ∀ p ∈ r, p < n) : (ends (List.range n) (backL n r)).map (fun i => (ends (List.range n) r).getD i 0) = List.range n := by
  have hl : ∀ p ∈ r, p < (List.range n).length := fun p hp => by rw [List.length_range]; exact h p hp
  have e0 : (ends (List.range n) r).length = n := by rw [ends_len hl, List.length_range]
  have e1 : (List.range n).map (fun i => (ends (List.range n) r).getD i 0) = ends (List.range n) r := by
    have := range_get (ends (List.range n) r)
    rw [e0] at this
    exact this
  rw [← ends_map, e1]
  have := back_ends hl
  rw [List.length_range] at this
  exact this
end Sw
namespace Sw
open PySem PySem.Spec PyProof.Rows L2
/-- a test that two lists of places are alike, which they are -/
theorem eq_places {K : PySem.W.Frag} {H : Hp} {a b : Addr} {ns : List Nat} {Q : VK} (ha : SqL K H a (placesV ns)) (hb : SqL K H b (placesV ns)) (q : Q (.bl true) H) : rEqD K (.ref a) (.ref b) H Q := by
  refine ⟨_, _, .lst ha (places_dp ns), .lst hb (places_dp ns), places_shaped ns, places_shaped ns, ?_⟩
  rw [places_eqv]
  exact q
end Sw
/-! Defs that are entered while no repr runs: what repr of data needs of its surroundings, carried from call to call. -/
namespace Sw
open PySem PySem.Spec PyProof.Rows L2
/-- no repr of a container is under way -/
def Calm (A : Around) : Prop := A.guards = some []
section
variable {CX : CXT} {P : Program} {w : World} {K : PySem.W.Frag} {mg : Str → Option Value} {base : Heap}
/-- one entry of a def, by its body at just this entry -/
theorem enter_at {k : Nat} {f : Addr} {name qual : Str} {params : Arguments} {body : List Stmt} {scope : Scope} {dV kV doc pm cdv ct oc : Value} {an od : Option Addr} {osl : Array (Option Value)} {N ps : List Str}
    {A : Around} {outer : List Env} {s : Shared} {H : Hp} {args : Args} {us : List Value} {vs : List V} {Q : VK} {E : XK} {t : TS}
    (lk : K.lookup f = some ⟨oc, od, .func (PySem.W.fnOf name qual params body scope dV kV doc pm an cdv ct), osl⟩) (hcd : PySem.W.codeIn K cdv qual = true) (S : FnScope N ps scope) (hl : vs.length = ps.length)
    (hr : Room (k + 1) A) (e0 : Env0 P w K mg base A outer s H) (hb : BindsTo s (PySem.W.fnOf name qual params body scope dV kV doc pm an cdv ct) args (ps.zip us)) (r : Vals vs us)
    (ht : PSs (cxOf CX P w K mg base N qual scope f cdv A outer s H E) body t) (hq : t { nx := fun _ H' => Q .non H', rt := Q } (start N vs) H) :
    codeAny (model P w) A (.call (.ref f) args) (CR CX outer P w H s Q E) s := by
  have kept : ∀ b o, base.get? b = some o → s.heap.get? b = some o := fun b o e => (e0.bs b o e).1
  have KX := e0.mod.kin.keeps kept
  refine codeAny_call_function hr.depth (KX _ _ lk) rfl S.co S.gen rfl (PySem.W.codeRec_of KX hcd) (hb _ _ _ _ (wpAny_newFunctionEnv_cells S.kind (fun y hy => ?_) fun env he s1 x => ?_))
  · have hm : y.1 ∈ ps := (List.of_mem_zip (show (y.1, y.2) ∈ ps.zip us from hy)).1
    cases S.par y.1 hm with
    | inl q => exact .inl q
    | inr q => exact .inr ⟨q, PySem.W.cellsFrom_some _ _ _ (.inl q)⟩
  · subst he
    refine ⟨(e0.mod.nolimit.keeps kept).keeps x.toInCall.keep, codeAny_func ?_⟩
    refine wpAny_mono (ht.run [] s1 (start N vs) H _ (inv_start S hr.hd e0 hl r x) hq) (fun fl s' hs => ?_) fun _ _ hs => hs
    match fl, hs with
    | .ret u, hs =>
      obtain ⟨v, σ', H', J, rv, q⟩ := hs
      exact ⟨v, H', J.os, J.bare, J.base, J.hok, rv, q⟩
    | .next, hs =>
      obtain ⟨σ', H', J, q⟩ := hs
      exact ⟨V.non, H', J.os, J.bare, J.base, J.hok, rfl, q⟩
    | .brk, hs => exact hs.elim fun _ hs => hs.elim fun _ hs => hs.2.elim
    | .cont, hs => exact hs.elim fun _ hs => hs.elim fun _ hs => hs.2.elim
end
/-- a def's promise where no repr is under way -/
structure FnC (P : Program) (w : World) (K : PySem.W.Frag) (mg : Str → Option Value) (base : Heap) (CX : CXT) (k : Nat) (f : Addr) (fd : FuncData) (ps : List Str) (sp : Sp) : Prop where
  len : ∀ vs H Q E, sp vs H Q E → vs.length = ps.length
  run : ∀ (A : Around) (outer : List Env) (s : Shared) (H : Hp) (args : Args) (us : List Value) (vs : List V) (Q : VK) (E : XK), Room k A → Calm A → Env0 P w K mg base A outer s H → BindsTo s fd args (ps.zip us) → Vals vs us → sp vs H Q E →
    codeAny (model P w) A (.call (.ref f) args) (CR CX outer P w H s Q E) s
section
variable {CX : CXT} {P : Program} {w : World} {K : PySem.W.Frag} {mg : Str → Option Value} {base : Heap} {k : Nat} {f : Addr} {fd : FuncData} {ps : List Str} {sp : Sp}
theorem FnC.of (F : FnOk P w K mg base CX k f fd ps sp) : FnC P w K mg base CX k f fd ps sp := ⟨F.len, fun A outer s H args us vs Q E hr _ => F.run A outer s H args us vs Q E hr⟩
theorem calm_deeper {A : Around} {env : Env} (h : Calm A) : Calm (A.deeper env) := h
/-- the rule for a def, in such surroundings -/
theorem okC {x qual : Str} {st : Stmt} {N : List Str} (F : Fun K x qual st f fd) (S : FnScope N ps (defScope st)) (len : ∀ vs H Q E, sp vs H Q E → vs.length = ps.length)
    (hbody : ∀ (cdv : Value) (A : Around) (outer : List Env) (s : Shared) (H : Hp) (vs : List V) (Q : VK) (E : XK), Room k (A.deeper (envOfC qual (defScope st) s.heap.objs.size f cdv)) → Calm (A.deeper (envOfC qual (defScope st) s.heap.objs.size f cdv)) → sp vs H Q E →
      ∃ t, PSs (cxOf CX0 P w K mg base N qual (defScope st) f cdv A outer s H E).nox (defBody st) t ∧ t { nx := fun _ H' => Q .non H', rt := Q } (start N vs) H) : FnC P w K mg base CX0 (k + 1) f fd ps sp := by
  obtain ⟨oc, od, kV, doc, pm, an, cdv, ct, osl, rfl, lk, hcd⟩ := F.ex
  refine ⟨len, fun A outer s H args us vs Q E hr hc e0 hb r hsp => ?_⟩
  obtain ⟨t, h, q⟩ := hbody cdv A outer s H vs Q E (hr.deeper _) (calm_deeper hc) hsp
  exact enter_at lk hcd S (len _ _ _ _ hsp) hr e0 hb r h.nox q
end
/-! ### calls of such defs -/
section
variable {X : Cx} {CX : CXT} {k n : Nat} {f : Addr} {fd : FuncData} {ps ks : List Str} {sp : Sp} {E : XK} {x : Str} {p pos : Pos} {e : Expr} {es : List Expr} {kws : List Keyword} {t tk : TA} {ds : List Value} {dvs : List V} {g : List Value → List Value → List Value} {gV : List V → List V → List V}
theorem runC {pins : List (Addr × Obj)} {σ : L2.St} {H : Hp} {s : Shared} {Q : VK} {args : Args} {us : List Value} {vs : List V} (F : FnC X.prog X.w X.K X.mg X.base CX k f fd ps sp) (hr : Room k X.A) (hc : Calm X.A) (hx : Passes CX X E)
    (I : Inv X pins σ H s) (hb : BindsTo s fd args (ps.zip us)) (r : Vals vs us) (h : sp vs H Q E) : codeAny (model X.prog X.w) X.A (.call (.ref f) args) (fun r s' => match r with | .ok (.ret u) => EP X pins σ Q u s' | .ok _ => False | .error e => X.xe e s') s := by
  refine codeAny_mono (F.run X.A X.stack s H args us vs Q E hr hc I.env0 hb r h) fun z s' hq => ?_
  match z, hq with
  | .error e, hq => exact hx pins σ H s e s' I hq
  | .ok (.ret u), hq => exact I.after hq
  | .ok .next, hq => exact hq
  | .ok .brk, hq => exact hq
  | .ok .cont, hq => exact hq
theorem call_of {M : Model} {A : Around} {E : Value → Shared → Prop} {Q : Value → Shared → Prop} {s : Shared} {f : Value} {us : List Value} {kw : List (Str × Value)}
    (h : codeAny M A (.call f ⟨us, kw⟩) (fun r s' => match r with | .ok (.ret u) => Q u s' | .ok _ => False | .error e => E e s') s) : wpAny M A (call f us kw) Q E s := by
  refine wpAny_call (codeAny_mono h fun z s' hq => ?_)
  match z, hq with
  | .error e, hq => exact hq
  | .ok (.ret u), hq => exact hq
theorem pe_callC (F : FnC X.prog X.w X.K X.mg X.base CX k f fd ps sp) (hr : Room k X.A) (hc : Calm X.A) (hg : Gl X x) (hm : X.mg x = some (.ref f)) (hk : PySem.W.keepIn X.K (.ref f) = true) (hb : Binds X.K fd ps ds) (hd : Vals dvs ds) (hx : Passes CX X E)
    (ha : PA X (e :: es) t) (hdb : (x == ("__debug__" : Str)) = false := by decide) (he : starEach (e :: es) X.env = (false, eval e X.env) :: starEach es X.env := by rfl) (hpl : (backTo pos (starEach es X.env)).any (·.1) = false := by rfl) :
    PE X (.Call (.Name x p) (e :: es) [] pos) (tCall sp dvs E t) := by
  refine ⟨fun pins s σ H Q I h => wpAny_Call_Name_kw (ld_glob I hg hm ?_ hdb)⟩
  refine PySem.W.callWith_K (h₀ := X.base) I.ok.mod.kin hk (thn (ha.run pos pins s σ H _ I h) fun us s1 ⟨vs, H1, I1, r, q⟩ => ⟨I1.kIn, call_of ?_⟩) he hpl
  have r2 : Vals (vs ++ dvs) (us ++ ds) := r.append hd
  exact runC F hr hc hx I1 (hb s1 us I1.kIn (by rw [← r2.length]; exact F.len _ _ _ _ q)) r2 q
theorem pe_callNC (F : FnC X.prog X.w X.K X.mg X.base CX k f fd ps sp) (hr : Room k X.A) (hc : Calm X.A) (hg : Gl X x) (hm : X.mg x = some (.ref f)) (hk : PySem.W.keepIn X.K (.ref f) = true) (hb : KBn X.K fd ps 0 ks g gV) (hx : Passes CX X E) (hkw : PK X kws tk)
    (hall : (backToKw pos (keywordEach kws X.env)).all (·.1.isSome) = true := by rfl) (hks : (backToKw pos (keywordEach kws X.env)).filterMap (·.1) = ks := by rfl) (hdb : (x == ("__debug__" : Str)) = false := by decide)
    (hpl : ((backTo pos (starEach [] X.env)).any (·.1) || (backToKw pos (keywordEach kws X.env)).any (·.1.isNone)) = false := by rfl) :
    PE X (.Call (.Name x p) [] kws pos) (tCallN 0 ks.length sp gV E tNil tk) := by
  refine ⟨fun pins s σ H Q I h => wpAny_Call_Name_kw (ld_glob I hg hm ?_ hdb)⟩
  refine PySem.W.callWith_KW0 (h₀ := X.base) I.ok.mod.kin hk hall (thn (hkw.run pos pins s σ H _ I h) fun ws s2 ⟨zs, H2, I2, rz, l1, l2, q2⟩ => ⟨I2.kIn, call_of ?_⟩) hpl
  rw [hks]
  exact runC F hr hc hx I2 (hb.to s2 [] ws I2.kIn rfl (rz.length.symm.trans l2)) (hb.rel (vs := []) (us := []) .nil rz) q2
end
/-! ### repr of data -/
/-- repr(x), x data without a dict -/
theorem call_reprD {X : Cx} (hg : Calm X.A) (hu : X.A.units + 66 < cLine) : CallR X (.builtin "repr") (fun xs H Q => ∃ (a : Addr) (d : PyData), xs = [.ref a] ∧ Dp X.K H (.ref a) d ∧ d.showable = true ∧ d.hasDict = false ∧ d.depth ≤ 64 ∧ d.shown.length ≤ sizeLine ∧ Q (.str d.shown) H) := by
  intro pins s σ H xs us Q I r h
  obtain ⟨a, d, rfl, hd, sh, nd, dp, sz, q⟩ := h
  obtain ⟨u, rfl, rx⟩ := vals1 r
  obtain ⟨as, rd⟩ := Dp.reads I d _ _ hd rx
  obtain rfl : u = Value.ref a := rx
  exact repr_of_reads' rd sh (fun z => by rw [nd] at z; cases z) hg (by omega) (fun _ _ e => e) (fun h' u tk hk => ⟨.str d.shown, H, I.kept hk, ⟨_, rfl⟩, q⟩) sz
end Sw
namespace Sw
open PySem PySem.Spec PyProof.Rows L2
/-! ### the law's own call, entered in calm -/
/-- the state at the law's call: an abstract heap in which nothing but the script is told -/
theorem start_at {P : Program} {w : World} {K : PySem.W.Frag} {mg mb : Str → Option Value} {a : Addr} {s : Shared} {vs : List Value} {ns : List Int}
    (KX : K.In s.heap) (hns : s.heap.Ns mainGlobals mg) (hb : s.heap.Ns builtinsNs mb) (hbb : ∀ x : Str, x ≠ "__name__" → mb x = bootBuiltins x) (hlim : s.heap.NoLimit) (hg : s.gens = #[])
    (ha : s.heap.get? a = some { cls := .type "list", data := .seq vs.toArray }) (hi : IntsAre vs ns) (hl : ns.length ≤ sizeLine) :
    ∃ (H : Hp) (base : Heap), Only H ∧ SqL K H a (ns.map V.int) ∧ K.In base ∧ base.Ns mainGlobals mg ∧ Env0 P w K mg base callerA [] s H := by
  have rv := vals_ints hi
  have bare : AllBare s.gens := .of_eq hg
  have nofrs : ∀ {H : Hp}, ∀ b ∈ frs ([] : List Env), H b = none := fun b hb => by cases hb
  cases hk : K.lookup a with
  | some o =>
    obtain rfl : { cls := .type "list", data := .seq vs.toArray } = o := Option.some.inj (ha.symm.trans (KX a o hk))
    refine ⟨fun _ => none, s.heap, fun _ => .inl rfl, .inr ⟨_, vs.toArray, _, hk, rfl, rfl, rfl, by rw [List.size_toArray, hi.length]; exact hl, by simpa using rv⟩, KX, hns, ?_⟩
    exact ⟨rfl, ⟨KX, hns, ⟨mb, hb, hbb⟩, hlim⟩, fun b o e => ⟨e, rfl⟩, Nat.le_refl _, trivial, nofrs, (fun b u z => by cases z), bare⟩
  | none =>
    let H : Hp := fun b => if b = a then some (.frz { cls := .type "list", data := .seq vs.toArray } (.lst (ns.map V.int))) else none
    have Ha : H a = some (.frz { cls := .type "list", data := .seq vs.toArray } (.lst (ns.map V.int))) := if_pos rfl
    have Hn : ∀ b, b ≠ a → H b = none := fun b h => if_neg h
    have ns_hid : ∀ {b : Addr} {m : Str → Option Value}, s.heap.Ns b m → (hidT s.heap H).Ns b m := fun {b m} q => by
      obtain ⟨o, es, ep, e, d, z⟩ := q
      refine ⟨o, es, ep, hidT_get e (Hn b fun y => ?_), d, z⟩
      rw [y, ha] at e
      cases e
      cases d
    have k_hid : K.In (hidT s.heap H) := fun b o e => hidT_get (KX b o e) (Hn b fun y => by rw [y, hk] at e; cases e)
    refine ⟨H, hidT s.heap H, fun b => ?_, .inl (.inr ⟨_, Ha⟩), k_hid, ns_hid hns, ⟨rfl, ⟨k_hid, ns_hid hns, ⟨mb, ns_hid hb, hbb⟩, ?_⟩, fun b o e => of_hidT e, Nat.le_of_eq (hidT_size _ _), trivial, nofrs, fun b u z => ?_, bare⟩⟩
    · by_cases y : b = a
      · exact .inr ⟨_, _, by rw [y]; exact Ha⟩
      · exact .inl (Hn b y)
    · obtain ⟨mc, h1, h2⟩ := hlim
      exact ⟨mc, ns_hid h1, h2⟩
    · by_cases y : b = a
      · subst y
        rw [Ha] at z
        cases z
        exact ⟨ha, by rw [List.length_map]; exact hl, vs, _, rv, ha⟩
      · rw [Hn b y] at z
        cases z
theorem walkC {l : PySem.W.OpenLaw} {n k : Nat} {q : Program} {loose : List Str} {XP : (Str → Option Value) → Heap → Prop} {YP : World → Heap → Prop} {d : DefRec} {K : Params → PySem.W.Frag} {sp : World → Sp} {x : Str}
    (hn : l.most = some n) (hn2 : n ≤ sizeLine) (hdf : d.params.defaults = []) (hr : Room k callerA) (hY : ∀ (w : World) (h : Heap), YP w h → (K w.params).In h)
    (F : ∀ (w : World) (mg : Str → Option Value) (fa : Addr) (h : Heap), (K w.params).In h → h.Ns mainGlobals mg → mg d.name = some (.ref fa) →
      ∃ fd : FuncData, (∀ (s : Shared) (u : Value), BindsTo s fd ⟨[u], []⟩ [(x, u)]) ∧ ∀ base : Heap, (K w.params).In base → base.Ns mainGlobals mg → FnC l.prog w (K w.params) mg base CX0 k fa fd [x] (sp w))
    (hsp : ∀ (w : World) (H : Hp) (a : Addr) (ns : List Int), ns.length ≤ n → Only H → SqL (K w.params) H a (ns.map V.int) → sp w [.ref a] H (fun v _ => v = .bl true) fun _ _ _ => False) :
    PySem.W.WalkO q loose XP YP l.row.toRowW d [] (fun f vs => PySem.call f vs) := by
  refine Att.attach_call hn hdf fun w s₀ s mg mb fa o pm cd doc a vs ns G Y ho hd hcd hmg hobj hints hlen hg => ?_
  have KX := hY w _ Y
  obtain ⟨fd, hb, hF⟩ := F w mg fa _ KX G.T.g hmg
  obtain ⟨H, base, hO, hS, kb, nb, e0⟩ := start_at (P := l.prog) (w := w) KX G.T.g G.T.b G.T.builtins G.T.nolimit hg hobj hints (Nat.le_trans hlen hn2)
  refine codeAny_mono ((hF base kb nb).run callerA [] s H ⟨[.ref a], []⟩ [.ref a] [.ref a] _ _ hr rfl e0 (hb s (.ref a)) (.cons rfl .nil) (hsp w H a ns hlen hO hS)) fun r s' h => ?_
  match r, h with
  | .error e, h => exact h.elim
  | .ok (.ret u), h =>
    obtain ⟨v, H', os, bare, un, hok', r', rfl⟩ := h
    obtain rfl : u = Value.bool true := r'
    refine ⟨rfl, OldK.of_keep fun b o e => ?_, os, bare⟩
    rcases hO b with z | ⟨ob, xs, z⟩
    · exact un.keep b o e z (fun y => by cases y) (fun y => by cases y)
    · have h1 := (e0.hok b _ z).1
      have h2 := (hok' b _ (un.frzs b ob _ z)).1
      rw [e] at h1
      cases h1
      exact h2
end Sw
/-! Values of any kind where a road is asked for. -/
namespace Sw
open PySem PySem.Spec PyProof.Rows L2
/-- an item of a list: a whole number, or something that is none -/
inductive Item (H : Hp) : V → Option Int → Prop
  | int (i : Int) : Item H (.int i) (some i)
  | bl (b : Bool) : Item H (.bl b) none
  | non : Item H .non none
  | str (s : Str) : Item H (.str s) none
  | tup {a : Addr} {xs : List V} : H a = some (.tup xs) → Item H (.ref a) none
  | lst {a : Addr} {xs : List V} : H a = some (.lst xs) → Item H (.ref a) none
theorem Item.same {H H' : Hp} {v : V} {o : Option Int} (s : Same H H') (h : Item H v o) : Item H' v o := by
  cases h with
  | int i => exact .int i
  | bl b => exact .bl b
  | non => exact .non
  | str x => exact .str x
  | tup h => exact .tup (s _ _ h)
  | lst h => exact .lst (s _ _ h)
/-- the items of a list, in order -/
def Items (H : Hp) (xs : List V) (os : List (Option Int)) : Prop := xs.length = os.length ∧ ∀ (i : Nat) (x : V), xs[i]? = some x → ∃ o, os[i]? = some o ∧ Item H x o
theorem Items.same {H H' : Hp} {xs : List V} {os : List (Option Int)} (s : Same H H') (h : Items H xs os) : Items H' xs os :=
  ⟨h.1, fun i x e => by obtain ⟨o, h1, h2⟩ := h.2 i x e; exact ⟨o, h1, h2.same s⟩⟩
theorem Items.nil {H : Hp} : Items H [] [] := ⟨rfl, fun i x e => by cases e⟩
theorem Items.cons {H : Hp} {x : V} {o : Option Int} {xs : List V} {os : List (Option Int)} (h : Item H x o) (t : Items H xs os) : Items H (x :: xs) (o :: os) := by
  refine ⟨by rw [List.length_cons, List.length_cons, t.1], fun i y e => ?_⟩
  cases i with
  | zero => cases e; exact ⟨o, rfl, h⟩
  | succ i => exact t.2 i y e
theorem Items.append {H : Hp} : ∀ {xs ys : List V} {os us : List (Option Int)}, Items H xs os → Items H ys us → Items H (xs ++ ys) (os ++ us)
  | [], ys, [], us, _, h => h
  | [], ys, o :: os, us, h, _ => by cases h.1
  | x :: xs, ys, [], us, h, _ => by cases h.1
  | x :: xs, ys, o :: os, us, h, g => by
    obtain ⟨p, hp, hi⟩ := h.2 0 x rfl
    cases hp
    exact .cons hi (Items.append ⟨Nat.succ.inj h.1, fun i y e => h.2 (i + 1) y e⟩ g)
theorem Items.ints {H : Hp} : ∀ (ns : List Int), Items H (ns.map V.int) (ns.map some)
  | [] => .nil
  | n :: ns => .cons (.int n) (Items.ints ns)
/-- a value of any kind: a list with its items, or something else -/
inductive Val (H : Hp) : V → Option (List (Option Int)) → Prop
  | lst {a : Addr} {xs : List V} {os : List (Option Int)} : H a = some (.lst xs) → Items H xs os → Val H (.ref a) (some os)
  | tup {a : Addr} {xs : List V} : H a = some (.tup xs) → Val H (.ref a) none
  | dic {a : Addr} {kvs : List (Key × V)} : H a = some (.dK kvs) → Val H (.ref a) none
  | int (i : Int) : Val H (.int i) none
  | bl (b : Bool) : Val H (.bl b) none
  | non : Val H .non none
  | str (s : Str) : Val H (.str s) none
theorem Val.same {H H' : Hp} {v : V} {o : Option (List (Option Int))} (s : Same H H') (h : Val H v o) : Val H' v o := by
  cases h with
  | lst h g => exact .lst (s _ _ h) (g.same s)
  | tup h => exact .tup (s _ _ h)
  | dic h => exact .dic (s _ _ h)
  | int i => exact .int i
  | bl b => exact .bl b
  | non => exact .non
  | str x => exact .str x
def cntB : Option Int → Bool
  | some i => decide (0 ≤ i)
  | none => false
/-- the place at which a deed is done, if the item is one -/
def placeO (l js : List Nat) : Option Int → Option Nat
  | some i => if 0 ≤ i then (match l[i.toNat]? with | some c => if c ∈ js then some i.toNat else none | none => none) else none
  | none => none
/-- whether the items are a road -/
def walkO (js : List Nat) : List Nat → List (Option Int) → Bool
  | _, [] => true
  | l, o :: os => match placeO l js o with | some p => walkO js (swapL l p) os | none => false
def roadB (js l : List Nat) : Option (List (Option Int)) → Bool
  | some os => walkO js l os
  | none => false
theorem placeO_lt {l js : List Nat} {o : Option Int} {p : Nat} (h : placeO l js o = some p) : ∃ c, o = some (p : Int) ∧ l[p]? = some c ∧ c ∈ js := by
  cases o with
  | none => cases h
  | some i =>
    replace h : (if 0 ≤ i then (match l[i.toNat]? with | some c => if c ∈ js then some i.toNat else none | none => none) else none) = some p := h
    split at h
    · split at h
      · rename_i c e
        split at h
        · rename_i hc
          cases h
          exact ⟨c, by rw [show ((i.toNat : Nat) : Int) = i by omega], e, hc⟩
        · cases h
      · cases h
    · cases h
theorem placeO_yes {l js : List Nat} {p c : Nat} (h : l[p]? = some c) (hm : c ∈ js) : placeO l js (some (p : Int)) = some p := by
  show (if 0 ≤ (p : Int) then (match l[(p : Int).toNat]? with | some c => if c ∈ js then some (p : Int).toNat else none | none => none) else none) = some p
  rw [if_pos (by omega), Int.toNat_natCast, h]
  exact if_pos hm
theorem placeO_not {l js : List Nat} {p c : Nat} (h : l[p]? = some c) (hm : ¬ c ∈ js) : placeO l js (some (p : Int)) = none := by
  show (if 0 ≤ (p : Int) then (match l[(p : Int).toNat]? with | some c => if c ∈ js then some (p : Int).toNat else none | none => none) else none) = none
  rw [if_pos (by omega), Int.toNat_natCast, h]
  exact if_neg hm
theorem placeO_far {l js : List Nat} {p : Nat} (h : l.length ≤ p) : placeO l js (some (p : Int)) = none := by
  show (if 0 ≤ (p : Int) then (match l[(p : Int).toNat]? with | some c => if c ∈ js then some (p : Int).toNat else none | none => none) else none) = none
  rw [if_pos (by omega), Int.toNat_natCast, List.getElem?_eq_none h]
theorem placeO_neg {l js : List Nat} {i : Int} (h : ¬ 0 ≤ i) : placeO l js (some i) = none := by
  show (if 0 ≤ i then (match l[i.toNat]? with | some c => if c ∈ js then some i.toNat else none | none => none) else none) = none
  rw [if_neg h]
theorem walkO_step {js l : List Nat} {os : List (Option Int)} {i p : Nat} {o : Option Int} (h : os[i]? = some o) (hp : placeO l js o = some p) : walkO js l (os.drop i) = walkO js (swapL l p) (os.drop (i + 1)) := by
  obtain ⟨hi, rfl⟩ := List.getElem?_eq_some_iff.mp h
  rw [List.drop_eq_getElem_cons hi]
  show (match placeO l js os[i] with | some p => walkO js (swapL l p) (os.drop (i + 1)) | none => false) = _
  rw [hp]
theorem walkO_stop {js l : List Nat} {os : List (Option Int)} {i : Nat} {o : Option Int} (h : os[i]? = some o) (hp : placeO l js o = none) : walkO js l (os.drop i) = false := by
  obtain ⟨hi, rfl⟩ := List.getElem?_eq_some_iff.mp h
  rw [List.drop_eq_getElem_cons hi]
  show (match placeO l js os[i] with | some p => walkO js (swapL l p) (os.drop (i + 1)) | none => false) = _
  rw [hp]
theorem walkO_end {js l : List Nat} {os : List (Option Int)} : walkO js l (os.drop os.length) = true := by
  rw [List.drop_length]
  rfl
theorem atI_snoc {xs : List V} {x : V} : atI (xs ++ [x]) (-1) = some x := by
  refine at_last ?_
  rw [List.length_append]
  simp
theorem atI_len {xs : List V} {x : V} : atI (xs ++ [x]) ((((xs ++ [x]).length : Nat) : Int) - 1) = some x := by
  unfold atI ixN
  rw [List.length_append]
  have e : ((xs.length + [x].length : Nat) : Int) - 1 = (xs.length : Int) := by simp
  rw [e, if_pos (by omega), if_pos (by simp; omega)]
  show (xs ++ [x])[((xs.length : Nat) : Int).toNat]? = some x
  simp
end Sw
/-! repr of a value of any kind, where no repr is under way -/
namespace Sw
open PySem PySem.Spec PyProof.Rows L2
/-- what repr tells of a value -/
inductive Rp (K : PySem.W.Frag) (H : Hp) : V → Str → Prop
  | non : Rp K H .non (Str.ofString "None")
  | bl (b : Bool) : Rp K H (.bl b) (if b = true then Str.ofString "True" else Str.ofString "False")
  | int (i : Int) : i.natAbs.log2 < 1920 → Rp K H (.int i) (Str.ofString (toString i))
  | str (s : Str) : (reprText s).length ≤ sizeLine → Rp K H (.str s) (reprText s)
  | dic {a : Addr} : H a = some (.dK []) → Rp K H (.ref a) (PyData.dict []).shown
  | dk {a : Addr} {ps : List (Str × Int)} : H a = some (.dK (ps.map fun p => ((Sum.inr p.1 : Key), V.int p.2))) → (PyData.dict (ps.map fun p => (PyData.str p.1, PyData.int p.2))).showable = true → (PyData.dict (ps.map fun p => (PyData.str p.1, PyData.int p.2))).depth ≤ 2 → (PyData.dict (ps.map fun p => (PyData.str p.1, PyData.int p.2))).shown.length ≤ sizeLine → Rp K H (.ref a) (PyData.dict (ps.map fun p => (PyData.str p.1, PyData.int p.2))).shown
  | seq {a : Addr} {d : PyData} : Dp K H (.ref a) d → d.showable = true → d.hasDict = false → d.depth ≤ 62 → d.shown.length ≤ sizeLine → Rp K H (.ref a) d.shown
theorem sqL_same {K : PySem.W.Frag} {H H' : Hp} {a : Addr} {xs : List V} (s : Same H H') (h : SqL K H a xs) : SqL K H' a xs := by
  rcases h with (h | ⟨o, h⟩) | h
  · exact .inl (.inl (s _ _ h))
  · exact .inl (.inr ⟨o, s _ _ h⟩)
  · exact .inr h
theorem sqT_same {K : PySem.W.Frag} {H H' : Hp} {a : Addr} {xs : List V} (s : Same H H') (h : SqT K H a xs) : SqT K H' a xs := by
  rcases h with (h | ⟨o, h⟩) | h
  · exact .inl (.inl (s _ _ h))
  · exact .inl (.inr ⟨o, s _ _ h⟩)
  · exact .inr h
mutual
theorem dp_same {K : PySem.W.Frag} {H H' : Hp} (s : Same H H') : ∀ {d : PyData} {v : V}, Dp K H v d → Dp K H' v d
  | _, _, .non => .non
  | _, _, .bl b => .bl b
  | _, _, .int i => .int i
  | _, _, .str x => .str x
  | _, _, .lst h g => .lst (sqL_same s h) (dpAll_same s g)
  | _, _, .tup h g => .tup (sqT_same s h) (dpAll_same s g)
theorem dpAll_same {K : PySem.W.Frag} {H H' : Hp} (s : Same H H') : ∀ {ds : List PyData} {vs : List V}, DpAll K H vs ds → DpAll K H' vs ds
  | _, _, .nil => .nil
  | _, _, .cons h t => .cons (dp_same s h) (dpAll_same s t)
end
theorem Rp.same {K : PySem.W.Frag} {H H' : Hp} {v : V} {t : Str} (s : Same H H') (h : Rp K H v t) : Rp K H' v t := by
  cases h with
  | non => exact .non
  | bl b => exact .bl b
  | int i h => exact .int i h
  | str x h => exact .str x h
  | dic h => exact .dic (s _ _ h)
  | dk h h1 h2 h3 => exact .dk (s _ _ h) h1 h2 h3
  | seq d h1 h2 h3 h4 => exact .seq (dp_same s d) h1 h2 h3 h4
theorem reads_dk {P : Program} {w : World} {h : Heap} : ∀ {ps : List (Str × Int)} {vs : List (Key × Value)} {es : List DictEntry}, KV (ps.map fun p => ((Sum.inr p.1 : Key), V.int p.2)) vs → Pairs (mixKind P w) es vs →
    ReadsAll h (es.map (·.key)) ((ps.map fun p => (PyData.str p.1, PyData.int p.2)).map (·.1)) [] ∧ ReadsAll h (es.map (·.val)) ((ps.map fun p => (PyData.str p.1, PyData.int p.2)).map (·.2)) []
  | [], _, _, kv, pr => by
    cases kv
    cases pr
    exact ⟨.nil, .nil⟩
  | p :: ps, _, _, kv, pr => by
    rw [List.map_cons] at kv
    cases kv with
    | cons h1 t1 =>
      cases pr with
      | @cons e _ es' vs' h2 h3 t2 =>
        obtain ⟨a1, a2⟩ := h1
        obtain ⟨b1, b2⟩ := reads_dk (h := h) t1 t2
        rw [← a1] at h2
        obtain ⟨tk, a3⟩ := a2
        have hk : ∃ t, e.key = Value.str p.1 t := by
          rcases keyIs_shape (show keyIs (Sum.inr p.1) e.key = true from h2) with ⟨i, t, e1, _⟩ | ⟨x, t, e1, e2⟩
          · cases e1
          · cases e1
            exact ⟨t, e2⟩
        obtain ⟨tt, hk⟩ := hk
        rw [List.map_cons, List.map_cons, List.map_cons, List.map_cons, List.map_cons]
        refine ⟨?_, ?_⟩
        · have r1 : Reads h e.key (PyData.str p.1) [] := by rw [hk]; exact .str _ _
          exact .cons r1 b1
        · have r1 : Reads h e.val (PyData.int p.2) [] := by rw [h3, a3]; exact .int _ _
          exact .cons r1 b2
/-- repr(x) -/
theorem call_reprV {X : Cx} (hg : Calm X.A) (hu : X.A.units + 64 < cLine) : CallR X (.builtin "repr") (fun xs H Q => ∃ (v : V) (t : Str), xs = [v] ∧ Rp X.K H v t ∧ Q (.str t) H) := by
  intro pins s σ H xs us Q I r h
  obtain ⟨v, t, rfl, hr, q⟩ := h
  obtain ⟨u, rfl, rx⟩ := vals1 r
  cases hr with
  | non =>
    obtain rfl : u = Value.none := rx
    exact PySem.P.repr_of_none ⟨.str _, H, I.kept (fun _ _ e => e), ⟨_, rfl⟩, q⟩
  | bl b =>
    obtain rfl : u = Value.bool b := rx
    exact PySem.P.repr_of_bool ⟨.str _, H, I.kept (fun _ _ e => e), ⟨_, rfl⟩, q⟩
  | int i hi =>
    obtain ⟨t, rfl⟩ : ∃ t, u = Value.int i t := rx
    exact PySem.P.repr_of_int hi ⟨.str _, H, I.kept (fun _ _ e => e), ⟨_, rfl⟩, q⟩
  | str x hx =>
    obtain ⟨t, rfl⟩ : ∃ t, u = Value.str x t := rx
    exact PySem.P.repr_of_str ⟨.str _, H, I.kept (fun _ _ e => e), ⟨_, rfl⟩, q⟩ hx
  | @dic a ha =>
    obtain rfl : u = Value.ref a := rx
    have ok := I.hok a _ ha
    obtain ⟨_, low, vs, kv, o, es, ep, e, ex, ed, _, pr, _⟩ := ok
    cases kv
    have hes : es.toList = [] := by
      cases hl : es.toList with
      | nil => rfl
      | cons y ys => rw [hl] at pr; cases pr
    have rd : Reads s.heap (.ref a) (.dict []) ([a] ++ []) := .dict e ex.1 ed (by rw [hes]; exact .nil) (by rw [hes]; exact .nil)
    exact repr_of_reads' rd rfl (fun _ m => by
      rw [List.mem_singleton.mp m, beq_self_eq_true] at low
      cases low) hg (by show X.A.units + ((PyData.dict []).depth + 1) < cLine; have : (PyData.dict []).depth ≤ 2 := by decide
                        omega) (fun _ _ e => e) (fun h' u tk hk => ⟨.str _, H, I.kept hk, ⟨_, rfl⟩, q⟩) (by decide +kernel)
  | @dk a ps ha sh dp sz =>
    obtain rfl : u = Value.ref a := rx
    have ok := I.hok a _ ha
    obtain ⟨_, low, vs, kv, o, es, ep, e, ex, ed, _, pr, _⟩ := ok
    obtain ⟨r1, r2⟩ := reads_dk (h := s.heap) kv pr
    have rd : Reads s.heap (.ref a) (.dict (ps.map fun p => (PyData.str p.1, PyData.int p.2))) ([a] ++ []) := .dict e ex.1 ed r1 r2
    exact repr_of_reads' rd sh (fun _ m => by
      rw [List.mem_singleton.mp m, beq_self_eq_true] at low
      cases low) hg (by show X.A.units + ((PyData.dict _).depth + 1) < cLine; omega) (fun _ _ e => e) (fun h' u tk hk => ⟨.str _, H, I.kept hk, ⟨_, rfl⟩, q⟩) sz
  | @seq a d hd sh nd dp sz =>
    obtain ⟨as, rd⟩ := Dp.reads I d _ _ hd rx
    obtain rfl : u = Value.ref a := rx
    exact repr_of_reads' rd sh (fun z => by rw [nd] at z; cases z) hg (by omega) (fun _ _ e => e) (fun h' u tk hk => ⟨.str d.shown, H, I.kept hk, ⟨_, rfl⟩, q⟩) sz
end Sw

namespace Sw
open PySem PySem.Spec PyProof.Rows L2
/-! ### xs[::step], step reckoned to -1 -/
def tRevS (K : PySem.W.Frag) (te ts : TE) : TE := fun σ H Q => te σ H fun x H1 => ∃ (a : Addr) (xs : List V), x = .ref a ∧ tPart ts σ H1 fun o H2 => o = some (-1) ∧ SqL K H2 a xs ∧ ∀ p, H2 p = none → Q (.ref p) (upd H2 p (.lst xs.reverse))
theorem pe_revS {X : Cx} {e st : PySem.Expr} {te ts : TE} {p3 pos : Pos} (he : PE X e te) (hs : PE X st ts) : PE X (.Subscript e (.Slice none none (some st) p3) pos) (tRevS X.K te ts) := by
  refine ⟨fun pins s σ H Q I h => Subscript_ (thn (he.run pins s σ H _ I h) fun v s1 ⟨x, H1, I1, r1, q1⟩ => ?_)⟩
  obtain ⟨a, xs, rfl, q⟩ := q1
  obtain rfl : v = .ref a := r1
  refine wpAny_Slice (thn (po_none.run pins s1 σ H1 (fun o H2 => o = none ∧ H2 = H1) I1 ⟨rfl, rfl⟩) fun vl s2 ⟨l, H2, I2, pl, el, e2⟩ => ?_)
  subst el e2
  refine thn (po_none.run pins s2 σ H2 (fun o H3 => o = none ∧ H3 = H2) I2 ⟨rfl, rfl⟩) fun vu s3 ⟨u, H3, I3, pu, eu, e3⟩ => ?_
  subst eu e3
  refine thn ((po_some hs).run pins s3 σ H3 _ I3 q) fun vs s4 ⟨o, H4, I4, ps, eo, hx, q4⟩ => ?_
  subst eo
  have I5 := I4.kept (t' := s4.toks) (fun b ob q => Heap.get?_push_of_some { cls := Value.type "slice", data := Data.fields #[vl, vu, vs] } q)
  obtain ⟨its, r, ht, hz⟩ := I5.list hx
  have hlen := r.length
  refine tail_any (PlainL.isList ht).typeIs slot_list_getitem.lookup (wpAny_getItem_list_slice (PlainL.isList ht) (Heap.IsSliceOf.new s4.heap vl vu vs) pl pu ps (by decide) ?_ ?_) rfl
  · rw [PySem.W.krv_pick]
    refine ⟨.ref _, _, I5.laid (o := HO.lst xs.reverse) (fun b ob q => Heap.get?_push_of_some _ q) (Nat.le_refl _) ⟨by rw [List.length_reverse]; exact hz, its.reverse, 0, r.reverse, Heap.get?_push_size _ rfl⟩, rfl, q4 _ (HOk.fresh I5.hok (Nat.le_refl _))⟩
  · rw [List.size_toArray]; omega
end Sw
/-! Data short enough for repr; values of any kind with what repr tells of them. -/
namespace Sw
open PySem PySem.Spec PyProof.Rows L2
structure Short (D W : Nat) (d : PyData) : Prop where
  sh : d.showable = true
  nd : d.hasDict = false
  dp : d.depth ≤ D
  wt : d.weight ≤ W
  lv : PyData.leavesShort 13 d = true
structure ShortAll (D W : Nat) (ds : List PyData) : Prop where
  sh : PyData.showableAll ds = true
  nd : PyData.hasDictAll ds = false
  dp : PyData.depthAll ds ≤ D
  wt : PyData.weightAll ds ≤ ds.length * (W + 1)
  lv : PyData.leavesShortAll 13 ds = true
theorem Short.all {D W : Nat} : ∀ {ds : List PyData}, (∀ d ∈ ds, Short D W d) → ShortAll D W ds
  | [], _ => ⟨rfl, rfl, Nat.zero_le _, Nat.zero_le _, rfl⟩
  | d :: ds, h => by
    have a := h d List.mem_cons_self
    have b := Short.all (ds := ds) fun y hy => h y (List.mem_cons_of_mem _ hy)
    refine ⟨?_, ?_, ?_, ?_, ?_⟩
    · show (d.showable && PyData.showableAll ds) = true
      rw [a.sh, b.sh]; rfl
    · show (d.hasDict || PyData.hasDictAll ds) = false
      rw [a.nd, b.nd]; rfl
    · exact Nat.max_le.mpr ⟨a.dp, b.dp⟩
    · show d.weight + 1 + PyData.weightAll ds ≤ (ds.length + 1) * (W + 1)
      have := a.wt
      have := b.wt
      rw [Nat.add_mul, Nat.one_mul]
      omega
    · show (PyData.leavesShort 13 d && PyData.leavesShortAll 13 ds) = true
      rw [a.lv, b.lv]; rfl
theorem Short.list {D W : Nat} {ds : List PyData} (h : ∀ d ∈ ds, Short D W d) : Short (D + 1) (ds.length * (W + 1)) (.list ds) :=
  have a := Short.all h
  ⟨a.sh, a.nd, Nat.succ_le_succ a.dp, a.wt, a.lv⟩
theorem Short.tup {D W : Nat} {ds : List PyData} (h : ∀ d ∈ ds, Short D W d) : Short (D + 1) (ds.length * (W + 1)) (.tuple ds) :=
  have a := Short.all h
  ⟨a.sh, a.nd, Nat.succ_le_succ a.dp, a.wt, a.lv⟩
theorem Short.mono {D W E X : Nat} {d : PyData} (h : Short D W d) (e : D ≤ E) (x : W ≤ X) : Short E X d := ⟨h.sh, h.nd, Nat.le_trans h.dp e, Nat.le_trans h.wt x, h.lv⟩
theorem Short.non : Short 0 0 .none := ⟨rfl, rfl, Nat.le_refl _, Nat.le_refl _, by decide +kernel⟩
theorem Short.bl (b : Bool) : Short 0 0 (.bool b) := by cases b <;> exact ⟨rfl, rfl, Nat.le_refl _, Nat.le_refl _, by decide +kernel⟩
theorem Short.int {i : Int} (h : i.natAbs ≤ 99999) : Short 0 17 (.int i) := by
  have hl : i.natAbs.log2 ≤ 16 := by
    by_cases z : i.natAbs = 0
    · rw [z]; decide
    · have := (Nat.log2_lt z (k := 17)).mpr (by omega)
      omega
  refine ⟨decide_eq_true (Nat.lt_of_le_of_lt hl (by decide)), rfl, Nat.le_refl _, ?_, ?_⟩
  · show (if (i == 0) = true then 0 else i.natAbs.log2 + 1) ≤ 17
    split <;> omega
  · refine decide_eq_true ?_
    exact PyData.shown_int_le (Nat.lt_of_le_of_lt h (by decide))
theorem Short.rp {K : PySem.W.Frag} {H : Hp} {a : Addr} {d : PyData} (h : Short 60 (2 ^ 20) d) (p : Dp K H (.ref a) d) : Rp K H (.ref a) d.shown :=
  .seq p h.sh h.nd (Nat.le_trans h.dp (by decide)) (PyData.shown_fits (B := 13) (by decide) (by decide) h.lv h.wt)
/-- items with their data -/
def Its (K : PySem.W.Frag) (H : Hp) (xs : List V) (os : List (Option Int)) : Prop := Items H xs os ∧ ∃ ds, DpAll K H xs ds ∧ ds.length = xs.length ∧ ∀ d ∈ ds, Short 2 2000 d
theorem Its.nil {K : PySem.W.Frag} {H : Hp} : Its K H [] [] := ⟨.nil, [], .nil, rfl, fun _ h => by cases h⟩
theorem Its.cons {K : PySem.W.Frag} {H : Hp} {x : V} {o : Option Int} {d : PyData} {xs : List V} {os : List (Option Int)} (h : Item H x o) (p : Dp K H x d) (s : Short 2 2000 d) (t : Its K H xs os) : Its K H (x :: xs) (o :: os) := by
  obtain ⟨t1, ds, t2, t3, t4⟩ := t
  refine ⟨.cons h t1, d :: ds, .cons p t2, by rw [List.length_cons, List.length_cons, t3], fun y hy => ?_⟩
  rcases List.mem_cons.mp hy with rfl | hy
  · exact s
  · exact t4 y hy
theorem dpAll_append {K : PySem.W.Frag} {H : Hp} : ∀ {xs ys : List V} {ds es : List PyData}, DpAll K H xs ds → DpAll K H ys es → DpAll K H (xs ++ ys) (ds ++ es)
  | _, _, _, _, .nil, h => h
  | _, _, _, _, .cons h t, g => .cons h (dpAll_append t g)
theorem Its.append {K : PySem.W.Frag} {H : Hp} {xs ys : List V} {os us : List (Option Int)} (h : Its K H xs os) (g : Its K H ys us) : Its K H (xs ++ ys) (os ++ us) := by
  obtain ⟨h1, ds, h2, h3, h4⟩ := h
  obtain ⟨g1, es, g2, g3, g4⟩ := g
  refine ⟨h1.append g1, ds ++ es, dpAll_append h2 g2, by rw [List.length_append, List.length_append, h3, g3], fun d hd => ?_⟩
  rcases List.mem_append.mp hd with hd | hd
  · exact h4 d hd
  · exact g4 d hd
theorem Its.same {K : PySem.W.Frag} {H H' : Hp} {xs : List V} {os : List (Option Int)} (s : Same H H') (h : Its K H xs os) : Its K H' xs os := by
  obtain ⟨h1, ds, h2, h3, h4⟩ := h
  exact ⟨h1.same s, ds, dpAll_same s h2, h3, h4⟩
theorem Its.ints {K : PySem.W.Frag} {H : Hp} : ∀ {ns : List Int}, (∀ n ∈ ns, n.natAbs ≤ 99999) → Its K H (ns.map V.int) (ns.map some)
  | [], _ => .nil
  | n :: ns, h => .cons (.int n) (.int n) ((Short.int (h n List.mem_cons_self)).mono (by decide) (by decide)) (Its.ints fun y hy => h y (List.mem_cons_of_mem _ hy))
theorem Its.places {K : PySem.W.Frag} {H : Hp} : ∀ {ns : List Nat}, (∀ n ∈ ns, n ≤ 99999) → Its K H (placesV ns) (ns.map fun p : Nat => some (p : Int))
  | [], _ => .nil
  | n :: ns, h => .cons (.int n) (.int n) ((Short.int (by have := h n List.mem_cons_self; omega)).mono (by decide) (by decide)) (Its.places fun y hy => h y (List.mem_cons_of_mem _ hy))
/-- a value of any kind, with what repr tells of it -/
def Fine (K : PySem.W.Frag) (H : Hp) (v : V) : Prop := ∃ (o : Option (List (Option Int))) (t : Str), Val H v o ∧ Rp K H v t ∧ ∀ os, o = some os → os.length ≤ 50000
theorem Fine.same {K : PySem.W.Frag} {H H' : Hp} {v : V} (s : Same H H') (h : Fine K H v) : Fine K H' v := by
  obtain ⟨o, t, h1, h2, h3⟩ := h
  exact ⟨o, t, h1.same s, h2.same s, h3⟩
theorem Its.rp {K : PySem.W.Frag} {H : Hp} {xs : List V} {os : List (Option Int)} {a : Addr} (h : Its K H xs os) (n : xs.length ≤ 500) (e : H a = some (.lst xs)) : ∃ d : PyData, Rp K H (.ref a) d.shown := by
  obtain ⟨h1, ds, h2, h3, h4⟩ := h
  have s := Short.list h4
  rw [h3] at s
  exact ⟨_, Short.rp (s.mono (by decide) (by omega)) (.lst (SqL.of e) h2)⟩
theorem Its.rpT {K : PySem.W.Frag} {H : Hp} {xs : List V} {os : List (Option Int)} {a : Addr} (h : Its K H xs os) (n : xs.length ≤ 500) (e : H a = some (.tup xs)) : ∃ d : PyData, Rp K H (.ref a) d.shown := by
  obtain ⟨h1, ds, h2, h3, h4⟩ := h
  have s := Short.tup h4
  rw [h3] at s
  exact ⟨_, Short.rp (s.mono (by decide) (by omega)) (.tup (SqT.of e) h2)⟩
theorem Fine.lst {K : PySem.W.Frag} {H : Hp} {xs : List V} {os : List (Option Int)} {a : Addr} (h : Its K H xs os) (n : xs.length ≤ 500) (e : H a = some (.lst xs)) : Fine K H (.ref a) := by
  obtain ⟨d, p⟩ := h.rp n e
  exact ⟨some os, _, .lst e h.1, p, fun os' z => by cases z; rw [← h.1.1]; omega⟩
theorem Fine.tup {K : PySem.W.Frag} {H : Hp} {xs : List V} {os : List (Option Int)} {a : Addr} (h : Its K H xs os) (n : xs.length ≤ 500) (e : H a = some (.tup xs)) : Fine K H (.ref a) := by
  obtain ⟨d, p⟩ := h.rpT n e
  exact ⟨none, _, .tup e, p, fun os' z => by cases z⟩
theorem Fine.non {K : PySem.W.Frag} {H : Hp} : Fine K H .non := ⟨none, _, .non, .non, fun _ z => by cases z⟩
theorem Fine.int {K : PySem.W.Frag} {H : Hp} {i : Int} (h : i.natAbs.log2 < 1920) : Fine K H (.int i) := ⟨none, _, .int i, .int i h, fun _ z => by cases z⟩
theorem Fine.str {K : PySem.W.Frag} {H : Hp} {s : Str} (h : (reprText s).length ≤ sizeLine) : Fine K H (.str s) := ⟨none, _, .str s, .str s h, fun _ z => by cases z⟩
theorem Fine.dic {K : PySem.W.Frag} {H : Hp} {a : Addr} (e : H a = some (.dK [])) : Fine K H (.ref a) := ⟨none, _, .dic e, .dic e, fun _ z => by cases z⟩

/-- one item with its data -/
def OneIt (K : PySem.W.Frag) (H : Hp) (x : V) : Prop := ∃ (o : Option Int) (d : PyData), Item H x o ∧ Dp K H x d ∧ Short 2 2000 d
theorem OneIt.same {K : PySem.W.Frag} {H H' : Hp} {x : V} (s : Same H H') (h : OneIt K H x) : OneIt K H' x := by
  obtain ⟨o, d, h1, h2, h3⟩ := h
  exact ⟨o, d, h1.same s, dp_same s h2, h3⟩
theorem OneIt.int {K : PySem.W.Frag} {H : Hp} {i : Int} (h : i.natAbs ≤ 99999) : OneIt K H (.int i) := ⟨_, _, .int i, .int i, (Short.int h).mono (by decide) (by decide)⟩
theorem OneIt.bl {K : PySem.W.Frag} {H : Hp} (b : Bool) : OneIt K H (.bl b) := ⟨_, _, .bl b, .bl b, (Short.bl b).mono (by decide) (by decide)⟩
theorem OneIt.non {K : PySem.W.Frag} {H : Hp} : OneIt K H .non := ⟨_, _, .non, .non, Short.non.mono (by decide) (by decide)⟩
theorem OneIt.zero {K : PySem.W.Frag} {H : Hp} : OneIt K H (.str (Str.ofString "0")) := ⟨_, _, .str _, .str _, ⟨by decide +kernel, by decide +kernel, by decide +kernel, by decide +kernel, by decide +kernel⟩⟩
theorem OneIt.tup {K : PySem.W.Frag} {H : Hp} {a : Addr} (h : H a = some (.tup [.int 0])) : OneIt K H (.ref a) :=
  ⟨_, _, .tup h, .tup (SqT.of h) (.cons (.int 0) .nil), (Short.tup (D := 0) (W := 17) fun d hd => by rw [List.mem_singleton.mp hd]; exact Short.int (by decide)).mono (by decide) (by decide)⟩
theorem OneIt.lst {K : PySem.W.Frag} {H : Hp} {a : Addr} (h : H a = some (.lst [.int 0])) : OneIt K H (.ref a) :=
  ⟨_, _, .lst h, .lst (SqL.of h) (.cons (.int 0) .nil), (Short.list (D := 0) (W := 17) fun d hd => by rw [List.mem_singleton.mp hd]; exact Short.int (by decide)).mono (by decide) (by decide)⟩
theorem OneIt.its {K : PySem.W.Frag} {H : Hp} {x : V} (h : OneIt K H x) : ∃ o, Its K H [x] [o] := by
  obtain ⟨o, d, h1, h2, h3⟩ := h
  exact ⟨o, .cons h1 h2 h3 .nil⟩
theorem placesDp {K : PySem.W.Frag} {H : Hp} : ∀ r : List Nat, DpAll K H (placesV r) (r.map fun p : Nat => PyData.int (p : Int))
  | [] => .nil
  | p :: r => .cons (.int _) (placesDp r)
theorem Its.nest {K : PySem.W.Frag} {H : Hp} {v : Addr} {r : List Nat} (h : H v = some (.lst (placesV r))) (l : r.length ≤ 100) (b : ∀ p ∈ r, p ≤ 99999) : Its K H [V.ref v] [none] := by
  have s := Short.list (D := 0) (W := 17) (ds := r.map fun p : Nat => PyData.int (p : Int)) fun d hd => by
    obtain ⟨p, hp, rfl⟩ := List.mem_map.mp hd
    exact Short.int (by have := b p hp; omega)
  rw [List.length_map] at s
  exact .cons (.lst h) (.lst (SqL.of h) (placesDp r)) (s.mono (by decide) (by omega)) .nil
theorem But.free {g m : Addr} {H H' : Hp} {n : Nat} (b : But g H H') (G : GenAt H' g n) (h : H' m = none) : H m = none := by
  cases e : H m with
  | none => rfl
  | some o =>
    by_cases z : m = g
    · subst z
      obtain ⟨x, y, w, h0, _⟩ := G
      rw [h0] at h
      cases h
    · rw [b m o z e] at h
      cases h
end Sw
/-! Lists of words compared; the words of the road back. -/
namespace Sw
open PySem PySem.Spec PyProof.Rows L2
def wordsD (ws : List (List Nat)) : List PyData := ws.map fun l => PyData.str (S l)
theorem words_dp {K : PySem.W.Frag} {H : Hp} : ∀ ws : List (List Nat), DpAll K H (wordsV ws) (wordsD ws)
  | [] => .nil
  | l :: r => .cons (.str _) (words_dp r)
theorem words_lay : ∀ {ws : List (List Nat)}, (∀ l ∈ ws, wordB l = true) → PyData.canLayAll0 (wordsD ws) = true
  | [], _ => rfl
  | l :: r, h => by
    have h1 := h l List.mem_cons_self
    have h2 := words_lay (ws := r) fun y hy => h y (List.mem_cons_of_mem _ hy)
    have e : PyData.strOk (S l) = true := by
      show (l.toArray.all fun c => decide (c < 0x110000)) = true
      rw [List.all_toArray]
      refine List.all_eq_true.mpr fun c hc => decide_eq_true ?_
      have := wordB_mem h1 hc
      omega
    show (PyData.strOk (S l) && PyData.canLayAll0 (wordsD r)) = true
    rw [e, h2]
    rfl
theorem words_depth : ∀ ws : List (List Nat), PyData.depthAll (wordsD ws) = 0
  | [] => rfl
  | l :: r => by
    show max (PyData.depth (.str (S l))) (PyData.depthAll (wordsD r)) = 0
    rw [words_depth r]
    rfl
theorem words_shaped {ws : List (List Nat)} (h : ∀ l ∈ ws, wordB l = true) : SeqAt.shaped (.list (wordsD ws)) = true := by
  unfold SeqAt.shaped
  have e : (PyData.list (wordsD ws)).depth = 1 := by
    show PyData.depthAll (wordsD ws) + 1 = 1
    rw [words_depth]
  have e2 : (PyData.list (wordsD ws)).canLay0 = true := words_lay h
  rw [e, e2]
  rfl
/-- a test that two lists of words are unlike, which they are not -/
theorem ne_words {K : PySem.W.Frag} {H : Hp} {a b : Addr} {ws : List (List Nat)} {Q : VK} (h : ∀ l ∈ ws, wordB l = true) (ha : SqL K H a (wordsV ws)) (hb : SqL K H b (wordsV ws)) (q : Q (.bl false) H) : rNeD K (.ref a) (.ref b) H Q := by
  refine ⟨_, _, .lst ha (words_dp ws), .lst hb (words_dp ws), words_shaped h, words_shaped h, ?_⟩
  rw [show PyData.eqv (.list (wordsD ws)) (.list (wordsD ws)) = true from PySem.SeqAt.eqv_refl _ (words_lay h)]
  exact q
theorem swapL_mem' {l : List Nat} {p : Nat} (h : wordB l = true) : wordB (swapL l p) = true := wordB_of fun c hc => wordB_mem h (swapL_mem hc)
theorem pass_words {l : List Nat} (h : wordB l = true) : ∀ (r : List Nat) (w : List Nat), w ∈ pass l r → wordB w = true := by
  intro r
  induction r generalizing l with
  | nil => intro w hw; rw [List.mem_singleton.mp hw]; exact h
  | cons p r ih =>
    intro w hw
    rcases List.mem_cons.mp hw with rfl | hw
    · exact h
    · exact ih (swapL_mem' h) w hw
/-- the words of the road back are those of the road, backwards -/
theorem pass_back {n : Nat} : ∀ {l r : List Nat}, l.length = n → (∀ p ∈ r, p < n) → pass (ends l r) (backL n r) = (pass l r).reverse := by
  intro l r
  induction r generalizing l with
  | nil => intro _ _; rfl
  | cons p r ih =>
    intro hl hp
    have hpn : p < l.length := by rw [hl]; exact hp p List.mem_cons_self
    have hr : ∀ q ∈ r, q < n := fun q hq => hp q (List.mem_cons_of_mem _ hq)
    have hs : (swapL l p).length = n := by rw [swapL_len hpn, hl]
    have e1 : backL n (p :: r) = backL n r ++ [n - 1 - p] := by unfold backL; simp
    have e2 : ends (ends (swapL l p) r) (backL n r) = swapL l p := by
      have z := pass_last (ends (swapL l p) r) (backL n r)
      rw [ih hs hr] at z
      have y : (pass (swapL l p) r).reverse[(backL n r).length]? = some (swapL l p) := by
        have hb : (backL n r).length = r.length := by unfold backL; simp
        rw [hb, List.getElem?_reverse (by rw [pass_len]; omega), pass_len]
        rw [show r.length + 1 - 1 - r.length = 0 by omega]
        cases r <;> rfl
      rw [y] at z
      exact (Option.some.inj z).symm
    rw [ends_cons, e1, pass_snoc, ends_snoc, e2, ih hs hr, ← hl, swapL_back hpn]
    show (pass (swapL l p) r).reverse ++ [l] = (l :: pass (swapL l p) r).reverse
    rw [List.reverse_cons]
theorem back_back {n : Nat} {r : List Nat} (h : ∀ p ∈ r, p < n) : backL n (backL n r) = r := by
  unfold backL
  rw [List.map_reverse, List.map_map, List.map_reverse, List.reverse_reverse]
  refine (List.map_congr_left fun p hp => ?_).trans (List.map_id r)
  have := h p hp
  show n - 1 - (n - 1 - p) = p
  omega
/-- what the draws made a road is one by the items, too -/
theorem walk_road {js : List Nat} : ∀ {l r : List Nat}, IsRoad js l r → walkO js l (r.map fun p : Nat => some (p : Int)) = true
  | _, [], _ => rfl
  | l, p :: r, h => by
    obtain ⟨⟨c, hc, hm⟩, h2⟩ := h
    show (match placeO l js (some (p : Int)) with | some p => walkO js (swapL l p) (r.map fun p : Nat => some (p : Int)) | none => false) = true
    rw [placeO_yes hc hm]
    exact walk_road h2
theorem last_len {l r : List Nat} : atI (wordsV (pass l r)) ((((wordsV (pass l r)).length : Nat) : Int) - 1) = some (V.str (S (ends l r))) := by
  have hl : (wordsV (pass l r)).length = r.length + 1 := by rw [List.length_map, pass_len]
  rw [hl, show (((r.length + 1 : Nat) : Int) - 1) = ((r.length : Nat) : Int) by omega]
  refine atI_nat ?_
  rw [List.getElem?_map, pass_last]
  rfl
/-- what stays through a law's row about one road -/
structure FW (H0 : Hp) (g v ke m : Addr) (r ws : List Nat) (c : Nat) (H : Hp) : Prop where
  ro : H v = some (.lst (placesV r))
  ke : H ke = some (.lst (placesV r))
  du : H m = some (.lst (wordsV (pass ws r)))
  G : GenAt H g c
  B : But g H0 H
theorem FW.same {H0 H H' : Hp} {g v ke m : Addr} {r ws : List Nat} {c : Nat} (h : FW H0 g v ke m r ws c H) (s : Same H H') : FW H0 g v ke m r ws c H' :=
  ⟨s _ _ h.ro, s _ _ h.ke, s _ _ h.du, h.G.same s, h.B.trans (.same s)⟩
end Sw
namespace Sw
open PySem PySem.Spec PyProof.Rows L2
theorem FW.but {H0 H H' : Hp} {g v ke m : Addr} {r ws : List Nat} {c c' : Nat} (h : FW H0 g v ke m r ws c H) (nv : v ≠ g) (nk : ke ≠ g) (nm : m ≠ g) (b : But g H H') (G : GenAt H' g c') : FW H0 g v ke m r ws c' H' :=
  ⟨b _ _ nv h.ro, b _ _ nk h.ke, b _ _ nm h.du, G, h.B.trans b⟩
/-- isinstance(x, list) for a value of any kind -/
theorem isi_list {K : PySem.W.Frag} {H : Hp} {v : V} {o : Option (List (Option Int))} {Q : VK} (h : Val H v o) (q : Q (.bl o.isSome) H) : rIsi K [v, .ty "list"] H Q := by
  cases h with
  | lst ht _ => exact ⟨_, _, _, _, true, rfl, ClsV.ty "list", .base (.lst ht), kit_ty (by decide +kernel), q⟩
  | tup ht => exact ⟨_, _, _, _, _, rfl, ClsV.ty "list", .base (.tup ht), kit_ty (by decide +kernel), q⟩
  | dic ht => exact ⟨_, _, _, _, _, rfl, ClsV.ty "list", .base (.dK ht), kit_ty (by decide +kernel), q⟩
  | int i => exact ⟨_, _, _, _, _, rfl, ClsV.ty "list", .base (.int _), kit_ty (by decide +kernel), q⟩
  | bl b => exact ⟨_, _, _, _, _, rfl, ClsV.ty "list", .base (.bl _), kit_ty (by decide +kernel), q⟩
  | non => exact ⟨_, _, _, _, _, rfl, ClsV.ty "list", .base .non, kit_ty (by decide +kernel), q⟩
  | str s => exact ⟨_, _, _, _, _, rfl, ClsV.ty "list", .base (.str _), kit_ty (by decide +kernel), q⟩
/-- a and b, where b is asked only if a holds -/
theorem and_then {t1 t2 : TE} {σ : L2.St} {H : Hp} {Q : VK} {b c : Bool} (h1 : ∀ Q' : VK, Q' (.bl b) H → t1 σ H Q') (h2 : b = true → (∀ H', Same H H' → Q (.bl c) H') → t2 σ H Q) (h3 : b = false → c = false) (q : ∀ H', Same H H' → Q (.bl c) H') : tAndV t1 t2 σ H Q := by
  refine h1 _ ⟨b, rfl, ?_⟩
  cases b with
  | true => exact iteT (h2 rfl q)
  | false =>
    have := q H fun _ _ e => e
    rw [h3 rfl] at this
    exact iteF this
theorem walk_zeros : ∀ n : Nat, IsRoad [120] [120] (List.replicate n 0)
  | 0 => trivial
  | n + 1 => ⟨⟨120, rfl, List.mem_singleton.mpr rfl⟩, walk_zeros n⟩
theorem ends_zeros : ∀ n : Nat, ends [120] (List.replicate n 0) = [120]
  | 0 => rfl
  | n + 1 => ends_zeros n
end Sw
/-! Rules for lists of texts: the least one, how often one stands; a text backwards; the signs of a text as a list. -/
namespace Sw
open PySem PySem.Spec PyProof.Rows L2
/-- the first of the least -/
def minL (x : List Nat) (xs : List (List Nat)) : List Nat := xs.foldl (fun a y => if y < a then y else a) x
theorem minD_words (x : List Nat) (xs : List (List Nat)) : PySem.W.minD (.str (S x)) (wordsD xs) = .str (S (minL x xs)) := by
  unfold PySem.W.minD minL wordsD
  induction xs generalizing x with
  | nil => rfl
  | cons y r ih =>
    rw [List.map_cons, List.foldl_cons, List.foldl_cons, ← ih]
    (try dsimp only)
    rw [PySem.W.dataLt_str]
    have e : (if decide ((S y).cps.toList < (S x).cps.toList) = true then PyData.str (S y) else PyData.str (S x)) = .str (S (if y < x then y else x)) := by
      by_cases h : y < x
      · rw [if_pos (decide_eq_true h), if_pos h]
      · rw [if_neg (fun z => h (of_decide_eq_true z)), if_neg h]
    rw [e]
theorem words_alike (ws : List (List Nat)) : PySem.W.AlikeAll (wordsD ws) := by
  refine ⟨fun x hx y hy => ?_, fun x hx => ?_⟩
  · obtain ⟨a, _, rfl⟩ := List.mem_map.mp hx
    obtain ⟨b, _, rfl⟩ := List.mem_map.mp hy
    rfl
  · obtain ⟨a, _, rfl⟩ := List.mem_map.mp hx
    intro z
    cases z
def rMinS (K : PySem.W.Frag) : List V → Hp → VK → Prop := fun vs H Q => ∃ (a : Addr) (x : List Nat) (xs : List (List Nat)), vs = [V.ref a] ∧ SqL K H a (wordsV (x :: xs)) ∧ Q (.str (S (minL x xs))) H
theorem cr_minS {X : Cx} (hc : X.calm = true) (hu : X.A.units + 64 < cLine) : CallR X (.builtin "min") (rMinS X.K) := by
  intro pins s σ H vs us Q I r h
  obtain ⟨a, x, xs, rfl, hs, q⟩ := h
  obtain ⟨its, rv, hl, _⟩ := I.list hs
  rw [Vals.ref1 r]
  obtain ⟨as, hr⟩ := Dp.readsAll I _ _ _ (words_dp (K := X.K) (H := H) (x :: xs)) rv
  have hd : PyData.depthAll (wordsD (x :: xs)) = 0 := words_depth (x :: xs)
  refine PySem.W.min_list_data (I.ok.hd hc) hl.isList (x := .str (S x)) (xs := wordsD xs) (by rw [List.toList_toArray]; exact hr) (words_alike (x :: xs)) (by show X.A.units + 1 + PyData.depthAll (wordsD (x :: xs)) < cLine; rw [hd]; omega) fun i v h' tk bs _ rd hk => ?_
  rw [minD_words] at rd
  cases rd
  exact ⟨.str _, H, I.kept hk, ⟨_, rfl⟩, q⟩
end Sw
/-! The signs of a text as a list: list(text). -/
namespace Sw
open PySem PySem.W PySem.Spec PyProof.Rows L2
section
variable {prog : Program} {w : World} {A : Around} {E : Value → Shared → Prop} {s : Shared} {x : Str} {t : Tok}
theorem hint_text {Q : Bool → Shared → Prop} (h : Q false s) : wpAny (model prog w) A (Builtin.List.listLengthHint (.str x t)) Q E s := by
  unfold Builtin.List.listLengthHint
  refine wpAny_bind (wpAny_specialOf (typeIs_str s x t) PySem.F.slot_str_len.lookup ?_)
  generalize hid : ("str.__len__" : String) = id0
  wp_delta
  rw [show splitId id0 = some ("str", "__len__") from by subst hid; decide +kernel]
  subst hid
  refine wpAny_bind (wpAny_isInstance (T := "str") (b := true) (typeIs_str s x t) (by rw [isSubtype_type]; kernel_rfl) ?_)
  refine wpAny_ite_split (fun hab => absurd hab (by decide)) (fun _ => ?_)
  refine wpAny_ite_split (fun _ => ?_) (fun hab => absurd (by decide +kernel) hab)
  refine wpAny_bind (wpAny_typeOf (typeIs_str s x t) ?_)
  exact wpAny_pure h
theorem text_extend {R : Result → Shared → Prop} (hh : A.handled = none) (S : Addr) (res : Value) (c₀ : Nat) (hS : s.heap.get? S = some { cls := .type "list", data := .seq #[] c₀ })
    (hR : ∀ h' tk acc' c', (∀ b o, b ≠ S → s.heap.get? b = some o → h'.get? b = some o) → h'.get? S = some { cls := .type "list", dict := none, data := .seq acc' c', slots := #[] } → ItemsOf (SignAt x) acc' x.cps.size → R (.ok (.ret res)) { s with heap := h', toks := tk }) (hn : x.cps.size ≤ sizeLine) :
    wpAny (model prog w) A.in1 (Builtin.List.listExtendWith (.ref S) (.str x t) res)
      (fun fin s' => match fin with | .done f => R (.ok f) s' | .again c' => c'.quiet = true ∧ codeAny (model prog w) A c' R s') (fun e s' => R (.error e) s') s := by
  have hSI : S ≠ s.heap.objs.size := Nat.ne_of_lt (Heap.lt_size hS)
  have hSf : S ∉ [s.heap.objs.size] := by simp only [List.mem_cons, List.not_mem_nil, or_false]; exact hSI
  unfold Builtin.List.listExtendWith
  refine wpAny_bind (wpAny_typeOf (T := "str") (typeIs_str s x t) ?_)
  have h1 : Builtin.List.listSameRef (.ref S) (.str x t) = false := rfl
  have h2 : (Value.type "str" == Value.type "list") = false := by decide
  have h3 : (Value.type "str" == Value.type "tuple") = false := by decide
  simp only [h1, h2, h3, Bool.or_false, Bool.false_eq_true, if_false]
  refine wpAny_bind (wpAny_pyIter_str fun oI St W' st => ?_)
  have W := W' A.in1 hh
  have key : ∀ (h : Heap) (c₁ tk : Nat), St 0 h → (∀ b o, b ≠ S → s.heap.get? b = some o → h.get? b = some o) →
      h.get? S = some { cls := .type "list", data := .seq #[] c₁ } → codeAny (model prog w) A (.builtin "list.extend.loop" ⟨[.ref S, .ref s.heap.objs.size, res], []⟩) R { s with heap := h, toks := tk } := by
    intro h c₁ tk hst hk hS₁
    refine codeAny_extend_loopS W.toS hn S hSf res _ 0 _ #[] c₁ rfl (Nat.zero_le _) hst hS₁ (ItemsOf.nil _) fun s' acc' c' hm hS' hacc => ?_
    rw [Moved.eq_with hm]
    refine hR s'.heap s'.toks acc' c' (fun b o hb e => hm.heap b o (fun hmem => ?_) (hk b o hb e)) hS' hacc
    rcases List.mem_cons.mp hmem with e' | hmem
    · exact hb e'
    · exact absurd (Heap.lt_size e) (by rw [List.mem_singleton.mp hmem]; exact Nat.lt_irrefl _)
  have hS₁ := Heap.get?_push_of_some oI hS
  refine wpAny_bind (wpAny_holding (hint_text ?_))
  refine wpAny_ite_split (fun _ => ?_) (fun _ => wpAny_pure ⟨plainId_quiet PySem.F.plain_extend_loop _, key _ c₀ _ st (fun b o _ e => Heap.get?_push_of_some _ e) hS₁⟩)
  refine wpAny_bind (wpAny_rule ?_)
  refine wpAny_bind ?_
  show wpAny _ _ (updateSeq S (·.push .none) >>= fun _ => updateSeq S (·.pop)) _ _ _
  refine wpAny_bind (wpAny_updateSeq hS₁ rfl ?_)
  have hS₂ := Heap.get?_update_self (Obj.mapSeq (·.push Value.none)) hS₁ rfl
  refine wpAny_updateSeq (hz := by seq_fits) hS₂ rfl ?_
  have hS₃ := Heap.get?_update_self (Obj.mapSeq (·.pop)) hS₂ rfl
  refine wpAny_pure ⟨plainId_quiet PySem.F.plain_extend_loop _, key _ _ _ ?_ (fun b o hb e => ?_) hS₃⟩
  · refine W.frame 0 _ _ st fun b hb o e => ?_
    have hbS : b ≠ S := fun h => hSf (h ▸ hb)
    exact (Heap.get?_update_other _ _ (Ne.symm hbS)).trans ((Heap.get?_update_other _ _ (Ne.symm hbS)).trans e)
  · exact (Heap.get?_update_other _ _ (Ne.symm hb)).trans ((Heap.get?_update_other _ _ (Ne.symm hb)).trans (Heap.get?_push_of_some _ e))
theorem text_init {R : Result → Shared → Prop} (hh : A.handled = none) (S : Addr) (hS : s.heap.get? S = some { cls := .type "list", data := .seq #[] })
    (hR : ∀ h' tk acc' c', (∀ b o, b ≠ S → s.heap.get? b = some o → h'.get? b = some o) → h'.get? S = some { cls := .type "list", dict := none, data := .seq acc' c', slots := #[] } → ItemsOf (SignAt x) acc' x.cps.size → R (.ok (.ret .none)) { s with heap := h', toks := tk }) (hn : x.cps.size ≤ sizeLine) :
    wpAny (model prog w) A.in1 (Builtin.«list.__init__» ⟨[.ref S, .str x t], []⟩)
      (fun fin s' => match fin with | .done f => R (.ok f) s' | .again c' => c'.quiet = true ∧ codeAny (model prog w) A c' R s') (fun e s' => R (.error e) s') s := by
  show wpAny _ _ (do let old ← Builtin.List.listItems (.ref S); Builtin.List.listUpdate (.ref S) (fun _ => #[]); letGo old.toList.reverse; Builtin.List.listExtendWith (.ref S) (.str x t) .none) _ _ s
  refine wpAny_bind ?_
  unfold Builtin.List.listItems
  refine wpAny_bind (wpAny_seqItems hS rfl (wpAny_pure ?_))
  show wpAny _ _ (updateSeq S (fun _ => #[]) >>= fun _ => letGo (#[] : Array Value).toList.reverse >>= fun _ => Builtin.List.listExtendWith (.ref S) (.str x t) .none) _ _ s
  refine wpAny_bind (wpAny_updateSeq hS rfl ?_)
  have hS₂ := Heap.get?_update_self (Obj.mapSeq (fun _ => (#[] : Array Value))) hS rfl
  have oth : ∀ b o, b ≠ S → s.heap.get? b = some o → (s.heap.update S (Obj.mapSeq (fun _ => (#[] : Array Value)))).get? b = some o :=
    fun b o hb e => (Heap.get?_update_other _ _ (Ne.symm hb)).trans e
  refine wpAny_bind (wpAny_letGo ?_)
  refine text_extend hh S .none _ hS₂ (fun h' tk acc' c' hk hS' hacc => ?_) hn
  exact hR h' tk acc' c' (fun b o hb e => hk b o hb (oth b o hb e)) hS' hacc
theorem text_call {Q : Value → Shared → Prop} (hh : A.handled = none) (hn : x.cps.size ≤ sizeLine)
    (hQ : ∀ h' tk acc' c', (∀ b o, s.heap.get? b = some o → h'.get? b = some o) → h'.get? s.heap.objs.size = some { cls := .type "list", dict := none, data := .seq acc' c', slots := #[] } → ItemsOf (SignAt x) acc' x.cps.size → Q (.ref s.heap.objs.size) { s with heap := h', toks := tk }) :
    wpAny (model prog w) A (call (.type "list") [.str x t]) Q E s := by
  refine callType_codes (Q₁ := fun obj s₁ => obj = .ref s.heap.objs.size ∧ s₁ = { s with heap := s.heap.push { cls := .type "list", data := .seq #[] } }) PySem.F.called_list (PySem.F.typeCall_list_1 _) PySem.F.entry_list_init
    (code_list_new _ ⟨rfl, rfl⟩) fun obj s₁ h₁ => ?_
  obtain ⟨rfl, rfl⟩ := h₁
  have hS : (s.heap.push { cls := .type "list", data := .seq #[] }).get? s.heap.objs.size = some { cls := .type "list", data := .seq #[] } := Heap.get?_push_size _ rfl
  refine ⟨⟨_, hS, rfl⟩, PySem.F.args_list_init_2 _ _, text_init (A := A.in1) hh _ hS (fun h' tk acc' c' hk hS' hacc => ?_) hn⟩
  exact ⟨rfl, hQ h' tk acc' c' (fun b o e => hk b o (Nat.ne_of_lt (Heap.lt_size e)) (Heap.get?_push_of_some _ e)) hS' hacc⟩
end
/-- the signs, each a text -/
abbrev signsV (l : List Nat) : List V := (l.map fun c => S [c]).map V.str
def rListS : List V → Hp → VK → Prop := fun xs H Q => ∃ l : List Nat, xs = [.str (S l)] ∧ l.length ≤ 100000 ∧ ∀ q, H q = none → Q (.ref q) (upd H q (.lst (signsV l)))
theorem call_list_str {X : Cx} (hc : X.calm = true) : CallR X (.type "list") rListS := by
  intro pins s σ H xs us Q I r h
  obtain ⟨l, e, hl, q⟩ := h
  subst e
  obtain ⟨u, eu, rx⟩ := vals1 r
  subst eu
  obtain ⟨t, rfl⟩ := rx
  refine text_call (I.ok.hd hc) (by rw [size_S]; exact small_le hl) fun h' tk acc' c' hkeep hS hacc => ?_
  refine ⟨.ref s.heap.objs.size, upd H s.heap.objs.size (.lst (signsV l)), I.laid hkeep (Nat.le_refl _) (show ObjOk X.prog X.w _ _ _ (.lst (signsV l)) from ⟨?_, acc'.toList, c', ?_, ?_⟩), rfl, q _ (I.hok.fresh (Nat.le_refl _))⟩
  · rw [List.length_map, List.length_map]; exact small_le hl
  · have el : acc'.toList.length = acc'.size := by simp
    have es := hacc.1
    rw [size_S] at es
    refine vals_of_at (by rw [List.length_map, List.length_map, el, es]) fun j y w h1 h2 => ?_
    obtain ⟨c, u, hc1, rfl⟩ := hacc.2 j w (by rw [← Array.getElem?_toList]; exact h2)
    rw [at_S] at hc1
    rw [List.getElem?_map, List.getElem?_map, hc1] at h1
    cases h1
    exact ⟨u, rfl⟩
  · rw [Array.toArray_toList]; exact hS
end Sw
namespace Sw
open PySem PySem.Spec PyProof.Rows L2
/-! ### a text backwards, the step reckoned or written -/
def tRevT (te ts : TE) : TE := fun σ H Q => te σ H fun x H1 => ∃ l : List Nat, x = .str (S l) ∧ l.length ≤ 100000 ∧ tPart ts σ H1 fun o H2 => o = some (-1) ∧ Q (.str (S l.reverse)) H2
theorem rev_pick (l : List Nat) : (⟨((Builtin.Str.strSliceIndices none none (-1) (S l).length).filterMap ((S l).cps[·]?)).toArray⟩ : Str) = S l.reverse := by
  have h := step_rev_list (S l) 0
  have e : Txt.sliceBy (S l) none none (-1, 0) = ⟨((Builtin.Str.strSliceIndices none none (-1) (S l).length).filterMap ((S l).cps[·]?)).toArray⟩ := rfl
  rw [e] at h
  have h2 : (List.range (S l).length).map (fun k => (S l).cps.getD ((S l).length - 1 - k) 0) = l.reverse := by
    refine List.ext_getElem (by simp [len_S]) fun i h1 h2 => ?_
    have hi : i < l.length := by simpa using h2
    simp [SX.S, len_S]
    rw [List.getElem?_eq_getElem (by omega)]
    rfl
  rw [h2] at h
  have h3 : ∀ (a : Array Nat), a.toList = l.reverse → (⟨a⟩ : Str) = S l.reverse := by
    intro a ha
    show (⟨a⟩ : Str) = ⟨l.reverse.toArray⟩
    rw [← ha]
  exact h3 _ h
theorem pe_revT {X : Cx} {e st : PySem.Expr} {te ts : TE} {p3 pos : Pos} (he : PE X e te) (hs : PE X st ts) : PE X (.Subscript e (.Slice none none (some st) p3) pos) (tRevT te ts) := by
  refine ⟨fun pins s σ H Q I h => Subscript_ (thn (he.run pins s σ H _ I h) fun v s1 ⟨x, H1, I1, r1, q1⟩ => ?_)⟩
  obtain ⟨l, rfl, hl, q⟩ := q1
  obtain ⟨t, rfl⟩ := r1
  refine wpAny_Slice (thn (po_none.run pins s1 σ H1 (fun o H2 => o = none ∧ H2 = H1) I1 ⟨rfl, rfl⟩) fun vl s2 ⟨lo, H2, I2, pl, el, e2⟩ => ?_)
  subst el e2
  refine thn (po_none.run pins s2 σ H2 (fun o H3 => o = none ∧ H3 = H2) I2 ⟨rfl, rfl⟩) fun vu s3 ⟨u, H3, I3, pu, eu, e3⟩ => ?_
  subst eu e3
  refine thn ((po_some hs).run pins s3 σ H3 _ I3 q) fun vs s4 ⟨o, H4, I4, ps, eo, q4⟩ => ?_
  subst eo
  have I5 := I4.kept (t' := s4.toks) (fun b ob q => Heap.get?_push_of_some { cls := Value.type "slice", data := Data.fields #[vl, vu, vs] } q)
  obtain ⟨l', rfl, el⟩ := IsPart.raw pl
  obtain ⟨u', rfl, eu⟩ := IsPart.raw pu
  obtain ⟨st', rfl, es⟩ := IsPart.raw ps
  have hn1 : l' = none := by cases l' with | none => rfl | some _ => cases el
  have hn2 : u' = none := by cases u' with | none => rfl | some _ => cases eu
  subst hn1 hn2
  refine tail_any (typeIs_str _ _ _) F.slot_str_getitem.lookup ?_ rfl
  refine wpAny_getItem_str_slice (l := none) (u := none) (st := st') ⟨_, Heap.get?_push_size _ rfl, rfl, rfl⟩ (by rw [es]; rfl) ?_
  show Made.post (if ((st'.map (·.1)).getD 1 == 1 && (Builtin.Str.strSliceIndices none none ((st'.map (·.1)).getD 1) (S l).length).length == (S l).length) = true then Made.val (.str (S l) t)
    else Made.str ⟨((Builtin.Str.strSliceIndices none none ((st'.map (·.1)).getD 1) (S l).length).filterMap ((S l).cps[·]?)).toArray⟩) (EP X pins σ Q) _
  rw [es]
  show Made.post (if (((-1 : Int)) == 1 && (Builtin.Str.strSliceIndices none none (-1) (S l).length).length == (S l).length) = true then Made.val (.str (S l) t)
    else Made.str ⟨((Builtin.Str.strSliceIndices none none (-1) (S l).length).filterMap ((S l).cps[·]?)).toArray⟩) (EP X pins σ Q) _
  rw [if_neg (by simp), rev_pick]
  exact ⟨by rw [len_S, List.length_reverse]; exact small_le hl, .str _, H4, I5.tok _, ⟨_, rfl⟩, q4⟩
/-! ### how often a text stands in a list -/
def rCntS (K : PySem.W.Frag) : V → List V → Hp → VK → Prop := fun x xs H Q => ∃ (p : Addr) (ws : List (List Nat)) (l : List Nat), x = .ref p ∧ xs = [.str (S l)] ∧ SqL K H p (wordsV ws) ∧ Q (.int (ws.count l : Nat)) H
theorem plain_words : ∀ ws : List (List Nat), PyData.plainAll (wordsD ws) = true
  | [] => rfl
  | _ :: r => plain_words r
theorem count_words (l : List Nat) (ws : List (List Nat)) : (wordsD ws).countP (fun y => PyData.eqv y (.str (S l))) = ws.count l := by
  unfold wordsD
  rw [List.countP_map]
  show _ = ws.countP (· == l)
  refine List.countP_congr fun a _ => ?_
  show (S a == S l) = true ↔ (a == l) = true
  rw [beq_iff_eq, beq_iff_eq]
  exact ⟨fun h => SX.S_inj h, fun h => by rw [h]⟩
theorem mt_lcountS {X : Cx} (hu : X.A.units + 64 < cLine) : MtR X "list.count" (rCntS X.K) := by
  intro pins s σ H x xs v us Q I rx rxs h
  obtain ⟨p, ws, l, rfl, rfl, hs, q⟩ := h
  cases rx
  obtain ⟨u, rfl, ru⟩ := rxs.one
  obtain ⟨t, rfl⟩ := ru
  obtain ⟨its, rv, hl, _⟩ := I.list hs
  obtain ⟨as, hr⟩ := Dp.readsAll I _ _ _ (words_dp (K := X.K) (H := H) ws) rv
  refine PySem.SeqAt.count_list_data (xs := wordsD ws) (d := .str (S l)) hl.isList (by rw [List.toList_toArray]; exact hr) (.str _ _) (plain_words ws) rfl ?_ ?_
  · have : (PyData.str (S l)).depth = 0 := rfl
    rw [this]
    omega
  · rw [count_words]
    exact ⟨.int _, H, I.tok _, ⟨_, rfl⟩, q⟩
end Sw
/-! Rings: their turnings, the first of them, how many turnings keep a ring. -/
namespace Sw
def rotL {α : Type} (r : List α) (i : Nat) : List α := r.drop i ++ r.take i
def turnsL (r : List Nat) : List (List Nat) := (List.range r.length).map (rotL r)
def minW : List (List Nat) → List Nat
  | [] => []
  | x :: xs => minL x xs
def starL (l js : List Nat) : List Nat := l.map fun c => if c ∈ js then 42 else c
def ringL (l js : List Nat) : List Nat := starL l js ++ [42]
def keepN (r : List Nat) : Nat := (turnsL r).count r
theorem rot_len {α : Type} (r : List α) (i : Nat) : (rotL r i).length = r.length := by
  unfold rotL; simp; omega
theorem rot_get {α : Type} {r : List α} {i j : Nat} (hi : i ≤ r.length) (hj : j < r.length) : (rotL r i)[j]? = r[(i + j) % r.length]? := by
  unfold rotL
  by_cases h : j < r.length - i
  · rw [List.getElem?_append_left (by rw [List.length_drop]; exact h), List.getElem?_drop, Nat.mod_eq_of_lt (by omega)]
  · rw [List.getElem?_append_right (by rw [List.length_drop]; omega), List.length_drop, List.getElem?_take_of_lt (by omega)]
    congr 1
    rw [show i + j = (j - (r.length - i)) + r.length by omega, Nat.add_mod_right, Nat.mod_eq_of_lt (by omega)]
theorem list_ext_mod {α : Type} {r q : List α} (hl : r.length = q.length) (h : ∀ j, j < r.length → r[j]? = q[j]?) : r = q := by
  refine List.ext_getElem? fun j => ?_
  by_cases hj : j < r.length
  · exact h j hj
  · rw [List.getElem?_eq_none (by omega), List.getElem?_eq_none (by omega)]
/-- turned by any number: cells taken round -/
theorem rot_rot {α : Type} {r : List α} {i j : Nat} (hi : i ≤ r.length) (hj : j ≤ r.length) : rotL (rotL r i) j = rotL r ((i + j) % r.length) := by
  by_cases hz : r.length = 0
  · have : r = [] := List.eq_nil_of_length_eq_zero hz
    subst this
    simp [rotL]
  refine list_ext_mod (by rw [rot_len, rot_len, rot_len]) fun k hk => ?_
  rw [rot_len, rot_len] at hk
  have hm : (i + j) % r.length < r.length := Nat.mod_lt _ (by omega)
  rw [rot_get (by rw [rot_len]; exact hj) (by rw [rot_len]; exact hk), rot_get (Nat.le_of_lt hm) hk, rot_len, rot_get hi (Nat.mod_lt _ (by omega))]
  congr 1
  rw [Nat.add_mod_mod, ← Nat.add_assoc, Nat.mod_add_mod]
theorem rot_zero {α : Type} (r : List α) : rotL r 0 = r := by simp [rotL]
theorem rot_full {α : Type} (r : List α) : rotL r r.length = r := by simp [rotL]
theorem rot_inj {α : Type} {r q : List α} {i : Nat} (hl : r.length = q.length) (h : rotL r i = rotL q i) : r = q := by
  unfold rotL at h
  have h1 := List.append_inj h (by rw [List.length_drop, List.length_drop, hl])
  rw [← List.take_append_drop i r, ← List.take_append_drop i q, h1.1, h1.2]
theorem mem_turns {r q : List Nat} : q ∈ turnsL r ↔ ∃ i, i < r.length ∧ q = rotL r i := by
  unfold turnsL
  rw [List.mem_map]
  constructor
  · rintro ⟨i, hi, rfl⟩; exact ⟨i, List.mem_range.mp hi, rfl⟩
  · rintro ⟨i, hi, rfl⟩; exact ⟨i, List.mem_range.mpr hi, rfl⟩
/-- a turned ring has the same turnings -/
theorem mem_turns_rot {r q : List Nat} {k : Nat} (hk : k ≤ r.length) : q ∈ turnsL (rotL r k) ↔ q ∈ turnsL r := by
  rw [mem_turns, mem_turns, rot_len]
  constructor
  · rintro ⟨i, hi, rfl⟩
    refine ⟨(k + i) % r.length, Nat.mod_lt _ (by omega), rot_rot hk (by omega)⟩
  · rintro ⟨i, hi, rfl⟩
    refine ⟨(r.length - k + i) % r.length, Nat.mod_lt _ (by omega), ?_⟩
    have hm : (r.length - k + i) % r.length < r.length := Nat.mod_lt _ (by omega)
    rw [rot_rot hk (Nat.le_of_lt hm)]
    congr 1
    rw [Nat.add_mod_mod, show k + (r.length - k + i) = i + r.length by omega, Nat.add_mod_right, Nat.mod_eq_of_lt hi]
/-! ### the least of some texts -/
theorem minL_le (x : List Nat) (xs : List (List Nat)) : (∀ y ∈ x :: xs, ¬ y < minL x xs) ∧ minL x xs ∈ x :: xs := by
  unfold minL
  induction xs generalizing x with
  | nil =>
    refine ⟨fun y hy => ?_, List.mem_singleton.mpr rfl⟩
    rw [List.mem_singleton.mp hy]
    exact List.lt_irrefl _
  | cons y r ih =>
    rw [List.foldl_cons]
    by_cases h : y < x
    · rw [if_pos h]
      obtain ⟨h1, h2⟩ := ih y
      refine ⟨fun z hz => ?_, List.mem_cons_of_mem _ h2⟩
      rcases List.mem_cons.mp hz with rfl | hz
      · exact fun q => h1 y List.mem_cons_self (List.lt_trans h q)
      · exact h1 z hz
    · rw [if_neg h]
      obtain ⟨h1, h2⟩ := ih x
      refine ⟨fun z hz => ?_, ?_⟩
      · rcases List.mem_cons.mp hz with rfl | hz
        · exact h1 z List.mem_cons_self
        · rcases List.mem_cons.mp hz with rfl | hz
          · intro q
            have h3 := h1 x List.mem_cons_self
            have e1 := List.not_lt.mp h3
            have e2 := List.not_lt.mp h
            exact (List.not_lt.mpr (List.le_trans e1 e2)) q
          · exact h1 z (List.mem_cons_of_mem _ hz)
      · rcases List.mem_cons.mp h2 with h2 | h2
        · rw [h2]; exact List.mem_cons_self
        · exact List.mem_cons_of_mem _ (List.mem_cons_of_mem _ h2)
theorem minW_spec {ws : List (List Nat)} (h : ws ≠ []) : (∀ y ∈ ws, ¬ y < minW ws) ∧ minW ws ∈ ws := by
  cases ws with
  | nil => exact absurd rfl h
  | cons x xs => exact minL_le x xs
theorem minW_eq {ws : List (List Nat)} {m : List Nat} (hm : m ∈ ws) (hl : ∀ y ∈ ws, ¬ y < m) : minW ws = m := by
  have hne : ws ≠ [] := List.ne_nil_of_mem hm
  obtain ⟨h1, h2⟩ := minW_spec hne
  exact List.le_antisymm (List.not_lt.mp (h1 m hm)) (List.not_lt.mp (hl _ h2))
theorem minW_same {ws vs : List (List Nat)} (h : ∀ q, q ∈ ws ↔ q ∈ vs) : minW ws = minW vs := by
  cases ws with
  | nil =>
    cases vs with
    | nil => rfl
    | cons v vs => exact absurd ((h v).mpr List.mem_cons_self) (by simp)
  | cons x xs =>
    have hne : vs ≠ [] := List.ne_nil_of_mem ((h x).mp List.mem_cons_self)
    obtain ⟨h1, h2⟩ := minW_spec hne
    exact minW_eq ((h _).mpr h2) fun y hy => h1 y ((h y).mp hy)
theorem turns_ne {r : List Nat} (h : r ≠ []) : turnsL r ≠ [] := by
  cases r with
  | nil => exact absurd rfl h
  | cons c r => exact List.ne_nil_of_mem (mem_turns.mpr ⟨0, by simp, rfl⟩)
theorem min_rot {r : List Nat} {k : Nat} (hk : k ≤ r.length) : minW (turnsL (rotL r k)) = minW (turnsL r) := minW_same fun _ => mem_turns_rot hk
/-- the first turning is one -/
theorem min_mem {r : List Nat} (h : r ≠ []) : ∃ i, i < r.length ∧ minW (turnsL r) = rotL r i := mem_turns.mp (minW_spec (turns_ne h)).2
theorem min_min {r : List Nat} (h : r ≠ []) : minW (turnsL (minW (turnsL r))) = minW (turnsL r) := by
  obtain ⟨i, hi, e⟩ := min_mem h
  rw [e, min_rot (by omega), e]
/-! ### how many turnings keep a ring -/
theorem keep_filter (r : List Nat) : keepN r = ((List.range r.length).filter fun i => decide (rotL r i = r)).length := by
  unfold keepN turnsL
  rw [List.count_eq_countP, List.countP_map, List.countP_eq_length_filter]
  congr 1
  refine List.filter_congr fun i _ => ?_
  show (rotL r i == r) = decide (rotL r i = r)
  exact Bool.eq_iff_iff.mpr (by rw [beq_iff_eq, decide_eq_true_iff])
theorem keep_rot {r : List Nat} {k : Nat} (hk : k ≤ r.length) : keepN (rotL r k) = keepN r := by
  rw [keep_filter, keep_filter, rot_len]
  congr 1
  refine List.filter_congr fun i hi => ?_
  have hi' := List.mem_range.mp hi
  have e : rotL (rotL r k) i = rotL (rotL r i) k := by
    rw [rot_rot hk (by omega), rot_rot (by omega) hk, Nat.add_comm]
  rw [e]
  refine decide_eq_decide.mpr ⟨fun h => rot_inj (rot_len r i) h, fun h => by rw [h]⟩
theorem keep_pos {r : List Nat} (h : r ≠ []) : 0 < keepN r := by
  unfold keepN
  refine List.count_pos_iff.mpr (mem_turns.mpr ⟨0, ?_, (rot_zero r).symm⟩)
  cases r with
  | nil => exact absurd rfl h
  | cons _ _ => simp
/-- turnings that keep a ring: multiples of the least one -/
theorem rot_add {r : List Nat} {i j : Nat} (hi : i ≤ r.length) (hj : j ≤ r.length) (h : rotL r i = r) : rotL r ((i + j) % r.length) = rotL r j := by
  rw [← rot_rot hi hj, h]
theorem rot_mod {r : List Nat} {i : Nat} (h : i ≤ r.length) : rotL r (i % r.length) = rotL r i := by
  rcases Nat.lt_or_ge i r.length with h1 | h1
  · rw [Nat.mod_eq_of_lt h1]
  · have : i = r.length := by omega
    rw [this, Nat.mod_self, rot_zero, rot_full]
theorem per_mul {r : List Nat} {d : Nat} (hd : d ≤ r.length) (h : rotL r d = r) : ∀ m, m * d ≤ r.length → rotL r (m * d) = r
  | 0, _ => by rw [Nat.zero_mul]; exact rot_zero r
  | m + 1, hm => by
    have h1 : m * d ≤ r.length := by rw [Nat.succ_mul] at hm; omega
    have h2 := rot_add h1 hd (per_mul hd h m h1)
    rw [h] at h2
    rw [← rot_mod hm, Nat.succ_mul]
    exact h2
theorem per_sub {r : List Nat} {i j : Nat} (hij : i ≤ j) (hj : j ≤ r.length) (hi : rotL r i = r) (h : rotL r j = r) : rotL r (j - i) = r := by
  have e := rot_add (i := i) (j := j - i) (by omega) (by omega) hi
  rw [show i + (j - i) = j by omega, rot_mod hj, h] at e
  exact e.symm
theorem least_per {r : List Nat} (h : r ≠ []) : ∃ d, 0 < d ∧ d ≤ r.length ∧ rotL r d = r ∧ ∀ i, i ≤ r.length → rotL r i = r → d ∣ i := by
  have hn : 0 < r.length := List.length_pos_iff.mpr h
  have ex : ∃ d, 0 < d ∧ rotL r d = r ∧ d ≤ r.length := ⟨r.length, hn, rot_full r, Nat.le_refl _⟩
  have key : ∀ m, (∃ d, d ≤ m ∧ 0 < d ∧ rotL r d = r ∧ d ≤ r.length) → ∃ d, (0 < d ∧ rotL r d = r ∧ d ≤ r.length) ∧ ∀ e, 0 < e → rotL r e = r → e ≤ r.length → d ≤ e := by
    intro m
    induction m with
    | zero => rintro ⟨d, h0, h1, _⟩; omega
    | succ m ih =>
      rintro ⟨d, hdm, hd⟩
      by_cases hex : ∃ d, d ≤ m ∧ 0 < d ∧ rotL r d = r ∧ d ≤ r.length
      · exact ih hex
      · refine ⟨d, hd, fun e e0 e1 e2 => ?_⟩
        by_cases he : e ≤ m
        · exact absurd ⟨e, he, e0, e1, e2⟩ hex
        · omega
  obtain ⟨d, ⟨d0, d1, d2⟩, dm⟩ := key r.length ⟨r.length, Nat.le_refl _, hn, rot_full r, Nat.le_refl _⟩
  refine ⟨d, d0, d2, d1, fun i hi hir => ?_⟩
  have hq : i / d * d ≤ i := Nat.div_mul_le_self i d
  have h1 := per_mul d2 d1 (i / d) (by omega)
  have h2 := per_sub hq hi h1 hir
  have h3 : i - i / d * d = i % d := by
    have := Nat.div_add_mod i d
    rw [Nat.mul_comm] at this
    omega
  rw [h3] at h2
  have h4 : i % d < d := Nat.mod_lt _ d0
  by_cases hz : i % d = 0
  · exact Nat.dvd_of_mod_eq_zero hz
  · have := dm (i % d) (by omega) h2 (by omega)
    omega
theorem multiples_len {d : Nat} (hd : 0 < d) : ∀ q, ((List.range (q * d)).filter fun i => decide (d ∣ i)).length = q
  | 0 => by simp
  | q + 1 => by
    rw [Nat.succ_mul, List.range_add, List.filter_append, List.length_append, multiples_len hd q, List.filter_map, List.length_map]
    congr 1
    have e : ((List.range d).filter ((fun i => decide (d ∣ i)) ∘ fun x => q * d + x)) = [0] := by
      cases d with
      | zero => omega
      | succ d =>
        rw [List.range_succ_eq_map, List.filter_cons]
        have h0 : ((fun i => decide (d + 1 ∣ i)) ∘ fun x => q * (d + 1) + x) 0 = true := decide_eq_true (by rw [Nat.add_zero]; exact Nat.dvd_mul_left _ _)
        rw [if_pos h0]
        congr 1
        refine List.filter_eq_nil_iff.mpr fun i hi => ?_
        obtain ⟨j, hj, rfl⟩ := List.mem_map.mp hi
        have hj' := List.mem_range.mp hj
        intro hc
        have hc' : d + 1 ∣ q * (d + 1) + (j + 1) := of_decide_eq_true hc
        have := (Nat.dvd_add_right (Nat.dvd_mul_left (d + 1) q)).mp hc'
        have := Nat.le_of_dvd (by omega) this
        omega
    rw [e]
    rfl
theorem keep_count {r : List Nat} (h : r ≠ []) : ∃ d, 0 < d ∧ keepN r * d = r.length ∧ rotL r d = r := by
  obtain ⟨d, d0, d1, d2, d3⟩ := least_per h
  obtain ⟨q, hq⟩ := d3 r.length (Nat.le_refl _) (rot_full r)
  have hq' : r.length = q * d := by rw [hq, Nat.mul_comm]
  refine ⟨d, d0, ?_, d2⟩
  rw [keep_filter]
  have e : (List.range r.length).filter (fun i => decide (rotL r i = r)) = (List.range (q * d)).filter fun i => decide (d ∣ i) := by
    rw [← hq']
    refine List.filter_congr fun i hi => ?_
    have hi' := List.mem_range.mp hi
    refine decide_eq_decide.mpr ⟨fun hr => d3 i (by omega) hr, ?_⟩
    rintro ⟨m, rfl⟩
    rw [Nat.mul_comm]
    exact per_mul d1 d2 m (by rw [Nat.mul_comm]; omega)
  rw [e, multiples_len d0, hq']
/-- each sign stands in a ring as often as a multiple of the turnings that keep it -/
theorem keep_dvd {r : List Nat} (h : r ≠ []) (c : Nat) : keepN r ∣ r.count c := by
  obtain ⟨d, d0, d1, d2⟩ := keep_count h
  have hd : d ≤ r.length := by rw [← d1]; exact Nat.le_mul_of_pos_left d (keep_pos h)
  have key : ∀ m, m * d ≤ r.length → (r.take (m * d)).count c = m * (r.take d).count c := by
    intro m
    induction m with
    | zero => intro _; simp
    | succ m ih =>
      intro hm
      have hm1 : m * d + d ≤ r.length := by rw [Nat.succ_mul] at hm; exact hm
      rw [Nat.succ_mul, List.take_add, List.count_append, ih (by omega), Nat.succ_mul]
      congr 1
      have e := per_mul hd d2 m (by omega)
      have e2 : (rotL r (m * d)).take d = (r.drop (m * d)).take d := by
        unfold rotL
        rw [List.take_append_of_le_length (by rw [List.length_drop]; omega)]
      rw [← e2, e]
  have := key (keepN r) (by omega)
  rw [d1, List.take_length] at this
  exact ⟨_, this⟩
/-! ### words and their rings -/
theorem star_app (l m js : List Nat) : starL (l ++ m) js = starL l js ++ starL m js := List.map_append
theorem star_len (l js : List Nat) : (starL l js).length = l.length := List.length_map _
theorem ring_len (l js : List Nat) : (ringL l js).length = l.length + 1 := by unfold ringL; rw [List.length_append, star_len]; rfl
theorem ring_ne (l js : List Nat) : ringL l js ≠ [] := by unfold ringL; simp
/-- a deed turns the ring -/
theorem ring_swap {l js : List Nat} {p c : Nat} (hc : l[p]? = some c) (hj : c ∈ js) : ringL (swapL l p) js = rotL (ringL l js) (p + 1) := by
  obtain ⟨hp, e⟩ := List.getElem?_eq_some_iff.mp hc
  have hl : l = l.take p ++ c :: l.drop (p + 1) := by rw [← e, ← List.drop_eq_getElem_cons hp, List.take_append_drop]
  have hr : ringL l js = (starL (l.take p) js ++ [42]) ++ (starL (l.drop (p + 1)) js ++ [42]) := by
    unfold ringL
    conv => lhs; rw [hl, star_app]
    have : starL (c :: l.drop (p + 1)) js = 42 :: starL (l.drop (p + 1)) js := by
      show (if c ∈ js then 42 else c) :: _ = _
      rw [if_pos hj]; rfl
    rw [this]
    simp
  have h1 : (starL (l.take p) js ++ [42]).length = p + 1 := by rw [List.length_append, star_len, List.length_take]; simp; omega
  rw [hr]
  unfold rotL
  rw [List.drop_left' h1, List.take_left' h1, swapL_one hc]
  unfold ringL
  rw [star_app, star_app]
  have : starL [c] js = [42] := by
    show [if c ∈ js then 42 else c] = [42]
    rw [if_pos hj]
  rw [this]
  simp
theorem ring_end {l js : List Nat} {p c : Nat} (hc : l[p]? = some c) (hj : c ∈ js) : minW (turnsL (ringL (swapL l p) js)) = minW (turnsL (ringL l js)) ∧ keepN (ringL (swapL l p) js) = keepN (ringL l js) := by
  have hp : p < l.length := (List.getElem?_eq_some_iff.mp hc).1
  rw [ring_swap hc hj]
  exact ⟨min_rot (by rw [ring_len]; omega), keep_rot (by rw [ring_len]; omega)⟩
/-! ### star rings -/
def smallB (l : List Nat) : Bool := l.all signB
def starRingB (l : List Nat) : Bool := decide (42 ∈ l) && wordB (l.filter fun c => decide (c ≠ 42)) && decide (l = minW (turnsL l))
end Sw
/-! What readings by macro lean on. -/
namespace Sw
open PySem PySem.Spec PyProof.Rows L2
theorem Same.at {H H' : Hp} {a : Addr} {o : HO} (s : Same H H') (h : H a = some o) : H' a = some o := s _ _ h
theorem But.at {g a : Addr} {H H' : Hp} {o : HO} (s : But g H H') (n : a ≠ g) (h : H a = some o) : H' a = some o := s _ _ n h
theorem upd_at {H : Hp} {p : Addr} {o : HO} : (upd H p o) p = some o := upd_same
/-- a new item behind those of a list that a comprehension makes -/
theorem grow {H1 H4 : Hp} {D : Addr} {xs ys : List V} {y : V} (hD : H1 D = none) (s : Same H1 H4) (d : H4 D = some (.lst xs)) (l : xs.length ≤ 100000) (e : ys = xs ++ [y]) :
    ∃ acc, H4 D = some (.lst acc) ∧ acc.length < sizeLine ∧ (Same H1 (upd H4 D (.lst (acc ++ [y]))) ∧ (upd H4 D (.lst (acc ++ [y]))) D = some (.lst ys)) := by
  refine ⟨xs, d, small_line l, fun b o h => ?_, ?_⟩
  · rw [upd_ne (ne_of_none h hD)]; exact s b o h
  · rw [upd_same, e]
theorem GenAt.off {H : Hp} {g p : Addr} {n m : Nat} {o : HO} (h : GenAt H g n) (ne : p ≠ g) (l : n ≤ m) : GenAt (upd H p o) g m := by
  obtain ⟨x, y, z, h0, hx, hy, hz⟩ := h
  exact ⟨x, y, z, by rw [upd_ne ne.symm]; exact h0, hx, hy, hz.1, by omega⟩
/-- the same where draws go on -/
theorem growB {g D : Addr} {H1 H4 : Hp} {n m : Nat} {xs ys : List V} {y : V} (hD : H1 D = none) (nD : D ≠ g) (s : But g H1 H4) (G : GenAt H4 g n) (d : H4 D = some (.lst xs)) (l : xs.length ≤ 100000) (e : ys = xs ++ [y]) (hn : n ≤ m) :
    ∃ acc, H4 D = some (.lst acc) ∧ acc.length < sizeLine ∧ (But g H1 (upd H4 D (.lst (acc ++ [y]))) ∧ GenAt (upd H4 D (.lst (acc ++ [y]))) g m ∧ (upd H4 D (.lst (acc ++ [y]))) D = some (.lst ys)) := by
  refine ⟨xs, d, small_line l, fun b o ne h => ?_, G.off nD hn, ?_⟩
  · rw [upd_ne (ne_of_none h hD)]; exact s b o ne h
  · rw [upd_same, e]
/-- a list that a def made is changed by the def itself -/
theorem But.own {g v : Addr} {H H1 : Hp} {o : HO} (b : But g H H1) (hv : H v = none) : But g H (L2.upd H1 v o) := fun a u ne e => by
  rw [upd_ne (ne_of_none e hv)]
  exact b a u ne e
theorem Same.own {v : Addr} {H H1 : Hp} {o : HO} (b : Same H H1) (hv : H v = none) : Same H (L2.upd H1 v o) := fun a u e => by
  rw [upd_ne (ne_of_none e hv)]
  exact b a u e
theorem alloc_same {H H' : Hp} {p : Addr} {o : HO} (hX : L2.upd H p o = H') (hn : H p = none) : Same H H' := hX ▸ Same.upd hn
theorem alloc_at {H H' : Hp} {p : Addr} {o : HO} (hX : L2.upd H p o = H') : H' p = some o := hX ▸ upd_same
end Sw
/-! Deeds of told widths: which places are let; a dict made of a walk. -/
namespace Sw
open PySem PySem.Spec PyProof.Rows L2
theorem dc_itS {J : It} {n : Nat} {G : Hp → Prop} {Y : Nat → Hp → V → Hp → Prop} (w : L2.Walk J n G Y) {g : TG} {tt : TT} {tk tv : TE} {vs : List Nat} {σ : L2.St} {H1 : Hp} {D : Addr} {Qd : Hp → Prop} (Pv : Nat → Hp → Prop) (h0 : Pv 0 (L2.upd H1 D (.dK []))) (hG : ∀ i H, i ≤ n → Pv i H → G H) (hs : ∀ i x H H', i < n → Pv i H → Y i H x H' → g x (wipe σ vs) H' fun σ2 H2 => wipe σ2 vs = wipe σ vs ∧ tt σ2 H2 fun b H3 => if b = true then tk σ2 H3 fun y H4 => tv σ2 H4 fun z H5 => ∃ kvs k, y = kV k ∧ H5 D = some (.dK kvs) ∧ kvs.length < sizeLine ∧ Pv (i + 1) (L2.upd H5 D (.dK (putK kvs k z))) else Pv (i + 1) H3) (hd : ∀ H, Pv n H → Qd H) :
    ∃ W : Nat → Nat → Hp → Prop, (∃ m, W 0 m (L2.upd H1 D (.dK []))) ∧ ∀ i m H, W i m H → (J.stop i H ∧ Qd H) ∨ (J.go i H ∧ ∃ Nx : Hp → Prop, (∀ H', Nx H' → ∃ m', m' < m ∧ W (i + 1) m' H') ∧ ∀ x H', J.yld i H x H' → g x (wipe σ vs) H' fun σ2 H2 => wipe σ2 vs = wipe σ vs ∧ tt σ2 H2 fun b H3 => if b = true then tk σ2 H3 fun y H4 => tv σ2 H4 fun z H5 => ∃ kvs k, y = kV k ∧ H5 D = some (.dK kvs) ∧ kvs.length < sizeLine ∧ Nx (L2.upd H5 D (.dK (putK kvs k z))) else Nx H3) := by
  refine ⟨fun j left E => left = n - j ∧ (j ≤ n ∧ Pv j E), ⟨n, (by omega), (by omega), h0⟩, ?_⟩
  rintro j left E ⟨rfl, hj, p⟩
  have q := hG j E hj p
  by_cases hlt : j < n
  · exact .inr ⟨w.goes j E hlt q, Pv (j + 1), fun E' p' => ⟨n - (j + 1), by omega, rfl, hlt, p'⟩, fun x E' y => hs j x E E' hlt p (w.yields j E x E' hlt q y)⟩
  · have e : j = n := by omega
    subst e
    exact .inl ⟨w.stops E q, hd E p⟩
/-- whether widths let the deed at a place of a word of n letters -/
def letB (n : Nat) (wd : List Nat) (p : Nat) : Bool := decide (p + 1 ∈ wd) || decide (n - p ∈ wd)
def letL (l js wd : List Nat) : List Nat := (openL l js).filter (letB l.length wd)
def letO (n : Nat) (wd : List Nat) : Option Int → Bool
  | some i => letB n wd i.toNat
  | none => false
def letsO (n : Nat) (wd : List Nat) : Option (List (Option Int)) → Bool
  | some os => os.all (letO n wd)
  | none => false
/-- the law's walk -/
def walkW (js wd : List Nat) : List Nat → List (Option Int) → Bool
  | _, [] => true
  | l, o :: os => match placeO l js o with | some p => if letB l.length wd p then walkW js wd (swapL l p) os else false | none => false
def roadW (js wd l : List Nat) : Option (List (Option Int)) → Bool
  | some os => walkW js wd l os
  | none => false
theorem walkW_eq {js wd : List Nat} : ∀ {l : List Nat} {os : List (Option Int)}, walkW js wd l os = (walkO js l os && os.all (letO l.length wd)) := by
  intro l os
  induction os generalizing l with
  | nil => rfl
  | cons o os ih =>
    unfold walkW walkO
    cases hp : placeO l js o with
    | none => rfl
    | some p =>
      obtain ⟨c, rfl, hc, hcj⟩ := placeO_lt hp
      have hl : p < l.length := (List.getElem?_eq_some_iff.mp hc).1
      have e := ih (l := swapL l p)
      rw [swapL_len hl] at e
      dsimp only
      rw [List.all_cons, e]
      have e2 : letO l.length wd (some (p : Int)) = letB l.length wd p := by show letB l.length wd (p : Int).toNat = _; rw [Int.toNat_natCast]
      rw [e2]
      cases letB l.length wd p <;> simp
theorem roadW_eq {js wd l : List Nat} {o : Option (List (Option Int))} : roadW js wd l o = (roadB js l o && letsO l.length wd o) := by
  cases o with
  | none => rfl
  | some os => exact walkW_eq
theorem walkW_stop {js wd l : List Nat} {os : List (Option Int)} {i : Nat} {o : Option Int} (h : os[i]? = some o) (hp : placeO l js o = none) : walkW js wd l (os.drop i) = false := by
  have hi : i < os.length := (List.getElem?_eq_some_iff.mp h).1
  have e : os.drop i = o :: os.drop (i + 1) := by rw [List.drop_eq_getElem_cons hi, (List.getElem?_eq_some_iff.mp h).2]
  rw [e, walkW, hp]
theorem walkW_not {js wd l : List Nat} {os : List (Option Int)} {i p : Nat} {o : Option Int} (h : os[i]? = some o) (hp : placeO l js o = some p) (hn : letB l.length wd p = false) : walkW js wd l (os.drop i) = false := by
  have hi : i < os.length := (List.getElem?_eq_some_iff.mp h).1
  have e : os.drop i = o :: os.drop (i + 1) := by rw [List.drop_eq_getElem_cons hi, (List.getElem?_eq_some_iff.mp h).2]
  rw [e, walkW, hp]
  simp [hn]
theorem walkW_step {js wd l : List Nat} {os : List (Option Int)} {i p : Nat} {o : Option Int} (h : os[i]? = some o) (hp : placeO l js o = some p) (hn : letB l.length wd p = true) : walkW js wd l (os.drop i) = walkW js wd (swapL l p) (os.drop (i + 1)) := by
  have hi : i < os.length := (List.getElem?_eq_some_iff.mp h).1
  have e : os.drop i = o :: os.drop (i + 1) := by rw [List.drop_eq_getElem_cons hi, (List.getElem?_eq_some_iff.mp h).2]
  rw [e, walkW, hp]
  simp [hn]
theorem walkW_end {js wd l : List Nat} {os : List (Option Int)} : walkW js wd l (os.drop os.length) = true := by
  rw [List.drop_length]
  rfl
/-- the dict of widths -/
def WideK (kvs : List (Key × V)) (wd : List Nat) : Prop := kvs.length ≤ wd.length ∧ ∀ i : Int, (valV kvs (Sum.inl i)).isSome = decide (∃ w ∈ wd, i = (w : Int))
theorem WideK.nil : WideK [] [] := ⟨Nat.le_refl _, fun i => by simp [valV]⟩
theorem WideK.put {kvs : List (Key × V)} {wd : List Nat} {w : Nat} {v : V} (h : WideK kvs wd) : WideK (putK kvs (Sum.inl (w : Int)) v) (wd ++ [w]) := by
  refine ⟨?_, fun i => ?_⟩
  · have := length_putK kvs (Sum.inl (w : Int)) v
    have := h.1
    rw [List.length_append]
    simp
    omega
  · rw [valV_put]
    by_cases e : i = (w : Int)
    · subst e
      rw [if_pos rfl]
      symm
      exact decide_eq_true ⟨w, by simp, rfl⟩
    · rw [if_neg (by intro q; exact e (Sum.inl.inj q)), h.2 i]
      refine decide_eq_decide.mpr ⟨fun ⟨x, hx, q⟩ => ⟨x, List.mem_append_left _ hx, q⟩, fun ⟨x, hx, q⟩ => ?_⟩
      rcases List.mem_append.mp hx with hx | hx
      · exact ⟨x, hx, q⟩
      · rw [List.mem_singleton.mp hx] at q
        exact absurd q e
theorem wide_at {kvs : List (Key × V)} {wd : List Nat} (h : WideK kvs wd) (i : Int) (p : Nat) (e : i = (p : Int)) : (valV kvs (Sum.inl i)).isSome = decide (p ∈ wd) := by
  rw [h.2 i]
  refine decide_eq_decide.mpr ⟨fun ⟨x, hx, q⟩ => ?_, fun q => ⟨p, q, e⟩⟩
  have : x = p := by omega
  exact this ▸ hx
/-- widths that may be handed in -/
def WidthsOk (wd : List Nat) : Prop := (∀ w ∈ wd, 1 ≤ w) ∧ wd.Pairwise (· < ·)
theorem tupS {a b : Str} {la lb : List Nat} (ha : a = S la) (hb : b = S lb) : some (HO.tup [V.str a, V.str b]) = some (HO.tup [V.str (S la), V.str (S lb)]) := by rw [ha, hb]
theorem flat_places (r : List Nat) : (placesV r).all flatV = true := by
  rw [List.all_eq_true]
  intro x hx
  obtain ⟨p, _, rfl⟩ := List.mem_map.mp hx
  rfl
theorem inV_places (i : Int) (p : Nat) (e : i = (p : Int)) (r : List Nat) : inV (V.int i) (placesV r) = decide (p ∈ r) := by
  subst e
  induction r with
  | nil => rfl
  | cons q r ih =>
    have e1 : inV (V.int (p : Int)) (placesV (q :: r)) = (((q : Int) == (p : Int)) || inV (V.int (p : Int)) (placesV r)) := rfl
    rw [e1, ih]
    have e2 : ((q : Int) == (p : Int)) = decide (p = q) := by rw [Bool.eq_iff_iff]; simp; omega
    rw [e2]
    simp [List.mem_cons]
theorem inV_neg (i : Int) (h : ¬ 0 ≤ i) (r : List Nat) : inV (V.int i) (placesV r) = false := by
  induction r with
  | nil => rfl
  | cons q r ih =>
    have e1 : inV (V.int i) (placesV (q :: r)) = (((q : Int) == i) || inV (V.int i) (placesV r)) := rfl
    rw [e1, ih]
    have e2 : ((q : Int) == i) = false := by rw [Bool.eq_false_iff]; simp; omega
    rw [e2]
    rfl
theorem mem_letL {l js wd : List Nat} {p : Nat} : p ∈ letL l js wd ↔ (∃ c, l[p]? = some c ∧ c ∈ js) ∧ letB l.length wd p = true := by
  unfold letL
  rw [List.mem_filter]
  refine ⟨fun ⟨a, b⟩ => ⟨mem_openL a, b⟩, fun ⟨⟨c, hc, hm⟩, b⟩ => ⟨?_, b⟩⟩
  unfold openL
  rw [List.mem_filter, List.mem_range, hc]
  exact ⟨(List.getElem?_eq_some_iff.mp hc).1, by simp [hm]⟩
theorem letL_len (l js wd : List Nat) : (letL l js wd).length ≤ l.length := Nat.le_trans (List.length_filter_le _ _) (openL_len l js)
theorem letL_lt {l js wd : List Nat} {p : Nat} (h : p ∈ letL l js wd) : p < l.length := by
  obtain ⟨⟨c, hc, _⟩, _⟩ := mem_letL.mp h
  exact (List.getElem?_eq_some_iff.mp hc).1
/-- the law's test: an int that is among the let places -/
theorem law_place {l js wd : List Nat} (i : Int) : inV (V.int i) (placesV (letL l js wd)) = (match placeO l js (some i) with | some p => letB l.length wd p | none => false) := by
  by_cases h0 : 0 ≤ i
  · obtain ⟨p, rfl⟩ := Int.eq_ofNat_of_zero_le h0
    rw [inV_places _ p rfl]
    cases hp : placeO l js (some (p : Int)) with
    | none =>
      refine decide_eq_false fun hm => ?_
      obtain ⟨⟨c, hc, hj⟩, _⟩ := mem_letL.mp hm
      rw [placeO_yes hc hj] at hp
      cases hp
    | some q =>
      obtain ⟨c, e, hc, hj⟩ := placeO_lt hp
      have e2 : q = p := by have := Option.some.inj e; omega
      subst e2
      show decide (q ∈ letL l js wd) = letB l.length wd q
      rw [Bool.eq_iff_iff, decide_eq_true_iff, mem_letL]
      exact ⟨fun h => h.2, fun h => ⟨⟨c, hc, hj⟩, h⟩⟩
  · rw [inV_neg i h0, placeO_neg h0]
/-- a value that may be a road: what it reads as, and how long -/
def Odds (H : Hp) (v : V) : Prop := ∃ o, Val H v o ∧ ∀ os, o = some os → os.length ≤ 2000
theorem Odds.same {H H' : Hp} {v : V} (s : Same H H') (h : Odds H v) : Odds H' v := by
  obtain ⟨o, a, b⟩ := h
  exact ⟨o, a.same s, b⟩
theorem Odds.lst {H : Hp} {a : Addr} {xs : List V} {os : List (Option Int)} (e : H a = some (.lst xs)) (i : Items H xs os) (n : xs.length ≤ 2000) : Odds H (.ref a) :=
  ⟨some os, .lst e i, fun os' q => by cases q; have := i.1; omega⟩
/-- such a value, also when the draws go on -/
def Far (g : Addr) (H : Hp) (v : V) : Prop := ∀ H', But g H H' → Odds H' v
theorem Far.but {g : Addr} {H H' : Hp} {v : V} (b : But g H H') (h : Far g H v) : Far g H' v := fun H2 b2 => h H2 (b.trans b2)
theorem Far.odds {g : Addr} {H : Hp} {v : V} (h : Far g H v) : Odds H v := h H (But.refl g H)
theorem Far.lst {g a : Addr} {H : Hp} {xs : List V} (e : H a = some (.lst xs)) (ne : a ≠ g) (i : ∀ H', But g H H' → ∃ os, Items H' xs os) (n : xs.length ≤ 2000) : Far g H (.ref a) := fun H' b => by
  obtain ⟨os, h⟩ := i H' b
  exact Odds.lst (b _ _ ne e) h n
theorem Far.tup {g a : Addr} {H : Hp} {xs : List V} (e : H a = some (.tup xs)) (ne : a ≠ g) : Far g H (.ref a) := fun H' b => ⟨none, .tup (b _ _ ne e), fun _ q => by cases q⟩
theorem Far.dic {g a : Addr} {H : Hp} {kvs : List (Key × V)} (e : H a = some (.dK kvs)) (ne : a ≠ g) : Far g H (.ref a) := fun H' b => ⟨none, .dic (b _ _ ne e), fun _ q => by cases q⟩
theorem Far.non {g : Addr} {H : Hp} : Far g H .non := fun _ _ => ⟨none, .non, fun _ q => by cases q⟩
theorem Far.int {g : Addr} {H : Hp} (i : Int) : Far g H (.int i) := fun _ _ => ⟨none, .int i, fun _ q => by cases q⟩
theorem Far.str {g : Addr} {H : Hp} (s : Str) : Far g H (.str s) := fun _ _ => ⟨none, .str s, fun _ q => by cases q⟩
theorem Items.places {H : Hp} (ns : List Nat) : Items H (placesV ns) (ns.map fun p : Nat => some (p : Int)) := by
  have h := Items.ints (H := H) (ns.map fun p : Nat => (p : Int))
  rw [List.map_map, List.map_map] at h
  exact h
/-- walking a road all of whose deeds are let -/
theorem walkW_road {js wd : List Nat} {l r : List Nat} (h : IsRoad js l r) (hb : ∀ p ∈ r, letB l.length wd p = true) : walkW js wd l (r.map fun p : Nat => some (p : Int)) = true := by
  rw [walkW_eq, walk_road h, Bool.true_and, List.all_eq_true]
  intro x hx
  obtain ⟨p, hp, rfl⟩ := List.mem_map.mp hx
  show letB l.length wd (p : Int).toNat = true
  rw [Int.toNat_natCast]
  exact hb p hp
theorem letB_back {n p : Nat} (wd : List Nat) (h : p < n) : letB n wd (n - 1 - p) = letB n wd p := by
  unfold letB
  rw [show n - 1 - p + 1 = n - p by omega, show n - (n - 1 - p) = p + 1 by omega, Bool.or_comm]
theorem letB_all {n p : Nat} (h : p < n) : letB n ((List.range (n / 2 + 1)).map (· + 1)) p = true := by
  unfold letB
  rw [Bool.or_eq_true, decide_eq_true_iff, decide_eq_true_iff]
  by_cases c : p ≤ n / 2
  · exact .inl (List.mem_map.mpr ⟨p, List.mem_range.mpr (by omega), rfl⟩)
  · exact .inr (List.mem_map.mpr ⟨n - p - 1, List.mem_range.mpr (by omega), by omega⟩)
theorem letL_all (l js : List Nat) : letL l js ((List.range (l.length / 2 + 1)).map (· + 1)) = openL l js := by
  unfold letL
  rw [List.filter_eq_self]
  intro p hp
  obtain ⟨c, hc, _⟩ := mem_openL hp
  exact letB_all (List.getElem?_eq_some_iff.mp hc).1
theorem letL_snoc {l : List Nat} (js wd : List Nat) {i c : Nat} (h : l[i]? = some c) : (openL (l.take (i + 1)) js).filter (letB l.length wd) = (openL (l.take i) js).filter (letB l.length wd) ++ (if (decide (c ∈ js) && letB l.length wd i) = true then [i] else []) := by
  rw [openL_snoc js h, List.filter_append]
  by_cases hm : c ∈ js
  · rw [if_pos hm, decide_eq_true hm, Bool.true_and]
    by_cases hb : letB l.length wd i = true
    · rw [if_pos hb]; simp [hb]
    · rw [if_neg hb]; simp [hb]
  · rw [if_neg hm, decide_eq_false hm]; rfl
theorem cutV_first {xs : List V} {j : Nat} : cutV xs none (some (j : Int)) = xs.take j := by
  unfold cutV
  rw [HT.sIx_none, HT.sIx_nat, List.drop_zero, Nat.sub_zero]
  rcases Nat.lt_or_ge xs.length j with h | h
  · rw [Nat.min_eq_right (by omega), List.take_length, List.take_of_length_le (by omega)]
  · rw [Nat.min_eq_left h]
/-- the numbers from 1 on -/
theorem rg_ones (n : Nat) : rgV 1 ((n : Int) / 2 + 2) = placesV ((List.range (n / 2 + 1)).map (· + 1)) := by
  unfold rgV
  rw [show ((n : Int) / 2 + 2 - 1).toNat = n / 2 + 1 by omega]
  show _ = List.map _ (List.map _ _)
  rw [List.map_map]
  refine List.map_congr_left fun i _ => ?_
  show V.int (1 + (i : Int)) = V.int ((i + 1 : Nat) : Int)
  rw [show (1 : Int) + (i : Int) = ((i + 1 : Nat) : Int) by omega]
theorem ones_ok (k : Nat) : WidthsOk ((List.range k).map (· + 1)) := by
  refine ⟨fun w hw => ?_, ?_⟩
  · obtain ⟨i, _, rfl⟩ := List.mem_map.mp hw
    omega
  · refine List.pairwise_map.mpr ?_
    exact List.pairwise_lt_range.imp fun h => by omega
/-- lists of places that stay, the draws, and what was there before -/
structure KeptL (H0 : Hp) (g : Addr) (b : Nat) (ls : List (Addr × List Nat)) (H : Hp) : Prop where
  all : ∀ q ∈ ls, q.1 ≠ g ∧ H q.1 = some (.lst (placesV q.2))
  G : GenAt H g b
  B : But g H0 H
theorem KeptL.same {H0 H H' : Hp} {g : Addr} {b : Nat} {ls : List (Addr × List Nat)} (h : KeptL H0 g b ls H) (s : Same H H') : KeptL H0 g b ls H' := ⟨fun q hq => ⟨(h.all q hq).1, s _ _ (h.all q hq).2⟩, h.G.same s, h.B.trans (But.same s)⟩
theorem KeptL.but {H0 H H' : Hp} {g : Addr} {b c : Nat} {ls : List (Addr × List Nat)} (h : KeptL H0 g b ls H) (s : But g H H') (G : GenAt H' g c) : KeptL H0 g c ls H' := ⟨fun q hq => ⟨(h.all q hq).1, s _ _ (h.all q hq).1 (h.all q hq).2⟩, G, h.B.trans s⟩
theorem KeptL.add {H0 H : Hp} {g a : Addr} {b : Nat} {r : List Nat} {ls : List (Addr × List Nat)} (h : KeptL H0 g b ls H) (n : a ≠ g) (d : H a = some (.lst (placesV r))) : KeptL H0 g b ((a, r) :: ls) H := ⟨fun q hq => by
  rcases List.mem_cons.mp hq with rfl | hq
  · exact ⟨n, d⟩
  · exact h.all q hq, h.G, h.B⟩
theorem KeptL.get {H0 H : Hp} {g a : Addr} {b : Nat} {r : List Nat} {ls : List (Addr × List Nat)} (h : KeptL H0 g b ls H) (m : (a, r) ∈ ls) : H a = some (.lst (placesV r)) := (h.all _ m).2
end Sw
namespace K75
open PySem PySem.Spec PyProof.Rows L2 Sw
def top (i : Nat) : Stmt := PySem.Challenge.pw_sideswaps_k75_deeds_of_told_widths.main.body.getD i (.Pass ⟨0, 0, 0, 0⟩)
abbrev s_is_word : Stmt := top 9
abbrev N_is_word : List Str := ["value", "sign"]
abbrev P_is_word : List Str := ["value"]
theorem sc_is_word : FnScope N_is_word P_is_word (defScope s_is_word) := ⟨rfl, rfl, rfl, by decide +kernel, rfl, by decide +kernel, by decide +kernel⟩
abbrev s_is_count : Stmt := top 11
abbrev N_is_count : List Str := ["value"]
abbrev P_is_count : List Str := ["value"]
theorem sc_is_count : FnScope N_is_count P_is_count (defScope s_is_count) := ⟨rfl, rfl, rfl, by decide +kernel, rfl, by decide +kernel, by decide +kernel⟩
abbrev s__ascends : Stmt := top 12
abbrev N__ascends : List Str := ["signs", "first", "second"]
abbrev P__ascends : List Str := ["signs"]
theorem sc__ascends : FnScope N__ascends P__ascends (defScope s__ascends) := ⟨rfl, rfl, rfl, by decide +kernel, rfl, by decide +kernel, by decide +kernel⟩
abbrev s_sides_changed : Stmt := top 16
abbrev N_sides_changed : List Str := ["word", "place"]
abbrev P_sides_changed : List Str := ["word", "place"]
theorem sc_sides_changed : FnScope N_sides_changed P_sides_changed (defScope s_sides_changed) := ⟨rfl, rfl, rfl, by decide +kernel, rfl, by decide +kernel, by decide +kernel⟩
abbrev s__lets : Stmt := top 26
abbrev N__lets : List Str := ["size", "widths", "wide", "width", "place"]
abbrev P__lets : List Str := ["size", "widths"]
theorem sc__lets : FnScope N__lets P__lets (defScope s__lets) := ⟨rfl, rfl, rfl, by decide +kernel, rfl, by decide +kernel, by decide +kernel⟩
abbrev s__law_cell : Stmt := top 30
abbrev N__law_cell : List Str := ["_law_script", "_law_index"]
abbrev P__law_cell : List Str := ["_law_script", "_law_index"]
theorem sc__law_cell : FnScope N__law_cell P__law_cell (defScope s__law_cell) := ⟨rfl, rfl, rfl, by decide +kernel, rfl, by decide +kernel, by decide +kernel⟩
abbrev s__law_hash : Stmt := top 31
abbrev N__law_hash : List Str := ["_law_seed", "_law_index", "_law_mixed"]
abbrev P__law_hash : List Str := ["_law_seed", "_law_index"]
theorem sc__law_hash : FnScope N__law_hash P__law_hash (defScope s__law_hash) := ⟨rfl, rfl, rfl, by decide +kernel, rfl, by decide +kernel, by decide +kernel⟩
abbrev s__law_swapped : Stmt := top 37
abbrev N__law_swapped : List Str := ["_law_word_here", "_law_place"]
abbrev P__law_swapped : List Str := ["_law_word_here", "_law_place"]
theorem sc__law_swapped : FnScope N__law_swapped P__law_swapped (defScope s__law_swapped) := ⟨rfl, rfl, rfl, by decide +kernel, rfl, by decide +kernel, by decide +kernel⟩
abbrev s__law_let : Stmt := top 38
abbrev N__law_let : List Str := ["_law_word_here", "_law_joints", "_law_widths_here", "_law_found", "_law_place"]
abbrev P__law_let : List Str := ["_law_word_here", "_law_joints", "_law_widths_here"]
theorem sc__law_let : FnScope N__law_let P__law_let (defScope s__law_let) := ⟨rfl, rfl, rfl, by decide +kernel, rfl, by decide +kernel, by decide +kernel⟩
abbrev s_is_joints : Stmt := top 10
abbrev N_is_joints : List Str := ["value"]
abbrev P_is_joints : List Str := ["value"]
theorem sc_is_joints : FnScope N_is_joints P_is_joints (defScope s_is_joints) := ⟨rfl, rfl, rfl, by decide +kernel, rfl, by decide +kernel, by decide +kernel⟩
abbrev s_check_word : Stmt := top 13
abbrev N_check_word : List Str := ["value"]
abbrev P_check_word : List Str := ["value"]
theorem sc_check_word : FnScope N_check_word P_check_word (defScope s_check_word) := ⟨rfl, rfl, rfl, by decide +kernel, rfl, by decide +kernel, by decide +kernel⟩
abbrev s__is_open : Stmt := top 17
abbrev N__is_open : List Str := ["word", "joints", "place"]
abbrev P__is_open : List Str := ["word", "joints", "place"]
theorem sc__is_open : FnScope N__is_open P__is_open (defScope s__is_open) := ⟨rfl, rfl, rfl, by decide +kernel, rfl, by decide +kernel, by decide +kernel⟩
abbrev s_back_road : Stmt := top 22
abbrev N_back_road : List Str := ["size", "road", "place"]
abbrev P_back_road : List Str := ["size", "road"]
theorem sc_back_road : FnScope N_back_road P_back_road (defScope s_back_road) := ⟨rfl, rfl, rfl, by decide +kernel, rfl, by decide +kernel, by decide +kernel⟩
abbrev s_check_widths : Stmt := top 24
abbrev N_check_widths : List Str := ["value", "first", "second", "width"]
abbrev P_check_widths : List Str := ["value"]
theorem sc_check_widths : FnScope N_check_widths P_check_widths (defScope s_check_widths) := ⟨rfl, rfl, rfl, by decide +kernel, rfl, by decide +kernel, by decide +kernel⟩
abbrev s__law_generator : Stmt := top 32
abbrev N__law_generator : List Str := ["_law_script", "_law_index", "_law_seed"]
abbrev P__law_generator : List Str := ["_law_script", "_law_index"]
theorem sc__law_generator : FnScope N__law_generator P__law_generator (defScope s__law_generator) := ⟨rfl, rfl, rfl, by decide +kernel, rfl, by decide +kernel, by decide +kernel⟩
abbrev s__law_random : Stmt := top 33
abbrev N__law_random : List Str := ["_law_generator_here", "_law_limit", "_law_drawn", "_law_turn"]
abbrev P__law_random : List Str := ["_law_generator_here", "_law_limit"]
theorem sc__law_random : FnScope N__law_random P__law_random (defScope s__law_random) := ⟨rfl, rfl, rfl, by decide +kernel, rfl, by decide +kernel, by decide +kernel⟩
abbrev s__law_is_road : Stmt := top 40
abbrev N__law_is_road : List Str := ["_law_word_here", "_law_joints", "_law_widths_here", "_law_value", "_law_place"]
abbrev P__law_is_road : List Str := ["_law_word_here", "_law_joints", "_law_widths_here", "_law_value"]
theorem sc__law_is_road : FnScope N__law_is_road P__law_is_road (defScope s__law_is_road) := ⟨rfl, rfl, rfl, by decide +kernel, rfl, by decide +kernel, by decide +kernel⟩
abbrev s_check_joints : Stmt := top 14
abbrev N_check_joints : List Str := ["value"]
abbrev P_check_joints : List Str := ["value"]
theorem sc_check_joints : FnScope N_check_joints P_check_joints (defScope s_check_joints) := ⟨rfl, rfl, rfl, by decide +kernel, rfl, by decide +kernel, by decide +kernel⟩
abbrev s__walked : Stmt := top 18
abbrev N__walked : List Str := ["word", "joints", "value", "made", "place"]
abbrev P__walked : List Str := ["word", "joints", "value"]
theorem sc__walked : FnScope N__walked P__walked (defScope s__walked) := ⟨rfl, rfl, rfl, by decide +kernel, rfl, by decide +kernel, by decide +kernel⟩
abbrev s__law_letters : Stmt := top 34
abbrev N__law_letters : List Str := ["_law_generator_here"]
abbrev P__law_letters : List Str := ["_law_generator_here"]
theorem sc__law_letters : FnScope N__law_letters P__law_letters (defScope s__law_letters) := ⟨rfl, rfl, rfl, by decide +kernel, rfl, by decide +kernel, by decide +kernel⟩
abbrev s__law_word : Stmt := top 35
abbrev N__law_word : List Str := ["_law_generator_here", "_law_signs", "_law_size", "_law_found", "_law_turn"]
abbrev P__law_word : List Str := ["_law_generator_here", "_law_signs", "_law_size"]
theorem sc__law_word : FnScope N__law_word P__law_word (defScope s__law_word) := ⟨rfl, rfl, rfl, by decide +kernel, rfl, by decide +kernel, by decide +kernel⟩
abbrev s__law_widths : Stmt := top 36
abbrev N__law_widths : List Str := ["_law_generator_here", "_law_most", "_law_width"]
abbrev P__law_widths : List Str := ["_law_generator_here", "_law_most"]
theorem sc__law_widths : FnScope N__law_widths P__law_widths (defScope s__law_widths) := ⟨rfl, rfl, rfl, by decide +kernel, rfl, by decide +kernel, by decide +kernel⟩
abbrev s__law_drawn_road : Stmt := top 39
abbrev N__law_drawn_road : List Str := ["_law_generator_here", "_law_word_here", "_law_joints", "_law_widths_here", "_law_many", "_law_road", "_law_turn", "_law_places"]
abbrev P__law_drawn_road : List Str := ["_law_generator_here", "_law_word_here", "_law_joints", "_law_widths_here", "_law_many"]
theorem sc__law_drawn_road : FnScope N__law_drawn_road P__law_drawn_road (defScope s__law_drawn_road) := ⟨rfl, rfl, rfl, by decide +kernel, rfl, by decide +kernel, by decide +kernel⟩
abbrev s__law_bent : Stmt := top 41
abbrev N__law_bent : List Str := ["_law_generator_here", "_law_road", "_law_size", "_law_found", "_law_turn", "_law_place", "_law_at"]
abbrev P__law_bent : List Str := ["_law_generator_here", "_law_road", "_law_size"]
theorem sc__law_bent : FnScope N__law_bent P__law_bent (defScope s__law_bent) := ⟨rfl, rfl, rfl, by decide +kernel, rfl, by decide +kernel, by decide +kernel⟩
abbrev s_open_places : Stmt := top 15
abbrev N_open_places : List Str := ["word", "joints", "place", "letter"]
abbrev P_open_places : List Str := ["word", "joints"]
theorem sc_open_places : FnScope N_open_places P_open_places (defScope s_open_places) := ⟨rfl, rfl, rfl, by decide +kernel, rfl, by decide +kernel, by decide +kernel⟩
abbrev s_is_road : Stmt := top 19
abbrev N_is_road : List Str := ["word", "joints", "value"]
abbrev P_is_road : List Str := ["word", "joints", "value"]
theorem sc_is_road : FnScope N_is_road P_is_road (defScope s_is_road) := ⟨rfl, rfl, rfl, by decide +kernel, rfl, by decide +kernel, by decide +kernel⟩
abbrev s_passed : Stmt := top 20
abbrev N_passed : List Str := ["word", "joints", "road", "made"]
abbrev P_passed : List Str := ["word", "joints", "road"]
theorem sc_passed : FnScope N_passed P_passed (defScope s_passed) := ⟨rfl, rfl, rfl, by decide +kernel, rfl, by decide +kernel, by decide +kernel⟩
abbrev s_check_jumps : Stmt := top 25
abbrev N_check_jumps : List Str := ["word", "joints", "widths"]
abbrev P_check_jumps : List Str := ["word", "joints", "widths"]
theorem sc_check_jumps : FnScope N_check_jumps P_check_jumps (defScope s_check_jumps) := ⟨rfl, rfl, rfl, by decide +kernel, rfl, by decide +kernel, by decide +kernel⟩
abbrev s_done : Stmt := top 21
abbrev N_done : List Str := ["word", "joints", "road"]
abbrev P_done : List Str := ["word", "joints", "road"]
theorem sc_done : FnScope N_done P_done (defScope s_done) := ⟨rfl, rfl, rfl, by decide +kernel, rfl, by decide +kernel, by decide +kernel⟩
abbrev s_let_places : Stmt := top 27
abbrev N_let_places : List Str := ["word", "joints", "widths", "lets", "place"]
abbrev P_let_places : List Str := ["word", "joints", "widths"]
theorem sc_let_places : FnScope N_let_places P_let_places (defScope s_let_places) := ⟨rfl, rfl, rfl, by decide +kernel, rfl, by decide +kernel, by decide +kernel⟩
abbrev s_is_let_road : Stmt := top 28
abbrev N_is_let_road : List Str := ["word", "joints", "widths", "value", "lets", "place"]
abbrev P_is_let_road : List Str := ["word", "joints", "widths", "value"]
theorem sc_is_let_road : FnScope N_is_let_road P_is_let_road (defScope s_is_let_road) := ⟨rfl, rfl, rfl, by decide +kernel, rfl, by decide +kernel, by decide +kernel⟩
abbrev s__law_right : Stmt := top 42
abbrev N__law_right : List Str := ["_law_generator_here", "_law_word_here", "_law_joints", "_law_widths_here", "_law_given", "_law_due", "_law_told", "_law_road", "_law_end", "_law_back", "_law_bent_here", "_law_place"]
abbrev P__law_right : List Str := ["_law_generator_here", "_law_word_here", "_law_joints", "_law_widths_here"]
theorem sc__law_right : FnScope N__law_right P__law_right (defScope s__law_right) := ⟨rfl, rfl, rfl, by decide +kernel, rfl, by decide +kernel, by decide +kernel⟩
abbrev s_law : Stmt := top 43
abbrev N_law : List Str := ["_law_script", "_law_index", "_law_generator_here", "_law_joints", "_law_bodies", "_law_size", "_law_word_here"]
abbrev P_law : List Str := ["_law_script"]
theorem sc_law : FnScope N_law P_law (defScope s_law) := ⟨rfl, rfl, rfl, by decide +kernel, rfl, by decide +kernel, by decide +kernel⟩
structure Txt (K : PySem.W.Frag) (mg : Str → Option Value) where
  f_is_word : Addr
  fd_is_word : FuncData
  F_is_word : Fun K "is_word" "is_word" s_is_word f_is_word fd_is_word
  m_is_word : mg "is_word" = some (.ref f_is_word)
  b_is_word : Binds K fd_is_word P_is_word []
  f_is_count : Addr
  fd_is_count : FuncData
  F_is_count : Fun K "is_count" "is_count" s_is_count f_is_count fd_is_count
  m_is_count : mg "is_count" = some (.ref f_is_count)
  b_is_count : Binds K fd_is_count P_is_count []
  f__ascends : Addr
  fd__ascends : FuncData
  F__ascends : Fun K "_ascends" "_ascends" s__ascends f__ascends fd__ascends
  m__ascends : mg "_ascends" = some (.ref f__ascends)
  b__ascends : Binds K fd__ascends P__ascends []
  f_sides_changed : Addr
  fd_sides_changed : FuncData
  F_sides_changed : Fun K "sides_changed" "sides_changed" s_sides_changed f_sides_changed fd_sides_changed
  m_sides_changed : mg "sides_changed" = some (.ref f_sides_changed)
  b_sides_changed : Binds K fd_sides_changed P_sides_changed []
  f__lets : Addr
  fd__lets : FuncData
  F__lets : Fun K "_lets" "_lets" s__lets f__lets fd__lets
  m__lets : mg "_lets" = some (.ref f__lets)
  b__lets : Binds K fd__lets P__lets []
  f__law_cell : Addr
  fd__law_cell : FuncData
  F__law_cell : Fun K "_law_cell" "_law_cell" s__law_cell f__law_cell fd__law_cell
  m__law_cell : mg "_law_cell" = some (.ref f__law_cell)
  b__law_cell : Binds K fd__law_cell P__law_cell []
  f__law_hash : Addr
  fd__law_hash : FuncData
  F__law_hash : Fun K "_law_hash" "_law_hash" s__law_hash f__law_hash fd__law_hash
  m__law_hash : mg "_law_hash" = some (.ref f__law_hash)
  b__law_hash : Binds K fd__law_hash P__law_hash []
  f__law_swapped : Addr
  fd__law_swapped : FuncData
  F__law_swapped : Fun K "_law_swapped" "_law_swapped" s__law_swapped f__law_swapped fd__law_swapped
  m__law_swapped : mg "_law_swapped" = some (.ref f__law_swapped)
  b__law_swapped : Binds K fd__law_swapped P__law_swapped []
  f__law_let : Addr
  fd__law_let : FuncData
  F__law_let : Fun K "_law_let" "_law_let" s__law_let f__law_let fd__law_let
  m__law_let : mg "_law_let" = some (.ref f__law_let)
  b__law_let : Binds K fd__law_let P__law_let []
  f_is_joints : Addr
  fd_is_joints : FuncData
  F_is_joints : Fun K "is_joints" "is_joints" s_is_joints f_is_joints fd_is_joints
  m_is_joints : mg "is_joints" = some (.ref f_is_joints)
  b_is_joints : Binds K fd_is_joints P_is_joints []
  f_check_word : Addr
  fd_check_word : FuncData
  F_check_word : Fun K "check_word" "check_word" s_check_word f_check_word fd_check_word
  m_check_word : mg "check_word" = some (.ref f_check_word)
  b_check_word : Binds K fd_check_word P_check_word []
  f__is_open : Addr
  fd__is_open : FuncData
  F__is_open : Fun K "_is_open" "_is_open" s__is_open f__is_open fd__is_open
  m__is_open : mg "_is_open" = some (.ref f__is_open)
  b__is_open : Binds K fd__is_open P__is_open []
  f_back_road : Addr
  fd_back_road : FuncData
  F_back_road : Fun K "back_road" "back_road" s_back_road f_back_road fd_back_road
  m_back_road : mg "back_road" = some (.ref f_back_road)
  b_back_road : Binds K fd_back_road P_back_road []
  f_check_widths : Addr
  fd_check_widths : FuncData
  F_check_widths : Fun K "check_widths" "check_widths" s_check_widths f_check_widths fd_check_widths
  m_check_widths : mg "check_widths" = some (.ref f_check_widths)
  b_check_widths : Binds K fd_check_widths P_check_widths []
  f__law_generator : Addr
  fd__law_generator : FuncData
  F__law_generator : Fun K "_law_generator" "_law_generator" s__law_generator f__law_generator fd__law_generator
  m__law_generator : mg "_law_generator" = some (.ref f__law_generator)
  b__law_generator : Binds K fd__law_generator P__law_generator []
  f__law_random : Addr
  fd__law_random : FuncData
  F__law_random : Fun K "_law_random" "_law_random" s__law_random f__law_random fd__law_random
  m__law_random : mg "_law_random" = some (.ref f__law_random)
  b__law_random : Binds K fd__law_random P__law_random []
  f__law_is_road : Addr
  fd__law_is_road : FuncData
  F__law_is_road : Fun K "_law_is_road" "_law_is_road" s__law_is_road f__law_is_road fd__law_is_road
  m__law_is_road : mg "_law_is_road" = some (.ref f__law_is_road)
  b__law_is_road : Binds K fd__law_is_road P__law_is_road []
  f_check_joints : Addr
  fd_check_joints : FuncData
  F_check_joints : Fun K "check_joints" "check_joints" s_check_joints f_check_joints fd_check_joints
  m_check_joints : mg "check_joints" = some (.ref f_check_joints)
  b_check_joints : Binds K fd_check_joints P_check_joints []
  f__walked : Addr
  fd__walked : FuncData
  F__walked : Fun K "_walked" "_walked" s__walked f__walked fd__walked
  m__walked : mg "_walked" = some (.ref f__walked)
  b__walked : Binds K fd__walked P__walked []
  f__law_letters : Addr
  fd__law_letters : FuncData
  F__law_letters : Fun K "_law_letters" "_law_letters" s__law_letters f__law_letters fd__law_letters
  m__law_letters : mg "_law_letters" = some (.ref f__law_letters)
  b__law_letters : Binds K fd__law_letters P__law_letters []
  f__law_word : Addr
  fd__law_word : FuncData
  F__law_word : Fun K "_law_word" "_law_word" s__law_word f__law_word fd__law_word
  m__law_word : mg "_law_word" = some (.ref f__law_word)
  b__law_word : Binds K fd__law_word P__law_word []
  f__law_widths : Addr
  fd__law_widths : FuncData
  F__law_widths : Fun K "_law_widths" "_law_widths" s__law_widths f__law_widths fd__law_widths
  m__law_widths : mg "_law_widths" = some (.ref f__law_widths)
  b__law_widths : Binds K fd__law_widths P__law_widths []
  f__law_drawn_road : Addr
  fd__law_drawn_road : FuncData
  F__law_drawn_road : Fun K "_law_drawn_road" "_law_drawn_road" s__law_drawn_road f__law_drawn_road fd__law_drawn_road
  m__law_drawn_road : mg "_law_drawn_road" = some (.ref f__law_drawn_road)
  b__law_drawn_road : Binds K fd__law_drawn_road P__law_drawn_road []
  f__law_bent : Addr
  fd__law_bent : FuncData
  F__law_bent : Fun K "_law_bent" "_law_bent" s__law_bent f__law_bent fd__law_bent
  m__law_bent : mg "_law_bent" = some (.ref f__law_bent)
  b__law_bent : Binds K fd__law_bent P__law_bent []
  f_open_places : Addr
  fd_open_places : FuncData
  F_open_places : Fun K "open_places" "open_places" s_open_places f_open_places fd_open_places
  m_open_places : mg "open_places" = some (.ref f_open_places)
  b_open_places : Binds K fd_open_places P_open_places []
  f_is_road : Addr
  fd_is_road : FuncData
  F_is_road : Fun K "is_road" "is_road" s_is_road f_is_road fd_is_road
  m_is_road : mg "is_road" = some (.ref f_is_road)
  b_is_road : Binds K fd_is_road P_is_road []
  f_passed : Addr
  fd_passed : FuncData
  F_passed : Fun K "passed" "passed" s_passed f_passed fd_passed
  m_passed : mg "passed" = some (.ref f_passed)
  b_passed : Binds K fd_passed P_passed []
  f_check_jumps : Addr
  fd_check_jumps : FuncData
  F_check_jumps : Fun K "check_jumps" "check_jumps" s_check_jumps f_check_jumps fd_check_jumps
  m_check_jumps : mg "check_jumps" = some (.ref f_check_jumps)
  b_check_jumps : Binds K fd_check_jumps P_check_jumps []
  f_done : Addr
  fd_done : FuncData
  F_done : Fun K "done" "done" s_done f_done fd_done
  m_done : mg "done" = some (.ref f_done)
  b_done : Binds K fd_done P_done []
  f_let_places : Addr
  fd_let_places : FuncData
  F_let_places : Fun K "let_places" "let_places" s_let_places f_let_places fd_let_places
  m_let_places : mg "let_places" = some (.ref f_let_places)
  b_let_places : Binds K fd_let_places P_let_places []
  f_is_let_road : Addr
  fd_is_let_road : FuncData
  F_is_let_road : Fun K "is_let_road" "is_let_road" s_is_let_road f_is_let_road fd_is_let_road
  m_is_let_road : mg "is_let_road" = some (.ref f_is_let_road)
  b_is_let_road : Binds K fd_is_let_road P_is_let_road []
  f__law_right : Addr
  fd__law_right : FuncData
  F__law_right : Fun K "_law_right" "_law_right" s__law_right f__law_right fd__law_right
  m__law_right : mg "_law_right" = some (.ref f__law_right)
  b__law_right : Binds K fd__law_right P__law_right []
  f_law : Addr
  fd_law : FuncData
  F_law : Fun K "law" "law" s_law f_law fd_law
  m_law : mg "law" = some (.ref f_law)
  b_law : Binds K fd_law P_law []
  g_LONGEST : ∃ t, mg "LONGEST" = some (.int 300 t)
  z_all : mg "all" = none
  z_bool : mg "bool" = none
  z_enumerate : mg "enumerate" = none
  z_int : mg "int" = none
  z_isinstance : mg "isinstance" = none
  z_len : mg "len" = none
  z_list : mg "list" = none
  z_max : mg "max" = none
  z_min : mg "min" = none
  z_range : mg "range" = none
  z_repr : mg "repr" = none
  z_reversed : mg "reversed" = none
  z_str : mg "str" = none
  z_sum : mg "sum" = none
  z_tuple : mg "tuple" = none
  z_zip : mg "zip" = none
def gk_let_places__0_widths_joints_word {α : Type} : List α → List α → List α := fun us ws => match us, ws with | [], [w0, w1, w2] => [w2, w1, w0] | _, _ => []
theorem gk_rel_let_places__0_widths_joints_word {vs zs : List V} {us ws : List Value} (r1 : Vals vs us) (r2 : Vals zs ws) : Vals (gk_let_places__0_widths_joints_word vs zs) (gk_let_places__0_widths_joints_word us ws) := by
  cases r1 with
  | nil =>
    cases r2 with
    | nil => exact .nil
    | cons w0 r2 =>
      cases r2 with
      | nil => exact .nil
      | cons w1 r2 =>
        cases r2 with
        | nil => exact .nil
        | cons w2 r2 =>
          cases r2 with
          | nil =>
            exact (.cons w2 (.cons w1 (.cons w0 .nil)))
          | cons _ _ => exact .nil
  | cons _ _ => exact .nil
theorem kb_let_places__0_widths_joints_word {K : PySem.W.Frag} {mg : Str → Option Value} (T : Txt K mg) : KBn K T.fd_let_places P_let_places 0 ["widths", "joints", "word"] gk_let_places__0_widths_joints_word gk_let_places__0_widths_joints_word := by
  obtain ⟨oc, od, kV, doc, pm, an, cdv, ct, osl, e, lk, hcd⟩ := T.F_let_places.ex
  refine ⟨fun s us ws X l1 l2 => ?_, fun r1 r2 => gk_rel_let_places__0_widths_joints_word r1 r2⟩
  rw [e]
  exact match us, ws, l1, l2 with | [], [_, _, _], _, _ => .of_eq rfl
def gk_is_let_road__0_value_widths_joints_word {α : Type} : List α → List α → List α := fun us ws => match us, ws with | [], [w0, w1, w2, w3] => [w3, w2, w1, w0] | _, _ => []
theorem gk_rel_is_let_road__0_value_widths_joints_word {vs zs : List V} {us ws : List Value} (r1 : Vals vs us) (r2 : Vals zs ws) : Vals (gk_is_let_road__0_value_widths_joints_word vs zs) (gk_is_let_road__0_value_widths_joints_word us ws) := by
  cases r1 with
  | nil =>
    cases r2 with
    | nil => exact .nil
    | cons w0 r2 =>
      cases r2 with
      | nil => exact .nil
      | cons w1 r2 =>
        cases r2 with
        | nil => exact .nil
        | cons w2 r2 =>
          cases r2 with
          | nil => exact .nil
          | cons w3 r2 =>
            cases r2 with
            | nil =>
              exact (.cons w3 (.cons w2 (.cons w1 (.cons w0 .nil))))
            | cons _ _ => exact .nil
  | cons _ _ => exact .nil
theorem kb_is_let_road__0_value_widths_joints_word {K : PySem.W.Frag} {mg : Str → Option Value} (T : Txt K mg) : KBn K T.fd_is_let_road P_is_let_road 0 ["value", "widths", "joints", "word"] gk_is_let_road__0_value_widths_joints_word gk_is_let_road__0_value_widths_joints_word := by
  obtain ⟨oc, od, kV, doc, pm, an, cdv, ct, osl, e, lk, hcd⟩ := T.F_is_let_road.ex
  refine ⟨fun s us ws X l1 l2 => ?_, fun r1 r2 => gk_rel_is_let_road__0_value_widths_joints_word r1 r2⟩
  rw [e]
  exact match us, ws, l1, l2 with | [], [_, _, _, _], _, _ => .of_eq rfl
section
variable {P : Program} {w : World} {K : PySem.W.Frag} {mg : Str → Option Value} {base : Heap}
/-! is_word -/
def sp_is_word : Sp := fun vs H Q _ => ∃ l : List Nat, vs = [.str (S l)] ∧ l.length ≤ 50000 ∧ ∀ H', Same H H' → Q (.bl (wordB l)) H'
theorem ok_is_word (T : Txt K mg) : FnOk P w K mg base CX0 1 T.f_is_word T.fd_is_word P_is_word (sp_is_word) := by
  have nd : N_is_word.Nodup := sc_is_word.nd
  refine T.F_is_word.ok sc_is_word (fun vs H Q E h => ?_) (fun cdv A outer s H vs Q E hr h => ?_)
  · obtain ⟨l, rfl, _⟩ := h
    rfl
  · obtain ⟨l, rfl, hl, k⟩ := h
    refine ⟨_, (pss_one (ps_ret (pe_and (pe_callB call_isi (by rfl) T.z_isinstance (by decide +kernel) (pa_cons (pv 0) (pa_cons (pe_bltn (v := .ty "str") (by rfl) T.z_str (by decide +kernel) rfl) pa_nil))) (pe_one (pe_callB (cr_all rfl) (by rfl) T.z_all (by decide +kernel) (pa_cons (pe_lc (own := [("sign", 1)]) (hc := rfl) (hN := nd) (pi_str (pv 0)) (blkOk_by (N := N_is_word) (sc := defScope s_is_word) (by decide +kernel)) (fun _ _ _ _ _ => by exact (pg_name (i := 1) nd rfl (Or.inl rfl))) (fun _ _ _ _ _ => by exact pts_nil) (fun _ _ _ _ _ => by exact (pe_chain op_le_str op_le_str pe_str (pv 1) pe_str))) pa_nil)))))), ?_⟩
    refine ⟨_, rfl, _, _, _, _, _, rfl, ClsV.ty "str", .base (.str _), kit_ty (by decide +kernel), true, rfl, iteT ?_⟩
    refine ⟨_, rfl, _, rfl, fun D hD => ?_⟩
    refine lc_it walk_str (fun i H' => Same H H' ∧ H' D = some (.lst (((l.take i).map signB).map V.bl))) ⟨Same.upd hD, by rw [upd_same]; rfl⟩ (fun _ _ _ _ => trivial) ?_ ?_
    · rintro i x H1 H2 hi ⟨s1, d1⟩ ⟨rfl, c, hc, rfl⟩
      rw [at_S] at hc
      refine ⟨rfl, _, rfl, _, _, rfl, rfl, _, rfl, ?_⟩
      have step : ∀ v, v = V.bl (signB c) → ∃ acc, H2 D = some (.lst acc) ∧ acc.length < sizeLine ∧ (Same H (upd H2 D (.lst (acc ++ [v]))) ∧ (upd H2 D (.lst (acc ++ [v]))) D = some (.lst (((l.take (i + 1)).map signB).map V.bl))) := by
        rintro v rfl
        refine ⟨_, d1, ?_, fun b o e => ?_, ?_⟩
        · rw [List.length_map, List.length_map, List.length_take]; exact small_line (by omega)
        · rw [upd_ne (ne_of_none e hD)]; exact s1 b o e
        · rw [upd_same, take_snoc hc]; simp
      have sc := sign_chain c
      refine ite2 (fun z => ?_) (fun z => ?_)
      · rw [if_pos z] at sc
        exact ⟨_, _, rfl, rfl, step _ (by rw [sc])⟩
      · rw [if_neg z] at sc
        exact step _ (by rw [sc])
    · rintro H1 ⟨s1, d1⟩
      rw [size_S, List.take_length] at d1
      refine ⟨D, l.map signB, rfl, SqL.of d1, ?_⟩
      have e : (l.map signB).all id = wordB l := by unfold wordB; rw [List.all_map]; rfl
      rw [e]
      exact k _ s1
/-! is_count -/
def sp_is_count : Sp := fun vs H Q _ => ∃ i : Int, vs = [.int i] ∧ Q (.bl (decide (0 ≤ i))) H
theorem ok_is_count (T : Txt K mg) : FnOk P w K mg base CX0 1 T.f_is_count T.fd_is_count P_is_count (sp_is_count) := by
  have nd : N_is_count.Nodup := sc_is_count.nd
  refine T.F_is_count.ok sc_is_count (fun vs H Q E h => ?_) (fun cdv A outer s H vs Q E hr h => ?_)
  · obtain ⟨l, rfl, _⟩ := h
    rfl
  · obtain ⟨i, rfl, k⟩ := h
    refine ⟨_, (pss_one (ps_ret (pe_and (pe_callB call_isi (by rfl) T.z_isinstance (by decide +kernel) (pa_cons (pv 0) (pa_cons (pe_bltn (v := .ty "int") (by rfl) T.z_int (by decide +kernel) rfl) pa_nil))) (pe_and (pe_not (pe_callB call_isi (by rfl) T.z_isinstance (by decide +kernel) (pa_cons (pv 0) (pa_cons (pe_bltn (v := .ty "bool") (by rfl) T.z_bool (by decide +kernel) rfl) pa_nil)))) (pe_one (pe_cmpR op_ge (pv 0) pe_int (nomark _))))))), ?_⟩
    refine ⟨_, rfl, _, _, _, _, _, rfl, ClsV.ty "int", .base (.int _), kit_ty (by decide +kernel), true, rfl, iteT ?_⟩
    refine ⟨_, rfl, _, _, _, _, _, rfl, ClsV.ty "bool", .base (.int _), kit_ty (by decide +kernel), false, rfl, true, rfl, iteT ?_⟩
    exact ⟨_, rfl, _, _, rfl, rfl, k⟩
/-! is_count -/
def sp_is_count_any : Sp := fun vs H Q _ => ∃ (v : V) (o : Option Int), vs = [v] ∧ Item H v o ∧ Q (.bl (cntB o)) H
theorem ok_is_count_any (T : Txt K mg) : FnOk P w K mg base CX0 1 T.f_is_count T.fd_is_count P_is_count (sp_is_count_any) := by
  have nd : N_is_count.Nodup := sc_is_count.nd
  refine T.F_is_count.ok sc_is_count (fun vs H Q E h => ?_) (fun cdv A outer s H vs Q E hr h => ?_)
  · obtain ⟨v, o, rfl, _⟩ := h
    rfl
  · obtain ⟨v, o, rfl, hi, k⟩ := h
    refine ⟨_, (pss_one (ps_ret (pe_and (pe_callB call_isi (by rfl) T.z_isinstance (by decide +kernel) (pa_cons (pv 0) (pa_cons (pe_bltn (v := .ty "int") (by rfl) T.z_int (by decide +kernel) rfl) pa_nil))) (pe_and (pe_not (pe_callB call_isi (by rfl) T.z_isinstance (by decide +kernel) (pa_cons (pv 0) (pa_cons (pe_bltn (v := .ty "bool") (by rfl) T.z_bool (by decide +kernel) rfl) pa_nil)))) (pe_one (pe_cmpR op_ge (pv 0) pe_int (nomark _))))))), ?_⟩
    cases hi with
    | int i =>
      refine ⟨_, rfl, _, _, _, _, _, rfl, ClsV.ty "int", .base (.int _), kit_ty (by decide +kernel), true, rfl, iteT ?_⟩
      refine ⟨_, rfl, _, _, _, _, _, rfl, ClsV.ty "bool", .base (.int _), kit_ty (by decide +kernel), false, rfl, true, rfl, iteT ?_⟩
      exact ⟨_, rfl, _, _, rfl, rfl, k⟩
    | bl b =>
      refine ⟨_, rfl, _, _, _, _, _, rfl, ClsV.ty "int", .base (.bl _), kit_ty (by decide +kernel), true, rfl, iteT ?_⟩
      exact ⟨_, rfl, _, _, _, _, _, rfl, ClsV.ty "bool", .base (.bl _), kit_ty (by decide +kernel), true, rfl, false, rfl, iteF k⟩
    | non => exact ⟨_, rfl, _, _, _, _, _, rfl, ClsV.ty "int", .base .non, kit_ty (by decide +kernel), false, rfl, iteF k⟩
    | str s => exact ⟨_, rfl, _, _, _, _, _, rfl, ClsV.ty "int", .base (.str _), kit_ty (by decide +kernel), false, rfl, iteF k⟩
    | tup ht => exact ⟨_, rfl, _, _, _, _, _, rfl, ClsV.ty "int", .base (.tup ht), kit_ty (by decide +kernel), false, rfl, iteF k⟩
    | lst ht => exact ⟨_, rfl, _, _, _, _, _, rfl, ClsV.ty "int", .base (.lst ht), kit_ty (by decide +kernel), false, rfl, iteF k⟩
/-! _ascends -/
def sp__ascends : Sp := fun vs H Q _ => ∃ l : List Nat, vs = [.str (S l)] ∧ l.length ≤ 50000 ∧ ∀ H', Same H H' → Q (.bl (ascB l)) H'
theorem ok__ascends (T : Txt K mg) : FnOk P w K mg base CX0 1 T.f__ascends T.fd__ascends P__ascends (sp__ascends) := by
  have nd : N__ascends.Nodup := sc__ascends.nd
  refine T.F__ascends.ok sc__ascends (fun vs H Q E h => ?_) (fun cdv A outer s H vs Q E hr h => ?_)
  · obtain ⟨l, rfl, _⟩ := h
    rfl
  · obtain ⟨l, rfl, hl, k⟩ := h
    refine ⟨_, (pss_one (ps_ret (pe_callB (cr_all rfl) (by rfl) T.z_all (by decide +kernel) (pa_cons (pe_lc (own := [("first", 1), ("second", 2)]) (hc := rfl) (hN := nd) (pi_zipS (by rfl) T.z_zip (pa_cons (pv 0) (pa_cons (pe_slice sl_str (pv 0) (po_some pe_int) po_none) pa_nil))) (blkOk_by (N := N__ascends) (sc := defScope s__ascends) (by decide +kernel)) (fun _ _ _ _ _ => by exact (pg_tupK K (n := 2) rfl (pgs_cons (by exact (pg_name (i := 1) nd rfl (Or.inl rfl))) (pgs_cons (by exact (pg_name (i := 2) nd rfl (Or.inl rfl))) pgs_nil)))) (fun _ _ _ _ _ => by exact pts_nil) (fun _ _ _ _ _ => by exact (pe_cmpR op_lt_str (pv 1) (pv 2) (nomark _)))) pa_nil)))), ?_⟩
    refine ⟨_, rfl, _, rfl, _, rfl, _, rfl, by rw [len_S]; exact small_le (by omega), _, _, rfl, fun D hD => ?_⟩
    rw [cutS_from (by decide)]
    refine lc_it walk_zipS (fun i H' => Same H H' ∧ H' D = some (.lst ((((l.zip l.tail).take i).map fun p => decide (p.1 < p.2)).map V.bl))) ⟨Same.upd hD, by rw [upd_same]; rfl⟩ (fun _ _ _ _ => trivial) ?_ ?_
    · rintro i x H1 H2 hi ⟨s1, d1⟩ ⟨T1, x1, y1, rfl, hT, rfl, h1, h2⟩
      replace h1 : (l[i]?).map (fun c => V.str ⟨#[c]⟩) = some x1 := by rw [← at_S]; exact h1
      replace h2 : ((l.drop (1 : Int).toNat)[i]?).map (fun c => V.str ⟨#[c]⟩) = some y1 := by rw [← at_S]; exact h2
      obtain ⟨c, hc, rfl⟩ := Option.map_eq_some_iff.mp h1
      obtain ⟨d, hd, rfl⟩ := Option.map_eq_some_iff.mp h2
      have hz : (l.zip l.tail)[i]? = some (c, d) := zip_tail hc hd
      have nT : D ≠ T1 := ne_of_none d1 hT
      refine ⟨T1, _, rfl, SqT.of upd_same, rfl, _, _, rfl, _, _, rfl, rfl, rfl, ?_⟩
      refine ⟨_, rfl, _, rfl, _, _, rfl, rfl, ?_⟩
      rw [one_lt_S]
      refine ⟨_, by rw [upd_ne nT]; exact d1, ?_, fun b o e => ?_, ?_⟩
      · rw [List.length_map, List.length_map, List.length_take, List.length_zip]; exact small_line (by omega)
      · rw [upd_ne (ne_of_none e hD)]; exact Same.upd hT _ _ (s1 b o e)
      · rw [upd_same, take_snoc hz]; simp
    · rintro H1 ⟨s1, d1⟩
      rw [zip_size, List.take_length] at d1
      refine ⟨D, _, rfl, SqL.of d1, ?_⟩
      have e : ((l.zip l.tail).map fun p => decide (p.1 < p.2)).all id = ascB l := by unfold ascB; rw [List.all_map]; rfl
      rw [e]
      exact k _ s1
/-! _ascends -/
def sp__ascends_list : Sp := fun vs H Q _ => ∃ (a : Addr) (l : List Nat), vs = [.ref a] ∧ H a = some (.lst ((l.map fun c => S [c]).map V.str)) ∧ l.length ≤ 50000 ∧ ∀ H', Same H H' → Q (.bl (ascB l)) H'
theorem ok__ascends_list (T : Txt K mg) : FnOk P w K mg base CX0 1 T.f__ascends T.fd__ascends P__ascends (sp__ascends_list) := by
  have nd : N__ascends.Nodup := sc__ascends.nd
  refine T.F__ascends.ok sc__ascends (fun vs H Q E h => ?_) (fun cdv A outer s H vs Q E hr h => ?_)
  · obtain ⟨a, l, rfl, _⟩ := h
    rfl
  · obtain ⟨a, l, rfl, ha, hl, k⟩ := h
    refine ⟨_, (pss_one (ps_ret (pe_callB (cr_all rfl) (by rfl) T.z_all (by decide +kernel) (pa_cons (pe_lc (own := [("first", 1), ("second", 2)]) (hc := rfl) (hN := nd) (pi_zip (by rfl) T.z_zip (pa_cons (pv 0) (pa_cons (pe_slice sl_list (pv 0) (po_some pe_int) po_none) pa_nil))) (blkOk_by (N := N__ascends) (sc := defScope s__ascends) (by decide +kernel)) (fun _ _ _ _ _ => by exact (pg_tupK K (n := 2) rfl (pgs_cons (by exact (pg_name (i := 1) nd rfl (Or.inl rfl))) (pgs_cons (by exact (pg_name (i := 2) nd rfl (Or.inl rfl))) pgs_nil)))) (fun _ _ _ _ _ => by exact pts_nil) (fun _ _ _ _ _ => by exact (pe_cmpR op_lt_str (pv 1) (pv 2) (nomark _)))) pa_nil)))), ?_⟩
    refine ⟨_, rfl, _, rfl, _, rfl, a, _, rfl, SqL.of ha, fun p hp => ?_⟩
    have hal := Same.upd (o := HO.lst (cutV ((l.map fun c => S [c]).map V.str) (some 1) none)) hp _ _ ha
    have hcut : cutV ((l.map fun c => S [c]).map V.str) (some 1) none = (l.tail.map fun c => S [c]).map V.str := by
      rw [cutV_tail]; simp
    rw [hcut] at hal
    rw [hcut]
    refine ⟨a, p, _, _, rfl, SqL.of hal, SqL.of upd_same, fun D hD => ?_⟩
    refine lc_it (walk_zip (n := (l.zip l.tail).length) (by simp)) (fun i H' => Same (upd H p (.lst ((l.tail.map fun c => S [c]).map V.str))) H' ∧ H' D = some (.lst ((((l.zip l.tail).take i).map fun p => decide (p.1 < p.2)).map V.bl))) ⟨Same.upd hD, by rw [upd_same]; rfl⟩
      (fun i H' _ ⟨s, _⟩ => ⟨SqL.of (s _ _ hal), SqL.of (s _ _ upd_same)⟩) ?_ ?_
    · rintro i x H1 H2 hi ⟨s1, d1⟩ ⟨T1, x1, y1, rfl, hT, rfl, h1, h2⟩
      replace h1 : ((l.map fun c => S [c]).map V.str)[i]? = some x1 := h1
      replace h2 : ((l.tail.map fun c => S [c]).map V.str)[i]? = some y1 := h2
      obtain ⟨c, hc, rfl⟩ : ∃ c, l[i]? = some c ∧ x1 = V.str (S [c]) := by
        rw [List.getElem?_map, List.getElem?_map] at h1
        cases e : l[i]? with
        | none => rw [e] at h1; cases h1
        | some c => rw [e] at h1; exact ⟨c, rfl, (Option.some.inj h1).symm⟩
      obtain ⟨d, hd, rfl⟩ : ∃ c, l.tail[i]? = some c ∧ y1 = V.str (S [c]) := by
        rw [List.getElem?_map, List.getElem?_map] at h2
        cases e : l.tail[i]? with
        | none => rw [e] at h2; cases h2
        | some c => rw [e] at h2; exact ⟨c, rfl, (Option.some.inj h2).symm⟩
      have hz : (l.zip l.tail)[i]? = some (c, d) := by rw [List.getElem?_zip_eq_some]; exact ⟨hc, hd⟩
      have nT : D ≠ T1 := ne_of_none d1 hT
      refine ⟨T1, _, rfl, SqT.of upd_same, rfl, _, _, rfl, _, _, rfl, rfl, rfl, ?_⟩
      refine ⟨_, rfl, _, rfl, _, _, rfl, rfl, ?_⟩
      rw [one_lt_S']
      refine ⟨_, by rw [upd_ne nT]; exact d1, ?_, fun b o e => ?_, ?_⟩
      · rw [List.length_map, List.length_map, List.length_take, List.length_zip]; exact small_line (by omega)
      · rw [upd_ne (ne_of_none e hD)]; exact Same.upd hT _ _ (s1 b o e)
      · rw [upd_same, take_snoc hz]; simp
    · rintro H1 ⟨s1, d1⟩
      rw [List.take_length] at d1
      refine ⟨D, _, rfl, SqL.of d1, ?_⟩
      have e : ((l.zip l.tail).map fun p => decide (p.1 < p.2)).all id = ascB l := by unfold ascB; rw [List.all_map]; rfl
      rw [e]
      exact k _ ((Same.upd hp).trans s1)
/-! sides_changed -/
def sp_sides_changed : Sp := fun vs H Q _ => ∃ (l : List Nat) (p : Nat), vs = [.str (S l), .int (p : Int)] ∧ l.length ≤ 50000 ∧ p < l.length ∧ Q (.str (S (swapL l p))) H
theorem ok_sides_changed (T : Txt K mg) : FnOk P w K mg base CX0 1 T.f_sides_changed T.fd_sides_changed P_sides_changed (sp_sides_changed) := by
  have nd : N_sides_changed.Nodup := sc_sides_changed.nd
  refine T.F_sides_changed.ok sc_sides_changed (fun vs H Q E h => ?_) (fun cdv A outer s H vs Q E hr h => ?_)
  · obtain ⟨l, p, rfl, _⟩ := h
    rfl
  · obtain ⟨l, p, rfl, hl, hp, k⟩ := h
    refine ⟨_, (pss_one (ps_ret (pe_op op_add_str (pe_op op_add_str (pe_slice sl_str (pv 0) (po_some (pe_op op_add (pv 1) pe_int)) po_none) (pe_slice sl_str (pv 0) (po_some (pv 1)) (po_some (pe_op op_add (pv 1) pe_int)))) (pe_slice sl_str (pv 0) po_none (po_some (pv 1)))))), ?_⟩
    have hz : (S l).length ≤ sizeLine := by rw [len_S]; exact small_le (by omega)
    refine ⟨_, rfl, _, rfl, _, _, rfl, rfl, _, rfl, _, rfl, hz, ?_⟩
    refine ⟨_, rfl, _, rfl, _, rfl, _, rfl, _, _, rfl, rfl, _, rfl, _, rfl, hz, ?_⟩
    rw [cutS_from (by omega), show ((p : Int) + 1) = ((p + 1 : Nat) : Int) by omega, cutS_mid (by omega) (by omega), Int.toNat_natCast]
    refine ⟨_, _, rfl, rfl, ?_, ?_⟩
    · rw [len_S, len_S, List.length_drop, List.length_take, List.length_drop]; exact small_le (by omega)
    refine ⟨_, rfl, _, rfl, _, rfl, _, rfl, hz, ?_⟩
    rw [cutS_to (by omega), Int.toNat_natCast, SX.S_cat]
    refine ⟨_, _, rfl, rfl, ?_, ?_⟩
    · rw [len_S, len_S, List.length_append, List.length_drop, List.length_take, List.length_drop, List.length_take]; exact small_le (by omega)
    rw [SX.S_cat, show p + 1 - p = 1 by omega]
    exact k
/-! sides_changed -/
def sp_sides_changed_list : Sp := fun vs H Q _ => ∃ (a : Addr) (xs : List Nat) (p : Nat), vs = [.ref a, .int (p : Int)] ∧ H a = some (.lst (placesV xs)) ∧ xs.length ≤ 50000 ∧ p < xs.length ∧ ∀ m H', H m = none → Same H H' → H' m = some (.lst (placesV (swapL xs p))) → Q (.ref m) H'
theorem ok_sides_changed_list (T : Txt K mg) : FnOk P w K mg base CX0 1 T.f_sides_changed T.fd_sides_changed P_sides_changed (sp_sides_changed_list) := by
  have nd : N_sides_changed.Nodup := sc_sides_changed.nd
  refine T.F_sides_changed.ok sc_sides_changed (fun vs H Q E h => ?_) (fun cdv A outer s H vs Q E hr h => ?_)
  · obtain ⟨a, xs, p, rfl, _⟩ := h
    rfl
  · obtain ⟨a, xs, p, rfl, ha, hl, hp, k⟩ := h
    refine ⟨_, (pss_one (ps_ret (pe_op op_cat (pe_op op_cat (pe_slice sl_list (pv 0) (po_some (pe_op op_add (pv 1) pe_int)) po_none) (pe_slice sl_list (pv 0) (po_some (pv 1)) (po_some (pe_op op_add (pv 1) pe_int)))) (pe_slice sl_list (pv 0) po_none (po_some (pv 1)))))), ?_⟩
    have e1 : ((p : Int) + 1) = ((p + 1 : Nat) : Int) := by omega
    have c1 : cutV (placesV xs) (some ((p : Int) + 1)) none = placesV (xs.drop (p + 1)) := by rw [e1, cutV_from (by rw [List.length_map]; omega)]; simp [placesV]
    have c2 : cutV (placesV xs) (some (p : Int)) (some ((p : Int) + 1)) = placesV ((xs.drop p).take 1) := by rw [e1, cutV_mid (by omega) (by rw [List.length_map]; omega), show p + 1 - p = 1 by omega]; simp [placesV]
    have c3 : cutV (placesV xs) none (some (p : Int)) = placesV (xs.take p) := by rw [cutV_toN (by rw [List.length_map]; omega)]; simp [placesV]
    refine ⟨_, rfl, _, rfl, _, _, rfl, rfl, _, rfl, a, _, rfl, SqL.of ha, fun p1 n1 => ?_⟩
    rw [c1]
    have a1 := Same.upd (o := HO.lst (placesV (xs.drop (p + 1)))) n1 _ _ ha
    refine ⟨_, rfl, _, rfl, _, rfl, _, rfl, _, _, rfl, rfl, _, rfl, a, _, rfl, SqL.of a1, fun p2 n2 => ?_⟩
    rw [c2]
    have a2 := Same.upd (o := HO.lst (placesV ((xs.drop p).take 1))) n2 _ _ a1
    have b2 := Same.upd (o := HO.lst (placesV ((xs.drop p).take 1))) n2 _ _ (upd_same (H := H) (a := p1) (o := HO.lst (placesV (xs.drop (p + 1)))))
    refine ⟨p1, p2, _, _, rfl, rfl, b2, upd_same, ?_, fun p3 n3 => ?_⟩
    · rw [List.length_map, List.length_map, List.length_drop, List.length_take, List.length_drop]; exact small_le (by omega)
    have a3 := Same.upd (o := HO.lst (placesV (xs.drop (p + 1)) ++ placesV ((xs.drop p).take 1))) n3 _ _ a2
    refine ⟨_, rfl, _, rfl, _, rfl, a, _, rfl, SqL.of a3, fun p4 n4 => ?_⟩
    rw [c3]
    refine ⟨p3, p4, _, _, rfl, rfl, Same.upd n4 _ _ upd_same, upd_same, ?_, fun p5 n5 => ?_⟩
    · rw [List.length_append, List.length_map, List.length_map, List.length_map, List.length_drop, List.length_take, List.length_drop, List.length_take]; exact small_le (by omega)
    have s1 := Same.upd (o := HO.lst (placesV (xs.drop (p + 1)))) n1
    have s2 := s1.trans (Same.upd (o := HO.lst (placesV ((xs.drop p).take 1))) n2)
    have s3 := s2.trans (Same.upd (o := HO.lst (placesV (xs.drop (p + 1)) ++ placesV ((xs.drop p).take 1))) n3)
    have s4 := s3.trans (Same.upd (o := HO.lst (placesV (xs.take p))) n4)
    refine k p5 _ (s4.free n5) (s4.trans (Same.upd n5)) (upd_same.trans ?_)
    unfold swapL placesV
    rw [List.map_append, List.map_append]
/-! _lets -/
def sp__lets : Sp := fun vs H Q _ => ∃ (n : Nat) (wd : List Nat) (wa : Addr), vs = [.int (n : Int), .ref wa] ∧ H wa = some (.lst (placesV wd)) ∧ n ≤ 300 ∧ wd.length ≤ 50000 ∧ ∀ m H', H m = none → Same H H' → H' m = some (.lst (((List.range n).map (letB n wd)).map V.bl)) → Q (.ref m) H'
theorem ok__lets (T : Txt K mg) : FnOk P w K mg base CX0 1 T.f__lets T.fd__lets P__lets (sp__lets) := by
  have nd : N__lets.Nodup := sc__lets.nd
  refine T.F__lets.ok sc__lets (fun vs H Q E h => ?_) (fun cdv A outer s H vs Q E hr h => ?_)
  · obtain ⟨n, wd, wa, rfl, _⟩ := h
    rfl
  · obtain ⟨n, wd, wa, rfl, hw, hn, hwl, k⟩ := h
    refine ⟨_, (pss_cons (ps_set (i := 2) nd rfl (Or.inr rfl) (pe_dc (own := [("width", 3)]) (hc := rfl) (hN := nd) (pi_list (pv 1)) (blkOk_by (N := N__lets) (sc := defScope s__lets) (by decide +kernel)) (fun _ _ _ _ _ => by exact (pg_name (i := 3) nd rfl (Or.inl rfl))) (fun _ _ _ _ _ => by exact pts_nil) (fun _ _ _ _ _ => by exact (pv 3)) (fun _ _ _ _ _ => by exact pe_bl)))
      (pss_one (ps_ret (pe_lc (own := [("place", 4)]) (hc := rfl) (hN := nd) (pi_range1 rfl T.z_range (pa_cons (pv 0) pa_nil)) (blkOk_by (N := N__lets) (sc := defScope s__lets) (by decide +kernel)) (fun _ _ _ _ _ => by exact (pg_name (i := 4) nd rfl (Or.inl rfl))) (fun _ _ _ _ _ => by exact pts_nil) (fun _ _ _ _ _ => by exact (pe_or (pe_cmp (pc_din (hu_of hr) (pe_op op_add (pv 4) pe_int) (pv 2))) (pe_one (pe_cmp (pc_din (hu_of hr) (pe_op op_sub (pv 0) (pv 4)) (pv 2)))))))))), ?_⟩
    refine ⟨_, rfl, wa, rfl, ⟨_, SqL.of hw⟩, fun D hD => ?_⟩
    refine dc_itS walk_list (fun i H' => Same H H' ∧ ∃ kvs, H' D = some (.dK kvs) ∧ WideK kvs (wd.take i)) ⟨Same.upd hD, [], upd_same, WideK.nil⟩ (fun i H' _ ⟨s, _⟩ => SqL.of (s _ _ hw)) ?_ ?_
    · rintro i x H1 H2 hi ⟨s1, kvs, d1, wk⟩ ⟨rfl, hx⟩
      obtain ⟨p, hq, rfl⟩ := place_of hx
      refine ⟨rfl, _, rfl, kvs, Sum.inl (p : Int), rfl, d1, ?_, fun b o e => ?_, _, upd_same, ?_⟩
      · have := wk.1; rw [List.length_take] at this; exact small_line (by omega)
      · rw [upd_ne (ne_of_none e hD)]; exact s1 b o e
      · rw [take_snoc hq]; exact wk.put
    rintro H1 ⟨s1, kvs, d1, wk⟩
    rw [List.length_map, List.take_length] at wk
    refine ⟨_, rfl, _, rfl, by omega, by omega, fun D2 hD2 => ?_⟩
    rw [Int.toNat_natCast]
    refine lc_it walk_range (fun i H' => Same H1 H' ∧ H' D2 = some (.lst (((List.range i).map (letB n wd)).map V.bl))) ⟨Same.upd hD2, by rw [upd_same]; rfl⟩ (fun _ _ _ _ => trivial) ?_ ?_
    · rintro i x H2 H3 hi ⟨s2, d2⟩ ⟨rfl, rfl⟩
      have step : ∀ v, v = V.bl (letB n wd i) → ∃ acc, H3 D2 = some (.lst acc) ∧ acc.length < sizeLine ∧ (Same H1 (upd H3 D2 (.lst (acc ++ [v]))) ∧ (upd H3 D2 (.lst (acc ++ [v]))) D2 = some (.lst (((List.range (i + 1)).map (letB n wd)).map V.bl))) := by
        rintro v rfl
        refine ⟨_, d2, ?_, fun b o e => ?_, ?_⟩
        · rw [List.length_map, List.length_map, List.length_range]; exact small_line (by omega)
        · rw [upd_ne (ne_of_none e hD2)]; exact s2 b o e
        · rw [upd_same, List.range_succ]; simp
      refine ⟨rfl, _, rfl, _, _, rfl, rfl, _, rfl, D, _, rfl, DGet.k (k := Sum.inl _) (s2 _ _ d1), _, rfl, ?_⟩
      rw [wide_at wk _ (i + 1) (by omega)]
      refine ite2 (fun z => ?_) (fun z => ?_)
      · exact step _ (by unfold letB; rw [z]; rfl)
      · refine ⟨_, rfl, _, rfl, _, _, rfl, rfl, _, rfl, D, _, rfl, DGet.k (k := Sum.inl _) (s2 _ _ d1), ?_⟩
        rw [wide_at wk _ (n - i) (by omega)]
        exact step _ (by unfold letB; rw [Bool.eq_false_iff.mpr z]; rfl)
    rintro H2 ⟨s2, d2⟩
    exact k D2 H2 (s1.free hD2) (s1.trans s2) d2
/-! _law_cell -/
def sp__law_cell (K : PySem.W.Frag) : Sp := fun vs H Q _ => ∃ (a : Addr) (ns : List Int) (j : Nat), vs = [.ref a, .int (j : Int)] ∧ SqL K H a (ns.map V.int) ∧ ∀ (r : Int) H', Same H H' → Q (.int r) H'
theorem ok__law_cell (T : Txt K mg) : FnOk P w K mg base CX0 1 T.f__law_cell T.fd__law_cell P__law_cell (sp__law_cell K) := by
  have nd : N__law_cell.Nodup := sc__law_cell.nd
  refine T.F__law_cell.ok sc__law_cell (fun vs H Q E h => ?_) (fun cdv A outer s H vs Q E hr h => ?_)
  · obtain ⟨a, ns, j, rfl, _⟩ := h
    rfl
  · obtain ⟨a, ns, j, rfl, hS, k⟩ := h
    refine ⟨_, (pss_cons (ps_if (pt_cmpR op_lt (pv 1) (pe_callB call_len_seq (by rfl) T.z_len (by decide +kernel) (pa_cons (pv 0) pa_nil)) (nomark _)) (pss_one (ps_ret (pe_ix ix_list (pv 0) (pv 1) (fun _ _ => rfl)))) pss_nil)
      (pss_one (ps_ret (pe_op op_mod (pe_callB (cr_sum rfl) (by rfl) T.z_sum (by decide +kernel) (pa_cons (pe_slice sl_list (pv 0) po_none (po_some pe_int)) pa_nil)) pe_int)))), ?_⟩
    refine ⟨_, rfl, _, rfl, a, _, rfl, .inl hS, _, _, rfl, rfl, _, rfl, ite2 (fun q => ?_) (fun q => ?_)⟩
    · have q' : j < ns.length := by have := of_decide_eq_true q; rw [List.length_map] at this; omega
      exact ⟨_, rfl, _, rfl, a, _, _, V.int ns[j], rfl, rfl, hS, atI_nat (by rw [List.getElem?_map, List.getElem?_eq_getElem q']; rfl), k _ _ (Same.refl _)⟩
    · refine ⟨_, rfl, _, rfl, a, _, rfl, hS, fun p hp => ?_⟩
      refine ⟨p, ns.take 1, rfl, SqL.of (by rw [upd_same, cutV_to1]), _, _, rfl, rfl, (by show (0 : Int) < 1000003; decide), k _ _ (Same.upd hp)⟩
/-! _law_hash -/
def sp__law_hash : Sp := fun vs H Q _ => ∃ a b : Int, vs = [.int a, .int b] ∧ (0 ≤ a ∧ a < 2147483647) ∧ (0 ≤ b ∧ b ≤ 1000000000) ∧ ∀ r : Int, 0 ≤ r → r < 2147483647 → Q (.int r) H
theorem ok__law_hash (T : Txt K mg) : FnOk P w K mg base CX0 1 T.f__law_hash T.fd__law_hash P__law_hash (sp__law_hash) := by
  have nd : N__law_hash.Nodup := sc__law_hash.nd
  refine T.F__law_hash.ok sc__law_hash (fun vs H Q E h => ?_) (fun cdv A outer s H vs Q E hr h => ?_)
  · obtain ⟨a, b, rfl, _⟩ := h
    rfl
  · obtain ⟨a, b, rfl, ha, hb, k⟩ := h
    refine ⟨_, (pss_cons (ps_set (i := 2) nd rfl (Or.inl rfl) (pe_op op_mod (pe_callTy call_int1 (by rfl) T.z_int (by decide +kernel) (pa_cons (pe_op op_add (pe_op op_add (pe_op op_add (pe_op op_mul (pv 0) pe_int) (pe_op op_mul (pe_op op_mul pe_int (pv 1)) (pv 1))) (pe_op op_mul pe_int (pv 1))) pe_int) pa_nil)) pe_int))
      (pss_cons (ps_set (i := 2) nd rfl (Or.inl rfl) (pe_op op_mod (pe_callTy call_int1 (by rfl) T.z_int (by decide +kernel) (pa_cons (pe_op op_add (pe_op op_add (pe_op op_mul (pv 2) (pv 2)) (pe_op op_mul pe_int (pv 1))) pe_int) pa_nil)) pe_int))
      (pss_one (ps_ret (pe_op op_mod (pe_callTy call_int1 (by rfl) T.z_int (by decide +kernel) (pa_cons (pe_op op_mul (pv 2) pe_int) pa_nil)) pe_int))))), ?_⟩
    refine ⟨_, rfl, _, _, rfl, rfl, .inl ⟨by omega, by omega⟩, _, rfl, _, _, rfl, rfl, .inl ⟨by decide, by decide⟩, _, rfl, _, _, rfl, rfl, .inl ⟨by omega, by omega⟩, ?_⟩
    refine ⟨_, _, rfl, rfl, _, rfl, _, _, rfl, rfl, .inl ⟨by decide, by decide⟩, _, _, rfl, rfl, _, _, rfl, rfl, .inl ⟨_, rfl, ?_⟩⟩
    refine ⟨_, _, rfl, rfl, (by show (0 : Int) < 2147483629; decide), ?_⟩
    refine ⟨_, rfl, _, rfl, _, _, rfl, rfl, .inl ⟨by omega, by omega⟩, _, rfl, _, _, rfl, rfl, .inl ⟨by decide, by decide⟩, _, _, rfl, rfl, _, _, rfl, rfl, .inl ⟨_, rfl, ?_⟩⟩
    refine ⟨_, _, rfl, rfl, (by show (0 : Int) < 2147483587; decide), ?_⟩
    refine ⟨_, rfl, _, _, rfl, rfl, .inl ⟨by omega, by omega⟩, .inl ⟨_, rfl, ?_⟩⟩
    refine ⟨_, _, rfl, rfl, (by show (0 : Int) < 2147483647; decide), ?_⟩
    exact k _ (Int.emod_nonneg _ (by decide)) (Int.emod_lt_of_pos _ (by decide))
/-! _law_swapped -/
def sp__law_swapped : Sp := fun vs H Q _ => ∃ (l : List Nat) (p : Nat), vs = [.str (S l), .int (p : Int)] ∧ l.length ≤ 50000 ∧ p < l.length ∧ Q (.str (S (swapL l p))) H
theorem ok__law_swapped (T : Txt K mg) : FnOk P w K mg base CX0 1 T.f__law_swapped T.fd__law_swapped P__law_swapped (sp__law_swapped) := by
  have nd : N__law_swapped.Nodup := sc__law_swapped.nd
  refine T.F__law_swapped.ok sc__law_swapped (fun vs H Q E h => ?_) (fun cdv A outer s H vs Q E hr h => ?_)
  · obtain ⟨l, p, rfl, _⟩ := h
    rfl
  · obtain ⟨l, p, rfl, hl, hp, k⟩ := h
    refine ⟨_, (pss_one (ps_ret (pe_op op_add_str (pe_op op_add_str (pe_slice sl_str (pv 0) (po_some (pe_op op_add (pv 1) pe_int)) po_none) (pe_item_str (pv 0) (pv 1) (fun _ _ => rfl))) (pe_slice sl_str (pv 0) po_none (po_some (pv 1)))))), ?_⟩
    have hz : (S l).length ≤ sizeLine := by rw [len_S]; exact small_le (by omega)
    have hc : l[p]? = some l[p] := List.getElem?_eq_getElem hp
    refine ⟨_, rfl, _, rfl, _, _, rfl, rfl, _, rfl, _, rfl, hz, ?_⟩
    rw [cutS_from (by omega), show ((p : Int) + 1).toNat = p + 1 by omega]
    refine ⟨_, rfl, _, rfl, S l, p, l[p], rfl, rfl, by omega, by omega, by rw [len_S]; omega, by rw [Int.toNat_natCast, at_S]; exact hc, ?_⟩
    refine ⟨_, S [l[p]], rfl, rfl, ?_, ?_⟩
    · rw [len_S, len_S, List.length_drop]; exact small_le (by simp; omega)
    refine ⟨_, rfl, _, rfl, _, rfl, _, rfl, hz, ?_⟩
    rw [cutS_to (by omega), Int.toNat_natCast, SX.S_cat]
    refine ⟨_, _, rfl, rfl, ?_, ?_⟩
    · rw [len_S, len_S, List.length_append, List.length_drop, List.length_take]; exact small_le (by simp; omega)
    rw [SX.S_cat, ← swapL_one hc]
    exact k
/-! _law_let -/
def sp__law_let : Sp := fun vs H Q _ => ∃ (l js wd : List Nat) (wa : Addr), vs = [.str (S l), .str (S js), .ref wa] ∧ H wa = some (.lst (placesV wd)) ∧ l.length ≤ 300 ∧ ∀ m H', H m = none → Same H H' → H' m = some (.lst (placesV (letL l js wd))) → Q (.ref m) H'
theorem ok__law_let (T : Txt K mg) : FnOk P w K mg base CX0 1 T.f__law_let T.fd__law_let P__law_let (sp__law_let) := by
  have nd : N__law_let.Nodup := sc__law_let.nd
  refine T.F__law_let.ok sc__law_let (fun vs H Q E h => ?_) (fun cdv A outer s H vs Q E hr h => ?_)
  · obtain ⟨l, js, wd, wa, rfl, _⟩ := h
    rfl
  · obtain ⟨l, js, wd, wa, rfl, hw, hl, k⟩ := h
    refine ⟨_, (pss_cons (ps_set (i := 3) nd rfl (Or.inl rfl) (pe_lst pa_nil))
      (pss_cons (ps_for PassesOwn.never rfl (pi_range1 rfl T.z_range (pa_cons (pe_callB call_len (by rfl) T.z_len (by decide +kernel) (pa_cons (pv 0) pa_nil)) pa_nil)) (pg_name (i := 4) nd rfl (Or.inl rfl))
      (pss_one (ps_if (PW.pt (pw_and (pt_cmpR op_in_sign (pe_item_str (pv 0) (pv 4) (fun _ _ => rfl)) (pv 1) rfl) (pw_and1 (PW.pt (pw_or (pt_cmpR op_in_seq (pe_op op_add (pv 4) pe_int) (pv 2) rfl) (pw_or1 (pt_cmpR op_in_seq (pe_op op_sub (pe_callB call_len (by rfl) T.z_len (by decide +kernel) (pa_cons (pv 0) pa_nil)) (pv 4)) (pv 2) rfl))))))) (pss_one (ps_expr (pe_bm PySem.F.plainAttrs_list PySem.F.slot_list_append PySem.F.type_list_append mt_append (pv 3) (pa_cons (pv 4) pa_nil)))) pss_nil)))
      (pss_one (ps_ret (pv 3))))), ?_⟩
    refine ⟨(by show 0 ≤ sizeLine; decide), fun m hm => ?_⟩
    have s0 := Same.upd (o := HO.lst []) hm
    have d0 : (upd H m (.lst [])) m = some (.lst []) := upd_same
    generalize upd H m (.lst []) = H0 at s0 d0
    refine ⟨_, rfl, _, l.length, rfl, ⟨by rw [len_S]; exact small_le (by omega), by rw [len_S]⟩, _, rfl, by omega, by omega, ?_⟩
    rw [Int.toNat_natCast]
    refine for_range (lo := 0) (n := l.length) (fun i σ H' => ∃ pv : Option V, σ = [some (.str (S l)), some (.str (S js)), some (.ref wa), some (.ref m), pv] ∧ Same H H' ∧ H' m = some (.lst (placesV ((openL (l.take i) js).filter (letB l.length wd))))) ⟨none, rfl, s0, d0⟩ ?_ ?_
    · rintro i σ H1 hi ⟨pv, rfl, s1, d1⟩
      have hci : l[i]? = some l[i] := List.getElem?_eq_getElem hi
      have ee := letL_snoc js wd hci
      have hlen : ((openL (l.take i) js).filter (letB l.length wd)).length ≤ i := by
        have h1 := List.length_filter_le (letB l.length wd) (openL (l.take i) js)
        have h2 := openL_len (l.take i) js
        rw [List.length_take] at h2
        omega
      have h1 := s1 _ _ hw
      have no : (decide (l[i] ∈ js) && letB l.length wd i) = false → ∃ pv : Option V, [some (V.str (S l)), some (V.str (S js)), some (V.ref wa), some (V.ref m), some (V.int (0 + (i : Nat)))] = [some (V.str (S l)), some (V.str (S js)), some (V.ref wa), some (V.ref m), pv] ∧ Same H H1 ∧ H1 m = some (.lst (placesV ((openL (l.take (i + 1)) js).filter (letB l.length wd)))) := fun z => by
        rw [ee, z]
        exact ⟨_, rfl, s1, by rw [d1]; simp⟩
      have yes : (decide (l[i] ∈ js) && letB l.length wd i) = true → ∃ pv : Option V, [some (V.str (S l)), some (V.str (S js)), some (V.ref wa), some (V.ref m), some (V.int (0 + (i : Nat)))] = [some (V.str (S l)), some (V.str (S js)), some (V.ref wa), some (V.ref m), pv] ∧ Same H (upd H1 m (.lst (placesV ((openL (l.take i) js).filter (letB l.length wd)) ++ [V.int (0 + (i : Nat))]))) ∧ (upd H1 m (.lst (placesV ((openL (l.take i) js).filter (letB l.length wd)) ++ [V.int (0 + (i : Nat))]))) m = some (.lst (placesV ((openL (l.take (i + 1)) js).filter (letB l.length wd)))) := fun z => by
        rw [ee, z]
        exact ⟨_, rfl, Sw.Same.own s1 hm, by rw [upd_same]; simp [placesV]⟩
      refine ⟨_, rfl, _, rfl, S l, _, l[i], rfl, rfl, by omega, by omega, by rw [len_S]; omega, by rw [at_S, show ((0 : Int) + (i : Nat)).toNat = i by omega]; exact hci, ?_⟩
      refine ⟨_, rfl, _, S js, rfl, rfl, _, rfl, ite2 (fun z => ?_) (fun z => ?_)⟩
      · refine ⟨_, rfl, _, _, rfl, rfl, _, rfl, wa, _, rfl, .inl (SqL.of h1), rfl, flat_places wd, _, rfl, ?_⟩
        have e1 := inV_places ((0 : Int) + (i : Nat) + 1) (i + 1) (by omega) wd
        have e2 := inV_places (((l.length : Nat) : Int) - ((0 : Int) + (i : Nat))) (l.length - i) (by omega) wd
        refine ite2 (fun y => ?_) (fun y => ?_)
        · refine ite2 (fun _ => ?_) (fun q => absurd rfl q)
          have y2 : decide (i + 1 ∈ wd) = true := e1.symm.trans y
          refine ⟨_, rfl, .inl ⟨rfl, _, SqL.of d1⟩, _, rfl, m, _, _, rfl, rfl, d1, (by rw [List.length_map]; exact small_line (by omega)), ?_⟩
          exact yes (by rw [show decide (l[i] ∈ js) = true from z]; unfold letB; rw [y2]; rfl)
        · have y2 : decide (i + 1 ∈ wd) = false := by rw [← e1]; exact Bool.eq_false_iff.mpr y
          refine ⟨_, rfl, _, l.length, rfl, ⟨by rw [len_S]; exact small_le (by omega), by rw [len_S]⟩, _, rfl, _, _, rfl, rfl, _, rfl, wa, _, rfl, .inl (SqL.of h1), rfl, flat_places wd, _, rfl, ?_⟩
          refine ite2 (fun x => ?_) (fun x => ?_)
          · have x2 : decide (l.length - i ∈ wd) = true := e2.symm.trans x
            refine ⟨_, rfl, .inl ⟨rfl, _, SqL.of d1⟩, _, rfl, m, _, _, rfl, rfl, d1, (by rw [List.length_map]; exact small_line (by omega)), ?_⟩
            exact yes (by rw [show decide (l[i] ∈ js) = true from z]; unfold letB; rw [y2, x2]; rfl)
          · have x2 : decide (l.length - i ∈ wd) = false := by rw [← e2]; exact Bool.eq_false_iff.mpr x
            exact no (by unfold letB; rw [y2, x2]; simp)
      · exact no (by rw [decide_eq_false (fun q => z (decide_eq_true q))]; rfl)
    rintro σ H1 ⟨pv, rfl, s1, d1⟩
    rw [List.take_length] at d1
    exact ⟨_, rfl, k m H1 hm s1 d1⟩
/-! is_joints -/
def sp_is_joints : Sp := fun vs H Q _ => ∃ l : List Nat, vs = [.str (S l)] ∧ l.length ≤ 50000 ∧ ∀ H', Same H H' → Q (.bl (jointsB l)) H'
theorem ok_is_joints (T : Txt K mg) : FnOk P w K mg base CX0 2 T.f_is_joints T.fd_is_joints P_is_joints (sp_is_joints) := by
  have nd : N_is_joints.Nodup := sc_is_joints.nd
  refine T.F_is_joints.ok sc_is_joints (fun vs H Q E h => ?_) (fun cdv A outer s H vs Q E hr h => ?_)
  · obtain ⟨l, rfl, _⟩ := h
    rfl
  · obtain ⟨l, rfl, hl, k⟩ := h
    refine ⟨_, (pss_one (ps_ret (pe_and (pe_call (ok_is_word T) (hr.mono (by decide)) rfl T.m_is_word T.F_is_word.kp T.b_is_word .nil pass0 (pa_cons (pv 0) pa_nil)) (pe_one (pe_call (ok__ascends T) (hr.mono (by decide)) rfl T.m__ascends T.F__ascends.kp T.b__ascends .nil pass0 (pa_cons (pv 0) pa_nil)))))), ?_⟩
    refine ⟨_, rfl, l, rfl, hl, fun H1 s1 => ⟨_, rfl, ite2 (fun z => ?_) (fun z => ?_)⟩⟩
    · refine ⟨_, rfl, l, rfl, hl, fun H2 s2 => ?_⟩
      have e : ascB l = jointsB l := by unfold jointsB; rw [z]; rfl
      rw [e]
      exact k _ (s1.trans s2)
    · have e : jointsB l = false := by unfold jointsB; rw [Bool.eq_false_iff.mpr z]; rfl
      have q := k _ s1
      rw [e] at q
      exact q
/-! check_word -/
def sp_check_word : Sp := fun vs H Q _ => ∃ l : List Nat, vs = [.str (S l)] ∧ l.length ≤ 50000 ∧ wordB l = true ∧ ∀ H', Same H H' → Q .non H'
theorem ok_check_word (T : Txt K mg) : FnOk P w K mg base CX0 2 T.f_check_word T.fd_check_word P_check_word (sp_check_word) := by
  have nd : N_check_word.Nodup := sc_check_word.nd
  refine T.F_check_word.ok sc_check_word (fun vs H Q E h => ?_) (fun cdv A outer s H vs Q E hr h => ?_)
  · obtain ⟨l, rfl, _⟩ := h
    rfl
  · obtain ⟨l, rfl, hl, hw, k⟩ := h
    refine ⟨_, (pss_one (ps_if (pt_not (pt_val (pe_call (ok_is_word T) (hr.mono (by decide)) rfl T.m_is_word T.F_is_word.kp T.b_is_word .nil pass0 (pa_cons (pv 0) pa_nil)))) pss_never pss_nil)), ?_⟩
    refine ⟨_, rfl, l, rfl, hl, fun H1 s1 => ⟨_, rfl, ?_⟩⟩
    rw [hw]
    exact iteF (k _ s1)
/-! _is_open -/
def sp__is_open : Sp := fun vs H Q _ => ∃ (l js : List Nat) (p c : Nat), vs = [.str (S l), .str (S js), .int (p : Int)] ∧ l.length ≤ 50000 ∧ l[p]? = some c ∧ Q (.bl (decide (c ∈ js))) H
theorem ok__is_open (T : Txt K mg) : FnOk P w K mg base CX0 2 T.f__is_open T.fd__is_open P__is_open (sp__is_open) := by
  have nd : N__is_open.Nodup := sc__is_open.nd
  refine T.F__is_open.ok sc__is_open (fun vs H Q E h => ?_) (fun cdv A outer s H vs Q E hr h => ?_)
  · obtain ⟨l, js, p, c, rfl, _⟩ := h
    rfl
  · obtain ⟨l, js, p, c, rfl, hl, hc, k⟩ := h
    have hp : p < l.length := (List.getElem?_eq_some_iff.mp hc).1
    refine ⟨_, (pss_one (ps_ret (pe_and (pe_call (ok_is_count T) (hr.mono (by decide)) rfl T.m_is_count T.F_is_count.kp T.b_is_count .nil pass0 (pa_cons (pv 2) pa_nil)) (pe_and (pe_cmpR op_lt (pv 2) (pe_callB call_len (by rfl) T.z_len (by decide +kernel) (pa_cons (pv 0) pa_nil)) (nomark _)) (pe_one (pe_cmpR op_in_sign (pe_item_str (pv 0) (pv 2) (fun _ _ => rfl)) (pv 1) rfl)))))), ?_⟩
    refine ⟨_, rfl, _, rfl, _, rfl, ?_⟩
    rw [decide_eq_true (by omega : (0 : Int) ≤ (p : Int))]
    refine iteT ?_
    refine ⟨_, rfl, _, rfl, _, l.length, rfl, ⟨by rw [len_S]; exact small_le (by omega), by rw [len_S]⟩, _, _, rfl, rfl, _, rfl, ?_⟩
    rw [decide_eq_true (by omega : (p : Int) < ((l.length : Nat) : Int))]
    refine iteT ?_
    exact ⟨_, rfl, _, rfl, S l, p, c, rfl, rfl, by omega, by omega, by rw [len_S]; omega, by rw [Int.toNat_natCast, at_S]; exact hc, _, rfl, c, S js, rfl, rfl, k⟩
/-! _is_open -/
def sp__is_open_any : Sp := fun vs H Q _ => ∃ (l js : List Nat) (v : V) (o : Option Int), vs = [.str (S l), .str (S js), v] ∧ l.length ≤ 50000 ∧ Item H v o ∧ Q (.bl (placeO l js o).isSome) H
theorem ok__is_open_any (T : Txt K mg) : FnOk P w K mg base CX0 2 T.f__is_open T.fd__is_open P__is_open (sp__is_open_any) := by
  have nd : N__is_open.Nodup := sc__is_open.nd
  refine T.F__is_open.ok sc__is_open (fun vs H Q E h => ?_) (fun cdv A outer s H vs Q E hr h => ?_)
  · obtain ⟨l, js, v, o, rfl, _⟩ := h
    rfl
  · obtain ⟨l, js, v, o, rfl, hl, hi, k⟩ := h
    refine ⟨_, (pss_one (ps_ret (pe_and (pe_call (ok_is_count_any T) (hr.mono (by decide)) rfl T.m_is_count T.F_is_count.kp T.b_is_count .nil pass0 (pa_cons (pv 2) pa_nil)) (pe_and (pe_cmpR op_lt (pv 2) (pe_callB call_len (by rfl) T.z_len (by decide +kernel) (pa_cons (pv 0) pa_nil)) (nomark _)) (pe_one (pe_cmpR op_in_sign (pe_item_str (pv 0) (pv 2) (fun _ _ => rfl)) (pv 1) rfl)))))), ?_⟩
    refine ⟨_, rfl, v, o, rfl, hi, _, rfl, ?_⟩
    cases hi with
    | int i =>
      refine ite2 (fun z => ?_) (fun z => ?_)
      · have hi0 : 0 ≤ i := of_decide_eq_true z
        refine ⟨_, rfl, _, rfl, _, l.length, rfl, ⟨by rw [len_S]; exact small_le (by omega), by rw [len_S]⟩, _, _, rfl, rfl, _, rfl, ?_⟩
        refine ite2 (fun y => ?_) (fun y => ?_)
        · have hlt : i.toNat < l.length := by have := of_decide_eq_true y; omega
          have hc : l[i.toNat]? = some l[i.toNat] := List.getElem?_eq_getElem hlt
          have hii : ((i.toNat : Nat) : Int) = i := by omega
          have e : (placeO l js (some i)).isSome = decide (l[i.toNat] ∈ js) := by
            show (if 0 ≤ i then (match l[i.toNat]? with | some c => if c ∈ js then some i.toNat else none | none => none) else none).isSome = _
            rw [if_pos hi0, hc]
            by_cases hm : l[i.toNat] ∈ js <;> simp [hm]
          rw [e] at k
          exact ⟨_, rfl, _, rfl, S l, i, l[i.toNat], rfl, rfl, by omega, by omega, by rw [len_S]; omega, by rw [at_S]; exact hc, _, rfl, l[i.toNat], S js, rfl, rfl, k⟩
        · have hge : l.length ≤ i.toNat := by
            have : ¬ i < ((l.length : Nat) : Int) := fun q => y (decide_eq_true q)
            omega
          have e : (placeO l js (some i)).isSome = false := by
            show (if 0 ≤ i then (match l[i.toNat]? with | some c => if c ∈ js then some i.toNat else none | none => none) else none).isSome = _
            rw [if_pos hi0, List.getElem?_eq_none hge]
            rfl
          rw [e] at k
          exact k
      · have hi0 : ¬ 0 ≤ i := fun q => z (decide_eq_true q)
        have e : (placeO l js (some i)).isSome = false := by
          show (if 0 ≤ i then (match l[i.toNat]? with | some c => if c ∈ js then some i.toNat else none | none => none) else none).isSome = _
          rw [if_neg hi0]
          rfl
        rw [e] at k
        exact k
    | bl b => exact iteF k
    | non => exact iteF k
    | str s => exact iteF k
    | tup ht => exact iteF k
    | lst ht => exact iteF k
/-! back_road -/
def sp_back_road : Sp := fun vs H Q _ => ∃ (n : Nat) (r : List Nat) (v : Addr), vs = [.int (n : Int), .ref v] ∧ H v = some (.lst (placesV r)) ∧ n ≤ 300 ∧ (∀ p ∈ r, p < n) ∧ r.length ≤ 50000 ∧ ∀ m H', H m = none → Same H H' → H' m = some (.lst (placesV (backL n r))) → Q (.ref m) H'
theorem ok_back_road (T : Txt K mg) : FnOk P w K mg base CX0 2 T.f_back_road T.fd_back_road P_back_road (sp_back_road) := by
  have nd : N_back_road.Nodup := sc_back_road.nd
  refine T.F_back_road.ok sc_back_road (fun vs H Q E h => ?_) (fun cdv A outer s H vs Q E hr h => ?_)
  · obtain ⟨n, r, v, rfl, _⟩ := h
    rfl
  · obtain ⟨n, r, v, rfl, hv, hn, hp, hr2, k⟩ := h
    refine ⟨_, (pss_cons (ps_if (PW.pt (pw_or (pt_not (pt_val (pe_call (ok_is_count T) (hr.mono (by decide)) rfl T.m_is_count T.F_is_count.kp T.b_is_count .nil pass0 (pa_cons (pv 0) pa_nil)))) (pw_or1 (pt_cmpR op_gt (pv 0) (pe_glob (v := .int 300) rfl T.g_LONGEST.choose_spec ⟨_, rfl⟩) (nomark _))))) pss_never pss_nil)
      (pss_cons (ps_if (PW.pt (pw_or (pt_not (pt_val (pe_callB call_isi (by rfl) T.z_isinstance (by decide +kernel) (pa_cons (pv 1) (pa_cons (pe_bltn (v := .ty "list") (by rfl) T.z_list (by decide +kernel) rfl) pa_nil))))) (pw_or1 (pt_not (pt_val (pe_callB (cr_all rfl) (by rfl) T.z_all (by decide +kernel) (pa_cons (pe_lc (own := [("place", 2)]) (hc := rfl) (hN := nd) (pi_list (pv 1)) (blkOk_by (N := N_back_road) (sc := defScope s_back_road) (by decide +kernel)) (fun _ _ _ _ _ => by exact (pg_name (i := 2) nd rfl (Or.inl rfl))) (fun _ _ _ _ _ => by exact pts_nil) (fun _ _ _ _ _ => by exact (pe_and (pe_call (ok_is_count T) (hr.mono (by decide)) rfl T.m_is_count T.F_is_count.kp T.b_is_count .nil pass0 (pa_cons (pv 2) pa_nil)) (pe_one (pe_cmpR op_lt (pv 2) (pv 0) (nomark _)))))) pa_nil))))))) pss_never pss_nil)
      (pss_one (ps_ret (pe_lc (own := [("place", 2)]) (hc := rfl) (hN := nd) (pi_reversed (by rfl) T.z_reversed (pa_cons (pv 1) pa_nil)) (blkOk_by (N := N_back_road) (sc := defScope s_back_road) (by decide +kernel)) (fun _ _ _ _ _ => by exact (pg_name (i := 2) nd rfl (Or.inl rfl))) (fun _ _ _ _ _ => by exact pts_nil) (fun _ _ _ _ _ => by exact (pe_op op_sub (pe_op op_sub (pv 0) pe_int) (pv 2)))))))), ?_⟩
    refine ⟨_, rfl, _, rfl, _, rfl, ?_⟩
    rw [decide_eq_true (by omega : (0 : Int) ≤ (n : Int))]
    refine iteF ?_
    refine ⟨_, rfl, _, _, rfl, rfl, _, rfl, ?_⟩
    rw [show decide ((n : Int) > 300) = false from decide_eq_false (by omega)]
    refine iteF ?_
    refine ⟨_, rfl, _, _, _, _, _, rfl, ClsV.ty "list", .base (.lst hv), kit_ty (by decide +kernel), true, rfl, iteF ?_⟩
    refine ⟨_, rfl, v, rfl, ⟨_, SqL.of hv⟩, fun D hD => ?_⟩
    refine lc_it walk_list (fun i H' => Same H H' ∧ H' D = some (.lst ((List.replicate i true).map V.bl))) ⟨Same.upd hD, by rw [upd_same]; rfl⟩ (fun i H' _ ⟨s, _⟩ => SqL.of (s _ _ hv)) ?_ ?_
    · rintro i x H1 H2 hi ⟨s1, d1⟩ ⟨rfl, hx⟩
      obtain ⟨p, hq, rfl⟩ := place_of hx
      have hpn := hp p (List.mem_of_getElem? hq)
      have hil : i < r.length := (List.getElem?_eq_some_iff.mp hq).1
      refine ⟨rfl, _, rfl, _, rfl, _, rfl, ?_⟩
      rw [decide_eq_true (by omega : (0 : Int) ≤ (p : Int))]
      refine iteT ?_
      refine ⟨_, rfl, _, rfl, _, _, rfl, rfl, ?_⟩
      refine ⟨_, d1, ?_, fun b o e => ?_, ?_⟩
      · rw [List.length_map, List.length_replicate]; exact small_line (by omega)
      · rw [upd_ne (ne_of_none e hD)]; exact s1 b o e
      · rw [upd_same, List.replicate_succ']; simp [hpn]
    rintro H1 ⟨s1, d1⟩
    refine ⟨D, _, rfl, SqL.of d1, true, ?_, iteF ?_⟩
    · have e : ∀ m, (List.replicate m true).all id = true := fun m => List.all_eq_true.mpr fun x hx => (List.mem_replicate.mp hx).2
      rw [e]
    refine ⟨_, rfl, v, _, rfl, SqL.of (s1 _ _ hv), fun D2 hD2 => ?_⟩
    refine lc_it walk_rev (fun i H' => Same H1 H' ∧ H' D2 = some (.lst (placesV ((backL n r).take i)))) ⟨Same.upd hD2, upd_same⟩ (fun i H' _ ⟨s, _⟩ => SqL.of (s _ _ (s1 _ _ hv))) ?_ ?_
    · rintro i x H2 H3 hi ⟨s2, d2⟩ ⟨rfl, hx⟩
      rw [List.length_map] at hi
      obtain ⟨p, hq, rfl⟩ := place_of hx
      rw [List.length_map] at hq
      have hpn := hp p (List.mem_of_getElem? hq)
      have hb : (backL n r)[i]? = some (n - 1 - p) := by
        unfold backL
        rw [List.getElem?_map, List.getElem?_reverse (by omega), hq]
        rfl
      refine ⟨rfl, _, rfl, _, _, rfl, rfl, _, rfl, _, _, rfl, rfl, ?_⟩
      refine ⟨_, d2, ?_, fun b o e => ?_, ?_⟩
      · rw [List.length_map, List.length_take]; exact small_line (by omega)
      · rw [upd_ne (ne_of_none e hD2)]; exact s2 b o e
      · rw [upd_same, take_snoc hb]
        have e : ((n : Int) - 1 - (p : Int)) = ((n - 1 - p : Nat) : Int) := by omega
        simp [placesV, e]
    rintro H2 ⟨s2, d2⟩
    rw [List.length_map, show (backL n r).take r.length = backL n r from List.take_of_length_le (by unfold backL; simp)] at d2
    exact k D2 H2 (s1.free hD2) (s1.trans s2) d2
/-! check_widths -/
def sp_check_widths : Sp := fun vs H Q _ => ∃ (a : Addr) (wd : List Nat), vs = [.ref a] ∧ H a = some (.lst (placesV wd)) ∧ wd.length ≤ 50000 ∧ WidthsOk wd ∧ ∀ H', Same H H' → Q .non H'
theorem ok_check_widths (T : Txt K mg) : FnOk P w K mg base CX0 2 T.f_check_widths T.fd_check_widths P_check_widths (sp_check_widths) := by
  have nd : N_check_widths.Nodup := sc_check_widths.nd
  refine T.F_check_widths.ok sc_check_widths (fun vs H Q E h => ?_) (fun cdv A outer s H vs Q E hr h => ?_)
  · obtain ⟨a, wd, rfl, _⟩ := h
    rfl
  · obtain ⟨a, wd, rfl, ha, hl, ok, k⟩ := h
    refine ⟨_, (pss_cons (ps_if (PW.pt (pw_or (pt_not (pt_val (pe_callB call_isi (by rfl) T.z_isinstance (by decide +kernel) (pa_cons (pv 0) (pa_cons (pe_bltn (v := .ty "list") (by rfl) T.z_list (by decide +kernel) rfl) pa_nil))))) (pw_or1 (pt_not (pt_val (pe_callB (cr_all rfl) (by rfl) T.z_all (by decide +kernel) (pa_cons (pe_lc (own := [("width", 3)]) (hc := rfl) (hN := nd) (pi_list (pv 0)) (blkOk_by (N := N_check_widths) (sc := defScope s_check_widths) (by decide +kernel)) (fun _ _ _ _ _ => by exact (pg_name (i := 3) nd rfl (Or.inl rfl))) (fun _ _ _ _ _ => by exact pts_nil) (fun _ _ _ _ _ => by exact (pe_and (pe_call (ok_is_count T) (hr.mono (by decide)) rfl T.m_is_count T.F_is_count.kp T.b_is_count .nil pass0 (pa_cons (pv 3) pa_nil)) (pe_one (pe_cmpR op_ge (pv 3) pe_int (nomark _)))))) pa_nil))))))) pss_never pss_nil)
      (pss_one (ps_if (pt_not (pt_val (pe_callB (cr_all rfl) (by rfl) T.z_all (by decide +kernel) (pa_cons (pe_lc (own := [("first", 1), ("second", 2)]) (hc := rfl) (hN := nd) (pi_zip (by rfl) T.z_zip (pa_cons (pv 0) (pa_cons (pe_slice sl_list (pv 0) (po_some pe_int) po_none) pa_nil))) (blkOk_by (N := N_check_widths) (sc := defScope s_check_widths) (by decide +kernel)) (fun _ _ _ _ _ => by exact (pg_tupK K (n := 2) rfl (pgs_cons (by exact (pg_name (i := 1) nd rfl (Or.inl rfl))) (pgs_cons (by exact (pg_name (i := 2) nd rfl (Or.inl rfl))) pgs_nil)))) (fun _ _ _ _ _ => by exact pts_nil) (fun _ _ _ _ _ => by exact (pe_cmpR op_lt (pv 1) (pv 2) (nomark _)))) pa_nil)))) pss_never pss_nil))), ?_⟩
    refine ⟨_, rfl, _, _, _, _, _, rfl, ClsV.ty "list", .base (.lst ha), kit_ty (by decide +kernel), true, rfl, iteF ?_⟩
    refine ⟨_, rfl, a, rfl, ⟨_, SqL.of ha⟩, fun D hD => ?_⟩
    refine lc_it walk_list (fun i H' => Same H H' ∧ H' D = some (.lst ((List.replicate i true).map V.bl))) ⟨Same.upd hD, by rw [upd_same]; rfl⟩ (fun i H' _ ⟨s, _⟩ => SqL.of (s _ _ ha)) ?_ ?_
    · rintro i x H1 H2 hi ⟨s1, d1⟩ ⟨rfl, hx⟩
      obtain ⟨p, hq, rfl⟩ := place_of hx
      have hpn := ok.1 p (List.mem_of_getElem? hq)
      have hil : i < wd.length := (List.getElem?_eq_some_iff.mp hq).1
      refine ⟨rfl, _, rfl, _, rfl, _, rfl, ?_⟩
      rw [decide_eq_true (by omega : (0 : Int) ≤ (p : Int))]
      refine iteT ?_
      refine ⟨_, rfl, _, _, rfl, rfl, ?_⟩
      refine ⟨_, d1, ?_, fun b o e => ?_, ?_⟩
      · rw [List.length_map, List.length_replicate]; exact small_line (by omega)
      · rw [upd_ne (ne_of_none e hD)]; exact s1 b o e
      · rw [upd_same, List.replicate_succ']; simp; omega
    rintro H1 ⟨s1, d1⟩
    refine ⟨D, _, rfl, SqL.of d1, true, ?_, iteF ?_⟩
    · have e : ∀ m, (List.replicate m true).all id = true := fun m => List.all_eq_true.mpr fun x hx => (List.mem_replicate.mp hx).2
      rw [e]
    refine ⟨_, rfl, _, rfl, _, rfl, a, _, rfl, SqL.of (s1 _ _ ha), fun p hp => ?_⟩
    have hal := Same.upd (o := HO.lst (cutV (placesV wd) (some 1) none)) hp _ _ (s1 _ _ ha)
    have sS := s1.trans (Same.upd (o := HO.lst (cutV (placesV wd) (some 1) none)) hp)
    have hcut : cutV (placesV wd) (some 1) none = placesV wd.tail := by
      rw [cutV_tail]; simp [placesV]
    rw [hcut] at hal sS
    rw [hcut]
    have hpp : (upd H1 p (.lst (placesV wd.tail))) p = some (.lst (placesV wd.tail)) := upd_same
    generalize upd H1 p (.lst (placesV wd.tail)) = H2 at hal sS hpp ⊢
    refine ⟨a, p, _, _, rfl, SqL.of hal, SqL.of hpp, fun D2 hD2 => ?_⟩
    refine lc_it (walk_zip (n := wd.tail.length) (by simp [placesV])) (fun i H' => Same H2 H' ∧ H' D2 = some (.lst ((List.replicate i true).map V.bl))) ⟨Same.upd hD2, by rw [upd_same]; rfl⟩
      (fun i H' _ ⟨s, _⟩ => ⟨SqL.of (s _ _ hal), SqL.of (s _ _ hpp)⟩) ?_ ?_
    · rintro i x H3 H4 hi ⟨s3, d3⟩ ⟨T1, x1, y1, rfl, hT, rfl, h1, h2⟩
      replace h1 : (placesV wd)[i]? = some x1 := h1
      replace h2 : (placesV wd.tail)[i]? = some y1 := h2
      obtain ⟨c, hc, rfl⟩ := place_of h1
      obtain ⟨d, hd, rfl⟩ := place_of h2
      have hlt : c < d := by
        rw [List.getElem?_tail] at hd
        obtain ⟨h3, e3⟩ := List.getElem?_eq_some_iff.mp hc
        obtain ⟨h4, e4⟩ := List.getElem?_eq_some_iff.mp hd
        have := List.pairwise_iff_getElem.mp ok.2 i (i + 1) h3 h4 (by omega)
        rw [e3, e4] at this
        exact this
      have nT : D2 ≠ T1 := ne_of_none d3 hT
      have hil : i < wd.length := (List.getElem?_eq_some_iff.mp hc).1
      refine ⟨T1, _, rfl, SqT.of upd_same, rfl, _, _, rfl, _, _, rfl, rfl, rfl, ?_⟩
      refine ⟨_, rfl, _, rfl, _, _, rfl, rfl, ?_⟩
      refine ⟨_, by rw [upd_ne nT]; exact d3, ?_, fun b o e => ?_, ?_⟩
      · rw [List.length_map, List.length_replicate]; exact small_line (by omega)
      · rw [upd_ne (ne_of_none e hD2)]; exact Same.upd hT _ _ (s3 b o e)
      · rw [upd_same, List.replicate_succ']; simp [hlt]
    rintro H3 ⟨s3, d3⟩
    refine ⟨D2, _, rfl, SqL.of d3, true, ?_, iteF (k _ (sS.trans s3))⟩
    have e : ∀ m, (List.replicate m true).all id = true := fun m => List.all_eq_true.mpr fun x hx => (List.mem_replicate.mp hx).2
    rw [e]
/-! _law_generator -/
def sp__law_generator (K : PySem.W.Frag) : Sp := fun vs H Q _ => ∃ (a : Addr) (ns : List Int) (j : Nat), vs = [.ref a, .int (j : Int)] ∧ SqL K H a (ns.map V.int) ∧ j ≤ 1000 ∧ ∀ (g : Addr) H', H g = none → Same H H' → GenAt H' g (1000 * j) → Q (.ref g) H'
theorem ok__law_generator (T : Txt K mg) : FnOk P w K mg base CX0 2 T.f__law_generator T.fd__law_generator P__law_generator (sp__law_generator K) := by
  have nd : N__law_generator.Nodup := sc__law_generator.nd
  refine T.F__law_generator.ok sc__law_generator (fun vs H Q E h => ?_) (fun cdv A outer s H vs Q E hr h => ?_)
  · obtain ⟨a, ns, j, rfl, _⟩ := h
    rfl
  · obtain ⟨a, ns, j, rfl, hS, hj, k⟩ := h
    refine ⟨_, (pss_cons (ps_set (i := 2) nd rfl (Or.inl rfl) (pe_call (ok__law_cell T) (hr.mono (by decide)) rfl T.m__law_cell T.F__law_cell.kp T.b__law_cell .nil pass0 (pa_cons (pv 0) (pa_cons (pv 1) pa_nil))))
      (pss_one (ps_ret (pe_lst (pa_cons (pe_op op_mod (pe_callTy call_int1 (by rfl) T.z_int (by decide +kernel) (pa_cons (pe_callB (call_max2 rfl) (by rfl) T.z_max (by decide +kernel) (pa_cons (pe_op op_sub (pv 2) (pe_op op_powW pe_int pe_int)) (pa_cons pe_int pa_nil))) pa_nil)) (pe_op op_powW (pe_op op_powW pe_int pe_int) pe_int)) (pa_cons (pe_op op_mod (pe_callTy call_int1 (by rfl) T.z_int (by decide +kernel) (pa_cons (pv 2) pa_nil)) pe_int) (pa_cons (pe_op op_mul pe_int (pv 1)) pa_nil))))))), ?_⟩
    refine ⟨_, rfl, _, rfl, a, ns, j, rfl, hS, fun r H1 s1 => ?_⟩
    refine ⟨_, rfl, _, _, rfl, rfl, ⟨by decide, by decide +kernel⟩, _, _, rfl, rfl, _, _, rfl, .inl ⟨_, rfl, ?_⟩⟩
    refine ⟨_, _, rfl, rfl, ⟨by decide, by decide +kernel⟩, _, _, rfl, rfl, ⟨by decide, by decide +kernel⟩, _, _, rfl, rfl, (by show (0 : Int) < (10 ^ (60 : Int).toNat) ^ (10 : Int).toNat; decide +kernel), ?_⟩
    refine ⟨_, rfl, .inl ⟨_, rfl, _, _, rfl, rfl, (by show (0 : Int) < 2147483647; decide), _, rfl, _, _, rfl, rfl, .inl ⟨by decide, by decide⟩, (by show 3 ≤ sizeLine; decide), fun p hp => ?_⟩⟩
    refine k p _ (s1.free hp) (s1.trans (Same.upd hp)) ⟨_, _, _, upd_same, seed_ok _, ⟨Int.emod_nonneg _ (by decide), Int.emod_lt_of_pos _ (by decide)⟩, by omega, by omega⟩
/-! _law_random -/
def sp__law_random : Sp := fun vs H Q _ => ∃ (g : Addr) (n : Int) (b : Nat), vs = [.ref g, .int n] ∧ GenAt H g b ∧ b ≤ 900000000 ∧ 0 < n ∧ n.natAbs < 2 ^ 120 ∧ ∀ (r : Int) H', 0 ≤ r → r < n → But g H H' → GenAt H' g (b + 10) → Q (.int r) H'
theorem ok__law_random (T : Txt K mg) : FnOk P w K mg base CX0 2 T.f__law_random T.fd__law_random P__law_random (sp__law_random) := by
  have nd : N__law_random.Nodup := sc__law_random.nd
  refine T.F__law_random.ok sc__law_random (fun vs H Q E h => ?_) (fun cdv A outer s H vs Q E hr h => ?_)
  · obtain ⟨a, n, b, rfl, _⟩ := h
    rfl
  · obtain ⟨g, n, b, rfl, ⟨x, y, z, h0, hx, hy, hz⟩, hb, hn0, hn1, k⟩ := h
    refine ⟨_, (pss_cons (ps_if (pt_cmpR op_gt (pe_ix ix_list (pv 0) pe_int (fun _ _ => rfl)) pe_int (nomark _)) (pss_cons (ps_set (i := 2) nd rfl (Or.inl rfl) (pe_op op_mod (pe_callTy call_int1 (by rfl) T.z_int (by decide +kernel) (pa_cons (pe_ix ix_list (pv 0) pe_int (fun _ _ => rfl)) pa_nil)) (pv 1)))
      (pss_cons (ps_asg (pe_op op_fdivW (pe_ix ix_list (pv 0) pe_int (fun _ _ => rfl)) (pv 1)) (pg_sub (pv 0) pe_int set_list))
      (pss_one (ps_ret (pv 2))))) pss_nil)
      (pss_cons (ps_set (i := 2) nd rfl (Or.inl rfl) pe_int)
      (pss_cons (ps_for PassesOwn.never rfl (pi_range1 rfl T.z_range (pa_cons (pe_op op_add pe_int (pe_op op_fdivW (pe_bits (pv 1)) pe_int)) pa_nil)) (pg_name (i := 3) nd rfl (Or.inl rfl))
      (pss_cons (ps_asg (pe_op op_add (pe_ix ix_list (pv 0) pe_int (fun _ _ => rfl)) pe_int) (pg_sub (pv 0) pe_int set_list))
      (pss_one (ps_set (i := 2) nd rfl (Or.inl rfl) (pe_op op_add (pe_op op_mul (pv 2) pe_int) (pe_call (ok__law_hash T) (hr.mono (by decide)) rfl T.m__law_hash T.F__law_hash.kp T.b__law_hash .nil pass0 (pa_cons (pe_ix ix_list (pv 0) pe_int (fun _ _ => rfl)) (pa_cons (pe_ix ix_list (pv 0) pe_int (fun _ _ => rfl)) pa_nil))))))))
      (pss_one (ps_ret (pe_op op_mod (pe_callTy call_int1 (by rfl) T.z_int (by decide +kernel) (pa_cons (pv 2) pa_nil)) (pv 1))))))), ?_⟩
    have rd : ∀ {H' : Hp} {x y z : Int}, H' g = some (.lst [.int x, .int y, .int z]) → SqL K H' g [.int x, .int y, .int z] := fun q => SqL.of q
    refine ⟨_, rfl, g, _, _, V.int x, rfl, rfl, rd h0, rfl, _, _, rfl, rfl, _, rfl, ?_⟩
    refine ite2 (fun q => ?_) (fun q => ?_)
    · refine ⟨_, rfl, g, _, _, V.int x, rfl, rfl, rd h0, rfl, .inl ⟨_, rfl, _, rfl, _, _, rfl, rfl, hn0, ?_⟩⟩
      refine ⟨_, rfl, g, _, _, V.int x, rfl, rfl, rd h0, rfl, _, rfl, _, _, rfl, rfl, wide_div hn0 hn1 (by decide) (by decide), ?_⟩
      refine ⟨_, rfl, g, _, _, 0, rfl, rfl, h0, rfl, _, rfl, ?_⟩
      refine k _ _ (Int.emod_nonneg _ (by omega)) (Int.emod_lt_of_pos _ hn0) But.upd ⟨x / n, y, z, upd_same, ⟨Int.ediv_nonneg hx.1 (by omega), ?_⟩, hy, hz.1, by omega⟩
      exact wide_le (Int.ediv_nonneg hx.1 (by omega)) (Int.ediv_le_self _ hx.1) hx.2
    · have hbits : Builtin.Int.intBits n ≤ 121 := by
        have := PySem.Flt.log2_lt_of (by decide) hn1
        unfold Builtin.Int.intBits
        split <;> omega
      refine ⟨_, rfl, _, rfl, _, _, rfl, rfl, wide_div (b := 5) (by decide) (by decide) (by decide) (by decide), _, _, rfl, rfl, ?_⟩
      refine ⟨_, rfl, by omega, by omega, ?_⟩
      refine for_range (lo := 0) (n := ((1 : Int) + ((Builtin.Int.intBits n : Nat) : Int) / 30).toNat) (fun i σ H' => ∃ (d w : Int) (v : Option V), σ = [some (.ref g), some (.int n), some (.int d), v] ∧ But g H H' ∧ H' g = some (.lst [.int x, .int y, .int w]) ∧ 0 ≤ w ∧ w ≤ z + i) ⟨0, z, none, rfl, But.refl _ _, h0, hz.1, by omega⟩ ?_ ?_
      · rintro i σ H1 hi ⟨d, w, v, rfl, b1, g1, w0, w1⟩
        refine ⟨_, rfl, g, _, _, V.int w, rfl, rfl, rd g1, rfl, _, _, rfl, rfl, ?_⟩
        refine ⟨_, rfl, g, _, _, 2, rfl, rfl, g1, rfl, ?_⟩
        have g2 : upd H1 g (.lst [.int x, .int y, .int (w + 1)]) g = some (.lst [.int x, .int y, .int (w + 1)]) := upd_same
        refine ⟨_, rfl, _, _, rfl, rfl, .inr ⟨by decide, by decide⟩, _, rfl, g, _, _, V.int y, rfl, rfl, rd g2, rfl, _, rfl, g, _, _, V.int (w + 1), rfl, rfl, rd g2, rfl, y, w + 1, rfl, hy, ⟨by omega, by omega⟩, fun r r0 r1 => ?_⟩
        refine ⟨_, _, rfl, rfl, ?_⟩
        exact ⟨_, w + 1, _, rfl, b1.trans But.upd, g2, by omega, by omega⟩
      · rintro σ H1 ⟨d, w, v, rfl, b1, g1, w0, w1⟩
        refine ⟨_, rfl, .inl ⟨_, rfl, _, rfl, _, _, rfl, rfl, hn0, ?_⟩⟩
        exact k _ _ (Int.emod_nonneg _ (by omega)) (Int.emod_lt_of_pos _ hn0) b1 ⟨x, y, w, g1, hx, hy, w0, by omega⟩
/-! _law_is_road -/
def sp__law_is_road : Sp := fun vs H Q _ => ∃ (l js wd : List Nat) (wa : Addr) (v : V) (o : Option (List (Option Int))), vs = [.str (S l), .str (S js), .ref wa, v] ∧ H wa = some (.lst (placesV wd)) ∧ l.length ≤ 300 ∧ Val H v o ∧ (∀ os, o = some os → os.length ≤ 2000) ∧ ∀ H', Same H H' → Q (.bl (roadW js wd l o)) H'
theorem ok__law_is_road (T : Txt K mg) : FnOk P w K mg base CX0 2 T.f__law_is_road T.fd__law_is_road P__law_is_road (sp__law_is_road) := by
  have nd : N__law_is_road.Nodup := sc__law_is_road.nd
  refine T.F__law_is_road.ok sc__law_is_road (fun vs H Q E h => ?_) (fun cdv A outer s H vs Q E hr h => ?_)
  · obtain ⟨l, js, wd, wa, v, o, rfl, _⟩ := h
    rfl
  · obtain ⟨l, js, wd, wa, v, o, rfl, hw, hl, hv, hol, k⟩ := h
    refine ⟨_, (pss_cons (ps_if (pt_not (pt_val (pe_callB call_isi (by rfl) T.z_isinstance (by decide +kernel) (pa_cons (pv 3) (pa_cons (pe_bltn (v := .ty "list") (by rfl) T.z_list (by decide +kernel) rfl) pa_nil))))) (pss_one (ps_ret pe_bl)) pss_nil)
      (pss_cons (ps_for PassesOwn.never rfl (pi_list (pv 3)) (pg_name (i := 4) nd rfl (Or.inl rfl))
      (pss_cons (ps_if (PW.pt (pw_or (pt_not (pt_val (pe_callB call_isi (by rfl) T.z_isinstance (by decide +kernel) (pa_cons (pv 4) (pa_cons (pe_bltn (v := .ty "int") (by rfl) T.z_int (by decide +kernel) rfl) pa_nil))))) (pw_or (pt_val (pe_callB call_isi (by rfl) T.z_isinstance (by decide +kernel) (pa_cons (pv 4) (pa_cons (pe_bltn (v := .ty "bool") (by rfl) T.z_bool (by decide +kernel) rfl) pa_nil)))) (pw_or1 (pt_cmpR op_notIn_seq (pv 4) (pe_call (ok__law_let T) (hr.mono (by decide)) rfl T.m__law_let T.F__law_let.kp T.b__law_let .nil pass0 (pa_cons (pv 0) (pa_cons (pv 1) (pa_cons (pv 2) pa_nil)))) rfl))))) (pss_one (ps_ret pe_bl)) pss_nil)
      (pss_one (ps_set (i := 0) nd rfl (Or.inl rfl) (pe_call (ok__law_swapped T) (hr.mono (by decide)) rfl T.m__law_swapped T.F__law_swapped.kp T.b__law_swapped .nil pass0 (pa_cons (pv 0) (pa_cons (pv 4) pa_nil)))))))
      (pss_one (ps_ret pe_bl)))), ?_⟩
    cases hv with
    | tup ht => exact ⟨_, rfl, _, _, _, _, _, rfl, ClsV.ty "list", .base (.tup ht), kit_ty (by decide +kernel), false, rfl, iteT (k _ fun _ _ e => e)⟩
    | dic ht => exact ⟨_, rfl, _, _, _, _, _, rfl, ClsV.ty "list", .base (.dK ht), kit_ty (by decide +kernel), false, rfl, iteT (k _ fun _ _ e => e)⟩
    | int i => exact ⟨_, rfl, _, _, _, _, _, rfl, ClsV.ty "list", .base (.int _), kit_ty (by decide +kernel), false, rfl, iteT (k _ fun _ _ e => e)⟩
    | bl b => exact ⟨_, rfl, _, _, _, _, _, rfl, ClsV.ty "list", .base (.bl _), kit_ty (by decide +kernel), false, rfl, iteT (k _ fun _ _ e => e)⟩
    | non => exact ⟨_, rfl, _, _, _, _, _, rfl, ClsV.ty "list", .base .non, kit_ty (by decide +kernel), false, rfl, iteT (k _ fun _ _ e => e)⟩
    | str s => exact ⟨_, rfl, _, _, _, _, _, rfl, ClsV.ty "list", .base (.str _), kit_ty (by decide +kernel), false, rfl, iteT (k _ fun _ _ e => e)⟩
    | @lst v xs os ht hx =>
      have hos := hol os rfl
      have kF : walkW js wd l os = false → ∀ H', Same H H' → Q (.bl false) H' := fun z H' s => by
        have q := k H' s
        rw [show roadW js wd l (some os) = false from z] at q
        exact q
      refine ⟨_, rfl, _, _, _, _, _, rfl, ClsV.ty "list", .base (.lst ht), kit_ty (by decide +kernel), true, rfl, iteF ?_⟩
      refine ⟨_, rfl, v, rfl, ⟨_, SqL.of ht⟩, for_list (K := K) (a := v) (xs := xs) (fun i σ H' => ∃ (pv : Option V) (cur : List Nat), σ = [some (.str (S cur)), some (.str (S js)), some (.ref wa), some (.ref v), pv] ∧ Same H H' ∧ cur.length = l.length ∧ walkW js wd l os = walkW js wd cur (os.drop i)) ⟨none, l, rfl, fun _ _ e => e, rfl, rfl⟩ (fun i σ H' _ ⟨_, _, _, s, _⟩ => SqL.of (s _ _ ht)) ?_ ?_⟩
      · rintro i y σ H1 hi ⟨pv, cur, rfl, s1, hcl, hww⟩
        obtain ⟨o, ho, hit⟩ := hx.2 i y hi
        have hil : i < os.length := (List.getElem?_eq_some_iff.mp ho).1
        have nos : o = none → walkW js wd l os = false := fun e => by
          rw [hww]
          exact walkW_stop ho (by rw [e]; rfl)
        cases hit with
        | int i0 =>
          refine ⟨_, rfl, _, _, _, _, _, rfl, ClsV.ty "int", .base (.int _), kit_ty (by decide +kernel), true, rfl, iteF ?_⟩
          refine ⟨_, rfl, _, _, _, _, _, rfl, ClsV.ty "bool", .base (.int _), kit_ty (by decide +kernel), false, rfl, iteF ?_⟩
          refine ⟨_, rfl, _, rfl, _, rfl, _, rfl, cur, js, wd, wa, rfl, s1 _ _ hw, by omega, fun m H2 hm s2 d2 => ⟨m, _, rfl, .inl (SqL.of d2), rfl, flat_places _, _, rfl, ?_⟩⟩
          have e1 := law_place (l := cur) (js := js) (wd := wd) i0
          cases hp : placeO cur js (some i0) with
          | none =>
            rw [hp] at e1
            refine ite2 (fun _ => kF (by rw [hww]; exact walkW_stop ho hp) _ (s1.trans s2)) (fun z => ?_)
            exact absurd (by show (!inV (V.int i0) (placesV (letL cur js wd))) = true; rw [e1]; rfl) z
          | some p =>
            rw [hp] at e1
            obtain ⟨c, e, hc, hcj⟩ := placeO_lt hp
            have hpl : p < cur.length := (List.getElem?_eq_some_iff.mp hc).1
            have e0 : i0 = (p : Int) := Option.some.inj e
            subst e0
            refine ite2 (fun z => ?_) (fun z => ?_)
            · have z' : (!inV (V.int (p : Int)) (placesV (letL cur js wd))) = true := z
              rw [e1] at z'
              refine kF ?_ _ (s1.trans s2)
              rw [hww]
              exact walkW_not ho hp (by simpa using z')
            · have z' : ¬ (!inV (V.int (p : Int)) (placesV (letL cur js wd))) = true := z
              rw [e1] at z'
              refine ⟨_, rfl, _, rfl, cur, p, rfl, by omega, hpl, ?_⟩
              refine ⟨_, swapL cur p, rfl, s1.trans s2, by rw [swapL_len hpl]; exact hcl, ?_⟩
              rw [hww]
              exact walkW_step ho hp (by simpa using z')
        | bl b =>
          refine ⟨_, rfl, _, _, _, _, _, rfl, ClsV.ty "int", .base (.bl _), kit_ty (by decide +kernel), true, rfl, iteF ?_⟩
          exact ⟨_, rfl, _, _, _, _, _, rfl, ClsV.ty "bool", .base (.bl _), kit_ty (by decide +kernel), true, rfl, iteT (iteT (kF (nos rfl) _ s1))⟩
        | non => exact ⟨_, rfl, _, _, _, _, _, rfl, ClsV.ty "int", .base .non, kit_ty (by decide +kernel), false, rfl, iteT (iteT (kF (nos rfl) _ s1))⟩
        | str x => exact ⟨_, rfl, _, _, _, _, _, rfl, ClsV.ty "int", .base (.str _), kit_ty (by decide +kernel), false, rfl, iteT (iteT (kF (nos rfl) _ s1))⟩
        | tup ht => exact ⟨_, rfl, _, _, _, _, _, rfl, ClsV.ty "int", .base (.tup (s1 _ _ ht)), kit_ty (by decide +kernel), false, rfl, iteT (iteT (kF (nos rfl) _ s1))⟩
        | lst ht => exact ⟨_, rfl, _, _, _, _, _, rfl, ClsV.ty "int", .base (.lst (s1 _ _ ht)), kit_ty (by decide +kernel), false, rfl, iteT (iteT (kF (nos rfl) _ s1))⟩
      rintro σ H1 ⟨pv, cur, rfl, s1, hcl, hww⟩
      rw [hx.1, walkW_end] at hww
      have q := k H1 s1
      rw [show roadW js wd l (some os) = true from hww] at q
      exact q
/-! check_joints -/
def sp_check_joints : Sp := fun vs H Q _ => ∃ l : List Nat, vs = [.str (S l)] ∧ l.length ≤ 50000 ∧ jointsB l = true ∧ ∀ H', Same H H' → Q .non H'
theorem ok_check_joints (T : Txt K mg) : FnOk P w K mg base CX0 3 T.f_check_joints T.fd_check_joints P_check_joints (sp_check_joints) := by
  have nd : N_check_joints.Nodup := sc_check_joints.nd
  refine T.F_check_joints.ok sc_check_joints (fun vs H Q E h => ?_) (fun cdv A outer s H vs Q E hr h => ?_)
  · obtain ⟨l, rfl, _⟩ := h
    rfl
  · obtain ⟨l, rfl, hl, hw, k⟩ := h
    refine ⟨_, (pss_one (ps_if (pt_not (pt_val (pe_call (ok_is_joints T) (hr.mono (by decide)) rfl T.m_is_joints T.F_is_joints.kp T.b_is_joints .nil pass0 (pa_cons (pv 0) pa_nil)))) pss_never pss_nil)), ?_⟩
    refine ⟨_, rfl, l, rfl, hl, fun H1 s1 => ⟨_, rfl, ?_⟩⟩
    rw [hw]
    exact iteF (k _ s1)
/-! _walked -/
def sp__walked : Sp := fun vs H Q _ => ∃ (l js r : List Nat) (v : Addr), vs = [.str (S l), .str (S js), .ref v] ∧ H v = some (.lst (placesV r)) ∧ l.length ≤ 50000 ∧ r.length ≤ 50000 ∧ IsRoad js l r ∧ ∀ m H', H m = none → Same H H' → H' m = some (.lst (wordsV (pass l r))) → Q (.ref m) H'
theorem ok__walked (T : Txt K mg) : FnOk P w K mg base CX0 3 T.f__walked T.fd__walked P__walked (sp__walked) := by
  have nd : N__walked.Nodup := sc__walked.nd
  refine T.F__walked.ok sc__walked (fun vs H Q E h => ?_) (fun cdv A outer s H vs Q E hr h => ?_)
  · obtain ⟨l, js, r, v, rfl, _⟩ := h
    rfl
  · obtain ⟨l, js, r, v, rfl, hv, hl, hr2, ok, k⟩ := h
    refine ⟨_, (pss_cons (ps_if (pt_not (pt_val (pe_callB call_isi (by rfl) T.z_isinstance (by decide +kernel) (pa_cons (pv 2) (pa_cons (pe_bltn (v := .ty "list") (by rfl) T.z_list (by decide +kernel) rfl) pa_nil))))) (pss_one (ps_ret pe_non)) pss_nil)
      (pss_cons (ps_set (i := 3) nd rfl (Or.inl rfl) (pe_lst (pa_cons (pv 0) pa_nil)))
      (pss_cons (ps_for PassesOwn.never rfl (pi_list (pv 2)) (pg_name (i := 4) nd rfl (Or.inl rfl))
      (pss_cons (ps_if (pt_not (pt_val (pe_call (ok__is_open T) (hr.mono (by decide)) rfl T.m__is_open T.F__is_open.kp T.b__is_open .nil pass0 (pa_cons (pe_ix ix_list (pv 3) (pe_un un_neg pe_int) (fun _ _ => rfl)) (pa_cons (pv 1) (pa_cons (pv 4) pa_nil)))))) (pss_one (ps_ret pe_non)) pss_nil)
      (pss_one (ps_expr (pe_bm PySem.F.plainAttrs_list PySem.F.slot_list_append PySem.F.type_list_append mt_append (pv 3) (pa_cons (pe_call (ok_sides_changed T) (hr.mono (by decide)) rfl T.m_sides_changed T.F_sides_changed.kp T.b_sides_changed .nil pass0 (pa_cons (pe_ix ix_list (pv 3) (pe_un un_neg pe_int) (fun _ _ => rfl)) (pa_cons (pv 4) pa_nil))) pa_nil))))))
      (pss_one (ps_ret (pv 3)))))), ?_⟩
    refine ⟨_, rfl, _, _, _, _, _, rfl, ClsV.ty "list", .base (.lst hv), kit_ty (by decide +kernel), true, rfl, iteF ?_⟩
    refine ⟨_, rfl, (by show 1 ≤ sizeLine; decide), fun m hm => ?_⟩
    refine ⟨_, rfl, v, rfl, ⟨_, SqL.of (Same.upd hm _ _ hv)⟩, for_list (K := K) (a := v) (xs := placesV r) (fun i σ H' => ∃ pv : Option V, σ = [some (.str (S l)), some (.str (S js)), some (.ref v), some (.ref m), pv] ∧ Same H H' ∧ H' m = some (.lst (wordsV (pass l (r.take i))))) ⟨none, rfl, Same.upd hm, upd_same⟩ (fun i σ H' _ ⟨_, _, s, _⟩ => SqL.of (s _ _ hv)) ?_ ?_⟩
    · rintro i y σ H1 hi ⟨pv, rfl, s1, d1⟩
      obtain ⟨p, hp, rfl⟩ := place_of hi
      obtain ⟨c, hc, hcj⟩ := road_at ok hp
      have hil : i < r.length := (List.getElem?_eq_some_iff.mp hp).1
      have hel := ends_len (road_lt (road_take (i := i) ok))
      have hlast : atI (wordsV (pass l (r.take i))) (-1) = some (V.str (S (ends l (r.take i)))) := last_word rfl
      refine ⟨_, rfl, _, rfl, m, _, _, _, rfl, rfl, SqL.of d1, hlast, _, rfl, _, rfl, ends l (r.take i), js, p, c, rfl, by rw [hel]; exact hl, hc, _, rfl, ?_⟩
      rw [decide_eq_true hcj]
      refine iteF ?_
      refine ⟨_, rfl, .inl ⟨rfl, _, SqL.of d1⟩, _, rfl, _, rfl, m, _, _, _, rfl, rfl, SqL.of d1, hlast, _, rfl, ends l (r.take i), p, rfl, by rw [hel]; exact hl, (List.getElem?_eq_some_iff.mp hc).1, m, _, _, rfl, rfl, d1, ?_, ?_⟩
      · rw [List.length_map, pass_len, List.length_take]; exact small_line (by omega)
      refine ⟨_, rfl, fun b o e => ?_, ?_⟩
      · rw [upd_ne (ne_of_none e hm)]; exact s1 b o e
      · rw [upd_same, pass_take hp, ends_take hp]; simp [wordsV]
    rintro σ H1 ⟨pv, rfl, s1, d1⟩
    rw [List.length_map, List.take_length] at d1
    exact ⟨_, rfl, k m H1 hm s1 d1⟩
/-! _walked -/
def sp__walked_any : Sp := fun vs H Q _ => ∃ (l js : List Nat) (v : V) (o : Option (List (Option Int))), vs = [.str (S l), .str (S js), v] ∧ Val H v o ∧ l.length ≤ 50000 ∧ (∀ os, o = some os → os.length ≤ 50000) ∧ (roadB js l o = false → ∀ H', Same H H' → Q .non H') ∧ (roadB js l o = true → ∀ m H', H m = none → Same H H' → Q (.ref m) H')
theorem ok__walked_any (T : Txt K mg) : FnOk P w K mg base CX0 3 T.f__walked T.fd__walked P__walked (sp__walked_any) := by
  have nd : N__walked.Nodup := sc__walked.nd
  refine T.F__walked.ok sc__walked (fun vs H Q E h => ?_) (fun cdv A outer s H vs Q E hr h => ?_)
  · obtain ⟨l, js, v, o, rfl, _⟩ := h
    rfl
  · obtain ⟨l, js, v, o, rfl, hv, hl, hol, kN, kY⟩ := h
    refine ⟨_, (pss_cons (ps_if (pt_not (pt_val (pe_callB call_isi (by rfl) T.z_isinstance (by decide +kernel) (pa_cons (pv 2) (pa_cons (pe_bltn (v := .ty "list") (by rfl) T.z_list (by decide +kernel) rfl) pa_nil))))) (pss_one (ps_ret pe_non)) pss_nil)
      (pss_cons (ps_set (i := 3) nd rfl (Or.inl rfl) (pe_lst (pa_cons (pv 0) pa_nil)))
      (pss_cons (ps_for PassesOwn.never rfl (pi_list (pv 2)) (pg_name (i := 4) nd rfl (Or.inl rfl))
      (pss_cons (ps_if (pt_not (pt_val (pe_call (ok__is_open_any T) (hr.mono (by decide)) rfl T.m__is_open T.F__is_open.kp T.b__is_open .nil pass0 (pa_cons (pe_ix ix_list (pv 3) (pe_un un_neg pe_int) (fun _ _ => rfl)) (pa_cons (pv 1) (pa_cons (pv 4) pa_nil)))))) (pss_one (ps_ret pe_non)) pss_nil)
      (pss_one (ps_expr (pe_bm PySem.F.plainAttrs_list PySem.F.slot_list_append PySem.F.type_list_append mt_append (pv 3) (pa_cons (pe_call (ok_sides_changed T) (hr.mono (by decide)) rfl T.m_sides_changed T.F_sides_changed.kp T.b_sides_changed .nil pass0 (pa_cons (pe_ix ix_list (pv 3) (pe_un un_neg pe_int) (fun _ _ => rfl)) (pa_cons (pv 4) pa_nil))) pa_nil))))))
      (pss_one (ps_ret (pv 3)))))), ?_⟩
    cases hv with
    | tup ht => exact ⟨_, rfl, _, _, _, _, _, rfl, ClsV.ty "list", .base (.tup ht), kit_ty (by decide +kernel), false, rfl, iteT (kN rfl _ fun _ _ e => e)⟩
    | dic ht => exact ⟨_, rfl, _, _, _, _, _, rfl, ClsV.ty "list", .base (.dK ht), kit_ty (by decide +kernel), false, rfl, iteT (kN rfl _ fun _ _ e => e)⟩
    | int i => exact ⟨_, rfl, _, _, _, _, _, rfl, ClsV.ty "list", .base (.int _), kit_ty (by decide +kernel), false, rfl, iteT (kN rfl _ fun _ _ e => e)⟩
    | bl b => exact ⟨_, rfl, _, _, _, _, _, rfl, ClsV.ty "list", .base (.bl _), kit_ty (by decide +kernel), false, rfl, iteT (kN rfl _ fun _ _ e => e)⟩
    | non => exact ⟨_, rfl, _, _, _, _, _, rfl, ClsV.ty "list", .base .non, kit_ty (by decide +kernel), false, rfl, iteT (kN rfl _ fun _ _ e => e)⟩
    | str s => exact ⟨_, rfl, _, _, _, _, _, rfl, ClsV.ty "list", .base (.str _), kit_ty (by decide +kernel), false, rfl, iteT (kN rfl _ fun _ _ e => e)⟩
    | @lst v xs os ht hx =>
      have hos := hol os rfl
      refine ⟨_, rfl, _, _, _, _, _, rfl, ClsV.ty "list", .base (.lst ht), kit_ty (by decide +kernel), true, rfl, iteF ?_⟩
      refine ⟨_, rfl, (by show 1 ≤ sizeLine; decide), fun m hm => ?_⟩
      refine ⟨_, rfl, v, rfl, ⟨_, SqL.of (Same.upd hm _ _ ht)⟩, for_list (K := K) (a := v) (xs := xs) (fun i σ H' => ∃ (pv : Option V) (ys : List V) (cur : List Nat), σ = [some (.str (S l)), some (.str (S js)), some (.ref v), some (.ref m), pv] ∧ Same H H' ∧ H' m = some (.lst (ys ++ [V.str (S cur)])) ∧ ys.length = i ∧ cur.length = l.length ∧ walkO js l os = walkO js cur (os.drop i)) ⟨none, [], l, rfl, Same.upd hm, upd_same, rfl, rfl, rfl⟩ (fun i σ H' _ ⟨_, _, _, _, s, _⟩ => SqL.of (s _ _ ht)) ?_ ?_⟩
      · rintro i y σ H1 hi ⟨pv, ys, cur, rfl, s1, d1, hyl, hcl, hw⟩
        obtain ⟨o, ho, hit⟩ := hx.2 i y hi
        have hil : i < os.length := (List.getElem?_eq_some_iff.mp ho).1
        refine ⟨_, rfl, _, rfl, m, _, _, _, rfl, rfl, SqL.of d1, atI_snoc, _, rfl, _, rfl, cur, js, y, o, rfl, by rw [hcl]; exact hl, hit.same s1, _, rfl, ?_⟩
        cases hp : placeO cur js o with
        | none =>
          rw [walkO_stop ho hp] at hw
          exact iteT (kN hw _ s1)
        | some p =>
          obtain ⟨c, rfl, hc, hcj⟩ := placeO_lt hp
          cases hit
          rw [walkO_step ho hp] at hw
          have hpl : p < cur.length := (List.getElem?_eq_some_iff.mp hc).1
          refine iteF ?_
          refine ⟨_, rfl, .inl ⟨rfl, _, SqL.of d1⟩, _, rfl, _, rfl, m, _, _, _, rfl, rfl, SqL.of d1, atI_snoc, _, rfl, cur, p, rfl, by rw [hcl]; exact hl, hpl, m, _, _, rfl, rfl, d1, ?_, ?_⟩
          · rw [List.length_append, hyl]; exact small_line (by simp; omega)
          refine ⟨_, ys ++ [V.str (S cur)], swapL cur p, rfl, fun b o e => ?_, upd_same, ?_, ?_, hw⟩
          · rw [upd_ne (ne_of_none e hm)]; exact s1 b o e
          · rw [List.length_append, hyl]; rfl
          · rw [swapL_len hpl, hcl]
      rintro σ H1 ⟨pv, ys, cur, rfl, s1, d1, hyl, hcl, hw⟩
      rw [hx.1, walkO_end] at hw
      exact ⟨_, rfl, kY hw m H1 hm s1⟩
/-! _law_letters -/
def sp__law_letters : Sp := fun vs H Q _ => ∃ (g : Addr) (b : Nat), vs = [.ref g] ∧ GenAt H g b ∧ b ≤ 800000000 ∧ ∀ (t : Addr) (js bd : List Nat) H', H' t = some (.tup [.str (S js), .str (S bd)]) → 0 < js.length → js.length ≤ 6 → bd.length ≤ 3 → (∀ c ∈ js ++ bd, 97 ≤ c ∧ c ≤ 122) → js.Pairwise (· < ·) → But g H H' → GenAt H' g (b + 10) → Q (.ref t) H'
theorem ok__law_letters (T : Txt K mg) : FnOk P w K mg base CX0 3 T.f__law_letters T.fd__law_letters P__law_letters (sp__law_letters) := by
  have nd : N__law_letters.Nodup := sc__law_letters.nd
  refine T.F__law_letters.ok sc__law_letters (fun vs H Q E h => ?_) (fun cdv A outer s H vs Q E hr h => ?_)
  · obtain ⟨g, b, rfl, _⟩ := h
    rfl
  · obtain ⟨g, b, rfl, G, hb, k⟩ := h
    refine ⟨_, (pss_one (ps_ret (pe_ix ix_list (pe_lst (pa_cons (pe_tup (pa_cons pe_str (pa_cons pe_str pa_nil))) (pa_cons (pe_tup (pa_cons pe_str (pa_cons pe_str pa_nil))) (pa_cons (pe_tup (pa_cons pe_str (pa_cons pe_str pa_nil))) (pa_cons (pe_tup (pa_cons pe_str (pa_cons pe_str pa_nil))) (pa_cons (pe_tup (pa_cons pe_str (pa_cons pe_str pa_nil))) (pa_cons (pe_tup (pa_cons pe_str (pa_cons pe_str pa_nil))) (pa_cons (pe_tup (pa_cons pe_str (pa_cons pe_str pa_nil))) pa_nil)))))))) (pe_call (ok__law_random T) (hr.mono (by decide)) rfl T.m__law_random T.F__law_random.kp T.b__law_random .nil pass0 (pa_cons (pv 0) (pa_cons pe_int pa_nil))) (fun _ _ => rfl)))), ?_⟩
    refine ⟨(by show 2 ≤ sizeLine; decide), ?_⟩
    intro t1 hn_t1
    generalize hX_t1 : L2.upd _ t1 _ = H1
    have s_t1 := alloc_same hX_t1 hn_t1
    have d_t1 := alloc_at hX_t1
    refine ⟨(by show 2 ≤ sizeLine; decide), ?_⟩
    intro t2 hn_t2
    generalize hX_t2 : L2.upd _ t2 _ = H2
    have s_t2 := alloc_same hX_t2 hn_t2
    have d_t2 := alloc_at hX_t2
    refine ⟨(by show 2 ≤ sizeLine; decide), ?_⟩
    intro t3 hn_t3
    generalize hX_t3 : L2.upd _ t3 _ = H3
    have s_t3 := alloc_same hX_t3 hn_t3
    have d_t3 := alloc_at hX_t3
    refine ⟨(by show 2 ≤ sizeLine; decide), ?_⟩
    intro t4 hn_t4
    generalize hX_t4 : L2.upd _ t4 _ = H4
    have s_t4 := alloc_same hX_t4 hn_t4
    have d_t4 := alloc_at hX_t4
    refine ⟨(by show 2 ≤ sizeLine; decide), ?_⟩
    intro t5 hn_t5
    generalize hX_t5 : L2.upd _ t5 _ = H5
    have s_t5 := alloc_same hX_t5 hn_t5
    have d_t5 := alloc_at hX_t5
    refine ⟨(by show 2 ≤ sizeLine; decide), ?_⟩
    intro t6 hn_t6
    generalize hX_t6 : L2.upd _ t6 _ = H6
    have s_t6 := alloc_same hX_t6 hn_t6
    have d_t6 := alloc_at hX_t6
    refine ⟨(by show 2 ≤ sizeLine; decide), ?_⟩
    intro t7 hn_t7
    generalize hX_t7 : L2.upd _ t7 _ = H7
    have s_t7 := alloc_same hX_t7 hn_t7
    have d_t7 := alloc_at hX_t7
    refine ⟨(by show 7 ≤ sizeLine; decide), ?_⟩
    intro m hn_m
    generalize hX_m : L2.upd _ m _ = H8
    have s_m := alloc_same hX_m hn_m
    have d_m := alloc_at hX_m
    have e1 : H8 t1 = some (.tup [V.str (Str.ofString "x"), V.str (Str.ofString "a")]) := (by (first | assumption | exact upd_same | (refine Same.at (by assumption) ?_; (first | assumption | exact upd_same | (refine Same.at (by assumption) ?_; (first | assumption | exact upd_same | (refine Same.at (by assumption) ?_; (first | assumption | exact upd_same | (refine Same.at (by assumption) ?_; (first | assumption | exact upd_same | (refine Same.at (by assumption) ?_; (first | assumption | exact upd_same | (refine Same.at (by assumption) ?_; (first | assumption | exact upd_same | (refine Same.at (by assumption) ?_; (first | assumption | exact upd_same | (refine Same.at (by assumption) ?_; (first | assumption | exact upd_same | (refine Same.at (by assumption) ?_; (first | assumption | exact upd_same | (refine Same.at (by assumption) ?_; (first | assumption | exact upd_same | (refine Same.at (by assumption) ?_; (first | assumption | exact upd_same | (refine Same.at (by assumption) ?_; (first | assumption | exact upd_same | (refine Same.at (by assumption) ?_; (first | assumption | exact upd_same | (refine Same.at (by assumption) ?_; (first | assumption | exact upd_same))))))))))))))))))))))))))))))
    have e2 : H8 t2 = some (.tup [V.str (Str.ofString "xy"), V.str (Str.ofString "ab")]) := (by (first | assumption | exact upd_same | (refine Same.at (by assumption) ?_; (first | assumption | exact upd_same | (refine Same.at (by assumption) ?_; (first | assumption | exact upd_same | (refine Same.at (by assumption) ?_; (first | assumption | exact upd_same | (refine Same.at (by assumption) ?_; (first | assumption | exact upd_same | (refine Same.at (by assumption) ?_; (first | assumption | exact upd_same | (refine Same.at (by assumption) ?_; (first | assumption | exact upd_same | (refine Same.at (by assumption) ?_; (first | assumption | exact upd_same | (refine Same.at (by assumption) ?_; (first | assumption | exact upd_same | (refine Same.at (by assumption) ?_; (first | assumption | exact upd_same | (refine Same.at (by assumption) ?_; (first | assumption | exact upd_same | (refine Same.at (by assumption) ?_; (first | assumption | exact upd_same | (refine Same.at (by assumption) ?_; (first | assumption | exact upd_same | (refine Same.at (by assumption) ?_; (first | assumption | exact upd_same | (refine Same.at (by assumption) ?_; (first | assumption | exact upd_same))))))))))))))))))))))))))))))
    have e3 : H8 t3 = some (.tup [V.str (Str.ofString "bdz"), V.str (Str.ofString "cy")]) := (by (first | assumption | exact upd_same | (refine Same.at (by assumption) ?_; (first | assumption | exact upd_same | (refine Same.at (by assumption) ?_; (first | assumption | exact upd_same | (refine Same.at (by assumption) ?_; (first | assumption | exact upd_same | (refine Same.at (by assumption) ?_; (first | assumption | exact upd_same | (refine Same.at (by assumption) ?_; (first | assumption | exact upd_same | (refine Same.at (by assumption) ?_; (first | assumption | exact upd_same | (refine Same.at (by assumption) ?_; (first | assumption | exact upd_same | (refine Same.at (by assumption) ?_; (first | assumption | exact upd_same | (refine Same.at (by assumption) ?_; (first | assumption | exact upd_same | (refine Same.at (by assumption) ?_; (first | assumption | exact upd_same | (refine Same.at (by assumption) ?_; (first | assumption | exact upd_same | (refine Same.at (by assumption) ?_; (first | assumption | exact upd_same | (refine Same.at (by assumption) ?_; (first | assumption | exact upd_same | (refine Same.at (by assumption) ?_; (first | assumption | exact upd_same))))))))))))))))))))))))))))))
    have e4 : H8 t4 = some (.tup [V.str (Str.ofString "uvwxyz"), V.str (Str.ofString "a")]) := (by (first | assumption | exact upd_same | (refine Same.at (by assumption) ?_; (first | assumption | exact upd_same | (refine Same.at (by assumption) ?_; (first | assumption | exact upd_same | (refine Same.at (by assumption) ?_; (first | assumption | exact upd_same | (refine Same.at (by assumption) ?_; (first | assumption | exact upd_same | (refine Same.at (by assumption) ?_; (first | assumption | exact upd_same | (refine Same.at (by assumption) ?_; (first | assumption | exact upd_same | (refine Same.at (by assumption) ?_; (first | assumption | exact upd_same | (refine Same.at (by assumption) ?_; (first | assumption | exact upd_same | (refine Same.at (by assumption) ?_; (first | assumption | exact upd_same | (refine Same.at (by assumption) ?_; (first | assumption | exact upd_same | (refine Same.at (by assumption) ?_; (first | assumption | exact upd_same | (refine Same.at (by assumption) ?_; (first | assumption | exact upd_same | (refine Same.at (by assumption) ?_; (first | assumption | exact upd_same | (refine Same.at (by assumption) ?_; (first | assumption | exact upd_same))))))))))))))))))))))))))))))
    have e5 : H8 t5 = some (.tup [V.str (Str.ofString "xy"), V.str (Str.ofString "")]) := (by (first | assumption | exact upd_same | (refine Same.at (by assumption) ?_; (first | assumption | exact upd_same | (refine Same.at (by assumption) ?_; (first | assumption | exact upd_same | (refine Same.at (by assumption) ?_; (first | assumption | exact upd_same | (refine Same.at (by assumption) ?_; (first | assumption | exact upd_same | (refine Same.at (by assumption) ?_; (first | assumption | exact upd_same | (refine Same.at (by assumption) ?_; (first | assumption | exact upd_same | (refine Same.at (by assumption) ?_; (first | assumption | exact upd_same | (refine Same.at (by assumption) ?_; (first | assumption | exact upd_same | (refine Same.at (by assumption) ?_; (first | assumption | exact upd_same | (refine Same.at (by assumption) ?_; (first | assumption | exact upd_same | (refine Same.at (by assumption) ?_; (first | assumption | exact upd_same | (refine Same.at (by assumption) ?_; (first | assumption | exact upd_same | (refine Same.at (by assumption) ?_; (first | assumption | exact upd_same | (refine Same.at (by assumption) ?_; (first | assumption | exact upd_same))))))))))))))))))))))))))))))
    have e6 : H8 t6 = some (.tup [V.str (Str.ofString "mq"), V.str (Str.ofString "npz")]) := (by (first | assumption | exact upd_same | (refine Same.at (by assumption) ?_; (first | assumption | exact upd_same | (refine Same.at (by assumption) ?_; (first | assumption | exact upd_same | (refine Same.at (by assumption) ?_; (first | assumption | exact upd_same | (refine Same.at (by assumption) ?_; (first | assumption | exact upd_same | (refine Same.at (by assumption) ?_; (first | assumption | exact upd_same | (refine Same.at (by assumption) ?_; (first | assumption | exact upd_same | (refine Same.at (by assumption) ?_; (first | assumption | exact upd_same | (refine Same.at (by assumption) ?_; (first | assumption | exact upd_same | (refine Same.at (by assumption) ?_; (first | assumption | exact upd_same | (refine Same.at (by assumption) ?_; (first | assumption | exact upd_same | (refine Same.at (by assumption) ?_; (first | assumption | exact upd_same | (refine Same.at (by assumption) ?_; (first | assumption | exact upd_same | (refine Same.at (by assumption) ?_; (first | assumption | exact upd_same | (refine Same.at (by assumption) ?_; (first | assumption | exact upd_same))))))))))))))))))))))))))))))
    have e7 : H8 t7 = some (.tup [V.str (Str.ofString "acxyz"), V.str (Str.ofString "b")]) := (by (first | assumption | exact upd_same | (refine Same.at (by assumption) ?_; (first | assumption | exact upd_same | (refine Same.at (by assumption) ?_; (first | assumption | exact upd_same | (refine Same.at (by assumption) ?_; (first | assumption | exact upd_same | (refine Same.at (by assumption) ?_; (first | assumption | exact upd_same | (refine Same.at (by assumption) ?_; (first | assumption | exact upd_same | (refine Same.at (by assumption) ?_; (first | assumption | exact upd_same | (refine Same.at (by assumption) ?_; (first | assumption | exact upd_same | (refine Same.at (by assumption) ?_; (first | assumption | exact upd_same | (refine Same.at (by assumption) ?_; (first | assumption | exact upd_same | (refine Same.at (by assumption) ?_; (first | assumption | exact upd_same | (refine Same.at (by assumption) ?_; (first | assumption | exact upd_same | (refine Same.at (by assumption) ?_; (first | assumption | exact upd_same | (refine Same.at (by assumption) ?_; (first | assumption | exact upd_same | (refine Same.at (by assumption) ?_; (first | assumption | exact upd_same))))))))))))))))))))))))))))))
    have sAll : Same H H8 := ((((((s_t1.trans s_t2).trans s_t3).trans s_t4).trans s_t5).trans s_t6).trans s_t7).trans s_m
    have nm : m ≠ g := (((((((G.same s_t1).same s_t2).same s_t3).same s_t4).same s_t5).same s_t6).same s_t7).ne hn_m
    have n1 : t1 ≠ g := (G).ne hn_t1
    have n2 : t2 ≠ g := ((G).same s_t1).ne hn_t2
    have n3 : t3 ≠ g := (((G).same s_t1).same s_t2).ne hn_t3
    have n4 : t4 ≠ g := ((((G).same s_t1).same s_t2).same s_t3).ne hn_t4
    have n5 : t5 ≠ g := (((((G).same s_t1).same s_t2).same s_t3).same s_t4).ne hn_t5
    have n6 : t6 ≠ g := ((((((G).same s_t1).same s_t2).same s_t3).same s_t4).same s_t5).ne hn_t6
    have n7 : t7 ≠ g := (((((((G).same s_t1).same s_t2).same s_t3).same s_t4).same s_t5).same s_t6).ne hn_t7
    refine ⟨_, rfl, g, _, b, rfl, G.same sAll, by omega, by decide, by decide, fun r H9 r0 r1 b9 G9 => ?_⟩
    have B9 : But g H H9 := (But.same sAll).trans b9
    have d9 := b9 _ _ nm d_m
    have hr : r = 0 ∨ r = 1 ∨ r = 2 ∨ r = 3 ∨ r = 4 ∨ r = 5 ∨ r = 6 := by omega
    rcases hr with rfl | rfl | rfl | rfl | rfl | rfl | rfl
    · exact ⟨m, _, _, _, rfl, rfl, SqL.of d9, rfl, k t1 [120] [97] _ ((b9 _ _ n1 e1).trans (tupS (by decide +kernel) (by decide +kernel))) (by decide) (by decide) (by decide) (by decide) (by decide) B9 G9⟩
    · exact ⟨m, _, _, _, rfl, rfl, SqL.of d9, rfl, k t2 [120, 121] [97, 98] _ ((b9 _ _ n2 e2).trans (tupS (by decide +kernel) (by decide +kernel))) (by decide) (by decide) (by decide) (by decide) (by decide) B9 G9⟩
    · exact ⟨m, _, _, _, rfl, rfl, SqL.of d9, rfl, k t3 [98, 100, 122] [99, 121] _ ((b9 _ _ n3 e3).trans (tupS (by decide +kernel) (by decide +kernel))) (by decide) (by decide) (by decide) (by decide) (by decide) B9 G9⟩
    · exact ⟨m, _, _, _, rfl, rfl, SqL.of d9, rfl, k t4 [117, 118, 119, 120, 121, 122] [97] _ ((b9 _ _ n4 e4).trans (tupS (by decide +kernel) (by decide +kernel))) (by decide) (by decide) (by decide) (by decide) (by decide) B9 G9⟩
    · exact ⟨m, _, _, _, rfl, rfl, SqL.of d9, rfl, k t5 [120, 121] [] _ ((b9 _ _ n5 e5).trans (tupS (by decide +kernel) (by decide +kernel))) (by decide) (by decide) (by decide) (by decide) (by decide) B9 G9⟩
    · exact ⟨m, _, _, _, rfl, rfl, SqL.of d9, rfl, k t6 [109, 113] [110, 112, 122] _ ((b9 _ _ n6 e6).trans (tupS (by decide +kernel) (by decide +kernel))) (by decide) (by decide) (by decide) (by decide) (by decide) B9 G9⟩
    · exact ⟨m, _, _, _, rfl, rfl, SqL.of d9, rfl, k t7 [97, 99, 120, 121, 122] [98] _ ((b9 _ _ n7 e7).trans (tupS (by decide +kernel) (by decide +kernel))) (by decide) (by decide) (by decide) (by decide) (by decide) B9 G9⟩
/-! _law_word -/
def sp__law_word : Sp := fun vs H Q _ => ∃ (g : Addr) (l : List Nat) (n b : Nat), vs = [.ref g, .str (S l), .int (n : Int)] ∧ GenAt H g b ∧ b + 10 * n ≤ 900000000 ∧ 0 < l.length ∧ l.length ≤ 50000 ∧ n ≤ 50000 ∧ ∀ (ws : List Nat) H', ws.length = n → (∀ c ∈ ws, c ∈ l) → But g H H' → GenAt H' g (b + 10 * n) → Q (.str (S ws)) H'
theorem ok__law_word (T : Txt K mg) : FnOk P w K mg base CX0 3 T.f__law_word T.fd__law_word P__law_word (sp__law_word) := by
  have nd : N__law_word.Nodup := sc__law_word.nd
  refine T.F__law_word.ok sc__law_word (fun vs H Q E h => ?_) (fun cdv A outer s H vs Q E hr h => ?_)
  · obtain ⟨g, l, n, b, rfl, _⟩ := h
    rfl
  · obtain ⟨g, l, n, b, rfl, G, hb, hl0, hl, hn, k⟩ := h
    refine ⟨_, (pss_cons (ps_set (i := 3) nd rfl (Or.inl rfl) pe_str)
      (pss_cons (ps_for PassesOwn.never rfl (pi_range1 rfl T.z_range (pa_cons (pv 2) pa_nil)) (pg_name (i := 4) nd rfl (Or.inl rfl))
      (pss_one (ps_set (i := 3) nd rfl (Or.inl rfl) (pe_op op_add_str (pv 3) (pe_item_str (pv 1) (pe_call (ok__law_random T) (hr.mono (by decide)) rfl T.m__law_random T.F__law_random.kp T.b__law_random .nil pass0 (pa_cons (pv 0) (pa_cons (pe_callB call_len (by rfl) T.z_len (by decide +kernel) (pa_cons (pv 1) pa_nil)) pa_nil))) (fun _ _ => rfl))))))
      (pss_one (ps_ret (pv 3))))), ?_⟩
    refine ⟨_, rfl, _, rfl, by omega, by omega, ?_⟩
    rw [Int.toNat_natCast]
    refine for_range (lo := 0) (n := n) (fun i σ H' => ∃ (ws : List Nat) (v : Option V), σ = [some (.ref g), some (.str (S l)), some (.int (n : Nat)), some (.str (S ws)), v] ∧ ws.length = i ∧ (∀ c ∈ ws, c ∈ l) ∧ But g H H' ∧ GenAt H' g (b + 10 * i)) ⟨[], none, rfl, rfl, fun c h => (nomatch h), But.refl _ _, G⟩ ?_ ?_
    · rintro i σ H2 hi ⟨ws, v, rfl, hl2, hm, b2, G2⟩
      refine ⟨_, rfl, _, rfl, _, rfl, _, rfl, _, l.length, rfl, ⟨by rw [len_S]; exact small_le (by omega), by rw [len_S]⟩, g, _, b + 10 * i, rfl, G2, by omega, by omega, Nat.lt_of_le_of_lt (by omega : (l.length : Int).natAbs ≤ 50000) (by decide), fun r H3 r0 r1 b3 G3 => ?_⟩
      have hr : r.toNat < l.length := by omega
      refine ⟨S l, r, l[r.toNat], rfl, rfl, r0, by omega, by rw [len_S]; omega, by rw [at_S]; exact List.getElem?_eq_getElem hr, ?_⟩
      refine ⟨_, S [l[r.toNat]], rfl, rfl, ?_, ?_⟩
      · rw [len_S, len_S]; exact small_le (by simp; omega)
      rw [SX.S_cat]
      refine ⟨ws ++ [l[r.toNat]], _, rfl, by simp [hl2], fun c hc => ?_, b2.trans b3, G3.mono (by omega)⟩
      rcases List.mem_append.mp hc with hc | hc
      · exact hm c hc
      · rw [List.mem_singleton.mp hc]; exact List.getElem_mem hr
    rintro σ H2 ⟨ws, v, rfl, hl2, hm, b2, G2⟩
    exact ⟨_, rfl, k ws H2 hl2 hm b2 G2⟩
/-! _law_widths -/
def sp__law_widths : Sp := fun vs H Q _ => ∃ (g : Addr) (n b : Nat), vs = [.ref g, .int (n : Int)] ∧ GenAt H g b ∧ b + 10 * n ≤ 900000000 ∧ n ≤ 50000 ∧ ∀ (wa : Addr) (wd : List Nat) H', WidthsOk wd → wd.length ≤ n → H wa = none → But g H H' → GenAt H' g (b + 10 * n) → H' wa = some (.lst (placesV wd)) → Q (.ref wa) H'
theorem ok__law_widths (T : Txt K mg) : FnOk P w K mg base CX0 3 T.f__law_widths T.fd__law_widths P__law_widths (sp__law_widths) := by
  have nd : N__law_widths.Nodup := sc__law_widths.nd
  refine T.F__law_widths.ok sc__law_widths (fun vs H Q E h => ?_) (fun cdv A outer s H vs Q E hr h => ?_)
  · obtain ⟨g, n, b, rfl, _⟩ := h
    rfl
  · obtain ⟨g, n, b, rfl, G, hb, hn, k⟩ := h
    refine ⟨_, (pss_one (ps_ret (pe_lc (own := [("_law_width", 2)]) (hc := rfl) (hN := nd) (pi_range2 rfl T.z_range (pa_cons pe_int (pa_cons (pe_op op_add (pv 1) pe_int) pa_nil))) (blkOk_by (N := N__law_widths) (sc := defScope s__law_widths) (by decide +kernel)) (fun _ _ _ _ _ => by exact (pg_name (i := 2) nd rfl (Or.inl rfl))) (fun _ _ _ _ _ => by exact (pts_one (pt_cmpR op_eq (pe_call (ok__law_random T) (hr.mono (by decide)) rfl T.m__law_random T.F__law_random.kp T.b__law_random .nil pass0 (pa_cons (pv 0) (pa_cons pe_int pa_nil))) pe_int (nomark _)))) (fun _ _ _ _ _ => by exact (pv 2))))), ?_⟩
    refine ⟨_, rfl, _, _, rfl, rfl, _, _, rfl, ⟨by omega, by omega, by omega, by omega⟩, fun D hD => ?_⟩
    rw [show ((n : Int) + 1 - 1).toNat = n by omega]
    have nD : D ≠ g := G.ne hD
    refine lc_it walk_range (fun i H' => But g H H' ∧ GenAt H' g (b + 10 * i) ∧ ∃ wd : List Nat, WidthsOk wd ∧ wd.length ≤ i ∧ (∀ w ∈ wd, w ≤ i) ∧ H' D = some (.lst (placesV wd))) ⟨But.same (Same.upd hD), G.new hD, [], ⟨fun _ h => (nomatch h), List.Pairwise.nil⟩, Nat.le_refl _, fun _ h => (nomatch h), upd_same⟩ (fun _ _ _ _ => trivial) ?_ ?_
    · rintro i x H1 H2 hi ⟨b1, G1, wd, ok, hwl, hwm, d1⟩ ⟨rfl, rfl⟩
      refine ⟨rfl, _, rfl, g, _, b + 10 * i, rfl, G1, by omega, by decide, by decide, fun r H3 r0 r1 b3 G3 => ?_⟩
      refine ⟨rfl, _, rfl, ite2 (fun q => ?_) (fun q => ?_)⟩
      · have e1 : ((1 : Int) + (i : Nat)) = ((i + 1 : Nat) : Int) := by omega
        refine ⟨_, rfl, _, b3 _ _ nD d1, ?_, fun c o ne e => ?_, G3.off nD (by omega), wd ++ [i + 1], ⟨fun w hw => ?_, ?_⟩, by simp; omega, fun w hw => ?_, ?_⟩
        · rw [List.length_map]; exact small_line (by omega)
        · rw [upd_ne (ne_of_none e hD)]; exact (b1.trans b3) c o ne e
        · rcases List.mem_append.mp hw with hw | hw
          · exact ok.1 w hw
          · rw [List.mem_singleton.mp hw]; omega
        · refine List.pairwise_append.mpr ⟨ok.2, List.pairwise_singleton _ _, fun c hc d hd => ?_⟩
          rw [List.mem_singleton.mp hd]
          have := hwm c hc
          omega
        · rcases List.mem_append.mp hw with hw | hw
          · have := hwm w hw; omega
          · rw [List.mem_singleton.mp hw]; omega
        · rw [upd_same]; simp [placesV]; omega
      · exact ⟨b1.trans b3, G3.mono (by omega), wd, ok, by omega, fun w hw => by have := hwm w hw; omega, b3 _ _ nD d1⟩
    rintro H1 ⟨b1, G1, wd, ok, hwl, hwm, d1⟩
    exact k D wd H1 ok hwl hD b1 G1 d1
/-! _law_drawn_road -/
def sp__law_drawn_road : Sp := fun vs H Q _ => ∃ (g : Addr) (l js wd : List Nat) (wa : Addr) (n b : Nat), vs = [.ref g, .str (S l), .str (S js), .ref wa, .int (n : Int)] ∧ GenAt H g b ∧ b + 10 * n ≤ 900000000 ∧ H wa = some (.lst (placesV wd)) ∧ wa ≠ g ∧ l.length ≤ 300 ∧ n ≤ 50000 ∧ ∀ (r : List Nat) (v t : Addr) H', IsRoad js l r → (∀ p ∈ r, letB l.length wd p = true) → r.length ≤ n → H v = none → But g H H' → GenAt H' g (b + 10 * n) → H' v = some (.lst (placesV r)) → H' t = some (.tup [.ref v, .str (S (ends l r))]) → Q (.ref t) H'
theorem ok__law_drawn_road (T : Txt K mg) : FnOk P w K mg base CX0 3 T.f__law_drawn_road T.fd__law_drawn_road P__law_drawn_road (sp__law_drawn_road) := by
  have nd : N__law_drawn_road.Nodup := sc__law_drawn_road.nd
  refine T.F__law_drawn_road.ok sc__law_drawn_road (fun vs H Q E h => ?_) (fun cdv A outer s H vs Q E hr h => ?_)
  · obtain ⟨g, l, js, wd, wa, n, b, rfl, _⟩ := h
    rfl
  · obtain ⟨g, l, js, wd, wa, n, b, rfl, G, hb, hw, nwg, hl, hn, k⟩ := h
    refine ⟨_, (pss_cons (ps_set (i := 5) nd rfl (Or.inl rfl) (pe_lst pa_nil))
      (pss_cons (ps_for PassesOwn.never rfl (pi_range1 rfl T.z_range (pa_cons (pv 4) pa_nil)) (pg_name (i := 6) nd rfl (Or.inl rfl))
      (pss_cons (ps_set (i := 7) nd rfl (Or.inl rfl) (pe_call (ok__law_let T) (hr.mono (by decide)) rfl T.m__law_let T.F__law_let.kp T.b__law_let .nil pass0 (pa_cons (pv 1) (pa_cons (pv 2) (pa_cons (pv 3) pa_nil)))))
      (pss_one (ps_if (pt_cmpR (op_neD hr.units) (pv 7) (pe_lst pa_nil) (nomark _)) (pss_cons (ps_expr (pe_bm PySem.F.plainAttrs_list PySem.F.slot_list_append PySem.F.type_list_append mt_append (pv 5) (pa_cons (pe_ix ix_list (pv 7) (pe_call (ok__law_random T) (hr.mono (by decide)) rfl T.m__law_random T.F__law_random.kp T.b__law_random .nil pass0 (pa_cons (pv 0) (pa_cons (pe_callB call_len_seq (by rfl) T.z_len (by decide +kernel) (pa_cons (pv 7) pa_nil)) pa_nil))) (fun _ _ => rfl)) pa_nil)))
      (pss_one (ps_set (i := 1) nd rfl (Or.inl rfl) (pe_call (ok__law_swapped T) (hr.mono (by decide)) rfl T.m__law_swapped T.F__law_swapped.kp T.b__law_swapped .nil pass0 (pa_cons (pv 1) (pa_cons (pe_ix ix_list (pv 5) (pe_un un_neg pe_int) (fun _ _ => rfl)) pa_nil)))))) pss_nil))))
      (pss_one (ps_ret (pe_tup (pa_cons (pv 5) (pa_cons (pv 1) pa_nil))))))), ?_⟩
    refine ⟨(by show 0 ≤ sizeLine; decide), fun v hv => ?_⟩
    have nvg : v ≠ g := G.ne hv
    have s1 := Same.upd (o := HO.lst []) hv
    have d1 : (upd H v (.lst [])) v = some (.lst (placesV [])) := upd_same
    generalize upd H v (.lst []) = H1 at s1 d1
    refine ⟨_, rfl, _, rfl, by omega, by omega, ?_⟩
    rw [Int.toNat_natCast]
    refine for_range (lo := 0) (n := n) (fun i σ H' => ∃ (r : List Nat) (w1 w2 : Option V), σ = [some (.ref g), some (.str (S (ends l r))), some (.str (S js)), some (.ref wa), some (.int (n : Nat)), some (.ref v), w1, w2] ∧ IsRoad js l r ∧ (∀ p ∈ r, letB l.length wd p = true) ∧ r.length ≤ i ∧ But g H H' ∧ GenAt H' g (b + 10 * i) ∧ H' v = some (.lst (placesV r))) ⟨[], none, none, rfl, trivial, fun _ h => (nomatch h), Nat.le_refl _, But.same s1, G.same s1, d1⟩ ?_ ?_
    · rintro i σ H2 hi ⟨r, w1, w2, rfl, rd, hlb, hrl, b2, G2, d2⟩
      have hel : (ends l r).length = l.length := ends_len (road_lt rd)
      have hw2 := b2 _ _ nwg hw
      refine ⟨_, rfl, _, rfl, _, rfl, ends l r, js, wd, wa, rfl, hw2, by omega, fun D H3 hD s3 d3 => ?_⟩
      have hol := letL_len (ends l r) js wd
      refine ⟨_, rfl, (by show 0 ≤ sizeLine; decide), fun p hp => ?_⟩
      have s4 : Same H2 (upd H3 p (.lst [])) := s3.trans (Same.upd hp)
      have d4 := Same.upd (o := HO.lst []) hp _ _ d3
      have hpe : (upd H3 p (.lst [])) p = some (.lst []) := upd_same
      generalize upd H3 p (.lst []) = H4 at s4 d4 hpe
      refine places_ne_nil (SqL.of d4) (SqL.of hpe) ⟨_, rfl, ite2 (fun z => ?_) (fun z => ?_)⟩
      · have hpos : 0 < (letL (ends l r) js wd).length := by
          cases e : letL (ends l r) js wd with
          | nil => rw [e] at z; cases z
          | cons _ _ => simp
        have G4 := G2.same s4
        have nDg : D ≠ g := G2.ne hD
        refine ⟨_, rfl, .inl ⟨rfl, _, SqL.of (s4 _ _ d2)⟩, _, rfl, _, rfl, _, rfl, D, _, rfl, .inl (SqL.of d4), ?_⟩
        refine ⟨g, _, b + 10 * i, rfl, G4, by omega, by rw [List.length_map]; omega, Nat.lt_of_le_of_lt (by rw [List.length_map]; omega : (((placesV (letL (ends l r) js wd)).length : Nat) : Int).natAbs ≤ 50000) (by decide), fun q H5 q0 q1 b5 G5 => ?_⟩
        rw [List.length_map] at q1
        have hq : q.toNat < (letL (ends l r) js wd).length := by omega
        generalize hp0 : (letL (ends l r) js wd)[q.toNat] = p0
        have hm0 : p0 ∈ letL (ends l r) js wd := by rw [← hp0]; exact List.getElem_mem hq
        obtain ⟨⟨c, hc, hcj⟩, hlet⟩ := mem_letL.mp hm0
        have hpl : p0 < (ends l r).length := (List.getElem?_eq_some_iff.mp hc).1
        refine ⟨D, _, _, V.int (p0 : Nat), rfl, rfl, SqL.of (b5 _ _ nDg d4), at_of (j := q.toNat) (by omega) (by rw [List.getElem?_map, List.getElem?_eq_getElem hq, hp0]; rfl), ?_⟩
        have d5 := b5 _ _ nvg (s4 _ _ d2)
        refine ⟨v, _, _, rfl, rfl, d5, by rw [List.length_map]; exact small_line (by omega), ?_⟩
        have d6 : (upd H5 v (.lst (placesV r ++ [V.int (p0 : Nat)]))) v = some (.lst (placesV (r ++ [p0]))) := by rw [upd_same]; simp [placesV]
        have G6 : GenAt (upd H5 v (.lst (placesV r ++ [V.int (p0 : Nat)]))) g (b + 10 * (i + 1)) := G5.off nvg (by omega)
        have b6 : But g H (upd H5 v (.lst (placesV r ++ [V.int (p0 : Nat)]))) := But.own (b2.trans ((But.same s4).trans b5)) hv
        generalize upd H5 v (.lst (placesV r ++ [V.int (p0 : Nat)])) = H6 at d6 G6 b6
        refine ⟨_, rfl, _, rfl, _, rfl, v, _, _, V.int (p0 : Nat), rfl, rfl, SqL.of d6, at_last (by rw [List.length_map]; simp [placesV]), ?_⟩
        refine ⟨ends l r, p0, rfl, by omega, hpl, ?_⟩
        rw [← ends_snoc]
        refine ⟨r ++ [p0], _, _, rfl, road_append.mpr ⟨rd, ⟨c, hc, hcj⟩, trivial⟩, fun p hp => ?_, by simp; omega, b6, G6, d6⟩
        rcases List.mem_append.mp hp with hp | hp
        · exact hlb p hp
        · rw [List.mem_singleton.mp hp, ← hel]; exact hlet
      · exact ⟨r, _, _, rfl, rd, hlb, by omega, b2.trans (But.same s4), (G2.same s4).mono (by omega), s4 _ _ d2⟩
    rintro σ H2 ⟨r, w1, w2, rfl, rd, hlb, hrl, b2, G2, d2⟩
    refine ⟨_, rfl, _, rfl, (by show 2 ≤ sizeLine; decide), fun t ht => ?_⟩
    exact k r v t _ rd hlb hrl hv (b2.trans (But.same (Same.upd ht))) (G2.new ht) (Same.upd ht _ _ d2) upd_same
/-! _law_bent -/
def sp__law_bent (K : PySem.W.Frag) : Sp := fun vs H Q _ => ∃ (g v : Addr) (r : List Nat) (n b : Nat), vs = [.ref g, .ref v, .int (n : Int)] ∧ GenAt H g b ∧ b ≤ 800000000 ∧ H v = some (.lst (placesV r)) ∧ v ≠ g ∧ r.length ≤ 60 ∧ n ≤ 300 ∧ ∀ (m : Addr) (us : List V) H', H m = none → But g H H' → GenAt H' g (b + 100) → H' m = some (.lst us) → us.length ≤ 100 → (∀ u ∈ us, Far g H' u) → Q (.ref m) H'
theorem ok__law_bent (T : Txt K mg) : FnOk P w K mg base CX0 3 T.f__law_bent T.fd__law_bent P__law_bent (sp__law_bent K) := by
  have nd : N__law_bent.Nodup := sc__law_bent.nd
  refine T.F__law_bent.ok sc__law_bent (fun vs H Q E h => ?_) (fun cdv A outer s H vs Q E hr h => ?_)
  · obtain ⟨g, v, r, n, b, rfl, _⟩ := h
    rfl
  · obtain ⟨g, v, r, n, b, rfl, G, hb, hv, hvg, hrl, hn, k⟩ := h
    refine ⟨_, (pss_cons (ps_set (i := 3) nd rfl (Or.inl rfl) (pe_lst (pa_cons pe_non (pa_cons (pe_callTy call_tuple_of (by rfl) T.z_tuple (by decide +kernel) (pa_cons (pv 1) pa_nil)) (pa_cons (pe_op op_cat (pv 1) (pe_lst (pa_cons (pv 2) pa_nil))) (pa_cons (pe_op op_cat (pv 1) (pe_lst (pa_cons (pe_un un_neg pe_int) pa_nil))) (pa_cons (pe_op op_cat (pv 1) (pe_lst (pa_cons pe_non pa_nil))) (pa_cons (pe_op op_cat (pv 1) (pe_lst (pa_cons pe_bl pa_nil))) (pa_cons (pe_op op_cat (pv 1) (pe_lst (pa_cons pe_str pa_nil))) (pa_cons pe_dnewK (pa_cons pe_str (pa_cons pe_int (pa_cons (pe_lst (pa_cons (pv 1) pa_nil)) pa_nil)))))))))))))
      (pss_cons (ps_for PassesOwn.never rfl (pi_range1 rfl T.z_range (pa_cons (pe_callB (call_min2 rfl) (by rfl) T.z_min (by decide +kernel) (pa_cons (pv 2) (pa_cons pe_int pa_nil))) pa_nil)) (pg_name (i := 4) nd rfl (Or.inl rfl))
      (pss_cons (ps_set (i := 5) nd rfl (Or.inl rfl) (pe_call (ok__law_random T) (hr.mono (by decide)) rfl T.m__law_random T.F__law_random.kp T.b__law_random .nil pass0 (pa_cons (pv 0) (pa_cons (pv 2) pa_nil))))
      (pss_one (ps_set (i := 3) nd rfl (Or.inl rfl) (pe_op op_cat (pv 3) (pe_lst (pa_cons (pe_op op_cat (pv 1) (pe_lst (pa_cons (pv 5) pa_nil))) (pa_cons (pe_op op_cat (pe_lst (pa_cons (pv 5) pa_nil)) (pv 1)) pa_nil))))))))
      (pss_cons (ps_if (pt_cmpR (op_neD hr.units) (pv 1) (pe_lst pa_nil) (nomark _)) (pss_cons (ps_set (i := 6) nd rfl (Or.inl rfl) (pe_call (ok__law_random T) (hr.mono (by decide)) rfl T.m__law_random T.F__law_random.kp T.b__law_random .nil pass0 (pa_cons (pv 0) (pa_cons (pe_callB call_len_seq (by rfl) T.z_len (by decide +kernel) (pa_cons (pv 1) pa_nil)) pa_nil))))
      (pss_one (ps_set (i := 3) nd rfl (Or.inl rfl) (pe_op op_cat (pv 3) (pe_lst (pa_cons (pe_op op_cat (pe_slice sl_list (pv 1) po_none (po_some (pv 6))) (pe_slice sl_list (pv 1) (po_some (pe_op op_add (pv 6) pe_int)) po_none)) (pa_cons (pe_revS (pv 1) (pe_un un_neg pe_int)) (pa_cons (pe_op op_cat (pe_op op_cat (pe_slice sl_list (pv 1) po_none (po_some (pv 6))) (pe_lst (pa_cons (pe_lst (pa_cons (pe_ix ix_list (pv 1) (pv 6) (fun _ _ => rfl)) pa_nil)) pa_nil))) (pe_slice sl_list (pv 1) (po_some (pe_op op_add (pv 6) pe_int)) po_none)) pa_nil)))))))) pss_nil)
      (pss_one (ps_ret (pv 3)))))), ?_⟩
    refine ⟨_, rfl, v, _, rfl, .inl ⟨SqL.of hv, ?_⟩⟩
    intro p1 hn_p1
    generalize hX_p1 : L2.upd _ p1 _ = H1
    have s_p1 := alloc_same hX_p1 hn_p1
    have d_p1 := alloc_at hX_p1
    refine ⟨_, rfl, _, rfl, (by show 1 ≤ sizeLine; decide), ?_⟩
    intro p2 hn_p2
    generalize hX_p2 : L2.upd _ p2 _ = H2
    have s_p2 := alloc_same hX_p2 hn_p2
    have d_p2 := alloc_at hX_p2
    refine ⟨v, p2, _, _, rfl, rfl, (by (first | assumption | exact upd_same | (refine Same.at (by assumption) ?_; (first | assumption | exact upd_same | (refine Same.at (by assumption) ?_; (first | assumption | exact upd_same | (refine Same.at (by assumption) ?_; (first | assumption | exact upd_same | (refine Same.at (by assumption) ?_; (first | assumption | exact upd_same | (refine Same.at (by assumption) ?_; (first | assumption | exact upd_same | (refine Same.at (by assumption) ?_; (first | assumption | exact upd_same | (refine Same.at (by assumption) ?_; (first | assumption | exact upd_same | (refine Same.at (by assumption) ?_; (first | assumption | exact upd_same | (refine Same.at (by assumption) ?_; (first | assumption | exact upd_same | (refine Same.at (by assumption) ?_; (first | assumption | exact upd_same | (refine Same.at (by assumption) ?_; (first | assumption | exact upd_same | (refine Same.at (by assumption) ?_; (first | assumption | exact upd_same | (refine Same.at (by assumption) ?_; (first | assumption | exact upd_same | (refine Same.at (by assumption) ?_; (first | assumption | exact upd_same)))))))))))))))))))))))))))))), (by (first | assumption | exact upd_same | (refine Same.at (by assumption) ?_; (first | assumption | exact upd_same | (refine Same.at (by assumption) ?_; (first | assumption | exact upd_same | (refine Same.at (by assumption) ?_; (first | assumption | exact upd_same | (refine Same.at (by assumption) ?_; (first | assumption | exact upd_same | (refine Same.at (by assumption) ?_; (first | assumption | exact upd_same | (refine Same.at (by assumption) ?_; (first | assumption | exact upd_same | (refine Same.at (by assumption) ?_; (first | assumption | exact upd_same | (refine Same.at (by assumption) ?_; (first | assumption | exact upd_same | (refine Same.at (by assumption) ?_; (first | assumption | exact upd_same | (refine Same.at (by assumption) ?_; (first | assumption | exact upd_same | (refine Same.at (by assumption) ?_; (first | assumption | exact upd_same | (refine Same.at (by assumption) ?_; (first | assumption | exact upd_same | (refine Same.at (by assumption) ?_; (first | assumption | exact upd_same | (refine Same.at (by assumption) ?_; (first | assumption | exact upd_same)))))))))))))))))))))))))))))), ?_, ?_⟩
    · rw [List.length_map]; exact small_le (by simp; omega)
    intro p3 hn_p3
    generalize hX_p3 : L2.upd _ p3 _ = H3
    have s_p3 := alloc_same hX_p3 hn_p3
    have d_p3 := alloc_at hX_p3
    refine ⟨_, rfl, _, rfl, (by show 1 ≤ sizeLine; decide), ?_⟩
    intro p4 hn_p4
    generalize hX_p4 : L2.upd _ p4 _ = H4
    have s_p4 := alloc_same hX_p4 hn_p4
    have d_p4 := alloc_at hX_p4
    refine ⟨v, p4, _, _, rfl, rfl, (by (first | assumption | exact upd_same | (refine Same.at (by assumption) ?_; (first | assumption | exact upd_same | (refine Same.at (by assumption) ?_; (first | assumption | exact upd_same | (refine Same.at (by assumption) ?_; (first | assumption | exact upd_same | (refine Same.at (by assumption) ?_; (first | assumption | exact upd_same | (refine Same.at (by assumption) ?_; (first | assumption | exact upd_same | (refine Same.at (by assumption) ?_; (first | assumption | exact upd_same | (refine Same.at (by assumption) ?_; (first | assumption | exact upd_same | (refine Same.at (by assumption) ?_; (first | assumption | exact upd_same | (refine Same.at (by assumption) ?_; (first | assumption | exact upd_same | (refine Same.at (by assumption) ?_; (first | assumption | exact upd_same | (refine Same.at (by assumption) ?_; (first | assumption | exact upd_same | (refine Same.at (by assumption) ?_; (first | assumption | exact upd_same | (refine Same.at (by assumption) ?_; (first | assumption | exact upd_same | (refine Same.at (by assumption) ?_; (first | assumption | exact upd_same)))))))))))))))))))))))))))))), (by (first | assumption | exact upd_same | (refine Same.at (by assumption) ?_; (first | assumption | exact upd_same | (refine Same.at (by assumption) ?_; (first | assumption | exact upd_same | (refine Same.at (by assumption) ?_; (first | assumption | exact upd_same | (refine Same.at (by assumption) ?_; (first | assumption | exact upd_same | (refine Same.at (by assumption) ?_; (first | assumption | exact upd_same | (refine Same.at (by assumption) ?_; (first | assumption | exact upd_same | (refine Same.at (by assumption) ?_; (first | assumption | exact upd_same | (refine Same.at (by assumption) ?_; (first | assumption | exact upd_same | (refine Same.at (by assumption) ?_; (first | assumption | exact upd_same | (refine Same.at (by assumption) ?_; (first | assumption | exact upd_same | (refine Same.at (by assumption) ?_; (first | assumption | exact upd_same | (refine Same.at (by assumption) ?_; (first | assumption | exact upd_same | (refine Same.at (by assumption) ?_; (first | assumption | exact upd_same | (refine Same.at (by assumption) ?_; (first | assumption | exact upd_same)))))))))))))))))))))))))))))), ?_, ?_⟩
    · rw [List.length_map]; exact small_le (by simp; omega)
    intro p5 hn_p5
    generalize hX_p5 : L2.upd _ p5 _ = H5
    have s_p5 := alloc_same hX_p5 hn_p5
    have d_p5 := alloc_at hX_p5
    refine ⟨_, rfl, (by show 1 ≤ sizeLine; decide), ?_⟩
    intro p6 hn_p6
    generalize hX_p6 : L2.upd _ p6 _ = H6
    have s_p6 := alloc_same hX_p6 hn_p6
    have d_p6 := alloc_at hX_p6
    refine ⟨v, p6, _, _, rfl, rfl, (by (first | assumption | exact upd_same | (refine Same.at (by assumption) ?_; (first | assumption | exact upd_same | (refine Same.at (by assumption) ?_; (first | assumption | exact upd_same | (refine Same.at (by assumption) ?_; (first | assumption | exact upd_same | (refine Same.at (by assumption) ?_; (first | assumption | exact upd_same | (refine Same.at (by assumption) ?_; (first | assumption | exact upd_same | (refine Same.at (by assumption) ?_; (first | assumption | exact upd_same | (refine Same.at (by assumption) ?_; (first | assumption | exact upd_same | (refine Same.at (by assumption) ?_; (first | assumption | exact upd_same | (refine Same.at (by assumption) ?_; (first | assumption | exact upd_same | (refine Same.at (by assumption) ?_; (first | assumption | exact upd_same | (refine Same.at (by assumption) ?_; (first | assumption | exact upd_same | (refine Same.at (by assumption) ?_; (first | assumption | exact upd_same | (refine Same.at (by assumption) ?_; (first | assumption | exact upd_same | (refine Same.at (by assumption) ?_; (first | assumption | exact upd_same)))))))))))))))))))))))))))))), (by (first | assumption | exact upd_same | (refine Same.at (by assumption) ?_; (first | assumption | exact upd_same | (refine Same.at (by assumption) ?_; (first | assumption | exact upd_same | (refine Same.at (by assumption) ?_; (first | assumption | exact upd_same | (refine Same.at (by assumption) ?_; (first | assumption | exact upd_same | (refine Same.at (by assumption) ?_; (first | assumption | exact upd_same | (refine Same.at (by assumption) ?_; (first | assumption | exact upd_same | (refine Same.at (by assumption) ?_; (first | assumption | exact upd_same | (refine Same.at (by assumption) ?_; (first | assumption | exact upd_same | (refine Same.at (by assumption) ?_; (first | assumption | exact upd_same | (refine Same.at (by assumption) ?_; (first | assumption | exact upd_same | (refine Same.at (by assumption) ?_; (first | assumption | exact upd_same | (refine Same.at (by assumption) ?_; (first | assumption | exact upd_same | (refine Same.at (by assumption) ?_; (first | assumption | exact upd_same | (refine Same.at (by assumption) ?_; (first | assumption | exact upd_same)))))))))))))))))))))))))))))), ?_, ?_⟩
    · rw [List.length_map]; exact small_le (by simp; omega)
    intro p7 hn_p7
    generalize hX_p7 : L2.upd _ p7 _ = H7
    have s_p7 := alloc_same hX_p7 hn_p7
    have d_p7 := alloc_at hX_p7
    refine ⟨_, rfl, (by show 1 ≤ sizeLine; decide), ?_⟩
    intro p8 hn_p8
    generalize hX_p8 : L2.upd _ p8 _ = H8
    have s_p8 := alloc_same hX_p8 hn_p8
    have d_p8 := alloc_at hX_p8
    refine ⟨v, p8, _, _, rfl, rfl, (by (first | assumption | exact upd_same | (refine Same.at (by assumption) ?_; (first | assumption | exact upd_same | (refine Same.at (by assumption) ?_; (first | assumption | exact upd_same | (refine Same.at (by assumption) ?_; (first | assumption | exact upd_same | (refine Same.at (by assumption) ?_; (first | assumption | exact upd_same | (refine Same.at (by assumption) ?_; (first | assumption | exact upd_same | (refine Same.at (by assumption) ?_; (first | assumption | exact upd_same | (refine Same.at (by assumption) ?_; (first | assumption | exact upd_same | (refine Same.at (by assumption) ?_; (first | assumption | exact upd_same | (refine Same.at (by assumption) ?_; (first | assumption | exact upd_same | (refine Same.at (by assumption) ?_; (first | assumption | exact upd_same | (refine Same.at (by assumption) ?_; (first | assumption | exact upd_same | (refine Same.at (by assumption) ?_; (first | assumption | exact upd_same | (refine Same.at (by assumption) ?_; (first | assumption | exact upd_same | (refine Same.at (by assumption) ?_; (first | assumption | exact upd_same)))))))))))))))))))))))))))))), (by (first | assumption | exact upd_same | (refine Same.at (by assumption) ?_; (first | assumption | exact upd_same | (refine Same.at (by assumption) ?_; (first | assumption | exact upd_same | (refine Same.at (by assumption) ?_; (first | assumption | exact upd_same | (refine Same.at (by assumption) ?_; (first | assumption | exact upd_same | (refine Same.at (by assumption) ?_; (first | assumption | exact upd_same | (refine Same.at (by assumption) ?_; (first | assumption | exact upd_same | (refine Same.at (by assumption) ?_; (first | assumption | exact upd_same | (refine Same.at (by assumption) ?_; (first | assumption | exact upd_same | (refine Same.at (by assumption) ?_; (first | assumption | exact upd_same | (refine Same.at (by assumption) ?_; (first | assumption | exact upd_same | (refine Same.at (by assumption) ?_; (first | assumption | exact upd_same | (refine Same.at (by assumption) ?_; (first | assumption | exact upd_same | (refine Same.at (by assumption) ?_; (first | assumption | exact upd_same | (refine Same.at (by assumption) ?_; (first | assumption | exact upd_same)))))))))))))))))))))))))))))), ?_, ?_⟩
    · rw [List.length_map]; exact small_le (by simp; omega)
    intro p9 hn_p9
    generalize hX_p9 : L2.upd _ p9 _ = H9
    have s_p9 := alloc_same hX_p9 hn_p9
    have d_p9 := alloc_at hX_p9
    refine ⟨_, rfl, (by show 1 ≤ sizeLine; decide), ?_⟩
    intro p10 hn_p10
    generalize hX_p10 : L2.upd _ p10 _ = H10
    have s_p10 := alloc_same hX_p10 hn_p10
    have d_p10 := alloc_at hX_p10
    refine ⟨v, p10, _, _, rfl, rfl, (by (first | assumption | exact upd_same | (refine Same.at (by assumption) ?_; (first | assumption | exact upd_same | (refine Same.at (by assumption) ?_; (first | assumption | exact upd_same | (refine Same.at (by assumption) ?_; (first | assumption | exact upd_same | (refine Same.at (by assumption) ?_; (first | assumption | exact upd_same | (refine Same.at (by assumption) ?_; (first | assumption | exact upd_same | (refine Same.at (by assumption) ?_; (first | assumption | exact upd_same | (refine Same.at (by assumption) ?_; (first | assumption | exact upd_same | (refine Same.at (by assumption) ?_; (first | assumption | exact upd_same | (refine Same.at (by assumption) ?_; (first | assumption | exact upd_same | (refine Same.at (by assumption) ?_; (first | assumption | exact upd_same | (refine Same.at (by assumption) ?_; (first | assumption | exact upd_same | (refine Same.at (by assumption) ?_; (first | assumption | exact upd_same | (refine Same.at (by assumption) ?_; (first | assumption | exact upd_same | (refine Same.at (by assumption) ?_; (first | assumption | exact upd_same)))))))))))))))))))))))))))))), (by (first | assumption | exact upd_same | (refine Same.at (by assumption) ?_; (first | assumption | exact upd_same | (refine Same.at (by assumption) ?_; (first | assumption | exact upd_same | (refine Same.at (by assumption) ?_; (first | assumption | exact upd_same | (refine Same.at (by assumption) ?_; (first | assumption | exact upd_same | (refine Same.at (by assumption) ?_; (first | assumption | exact upd_same | (refine Same.at (by assumption) ?_; (first | assumption | exact upd_same | (refine Same.at (by assumption) ?_; (first | assumption | exact upd_same | (refine Same.at (by assumption) ?_; (first | assumption | exact upd_same | (refine Same.at (by assumption) ?_; (first | assumption | exact upd_same | (refine Same.at (by assumption) ?_; (first | assumption | exact upd_same | (refine Same.at (by assumption) ?_; (first | assumption | exact upd_same | (refine Same.at (by assumption) ?_; (first | assumption | exact upd_same | (refine Same.at (by assumption) ?_; (first | assumption | exact upd_same | (refine Same.at (by assumption) ?_; (first | assumption | exact upd_same)))))))))))))))))))))))))))))), ?_, ?_⟩
    · rw [List.length_map]; exact small_le (by simp; omega)
    intro p11 hn_p11
    generalize hX_p11 : L2.upd _ p11 _ = H11
    have s_p11 := alloc_same hX_p11 hn_p11
    have d_p11 := alloc_at hX_p11
    intro p12 hn_p12
    generalize hX_p12 : L2.upd _ p12 _ = H12
    have s_p12 := alloc_same hX_p12 hn_p12
    have d_p12 := alloc_at hX_p12
    refine ⟨_, rfl, (by show 1 ≤ sizeLine; decide), ?_⟩
    intro p13 hn_p13
    generalize hX_p13 : L2.upd _ p13 _ = H13
    have s_p13 := alloc_same hX_p13 hn_p13
    have d_p13 := alloc_at hX_p13
    refine ⟨(by show 11 ≤ sizeLine; decide), ?_⟩
    intro m hn_m
    generalize hX_m : L2.upd _ m _ = H14
    have s_m := alloc_same hX_m hn_m
    have d_m := alloc_at hX_m
    have B14 : But g H H14 := (((((((((((((But.same s_p1).trans (But.same s_p2)).trans (But.same s_p3)).trans (But.same s_p4)).trans (But.same s_p5)).trans (But.same s_p6)).trans (But.same s_p7)).trans (But.same s_p8)).trans (But.same s_p9)).trans (But.same s_p10)).trans (But.same s_p11)).trans (But.same s_p12)).trans (But.same s_p13)).trans (But.same s_m)
    have G1 := G.same s_p1
    have G2 := G1.same s_p2
    have G3 := G2.same s_p3
    have G4 := G3.same s_p4
    have G5 := G4.same s_p5
    have G6 := G5.same s_p6
    have G7 := G6.same s_p7
    have G8 := G7.same s_p8
    have G9 := G8.same s_p9
    have G10 := G9.same s_p10
    have G11 := G10.same s_p11
    have G12 := G11.same s_p12
    have G13 := G12.same s_p13
    have G14 := G13.same s_m
    have far0 : ∀ u ∈ [V.non, V.ref p1, V.ref p3, V.ref p5, V.ref p7, V.ref p9, V.ref p11, V.ref p12, V.str (Str.ofString "road"), V.int 0, V.ref p13], Far g H14 u := by
      intro u hu
      simp only [List.mem_cons, List.not_mem_nil, or_false] at hu
      rcases hu with rfl | rfl | rfl | rfl | rfl | rfl | rfl | rfl | rfl | rfl | rfl
      · exact Far.non
      · exact Far.tup (xs := placesV r) (by (first | assumption | exact upd_same | (refine Same.at (by assumption) ?_; (first | assumption | exact upd_same | (refine Same.at (by assumption) ?_; (first | assumption | exact upd_same | (refine Same.at (by assumption) ?_; (first | assumption | exact upd_same | (refine Same.at (by assumption) ?_; (first | assumption | exact upd_same | (refine Same.at (by assumption) ?_; (first | assumption | exact upd_same | (refine Same.at (by assumption) ?_; (first | assumption | exact upd_same | (refine Same.at (by assumption) ?_; (first | assumption | exact upd_same | (refine Same.at (by assumption) ?_; (first | assumption | exact upd_same | (refine Same.at (by assumption) ?_; (first | assumption | exact upd_same | (refine Same.at (by assumption) ?_; (first | assumption | exact upd_same | (refine Same.at (by assumption) ?_; (first | assumption | exact upd_same | (refine Same.at (by assumption) ?_; (first | assumption | exact upd_same | (refine Same.at (by assumption) ?_; (first | assumption | exact upd_same | (refine Same.at (by assumption) ?_; (first | assumption | exact upd_same | (refine Same.at (by assumption) ?_; (first | assumption | exact upd_same | (refine Same.at (by assumption) ?_; (first | assumption | exact upd_same | (refine Same.at (by assumption) ?_; (first | assumption | exact upd_same | (refine Same.at (by assumption) ?_; (first | assumption | exact upd_same | (refine Same.at (by assumption) ?_; (first | assumption | exact upd_same | (refine Same.at (by assumption) ?_; (first | assumption | exact upd_same | (refine Same.at (by assumption) ?_; (first | assumption | exact upd_same | (refine Same.at (by assumption) ?_; (first | assumption | exact upd_same | (refine Same.at (by assumption) ?_; (first | assumption | exact upd_same | (refine Same.at (by assumption) ?_; (first | assumption | exact upd_same | (refine Same.at (by assumption) ?_; (first | assumption | exact upd_same | (refine Same.at (by assumption) ?_; (first | assumption | exact upd_same | (refine Same.at (by assumption) ?_; (first | assumption | exact upd_same | (refine Same.at (by assumption) ?_; (first | assumption | exact upd_same | (refine Same.at (by assumption) ?_; (first | assumption | exact upd_same | (refine Same.at (by assumption) ?_; (first | assumption | exact upd_same | (refine Same.at (by assumption) ?_; (first | assumption | exact upd_same | (refine Same.at (by assumption) ?_; (first | assumption | exact upd_same | (refine Same.at (by assumption) ?_; (first | assumption | exact upd_same | (refine Same.at (by assumption) ?_; (first | assumption | exact upd_same | (refine Same.at (by assumption) ?_; (first | assumption | exact upd_same | (refine Same.at (by assumption) ?_; (first | assumption | exact upd_same | (refine Same.at (by assumption) ?_; (first | assumption | exact upd_same | (refine Same.at (by assumption) ?_; (first | assumption | exact upd_same | (refine Same.at (by assumption) ?_; (first | assumption | exact upd_same | (refine Same.at (by assumption) ?_; (first | assumption | exact upd_same)))))))))))))))))))))))))))))))))))))))))))))))))))))))))))))))))))))))))))))))))) (G.ne hn_p1)
      · exact Far.lst (xs := placesV r ++ [V.int (n : Nat)]) (by (first | assumption | exact upd_same | (refine Same.at (by assumption) ?_; (first | assumption | exact upd_same | (refine Same.at (by assumption) ?_; (first | assumption | exact upd_same | (refine Same.at (by assumption) ?_; (first | assumption | exact upd_same | (refine Same.at (by assumption) ?_; (first | assumption | exact upd_same | (refine Same.at (by assumption) ?_; (first | assumption | exact upd_same | (refine Same.at (by assumption) ?_; (first | assumption | exact upd_same | (refine Same.at (by assumption) ?_; (first | assumption | exact upd_same | (refine Same.at (by assumption) ?_; (first | assumption | exact upd_same | (refine Same.at (by assumption) ?_; (first | assumption | exact upd_same | (refine Same.at (by assumption) ?_; (first | assumption | exact upd_same | (refine Same.at (by assumption) ?_; (first | assumption | exact upd_same | (refine Same.at (by assumption) ?_; (first | assumption | exact upd_same | (refine Same.at (by assumption) ?_; (first | assumption | exact upd_same | (refine Same.at (by assumption) ?_; (first | assumption | exact upd_same | (refine Same.at (by assumption) ?_; (first | assumption | exact upd_same | (refine Same.at (by assumption) ?_; (first | assumption | exact upd_same | (refine Same.at (by assumption) ?_; (first | assumption | exact upd_same | (refine Same.at (by assumption) ?_; (first | assumption | exact upd_same | (refine Same.at (by assumption) ?_; (first | assumption | exact upd_same | (refine Same.at (by assumption) ?_; (first | assumption | exact upd_same | (refine Same.at (by assumption) ?_; (first | assumption | exact upd_same | (refine Same.at (by assumption) ?_; (first | assumption | exact upd_same | (refine Same.at (by assumption) ?_; (first | assumption | exact upd_same | (refine Same.at (by assumption) ?_; (first | assumption | exact upd_same | (refine Same.at (by assumption) ?_; (first | assumption | exact upd_same | (refine Same.at (by assumption) ?_; (first | assumption | exact upd_same | (refine Same.at (by assumption) ?_; (first | assumption | exact upd_same | (refine Same.at (by assumption) ?_; (first | assumption | exact upd_same | (refine Same.at (by assumption) ?_; (first | assumption | exact upd_same | (refine Same.at (by assumption) ?_; (first | assumption | exact upd_same | (refine Same.at (by assumption) ?_; (first | assumption | exact upd_same | (refine Same.at (by assumption) ?_; (first | assumption | exact upd_same | (refine Same.at (by assumption) ?_; (first | assumption | exact upd_same | (refine Same.at (by assumption) ?_; (first | assumption | exact upd_same | (refine Same.at (by assumption) ?_; (first | assumption | exact upd_same | (refine Same.at (by assumption) ?_; (first | assumption | exact upd_same | (refine Same.at (by assumption) ?_; (first | assumption | exact upd_same | (refine Same.at (by assumption) ?_; (first | assumption | exact upd_same | (refine Same.at (by assumption) ?_; (first | assumption | exact upd_same | (refine Same.at (by assumption) ?_; (first | assumption | exact upd_same)))))))))))))))))))))))))))))))))))))))))))))))))))))))))))))))))))))))))))))))))) (G2.ne hn_p3) (fun H' _ => ⟨_, (Items.places r).append (.cons (.int _) .nil)⟩) (by simp [placesV]; omega)
      · exact Far.lst (xs := placesV r ++ [V.int (-1)]) (by (first | assumption | exact upd_same | (refine Same.at (by assumption) ?_; (first | assumption | exact upd_same | (refine Same.at (by assumption) ?_; (first | assumption | exact upd_same | (refine Same.at (by assumption) ?_; (first | assumption | exact upd_same | (refine Same.at (by assumption) ?_; (first | assumption | exact upd_same | (refine Same.at (by assumption) ?_; (first | assumption | exact upd_same | (refine Same.at (by assumption) ?_; (first | assumption | exact upd_same | (refine Same.at (by assumption) ?_; (first | assumption | exact upd_same | (refine Same.at (by assumption) ?_; (first | assumption | exact upd_same | (refine Same.at (by assumption) ?_; (first | assumption | exact upd_same | (refine Same.at (by assumption) ?_; (first | assumption | exact upd_same | (refine Same.at (by assumption) ?_; (first | assumption | exact upd_same | (refine Same.at (by assumption) ?_; (first | assumption | exact upd_same | (refine Same.at (by assumption) ?_; (first | assumption | exact upd_same | (refine Same.at (by assumption) ?_; (first | assumption | exact upd_same | (refine Same.at (by assumption) ?_; (first | assumption | exact upd_same | (refine Same.at (by assumption) ?_; (first | assumption | exact upd_same | (refine Same.at (by assumption) ?_; (first | assumption | exact upd_same | (refine Same.at (by assumption) ?_; (first | assumption | exact upd_same | (refine Same.at (by assumption) ?_; (first | assumption | exact upd_same | (refine Same.at (by assumption) ?_; (first | assumption | exact upd_same | (refine Same.at (by assumption) ?_; (first | assumption | exact upd_same | (refine Same.at (by assumption) ?_; (first | assumption | exact upd_same | (refine Same.at (by assumption) ?_; (first | assumption | exact upd_same | (refine Same.at (by assumption) ?_; (first | assumption | exact upd_same | (refine Same.at (by assumption) ?_; (first | assumption | exact upd_same | (refine Same.at (by assumption) ?_; (first | assumption | exact upd_same | (refine Same.at (by assumption) ?_; (first | assumption | exact upd_same | (refine Same.at (by assumption) ?_; (first | assumption | exact upd_same | (refine Same.at (by assumption) ?_; (first | assumption | exact upd_same | (refine Same.at (by assumption) ?_; (first | assumption | exact upd_same | (refine Same.at (by assumption) ?_; (first | assumption | exact upd_same | (refine Same.at (by assumption) ?_; (first | assumption | exact upd_same | (refine Same.at (by assumption) ?_; (first | assumption | exact upd_same | (refine Same.at (by assumption) ?_; (first | assumption | exact upd_same | (refine Same.at (by assumption) ?_; (first | assumption | exact upd_same | (refine Same.at (by assumption) ?_; (first | assumption | exact upd_same | (refine Same.at (by assumption) ?_; (first | assumption | exact upd_same | (refine Same.at (by assumption) ?_; (first | assumption | exact upd_same | (refine Same.at (by assumption) ?_; (first | assumption | exact upd_same | (refine Same.at (by assumption) ?_; (first | assumption | exact upd_same)))))))))))))))))))))))))))))))))))))))))))))))))))))))))))))))))))))))))))))))))) (G4.ne hn_p5) (fun H' _ => ⟨_, (Items.places r).append (.cons (.int _) .nil)⟩) (by simp [placesV]; omega)
      · exact Far.lst (xs := placesV r ++ [V.non]) (by (first | assumption | exact upd_same | (refine Same.at (by assumption) ?_; (first | assumption | exact upd_same | (refine Same.at (by assumption) ?_; (first | assumption | exact upd_same | (refine Same.at (by assumption) ?_; (first | assumption | exact upd_same | (refine Same.at (by assumption) ?_; (first | assumption | exact upd_same | (refine Same.at (by assumption) ?_; (first | assumption | exact upd_same | (refine Same.at (by assumption) ?_; (first | assumption | exact upd_same | (refine Same.at (by assumption) ?_; (first | assumption | exact upd_same | (refine Same.at (by assumption) ?_; (first | assumption | exact upd_same | (refine Same.at (by assumption) ?_; (first | assumption | exact upd_same | (refine Same.at (by assumption) ?_; (first | assumption | exact upd_same | (refine Same.at (by assumption) ?_; (first | assumption | exact upd_same | (refine Same.at (by assumption) ?_; (first | assumption | exact upd_same | (refine Same.at (by assumption) ?_; (first | assumption | exact upd_same | (refine Same.at (by assumption) ?_; (first | assumption | exact upd_same | (refine Same.at (by assumption) ?_; (first | assumption | exact upd_same | (refine Same.at (by assumption) ?_; (first | assumption | exact upd_same | (refine Same.at (by assumption) ?_; (first | assumption | exact upd_same | (refine Same.at (by assumption) ?_; (first | assumption | exact upd_same | (refine Same.at (by assumption) ?_; (first | assumption | exact upd_same | (refine Same.at (by assumption) ?_; (first | assumption | exact upd_same | (refine Same.at (by assumption) ?_; (first | assumption | exact upd_same | (refine Same.at (by assumption) ?_; (first | assumption | exact upd_same | (refine Same.at (by assumption) ?_; (first | assumption | exact upd_same | (refine Same.at (by assumption) ?_; (first | assumption | exact upd_same | (refine Same.at (by assumption) ?_; (first | assumption | exact upd_same | (refine Same.at (by assumption) ?_; (first | assumption | exact upd_same | (refine Same.at (by assumption) ?_; (first | assumption | exact upd_same | (refine Same.at (by assumption) ?_; (first | assumption | exact upd_same | (refine Same.at (by assumption) ?_; (first | assumption | exact upd_same | (refine Same.at (by assumption) ?_; (first | assumption | exact upd_same | (refine Same.at (by assumption) ?_; (first | assumption | exact upd_same | (refine Same.at (by assumption) ?_; (first | assumption | exact upd_same | (refine Same.at (by assumption) ?_; (first | assumption | exact upd_same | (refine Same.at (by assumption) ?_; (first | assumption | exact upd_same | (refine Same.at (by assumption) ?_; (first | assumption | exact upd_same | (refine Same.at (by assumption) ?_; (first | assumption | exact upd_same | (refine Same.at (by assumption) ?_; (first | assumption | exact upd_same | (refine Same.at (by assumption) ?_; (first | assumption | exact upd_same | (refine Same.at (by assumption) ?_; (first | assumption | exact upd_same | (refine Same.at (by assumption) ?_; (first | assumption | exact upd_same)))))))))))))))))))))))))))))))))))))))))))))))))))))))))))))))))))))))))))))))))) (G6.ne hn_p7) (fun H' _ => ⟨_, (Items.places r).append (.cons .non .nil)⟩) (by simp [placesV]; omega)
      · exact Far.lst (xs := placesV r ++ [V.bl true]) (by (first | assumption | exact upd_same | (refine Same.at (by assumption) ?_; (first | assumption | exact upd_same | (refine Same.at (by assumption) ?_; (first | assumption | exact upd_same | (refine Same.at (by assumption) ?_; (first | assumption | exact upd_same | (refine Same.at (by assumption) ?_; (first | assumption | exact upd_same | (refine Same.at (by assumption) ?_; (first | assumption | exact upd_same | (refine Same.at (by assumption) ?_; (first | assumption | exact upd_same | (refine Same.at (by assumption) ?_; (first | assumption | exact upd_same | (refine Same.at (by assumption) ?_; (first | assumption | exact upd_same | (refine Same.at (by assumption) ?_; (first | assumption | exact upd_same | (refine Same.at (by assumption) ?_; (first | assumption | exact upd_same | (refine Same.at (by assumption) ?_; (first | assumption | exact upd_same | (refine Same.at (by assumption) ?_; (first | assumption | exact upd_same | (refine Same.at (by assumption) ?_; (first | assumption | exact upd_same | (refine Same.at (by assumption) ?_; (first | assumption | exact upd_same | (refine Same.at (by assumption) ?_; (first | assumption | exact upd_same | (refine Same.at (by assumption) ?_; (first | assumption | exact upd_same | (refine Same.at (by assumption) ?_; (first | assumption | exact upd_same | (refine Same.at (by assumption) ?_; (first | assumption | exact upd_same | (refine Same.at (by assumption) ?_; (first | assumption | exact upd_same | (refine Same.at (by assumption) ?_; (first | assumption | exact upd_same | (refine Same.at (by assumption) ?_; (first | assumption | exact upd_same | (refine Same.at (by assumption) ?_; (first | assumption | exact upd_same | (refine Same.at (by assumption) ?_; (first | assumption | exact upd_same | (refine Same.at (by assumption) ?_; (first | assumption | exact upd_same | (refine Same.at (by assumption) ?_; (first | assumption | exact upd_same | (refine Same.at (by assumption) ?_; (first | assumption | exact upd_same | (refine Same.at (by assumption) ?_; (first | assumption | exact upd_same | (refine Same.at (by assumption) ?_; (first | assumption | exact upd_same | (refine Same.at (by assumption) ?_; (first | assumption | exact upd_same | (refine Same.at (by assumption) ?_; (first | assumption | exact upd_same | (refine Same.at (by assumption) ?_; (first | assumption | exact upd_same | (refine Same.at (by assumption) ?_; (first | assumption | exact upd_same | (refine Same.at (by assumption) ?_; (first | assumption | exact upd_same | (refine Same.at (by assumption) ?_; (first | assumption | exact upd_same | (refine Same.at (by assumption) ?_; (first | assumption | exact upd_same | (refine Same.at (by assumption) ?_; (first | assumption | exact upd_same | (refine Same.at (by assumption) ?_; (first | assumption | exact upd_same | (refine Same.at (by assumption) ?_; (first | assumption | exact upd_same | (refine Same.at (by assumption) ?_; (first | assumption | exact upd_same | (refine Same.at (by assumption) ?_; (first | assumption | exact upd_same)))))))))))))))))))))))))))))))))))))))))))))))))))))))))))))))))))))))))))))))))) (G8.ne hn_p9) (fun H' _ => ⟨_, (Items.places r).append (.cons (.bl _) .nil)⟩) (by simp [placesV]; omega)
      · exact Far.lst (xs := placesV r ++ [V.str (Str.ofString "0")]) (by (first | assumption | exact upd_same | (refine Same.at (by assumption) ?_; (first | assumption | exact upd_same | (refine Same.at (by assumption) ?_; (first | assumption | exact upd_same | (refine Same.at (by assumption) ?_; (first | assumption | exact upd_same | (refine Same.at (by assumption) ?_; (first | assumption | exact upd_same | (refine Same.at (by assumption) ?_; (first | assumption | exact upd_same | (refine Same.at (by assumption) ?_; (first | assumption | exact upd_same | (refine Same.at (by assumption) ?_; (first | assumption | exact upd_same | (refine Same.at (by assumption) ?_; (first | assumption | exact upd_same | (refine Same.at (by assumption) ?_; (first | assumption | exact upd_same | (refine Same.at (by assumption) ?_; (first | assumption | exact upd_same | (refine Same.at (by assumption) ?_; (first | assumption | exact upd_same | (refine Same.at (by assumption) ?_; (first | assumption | exact upd_same | (refine Same.at (by assumption) ?_; (first | assumption | exact upd_same | (refine Same.at (by assumption) ?_; (first | assumption | exact upd_same | (refine Same.at (by assumption) ?_; (first | assumption | exact upd_same | (refine Same.at (by assumption) ?_; (first | assumption | exact upd_same | (refine Same.at (by assumption) ?_; (first | assumption | exact upd_same | (refine Same.at (by assumption) ?_; (first | assumption | exact upd_same | (refine Same.at (by assumption) ?_; (first | assumption | exact upd_same | (refine Same.at (by assumption) ?_; (first | assumption | exact upd_same | (refine Same.at (by assumption) ?_; (first | assumption | exact upd_same | (refine Same.at (by assumption) ?_; (first | assumption | exact upd_same | (refine Same.at (by assumption) ?_; (first | assumption | exact upd_same | (refine Same.at (by assumption) ?_; (first | assumption | exact upd_same | (refine Same.at (by assumption) ?_; (first | assumption | exact upd_same | (refine Same.at (by assumption) ?_; (first | assumption | exact upd_same | (refine Same.at (by assumption) ?_; (first | assumption | exact upd_same | (refine Same.at (by assumption) ?_; (first | assumption | exact upd_same | (refine Same.at (by assumption) ?_; (first | assumption | exact upd_same | (refine Same.at (by assumption) ?_; (first | assumption | exact upd_same | (refine Same.at (by assumption) ?_; (first | assumption | exact upd_same | (refine Same.at (by assumption) ?_; (first | assumption | exact upd_same | (refine Same.at (by assumption) ?_; (first | assumption | exact upd_same | (refine Same.at (by assumption) ?_; (first | assumption | exact upd_same | (refine Same.at (by assumption) ?_; (first | assumption | exact upd_same | (refine Same.at (by assumption) ?_; (first | assumption | exact upd_same | (refine Same.at (by assumption) ?_; (first | assumption | exact upd_same | (refine Same.at (by assumption) ?_; (first | assumption | exact upd_same | (refine Same.at (by assumption) ?_; (first | assumption | exact upd_same | (refine Same.at (by assumption) ?_; (first | assumption | exact upd_same)))))))))))))))))))))))))))))))))))))))))))))))))))))))))))))))))))))))))))))))))) (G10.ne hn_p11) (fun H' _ => ⟨_, (Items.places r).append (.cons (.str _) .nil)⟩) (by simp [placesV]; omega)
      · exact Far.dic (kvs := []) (by (first | assumption | exact upd_same | (refine Same.at (by assumption) ?_; (first | assumption | exact upd_same | (refine Same.at (by assumption) ?_; (first | assumption | exact upd_same | (refine Same.at (by assumption) ?_; (first | assumption | exact upd_same | (refine Same.at (by assumption) ?_; (first | assumption | exact upd_same | (refine Same.at (by assumption) ?_; (first | assumption | exact upd_same | (refine Same.at (by assumption) ?_; (first | assumption | exact upd_same | (refine Same.at (by assumption) ?_; (first | assumption | exact upd_same | (refine Same.at (by assumption) ?_; (first | assumption | exact upd_same | (refine Same.at (by assumption) ?_; (first | assumption | exact upd_same | (refine Same.at (by assumption) ?_; (first | assumption | exact upd_same | (refine Same.at (by assumption) ?_; (first | assumption | exact upd_same | (refine Same.at (by assumption) ?_; (first | assumption | exact upd_same | (refine Same.at (by assumption) ?_; (first | assumption | exact upd_same | (refine Same.at (by assumption) ?_; (first | assumption | exact upd_same | (refine Same.at (by assumption) ?_; (first | assumption | exact upd_same | (refine Same.at (by assumption) ?_; (first | assumption | exact upd_same | (refine Same.at (by assumption) ?_; (first | assumption | exact upd_same | (refine Same.at (by assumption) ?_; (first | assumption | exact upd_same | (refine Same.at (by assumption) ?_; (first | assumption | exact upd_same | (refine Same.at (by assumption) ?_; (first | assumption | exact upd_same | (refine Same.at (by assumption) ?_; (first | assumption | exact upd_same | (refine Same.at (by assumption) ?_; (first | assumption | exact upd_same | (refine Same.at (by assumption) ?_; (first | assumption | exact upd_same | (refine Same.at (by assumption) ?_; (first | assumption | exact upd_same | (refine Same.at (by assumption) ?_; (first | assumption | exact upd_same | (refine Same.at (by assumption) ?_; (first | assumption | exact upd_same | (refine Same.at (by assumption) ?_; (first | assumption | exact upd_same | (refine Same.at (by assumption) ?_; (first | assumption | exact upd_same | (refine Same.at (by assumption) ?_; (first | assumption | exact upd_same | (refine Same.at (by assumption) ?_; (first | assumption | exact upd_same | (refine Same.at (by assumption) ?_; (first | assumption | exact upd_same | (refine Same.at (by assumption) ?_; (first | assumption | exact upd_same | (refine Same.at (by assumption) ?_; (first | assumption | exact upd_same | (refine Same.at (by assumption) ?_; (first | assumption | exact upd_same | (refine Same.at (by assumption) ?_; (first | assumption | exact upd_same | (refine Same.at (by assumption) ?_; (first | assumption | exact upd_same | (refine Same.at (by assumption) ?_; (first | assumption | exact upd_same | (refine Same.at (by assumption) ?_; (first | assumption | exact upd_same | (refine Same.at (by assumption) ?_; (first | assumption | exact upd_same | (refine Same.at (by assumption) ?_; (first | assumption | exact upd_same)))))))))))))))))))))))))))))))))))))))))))))))))))))))))))))))))))))))))))))))))) (G11.ne hn_p12)
      · exact Far.str _
      · exact Far.int _
      · exact Far.lst (xs := [V.ref v]) (by (first | assumption | exact upd_same | (refine Same.at (by assumption) ?_; (first | assumption | exact upd_same | (refine Same.at (by assumption) ?_; (first | assumption | exact upd_same | (refine Same.at (by assumption) ?_; (first | assumption | exact upd_same | (refine Same.at (by assumption) ?_; (first | assumption | exact upd_same | (refine Same.at (by assumption) ?_; (first | assumption | exact upd_same | (refine Same.at (by assumption) ?_; (first | assumption | exact upd_same | (refine Same.at (by assumption) ?_; (first | assumption | exact upd_same | (refine Same.at (by assumption) ?_; (first | assumption | exact upd_same | (refine Same.at (by assumption) ?_; (first | assumption | exact upd_same | (refine Same.at (by assumption) ?_; (first | assumption | exact upd_same | (refine Same.at (by assumption) ?_; (first | assumption | exact upd_same | (refine Same.at (by assumption) ?_; (first | assumption | exact upd_same | (refine Same.at (by assumption) ?_; (first | assumption | exact upd_same | (refine Same.at (by assumption) ?_; (first | assumption | exact upd_same | (refine Same.at (by assumption) ?_; (first | assumption | exact upd_same | (refine Same.at (by assumption) ?_; (first | assumption | exact upd_same | (refine Same.at (by assumption) ?_; (first | assumption | exact upd_same | (refine Same.at (by assumption) ?_; (first | assumption | exact upd_same | (refine Same.at (by assumption) ?_; (first | assumption | exact upd_same | (refine Same.at (by assumption) ?_; (first | assumption | exact upd_same | (refine Same.at (by assumption) ?_; (first | assumption | exact upd_same | (refine Same.at (by assumption) ?_; (first | assumption | exact upd_same | (refine Same.at (by assumption) ?_; (first | assumption | exact upd_same | (refine Same.at (by assumption) ?_; (first | assumption | exact upd_same | (refine Same.at (by assumption) ?_; (first | assumption | exact upd_same | (refine Same.at (by assumption) ?_; (first | assumption | exact upd_same | (refine Same.at (by assumption) ?_; (first | assumption | exact upd_same | (refine Same.at (by assumption) ?_; (first | assumption | exact upd_same | (refine Same.at (by assumption) ?_; (first | assumption | exact upd_same | (refine Same.at (by assumption) ?_; (first | assumption | exact upd_same | (refine Same.at (by assumption) ?_; (first | assumption | exact upd_same | (refine Same.at (by assumption) ?_; (first | assumption | exact upd_same | (refine Same.at (by assumption) ?_; (first | assumption | exact upd_same | (refine Same.at (by assumption) ?_; (first | assumption | exact upd_same | (refine Same.at (by assumption) ?_; (first | assumption | exact upd_same | (refine Same.at (by assumption) ?_; (first | assumption | exact upd_same | (refine Same.at (by assumption) ?_; (first | assumption | exact upd_same | (refine Same.at (by assumption) ?_; (first | assumption | exact upd_same | (refine Same.at (by assumption) ?_; (first | assumption | exact upd_same | (refine Same.at (by assumption) ?_; (first | assumption | exact upd_same)))))))))))))))))))))))))))))))))))))))))))))))))))))))))))))))))))))))))))))))))) (G12.ne hn_p13) (fun H' b' => ⟨_, .cons (.lst (b' _ _ hvg (B14 _ _ hvg hv))) .nil⟩) (by simp)
    have hm14 : H m = none := (s_p1.free (s_p2.free (s_p3.free (s_p4.free (s_p5.free (s_p6.free (s_p7.free (s_p8.free (s_p9.free (s_p10.free (s_p11.free (s_p12.free (s_p13.free hn_m)))))))))))))
    refine ⟨_, rfl, _, _, rfl, _, rfl, by split <;> omega, by split <;> omega, ?_⟩
    have hu0 : [V.non, V.ref p1, V.ref p3, V.ref p5, V.ref p7, V.ref p9, V.ref p11, V.ref p12, V.str (Str.ofString "road"), V.int 0, V.ref p13].length ≤ 11 := by simp
    generalize [V.non, V.ref p1, V.ref p3, V.ref p5, V.ref p7, V.ref p9, V.ref p11, V.ref p12, V.str (Str.ofString "road"), V.int 0, V.ref p13] = us0 at d_m far0 hu0
    have hv14 := B14 _ _ hvg hv
    have key : ∀ (n2 : Nat), n2 ≤ 5 → (0 < n2 → 0 < n) → (if (5 : Int) < (n : Int) then (5 : Int) else (n : Int)).toNat = n2 → True := fun _ _ _ _ => trivial
    obtain ⟨n2, hn2, hn5, hpos⟩ : ∃ n2 : Nat, (if (5 : Int) < (n : Int) then (5 : Int) else (n : Int)).toNat = n2 ∧ n2 ≤ 5 ∧ (0 < n2 → 0 < n) := by
      refine ⟨_, rfl, ?_, ?_⟩
      · split <;> omega
      · intro z
        split at z <;> omega
    rw [hn2]
    refine for_range (lo := 0) (n := n2) (fun i σ H' => ∃ (m' : Addr) (us : List V) (w1 w2 : Option V), σ = [some (.ref g), some (.ref v), some (.int (n : Nat)), some (.ref m'), w1, w2, none] ∧ But g H14 H' ∧ GenAt H' g (b + 10 * i) ∧ H m' = none ∧ m' ≠ g ∧ H' m' = some (.lst us) ∧ us.length ≤ 11 + 2 * i ∧ ∀ u ∈ us, Far g H' u) ⟨m, us0, none, none, rfl, But.refl _ _, G14, hm14, G13.ne hn_m, d_m, hu0, far0⟩ ?_ ?_
    · rintro i σ H15 hi ⟨m', us, w1, w2, rfl, b15, G15, hm', nm', dm', hul, far⟩
      have hn0 := hpos (by omega)
      refine ⟨_, rfl, _, rfl, g, _, b + 10 * i, rfl, G15, by omega, by omega, Nat.lt_of_le_of_lt (by omega : (n : Int).natAbs ≤ 300) (by decide), fun q H16 q0 q1 b16 G16 => ?_⟩
      have hv16 := (b15.trans b16) _ _ hvg hv14
      have dm16 := b16 _ _ nm' dm'
      refine ⟨_, rfl, _, rfl, _, rfl, (by show 1 ≤ sizeLine; decide), ?_⟩
      intro q1a hn_q1a
      generalize hX_q1a : L2.upd _ q1a _ = X1
      have s_q1a := alloc_same hX_q1a hn_q1a
      have d_q1a := alloc_at hX_q1a
      refine ⟨v, q1a, _, _, rfl, rfl, (by (first | assumption | exact upd_same | (refine Same.at (by assumption) ?_; (first | assumption | exact upd_same | (refine Same.at (by assumption) ?_; (first | assumption | exact upd_same | (refine Same.at (by assumption) ?_; (first | assumption | exact upd_same | (refine Same.at (by assumption) ?_; (first | assumption | exact upd_same | (refine Same.at (by assumption) ?_; (first | assumption | exact upd_same | (refine Same.at (by assumption) ?_; (first | assumption | exact upd_same | (refine Same.at (by assumption) ?_; (first | assumption | exact upd_same | (refine Same.at (by assumption) ?_; (first | assumption | exact upd_same | (refine Same.at (by assumption) ?_; (first | assumption | exact upd_same | (refine Same.at (by assumption) ?_; (first | assumption | exact upd_same | (refine Same.at (by assumption) ?_; (first | assumption | exact upd_same | (refine Same.at (by assumption) ?_; (first | assumption | exact upd_same | (refine Same.at (by assumption) ?_; (first | assumption | exact upd_same | (refine Same.at (by assumption) ?_; (first | assumption | exact upd_same)))))))))))))))))))))))))))))), (by (first | assumption | exact upd_same | (refine Same.at (by assumption) ?_; (first | assumption | exact upd_same | (refine Same.at (by assumption) ?_; (first | assumption | exact upd_same | (refine Same.at (by assumption) ?_; (first | assumption | exact upd_same | (refine Same.at (by assumption) ?_; (first | assumption | exact upd_same | (refine Same.at (by assumption) ?_; (first | assumption | exact upd_same | (refine Same.at (by assumption) ?_; (first | assumption | exact upd_same | (refine Same.at (by assumption) ?_; (first | assumption | exact upd_same | (refine Same.at (by assumption) ?_; (first | assumption | exact upd_same | (refine Same.at (by assumption) ?_; (first | assumption | exact upd_same | (refine Same.at (by assumption) ?_; (first | assumption | exact upd_same | (refine Same.at (by assumption) ?_; (first | assumption | exact upd_same | (refine Same.at (by assumption) ?_; (first | assumption | exact upd_same | (refine Same.at (by assumption) ?_; (first | assumption | exact upd_same | (refine Same.at (by assumption) ?_; (first | assumption | exact upd_same)))))))))))))))))))))))))))))), ?_, ?_⟩
      · rw [List.length_map]; exact small_le (by simp; omega)
      intro q2a hn_q2a
      generalize hX_q2a : L2.upd _ q2a _ = X2
      have s_q2a := alloc_same hX_q2a hn_q2a
      have d_q2a := alloc_at hX_q2a
      refine ⟨_, rfl, (by show 1 ≤ sizeLine; decide), ?_⟩
      intro q3a hn_q3a
      generalize hX_q3a : L2.upd _ q3a _ = X3
      have s_q3a := alloc_same hX_q3a hn_q3a
      have d_q3a := alloc_at hX_q3a
      refine ⟨_, rfl, q3a, v, _, _, rfl, rfl, (by (first | assumption | exact upd_same | (refine Same.at (by assumption) ?_; (first | assumption | exact upd_same | (refine Same.at (by assumption) ?_; (first | assumption | exact upd_same | (refine Same.at (by assumption) ?_; (first | assumption | exact upd_same | (refine Same.at (by assumption) ?_; (first | assumption | exact upd_same | (refine Same.at (by assumption) ?_; (first | assumption | exact upd_same | (refine Same.at (by assumption) ?_; (first | assumption | exact upd_same | (refine Same.at (by assumption) ?_; (first | assumption | exact upd_same | (refine Same.at (by assumption) ?_; (first | assumption | exact upd_same | (refine Same.at (by assumption) ?_; (first | assumption | exact upd_same | (refine Same.at (by assumption) ?_; (first | assumption | exact upd_same | (refine Same.at (by assumption) ?_; (first | assumption | exact upd_same | (refine Same.at (by assumption) ?_; (first | assumption | exact upd_same | (refine Same.at (by assumption) ?_; (first | assumption | exact upd_same | (refine Same.at (by assumption) ?_; (first | assumption | exact upd_same)))))))))))))))))))))))))))))), (by (first | assumption | exact upd_same | (refine Same.at (by assumption) ?_; (first | assumption | exact upd_same | (refine Same.at (by assumption) ?_; (first | assumption | exact upd_same | (refine Same.at (by assumption) ?_; (first | assumption | exact upd_same | (refine Same.at (by assumption) ?_; (first | assumption | exact upd_same | (refine Same.at (by assumption) ?_; (first | assumption | exact upd_same | (refine Same.at (by assumption) ?_; (first | assumption | exact upd_same | (refine Same.at (by assumption) ?_; (first | assumption | exact upd_same | (refine Same.at (by assumption) ?_; (first | assumption | exact upd_same | (refine Same.at (by assumption) ?_; (first | assumption | exact upd_same | (refine Same.at (by assumption) ?_; (first | assumption | exact upd_same | (refine Same.at (by assumption) ?_; (first | assumption | exact upd_same | (refine Same.at (by assumption) ?_; (first | assumption | exact upd_same | (refine Same.at (by assumption) ?_; (first | assumption | exact upd_same | (refine Same.at (by assumption) ?_; (first | assumption | exact upd_same)))))))))))))))))))))))))))))), ?_, ?_⟩
      · rw [List.length_map]; exact small_le (by simp; omega)
      intro q4a hn_q4a
      generalize hX_q4a : L2.upd _ q4a _ = X4
      have s_q4a := alloc_same hX_q4a hn_q4a
      have d_q4a := alloc_at hX_q4a
      refine ⟨(by show 2 ≤ sizeLine; decide), ?_⟩
      intro q5a hn_q5a
      generalize hX_q5a : L2.upd _ q5a _ = X5
      have s_q5a := alloc_same hX_q5a hn_q5a
      have d_q5a := alloc_at hX_q5a
      refine ⟨m', q5a, _, _, rfl, rfl, (by (first | assumption | exact upd_same | (refine Same.at (by assumption) ?_; (first | assumption | exact upd_same | (refine Same.at (by assumption) ?_; (first | assumption | exact upd_same | (refine Same.at (by assumption) ?_; (first | assumption | exact upd_same | (refine Same.at (by assumption) ?_; (first | assumption | exact upd_same | (refine Same.at (by assumption) ?_; (first | assumption | exact upd_same | (refine Same.at (by assumption) ?_; (first | assumption | exact upd_same | (refine Same.at (by assumption) ?_; (first | assumption | exact upd_same | (refine Same.at (by assumption) ?_; (first | assumption | exact upd_same | (refine Same.at (by assumption) ?_; (first | assumption | exact upd_same | (refine Same.at (by assumption) ?_; (first | assumption | exact upd_same | (refine Same.at (by assumption) ?_; (first | assumption | exact upd_same | (refine Same.at (by assumption) ?_; (first | assumption | exact upd_same | (refine Same.at (by assumption) ?_; (first | assumption | exact upd_same | (refine Same.at (by assumption) ?_; (first | assumption | exact upd_same)))))))))))))))))))))))))))))), (by (first | assumption | exact upd_same | (refine Same.at (by assumption) ?_; (first | assumption | exact upd_same | (refine Same.at (by assumption) ?_; (first | assumption | exact upd_same | (refine Same.at (by assumption) ?_; (first | assumption | exact upd_same | (refine Same.at (by assumption) ?_; (first | assumption | exact upd_same | (refine Same.at (by assumption) ?_; (first | assumption | exact upd_same | (refine Same.at (by assumption) ?_; (first | assumption | exact upd_same | (refine Same.at (by assumption) ?_; (first | assumption | exact upd_same | (refine Same.at (by assumption) ?_; (first | assumption | exact upd_same | (refine Same.at (by assumption) ?_; (first | assumption | exact upd_same | (refine Same.at (by assumption) ?_; (first | assumption | exact upd_same | (refine Same.at (by assumption) ?_; (first | assumption | exact upd_same | (refine Same.at (by assumption) ?_; (first | assumption | exact upd_same | (refine Same.at (by assumption) ?_; (first | assumption | exact upd_same | (refine Same.at (by assumption) ?_; (first | assumption | exact upd_same)))))))))))))))))))))))))))))), ?_, ?_⟩
      · exact small_le (by simp; omega)
      intro q6a hn_q6a
      generalize hX_q6a : L2.upd _ q6a _ = X6
      have s_q6a := alloc_same hX_q6a hn_q6a
      have d_q6a := alloc_at hX_q6a
      have bX : But g H16 X6 := But.same (s_q1a.trans (s_q2a.trans (s_q3a.trans (s_q4a.trans (s_q5a.trans s_q6a)))))
      have GX2 := (G16.same s_q1a)
      have GX4 := (GX2.same s_q2a).same s_q3a
      have GX6 := (GX4.same s_q4a).same s_q5a
      have B0 : But g H H16 := B14.trans (b15.trans b16)
      refine ⟨q6a, _, _, _, rfl, (b15.trans b16).trans bX, (GX6.same s_q6a).mono (by omega), B0.free G16 (s_q1a.free (s_q2a.free (s_q3a.free (s_q4a.free (s_q5a.free hn_q6a))))), GX6.ne hn_q6a, d_q6a, by simp; omega, fun u hu => ?_⟩
      rcases List.mem_append.mp hu with hu | hu
      · exact (far u hu).but (b16.trans bX)
      · simp only [List.mem_cons, List.not_mem_nil, or_false] at hu
        rcases hu with rfl | rfl
        · exact Far.lst (xs := placesV r ++ [V.int q]) (by (first | assumption | exact upd_same | (refine Same.at (by assumption) ?_; (first | assumption | exact upd_same | (refine Same.at (by assumption) ?_; (first | assumption | exact upd_same | (refine Same.at (by assumption) ?_; (first | assumption | exact upd_same | (refine Same.at (by assumption) ?_; (first | assumption | exact upd_same | (refine Same.at (by assumption) ?_; (first | assumption | exact upd_same | (refine Same.at (by assumption) ?_; (first | assumption | exact upd_same | (refine Same.at (by assumption) ?_; (first | assumption | exact upd_same | (refine Same.at (by assumption) ?_; (first | assumption | exact upd_same | (refine Same.at (by assumption) ?_; (first | assumption | exact upd_same | (refine Same.at (by assumption) ?_; (first | assumption | exact upd_same | (refine Same.at (by assumption) ?_; (first | assumption | exact upd_same | (refine Same.at (by assumption) ?_; (first | assumption | exact upd_same | (refine Same.at (by assumption) ?_; (first | assumption | exact upd_same | (refine Same.at (by assumption) ?_; (first | assumption | exact upd_same | (refine Same.at (by assumption) ?_; (first | assumption | exact upd_same | (refine Same.at (by assumption) ?_; (first | assumption | exact upd_same | (refine Same.at (by assumption) ?_; (first | assumption | exact upd_same | (refine Same.at (by assumption) ?_; (first | assumption | exact upd_same | (refine Same.at (by assumption) ?_; (first | assumption | exact upd_same | (refine Same.at (by assumption) ?_; (first | assumption | exact upd_same | (refine Same.at (by assumption) ?_; (first | assumption | exact upd_same | (refine Same.at (by assumption) ?_; (first | assumption | exact upd_same | (refine Same.at (by assumption) ?_; (first | assumption | exact upd_same | (refine Same.at (by assumption) ?_; (first | assumption | exact upd_same | (refine Same.at (by assumption) ?_; (first | assumption | exact upd_same | (refine Same.at (by assumption) ?_; (first | assumption | exact upd_same | (refine Same.at (by assumption) ?_; (first | assumption | exact upd_same | (refine Same.at (by assumption) ?_; (first | assumption | exact upd_same | (refine Same.at (by assumption) ?_; (first | assumption | exact upd_same | (refine Same.at (by assumption) ?_; (first | assumption | exact upd_same | (refine Same.at (by assumption) ?_; (first | assumption | exact upd_same | (refine Same.at (by assumption) ?_; (first | assumption | exact upd_same | (refine Same.at (by assumption) ?_; (first | assumption | exact upd_same | (refine Same.at (by assumption) ?_; (first | assumption | exact upd_same | (refine Same.at (by assumption) ?_; (first | assumption | exact upd_same | (refine Same.at (by assumption) ?_; (first | assumption | exact upd_same | (refine Same.at (by assumption) ?_; (first | assumption | exact upd_same | (refine Same.at (by assumption) ?_; (first | assumption | exact upd_same | (refine Same.at (by assumption) ?_; (first | assumption | exact upd_same | (refine Same.at (by assumption) ?_; (first | assumption | exact upd_same)))))))))))))))))))))))))))))))))))))))))))))))))))))))))))))))))))))))))))))))))) (GX2.ne hn_q2a) (fun H' _ => ⟨_, (Items.places r).append (.cons (.int _) .nil)⟩) (by simp [placesV]; omega)
        · exact Far.lst (xs := [V.int q] ++ placesV r) (by (first | assumption | exact upd_same | (refine Same.at (by assumption) ?_; (first | assumption | exact upd_same | (refine Same.at (by assumption) ?_; (first | assumption | exact upd_same | (refine Same.at (by assumption) ?_; (first | assumption | exact upd_same | (refine Same.at (by assumption) ?_; (first | assumption | exact upd_same | (refine Same.at (by assumption) ?_; (first | assumption | exact upd_same | (refine Same.at (by assumption) ?_; (first | assumption | exact upd_same | (refine Same.at (by assumption) ?_; (first | assumption | exact upd_same | (refine Same.at (by assumption) ?_; (first | assumption | exact upd_same | (refine Same.at (by assumption) ?_; (first | assumption | exact upd_same | (refine Same.at (by assumption) ?_; (first | assumption | exact upd_same | (refine Same.at (by assumption) ?_; (first | assumption | exact upd_same | (refine Same.at (by assumption) ?_; (first | assumption | exact upd_same | (refine Same.at (by assumption) ?_; (first | assumption | exact upd_same | (refine Same.at (by assumption) ?_; (first | assumption | exact upd_same | (refine Same.at (by assumption) ?_; (first | assumption | exact upd_same | (refine Same.at (by assumption) ?_; (first | assumption | exact upd_same | (refine Same.at (by assumption) ?_; (first | assumption | exact upd_same | (refine Same.at (by assumption) ?_; (first | assumption | exact upd_same | (refine Same.at (by assumption) ?_; (first | assumption | exact upd_same | (refine Same.at (by assumption) ?_; (first | assumption | exact upd_same | (refine Same.at (by assumption) ?_; (first | assumption | exact upd_same | (refine Same.at (by assumption) ?_; (first | assumption | exact upd_same | (refine Same.at (by assumption) ?_; (first | assumption | exact upd_same | (refine Same.at (by assumption) ?_; (first | assumption | exact upd_same | (refine Same.at (by assumption) ?_; (first | assumption | exact upd_same | (refine Same.at (by assumption) ?_; (first | assumption | exact upd_same | (refine Same.at (by assumption) ?_; (first | assumption | exact upd_same | (refine Same.at (by assumption) ?_; (first | assumption | exact upd_same | (refine Same.at (by assumption) ?_; (first | assumption | exact upd_same | (refine Same.at (by assumption) ?_; (first | assumption | exact upd_same | (refine Same.at (by assumption) ?_; (first | assumption | exact upd_same | (refine Same.at (by assumption) ?_; (first | assumption | exact upd_same | (refine Same.at (by assumption) ?_; (first | assumption | exact upd_same | (refine Same.at (by assumption) ?_; (first | assumption | exact upd_same | (refine Same.at (by assumption) ?_; (first | assumption | exact upd_same | (refine Same.at (by assumption) ?_; (first | assumption | exact upd_same | (refine Same.at (by assumption) ?_; (first | assumption | exact upd_same | (refine Same.at (by assumption) ?_; (first | assumption | exact upd_same | (refine Same.at (by assumption) ?_; (first | assumption | exact upd_same | (refine Same.at (by assumption) ?_; (first | assumption | exact upd_same)))))))))))))))))))))))))))))))))))))))))))))))))))))))))))))))))))))))))))))))))) (GX4.ne hn_q4a) (fun H' _ => ⟨_, Items.cons (.int _) (Items.places r)⟩) (by simp [placesV]; omega)
    rintro σ H15 ⟨m', us, w1, w2, rfl, b15, G15, hm', nm', dm', hul, far⟩
    have hv15 := b15 _ _ hvg hv14
    have B15 := B14.trans b15
    have nmv : m' ≠ v := fun e => by rw [e, hv] at hm'; cases hm'
    refine ⟨_, rfl, (by show 0 ≤ sizeLine; decide), fun p hp => ?_⟩
    have s4 : Same H15 (upd H15 p (.lst [])) := Same.upd hp
    have hpe : (upd H15 p (.lst [])) p = some (.lst []) := upd_same
    generalize upd H15 p (.lst []) = H16 at s4 hpe
    refine places_ne_nil (SqL.of (s4 _ _ hv15)) (SqL.of hpe) ⟨_, rfl, ite2 (fun z => ?_) (fun z => ?_)⟩
    · have hpos2 : 0 < r.length := by
        cases e : r with
        | nil => rw [e] at z; cases z
        | cons _ _ => simp
      refine ⟨_, rfl, _, rfl, v, _, rfl, .inl (SqL.of (s4 _ _ hv15)), g, _, _, rfl, G15.same s4, by omega, by rw [List.length_map]; omega, Nat.lt_of_le_of_lt (by rw [List.length_map]; omega : (((placesV r).length : Nat) : Int).natAbs ≤ 60) (by decide), fun q H17 q0 q1 b17 G17 => ?_⟩
      rw [List.length_map] at q1
      obtain ⟨q, rfl⟩ := Int.eq_ofNat_of_zero_le q0
      have hq : q < r.length := by omega
      have hv17 := b17 _ _ hvg (s4 _ _ hv15)
      have dm17 := b17 _ _ nm' (s4 _ _ dm')
      have c1 : cutV (placesV r) none (some (q : Int)) = placesV (r.take q) := by rw [cutV_toN (by simp [placesV]; omega)]; simp [placesV]
      have c2 : cutV (placesV r) (some ((q : Int) + 1)) none = placesV (r.drop (q + 1)) := by
        rw [show ((q : Int) + 1) = ((q + 1 : Nat) : Int) by omega, cutV_from (by simp [placesV]; omega)]; simp [placesV]
      refine ⟨_, rfl, _, rfl, _, rfl, _, rfl, v, _, rfl, SqL.of hv17, ?_⟩
      rw [c1]
      intro x1 hn_x1
      generalize hX_x1 : L2.upd _ x1 _ = X1
      have s_x1 := alloc_same hX_x1 hn_x1
      have d_x1 := alloc_at hX_x1
      refine ⟨_, rfl, _, rfl, _, _, rfl, rfl, _, rfl, v, _, rfl, SqL.of (by (first | assumption | exact upd_same | (refine Same.at (by assumption) ?_; (first | assumption | exact upd_same | (refine Same.at (by assumption) ?_; (first | assumption | exact upd_same | (refine Same.at (by assumption) ?_; (first | assumption | exact upd_same | (refine Same.at (by assumption) ?_; (first | assumption | exact upd_same | (refine Same.at (by assumption) ?_; (first | assumption | exact upd_same | (refine Same.at (by assumption) ?_; (first | assumption | exact upd_same | (refine Same.at (by assumption) ?_; (first | assumption | exact upd_same | (refine Same.at (by assumption) ?_; (first | assumption | exact upd_same | (refine Same.at (by assumption) ?_; (first | assumption | exact upd_same | (refine Same.at (by assumption) ?_; (first | assumption | exact upd_same | (refine Same.at (by assumption) ?_; (first | assumption | exact upd_same | (refine Same.at (by assumption) ?_; (first | assumption | exact upd_same | (refine Same.at (by assumption) ?_; (first | assumption | exact upd_same | (refine Same.at (by assumption) ?_; (first | assumption | exact upd_same)))))))))))))))))))))))))))))), ?_⟩
      rw [c2]
      intro x2 hn_x2
      generalize hX_x2 : L2.upd _ x2 _ = X2
      have s_x2 := alloc_same hX_x2 hn_x2
      have d_x2 := alloc_at hX_x2
      refine ⟨x1, x2, _, _, rfl, rfl, (by (first | assumption | exact upd_same | (refine Same.at (by assumption) ?_; (first | assumption | exact upd_same | (refine Same.at (by assumption) ?_; (first | assumption | exact upd_same | (refine Same.at (by assumption) ?_; (first | assumption | exact upd_same | (refine Same.at (by assumption) ?_; (first | assumption | exact upd_same | (refine Same.at (by assumption) ?_; (first | assumption | exact upd_same | (refine Same.at (by assumption) ?_; (first | assumption | exact upd_same | (refine Same.at (by assumption) ?_; (first | assumption | exact upd_same | (refine Same.at (by assumption) ?_; (first | assumption | exact upd_same | (refine Same.at (by assumption) ?_; (first | assumption | exact upd_same | (refine Same.at (by assumption) ?_; (first | assumption | exact upd_same | (refine Same.at (by assumption) ?_; (first | assumption | exact upd_same | (refine Same.at (by assumption) ?_; (first | assumption | exact upd_same | (refine Same.at (by assumption) ?_; (first | assumption | exact upd_same | (refine Same.at (by assumption) ?_; (first | assumption | exact upd_same)))))))))))))))))))))))))))))), (by (first | assumption | exact upd_same | (refine Same.at (by assumption) ?_; (first | assumption | exact upd_same | (refine Same.at (by assumption) ?_; (first | assumption | exact upd_same | (refine Same.at (by assumption) ?_; (first | assumption | exact upd_same | (refine Same.at (by assumption) ?_; (first | assumption | exact upd_same | (refine Same.at (by assumption) ?_; (first | assumption | exact upd_same | (refine Same.at (by assumption) ?_; (first | assumption | exact upd_same | (refine Same.at (by assumption) ?_; (first | assumption | exact upd_same | (refine Same.at (by assumption) ?_; (first | assumption | exact upd_same | (refine Same.at (by assumption) ?_; (first | assumption | exact upd_same | (refine Same.at (by assumption) ?_; (first | assumption | exact upd_same | (refine Same.at (by assumption) ?_; (first | assumption | exact upd_same | (refine Same.at (by assumption) ?_; (first | assumption | exact upd_same | (refine Same.at (by assumption) ?_; (first | assumption | exact upd_same | (refine Same.at (by assumption) ?_; (first | assumption | exact upd_same)))))))))))))))))))))))))))))), ?_, ?_⟩
      · exact small_le (by simp [placesV]; omega)
      intro x3 hn_x3
      generalize hX_x3 : L2.upd _ x3 _ = X3
      have s_x3 := alloc_same hX_x3 hn_x3
      have d_x3 := alloc_at hX_x3
      refine ⟨_, rfl, v, _, rfl, _, rfl, _, rfl, rfl, SqL.of (by (first | assumption | exact upd_same | (refine Same.at (by assumption) ?_; (first | assumption | exact upd_same | (refine Same.at (by assumption) ?_; (first | assumption | exact upd_same | (refine Same.at (by assumption) ?_; (first | assumption | exact upd_same | (refine Same.at (by assumption) ?_; (first | assumption | exact upd_same | (refine Same.at (by assumption) ?_; (first | assumption | exact upd_same | (refine Same.at (by assumption) ?_; (first | assumption | exact upd_same | (refine Same.at (by assumption) ?_; (first | assumption | exact upd_same | (refine Same.at (by assumption) ?_; (first | assumption | exact upd_same | (refine Same.at (by assumption) ?_; (first | assumption | exact upd_same | (refine Same.at (by assumption) ?_; (first | assumption | exact upd_same | (refine Same.at (by assumption) ?_; (first | assumption | exact upd_same | (refine Same.at (by assumption) ?_; (first | assumption | exact upd_same | (refine Same.at (by assumption) ?_; (first | assumption | exact upd_same | (refine Same.at (by assumption) ?_; (first | assumption | exact upd_same | (refine Same.at (by assumption) ?_; (first | assumption | exact upd_same | (refine Same.at (by assumption) ?_; (first | assumption | exact upd_same | (refine Same.at (by assumption) ?_; (first | assumption | exact upd_same | (refine Same.at (by assumption) ?_; (first | assumption | exact upd_same | (refine Same.at (by assumption) ?_; (first | assumption | exact upd_same | (refine Same.at (by assumption) ?_; (first | assumption | exact upd_same | (refine Same.at (by assumption) ?_; (first | assumption | exact upd_same | (refine Same.at (by assumption) ?_; (first | assumption | exact upd_same | (refine Same.at (by assumption) ?_; (first | assumption | exact upd_same | (refine Same.at (by assumption) ?_; (first | assumption | exact upd_same | (refine Same.at (by assumption) ?_; (first | assumption | exact upd_same | (refine Same.at (by assumption) ?_; (first | assumption | exact upd_same | (refine Same.at (by assumption) ?_; (first | assumption | exact upd_same | (refine Same.at (by assumption) ?_; (first | assumption | exact upd_same | (refine Same.at (by assumption) ?_; (first | assumption | exact upd_same | (refine Same.at (by assumption) ?_; (first | assumption | exact upd_same | (refine Same.at (by assumption) ?_; (first | assumption | exact upd_same | (refine Same.at (by assumption) ?_; (first | assumption | exact upd_same | (refine Same.at (by assumption) ?_; (first | assumption | exact upd_same | (refine Same.at (by assumption) ?_; (first | assumption | exact upd_same | (refine Same.at (by assumption) ?_; (first | assumption | exact upd_same | (refine Same.at (by assumption) ?_; (first | assumption | exact upd_same | (refine Same.at (by assumption) ?_; (first | assumption | exact upd_same | (refine Same.at (by assumption) ?_; (first | assumption | exact upd_same | (refine Same.at (by assumption) ?_; (first | assumption | exact upd_same | (refine Same.at (by assumption) ?_; (first | assumption | exact upd_same)))))))))))))))))))))))))))))))))))))))))))))))))))))))))))))))))))))))))))))))))), ?_⟩
      intro x4 hn_x4
      generalize hX_x4 : L2.upd _ x4 _ = X4
      have s_x4 := alloc_same hX_x4 hn_x4
      have d_x4 := alloc_at hX_x4
      refine ⟨_, rfl, _, rfl, _, rfl, v, _, rfl, SqL.of (by (first | assumption | exact upd_same | (refine Same.at (by assumption) ?_; (first | assumption | exact upd_same | (refine Same.at (by assumption) ?_; (first | assumption | exact upd_same | (refine Same.at (by assumption) ?_; (first | assumption | exact upd_same | (refine Same.at (by assumption) ?_; (first | assumption | exact upd_same | (refine Same.at (by assumption) ?_; (first | assumption | exact upd_same | (refine Same.at (by assumption) ?_; (first | assumption | exact upd_same | (refine Same.at (by assumption) ?_; (first | assumption | exact upd_same | (refine Same.at (by assumption) ?_; (first | assumption | exact upd_same | (refine Same.at (by assumption) ?_; (first | assumption | exact upd_same | (refine Same.at (by assumption) ?_; (first | assumption | exact upd_same | (refine Same.at (by assumption) ?_; (first | assumption | exact upd_same | (refine Same.at (by assumption) ?_; (first | assumption | exact upd_same | (refine Same.at (by assumption) ?_; (first | assumption | exact upd_same | (refine Same.at (by assumption) ?_; (first | assumption | exact upd_same | (refine Same.at (by assumption) ?_; (first | assumption | exact upd_same | (refine Same.at (by assumption) ?_; (first | assumption | exact upd_same | (refine Same.at (by assumption) ?_; (first | assumption | exact upd_same | (refine Same.at (by assumption) ?_; (first | assumption | exact upd_same | (refine Same.at (by assumption) ?_; (first | assumption | exact upd_same | (refine Same.at (by assumption) ?_; (first | assumption | exact upd_same | (refine Same.at (by assumption) ?_; (first | assumption | exact upd_same | (refine Same.at (by assumption) ?_; (first | assumption | exact upd_same | (refine Same.at (by assumption) ?_; (first | assumption | exact upd_same | (refine Same.at (by assumption) ?_; (first | assumption | exact upd_same | (refine Same.at (by assumption) ?_; (first | assumption | exact upd_same | (refine Same.at (by assumption) ?_; (first | assumption | exact upd_same | (refine Same.at (by assumption) ?_; (first | assumption | exact upd_same | (refine Same.at (by assumption) ?_; (first | assumption | exact upd_same | (refine Same.at (by assumption) ?_; (first | assumption | exact upd_same | (refine Same.at (by assumption) ?_; (first | assumption | exact upd_same | (refine Same.at (by assumption) ?_; (first | assumption | exact upd_same | (refine Same.at (by assumption) ?_; (first | assumption | exact upd_same | (refine Same.at (by assumption) ?_; (first | assumption | exact upd_same | (refine Same.at (by assumption) ?_; (first | assumption | exact upd_same | (refine Same.at (by assumption) ?_; (first | assumption | exact upd_same | (refine Same.at (by assumption) ?_; (first | assumption | exact upd_same | (refine Same.at (by assumption) ?_; (first | assumption | exact upd_same | (refine Same.at (by assumption) ?_; (first | assumption | exact upd_same | (refine Same.at (by assumption) ?_; (first | assumption | exact upd_same | (refine Same.at (by assumption) ?_; (first | assumption | exact upd_same)))))))))))))))))))))))))))))))))))))))))))))))))))))))))))))))))))))))))))))))))), ?_⟩
      rw [c1]
      intro x5 hn_x5
      generalize hX_x5 : L2.upd _ x5 _ = X5
      have s_x5 := alloc_same hX_x5 hn_x5
      have d_x5 := alloc_at hX_x5
      refine ⟨_, rfl, _, rfl, v, _, _, V.int (r[q] : Nat), rfl, rfl, SqL.of (by (first | assumption | exact upd_same | (refine Same.at (by assumption) ?_; (first | assumption | exact upd_same | (refine Same.at (by assumption) ?_; (first | assumption | exact upd_same | (refine Same.at (by assumption) ?_; (first | assumption | exact upd_same | (refine Same.at (by assumption) ?_; (first | assumption | exact upd_same | (refine Same.at (by assumption) ?_; (first | assumption | exact upd_same | (refine Same.at (by assumption) ?_; (first | assumption | exact upd_same | (refine Same.at (by assumption) ?_; (first | assumption | exact upd_same | (refine Same.at (by assumption) ?_; (first | assumption | exact upd_same | (refine Same.at (by assumption) ?_; (first | assumption | exact upd_same | (refine Same.at (by assumption) ?_; (first | assumption | exact upd_same | (refine Same.at (by assumption) ?_; (first | assumption | exact upd_same | (refine Same.at (by assumption) ?_; (first | assumption | exact upd_same | (refine Same.at (by assumption) ?_; (first | assumption | exact upd_same | (refine Same.at (by assumption) ?_; (first | assumption | exact upd_same | (refine Same.at (by assumption) ?_; (first | assumption | exact upd_same | (refine Same.at (by assumption) ?_; (first | assumption | exact upd_same | (refine Same.at (by assumption) ?_; (first | assumption | exact upd_same | (refine Same.at (by assumption) ?_; (first | assumption | exact upd_same | (refine Same.at (by assumption) ?_; (first | assumption | exact upd_same | (refine Same.at (by assumption) ?_; (first | assumption | exact upd_same | (refine Same.at (by assumption) ?_; (first | assumption | exact upd_same | (refine Same.at (by assumption) ?_; (first | assumption | exact upd_same | (refine Same.at (by assumption) ?_; (first | assumption | exact upd_same | (refine Same.at (by assumption) ?_; (first | assumption | exact upd_same | (refine Same.at (by assumption) ?_; (first | assumption | exact upd_same | (refine Same.at (by assumption) ?_; (first | assumption | exact upd_same | (refine Same.at (by assumption) ?_; (first | assumption | exact upd_same | (refine Same.at (by assumption) ?_; (first | assumption | exact upd_same | (refine Same.at (by assumption) ?_; (first | assumption | exact upd_same | (refine Same.at (by assumption) ?_; (first | assumption | exact upd_same | (refine Same.at (by assumption) ?_; (first | assumption | exact upd_same | (refine Same.at (by assumption) ?_; (first | assumption | exact upd_same | (refine Same.at (by assumption) ?_; (first | assumption | exact upd_same | (refine Same.at (by assumption) ?_; (first | assumption | exact upd_same | (refine Same.at (by assumption) ?_; (first | assumption | exact upd_same | (refine Same.at (by assumption) ?_; (first | assumption | exact upd_same | (refine Same.at (by assumption) ?_; (first | assumption | exact upd_same | (refine Same.at (by assumption) ?_; (first | assumption | exact upd_same | (refine Same.at (by assumption) ?_; (first | assumption | exact upd_same | (refine Same.at (by assumption) ?_; (first | assumption | exact upd_same)))))))))))))))))))))))))))))))))))))))))))))))))))))))))))))))))))))))))))))))))), atI_nat (by rw [List.getElem?_map, List.getElem?_eq_getElem hq]; rfl), (by show 1 ≤ sizeLine; decide), ?_⟩
      intro x6 hn_x6
      generalize hX_x6 : L2.upd _ x6 _ = X6
      have s_x6 := alloc_same hX_x6 hn_x6
      have d_x6 := alloc_at hX_x6
      refine ⟨(by show 1 ≤ sizeLine; decide), ?_⟩
      intro x7 hn_x7
      generalize hX_x7 : L2.upd _ x7 _ = X7
      have s_x7 := alloc_same hX_x7 hn_x7
      have d_x7 := alloc_at hX_x7
      refine ⟨x5, x7, _, _, rfl, rfl, (by (first | assumption | exact upd_same | (refine Same.at (by assumption) ?_; (first | assumption | exact upd_same | (refine Same.at (by assumption) ?_; (first | assumption | exact upd_same | (refine Same.at (by assumption) ?_; (first | assumption | exact upd_same | (refine Same.at (by assumption) ?_; (first | assumption | exact upd_same | (refine Same.at (by assumption) ?_; (first | assumption | exact upd_same | (refine Same.at (by assumption) ?_; (first | assumption | exact upd_same | (refine Same.at (by assumption) ?_; (first | assumption | exact upd_same | (refine Same.at (by assumption) ?_; (first | assumption | exact upd_same | (refine Same.at (by assumption) ?_; (first | assumption | exact upd_same | (refine Same.at (by assumption) ?_; (first | assumption | exact upd_same | (refine Same.at (by assumption) ?_; (first | assumption | exact upd_same | (refine Same.at (by assumption) ?_; (first | assumption | exact upd_same | (refine Same.at (by assumption) ?_; (first | assumption | exact upd_same | (refine Same.at (by assumption) ?_; (first | assumption | exact upd_same)))))))))))))))))))))))))))))), (by (first | assumption | exact upd_same | (refine Same.at (by assumption) ?_; (first | assumption | exact upd_same | (refine Same.at (by assumption) ?_; (first | assumption | exact upd_same | (refine Same.at (by assumption) ?_; (first | assumption | exact upd_same | (refine Same.at (by assumption) ?_; (first | assumption | exact upd_same | (refine Same.at (by assumption) ?_; (first | assumption | exact upd_same | (refine Same.at (by assumption) ?_; (first | assumption | exact upd_same | (refine Same.at (by assumption) ?_; (first | assumption | exact upd_same | (refine Same.at (by assumption) ?_; (first | assumption | exact upd_same | (refine Same.at (by assumption) ?_; (first | assumption | exact upd_same | (refine Same.at (by assumption) ?_; (first | assumption | exact upd_same | (refine Same.at (by assumption) ?_; (first | assumption | exact upd_same | (refine Same.at (by assumption) ?_; (first | assumption | exact upd_same | (refine Same.at (by assumption) ?_; (first | assumption | exact upd_same | (refine Same.at (by assumption) ?_; (first | assumption | exact upd_same)))))))))))))))))))))))))))))), ?_, ?_⟩
      · exact small_le (by simp [placesV]; omega)
      intro x8 hn_x8
      generalize hX_x8 : L2.upd _ x8 _ = X8
      have s_x8 := alloc_same hX_x8 hn_x8
      have d_x8 := alloc_at hX_x8
      refine ⟨_, rfl, _, rfl, _, _, rfl, rfl, _, rfl, v, _, rfl, SqL.of (by (first | assumption | exact upd_same | (refine Same.at (by assumption) ?_; (first | assumption | exact upd_same | (refine Same.at (by assumption) ?_; (first | assumption | exact upd_same | (refine Same.at (by assumption) ?_; (first | assumption | exact upd_same | (refine Same.at (by assumption) ?_; (first | assumption | exact upd_same | (refine Same.at (by assumption) ?_; (first | assumption | exact upd_same | (refine Same.at (by assumption) ?_; (first | assumption | exact upd_same | (refine Same.at (by assumption) ?_; (first | assumption | exact upd_same | (refine Same.at (by assumption) ?_; (first | assumption | exact upd_same | (refine Same.at (by assumption) ?_; (first | assumption | exact upd_same | (refine Same.at (by assumption) ?_; (first | assumption | exact upd_same | (refine Same.at (by assumption) ?_; (first | assumption | exact upd_same | (refine Same.at (by assumption) ?_; (first | assumption | exact upd_same | (refine Same.at (by assumption) ?_; (first | assumption | exact upd_same | (refine Same.at (by assumption) ?_; (first | assumption | exact upd_same | (refine Same.at (by assumption) ?_; (first | assumption | exact upd_same | (refine Same.at (by assumption) ?_; (first | assumption | exact upd_same | (refine Same.at (by assumption) ?_; (first | assumption | exact upd_same | (refine Same.at (by assumption) ?_; (first | assumption | exact upd_same | (refine Same.at (by assumption) ?_; (first | assumption | exact upd_same | (refine Same.at (by assumption) ?_; (first | assumption | exact upd_same | (refine Same.at (by assumption) ?_; (first | assumption | exact upd_same | (refine Same.at (by assumption) ?_; (first | assumption | exact upd_same | (refine Same.at (by assumption) ?_; (first | assumption | exact upd_same | (refine Same.at (by assumption) ?_; (first | assumption | exact upd_same | (refine Same.at (by assumption) ?_; (first | assumption | exact upd_same | (refine Same.at (by assumption) ?_; (first | assumption | exact upd_same | (refine Same.at (by assumption) ?_; (first | assumption | exact upd_same | (refine Same.at (by assumption) ?_; (first | assumption | exact upd_same | (refine Same.at (by assumption) ?_; (first | assumption | exact upd_same | (refine Same.at (by assumption) ?_; (first | assumption | exact upd_same | (refine Same.at (by assumption) ?_; (first | assumption | exact upd_same | (refine Same.at (by assumption) ?_; (first | assumption | exact upd_same | (refine Same.at (by assumption) ?_; (first | assumption | exact upd_same | (refine Same.at (by assumption) ?_; (first | assumption | exact upd_same | (refine Same.at (by assumption) ?_; (first | assumption | exact upd_same | (refine Same.at (by assumption) ?_; (first | assumption | exact upd_same | (refine Same.at (by assumption) ?_; (first | assumption | exact upd_same | (refine Same.at (by assumption) ?_; (first | assumption | exact upd_same | (refine Same.at (by assumption) ?_; (first | assumption | exact upd_same | (refine Same.at (by assumption) ?_; (first | assumption | exact upd_same)))))))))))))))))))))))))))))))))))))))))))))))))))))))))))))))))))))))))))))))))), ?_⟩
      rw [c2]
      intro x9 hn_x9
      generalize hX_x9 : L2.upd _ x9 _ = X9
      have s_x9 := alloc_same hX_x9 hn_x9
      have d_x9 := alloc_at hX_x9
      refine ⟨x8, x9, _, _, rfl, rfl, (by (first | assumption | exact upd_same | (refine Same.at (by assumption) ?_; (first | assumption | exact upd_same | (refine Same.at (by assumption) ?_; (first | assumption | exact upd_same | (refine Same.at (by assumption) ?_; (first | assumption | exact upd_same | (refine Same.at (by assumption) ?_; (first | assumption | exact upd_same | (refine Same.at (by assumption) ?_; (first | assumption | exact upd_same | (refine Same.at (by assumption) ?_; (first | assumption | exact upd_same | (refine Same.at (by assumption) ?_; (first | assumption | exact upd_same | (refine Same.at (by assumption) ?_; (first | assumption | exact upd_same | (refine Same.at (by assumption) ?_; (first | assumption | exact upd_same | (refine Same.at (by assumption) ?_; (first | assumption | exact upd_same | (refine Same.at (by assumption) ?_; (first | assumption | exact upd_same | (refine Same.at (by assumption) ?_; (first | assumption | exact upd_same | (refine Same.at (by assumption) ?_; (first | assumption | exact upd_same | (refine Same.at (by assumption) ?_; (first | assumption | exact upd_same)))))))))))))))))))))))))))))), (by (first | assumption | exact upd_same | (refine Same.at (by assumption) ?_; (first | assumption | exact upd_same | (refine Same.at (by assumption) ?_; (first | assumption | exact upd_same | (refine Same.at (by assumption) ?_; (first | assumption | exact upd_same | (refine Same.at (by assumption) ?_; (first | assumption | exact upd_same | (refine Same.at (by assumption) ?_; (first | assumption | exact upd_same | (refine Same.at (by assumption) ?_; (first | assumption | exact upd_same | (refine Same.at (by assumption) ?_; (first | assumption | exact upd_same | (refine Same.at (by assumption) ?_; (first | assumption | exact upd_same | (refine Same.at (by assumption) ?_; (first | assumption | exact upd_same | (refine Same.at (by assumption) ?_; (first | assumption | exact upd_same | (refine Same.at (by assumption) ?_; (first | assumption | exact upd_same | (refine Same.at (by assumption) ?_; (first | assumption | exact upd_same | (refine Same.at (by assumption) ?_; (first | assumption | exact upd_same | (refine Same.at (by assumption) ?_; (first | assumption | exact upd_same)))))))))))))))))))))))))))))), ?_, ?_⟩
      · exact small_le (by simp [placesV]; omega)
      intro x10 hn_x10
      generalize hX_x10 : L2.upd _ x10 _ = X10
      have s_x10 := alloc_same hX_x10 hn_x10
      have d_x10 := alloc_at hX_x10
      refine ⟨(by show 3 ≤ sizeLine; decide), ?_⟩
      intro x11 hn_x11
      generalize hX_x11 : L2.upd _ x11 _ = X11
      have s_x11 := alloc_same hX_x11 hn_x11
      have d_x11 := alloc_at hX_x11
      have gm : X11 m' = some (.lst us) := (by (first | assumption | exact upd_same | (refine Same.at (by assumption) ?_; (first | assumption | exact upd_same | (refine Same.at (by assumption) ?_; (first | assumption | exact upd_same | (refine Same.at (by assumption) ?_; (first | assumption | exact upd_same | (refine Same.at (by assumption) ?_; (first | assumption | exact upd_same | (refine Same.at (by assumption) ?_; (first | assumption | exact upd_same | (refine Same.at (by assumption) ?_; (first | assumption | exact upd_same | (refine Same.at (by assumption) ?_; (first | assumption | exact upd_same | (refine Same.at (by assumption) ?_; (first | assumption | exact upd_same | (refine Same.at (by assumption) ?_; (first | assumption | exact upd_same | (refine Same.at (by assumption) ?_; (first | assumption | exact upd_same | (refine Same.at (by assumption) ?_; (first | assumption | exact upd_same | (refine Same.at (by assumption) ?_; (first | assumption | exact upd_same | (refine Same.at (by assumption) ?_; (first | assumption | exact upd_same | (refine Same.at (by assumption) ?_; (first | assumption | exact upd_same | (refine Same.at (by assumption) ?_; (first | assumption | exact upd_same | (refine Same.at (by assumption) ?_; (first | assumption | exact upd_same | (refine Same.at (by assumption) ?_; (first | assumption | exact upd_same | (refine Same.at (by assumption) ?_; (first | assumption | exact upd_same | (refine Same.at (by assumption) ?_; (first | assumption | exact upd_same | (refine Same.at (by assumption) ?_; (first | assumption | exact upd_same | (refine Same.at (by assumption) ?_; (first | assumption | exact upd_same | (refine Same.at (by assumption) ?_; (first | assumption | exact upd_same | (refine Same.at (by assumption) ?_; (first | assumption | exact upd_same | (refine Same.at (by assumption) ?_; (first | assumption | exact upd_same | (refine Same.at (by assumption) ?_; (first | assumption | exact upd_same | (refine Same.at (by assumption) ?_; (first | assumption | exact upd_same | (refine Same.at (by assumption) ?_; (first | assumption | exact upd_same | (refine Same.at (by assumption) ?_; (first | assumption | exact upd_same | (refine Same.at (by assumption) ?_; (first | assumption | exact upd_same | (refine Same.at (by assumption) ?_; (first | assumption | exact upd_same | (refine Same.at (by assumption) ?_; (first | assumption | exact upd_same | (refine Same.at (by assumption) ?_; (first | assumption | exact upd_same | (refine Same.at (by assumption) ?_; (first | assumption | exact upd_same | (refine Same.at (by assumption) ?_; (first | assumption | exact upd_same | (refine Same.at (by assumption) ?_; (first | assumption | exact upd_same | (refine Same.at (by assumption) ?_; (first | assumption | exact upd_same | (refine Same.at (by assumption) ?_; (first | assumption | exact upd_same | (refine Same.at (by assumption) ?_; (first | assumption | exact upd_same | (refine Same.at (by assumption) ?_; (first | assumption | exact upd_same | (refine Same.at (by assumption) ?_; (first | assumption | exact upd_same))))))))))))))))))))))))))))))))))))))))))))))))))))))))))))))))))))))))))))))))))
      refine ⟨m', x11, _, _, rfl, rfl, gm, (by (first | assumption | exact upd_same | (refine Same.at (by assumption) ?_; (first | assumption | exact upd_same | (refine Same.at (by assumption) ?_; (first | assumption | exact upd_same | (refine Same.at (by assumption) ?_; (first | assumption | exact upd_same | (refine Same.at (by assumption) ?_; (first | assumption | exact upd_same | (refine Same.at (by assumption) ?_; (first | assumption | exact upd_same | (refine Same.at (by assumption) ?_; (first | assumption | exact upd_same | (refine Same.at (by assumption) ?_; (first | assumption | exact upd_same | (refine Same.at (by assumption) ?_; (first | assumption | exact upd_same | (refine Same.at (by assumption) ?_; (first | assumption | exact upd_same | (refine Same.at (by assumption) ?_; (first | assumption | exact upd_same | (refine Same.at (by assumption) ?_; (first | assumption | exact upd_same | (refine Same.at (by assumption) ?_; (first | assumption | exact upd_same | (refine Same.at (by assumption) ?_; (first | assumption | exact upd_same | (refine Same.at (by assumption) ?_; (first | assumption | exact upd_same)))))))))))))))))))))))))))))), ?_, ?_⟩
      · exact small_le (by simp; omega)
      intro x12 hn_x12
      generalize hX_x12 : L2.upd _ x12 _ = X12
      have s_x12 := alloc_same hX_x12 hn_x12
      have d_x12 := alloc_at hX_x12
      have f3 : X12 x3 = some (.lst (placesV (r.take q) ++ placesV (r.drop (q + 1)))) := (by (first | assumption | exact upd_same | (refine Same.at (by assumption) ?_; (first | assumption | exact upd_same | (refine Same.at (by assumption) ?_; (first | assumption | exact upd_same | (refine Same.at (by assumption) ?_; (first | assumption | exact upd_same | (refine Same.at (by assumption) ?_; (first | assumption | exact upd_same | (refine Same.at (by assumption) ?_; (first | assumption | exact upd_same | (refine Same.at (by assumption) ?_; (first | assumption | exact upd_same | (refine Same.at (by assumption) ?_; (first | assumption | exact upd_same | (refine Same.at (by assumption) ?_; (first | assumption | exact upd_same | (refine Same.at (by assumption) ?_; (first | assumption | exact upd_same | (refine Same.at (by assumption) ?_; (first | assumption | exact upd_same | (refine Same.at (by assumption) ?_; (first | assumption | exact upd_same | (refine Same.at (by assumption) ?_; (first | assumption | exact upd_same | (refine Same.at (by assumption) ?_; (first | assumption | exact upd_same | (refine Same.at (by assumption) ?_; (first | assumption | exact upd_same | (refine Same.at (by assumption) ?_; (first | assumption | exact upd_same | (refine Same.at (by assumption) ?_; (first | assumption | exact upd_same | (refine Same.at (by assumption) ?_; (first | assumption | exact upd_same | (refine Same.at (by assumption) ?_; (first | assumption | exact upd_same | (refine Same.at (by assumption) ?_; (first | assumption | exact upd_same | (refine Same.at (by assumption) ?_; (first | assumption | exact upd_same | (refine Same.at (by assumption) ?_; (first | assumption | exact upd_same | (refine Same.at (by assumption) ?_; (first | assumption | exact upd_same | (refine Same.at (by assumption) ?_; (first | assumption | exact upd_same | (refine Same.at (by assumption) ?_; (first | assumption | exact upd_same | (refine Same.at (by assumption) ?_; (first | assumption | exact upd_same | (refine Same.at (by assumption) ?_; (first | assumption | exact upd_same | (refine Same.at (by assumption) ?_; (first | assumption | exact upd_same | (refine Same.at (by assumption) ?_; (first | assumption | exact upd_same | (refine Same.at (by assumption) ?_; (first | assumption | exact upd_same | (refine Same.at (by assumption) ?_; (first | assumption | exact upd_same | (refine Same.at (by assumption) ?_; (first | assumption | exact upd_same | (refine Same.at (by assumption) ?_; (first | assumption | exact upd_same | (refine Same.at (by assumption) ?_; (first | assumption | exact upd_same | (refine Same.at (by assumption) ?_; (first | assumption | exact upd_same | (refine Same.at (by assumption) ?_; (first | assumption | exact upd_same | (refine Same.at (by assumption) ?_; (first | assumption | exact upd_same | (refine Same.at (by assumption) ?_; (first | assumption | exact upd_same | (refine Same.at (by assumption) ?_; (first | assumption | exact upd_same | (refine Same.at (by assumption) ?_; (first | assumption | exact upd_same | (refine Same.at (by assumption) ?_; (first | assumption | exact upd_same))))))))))))))))))))))))))))))))))))))))))))))))))))))))))))))))))))))))))))))))))
      have f4 : X12 x4 = some (.lst (placesV r).reverse) := (by (first | assumption | exact upd_same | (refine Same.at (by assumption) ?_; (first | assumption | exact upd_same | (refine Same.at (by assumption) ?_; (first | assumption | exact upd_same | (refine Same.at (by assumption) ?_; (first | assumption | exact upd_same | (refine Same.at (by assumption) ?_; (first | assumption | exact upd_same | (refine Same.at (by assumption) ?_; (first | assumption | exact upd_same | (refine Same.at (by assumption) ?_; (first | assumption | exact upd_same | (refine Same.at (by assumption) ?_; (first | assumption | exact upd_same | (refine Same.at (by assumption) ?_; (first | assumption | exact upd_same | (refine Same.at (by assumption) ?_; (first | assumption | exact upd_same | (refine Same.at (by assumption) ?_; (first | assumption | exact upd_same | (refine Same.at (by assumption) ?_; (first | assumption | exact upd_same | (refine Same.at (by assumption) ?_; (first | assumption | exact upd_same | (refine Same.at (by assumption) ?_; (first | assumption | exact upd_same | (refine Same.at (by assumption) ?_; (first | assumption | exact upd_same | (refine Same.at (by assumption) ?_; (first | assumption | exact upd_same | (refine Same.at (by assumption) ?_; (first | assumption | exact upd_same | (refine Same.at (by assumption) ?_; (first | assumption | exact upd_same | (refine Same.at (by assumption) ?_; (first | assumption | exact upd_same | (refine Same.at (by assumption) ?_; (first | assumption | exact upd_same | (refine Same.at (by assumption) ?_; (first | assumption | exact upd_same | (refine Same.at (by assumption) ?_; (first | assumption | exact upd_same | (refine Same.at (by assumption) ?_; (first | assumption | exact upd_same | (refine Same.at (by assumption) ?_; (first | assumption | exact upd_same | (refine Same.at (by assumption) ?_; (first | assumption | exact upd_same | (refine Same.at (by assumption) ?_; (first | assumption | exact upd_same | (refine Same.at (by assumption) ?_; (first | assumption | exact upd_same | (refine Same.at (by assumption) ?_; (first | assumption | exact upd_same | (refine Same.at (by assumption) ?_; (first | assumption | exact upd_same | (refine Same.at (by assumption) ?_; (first | assumption | exact upd_same | (refine Same.at (by assumption) ?_; (first | assumption | exact upd_same | (refine Same.at (by assumption) ?_; (first | assumption | exact upd_same | (refine Same.at (by assumption) ?_; (first | assumption | exact upd_same | (refine Same.at (by assumption) ?_; (first | assumption | exact upd_same | (refine Same.at (by assumption) ?_; (first | assumption | exact upd_same | (refine Same.at (by assumption) ?_; (first | assumption | exact upd_same | (refine Same.at (by assumption) ?_; (first | assumption | exact upd_same | (refine Same.at (by assumption) ?_; (first | assumption | exact upd_same | (refine Same.at (by assumption) ?_; (first | assumption | exact upd_same | (refine Same.at (by assumption) ?_; (first | assumption | exact upd_same | (refine Same.at (by assumption) ?_; (first | assumption | exact upd_same))))))))))))))))))))))))))))))))))))))))))))))))))))))))))))))))))))))))))))))))))
      have f6 : X12 x6 = some (.lst [V.int (r[q] : Nat)]) := (by (first | assumption | exact upd_same | (refine Same.at (by assumption) ?_; (first | assumption | exact upd_same | (refine Same.at (by assumption) ?_; (first | assumption | exact upd_same | (refine Same.at (by assumption) ?_; (first | assumption | exact upd_same | (refine Same.at (by assumption) ?_; (first | assumption | exact upd_same | (refine Same.at (by assumption) ?_; (first | assumption | exact upd_same | (refine Same.at (by assumption) ?_; (first | assumption | exact upd_same | (refine Same.at (by assumption) ?_; (first | assumption | exact upd_same | (refine Same.at (by assumption) ?_; (first | assumption | exact upd_same | (refine Same.at (by assumption) ?_; (first | assumption | exact upd_same | (refine Same.at (by assumption) ?_; (first | assumption | exact upd_same | (refine Same.at (by assumption) ?_; (first | assumption | exact upd_same | (refine Same.at (by assumption) ?_; (first | assumption | exact upd_same | (refine Same.at (by assumption) ?_; (first | assumption | exact upd_same | (refine Same.at (by assumption) ?_; (first | assumption | exact upd_same | (refine Same.at (by assumption) ?_; (first | assumption | exact upd_same | (refine Same.at (by assumption) ?_; (first | assumption | exact upd_same | (refine Same.at (by assumption) ?_; (first | assumption | exact upd_same | (refine Same.at (by assumption) ?_; (first | assumption | exact upd_same | (refine Same.at (by assumption) ?_; (first | assumption | exact upd_same | (refine Same.at (by assumption) ?_; (first | assumption | exact upd_same | (refine Same.at (by assumption) ?_; (first | assumption | exact upd_same | (refine Same.at (by assumption) ?_; (first | assumption | exact upd_same | (refine Same.at (by assumption) ?_; (first | assumption | exact upd_same | (refine Same.at (by assumption) ?_; (first | assumption | exact upd_same | (refine Same.at (by assumption) ?_; (first | assumption | exact upd_same | (refine Same.at (by assumption) ?_; (first | assumption | exact upd_same | (refine Same.at (by assumption) ?_; (first | assumption | exact upd_same | (refine Same.at (by assumption) ?_; (first | assumption | exact upd_same | (refine Same.at (by assumption) ?_; (first | assumption | exact upd_same | (refine Same.at (by assumption) ?_; (first | assumption | exact upd_same | (refine Same.at (by assumption) ?_; (first | assumption | exact upd_same | (refine Same.at (by assumption) ?_; (first | assumption | exact upd_same | (refine Same.at (by assumption) ?_; (first | assumption | exact upd_same | (refine Same.at (by assumption) ?_; (first | assumption | exact upd_same | (refine Same.at (by assumption) ?_; (first | assumption | exact upd_same | (refine Same.at (by assumption) ?_; (first | assumption | exact upd_same | (refine Same.at (by assumption) ?_; (first | assumption | exact upd_same | (refine Same.at (by assumption) ?_; (first | assumption | exact upd_same | (refine Same.at (by assumption) ?_; (first | assumption | exact upd_same | (refine Same.at (by assumption) ?_; (first | assumption | exact upd_same))))))))))))))))))))))))))))))))))))))))))))))))))))))))))))))))))))))))))))))))))
      have f10 : X12 x10 = some (.lst (placesV (r.take q) ++ [V.ref x6] ++ placesV (r.drop (q + 1)))) := (by (first | assumption | exact upd_same | (refine Same.at (by assumption) ?_; (first | assumption | exact upd_same | (refine Same.at (by assumption) ?_; (first | assumption | exact upd_same | (refine Same.at (by assumption) ?_; (first | assumption | exact upd_same | (refine Same.at (by assumption) ?_; (first | assumption | exact upd_same | (refine Same.at (by assumption) ?_; (first | assumption | exact upd_same | (refine Same.at (by assumption) ?_; (first | assumption | exact upd_same | (refine Same.at (by assumption) ?_; (first | assumption | exact upd_same | (refine Same.at (by assumption) ?_; (first | assumption | exact upd_same | (refine Same.at (by assumption) ?_; (first | assumption | exact upd_same | (refine Same.at (by assumption) ?_; (first | assumption | exact upd_same | (refine Same.at (by assumption) ?_; (first | assumption | exact upd_same | (refine Same.at (by assumption) ?_; (first | assumption | exact upd_same | (refine Same.at (by assumption) ?_; (first | assumption | exact upd_same | (refine Same.at (by assumption) ?_; (first | assumption | exact upd_same | (refine Same.at (by assumption) ?_; (first | assumption | exact upd_same | (refine Same.at (by assumption) ?_; (first | assumption | exact upd_same | (refine Same.at (by assumption) ?_; (first | assumption | exact upd_same | (refine Same.at (by assumption) ?_; (first | assumption | exact upd_same | (refine Same.at (by assumption) ?_; (first | assumption | exact upd_same | (refine Same.at (by assumption) ?_; (first | assumption | exact upd_same | (refine Same.at (by assumption) ?_; (first | assumption | exact upd_same | (refine Same.at (by assumption) ?_; (first | assumption | exact upd_same | (refine Same.at (by assumption) ?_; (first | assumption | exact upd_same | (refine Same.at (by assumption) ?_; (first | assumption | exact upd_same | (refine Same.at (by assumption) ?_; (first | assumption | exact upd_same | (refine Same.at (by assumption) ?_; (first | assumption | exact upd_same | (refine Same.at (by assumption) ?_; (first | assumption | exact upd_same | (refine Same.at (by assumption) ?_; (first | assumption | exact upd_same | (refine Same.at (by assumption) ?_; (first | assumption | exact upd_same | (refine Same.at (by assumption) ?_; (first | assumption | exact upd_same | (refine Same.at (by assumption) ?_; (first | assumption | exact upd_same | (refine Same.at (by assumption) ?_; (first | assumption | exact upd_same | (refine Same.at (by assumption) ?_; (first | assumption | exact upd_same | (refine Same.at (by assumption) ?_; (first | assumption | exact upd_same | (refine Same.at (by assumption) ?_; (first | assumption | exact upd_same | (refine Same.at (by assumption) ?_; (first | assumption | exact upd_same | (refine Same.at (by assumption) ?_; (first | assumption | exact upd_same | (refine Same.at (by assumption) ?_; (first | assumption | exact upd_same | (refine Same.at (by assumption) ?_; (first | assumption | exact upd_same | (refine Same.at (by assumption) ?_; (first | assumption | exact upd_same))))))))))))))))))))))))))))))))))))))))))))))))))))))))))))))))))))))))))))))))))
      have sX : Same H17 X12 := s_x1.trans (s_x2.trans (s_x3.trans (s_x4.trans (s_x5.trans (s_x6.trans (s_x7.trans (s_x8.trans (s_x9.trans (s_x10.trans (s_x11.trans s_x12))))))))))
      have Y2 := (G17.same s_x1).same s_x2
      have Y3 := Y2.same s_x3
      have Y5 := (Y3.same s_x4).same s_x5
      have Y9 := (((Y5.same s_x6).same s_x7).same s_x8).same s_x9
      have Y11 := (Y9.same s_x10).same s_x11
      have B17 : But g H H17 := B15.trans ((But.same s4).trans b17)
      refine ⟨_, rfl, k x12 _ X12 (B17.free G17 (s_x1.free (s_x2.free (s_x3.free (s_x4.free (s_x5.free (s_x6.free (s_x7.free (s_x8.free (s_x9.free (s_x10.free (s_x11.free hn_x12)))))))))))) (B17.trans (But.same sX)) ((G17.same sX).mono (by omega)) d_x12 (by simp; omega) fun u hu => ?_⟩
      rcases List.mem_append.mp hu with hu | hu
      · exact (far u hu).but ((But.same s4).trans (b17.trans (But.same sX)))
      · simp only [List.mem_cons, List.not_mem_nil, or_false] at hu
        rcases hu with rfl | rfl | rfl
        · exact Far.lst (xs := placesV (r.take q) ++ placesV (r.drop (q + 1))) f3 (Y2.ne hn_x3) (fun H' _ => ⟨_, (Items.places _).append (Items.places _)⟩) (by simp [placesV]; omega)
        · exact Far.lst (xs := (placesV r).reverse) f4 (Y3.ne hn_x4) (fun H' _ => ⟨_, (show (placesV r).reverse = placesV r.reverse by simp [placesV]) ▸ Items.places r.reverse⟩) (by simp [placesV]; omega)
        · exact Far.lst (xs := placesV (r.take q) ++ [V.ref x6] ++ placesV (r.drop (q + 1))) f10 (Y9.ne hn_x10) (fun H' b' => ⟨_, ((Items.places _).append (.cons (.lst (b' _ _ (Y5.ne hn_x6) f6)) .nil)).append (Items.places _)⟩) (by simp [placesV]; omega)
    · exact ⟨_, rfl, k m' us H16 hm' (B15.trans (But.same s4)) ((G15.same s4).mono (by omega)) (s4 _ _ dm') (by omega) fun u hu => (far u hu).but (But.same s4)⟩
/-! open_places -/
def sp_open_places : Sp := fun vs H Q _ => ∃ (l js : List Nat), vs = [.str (S l), .str (S js)] ∧ l.length ≤ 50000 ∧ wordB l = true ∧ js.length ≤ 50000 ∧ jointsB js = true ∧ ∀ p H', H p = none → Same H H' → H' p = some (.lst ((openL l js).map fun i => .int (i : Nat))) → Q (.ref p) H'
theorem ok_open_places (T : Txt K mg) : FnOk P w K mg base CX0 4 T.f_open_places T.fd_open_places P_open_places (sp_open_places) := by
  have nd : N_open_places.Nodup := sc_open_places.nd
  refine T.F_open_places.ok sc_open_places (fun vs H Q E h => ?_) (fun cdv A outer s H vs Q E hr h => ?_)
  · obtain ⟨l, js, rfl, _⟩ := h
    rfl
  · obtain ⟨l, js, rfl, hl, hw, hjl, hj, k⟩ := h
    refine ⟨_, (pss_cons (ps_expr (pe_call (ok_check_word T) (hr.mono (by decide)) rfl T.m_check_word T.F_check_word.kp T.b_check_word .nil pass0 (pa_cons (pv 0) pa_nil)))
      (pss_cons (ps_expr (pe_call (ok_check_joints T) (hr.mono (by decide)) rfl T.m_check_joints T.F_check_joints.kp T.b_check_joints .nil pass0 (pa_cons (pv 1) pa_nil)))
      (pss_one (ps_ret (pe_lc (own := [("place", 2), ("letter", 3)]) (hc := rfl) (hN := nd) (pi_enumS (by rfl) T.z_enumerate (pa_cons (pv 0) pa_nil)) (blkOk_by (N := N_open_places) (sc := defScope s_open_places) (by decide +kernel)) (fun _ _ _ _ _ => by exact (pg_tupK K (n := 2) rfl (pgs_cons (by exact (pg_name (i := 2) nd rfl (Or.inl rfl))) (pgs_cons (by exact (pg_name (i := 3) nd rfl (Or.inl rfl))) pgs_nil)))) (fun _ _ _ _ _ => by exact (pts_one (pt_cmpR op_in_sign (pv 3) (pv 1) rfl))) (fun _ _ _ _ _ => by exact (pv 2))))))), ?_⟩
    refine ⟨_, rfl, l, rfl, hl, hw, fun H1 s1 => ⟨_, rfl, js, rfl, hjl, hj, fun H2 s2 => ?_⟩⟩
    refine ⟨_, rfl, _, rfl, fun D hD => ?_⟩
    refine lc_it walk_enumS (fun i H' => Same H2 H' ∧ H' D = some (.lst (((openL (l.take i) js)).map fun i => V.int (i : Nat)))) ⟨Same.upd hD, by rw [upd_same]; rfl⟩ (fun _ _ _ _ => trivial) ?_ ?_
    · rintro i x H3 H4 hi ⟨s3, d3⟩ ⟨T1, x1, y1, rfl, hT, rfl, h1, h2⟩
      replace h2 : (l[i]?).map (fun c => V.str ⟨#[c]⟩) = some y1 := by rw [← at_S]; exact h2
      have h1' : V.int (i : Nat) = x1 := Option.some.inj h1
      subst h1'
      obtain ⟨c, hc, rfl⟩ := Option.map_eq_some_iff.mp h2
      have nT : D ≠ T1 := ne_of_none d3 hT
      have ee := openL_snoc js hc
      have hlen := openL_len (l.take i) js
      refine ⟨T1, _, rfl, SqT.of upd_same, rfl, _, _, rfl, _, _, rfl, rfl, rfl, ?_⟩
      refine ⟨_, rfl, _, rfl, c, S js, rfl, rfl, _, rfl, ?_⟩
      refine ite2 (fun z => ?_) (fun z => ?_)
      · rw [if_pos (of_decide_eq_true z)] at ee
        refine ⟨_, rfl, _, by rw [upd_ne nT]; exact d3, ?_, fun b o e => ?_, ?_⟩
        · rw [List.length_map]; rw [List.length_take] at hlen; exact small_line (by omega)
        · rw [upd_ne (ne_of_none e hD)]; exact Same.upd hT _ _ (s3 b o e)
        · rw [upd_same, ee]; simp
      · rw [if_neg (fun q => z (decide_eq_true q))] at ee
        exact ⟨s3.trans (Same.upd hT), by rw [upd_ne nT, d3, ee]; simp⟩
    · rintro H3 ⟨s3, d3⟩
      rw [size_S, List.take_length] at d3
      exact k D H3 (s1.free (s2.free hD)) ((s1.trans s2).trans s3) d3
/-! is_road -/
def sp_is_road : Sp := fun vs H Q _ => ∃ (l js : List Nat) (v : V) (o : Option (List (Option Int))), vs = [.str (S l), .str (S js), v] ∧ Val H v o ∧ l.length ≤ 50000 ∧ wordB l = true ∧ js.length ≤ 50000 ∧ jointsB js = true ∧ (∀ os, o = some os → os.length ≤ 50000) ∧ ∀ H', Same H H' → Q (.bl (roadB js l o)) H'
theorem ok_is_road (T : Txt K mg) : FnOk P w K mg base CX0 4 T.f_is_road T.fd_is_road P_is_road (sp_is_road) := by
  have nd : N_is_road.Nodup := sc_is_road.nd
  refine T.F_is_road.ok sc_is_road (fun vs H Q E h => ?_) (fun cdv A outer s H vs Q E hr h => ?_)
  · obtain ⟨l, js, v, o, rfl, _⟩ := h
    rfl
  · obtain ⟨l, js, v, o, rfl, hv, hl, hw, hjl, hj, hol, k⟩ := h
    refine ⟨_, (pss_cons (ps_expr (pe_call (ok_check_word T) (hr.mono (by decide)) rfl T.m_check_word T.F_check_word.kp T.b_check_word .nil pass0 (pa_cons (pv 0) pa_nil)))
      (pss_cons (ps_expr (pe_call (ok_check_joints T) (hr.mono (by decide)) rfl T.m_check_joints T.F_check_joints.kp T.b_check_joints .nil pass0 (pa_cons (pv 1) pa_nil)))
      (pss_one (ps_ret (pe_cmpR op_notN (pe_call (ok__walked_any T) (hr.mono (by decide)) rfl T.m__walked T.F__walked.kp T.b__walked .nil pass0 (pa_cons (pv 0) (pa_cons (pv 1) (pa_cons (pv 2) pa_nil)))) pe_non (nomark _)))))), ?_⟩
    refine ⟨_, rfl, l, rfl, hl, hw, fun H1 s1 => ⟨_, rfl, js, rfl, hjl, hj, fun H2 s2 => ?_⟩⟩
    have s12 := s1.trans s2
    refine ⟨_, rfl, _, rfl, _, rfl, l, js, v, o, rfl, hv.same s12, hl, hol, fun z H3 s3 => ?_, fun z m H3 hm s3 => ?_⟩
    · have q := k _ (s12.trans s3)
      rw [z] at q
      exact ⟨rfl, q⟩
    · have q := k _ (s12.trans s3)
      rw [z] at q
      exact ⟨rfl, q⟩
/-! passed -/
def sp_passed : Sp := fun vs H Q _ => ∃ (l js r : List Nat) (v : Addr), vs = [.str (S l), .str (S js), .ref v] ∧ H v = some (.lst (placesV r)) ∧ l.length ≤ 50000 ∧ wordB l = true ∧ js.length ≤ 50000 ∧ jointsB js = true ∧ r.length ≤ 50000 ∧ IsRoad js l r ∧ ∀ m H', H m = none → Same H H' → H' m = some (.lst (wordsV (pass l r))) → Q (.ref m) H'
theorem ok_passed (T : Txt K mg) : FnOk P w K mg base CX0 4 T.f_passed T.fd_passed P_passed (sp_passed) := by
  have nd : N_passed.Nodup := sc_passed.nd
  refine T.F_passed.ok sc_passed (fun vs H Q E h => ?_) (fun cdv A outer s H vs Q E hr h => ?_)
  · obtain ⟨l, js, r, v, rfl, _⟩ := h
    rfl
  · obtain ⟨l, js, r, v, rfl, hv, hl, hw, hjl, hj, hr2, ok, k⟩ := h
    refine ⟨_, (pss_cons (ps_expr (pe_call (ok_check_word T) (hr.mono (by decide)) rfl T.m_check_word T.F_check_word.kp T.b_check_word .nil pass0 (pa_cons (pv 0) pa_nil)))
      (pss_cons (ps_expr (pe_call (ok_check_joints T) (hr.mono (by decide)) rfl T.m_check_joints T.F_check_joints.kp T.b_check_joints .nil pass0 (pa_cons (pv 1) pa_nil)))
      (pss_cons (ps_set (i := 3) nd rfl (Or.inl rfl) (pe_call (ok__walked T) (hr.mono (by decide)) rfl T.m__walked T.F__walked.kp T.b__walked .nil pass0 (pa_cons (pv 0) (pa_cons (pv 1) (pa_cons (pv 2) pa_nil)))))
      (pss_cons (ps_if (pt_cmpR op_isN (pv 3) pe_non (nomark _)) pss_never pss_nil)
      (pss_one (ps_ret (pv 3))))))), ?_⟩
    refine ⟨_, rfl, l, rfl, hl, hw, fun H1 s1 => ⟨_, rfl, js, rfl, hjl, hj, fun H2 s2 => ?_⟩⟩
    have s12 := s1.trans s2
    refine ⟨_, rfl, _, rfl, _, rfl, l, js, r, v, rfl, s12 _ _ hv, hl, hr2, ok, fun m H3 hm s3 d3 => ?_⟩
    refine ⟨_, rfl, rfl, _, rfl, iteF ?_⟩
    exact ⟨_, rfl, k m H3 (s12.free hm) (s12.trans s3) d3⟩
/-! check_jumps -/
def sp_check_jumps : Sp := fun vs H Q _ => ∃ (l js wd : List Nat) (wa : Addr), vs = [.str (S l), .str (S js), .ref wa] ∧ H wa = some (.lst (placesV wd)) ∧ l.length ≤ 300 ∧ wordB l = true ∧ js.length ≤ 50000 ∧ jointsB js = true ∧ wd.length ≤ 50000 ∧ WidthsOk wd ∧ ∀ H', Same H H' → Q .non H'
theorem ok_check_jumps (T : Txt K mg) : FnOk P w K mg base CX0 4 T.f_check_jumps T.fd_check_jumps P_check_jumps (sp_check_jumps) := by
  have nd : N_check_jumps.Nodup := sc_check_jumps.nd
  refine T.F_check_jumps.ok sc_check_jumps (fun vs H Q E h => ?_) (fun cdv A outer s H vs Q E hr h => ?_)
  · obtain ⟨l, js, wd, wa, rfl, _⟩ := h
    rfl
  · obtain ⟨l, js, wd, wa, rfl, hw, hl, hwb, hjl, hj, hwl, ok, k⟩ := h
    refine ⟨_, (pss_cons (ps_expr (pe_call (ok_check_word T) (hr.mono (by decide)) rfl T.m_check_word T.F_check_word.kp T.b_check_word .nil pass0 (pa_cons (pv 0) pa_nil)))
      (pss_cons (ps_expr (pe_call (ok_check_joints T) (hr.mono (by decide)) rfl T.m_check_joints T.F_check_joints.kp T.b_check_joints .nil pass0 (pa_cons (pv 1) pa_nil)))
      (pss_one (ps_expr (pe_call (ok_check_widths T) (hr.mono (by decide)) rfl T.m_check_widths T.F_check_widths.kp T.b_check_widths .nil pass0 (pa_cons (pv 2) pa_nil)))))), ?_⟩
    refine ⟨_, rfl, l, rfl, by omega, hwb, fun H1 s1 => ⟨_, rfl, js, rfl, hjl, hj, fun H2 s2 => ?_⟩⟩
    have s12 := s1.trans s2
    exact ⟨_, rfl, wa, wd, rfl, s12 _ _ hw, hwl, ok, fun H3 s3 => k _ (s12.trans s3)⟩
/-! done -/
def sp_done : Sp := fun vs H Q _ => ∃ (l js r : List Nat) (v : Addr), vs = [.str (S l), .str (S js), .ref v] ∧ H v = some (.lst (placesV r)) ∧ l.length ≤ 50000 ∧ wordB l = true ∧ js.length ≤ 50000 ∧ jointsB js = true ∧ r.length ≤ 50000 ∧ IsRoad js l r ∧ ∀ H', Same H H' → Q (.str (S (ends l r))) H'
theorem ok_done (T : Txt K mg) : FnOk P w K mg base CX0 5 T.f_done T.fd_done P_done (sp_done) := by
  have nd : N_done.Nodup := sc_done.nd
  refine T.F_done.ok sc_done (fun vs H Q E h => ?_) (fun cdv A outer s H vs Q E hr h => ?_)
  · obtain ⟨l, js, r, v, rfl, _⟩ := h
    rfl
  · obtain ⟨l, js, r, v, rfl, hv, hl, hw, hjl, hj, hr2, ok, k⟩ := h
    refine ⟨_, (pss_one (ps_ret (pe_ix ix_list (pe_call (ok_passed T) (hr.mono (by decide)) rfl T.m_passed T.F_passed.kp T.b_passed .nil pass0 (pa_cons (pv 0) (pa_cons (pv 1) (pa_cons (pv 2) pa_nil)))) (pe_un un_neg pe_int) (fun _ _ => rfl)))), ?_⟩
    refine ⟨_, rfl, _, rfl, _, rfl, l, js, r, v, rfl, hv, hl, hw, hjl, hj, hr2, ok, fun m H1 hm s1 d1 => ?_⟩
    exact ⟨_, rfl, m, _, _, _, rfl, rfl, SqL.of d1, last_word rfl, k _ s1⟩
/-! let_places -/
def sp_let_places : Sp := fun vs H Q _ => ∃ (l js wd : List Nat) (wa : Addr), vs = [.str (S l), .str (S js), .ref wa] ∧ H wa = some (.lst (placesV wd)) ∧ l.length ≤ 300 ∧ wordB l = true ∧ js.length ≤ 50000 ∧ jointsB js = true ∧ wd.length ≤ 50000 ∧ WidthsOk wd ∧ ∀ m H', H m = none → Same H H' → H' m = some (.lst (placesV (letL l js wd))) → Q (.ref m) H'
theorem ok_let_places (T : Txt K mg) : FnOk P w K mg base CX0 5 T.f_let_places T.fd_let_places P_let_places (sp_let_places) := by
  have nd : N_let_places.Nodup := sc_let_places.nd
  refine T.F_let_places.ok sc_let_places (fun vs H Q E h => ?_) (fun cdv A outer s H vs Q E hr h => ?_)
  · obtain ⟨l, js, wd, wa, rfl, _⟩ := h
    rfl
  · obtain ⟨l, js, wd, wa, rfl, hw, hl, hwb, hjl, hj, hwl, ok, k⟩ := h
    refine ⟨_, (pss_cons (ps_expr (pe_call (ok_check_jumps T) (hr.mono (by decide)) rfl T.m_check_jumps T.F_check_jumps.kp T.b_check_jumps .nil pass0 (pa_cons (pv 0) (pa_cons (pv 1) (pa_cons (pv 2) pa_nil)))))
      (pss_cons (ps_set (i := 3) nd rfl (Or.inr rfl) (pe_call (ok__lets T) (hr.mono (by decide)) rfl T.m__lets T.F__lets.kp T.b__lets .nil pass0 (pa_cons (pe_callB call_len (by rfl) T.z_len (by decide +kernel) (pa_cons (pv 0) pa_nil)) (pa_cons (pv 2) pa_nil))))
      (pss_one (ps_ret (pe_lc (own := [("place", 4)]) (hc := rfl) (hN := nd) (pi_list (pe_call (ok_open_places T) (hr.mono (by decide)) rfl T.m_open_places T.F_open_places.kp T.b_open_places .nil pass0 (pa_cons (pv 0) (pa_cons (pv 1) pa_nil)))) (blkOk_by (N := N_let_places) (sc := defScope s_let_places) (by decide +kernel)) (fun _ _ _ _ _ => by exact (pg_name (i := 4) nd rfl (Or.inl rfl))) (fun _ _ _ _ _ => by exact (pts_one (pt_val (pe_ix (ix_listK K) (pv 3) (pv 4) (fun _ _ => rfl))))) (fun _ _ _ _ _ => by exact (pv 4))))))), ?_⟩
    refine ⟨_, rfl, _, rfl, _, rfl, l, js, wd, wa, rfl, hw, hl, hwb, hjl, hj, hwl, ok, fun H1 s1 => ?_⟩
    refine ⟨_, rfl, _, l.length, rfl, ⟨by rw [len_S]; exact small_le (by omega), by rw [len_S]⟩, _, rfl, l.length, wd, wa, rfl, s1 _ _ hw, hl, hwl, fun lt H2 hlt s2 d2 => ?_⟩
    refine ⟨_, rfl, _, rfl, l, js, rfl, by omega, hwb, hjl, hj, fun op H3 hop s3 d3 => ?_⟩
    have e2 := s3 _ _ d2
    refine ⟨op, rfl, ⟨_, SqL.of d3⟩, fun D hD => ?_⟩
    refine lc_it walk_list (fun i H' => Same H3 H' ∧ H' D = some (.lst (placesV (((openL l js).take i).filter (letB l.length wd))))) ⟨Same.upd hD, by rw [upd_same]; rfl⟩ (fun i H' _ ⟨s, _⟩ => SqL.of (s _ _ d3)) ?_ ?_
    · rintro i x H4 H5 hi ⟨s4, d4⟩ ⟨rfl, hx⟩
      obtain ⟨p, hq, rfl⟩ := place_of hx
      obtain ⟨c, hc, _⟩ := mem_openL (List.mem_of_getElem? hq)
      have hpl : p < l.length := (List.getElem?_eq_some_iff.mp hc).1
      have hol := openL_len l js
      have hil : i < (openL l js).length := (List.getElem?_eq_some_iff.mp hq).1
      refine ⟨rfl, _, rfl, _, rfl, lt, _, _, V.bl (letB l.length wd p), rfl, rfl, SqL.of (s4 _ _ e2), atI_nat (by rw [List.getElem?_map, List.getElem?_map, List.getElem?_range hpl]; rfl), _, rfl, ite2 (fun z => ?_) (fun z => ?_)⟩
      · refine ⟨_, rfl, _, d4, ?_, fun b o e => ?_, ?_⟩
        · rw [List.length_map]
          have := List.length_filter_le (letB l.length wd) ((openL l js).take i)
          rw [List.length_take] at this
          exact small_line (by omega)
        · rw [upd_ne (ne_of_none e hD)]; exact s4 b o e
        · rw [upd_same, take_snoc hq, List.filter_append]; simp [placesV, z]
      · refine ⟨s4, ?_⟩
        rw [d4, take_snoc hq, List.filter_append]; simp [z]
    rintro H4 ⟨s4, d4⟩
    rw [List.length_map, List.take_length] at d4
    exact k D H4 (s1.free (s2.free (s3.free hD))) (((s1.trans s2).trans s3).trans s4) d4
/-! is_let_road -/
def sp_is_let_road : Sp := fun vs H Q _ => ∃ (l js wd : List Nat) (wa : Addr) (v : V) (o : Option (List (Option Int))), vs = [.str (S l), .str (S js), .ref wa, v] ∧ H wa = some (.lst (placesV wd)) ∧ l.length ≤ 300 ∧ wordB l = true ∧ js.length ≤ 50000 ∧ jointsB js = true ∧ wd.length ≤ 50000 ∧ WidthsOk wd ∧ Val H v o ∧ (∀ os, o = some os → os.length ≤ 2000) ∧ ∀ H', Same H H' → Q (.bl (roadW js wd l o)) H'
theorem ok_is_let_road (T : Txt K mg) : FnOk P w K mg base CX0 5 T.f_is_let_road T.fd_is_let_road P_is_let_road (sp_is_let_road) := by
  have nd : N_is_let_road.Nodup := sc_is_let_road.nd
  refine T.F_is_let_road.ok sc_is_let_road (fun vs H Q E h => ?_) (fun cdv A outer s H vs Q E hr h => ?_)
  · obtain ⟨l, js, wd, wa, v, o, rfl, _⟩ := h
    rfl
  · obtain ⟨l, js, wd, wa, v, o, rfl, hw, hl, hwb, hjl, hj, hwl, ok, hv, hol, k⟩ := h
    refine ⟨_, (pss_cons (ps_expr (pe_call (ok_check_jumps T) (hr.mono (by decide)) rfl T.m_check_jumps T.F_check_jumps.kp T.b_check_jumps .nil pass0 (pa_cons (pv 0) (pa_cons (pv 1) (pa_cons (pv 2) pa_nil)))))
      (pss_cons (ps_set (i := 4) nd rfl (Or.inr rfl) (pe_call (ok__lets T) (hr.mono (by decide)) rfl T.m__lets T.F__lets.kp T.b__lets .nil pass0 (pa_cons (pe_callB call_len (by rfl) T.z_len (by decide +kernel) (pa_cons (pv 0) pa_nil)) (pa_cons (pv 2) pa_nil))))
      (pss_one (ps_ret (pe_and (pe_call (ok_is_road T) (hr.mono (by decide)) rfl T.m_is_road T.F_is_road.kp T.b_is_road .nil pass0 (pa_cons (pv 0) (pa_cons (pv 1) (pa_cons (pv 3) pa_nil)))) (pe_one (pe_callB (cr_all rfl) (by rfl) T.z_all (by decide +kernel) (pa_cons (pe_lc (own := [("place", 5)]) (hc := rfl) (hN := nd) (pi_list (pv 3)) (blkOk_by (N := N_is_let_road) (sc := defScope s_is_let_road) (by decide +kernel)) (fun _ _ _ _ _ => by exact (pg_name (i := 5) nd rfl (Or.inl rfl))) (fun _ _ _ _ _ => by exact pts_nil) (fun _ _ _ _ _ => by exact (pe_ix (ix_listK K) (pv 4) (pv 5) (fun _ _ => rfl)))) pa_nil)))))))), ?_⟩
    refine ⟨_, rfl, _, rfl, _, rfl, l, js, wd, wa, rfl, hw, hl, hwb, hjl, hj, hwl, ok, fun H1 s1 => ?_⟩
    refine ⟨_, rfl, _, l.length, rfl, ⟨by rw [len_S]; exact small_le (by omega), by rw [len_S]⟩, _, rfl, l.length, wd, wa, rfl, s1 _ _ hw, hl, hwl, fun lt H2 hlt s2 d2 => ?_⟩
    have s12 := s1.trans s2
    refine ⟨_, rfl, _, rfl, _, rfl, l, js, v, o, rfl, hv.same s12, by omega, hwb, hjl, hj, fun os e => by have := hol os e; omega, fun H3 s3 => ?_⟩
    have s13 := s12.trans s3
    refine ⟨_, rfl, ite2 (fun z => ?_) (fun z => ?_)⟩
    · have hv3 := hv.same s13
      have key : roadW js wd l o = letsO l.length wd o := by rw [roadW_eq, z, Bool.true_and]
      rw [key] at k
      cases hv3 with
      | tup ht => cases z
      | dic ht => cases z
      | int i => cases z
      | bl b => cases z
      | non => cases z
      | str x => cases z
      | @lst va xs os ht hx =>
        have hos := hol os rfl
        have e2 := s3 _ _ d2
        have hxl : xs.length = os.length := hx.1
        refine ⟨_, rfl, va, rfl, ⟨_, SqL.of ht⟩, fun D hD => ?_⟩
        refine lc_it walk_list (fun i H' => Same H3 H' ∧ H' D = some (.lst (((os.take i).map (letO l.length wd)).map V.bl)) ∧ ∃ cur : List Nat, cur.length = l.length ∧ walkO js cur (os.drop i) = true) ⟨Same.upd hD, by rw [upd_same]; rfl, l, rfl, z⟩ (fun i H' _ ⟨s, _⟩ => SqL.of (s _ _ ht)) ?_ ?_
        · rintro i x H4 H5 hi ⟨s4, d4, cur, hcl, hcw⟩ ⟨rfl, hxi⟩
          obtain ⟨oi, ho, hit⟩ := hx.2 i x hxi
          have hil : i < os.length := (List.getElem?_eq_some_iff.mp ho).1
          cases hp : placeO cur js oi with
          | none =>
            rw [walkO_stop ho hp] at hcw
            cases hcw
          | some p =>
            obtain ⟨c, rfl, hc, hcj⟩ := placeO_lt hp
            rw [walkO_step ho hp] at hcw
            have hpl : p < cur.length := (List.getElem?_eq_some_iff.mp hc).1
            cases hit
            refine ⟨rfl, _, rfl, _, rfl, lt, _, _, V.bl (letB l.length wd p), rfl, rfl, SqL.of (s4 _ _ e2), atI_nat (by rw [List.getElem?_map, List.getElem?_map, List.getElem?_range (by omega)]; rfl), ?_⟩
            refine ⟨_, d4, ?_, fun b o e => ?_, ?_, swapL cur p, by rw [swapL_len hpl]; exact hcl, hcw⟩
            · rw [List.length_map, List.length_map, List.length_take]; exact small_line (by omega)
            · rw [upd_ne (ne_of_none e hD)]; exact s4 b o e
            · rw [upd_same, take_snoc ho]
              have e3 : letO l.length wd (some (p : Int)) = letB l.length wd p := by show letB l.length wd (p : Int).toNat = _; rw [Int.toNat_natCast]
              simp [e3]
        rintro H4 ⟨s4, d4, _⟩
        rw [hxl, List.take_length] at d4
        refine ⟨D, _, rfl, SqL.of d4, ?_⟩
        have e4 : (os.map (letO l.length wd)).all id = letsO l.length wd (some os) := by unfold letsO; rw [List.all_map]; rfl
        rw [e4]
        exact k _ (s13.trans s4)
    · have key : roadW js wd l o = false := by rw [roadW_eq, Bool.eq_false_iff.mpr z]; rfl
      have q := k _ s13
      rw [key] at q
      exact q
/-! _law_right -/
def sp__law_right (K : PySem.W.Frag) : Sp := fun vs H Q _ => ∃ (g : Addr) (l js wd : List Nat) (wa : Addr) (b : Nat), vs = [.ref g, .str (S l), .str (S js), .ref wa] ∧ GenAt H g b ∧ b ≤ 700000000 ∧ H wa = some (.lst (placesV wd)) ∧ wa ≠ g ∧ l.length ≤ 60 ∧ wordB l = true ∧ js.length ≤ 100 ∧ jointsB js = true ∧ wd.length ≤ 100 ∧ WidthsOk wd ∧ ∀ H', But g H H' → GenAt H' g (b + 400) → Q (.bl true) H'
theorem ok__law_right (T : Txt K mg) : FnC P w K mg base CX0 6 T.f__law_right T.fd__law_right P__law_right (sp__law_right K) := by
  have nd : N__law_right.Nodup := sc__law_right.nd
  refine okC T.F__law_right sc__law_right (fun vs H Q E h => ?_) (fun cdv A outer s H vs Q E hr hc h => ?_)
  · obtain ⟨g, l, js, wd, wa, b, rfl, _⟩ := h
    rfl
  · obtain ⟨g, l, js, wd, wa, b, rfl, G, hb, hw, nwg, hl, hwb, hjl, hj, hwl, ok, k⟩ := h
    refine ⟨_, (pss_cons (ps_par (i := 4) (j := 5) rfl nd rfl rfl (by decide) rfl rfl (pa_cons (pe_callTy call_list_of (by rfl) T.z_list (by decide +kernel) (pa_cons (pv 3) pa_nil)) (pa_cons (pe_call (ok__law_let T) (hr.mono (by decide)) rfl T.m__law_let T.F__law_let.kp T.b__law_let .nil pass0 (pa_cons (pv 1) (pa_cons (pv 2) (pa_cons (pv 3) pa_nil)))) pa_nil)) (by rfl))
      (pss_cons (ps_set (i := 6) nd rfl (Or.inl rfl) (pe_call (ok_let_places T) (hr.mono (by decide)) rfl T.m_let_places T.F_let_places.kp T.b_let_places .nil pass0 (pa_cons (pv 1) (pa_cons (pv 2) (pa_cons (pv 4) pa_nil)))))
      (pss_cons (ps_if (PW.pt (pw_or (pt_cmpR (op_neD hr.units) (pv 6) (pv 5) (nomark _)) (pw_or (pt_cmpR (op_neD hr.units) (pv 4) (pv 3) (nomark _)) (pw_or1 (pt_cmpR (op_neD hr.units) (pe_callN0 (ok_let_places T) (hr.mono (by decide)) rfl T.m_let_places T.F_let_places.kp (kb_let_places__0_widths_joints_word T) pass0 (pk_cons (pv 4) (pk_cons (pv 2) (pk_cons (pv 1) pk_nil)))) (pv 5) (nomark _)))))) (pss_one (ps_ret pe_bl)) pss_nil)
      (pss_cons (ps_expr (pe_bm PySem.F.plainAttrs_list PySem.F.slot_list_append PySem.F.type_list_append mt_append (pv 6) (pa_cons pe_non pa_nil)))
      (pss_cons (ps_if (pt_cmpR (op_neD hr.units) (pe_call (ok_let_places T) (hr.mono (by decide)) rfl T.m_let_places T.F_let_places.kp T.b_let_places .nil pass0 (pa_cons (pv 1) (pa_cons (pv 2) (pa_cons (pv 3) pa_nil)))) (pv 5) (nomark _)) (pss_one (ps_ret pe_bl)) pss_nil)
      (pss_cons (ps_asg (pe_call (ok__law_drawn_road T) (hr.mono (by decide)) rfl T.m__law_drawn_road T.F__law_drawn_road.kp T.b__law_drawn_road .nil pass0 (pa_cons (pv 0) (pa_cons (pv 1) (pa_cons (pv 2) (pa_cons (pv 3) (pa_cons pe_int pa_nil)))))) (pg_tup (n := 2) rfl (pgs_cons (by exact (pg_name (i := 7) nd rfl (Or.inl rfl))) (pgs_cons (by exact (pg_name (i := 8) nd rfl (Or.inl rfl))) pgs_nil))))
      (pss_cons (ps_if (PW.pt (pw_or (pt_cmpR op_notBl (pe_call (ok_is_let_road T) (hr.mono (by decide)) rfl T.m_is_let_road T.F_is_let_road.kp T.b_is_let_road .nil pass0 (pa_cons (pv 1) (pa_cons (pv 2) (pa_cons (pv 4) (pa_cons (pv 7) pa_nil))))) pe_bl (nomark _)) (pw_or1 (pt_cmpR op_notBl (pe_callN0 (ok_is_let_road T) (hr.mono (by decide)) rfl T.m_is_let_road T.F_is_let_road.kp (kb_is_let_road__0_value_widths_joints_word T) pass0 (pk_cons (pv 7) (pk_cons (pv 4) (pk_cons (pv 2) (pk_cons (pv 1) pk_nil))))) pe_bl (nomark _))))) (pss_one (ps_ret pe_bl)) pss_nil)
      (pss_cons (ps_setLc (i := 9) (own := [("_law_place", 11)]) rfl nd rfl rfl (sw_true rfl rfl rfl (by decide +kernel)) (pi_list (pe_revS (pv 7) (pe_un un_neg pe_int))) (blkOk_by (N := N__law_right) (sc := defScope s__law_right) (by decide +kernel)) (fun _ _ _ _ _ => by exact (pg_name (i := 11) nd rfl (Or.inl rfl))) (fun _ _ _ _ _ => by exact pts_nil) (fun _ _ _ _ _ => by exact (pe_op op_sub (pe_op op_sub (pe_callB (call_lenK K) (by rfl) T.z_len (by decide +kernel) (pa_cons (pv 1) pa_nil)) pe_int) (pv 11))))
      (pss_cons (ps_if (PW.pt (pw_or (pt_cmpR (op_neD hr.units) (pe_call (ok_back_road T) (hr.mono (by decide)) rfl T.m_back_road T.F_back_road.kp T.b_back_road .nil pass0 (pa_cons (pe_callB call_len (by rfl) T.z_len (by decide +kernel) (pa_cons (pv 1) pa_nil)) (pa_cons (pv 7) pa_nil))) (pv 9) (nomark _)) (pw_or (pt_cmpR op_notBl (pe_call (ok_is_let_road T) (hr.mono (by decide)) rfl T.m_is_let_road T.F_is_let_road.kp T.b_is_let_road .nil pass0 (pa_cons (pv 8) (pa_cons (pv 2) (pa_cons (pv 3) (pa_cons (pv 9) pa_nil))))) pe_bl (nomark _)) (pw_or1 (pt_cmpR op_ne (pe_call (ok_done T) (hr.mono (by decide)) rfl T.m_done T.F_done.kp T.b_done .nil pass0 (pa_cons (pv 8) (pa_cons (pv 2) (pa_cons (pv 9) pa_nil)))) (pv 1) (nomark _)))))) (pss_one (ps_ret pe_bl)) pss_nil)
      (pss_cons (ps_for PassesOwn.never rfl (pi_list (pe_call (ok__law_bent T) (hr.mono (by decide)) rfl T.m__law_bent T.F__law_bent.kp T.b__law_bent .nil pass0 (pa_cons (pv 0) (pa_cons (pe_slice sl_list (pv 7) po_none (po_some pe_int)) (pa_cons (pe_callB call_len (by rfl) T.z_len (by decide +kernel) (pa_cons (pv 1) pa_nil)) pa_nil))))) (pg_name (i := 10) nd rfl (Or.inl rfl))
      (pss_cons (ps_if (pt_cmpR op_ne (pe_callB (call_reprV hc hr.units) (by rfl) T.z_repr (by decide +kernel) (pa_cons (pe_call (ok_is_let_road T) (hr.mono (by decide)) rfl T.m_is_let_road T.F_is_let_road.kp T.b_is_let_road .nil pass0 (pa_cons (pv 1) (pa_cons (pv 2) (pa_cons (pv 4) (pa_cons (pv 10) pa_nil))))) pa_nil)) (pe_callB (call_reprV hc hr.units) (by rfl) T.z_repr (by decide +kernel) (pa_cons (pe_call (ok__law_is_road T) (hr.mono (by decide)) rfl T.m__law_is_road T.F__law_is_road.kp T.b__law_is_road .nil pass0 (pa_cons (pv 1) (pa_cons (pv 2) (pa_cons (pv 3) (pa_cons (pv 10) pa_nil))))) pa_nil)) (nomark _)) (pss_one (ps_ret pe_bl)) pss_nil)
      (pss_one (ps_if (pt_cmpR (op_neD hr.units) (pv 4) (pv 3) (nomark _)) (pss_one (ps_ret pe_bl)) pss_nil))))
      (pss_one (ps_ret (pe_cmpR (op_eqD hr.units) (pe_call (ok_let_places T) (hr.mono (by decide)) rfl T.m_let_places T.F_let_places.kp T.b_let_places .nil pass0 (pa_cons (pv 1) (pa_cons (pv 2) (pa_cons (pe_listRg rfl rfl T.z_list (prg_2 rfl T.z_range pe_int (pe_op op_add (pe_op op_fdivW (pe_callB call_len (by rfl) T.z_len (by decide +kernel) (pa_cons (pv 1) pa_nil)) pe_int) pe_int))) pa_nil)))) (pe_lc (own := [("_law_place", 11)]) (hc := rfl) (hN := nd) (pi_range1 rfl T.z_range (pa_cons (pe_callB call_len (by rfl) T.z_len (by decide +kernel) (pa_cons (pv 1) pa_nil)) pa_nil)) (blkOk_by (N := N__law_right) (sc := defScope s__law_right) (by decide +kernel)) (fun _ _ _ _ _ => by exact (pg_name (i := 11) nd rfl (Or.inl rfl))) (fun _ _ _ _ _ => by exact (pts_one (pt_cmpR op_in_sign (pe_item_str (pv 1) (pv 11) (fun _ _ => rfl)) (pv 2) rfl))) (fun _ _ _ _ _ => by exact (pv 11))) (nomark _)))))))))))))), ?_⟩
    refine ⟨_, rfl, wa, _, rfl, .inl (SqL.of hw), fun gv hgv => ?_⟩
    have ngv : gv ≠ g := G.ne hgv
    have s1 := Same.upd (o := HO.lst (placesV wd)) hgv
    have d1 : (upd H gv (.lst (placesV wd))) gv = some (.lst (placesV wd)) := upd_same
    generalize upd H gv (.lst (placesV wd)) = H1 at s1 d1
    refine ⟨_, rfl, _, rfl, _, rfl, l, js, wd, wa, rfl, s1 _ _ hw, by omega, fun du H2 hdu s2 d2 => ⟨_, _, rfl, ?_⟩⟩
    have ndu : du ≠ g := (G.same s1).ne hdu
    have F2 : KeptL H g b [(du, letL l js wd), (gv, wd), (wa, wd)] H2 := ((((⟨fun _ h => (nomatch h), G, But.refl _ _⟩ : KeptL H g b [] H).add nwg hw).same s1).add ngv d1 |>.same s2).add ndu d2
    show tSeq _ _ _ [some (V.ref g), some (V.str (S l)), some (V.str (S js)), some (V.ref wa), some (V.ref gv), some (V.ref du), none, none, none, none, none, none] _
    refine ⟨_, rfl, _, rfl, _, rfl, l, js, wd, gv, rfl, F2.get (by simp), by omega, hwb, by omega, hj, by omega, ok, fun tl H3 htl s3 d3 => ?_⟩
    have F3 := F2.same s3
    show tSeq _ _ _ [some (V.ref g), some (V.str (S l)), some (V.str (S js)), some (V.ref wa), some (V.ref gv), some (V.ref du), some (V.ref tl), none, none, none, none, none] _
    refine ⟨_, rfl, _, rfl, ne_places (SqL.of d3) (SqL.of (F3.get (by simp))) ⟨_, rfl, iteF ?_⟩⟩
    refine ⟨_, rfl, _, rfl, ne_places (SqL.of (F3.get (a := gv) (r := wd) (by simp))) (SqL.of (F3.get (a := wa) (r := wd) (by simp))) ⟨_, rfl, iteF ?_⟩⟩
    refine ⟨_, rfl, _, rfl, _, rfl, rfl, rfl, l, js, wd, gv, rfl, F3.get (by simp), by omega, hwb, by omega, hj, by omega, ok, fun tl2 H4 htl2 s4 d4 => ?_⟩
    refine ⟨_, rfl, ne_places (SqL.of d4) (SqL.of ((F3.same s4).get (by simp))) ⟨_, rfl, iteF ?_⟩⟩
    -- told.append(None)
    have hll := letL_len l js wd
    refine ⟨_, rfl, .inl ⟨rfl, _, SqL.of (s4 _ _ d3)⟩, tl, _, _, rfl, rfl, s4 _ _ d3, (by rw [List.length_map]; exact small_line (by omega)), ?_⟩
    have F5 : KeptL H g b [(du, letL l js wd), (gv, wd), (wa, wd)] (upd H4 tl (.lst (placesV (letL l js wd) ++ [V.non]))) := F2.same (Same.updF (s3.trans s4) htl)
    generalize upd H4 tl (.lst (placesV (letL l js wd) ++ [V.non])) = H5 at F5
    show tSeq _ _ _ [some (V.ref g), some (V.str (S l)), some (V.str (S js)), some (V.ref wa), some (V.ref gv), some (V.ref du), some (V.ref tl), none, none, none, none, none] _
    refine ⟨_, rfl, _, rfl, _, rfl, l, js, wd, wa, rfl, F5.get (by simp), by omega, hwb, by omega, hj, by omega, ok, fun t3 H6 ht3 s6 d6 => ?_⟩
    have F6 := F5.same s6
    refine ⟨_, rfl, ne_places (SqL.of d6) (SqL.of (F6.get (by simp))) ⟨_, rfl, iteF ?_⟩⟩
    -- the road
    show tSeq _ _ _ [some (V.ref g), some (V.str (S l)), some (V.str (S js)), some (V.ref wa), some (V.ref gv), some (V.ref du), some (V.ref tl), none, none, none, none, none] _
    refine ⟨_, rfl, _, rfl, _, rfl, _, rfl, g, l, js, wd, wa, 20, b, rfl, F6.G, by omega, F6.get (by simp), nwg, by omega, by decide, fun r v t H7 rd hlb hrl hv b7 G7 dv dt => ?_⟩
    have nvg : v ≠ g := F6.G.ne hv
    have F7 := (F6.but b7 G7).add nvg dv
    refine ⟨t, _, rfl, SqT.of dt, rfl, _, _, rfl, _, _, rfl, rfl, ?_⟩
    show tSeq _ _ _ [some (V.ref g), some (V.str (S l)), some (V.str (S js)), some (V.ref wa), some (V.ref gv), some (V.ref du), some (V.ref tl), some (V.ref v), some (V.str (S (ends l r))), none, none, none] _
    have hr300 : ∀ os, some (r.map fun p : Nat => some (p : Int)) = some os → os.length ≤ 2000 := fun os e => by
      cases e
      rw [List.length_map]; omega
    have hwalk := walkW_road rd hlb
    refine ⟨_, rfl, _, rfl, _, rfl, _, rfl, l, js, wd, gv, .ref v, some (r.map fun p : Nat => some (p : Int)), rfl, F7.get (by simp), by omega, hwb, by omega, hj, by omega, ok, .lst (F7.get (by simp)) (Items.places r), hr300, fun H8 s8 => ?_⟩
    refine ⟨_, _, rfl, rfl, _, rfl, iteNS hwalk ?_⟩
    have F8 := F7.same s8
    refine ⟨_, rfl, _, rfl, _, rfl, _, rfl, rfl, rfl, l, js, wd, gv, .ref v, some (r.map fun p : Nat => some (p : Int)), rfl, F8.get (by simp), by omega, hwb, by omega, hj, by omega, ok, .lst (F8.get (by simp)) (Items.places r), hr300, fun H9 s9 => ?_⟩
    refine ⟨_, _, rfl, rfl, _, rfl, iteNS hwalk ?_⟩
    have F9 := F8.same s9
    -- the road back
    have hrn : ∀ p ∈ r, p < l.length := road_lt rd
    have hel2 : (ends l r).length = l.length := ends_len hrn
    have hbr : IsRoad js (ends l r) (backL l.length r) := back_road rd
    have hbl : (backL l.length r).length = r.length := by unfold backL; rw [List.length_map, List.length_reverse]
    have hbe : ends (ends l r) (backL l.length r) = l := back_ends hrn
    have hwe : wordB (ends l r) = true := wordB_of fun c h => wordB_mem hwb (ends_mem h)
    show tSeq _ _ _ [some (V.ref g), some (V.str (S l)), some (V.str (S js)), some (V.ref wa), some (V.ref gv), some (V.ref du), some (V.ref tl), some (V.ref v), some (V.str (S (ends l r))), none, none, none] _
    refine ⟨_, rfl, v, _, rfl, _, rfl, _, rfl, rfl, SqL.of (F9.get (a := v) (r := r) (by simp)), fun p1 n1 => ?_⟩
    have hrev : (placesV r).reverse = placesV r.reverse := by simp [placesV]
    rw [hrev]
    refine ⟨p1, rfl, ⟨_, SqL.of upd_same⟩, fun D hD => ?_⟩
    have s21 := Same.upd (o := HO.lst (placesV r.reverse)) n1
    refine lc_it walk_list (fun i H' => Same (upd H9 p1 (.lst (placesV r.reverse))) H' ∧ H' D = some (.lst (placesV ((backL l.length r).take i)))) ⟨Same.upd hD, upd_same⟩ (fun i H' _ ⟨s, _⟩ => SqL.of (s _ _ upd_same)) ?_ ?_
    · rintro i x H21 H22 hi ⟨s22, d22⟩ ⟨rfl, hx⟩
      obtain ⟨p, hq, rfl⟩ := place_of hx
      have hpn := hrn p (List.mem_reverse.mp (List.mem_of_getElem? hq))
      have hb2 : (backL l.length r)[i]? = some (l.length - 1 - p) := by
        unfold backL
        rw [List.getElem?_map, hq]
        rfl
      have hil : i < (backL l.length r).length := (List.getElem?_eq_some_iff.mp hb2).1
      refine ⟨rfl, _, rfl, _, l.length, rfl, ⟨by rw [len_S]; exact small_le (by omega), by rw [len_S]⟩, _, _, rfl, rfl, _, rfl, _, _, rfl, rfl, ?_⟩
      refine ⟨_, d22, ?_, fun b o e => ?_, ?_⟩
      · rw [List.length_map, List.length_take]; exact small_line (by omega)
      · rw [upd_ne (ne_of_none e hD)]; exact s22 b o e
      · rw [upd_same, take_snoc hb2]
        have e : (((l.length : Nat) : Int) - 1 - (p : Int)) = ((l.length - 1 - p : Nat) : Int) := by omega
        simp [placesV, e]
    rintro H10 ⟨s22, d22⟩
    rw [List.length_map, List.length_reverse, show (backL l.length r).take r.length = backL l.length r from List.take_of_length_le (by omega)] at d22
    have nDg : D ≠ g := (F9.G.same s21).ne hD
    have F10 := (F9.same (s21.trans s22)).add nDg d22
    refine ⟨_, rfl, _, l.length, rfl, ⟨by rw [len_S]; exact small_le (by omega), by rw [len_S]⟩, _, rfl, l.length, r, v, rfl, F10.get (by simp), by omega, hrn, by omega, fun bk2 H11 hbk2 s11 d11 => ?_⟩
    have F11 := F10.same s11
    refine ⟨_, rfl, ne_places (SqL.of d11) (SqL.of (F11.get (by simp))) ⟨_, rfl, iteF ?_⟩⟩
    have hbo : ∀ os, some ((backL l.length r).map fun p : Nat => some (p : Int)) = some os → os.length ≤ 2000 := fun os e => by
      cases e
      rw [List.length_map]; omega
    have hbw : walkW js wd (ends l r) ((backL l.length r).map fun p : Nat => some (p : Int)) = true := walkW_road hbr fun p hp => by
      unfold backL at hp
      obtain ⟨q, hq, rfl⟩ := List.mem_map.mp hp
      have hq2 := List.mem_reverse.mp hq
      rw [hel2, letB_back wd (hrn q hq2)]
      exact hlb q hq2
    refine ⟨_, rfl, _, rfl, _, rfl, _, rfl, ends l r, js, wd, wa, .ref D, some ((backL l.length r).map fun p : Nat => some (p : Int)), rfl, F11.get (by simp), by omega, hwe, by omega, hj, by omega, ok, .lst (F11.get (by simp)) (Items.places _), hbo, fun H12 s12 => ?_⟩
    refine ⟨_, _, rfl, rfl, _, rfl, iteNS hbw ?_⟩
    have F12 := F11.same s12
    refine ⟨_, rfl, _, rfl, _, rfl, ends l r, js, backL l.length r, D, rfl, F12.get (by simp), by omega, hwe, by omega, hj, by omega, hbr, fun H13 s13 => ?_⟩
    rw [hbe]
    refine ⟨_, rfl, rfl, _, rfl, iteNS rfl ?_⟩
    have F13 := F12.same s13
    -- values of all kinds
    show tSeq _ _ _ [some (V.ref g), some (V.str (S l)), some (V.str (S js)), some (V.ref wa), some (V.ref gv), some (V.ref du), some (V.ref tl), some (V.ref v), some (V.str (S (ends l r))), some (V.ref D), none, none] _
    refine ⟨_, rfl, _, rfl, _, rfl, v, _, rfl, SqL.of (F13.get (a := v) (r := r) (by simp)), fun p4 hp4 => ?_⟩
    have c4 : cutV (placesV r) none (some 4) = placesV (r.take 4) := by
      rw [show (some (4 : Int)) = some ((4 : Nat) : Int) from rfl, cutV_first]; simp [placesV]
    rw [c4]
    have np4 : p4 ≠ g := F13.G.ne hp4
    have F14 := (F13.same (Same.upd (o := HO.lst (placesV (r.take 4))) hp4)).add np4 upd_same
    generalize upd H13 p4 (.lst (placesV (r.take 4))) = H14 at F14
    refine ⟨_, rfl, _, l.length, rfl, ⟨by rw [len_S]; exact small_le (by omega), by rw [len_S]⟩, g, p4, r.take 4, l.length, _, rfl, F14.G, by omega, F14.get (by simp), np4, by rw [List.length_take]; omega, by omega, fun mb us H15 hmb b15 G15 d15 hul far => ?_⟩
    have F15 := F14.but b15 G15
    refine ⟨mb, rfl, ⟨_, SqL.of d15⟩, for_list (K := K) (a := mb) (xs := us) (fun i σ H' => ∃ (k1 : Option V), σ = [some (V.ref g), some (V.str (S l)), some (V.str (S js)), some (V.ref wa), some (V.ref gv), some (V.ref du), some (V.ref tl), some (V.ref v), some (V.str (S (ends l r))), some (V.ref D), k1, none] ∧ Same H15 H') ⟨_, rfl, fun _ _ e => e⟩ (fun i σ H' _ ⟨_, _, s⟩ => SqL.of (s _ _ d15)) ?_ ?_⟩
    · rintro i y σ H16 hi ⟨k1, rfl, s16⟩
      obtain ⟨o, hvv, hol⟩ := (far y (List.mem_of_getElem? hi)).odds.same s16
      have F16 := F15.same s16
      refine ⟨_, rfl, _, rfl, _, rfl, _, rfl, l, js, wd, gv, y, o, rfl, F16.get (by simp), by omega, hwb, by omega, hj, by omega, ok, hvv, hol, fun H17 s17 => ?_⟩
      refine ⟨_, _, rfl, Rp.bl _, ?_⟩
      have F17 := F16.same s17
      refine ⟨_, rfl, _, rfl, _, rfl, _, rfl, l, js, wd, wa, y, o, rfl, F17.get (by simp), by omega, hvv.same s17, hol, fun H18 s18 => ?_⟩
      refine ⟨_, _, rfl, Rp.bl _, rfl, _, rfl, iteNS rfl ?_⟩
      have F18 := F17.same s18
      refine ⟨_, rfl, _, rfl, ne_places (SqL.of (F18.get (a := gv) (r := wd) (by simp))) (SqL.of (F18.get (a := wa) (r := wd) (by simp))) ⟨_, rfl, iteF ?_⟩⟩
      exact ⟨_, rfl, s16.trans (s17.trans s18)⟩
    rintro σ H16 ⟨k1, rfl, s16⟩
    have F16 := F15.same s16
    refine ⟨_, rfl, _, rfl, _, rfl, _, l.length, rfl, ⟨by rw [len_S]; exact small_le (by omega), by rw [len_S]⟩, _, _, rfl, rfl, wide_div (b := 5) (by decide) (by decide) (by decide) (by decide), _, _, rfl, rfl, _, _, rfl, rfl, RgOk.of_le (by decide) (by omega) (by decide) (by omega), fun q hq => ?_⟩
    have eq := rg_ones l.length
    rw [eq]
    have F17 := F16.same (Same.upd (o := HO.lst (placesV ((List.range (l.length / 2 + 1)).map (· + 1)))) hq)
    have dq : (upd H16 q (.lst (placesV ((List.range (l.length / 2 + 1)).map (· + 1))))) q = some (.lst (placesV ((List.range (l.length / 2 + 1)).map (· + 1)))) := upd_same
    generalize upd H16 q (.lst (placesV ((List.range (l.length / 2 + 1)).map (· + 1)))) = H17 at F17 dq
    refine ⟨l, js, (List.range (l.length / 2 + 1)).map (· + 1), q, rfl, dq, by omega, hwb, by omega, hj, by rw [List.length_map, List.length_range]; omega, ones_ok _, fun m H18 hm s18 d18 => ?_⟩
    rw [letL_all] at d18
    have F18 := F17.same s18
    refine ⟨_, rfl, _, l.length, rfl, ⟨by rw [len_S]; exact small_le (by omega), by rw [len_S]⟩, _, rfl, by omega, by omega, fun D2 hD2 => ?_⟩
    rw [Int.toNat_natCast]
    refine lc_it walk_range (fun i H' => Same H18 H' ∧ H' D2 = some (.lst (placesV (openL (l.take i) js)))) ⟨Same.upd hD2, upd_same⟩ (fun _ _ _ _ => trivial) ?_ ?_
    · rintro i x H19 H20 hi ⟨s19, d19⟩ ⟨rfl, rfl⟩
      have hci : l[i]? = some l[i] := List.getElem?_eq_getElem hi
      have ee := openL_snoc js hci
      have hol := openL_len (l.take i) js
      refine ⟨rfl, _, rfl, _, rfl, S l, _, l[i], rfl, rfl, by omega, by omega, by rw [len_S]; omega, by rw [at_S, show ((0 : Int) + (i : Nat)).toNat = i by omega]; exact hci, ?_⟩
      refine ⟨_, rfl, _, S js, rfl, rfl, _, rfl, ite2 (fun z => ?_) (fun z => ?_)⟩
      · rw [if_pos (of_decide_eq_true z)] at ee
        refine ⟨_, rfl, _, d19, ?_, fun b o e => ?_, ?_⟩
        · rw [List.length_map]; rw [List.length_take] at hol; exact small_line (by omega)
        · rw [upd_ne (ne_of_none e hD2)]; exact s19 b o e
        · rw [upd_same, ee]; simp [placesV]
      · rw [if_neg (fun q => z (decide_eq_true q))] at ee
        exact ⟨s19, by rw [d19, ee]; simp [placesV]⟩
    rintro H19 ⟨s19, d19⟩
    rw [List.take_length] at d19
    have F19 := F18.same s19
    exact eq_places (SqL.of (s19 _ _ d18)) (SqL.of d19) (k _ F19.B (F19.G.mono (by omega)))
/-! law -/
def sp_law (K : PySem.W.Frag) : Sp := fun vs H Q _ => ∃ (a : Addr) (ns : List Int), vs = [.ref a] ∧ SqL K H a (ns.map V.int) ∧ ns.length ≤ 63 ∧ ∀ H', Q (.bl true) H'
theorem ok_law (T : Txt K mg) : FnC P w K mg base CX0 8 T.f_law T.fd_law P_law (sp_law K) := by
  have nd : N_law.Nodup := sc_law.nd
  refine okC T.F_law sc_law (fun vs H Q E h => ?_) (fun cdv A outer s H vs Q E hr hc h => ?_)
  · obtain ⟨a, ns, rfl, _⟩ := h
    rfl
  · obtain ⟨a, ns, rfl, hS, hlen, k⟩ := h
    refine ⟨_, (pss_cons (ps_for PassesOwn.never rfl (pi_range1 rfl T.z_range (pa_cons pe_int pa_nil)) (pg_name (i := 1) nd rfl (Or.inl rfl))
      (pss_cons (ps_set (i := 2) nd rfl (Or.inl rfl) (pe_call (ok__law_generator T) (hr.mono (by decide)) rfl T.m__law_generator T.F__law_generator.kp T.b__law_generator .nil pass0 (pa_cons (pv 0) (pa_cons (pv 1) pa_nil))))
      (pss_cons (ps_asg (pe_call (ok__law_letters T) (hr.mono (by decide)) rfl T.m__law_letters T.F__law_letters.kp T.b__law_letters .nil pass0 (pa_cons (pv 2) pa_nil)) (pg_tup (n := 2) rfl (pgs_cons (by exact (pg_name (i := 3) nd rfl (Or.inl rfl))) (pgs_cons (by exact (pg_name (i := 4) nd rfl (Or.inl rfl))) pgs_nil))))
      (pss_cons (ps_for PassesOwn.never rfl (pi_list (pe_lst (pa_cons (pe_call (ok__law_random T) (hr.mono (by decide)) rfl T.m__law_random T.F__law_random.kp T.b__law_random .nil pass0 (pa_cons (pv 2) (pa_cons pe_int pa_nil))) (pa_cons (pe_ix ix_list (pe_lst (pa_cons pe_int (pa_cons pe_int (pa_cons pe_int pa_nil)))) (pe_call (ok__law_random T) (hr.mono (by decide)) rfl T.m__law_random T.F__law_random.kp T.b__law_random .nil pass0 (pa_cons (pv 2) (pa_cons pe_int pa_nil))) (fun _ _ => rfl)) pa_nil)))) (pg_name (i := 5) nd rfl (Or.inl rfl))
      (pss_cons (ps_set (i := 6) nd rfl (Or.inl rfl) (pe_call (ok__law_word T) (hr.mono (by decide)) rfl T.m__law_word T.F__law_word.kp T.b__law_word .nil pass0 (pa_cons (pv 2) (pa_cons (pe_op op_add_str (pv 3) (pv 4)) (pa_cons (pv 5) pa_nil)))))
      (pss_one (ps_if (pt_not (pt_val (pe_callC (ok__law_right T) (hr.mono (by decide)) hc rfl T.m__law_right T.F__law_right.kp T.b__law_right .nil pass0 (pa_cons (pv 2) (pa_cons (pv 6) (pa_cons (pv 3) (pa_cons (pe_call (ok__law_widths T) (hr.mono (by decide)) rfl T.m__law_widths T.F__law_widths.kp T.b__law_widths .nil pass0 (pa_cons (pv 2) (pa_cons (pe_op op_add (pv 5) pe_int) pa_nil))) pa_nil))))))) (pss_one (ps_ret pe_bl)) pss_nil))))
      (pss_one (ps_if (PW.pt (pw_or (pt_not (pt_val (pe_callC (ok__law_right T) (hr.mono (by decide)) hc rfl T.m__law_right T.F__law_right.kp T.b__law_right .nil pass0 (pa_cons (pv 2) (pa_cons (pe_call (ok__law_word T) (hr.mono (by decide)) rfl T.m__law_word T.F__law_word.kp T.b__law_word .nil pass0 (pa_cons (pv 2) (pa_cons (pv 3) (pa_cons pe_int pa_nil)))) (pa_cons (pv 3) (pa_cons (pe_lst pa_nil) pa_nil))))))) (pw_or1 (pt_not (pt_val (pe_callC (ok__law_right T) (hr.mono (by decide)) hc rfl T.m__law_right T.F__law_right.kp T.b__law_right .nil pass0 (pa_cons (pv 2) (pa_cons pe_str (pa_cons (pv 3) (pa_cons (pe_lst (pa_cons pe_int (pa_cons pe_int pa_nil))) pa_nil)))))))))) (pss_one (ps_ret pe_bl)) pss_nil))))))
      (pss_cons (ps_if (PW.pt (pw_or (pt_cmpR op_notBl (pe_call (ok_is_let_road T) (hr.mono (by decide)) rfl T.m_is_let_road T.F_is_let_road.kp T.b_is_let_road .nil pass0 (pa_cons pe_str (pa_cons pe_str (pa_cons (pe_lst (pa_cons pe_int pa_nil)) (pa_cons (pe_op op_rep (pe_lst (pa_cons pe_int pa_nil)) pe_int) pa_nil))))) pe_bl (nomark _)) (pw_or1 (pt_cmpR op_notBl (pe_call (ok_is_let_road T) (hr.mono (by decide)) rfl T.m_is_let_road T.F_is_let_road.kp T.b_is_let_road .nil pass0 (pa_cons pe_str (pa_cons pe_str (pa_cons (pe_lst (pa_cons pe_int pa_nil)) (pa_cons (pe_op op_cat (pe_op op_rep (pe_lst (pa_cons pe_int pa_nil)) pe_int) (pe_lst (pa_cons pe_int pa_nil))) pa_nil))))) pe_bl (nomark _))))) (pss_one (ps_ret pe_bl)) pss_nil)
      (pss_cons (ps_if (PW.pt (pw_or (pt_cmpR (op_neD hr.units) (pe_call (ok_let_places T) (hr.mono (by decide)) rfl T.m_let_places T.F_let_places.kp T.b_let_places .nil pass0 (pa_cons pe_str (pa_cons pe_str (pa_cons (pe_lst (pa_cons pe_int pa_nil)) pa_nil)))) (pe_lst (pa_cons pe_int (pa_cons pe_int pa_nil))) (nomark _)) (pw_or (pt_cmpR (op_neD hr.units) (pe_call (ok_let_places T) (hr.mono (by decide)) rfl T.m_let_places T.F_let_places.kp T.b_let_places .nil pass0 (pa_cons pe_str (pa_cons pe_str (pa_cons (pe_lst (pa_cons pe_int pa_nil)) pa_nil)))) (pe_lst (pa_cons pe_int pa_nil)) (nomark _)) (pw_or1 (pt_cmpR (op_neD hr.units) (pe_call (ok_let_places T) (hr.mono (by decide)) rfl T.m_let_places T.F_let_places.kp T.b_let_places .nil pass0 (pa_cons pe_str (pa_cons pe_str (pa_cons (pe_lst (pa_cons (pe_op op_powW pe_int pe_int) pa_nil)) pa_nil)))) (pe_lst pa_nil) (nomark _)))))) (pss_one (ps_ret pe_bl)) pss_nil)
      (pss_one (ps_ret (pe_and (pe_cmpR op_isBl (pe_call (ok_is_let_road T) (hr.mono (by decide)) rfl T.m_is_let_road T.F_is_let_road.kp T.b_is_let_road .nil pass0 (pa_cons pe_str (pa_cons pe_str (pa_cons (pe_lst (pa_cons pe_int pa_nil)) (pa_cons (pe_lst (pa_cons pe_int (pa_cons pe_int pa_nil))) pa_nil))))) pe_bl (nomark _)) (pe_one (pe_cmpR op_isBl (pe_call (ok_is_let_road T) (hr.mono (by decide)) rfl T.m_is_let_road T.F_is_let_road.kp T.b_is_let_road .nil pass0 (pa_cons pe_str (pa_cons pe_str (pa_cons (pe_lst (pa_cons pe_int pa_nil)) (pa_cons (pe_lst (pa_cons pe_int pa_nil)) pa_nil))))) pe_bl (nomark _))))))))), ?_⟩
    refine ⟨3, rfl, by decide, by decide, ?_⟩
    refine for_range (lo := 0) (n := 3) (fun i σ H' => ∃ w1 w2 w3 w4 w5 w6 : Option V, σ = [some (.ref a), w1, w2, w3, w4, w5, w6] ∧ SqL K H' a (ns.map V.int)) ⟨_, _, _, _, _, _, rfl, hS⟩ ?_ ?_
    · rintro i σ H1 hi ⟨w1, w2, w3, w4, w5, w6, rfl, hS1⟩
      refine ⟨_, rfl, _, rfl, a, ns, i, (by rw [Int.zero_add]; rfl), hS1, by omega, fun g H2 hg s2 G2 => ?_⟩
      refine ⟨_, rfl, g, 1000 * i, rfl, G2, by omega, fun t js bd H3 dt hj0 hj6 hb3 hcc hjp b3 G3 => ?_⟩
      refine ⟨t, _, rfl, SqT.of dt, rfl, _, _, rfl, _, _, rfl, rfl, ?_⟩
      have hjm : ∀ c ∈ js, 97 ≤ c ∧ c ≤ 122 := fun c h => hcc c (List.mem_append_left _ h)
      have hj : jointsB js = true := jointsB_of hjp hjm
      show tSeq _ _ _ [some (V.ref a), some (V.int (0 + (i : Nat))), some (V.ref g), some (V.str (S js)), some (V.str (S bd)), w5, w6] _
      refine ⟨_, rfl, g, 7, 1000 * i + 10, rfl, G3, by omega, by decide, by decide, fun r1 H4 r10 r11 b4 G4 => ?_⟩
      refine ⟨(by show 3 ≤ sizeLine; decide), fun p hp => ?_⟩
      have npg : p ≠ g := G4.ne hp
      refine ⟨_, rfl, g, 3, 1000 * i + 10 + 10, rfl, G4.new hp, by omega, by decide, by decide, fun r2 H5 r20 r21 b5 G5 => ?_⟩
      obtain ⟨n2, hn2, hn60⟩ := pick3 (a := 12) (b := 60) (c := 1) (m := 60) r20 r21 (by decide) (by decide) (by decide)
      refine ⟨p, _, _, _, rfl, rfl, SqL.of (b5 _ _ npg upd_same), hn2, (by show 2 ≤ sizeLine; decide), fun L hL => ?_⟩
      have nLg : L ≠ g := G5.ne hL
      have G6 := G5.new (o := HO.lst [V.int r1, V.int (n2 : Nat)]) hL
      have B6 : But g H2 (upd H5 L (.lst [V.int r1, V.int (n2 : Nat)])) := b3.trans (b4.trans ((But.same (Same.upd hp)).trans (b5.trans (But.same (Same.upd hL)))))
      have dL : (upd H5 L (.lst [V.int r1, V.int (n2 : Nat)])) L = some (.lst [V.int r1, V.int (n2 : Nat)]) := upd_same
      generalize upd H5 L (.lst [V.int r1, V.int (n2 : Nat)]) = H6 at G6 B6 dL
      generalize hc6 : 1000 * i + 10 + 10 + 10 = c6 at G6
      refine ⟨L, rfl, ⟨_, SqL.of dL⟩, for_list (K := K) (a := L) (xs := [V.int r1, V.int (n2 : Nat)]) (fun j σ H' => ∃ v5 v6 : Option V, σ = [some (V.ref a), some (V.int (0 + (i : Nat))), some (V.ref g), some (V.str (S js)), some (V.str (S bd)), v5, v6] ∧ But g H6 H' ∧ GenAt H' g (c6 + 2000 * j)) ⟨_, _, rfl, But.refl _ _, G6⟩ (fun j σ H' _ ⟨_, _, _, b, _⟩ => SqL.of (b _ _ nLg dL)) ?_ ?_⟩
      · rintro j y σ H7 hy ⟨v5, v6, rfl, b7, G7⟩
        have hj2 : j < 2 := (List.getElem?_eq_some_iff.mp hy).1
        obtain ⟨n, rfl, hn⟩ : ∃ n : Nat, y = V.int (n : Nat) ∧ n ≤ 60 := by
          have h01 : j = 0 ∨ j = 1 := by omega
          rcases h01 with rfl | rfl
          · refine ⟨r1.toNat, ?_, by omega⟩
            have e1 : some (V.int r1) = some y := hy
            rw [← Option.some.inj e1, show ((r1.toNat : Nat) : Int) = r1 by omega]
          · have e1 : some (V.int (n2 : Nat)) = some y := hy
            exact ⟨n2, (Option.some.inj e1).symm, by omega⟩
        refine ⟨_, rfl, _, rfl, _, rfl, _, _, rfl, rfl, (by rw [len_S, len_S]; exact small_le (by omega)), _, rfl, g, js ++ bd, n, c6 + 2000 * j, (by rw [SX.S_cat]; rfl), G7, by omega, by rw [List.length_append]; omega, by rw [List.length_append]; omega, by omega, fun ws H8 hlen hm b8 G8 => ?_⟩
        have hw : wordB ws = true := wordB_of fun c h => hcc c (hm c h)
        refine ⟨_, rfl, _, rfl, _, rfl, _, rfl, _, rfl, _, _, rfl, rfl, g, n + 2, c6 + 2000 * j + 10 * n, rfl, G8, by omega, by omega, fun wa wd H9 ok hwl hwa b9 G9 dw => ?_⟩
        refine ⟨g, ws, js, wd, wa, c6 + 2000 * j + 10 * n + 10 * (n + 2), rfl, G9, by omega, dw, G8.ne hwa, by omega, hw, by omega, hj, by omega, ok, fun H10 b10 G10 => ⟨_, rfl, iteF ?_⟩⟩
        exact ⟨_, _, rfl, b7.trans (b8.trans (b9.trans b10)), G10.mono (by omega)⟩
      rintro σ H7 ⟨v5, v6, rfl, b7, G7⟩
      have G7' : GenAt H7 g (c6 + 4000) := G7.mono (by show c6 + 2000 * 2 ≤ _; omega)
      refine ⟨_, rfl, _, rfl, _, rfl, g, js, 5, c6 + 4000, rfl, G7', by omega, hj0, by omega, by decide, fun ws H8 hlen hm b8 G8 => ?_⟩
      have hw : wordB ws = true := wordB_of fun c h => hjm c (hm c h)
      refine ⟨_, rfl, (by show 0 ≤ sizeLine; decide), fun e he => ?_⟩
      have neg : e ≠ g := G8.ne he
      refine ⟨g, ws, js, [], e, c6 + 4000 + 10 * 5, rfl, G8.new he, by omega, upd_same, neg, by omega, hw, by omega, hj, by decide, ⟨fun _ h => (nomatch h), List.Pairwise.nil⟩, fun H9 b9 G9 => ⟨_, rfl, iteF ?_⟩⟩
      refine ⟨_, rfl, _, rfl, (by show 2 ≤ sizeLine; decide), fun f hf => ?_⟩
      have nfg : f ≠ g := G9.ne hf
      refine ⟨g, [], js, [1, 2], f, _, rfl, G9.new hf, by omega, upd_same, nfg, by decide, rfl, by omega, hj, by decide, ⟨by decide, by decide⟩, fun H10 b10 G10 => ⟨_, rfl, iteF ?_⟩⟩
      have B10 : But g H2 H10 := B6.trans (b7.trans (b8.trans ((But.same (Same.upd he)).trans (b9.trans ((But.same (Same.upd hf)).trans b10)))))
      exact ⟨_, _, _, _, _, _, rfl, (B10.after s2 hg).seq hS1⟩
    rintro σ H1 ⟨w1, w2, w3, w4, w5, w6, rfl, hS1⟩
    have okone : WidthsOk [1] := ⟨by decide, by decide⟩
    refine ⟨(by show 1 ≤ sizeLine; decide), fun p1 hp1 => ⟨(by show 1 ≤ sizeLine; decide), fun p6 hp6 => ?_⟩⟩
    refine ⟨p6, _, _, rfl, rfl, upd_same, by decide, by decide, (by show 1 * 1000 ≤ sizeLine; decide), fun p7 hp7 => ?_⟩
    have z1 : (upd (upd (upd H1 p1 (.lst [V.int 1])) p6 (.lst [V.int 0])) p7 (.lst (List.replicate (1000 : Int).toNat [V.int 0]).flatten)) p7 = some (.lst (placesV (List.replicate 1000 0))) := upd_same.trans (congrArg (fun x => some (HO.lst x)) (by decide +kernel : (List.replicate (1000 : Int).toNat [V.int 0]).flatten = placesV (List.replicate 1000 0)))
    have hr1 : roadW [120, 121, 122] [1] [120, 121, 122] (some ((List.replicate 1000 0).map fun p : Nat => some (p : Int))) = true := by decide +kernel
    refine ⟨[120, 121, 122], [120, 121, 122], [1], p1, .ref p7, _, rfl, Same.upd hp7 _ _ (Same.upd hp6 _ _ upd_same), by decide, by decide, by decide, by decide, by decide, okone, .lst z1 (Items.places _), fun os e => by cases e; decide, fun H2 s2 => ?_⟩
    refine ⟨_, _, rfl, rfl, _, rfl, iteNS hr1 ?_⟩
    refine ⟨(by show 1 ≤ sizeLine; decide), fun q1 hq1 => ⟨(by show 1 ≤ sizeLine; decide), fun q6 hq6 => ?_⟩⟩
    refine ⟨q6, _, _, rfl, rfl, upd_same, by decide, by decide, (by show 1 * 999 ≤ sizeLine; decide), fun q7 hq7 => ?_⟩
    have y1 : (upd (upd (upd H2 q1 (.lst [V.int 1])) q6 (.lst [V.int 0])) q7 (.lst (List.replicate (999 : Int).toNat [V.int 0]).flatten)) q7 = some (.lst (placesV (List.replicate 999 0))) := upd_same.trans (congrArg (fun x => some (HO.lst x)) (by decide +kernel : (List.replicate (999 : Int).toNat [V.int 0]).flatten = placesV (List.replicate 999 0)))
    have yw : (upd (upd (upd H2 q1 (.lst [V.int 1])) q6 (.lst [V.int 0])) q7 (.lst (List.replicate (999 : Int).toNat [V.int 0]).flatten)) q1 = some (.lst (placesV [1])) := Same.upd hq7 _ _ (Same.upd hq6 _ _ upd_same)
    generalize upd (upd (upd H2 q1 (.lst [V.int 1])) q6 (.lst [V.int 0])) q7 (.lst (List.replicate (999 : Int).toNat [V.int 0]).flatten) = H3 at y1 yw
    refine ⟨(by show 1 ≤ sizeLine; decide), fun q8 hq8 => ?_⟩
    refine ⟨q7, q8, _, _, rfl, rfl, Same.upd hq8 _ _ y1, upd_same, (by rw [List.length_map, List.length_replicate]; decide), fun q9 hq9 => ?_⟩
    have hr2 : roadW [120, 121, 122] [1] [120, 121, 122] (some ((List.replicate 999 0 ++ [1]).map fun p : Nat => some (p : Int))) = false := by decide +kernel
    refine ⟨[120, 121, 122], [120, 121, 122], [1], q1, .ref q9, some ((List.replicate 999 0 ++ [1]).map fun p : Nat => some (p : Int)), rfl, Same.upd hq9 _ _ (Same.upd hq8 _ _ yw), by decide, by decide, by decide, by decide, by decide, okone, .lst (upd_same.trans (by rw [show placesV (List.replicate 999 0 ++ [1]) = placesV (List.replicate 999 0) ++ [V.int 1] by simp [placesV]] : _ = some (HO.lst (placesV (List.replicate 999 0 ++ [1]))))) (Items.places _), fun os e => by cases e; decide, fun H4 s4 => ?_⟩
    refine ⟨_, _, rfl, rfl, _, rfl, iteNS hr2 ?_⟩
    -- let places
    refine ⟨(by show 1 ≤ sizeLine; decide), fun a1 ha1 => ?_⟩
    refine ⟨[120, 121, 122], [120, 121, 122], [1], a1, rfl, upd_same, by decide, by decide, by decide, by decide, by decide, okone, fun m1 H5 hm1 s5 d5 => ?_⟩
    rw [show letL [120, 121, 122] [120, 121, 122] [1] = [0, 2] by decide +kernel] at d5
    refine ⟨(by show 2 ≤ sizeLine; decide), fun a2 ha2 => ?_⟩
    refine ne_places (ns := [0, 2]) (SqL.of (Same.upd ha2 _ _ d5)) (SqL.of upd_same) ⟨_, rfl, iteF ?_⟩
    refine ⟨(by show 1 ≤ sizeLine; decide), fun a3 ha3 => ?_⟩
    refine ⟨[97, 120, 98, 121], [120, 121], [2], a3, rfl, upd_same, by decide, by decide, by decide, by decide, by decide, ⟨by decide, by decide⟩, fun m2 H6 hm2 s6 d6 => ?_⟩
    rw [show letL [97, 120, 98, 121] [120, 121] [2] = [1] by decide +kernel] at d6
    refine ⟨(by show 1 ≤ sizeLine; decide), fun a4 ha4 => ?_⟩
    refine ne_places (ns := [1]) (SqL.of (Same.upd ha4 _ _ d6)) (SqL.of upd_same) ⟨_, rfl, iteF ?_⟩
    refine ⟨_, _, rfl, rfl, ⟨by decide, by decide +kernel⟩, (by show 1 ≤ sizeLine; decide), fun a5 ha5 => ?_⟩
    have e29 : (10 : Int) ^ (29 : Int).toNat = ((10 ^ 29 : Nat) : Int) := by decide +kernel
    refine ⟨[120, 97, 120], [120], [10 ^ 29], a5, rfl, upd_same.trans (congrArg (fun x : Int => some (HO.lst [V.int x])) e29), by decide, by decide, by decide, by decide, by decide, ⟨by decide +kernel, by decide +kernel⟩, fun m3 H7 hm3 s7 d7 => ?_⟩
    rw [show letL [120, 97, 120] [120] [10 ^ 29] = [] by decide +kernel] at d7
    refine ⟨(by show 0 ≤ sizeLine; decide), fun a6 ha6 => ?_⟩
    refine ne_places (ns := []) (SqL.of (Same.upd ha6 _ _ d7)) (SqL.of upd_same) ⟨_, rfl, iteF ?_⟩
    -- the last two
    refine ⟨(by show 1 ≤ sizeLine; decide), fun b1 hb1 => ⟨(by show 2 ≤ sizeLine; decide), fun b2 hb2 => ?_⟩⟩
    have hr3 : roadW [120, 121, 122] [1] [120, 121, 122] (some (([0, 0]).map fun p : Nat => some (p : Int))) = true := by decide +kernel
    refine ⟨[120, 121, 122], [120, 121, 122], [1], b1, .ref b2, some (([0, 0]).map fun p : Nat => some (p : Int)), rfl, Same.upd hb2 _ _ upd_same, by decide, by decide, by decide, by decide, by decide, okone, .lst (xs := placesV [0, 0]) upd_same (Items.places _), fun os e => by cases e; decide, fun H8 s8 => ?_⟩
    refine ⟨_, _, rfl, rfl, _, rfl, ?_⟩
    rw [decide_eq_true hr3]
    refine iteT ?_
    refine ⟨(by show 1 ≤ sizeLine; decide), fun b3 hb3 => ⟨(by show 1 ≤ sizeLine; decide), fun b4 hb4 => ?_⟩⟩
    have hr4 : roadW [120, 121, 122] [1] [120, 121, 122] (some (([1]).map fun p : Nat => some (p : Int))) = false := by decide +kernel
    refine ⟨[120, 121, 122], [120, 121, 122], [1], b3, .ref b4, some (([1]).map fun p : Nat => some (p : Int)), rfl, Same.upd hb4 _ _ upd_same, by decide, by decide, by decide, by decide, by decide, okone, .lst (xs := placesV [1]) upd_same (Items.places _), fun os e => by cases e; decide, fun H9 s9 => ?_⟩
    refine ⟨_, _, rfl, rfl, ?_⟩
    rw [decide_eq_true hr4]
    exact k _
end
theorem all_mk {l : PySem.W.OpenLaw} {w : World} {K : PySem.W.Frag} {h : Heap} {mg : Str → Option Value} {fa : Addr} (X : K.In h) (G : h.Ns mainGlobals mg) (hfa : mg "law" = some (.ref fa))
    {f_is_word : Addr} {od_is_word an_is_word : Option Addr} {sl_is_word : Array (Option Value)} {oc_is_word kV_is_word dc_is_word pm_is_word cd_is_word ct_is_word : Value}
    {f_is_count : Addr} {od_is_count an_is_count : Option Addr} {sl_is_count : Array (Option Value)} {oc_is_count kV_is_count dc_is_count pm_is_count cd_is_count ct_is_count : Value}
    {f__ascends : Addr} {od__ascends an__ascends : Option Addr} {sl__ascends : Array (Option Value)} {oc__ascends kV__ascends dc__ascends pm__ascends cd__ascends ct__ascends : Value}
    {f_sides_changed : Addr} {od_sides_changed an_sides_changed : Option Addr} {sl_sides_changed : Array (Option Value)} {oc_sides_changed kV_sides_changed dc_sides_changed pm_sides_changed cd_sides_changed ct_sides_changed : Value}
    {f__lets : Addr} {od__lets an__lets : Option Addr} {sl__lets : Array (Option Value)} {oc__lets kV__lets dc__lets pm__lets cd__lets ct__lets : Value}
    {f__law_cell : Addr} {od__law_cell an__law_cell : Option Addr} {sl__law_cell : Array (Option Value)} {oc__law_cell kV__law_cell dc__law_cell pm__law_cell cd__law_cell ct__law_cell : Value}
    {f__law_hash : Addr} {od__law_hash an__law_hash : Option Addr} {sl__law_hash : Array (Option Value)} {oc__law_hash kV__law_hash dc__law_hash pm__law_hash cd__law_hash ct__law_hash : Value}
    {f__law_swapped : Addr} {od__law_swapped an__law_swapped : Option Addr} {sl__law_swapped : Array (Option Value)} {oc__law_swapped kV__law_swapped dc__law_swapped pm__law_swapped cd__law_swapped ct__law_swapped : Value}
    {f__law_let : Addr} {od__law_let an__law_let : Option Addr} {sl__law_let : Array (Option Value)} {oc__law_let kV__law_let dc__law_let pm__law_let cd__law_let ct__law_let : Value}
    {f_is_joints : Addr} {od_is_joints an_is_joints : Option Addr} {sl_is_joints : Array (Option Value)} {oc_is_joints kV_is_joints dc_is_joints pm_is_joints cd_is_joints ct_is_joints : Value}
    {f_check_word : Addr} {od_check_word an_check_word : Option Addr} {sl_check_word : Array (Option Value)} {oc_check_word kV_check_word dc_check_word pm_check_word cd_check_word ct_check_word : Value}
    {f__is_open : Addr} {od__is_open an__is_open : Option Addr} {sl__is_open : Array (Option Value)} {oc__is_open kV__is_open dc__is_open pm__is_open cd__is_open ct__is_open : Value}
    {f_back_road : Addr} {od_back_road an_back_road : Option Addr} {sl_back_road : Array (Option Value)} {oc_back_road kV_back_road dc_back_road pm_back_road cd_back_road ct_back_road : Value}
    {f_check_widths : Addr} {od_check_widths an_check_widths : Option Addr} {sl_check_widths : Array (Option Value)} {oc_check_widths kV_check_widths dc_check_widths pm_check_widths cd_check_widths ct_check_widths : Value}
    {f__law_generator : Addr} {od__law_generator an__law_generator : Option Addr} {sl__law_generator : Array (Option Value)} {oc__law_generator kV__law_generator dc__law_generator pm__law_generator cd__law_generator ct__law_generator : Value}
    {f__law_random : Addr} {od__law_random an__law_random : Option Addr} {sl__law_random : Array (Option Value)} {oc__law_random kV__law_random dc__law_random pm__law_random cd__law_random ct__law_random : Value}
    {f__law_is_road : Addr} {od__law_is_road an__law_is_road : Option Addr} {sl__law_is_road : Array (Option Value)} {oc__law_is_road kV__law_is_road dc__law_is_road pm__law_is_road cd__law_is_road ct__law_is_road : Value}
    {f_check_joints : Addr} {od_check_joints an_check_joints : Option Addr} {sl_check_joints : Array (Option Value)} {oc_check_joints kV_check_joints dc_check_joints pm_check_joints cd_check_joints ct_check_joints : Value}
    {f__walked : Addr} {od__walked an__walked : Option Addr} {sl__walked : Array (Option Value)} {oc__walked kV__walked dc__walked pm__walked cd__walked ct__walked : Value}
    {f__law_letters : Addr} {od__law_letters an__law_letters : Option Addr} {sl__law_letters : Array (Option Value)} {oc__law_letters kV__law_letters dc__law_letters pm__law_letters cd__law_letters ct__law_letters : Value}
    {f__law_word : Addr} {od__law_word an__law_word : Option Addr} {sl__law_word : Array (Option Value)} {oc__law_word kV__law_word dc__law_word pm__law_word cd__law_word ct__law_word : Value}
    {f__law_widths : Addr} {od__law_widths an__law_widths : Option Addr} {sl__law_widths : Array (Option Value)} {oc__law_widths kV__law_widths dc__law_widths pm__law_widths cd__law_widths ct__law_widths : Value}
    {f__law_drawn_road : Addr} {od__law_drawn_road an__law_drawn_road : Option Addr} {sl__law_drawn_road : Array (Option Value)} {oc__law_drawn_road kV__law_drawn_road dc__law_drawn_road pm__law_drawn_road cd__law_drawn_road ct__law_drawn_road : Value}
    {f__law_bent : Addr} {od__law_bent an__law_bent : Option Addr} {sl__law_bent : Array (Option Value)} {oc__law_bent kV__law_bent dc__law_bent pm__law_bent cd__law_bent ct__law_bent : Value}
    {f_open_places : Addr} {od_open_places an_open_places : Option Addr} {sl_open_places : Array (Option Value)} {oc_open_places kV_open_places dc_open_places pm_open_places cd_open_places ct_open_places : Value}
    {f_is_road : Addr} {od_is_road an_is_road : Option Addr} {sl_is_road : Array (Option Value)} {oc_is_road kV_is_road dc_is_road pm_is_road cd_is_road ct_is_road : Value}
    {f_passed : Addr} {od_passed an_passed : Option Addr} {sl_passed : Array (Option Value)} {oc_passed kV_passed dc_passed pm_passed cd_passed ct_passed : Value}
    {f_check_jumps : Addr} {od_check_jumps an_check_jumps : Option Addr} {sl_check_jumps : Array (Option Value)} {oc_check_jumps kV_check_jumps dc_check_jumps pm_check_jumps cd_check_jumps ct_check_jumps : Value}
    {f_done : Addr} {od_done an_done : Option Addr} {sl_done : Array (Option Value)} {oc_done kV_done dc_done pm_done cd_done ct_done : Value}
    {f_let_places : Addr} {od_let_places an_let_places : Option Addr} {sl_let_places : Array (Option Value)} {oc_let_places kV_let_places dc_let_places pm_let_places cd_let_places ct_let_places : Value}
    {f_is_let_road : Addr} {od_is_let_road an_is_let_road : Option Addr} {sl_is_let_road : Array (Option Value)} {oc_is_let_road kV_is_let_road dc_is_let_road pm_is_let_road cd_is_let_road ct_is_let_road : Value}
    {f__law_right : Addr} {od__law_right an__law_right : Option Addr} {sl__law_right : Array (Option Value)} {oc__law_right kV__law_right dc__law_right pm__law_right cd__law_right ct__law_right : Value}
    {f_law : Addr} {od_law an_law : Option Addr} {sl_law : Array (Option Value)} {oc_law kV_law dc_law pm_law cd_law ct_law : Value}
    (a_is_word : PySem.W.nsIn K mainGlobals "is_word" = some (some (.ref f_is_word))) (l_is_word : K.lookup f_is_word = some ⟨oc_is_word, od_is_word, .func (PySem.W.fnOf "is_word" "is_word" (defArgs s_is_word) (defBody s_is_word) (defScope s_is_word) .none kV_is_word dc_is_word pm_is_word an_is_word cd_is_word ct_is_word), sl_is_word⟩) (c_is_word : PySem.W.codeIn K cd_is_word "is_word" = true) (k_is_word : PySem.W.keepIn K (.ref f_is_word) = true)
    (a_is_count : PySem.W.nsIn K mainGlobals "is_count" = some (some (.ref f_is_count))) (l_is_count : K.lookup f_is_count = some ⟨oc_is_count, od_is_count, .func (PySem.W.fnOf "is_count" "is_count" (defArgs s_is_count) (defBody s_is_count) (defScope s_is_count) .none kV_is_count dc_is_count pm_is_count an_is_count cd_is_count ct_is_count), sl_is_count⟩) (c_is_count : PySem.W.codeIn K cd_is_count "is_count" = true) (k_is_count : PySem.W.keepIn K (.ref f_is_count) = true)
    (a__ascends : PySem.W.nsIn K mainGlobals "_ascends" = some (some (.ref f__ascends))) (l__ascends : K.lookup f__ascends = some ⟨oc__ascends, od__ascends, .func (PySem.W.fnOf "_ascends" "_ascends" (defArgs s__ascends) (defBody s__ascends) (defScope s__ascends) .none kV__ascends dc__ascends pm__ascends an__ascends cd__ascends ct__ascends), sl__ascends⟩) (c__ascends : PySem.W.codeIn K cd__ascends "_ascends" = true) (k__ascends : PySem.W.keepIn K (.ref f__ascends) = true)
    (a_sides_changed : PySem.W.nsIn K mainGlobals "sides_changed" = some (some (.ref f_sides_changed))) (l_sides_changed : K.lookup f_sides_changed = some ⟨oc_sides_changed, od_sides_changed, .func (PySem.W.fnOf "sides_changed" "sides_changed" (defArgs s_sides_changed) (defBody s_sides_changed) (defScope s_sides_changed) .none kV_sides_changed dc_sides_changed pm_sides_changed an_sides_changed cd_sides_changed ct_sides_changed), sl_sides_changed⟩) (c_sides_changed : PySem.W.codeIn K cd_sides_changed "sides_changed" = true) (k_sides_changed : PySem.W.keepIn K (.ref f_sides_changed) = true)
    (a__lets : PySem.W.nsIn K mainGlobals "_lets" = some (some (.ref f__lets))) (l__lets : K.lookup f__lets = some ⟨oc__lets, od__lets, .func (PySem.W.fnOf "_lets" "_lets" (defArgs s__lets) (defBody s__lets) (defScope s__lets) .none kV__lets dc__lets pm__lets an__lets cd__lets ct__lets), sl__lets⟩) (c__lets : PySem.W.codeIn K cd__lets "_lets" = true) (k__lets : PySem.W.keepIn K (.ref f__lets) = true)
    (a__law_cell : PySem.W.nsIn K mainGlobals "_law_cell" = some (some (.ref f__law_cell))) (l__law_cell : K.lookup f__law_cell = some ⟨oc__law_cell, od__law_cell, .func (PySem.W.fnOf "_law_cell" "_law_cell" (defArgs s__law_cell) (defBody s__law_cell) (defScope s__law_cell) .none kV__law_cell dc__law_cell pm__law_cell an__law_cell cd__law_cell ct__law_cell), sl__law_cell⟩) (c__law_cell : PySem.W.codeIn K cd__law_cell "_law_cell" = true) (k__law_cell : PySem.W.keepIn K (.ref f__law_cell) = true)
    (a__law_hash : PySem.W.nsIn K mainGlobals "_law_hash" = some (some (.ref f__law_hash))) (l__law_hash : K.lookup f__law_hash = some ⟨oc__law_hash, od__law_hash, .func (PySem.W.fnOf "_law_hash" "_law_hash" (defArgs s__law_hash) (defBody s__law_hash) (defScope s__law_hash) .none kV__law_hash dc__law_hash pm__law_hash an__law_hash cd__law_hash ct__law_hash), sl__law_hash⟩) (c__law_hash : PySem.W.codeIn K cd__law_hash "_law_hash" = true) (k__law_hash : PySem.W.keepIn K (.ref f__law_hash) = true)
    (a__law_swapped : PySem.W.nsIn K mainGlobals "_law_swapped" = some (some (.ref f__law_swapped))) (l__law_swapped : K.lookup f__law_swapped = some ⟨oc__law_swapped, od__law_swapped, .func (PySem.W.fnOf "_law_swapped" "_law_swapped" (defArgs s__law_swapped) (defBody s__law_swapped) (defScope s__law_swapped) .none kV__law_swapped dc__law_swapped pm__law_swapped an__law_swapped cd__law_swapped ct__law_swapped), sl__law_swapped⟩) (c__law_swapped : PySem.W.codeIn K cd__law_swapped "_law_swapped" = true) (k__law_swapped : PySem.W.keepIn K (.ref f__law_swapped) = true)
    (a__law_let : PySem.W.nsIn K mainGlobals "_law_let" = some (some (.ref f__law_let))) (l__law_let : K.lookup f__law_let = some ⟨oc__law_let, od__law_let, .func (PySem.W.fnOf "_law_let" "_law_let" (defArgs s__law_let) (defBody s__law_let) (defScope s__law_let) .none kV__law_let dc__law_let pm__law_let an__law_let cd__law_let ct__law_let), sl__law_let⟩) (c__law_let : PySem.W.codeIn K cd__law_let "_law_let" = true) (k__law_let : PySem.W.keepIn K (.ref f__law_let) = true)
    (a_is_joints : PySem.W.nsIn K mainGlobals "is_joints" = some (some (.ref f_is_joints))) (l_is_joints : K.lookup f_is_joints = some ⟨oc_is_joints, od_is_joints, .func (PySem.W.fnOf "is_joints" "is_joints" (defArgs s_is_joints) (defBody s_is_joints) (defScope s_is_joints) .none kV_is_joints dc_is_joints pm_is_joints an_is_joints cd_is_joints ct_is_joints), sl_is_joints⟩) (c_is_joints : PySem.W.codeIn K cd_is_joints "is_joints" = true) (k_is_joints : PySem.W.keepIn K (.ref f_is_joints) = true)
    (a_check_word : PySem.W.nsIn K mainGlobals "check_word" = some (some (.ref f_check_word))) (l_check_word : K.lookup f_check_word = some ⟨oc_check_word, od_check_word, .func (PySem.W.fnOf "check_word" "check_word" (defArgs s_check_word) (defBody s_check_word) (defScope s_check_word) .none kV_check_word dc_check_word pm_check_word an_check_word cd_check_word ct_check_word), sl_check_word⟩) (c_check_word : PySem.W.codeIn K cd_check_word "check_word" = true) (k_check_word : PySem.W.keepIn K (.ref f_check_word) = true)
    (a__is_open : PySem.W.nsIn K mainGlobals "_is_open" = some (some (.ref f__is_open))) (l__is_open : K.lookup f__is_open = some ⟨oc__is_open, od__is_open, .func (PySem.W.fnOf "_is_open" "_is_open" (defArgs s__is_open) (defBody s__is_open) (defScope s__is_open) .none kV__is_open dc__is_open pm__is_open an__is_open cd__is_open ct__is_open), sl__is_open⟩) (c__is_open : PySem.W.codeIn K cd__is_open "_is_open" = true) (k__is_open : PySem.W.keepIn K (.ref f__is_open) = true)
    (a_back_road : PySem.W.nsIn K mainGlobals "back_road" = some (some (.ref f_back_road))) (l_back_road : K.lookup f_back_road = some ⟨oc_back_road, od_back_road, .func (PySem.W.fnOf "back_road" "back_road" (defArgs s_back_road) (defBody s_back_road) (defScope s_back_road) .none kV_back_road dc_back_road pm_back_road an_back_road cd_back_road ct_back_road), sl_back_road⟩) (c_back_road : PySem.W.codeIn K cd_back_road "back_road" = true) (k_back_road : PySem.W.keepIn K (.ref f_back_road) = true)
    (a_check_widths : PySem.W.nsIn K mainGlobals "check_widths" = some (some (.ref f_check_widths))) (l_check_widths : K.lookup f_check_widths = some ⟨oc_check_widths, od_check_widths, .func (PySem.W.fnOf "check_widths" "check_widths" (defArgs s_check_widths) (defBody s_check_widths) (defScope s_check_widths) .none kV_check_widths dc_check_widths pm_check_widths an_check_widths cd_check_widths ct_check_widths), sl_check_widths⟩) (c_check_widths : PySem.W.codeIn K cd_check_widths "check_widths" = true) (k_check_widths : PySem.W.keepIn K (.ref f_check_widths) = true)
    (a__law_generator : PySem.W.nsIn K mainGlobals "_law_generator" = some (some (.ref f__law_generator))) (l__law_generator : K.lookup f__law_generator = some ⟨oc__law_generator, od__law_generator, .func (PySem.W.fnOf "_law_generator" "_law_generator" (defArgs s__law_generator) (defBody s__law_generator) (defScope s__law_generator) .none kV__law_generator dc__law_generator pm__law_generator an__law_generator cd__law_generator ct__law_generator), sl__law_generator⟩) (c__law_generator : PySem.W.codeIn K cd__law_generator "_law_generator" = true) (k__law_generator : PySem.W.keepIn K (.ref f__law_generator) = true)
    (a__law_random : PySem.W.nsIn K mainGlobals "_law_random" = some (some (.ref f__law_random))) (l__law_random : K.lookup f__law_random = some ⟨oc__law_random, od__law_random, .func (PySem.W.fnOf "_law_random" "_law_random" (defArgs s__law_random) (defBody s__law_random) (defScope s__law_random) .none kV__law_random dc__law_random pm__law_random an__law_random cd__law_random ct__law_random), sl__law_random⟩) (c__law_random : PySem.W.codeIn K cd__law_random "_law_random" = true) (k__law_random : PySem.W.keepIn K (.ref f__law_random) = true)
    (a__law_is_road : PySem.W.nsIn K mainGlobals "_law_is_road" = some (some (.ref f__law_is_road))) (l__law_is_road : K.lookup f__law_is_road = some ⟨oc__law_is_road, od__law_is_road, .func (PySem.W.fnOf "_law_is_road" "_law_is_road" (defArgs s__law_is_road) (defBody s__law_is_road) (defScope s__law_is_road) .none kV__law_is_road dc__law_is_road pm__law_is_road an__law_is_road cd__law_is_road ct__law_is_road), sl__law_is_road⟩) (c__law_is_road : PySem.W.codeIn K cd__law_is_road "_law_is_road" = true) (k__law_is_road : PySem.W.keepIn K (.ref f__law_is_road) = true)
    (a_check_joints : PySem.W.nsIn K mainGlobals "check_joints" = some (some (.ref f_check_joints))) (l_check_joints : K.lookup f_check_joints = some ⟨oc_check_joints, od_check_joints, .func (PySem.W.fnOf "check_joints" "check_joints" (defArgs s_check_joints) (defBody s_check_joints) (defScope s_check_joints) .none kV_check_joints dc_check_joints pm_check_joints an_check_joints cd_check_joints ct_check_joints), sl_check_joints⟩) (c_check_joints : PySem.W.codeIn K cd_check_joints "check_joints" = true) (k_check_joints : PySem.W.keepIn K (.ref f_check_joints) = true)
    (a__walked : PySem.W.nsIn K mainGlobals "_walked" = some (some (.ref f__walked))) (l__walked : K.lookup f__walked = some ⟨oc__walked, od__walked, .func (PySem.W.fnOf "_walked" "_walked" (defArgs s__walked) (defBody s__walked) (defScope s__walked) .none kV__walked dc__walked pm__walked an__walked cd__walked ct__walked), sl__walked⟩) (c__walked : PySem.W.codeIn K cd__walked "_walked" = true) (k__walked : PySem.W.keepIn K (.ref f__walked) = true)
    (a__law_letters : PySem.W.nsIn K mainGlobals "_law_letters" = some (some (.ref f__law_letters))) (l__law_letters : K.lookup f__law_letters = some ⟨oc__law_letters, od__law_letters, .func (PySem.W.fnOf "_law_letters" "_law_letters" (defArgs s__law_letters) (defBody s__law_letters) (defScope s__law_letters) .none kV__law_letters dc__law_letters pm__law_letters an__law_letters cd__law_letters ct__law_letters), sl__law_letters⟩) (c__law_letters : PySem.W.codeIn K cd__law_letters "_law_letters" = true) (k__law_letters : PySem.W.keepIn K (.ref f__law_letters) = true)
    (a__law_word : PySem.W.nsIn K mainGlobals "_law_word" = some (some (.ref f__law_word))) (l__law_word : K.lookup f__law_word = some ⟨oc__law_word, od__law_word, .func (PySem.W.fnOf "_law_word" "_law_word" (defArgs s__law_word) (defBody s__law_word) (defScope s__law_word) .none kV__law_word dc__law_word pm__law_word an__law_word cd__law_word ct__law_word), sl__law_word⟩) (c__law_word : PySem.W.codeIn K cd__law_word "_law_word" = true) (k__law_word : PySem.W.keepIn K (.ref f__law_word) = true)
    (a__law_widths : PySem.W.nsIn K mainGlobals "_law_widths" = some (some (.ref f__law_widths))) (l__law_widths : K.lookup f__law_widths = some ⟨oc__law_widths, od__law_widths, .func (PySem.W.fnOf "_law_widths" "_law_widths" (defArgs s__law_widths) (defBody s__law_widths) (defScope s__law_widths) .none kV__law_widths dc__law_widths pm__law_widths an__law_widths cd__law_widths ct__law_widths), sl__law_widths⟩) (c__law_widths : PySem.W.codeIn K cd__law_widths "_law_widths" = true) (k__law_widths : PySem.W.keepIn K (.ref f__law_widths) = true)
    (a__law_drawn_road : PySem.W.nsIn K mainGlobals "_law_drawn_road" = some (some (.ref f__law_drawn_road))) (l__law_drawn_road : K.lookup f__law_drawn_road = some ⟨oc__law_drawn_road, od__law_drawn_road, .func (PySem.W.fnOf "_law_drawn_road" "_law_drawn_road" (defArgs s__law_drawn_road) (defBody s__law_drawn_road) (defScope s__law_drawn_road) .none kV__law_drawn_road dc__law_drawn_road pm__law_drawn_road an__law_drawn_road cd__law_drawn_road ct__law_drawn_road), sl__law_drawn_road⟩) (c__law_drawn_road : PySem.W.codeIn K cd__law_drawn_road "_law_drawn_road" = true) (k__law_drawn_road : PySem.W.keepIn K (.ref f__law_drawn_road) = true)
    (a__law_bent : PySem.W.nsIn K mainGlobals "_law_bent" = some (some (.ref f__law_bent))) (l__law_bent : K.lookup f__law_bent = some ⟨oc__law_bent, od__law_bent, .func (PySem.W.fnOf "_law_bent" "_law_bent" (defArgs s__law_bent) (defBody s__law_bent) (defScope s__law_bent) .none kV__law_bent dc__law_bent pm__law_bent an__law_bent cd__law_bent ct__law_bent), sl__law_bent⟩) (c__law_bent : PySem.W.codeIn K cd__law_bent "_law_bent" = true) (k__law_bent : PySem.W.keepIn K (.ref f__law_bent) = true)
    (a_open_places : PySem.W.nsIn K mainGlobals "open_places" = some (some (.ref f_open_places))) (l_open_places : K.lookup f_open_places = some ⟨oc_open_places, od_open_places, .func (PySem.W.fnOf "open_places" "open_places" (defArgs s_open_places) (defBody s_open_places) (defScope s_open_places) .none kV_open_places dc_open_places pm_open_places an_open_places cd_open_places ct_open_places), sl_open_places⟩) (c_open_places : PySem.W.codeIn K cd_open_places "open_places" = true) (k_open_places : PySem.W.keepIn K (.ref f_open_places) = true)
    (a_is_road : PySem.W.nsIn K mainGlobals "is_road" = some (some (.ref f_is_road))) (l_is_road : K.lookup f_is_road = some ⟨oc_is_road, od_is_road, .func (PySem.W.fnOf "is_road" "is_road" (defArgs s_is_road) (defBody s_is_road) (defScope s_is_road) .none kV_is_road dc_is_road pm_is_road an_is_road cd_is_road ct_is_road), sl_is_road⟩) (c_is_road : PySem.W.codeIn K cd_is_road "is_road" = true) (k_is_road : PySem.W.keepIn K (.ref f_is_road) = true)
    (a_passed : PySem.W.nsIn K mainGlobals "passed" = some (some (.ref f_passed))) (l_passed : K.lookup f_passed = some ⟨oc_passed, od_passed, .func (PySem.W.fnOf "passed" "passed" (defArgs s_passed) (defBody s_passed) (defScope s_passed) .none kV_passed dc_passed pm_passed an_passed cd_passed ct_passed), sl_passed⟩) (c_passed : PySem.W.codeIn K cd_passed "passed" = true) (k_passed : PySem.W.keepIn K (.ref f_passed) = true)
    (a_check_jumps : PySem.W.nsIn K mainGlobals "check_jumps" = some (some (.ref f_check_jumps))) (l_check_jumps : K.lookup f_check_jumps = some ⟨oc_check_jumps, od_check_jumps, .func (PySem.W.fnOf "check_jumps" "check_jumps" (defArgs s_check_jumps) (defBody s_check_jumps) (defScope s_check_jumps) .none kV_check_jumps dc_check_jumps pm_check_jumps an_check_jumps cd_check_jumps ct_check_jumps), sl_check_jumps⟩) (c_check_jumps : PySem.W.codeIn K cd_check_jumps "check_jumps" = true) (k_check_jumps : PySem.W.keepIn K (.ref f_check_jumps) = true)
    (a_done : PySem.W.nsIn K mainGlobals "done" = some (some (.ref f_done))) (l_done : K.lookup f_done = some ⟨oc_done, od_done, .func (PySem.W.fnOf "done" "done" (defArgs s_done) (defBody s_done) (defScope s_done) .none kV_done dc_done pm_done an_done cd_done ct_done), sl_done⟩) (c_done : PySem.W.codeIn K cd_done "done" = true) (k_done : PySem.W.keepIn K (.ref f_done) = true)
    (a_let_places : PySem.W.nsIn K mainGlobals "let_places" = some (some (.ref f_let_places))) (l_let_places : K.lookup f_let_places = some ⟨oc_let_places, od_let_places, .func (PySem.W.fnOf "let_places" "let_places" (defArgs s_let_places) (defBody s_let_places) (defScope s_let_places) .none kV_let_places dc_let_places pm_let_places an_let_places cd_let_places ct_let_places), sl_let_places⟩) (c_let_places : PySem.W.codeIn K cd_let_places "let_places" = true) (k_let_places : PySem.W.keepIn K (.ref f_let_places) = true)
    (a_is_let_road : PySem.W.nsIn K mainGlobals "is_let_road" = some (some (.ref f_is_let_road))) (l_is_let_road : K.lookup f_is_let_road = some ⟨oc_is_let_road, od_is_let_road, .func (PySem.W.fnOf "is_let_road" "is_let_road" (defArgs s_is_let_road) (defBody s_is_let_road) (defScope s_is_let_road) .none kV_is_let_road dc_is_let_road pm_is_let_road an_is_let_road cd_is_let_road ct_is_let_road), sl_is_let_road⟩) (c_is_let_road : PySem.W.codeIn K cd_is_let_road "is_let_road" = true) (k_is_let_road : PySem.W.keepIn K (.ref f_is_let_road) = true)
    (a__law_right : PySem.W.nsIn K mainGlobals "_law_right" = some (some (.ref f__law_right))) (l__law_right : K.lookup f__law_right = some ⟨oc__law_right, od__law_right, .func (PySem.W.fnOf "_law_right" "_law_right" (defArgs s__law_right) (defBody s__law_right) (defScope s__law_right) .none kV__law_right dc__law_right pm__law_right an__law_right cd__law_right ct__law_right), sl__law_right⟩) (c__law_right : PySem.W.codeIn K cd__law_right "_law_right" = true) (k__law_right : PySem.W.keepIn K (.ref f__law_right) = true)
    (a_law : PySem.W.nsIn K mainGlobals "law" = some (some (.ref f_law))) (l_law : K.lookup f_law = some ⟨oc_law, od_law, .func (PySem.W.fnOf "law" "law" (defArgs s_law) (defBody s_law) (defScope s_law) .none kV_law dc_law pm_law an_law cd_law ct_law), sl_law⟩) (c_law : PySem.W.codeIn K cd_law "law" = true) (k_law : PySem.W.keepIn K (.ref f_law) = true)
    {t_LONGEST : Tok} (g_LONGEST : PySem.W.nsIn K mainGlobals "LONGEST" = some (some (.int 300 t_LONGEST)))
    (z_all : PySem.W.nsIn K mainGlobals "all" = some none)
    (z_bool : PySem.W.nsIn K mainGlobals "bool" = some none)
    (z_enumerate : PySem.W.nsIn K mainGlobals "enumerate" = some none)
    (z_int : PySem.W.nsIn K mainGlobals "int" = some none)
    (z_isinstance : PySem.W.nsIn K mainGlobals "isinstance" = some none)
    (z_len : PySem.W.nsIn K mainGlobals "len" = some none)
    (z_list : PySem.W.nsIn K mainGlobals "list" = some none)
    (z_max : PySem.W.nsIn K mainGlobals "max" = some none)
    (z_min : PySem.W.nsIn K mainGlobals "min" = some none)
    (z_range : PySem.W.nsIn K mainGlobals "range" = some none)
    (z_repr : PySem.W.nsIn K mainGlobals "repr" = some none)
    (z_reversed : PySem.W.nsIn K mainGlobals "reversed" = some none)
    (z_str : PySem.W.nsIn K mainGlobals "str" = some none)
    (z_sum : PySem.W.nsIn K mainGlobals "sum" = some none)
    (z_tuple : PySem.W.nsIn K mainGlobals "tuple" = some none)
    (z_zip : PySem.W.nsIn K mainGlobals "zip" = some none) :
    ∃ fd : FuncData, (∀ (s : Shared) (v : Value), BindsTo s fd ⟨[v], []⟩ [("_law_script", v)]) ∧ ∀ base : Heap, K.In base → base.Ns mainGlobals mg → FnC l.prog w K mg base CX0 8 fa fd ["_law_script"] (sp_law K) := by
  have e := hfa.symm.trans (PySem.W.mg_of X G a_law)
  cases e
  have F_is_word := fun_mk (st := s_is_word) l_is_word c_is_word k_is_word
  have b_is_word := F_is_word.binds (ps := P_is_word) fun _ _ _ _ _ _ us hl => match us, hl with | [_], _ => rfl
  have F_is_count := fun_mk (st := s_is_count) l_is_count c_is_count k_is_count
  have b_is_count := F_is_count.binds (ps := P_is_count) fun _ _ _ _ _ _ us hl => match us, hl with | [_], _ => rfl
  have F__ascends := fun_mk (st := s__ascends) l__ascends c__ascends k__ascends
  have b__ascends := F__ascends.binds (ps := P__ascends) fun _ _ _ _ _ _ us hl => match us, hl with | [_], _ => rfl
  have F_sides_changed := fun_mk (st := s_sides_changed) l_sides_changed c_sides_changed k_sides_changed
  have b_sides_changed := F_sides_changed.binds (ps := P_sides_changed) fun _ _ _ _ _ _ us hl => match us, hl with | [_, _], _ => rfl
  have F__lets := fun_mk (st := s__lets) l__lets c__lets k__lets
  have b__lets := F__lets.binds (ps := P__lets) fun _ _ _ _ _ _ us hl => match us, hl with | [_, _], _ => rfl
  have F__law_cell := fun_mk (st := s__law_cell) l__law_cell c__law_cell k__law_cell
  have b__law_cell := F__law_cell.binds (ps := P__law_cell) fun _ _ _ _ _ _ us hl => match us, hl with | [_, _], _ => rfl
  have F__law_hash := fun_mk (st := s__law_hash) l__law_hash c__law_hash k__law_hash
  have b__law_hash := F__law_hash.binds (ps := P__law_hash) fun _ _ _ _ _ _ us hl => match us, hl with | [_, _], _ => rfl
  have F__law_swapped := fun_mk (st := s__law_swapped) l__law_swapped c__law_swapped k__law_swapped
  have b__law_swapped := F__law_swapped.binds (ps := P__law_swapped) fun _ _ _ _ _ _ us hl => match us, hl with | [_, _], _ => rfl
  have F__law_let := fun_mk (st := s__law_let) l__law_let c__law_let k__law_let
  have b__law_let := F__law_let.binds (ps := P__law_let) fun _ _ _ _ _ _ us hl => match us, hl with | [_, _, _], _ => rfl
  have F_is_joints := fun_mk (st := s_is_joints) l_is_joints c_is_joints k_is_joints
  have b_is_joints := F_is_joints.binds (ps := P_is_joints) fun _ _ _ _ _ _ us hl => match us, hl with | [_], _ => rfl
  have F_check_word := fun_mk (st := s_check_word) l_check_word c_check_word k_check_word
  have b_check_word := F_check_word.binds (ps := P_check_word) fun _ _ _ _ _ _ us hl => match us, hl with | [_], _ => rfl
  have F__is_open := fun_mk (st := s__is_open) l__is_open c__is_open k__is_open
  have b__is_open := F__is_open.binds (ps := P__is_open) fun _ _ _ _ _ _ us hl => match us, hl with | [_, _, _], _ => rfl
  have F_back_road := fun_mk (st := s_back_road) l_back_road c_back_road k_back_road
  have b_back_road := F_back_road.binds (ps := P_back_road) fun _ _ _ _ _ _ us hl => match us, hl with | [_, _], _ => rfl
  have F_check_widths := fun_mk (st := s_check_widths) l_check_widths c_check_widths k_check_widths
  have b_check_widths := F_check_widths.binds (ps := P_check_widths) fun _ _ _ _ _ _ us hl => match us, hl with | [_], _ => rfl
  have F__law_generator := fun_mk (st := s__law_generator) l__law_generator c__law_generator k__law_generator
  have b__law_generator := F__law_generator.binds (ps := P__law_generator) fun _ _ _ _ _ _ us hl => match us, hl with | [_, _], _ => rfl
  have F__law_random := fun_mk (st := s__law_random) l__law_random c__law_random k__law_random
  have b__law_random := F__law_random.binds (ps := P__law_random) fun _ _ _ _ _ _ us hl => match us, hl with | [_, _], _ => rfl
  have F__law_is_road := fun_mk (st := s__law_is_road) l__law_is_road c__law_is_road k__law_is_road
  have b__law_is_road := F__law_is_road.binds (ps := P__law_is_road) fun _ _ _ _ _ _ us hl => match us, hl with | [_, _, _, _], _ => rfl
  have F_check_joints := fun_mk (st := s_check_joints) l_check_joints c_check_joints k_check_joints
  have b_check_joints := F_check_joints.binds (ps := P_check_joints) fun _ _ _ _ _ _ us hl => match us, hl with | [_], _ => rfl
  have F__walked := fun_mk (st := s__walked) l__walked c__walked k__walked
  have b__walked := F__walked.binds (ps := P__walked) fun _ _ _ _ _ _ us hl => match us, hl with | [_, _, _], _ => rfl
  have F__law_letters := fun_mk (st := s__law_letters) l__law_letters c__law_letters k__law_letters
  have b__law_letters := F__law_letters.binds (ps := P__law_letters) fun _ _ _ _ _ _ us hl => match us, hl with | [_], _ => rfl
  have F__law_word := fun_mk (st := s__law_word) l__law_word c__law_word k__law_word
  have b__law_word := F__law_word.binds (ps := P__law_word) fun _ _ _ _ _ _ us hl => match us, hl with | [_, _, _], _ => rfl
  have F__law_widths := fun_mk (st := s__law_widths) l__law_widths c__law_widths k__law_widths
  have b__law_widths := F__law_widths.binds (ps := P__law_widths) fun _ _ _ _ _ _ us hl => match us, hl with | [_, _], _ => rfl
  have F__law_drawn_road := fun_mk (st := s__law_drawn_road) l__law_drawn_road c__law_drawn_road k__law_drawn_road
  have b__law_drawn_road := F__law_drawn_road.binds (ps := P__law_drawn_road) fun _ _ _ _ _ _ us hl => match us, hl with | [_, _, _, _, _], _ => rfl
  have F__law_bent := fun_mk (st := s__law_bent) l__law_bent c__law_bent k__law_bent
  have b__law_bent := F__law_bent.binds (ps := P__law_bent) fun _ _ _ _ _ _ us hl => match us, hl with | [_, _, _], _ => rfl
  have F_open_places := fun_mk (st := s_open_places) l_open_places c_open_places k_open_places
  have b_open_places := F_open_places.binds (ps := P_open_places) fun _ _ _ _ _ _ us hl => match us, hl with | [_, _], _ => rfl
  have F_is_road := fun_mk (st := s_is_road) l_is_road c_is_road k_is_road
  have b_is_road := F_is_road.binds (ps := P_is_road) fun _ _ _ _ _ _ us hl => match us, hl with | [_, _, _], _ => rfl
  have F_passed := fun_mk (st := s_passed) l_passed c_passed k_passed
  have b_passed := F_passed.binds (ps := P_passed) fun _ _ _ _ _ _ us hl => match us, hl with | [_, _, _], _ => rfl
  have F_check_jumps := fun_mk (st := s_check_jumps) l_check_jumps c_check_jumps k_check_jumps
  have b_check_jumps := F_check_jumps.binds (ps := P_check_jumps) fun _ _ _ _ _ _ us hl => match us, hl with | [_, _, _], _ => rfl
  have F_done := fun_mk (st := s_done) l_done c_done k_done
  have b_done := F_done.binds (ps := P_done) fun _ _ _ _ _ _ us hl => match us, hl with | [_, _, _], _ => rfl
  have F_let_places := fun_mk (st := s_let_places) l_let_places c_let_places k_let_places
  have b_let_places := F_let_places.binds (ps := P_let_places) fun _ _ _ _ _ _ us hl => match us, hl with | [_, _, _], _ => rfl
  have F_is_let_road := fun_mk (st := s_is_let_road) l_is_let_road c_is_let_road k_is_let_road
  have b_is_let_road := F_is_let_road.binds (ps := P_is_let_road) fun _ _ _ _ _ _ us hl => match us, hl with | [_, _, _, _], _ => rfl
  have F__law_right := fun_mk (st := s__law_right) l__law_right c__law_right k__law_right
  have b__law_right := F__law_right.binds (ps := P__law_right) fun _ _ _ _ _ _ us hl => match us, hl with | [_, _, _, _], _ => rfl
  have F_law := fun_mk (st := s_law) l_law c_law k_law
  have b_law := F_law.binds (ps := P_law) fun _ _ _ _ _ _ us hl => match us, hl with | [_], _ => rfl
  let T : Txt K mg := { f_is_word := _, fd_is_word := _, F_is_word := F_is_word, m_is_word := PySem.W.mg_of X G a_is_word, b_is_word := b_is_word, f_is_count := _, fd_is_count := _, F_is_count := F_is_count, m_is_count := PySem.W.mg_of X G a_is_count, b_is_count := b_is_count, f__ascends := _, fd__ascends := _, F__ascends := F__ascends, m__ascends := PySem.W.mg_of X G a__ascends, b__ascends := b__ascends, f_sides_changed := _, fd_sides_changed := _, F_sides_changed := F_sides_changed, m_sides_changed := PySem.W.mg_of X G a_sides_changed, b_sides_changed := b_sides_changed, f__lets := _, fd__lets := _, F__lets := F__lets, m__lets := PySem.W.mg_of X G a__lets, b__lets := b__lets, f__law_cell := _, fd__law_cell := _, F__law_cell := F__law_cell, m__law_cell := PySem.W.mg_of X G a__law_cell, b__law_cell := b__law_cell, f__law_hash := _, fd__law_hash := _, F__law_hash := F__law_hash, m__law_hash := PySem.W.mg_of X G a__law_hash, b__law_hash := b__law_hash, f__law_swapped := _, fd__law_swapped := _, F__law_swapped := F__law_swapped, m__law_swapped := PySem.W.mg_of X G a__law_swapped, b__law_swapped := b__law_swapped, f__law_let := _, fd__law_let := _, F__law_let := F__law_let, m__law_let := PySem.W.mg_of X G a__law_let, b__law_let := b__law_let, f_is_joints := _, fd_is_joints := _, F_is_joints := F_is_joints, m_is_joints := PySem.W.mg_of X G a_is_joints, b_is_joints := b_is_joints, f_check_word := _, fd_check_word := _, F_check_word := F_check_word, m_check_word := PySem.W.mg_of X G a_check_word, b_check_word := b_check_word, f__is_open := _, fd__is_open := _, F__is_open := F__is_open, m__is_open := PySem.W.mg_of X G a__is_open, b__is_open := b__is_open, f_back_road := _, fd_back_road := _, F_back_road := F_back_road, m_back_road := PySem.W.mg_of X G a_back_road, b_back_road := b_back_road, f_check_widths := _, fd_check_widths := _, F_check_widths := F_check_widths, m_check_widths := PySem.W.mg_of X G a_check_widths, b_check_widths := b_check_widths, f__law_generator := _, fd__law_generator := _, F__law_generator := F__law_generator, m__law_generator := PySem.W.mg_of X G a__law_generator, b__law_generator := b__law_generator, f__law_random := _, fd__law_random := _, F__law_random := F__law_random, m__law_random := PySem.W.mg_of X G a__law_random, b__law_random := b__law_random, f__law_is_road := _, fd__law_is_road := _, F__law_is_road := F__law_is_road, m__law_is_road := PySem.W.mg_of X G a__law_is_road, b__law_is_road := b__law_is_road, f_check_joints := _, fd_check_joints := _, F_check_joints := F_check_joints, m_check_joints := PySem.W.mg_of X G a_check_joints, b_check_joints := b_check_joints, f__walked := _, fd__walked := _, F__walked := F__walked, m__walked := PySem.W.mg_of X G a__walked, b__walked := b__walked, f__law_letters := _, fd__law_letters := _, F__law_letters := F__law_letters, m__law_letters := PySem.W.mg_of X G a__law_letters, b__law_letters := b__law_letters, f__law_word := _, fd__law_word := _, F__law_word := F__law_word, m__law_word := PySem.W.mg_of X G a__law_word, b__law_word := b__law_word, f__law_widths := _, fd__law_widths := _, F__law_widths := F__law_widths, m__law_widths := PySem.W.mg_of X G a__law_widths, b__law_widths := b__law_widths, f__law_drawn_road := _, fd__law_drawn_road := _, F__law_drawn_road := F__law_drawn_road, m__law_drawn_road := PySem.W.mg_of X G a__law_drawn_road, b__law_drawn_road := b__law_drawn_road, f__law_bent := _, fd__law_bent := _, F__law_bent := F__law_bent, m__law_bent := PySem.W.mg_of X G a__law_bent, b__law_bent := b__law_bent, f_open_places := _, fd_open_places := _, F_open_places := F_open_places, m_open_places := PySem.W.mg_of X G a_open_places, b_open_places := b_open_places, f_is_road := _, fd_is_road := _, F_is_road := F_is_road, m_is_road := PySem.W.mg_of X G a_is_road, b_is_road := b_is_road, f_passed := _, fd_passed := _, F_passed := F_passed, m_passed := PySem.W.mg_of X G a_passed, b_passed := b_passed, f_check_jumps := _, fd_check_jumps := _, F_check_jumps := F_check_jumps, m_check_jumps := PySem.W.mg_of X G a_check_jumps, b_check_jumps := b_check_jumps, f_done := _, fd_done := _, F_done := F_done, m_done := PySem.W.mg_of X G a_done, b_done := b_done, f_let_places := _, fd_let_places := _, F_let_places := F_let_places, m_let_places := PySem.W.mg_of X G a_let_places, b_let_places := b_let_places, f_is_let_road := _, fd_is_let_road := _, F_is_let_road := F_is_let_road, m_is_let_road := PySem.W.mg_of X G a_is_let_road, b_is_let_road := b_is_let_road, f__law_right := _, fd__law_right := _, F__law_right := F__law_right, m__law_right := PySem.W.mg_of X G a__law_right, b__law_right := b__law_right, f_law := _, fd_law := _, F_law := F_law, m_law := PySem.W.mg_of X G a_law, b_law := b_law, g_LONGEST := ⟨_, PySem.W.mg_of X G g_LONGEST⟩, z_all := PySem.W.mg_none_of X G z_all, z_bool := PySem.W.mg_none_of X G z_bool, z_enumerate := PySem.W.mg_none_of X G z_enumerate, z_int := PySem.W.mg_none_of X G z_int, z_isinstance := PySem.W.mg_none_of X G z_isinstance, z_len := PySem.W.mg_none_of X G z_len, z_list := PySem.W.mg_none_of X G z_list, z_max := PySem.W.mg_none_of X G z_max, z_min := PySem.W.mg_none_of X G z_min, z_range := PySem.W.mg_none_of X G z_range, z_repr := PySem.W.mg_none_of X G z_repr, z_reversed := PySem.W.mg_none_of X G z_reversed, z_str := PySem.W.mg_none_of X G z_str, z_sum := PySem.W.mg_none_of X G z_sum, z_tuple := PySem.W.mg_none_of X G z_tuple, z_zip := PySem.W.mg_none_of X G z_zip }
  exact ⟨PySem.W.fnOf "law" "law" (defArgs s_law) (defBody s_law) (defScope s_law) .none kV_law dc_law pm_law an_law cd_law ct_law, fun s v => .of_eq rfl, fun base _ _ => ok_law T⟩
theorem walk {l : PySem.W.OpenLaw} {q : Program} {loose : List Str} {XP : (Str → Option Value) → Heap → Prop} {YP : World → Heap → Prop} {d : DefRec} {K : Params → PySem.W.Frag} (hn : l.most = some 63) (hdf : d.params.defaults = [])
    (hY : ∀ (w : World) (h : Heap), YP w h → (K w.params).In h)
    (F : ∀ (w : World) (mg : Str → Option Value) (fa : Addr) (h : Heap), (K w.params).In h → h.Ns mainGlobals mg → mg d.name = some (.ref fa) →
      ∃ fd : FuncData, (∀ (s : Shared) (u : Value), BindsTo s fd ⟨[u], []⟩ [("_law_script", u)]) ∧ ∀ base : Heap, (K w.params).In base → base.Ns mainGlobals mg → FnC l.prog w (K w.params) mg base CX0 8 fa fd ["_law_script"] (sp_law (K w.params))) :
    PySem.W.WalkO q loose XP YP l.row.toRowW d [] (fun f vs => PySem.call f vs) :=
  walkC (n := 63) (k := 8) (x := "_law_script") (sp := fun w => sp_law (K w.params)) hn (by decide) hdf ⟨rfl, by decide, by decide⟩ hY F (fun _ _ a ns hl _ hS => ⟨a, ns, rfl, hS, hl, fun _ => rfl⟩)
end K75
open PySem PySem.W PyProof.Rows
set_option maxRecDepth 100000 in
set_option maxHeartbeats 0 in
theorem PySem.Challenge.cw_sideswaps_k75_deeds_of_told_widths_holds : PySem.Challenge.rw_sideswaps_k75_deeds_of_told_widths.Holds := by
  w_on; o_law; k_head; (case hw => w_witness2)
  k_fill
  refine K75.walk (l := PySem.Challenge.rw_sideswaps_k75_deeds_of_told_widths) rfl rfl (fun w h Y => PySem.W.kIn_of Y) ?F
  case F =>
    intro w mg fa h KX G hmg
    refine' K75.all_mk KX G hmg ?a_is_word ?l_is_word ?c_is_word ?k_is_word ?a_is_count ?l_is_count ?c_is_count ?k_is_count ?a__ascends ?l__ascends ?c__ascends ?k__ascends ?a_sides_changed ?l_sides_changed ?c_sides_changed ?k_sides_changed ?a__lets ?l__lets ?c__lets ?k__lets ?a__law_cell ?l__law_cell ?c__law_cell ?k__law_cell ?a__law_hash ?l__law_hash ?c__law_hash ?k__law_hash ?a__law_swapped ?l__law_swapped ?c__law_swapped ?k__law_swapped ?a__law_let ?l__law_let ?c__law_let ?k__law_let ?a_is_joints ?l_is_joints ?c_is_joints ?k_is_joints ?a_check_word ?l_check_word ?c_check_word ?k_check_word ?a__is_open ?l__is_open ?c__is_open ?k__is_open ?a_back_road ?l_back_road ?c_back_road ?k_back_road ?a_check_widths ?l_check_widths ?c_check_widths ?k_check_widths ?a__law_generator ?l__law_generator ?c__law_generator ?k__law_generator ?a__law_random ?l__law_random ?c__law_random ?k__law_random ?a__law_is_road ?l__law_is_road ?c__law_is_road ?k__law_is_road ?a_check_joints ?l_check_joints ?c_check_joints ?k_check_joints ?a__walked ?l__walked ?c__walked ?k__walked ?a__law_letters ?l__law_letters ?c__law_letters ?k__law_letters ?a__law_word ?l__law_word ?c__law_word ?k__law_word ?a__law_widths ?l__law_widths ?c__law_widths ?k__law_widths ?a__law_drawn_road ?l__law_drawn_road ?c__law_drawn_road ?k__law_drawn_road ?a__law_bent ?l__law_bent ?c__law_bent ?k__law_bent ?a_open_places ?l_open_places ?c_open_places ?k_open_places ?a_is_road ?l_is_road ?c_is_road ?k_is_road ?a_passed ?l_passed ?c_passed ?k_passed ?a_check_jumps ?l_check_jumps ?c_check_jumps ?k_check_jumps ?a_done ?l_done ?c_done ?k_done ?a_let_places ?l_let_places ?c_let_places ?k_let_places ?a_is_let_road ?l_is_let_road ?c_is_let_road ?k_is_let_road ?a__law_right ?l__law_right ?c__law_right ?k__law_right ?a_law ?l_law ?c_law ?k_law ?g_LONGEST ?z_all ?z_bool ?z_enumerate ?z_int ?z_isinstance ?z_len ?z_list ?z_max ?z_min ?z_range ?z_repr ?z_reversed ?z_str ?z_sum ?z_tuple ?z_zip
    (case a_is_word => k_is)
    (case l_is_word => k_is)
    (case c_is_word => k_is)
    (case k_is_word => k_is)
    (case a_is_count => k_is)
    (case l_is_count => k_is)
    (case c_is_count => k_is)
    (case k_is_count => k_is)
    (case a__ascends => k_is)
    (case l__ascends => k_is)
    (case c__ascends => k_is)
    (case k__ascends => k_is)
    (case a_sides_changed => k_is)
    (case l_sides_changed => k_is)
    (case c_sides_changed => k_is)
    (case k_sides_changed => k_is)
    (case a__lets => k_is)
    (case l__lets => k_is)
    (case c__lets => k_is)
    (case k__lets => k_is)
    (case a__law_cell => k_is)
    (case l__law_cell => k_is)
    (case c__law_cell => k_is)
    (case k__law_cell => k_is)
    (case a__law_hash => k_is)
    (case l__law_hash => k_is)
    (case c__law_hash => k_is)
    (case k__law_hash => k_is)
    (case a__law_swapped => k_is)
    (case l__law_swapped => k_is)
    (case c__law_swapped => k_is)
    (case k__law_swapped => k_is)
    (case a__law_let => k_is)
    (case l__law_let => k_is)
    (case c__law_let => k_is)
    (case k__law_let => k_is)
    (case a_is_joints => k_is)
    (case l_is_joints => k_is)
    (case c_is_joints => k_is)
    (case k_is_joints => k_is)
    (case a_check_word => k_is)
    (case l_check_word => k_is)
    (case c_check_word => k_is)
    (case k_check_word => k_is)
    (case a__is_open => k_is)
    (case l__is_open => k_is)
    (case c__is_open => k_is)
    (case k__is_open => k_is)
    (case a_back_road => k_is)
    (case l_back_road => k_is)
    (case c_back_road => k_is)
    (case k_back_road => k_is)
    (case a_check_widths => k_is)
    (case l_check_widths => k_is)
    (case c_check_widths => k_is)
    (case k_check_widths => k_is)
    (case a__law_generator => k_is)
    (case l__law_generator => k_is)
    (case c__law_generator => k_is)
    (case k__law_generator => k_is)
    (case a__law_random => k_is)
    (case l__law_random => k_is)
    (case c__law_random => k_is)
    (case k__law_random => k_is)
    (case a__law_is_road => k_is)
    (case l__law_is_road => k_is)
    (case c__law_is_road => k_is)
    (case k__law_is_road => k_is)
    (case a_check_joints => k_is)
    (case l_check_joints => k_is)
    (case c_check_joints => k_is)
    (case k_check_joints => k_is)
    (case a__walked => k_is)
    (case l__walked => k_is)
    (case c__walked => k_is)
    (case k__walked => k_is)
    (case a__law_letters => k_is)
    (case l__law_letters => k_is)
    (case c__law_letters => k_is)
    (case k__law_letters => k_is)
    (case a__law_word => k_is)
    (case l__law_word => k_is)
    (case c__law_word => k_is)
    (case k__law_word => k_is)
    (case a__law_widths => k_is)
    (case l__law_widths => k_is)
    (case c__law_widths => k_is)
    (case k__law_widths => k_is)
    (case a__law_drawn_road => k_is)
    (case l__law_drawn_road => k_is)
    (case c__law_drawn_road => k_is)
    (case k__law_drawn_road => k_is)
    (case a__law_bent => k_is)
    (case l__law_bent => k_is)
    (case c__law_bent => k_is)
    (case k__law_bent => k_is)
    (case a_open_places => k_is)
    (case l_open_places => k_is)
    (case c_open_places => k_is)
    (case k_open_places => k_is)
    (case a_is_road => k_is)
    (case l_is_road => k_is)
    (case c_is_road => k_is)
    (case k_is_road => k_is)
    (case a_passed => k_is)
    (case l_passed => k_is)
    (case c_passed => k_is)
    (case k_passed => k_is)
    (case a_check_jumps => k_is)
    (case l_check_jumps => k_is)
    (case c_check_jumps => k_is)
    (case k_check_jumps => k_is)
    (case a_done => k_is)
    (case l_done => k_is)
    (case c_done => k_is)
    (case k_done => k_is)
    (case a_let_places => k_is)
    (case l_let_places => k_is)
    (case c_let_places => k_is)
    (case k_let_places => k_is)
    (case a_is_let_road => k_is)
    (case l_is_let_road => k_is)
    (case c_is_let_road => k_is)
    (case k_is_let_road => k_is)
    (case a__law_right => k_is)
    (case l__law_right => k_is)
    (case c__law_right => k_is)
    (case k__law_right => k_is)
    (case a_law => k_is)
    (case l_law => k_is)
    (case c_law => k_is)
    (case k_law => k_is)
    (case g_LONGEST => k_is)
    (case z_all => k_is)
    (case z_bool => k_is)
    (case z_enumerate => k_is)
    (case z_int => k_is)
    (case z_isinstance => k_is)
    (case z_len => k_is)
    (case z_list => k_is)
    (case z_max => k_is)
    (case z_min => k_is)
    (case z_range => k_is)
    (case z_repr => k_is)
    (case z_reversed => k_is)
    (case z_str => k_is)
    (case z_sum => k_is)
    (case z_tuple => k_is)
    (case z_zip => k_is)

