import PyProof.Rows.All
import Wide.All
import OpenK.AllK
import Wide.FinOn
import HandS.ForMost
import HandS.Wide
import HandS.WideBits
import HandS.Zip
import HandS.Walk
import HandS.IsInst
import HandS.Defaults
import KE.GoesEnum
import HandS.Codes
import HandS.Style
import HandS.SortInts
import HandS.Replace
import HandS.Conv
import PyProof.ReprRoads
import HandS.RaiseMore
import HandS.AnyAll
import KE.DataMinMax
import KE.DataFind
import KE.KDictList
import HandS.ReplaceLit
import PyProof.Rows.RegReprOcc
import PyProof.StrLawsRepr
import KE.DataEq
import HandS.NoneIn
import PyProof.Rows.SortShellAny
import HandS.More
import HandS.DictComp
import KE.KDictCopyH
import HandS.DictTup
import HandS.Set
import HandS.SetBool
import HandS.Strs
import HandS.SetFor
import PySem.Challenge.RW_sideswaps_k13_one_deed_and_words_alone
set_option Elab.async false
set_option linter.all false
set_option maxRecDepth 100000
set_option maxHeartbeats 4000000
/-! Own rules over the hand layer: a great power, zip of two texts, enumerate of a text. -/
namespace Sw
open PySem PySem.Spec PyProof.Rows L2
/-- a ** n while the answer stays small enough -/
def CPowW (i j : Int) : Prop := 0 ≤ j ∧ (Builtin.Int.intBits i : Int) * j ≤ 2 ^ 27
theorem op_powW {X : Cx} : OpR X (binaryOp .Pow) (rI CPowW fun i j => .int (i ^ j.toNat)) :=
  opI fun _ _ _ _ _ _ _ hc q => pow_int hc.1 hc.2 q

/-! ### two texts side by side -/
/-- new pairs of the signs of x and y that stand at one place -/
def Itzs (x y : Str) : It :=
  ⟨fun i _ => i < min x.cps.size y.cps.size,
   fun i H v H' => ∃ T c d, v = .ref T ∧ H T = none ∧ H' = upd H T (.tup [.str ⟨#[c]⟩, .str ⟨#[d]⟩]) ∧ x.cps[i]? = some c ∧ y.cps[i]? = some d,
   fun i _ => min x.cps.size y.cps.size ≤ i⟩
theorem turn_zipS {P : Program} {w : World} {K : PySem.W.Frag} {elts : List Expr} {kk : Nat} {tpos : Pos} {z TI TO i1 i2 : Addr} (x y : Str) (t u : Tok) (S : ZipSep2 z TI TO i1 i2 [i1] [i2]) :
    Turn P w K (.Tuple elts kk tpos) (Itzs x y) [z, TI, TO, i1, i2] z
      (fun i h => i ≤ min x.cps.size y.cps.size ∧ IsZip h z TI TO .none ∧ IsTupOf2 h TI (.ref i1) (.ref i2) ∧ (∃ a b, IsTupOf2 h TO a b) ∧ h.IsStrIter i1 (strIterType x) x t i ∧ h.IsStrIter i2 (strIterType y) y u i) where
  mem := by simp
  obj := fun i h st c hc => by
    obtain ⟨_, hz, hTI, ⟨a, b, hTO⟩, ⟨o1, e1, _, d1⟩, ⟨o2, e2, _, d2⟩⟩ := st
    have cs : c = z ∨ c = TI ∨ c = TO ∨ c = i1 ∨ c = i2 := by simpa using hc
    rcases cs with rfl | rfl | rfl | rfl | rfl
    · exact ⟨_, hz, fun v q => by cases q⟩
    · exact ⟨_, hTI, fun v q => by cases q⟩
    · exact ⟨_, hTO, fun v q => by cases q⟩
    · exact ⟨o1, e1, fun v q => by rw [d1] at q; cases q⟩
    · exact ⟨o2, e2, fun v q => by rw [d2] at q; cases q⟩
  keep := fun i h h' st k => by
    obtain ⟨hle, hz, hTI, ⟨a, b, hTO⟩, h1, h2⟩ := st
    refine ⟨hle, k z (by simp) _ hz, k TI (by simp) _ hTI, ⟨a, b, k TO (by simp) _ hTO⟩, ?_, ?_⟩
    · obtain ⟨o, ho, r⟩ := h1; exact ⟨o, k i1 (by simp) o ho, r⟩
    · obtain ⟨o, ho, r⟩ := h2; exact ⟨o, k i2 (by simp) o ho, r⟩
  item := by
    intro X hP hw hK hc i pins s σ H E I hf st hg
    subst hP hw hK
    obtain ⟨hle, hz, hTI, ⟨a, b, hTO⟩, h1, h2⟩ := st
    have hg' : i < min x.cps.size y.cps.size := hg
    have hx : i < x.cps.size := by omega
    have hy : i < y.cps.size := by omega
    have hh := I.ok.hd hc
    have D1 := Draws.text (prog := X.prog) (w := X.w) (A := X.A.in1) hh i1 x t
    have D2 := Draws.text (prog := X.prog) (w := X.w) (A := X.A.in1) hh i2 y u
    have hzl : z < s.heap.objs.size := Heap.lt_size hz
    refine wpAny_pyNext_zipD2_item S D1 D2 hz hTI hTO h1 h2 hx hy fun v1 v2 h' tk p1 p2 z' TO' h1' h2' hT hsz hk => ?_
    obtain ⟨c, t1, hc1, rfl⟩ := p1
    obtain ⟨d, t2, hd1, rfl⟩ := p2
    refine ⟨_, rfl, wpAny_letOwnedTupleGo_zip (s := { s with heap := h', toks := tk }) z' fun h'' z'' sb => ?_⟩
    have hT2 := (sb.2 _ (Nat.ne_of_gt hzl)).trans hT
    have new : ObjOk X.prog X.w (upd H s.heap.objs.size (.tup [.str ⟨#[c]⟩, .str ⟨#[d]⟩])) h'' s.heap.objs.size (.tup [.str ⟨#[c]⟩, .str ⟨#[d]⟩]) :=
      ⟨by show 2 ≤ sizeLine; decide, [.str ⟨#[c]⟩ t1, .str ⟨#[d]⟩ t2], .cons ⟨_, rfl⟩ (.cons ⟨_, rfl⟩ .nil), ⟨_, hT2, rfl, _, rfl⟩⟩
    have off : ∀ {c : Addr}, c ∉ [z, TI, TO, i1, i2] → c ≠ z ∧ c ≠ TO ∧ c ≠ i1 ∧ c ≠ i2 := fun {c} hb => by
      simp only [List.mem_cons, List.not_mem_nil, or_false, not_or] at hb
      exact ⟨hb.1, hb.2.2.1, hb.2.2.2.1, hb.2.2.2.2⟩
    have I1 := I.turnedNew (h' := h'') (t' := tk) (ch := [z, TI, TO, i1, i2]) (fun c o hb q => by
      obtain ⟨n1, n2, n3, n4⟩ := off hb
      exact (sb.2 c n1).trans (hk c o n1 n2 n3 n4 q)) hf (Nat.le_refl _) new
    refine ⟨.ref s.heap.objs.size, _, I1, rfl, ⟨_, c, d, rfl, I.hok.fresh (Nat.le_refl _), rfl, hc1, hd1⟩, ⟨by omega, z'', ?_, ⟨_, _, (sb.2 _ S.TOz).trans TO'⟩, ?_, ?_⟩, fun c hcm => ?_⟩
    · exact (sb.2 _ S.TIz).trans (hk _ _ S.TIz S.TITO S.TIi1 S.TIi2 hTI)
    · obtain ⟨o, ho, r⟩ := h1'; exact ⟨o, (sb.2 _ (fun e => S.zi1 e.symm)).trans ho, r⟩
    · obtain ⟨o, ho, r⟩ := h2'; exact ⟨o, (sb.2 _ (fun e => S.zi2 e.symm)).trans ho, r⟩
    · have hlt : c < s.heap.objs.size := by
        have cs : c = z ∨ c = TI ∨ c = TO ∨ c = i1 ∨ c = i2 := by simpa using hcm
        rcases cs with rfl | rfl | rfl | rfl | rfl
        · exact hzl
        · exact Heap.lt_size hTI
        · exact Heap.lt_size hTO
        · obtain ⟨_, e1, _⟩ := h1; exact Heap.lt_size e1
        · obtain ⟨_, e2, _⟩ := h2; exact Heap.lt_size e2
      rw [upd_ne (Nat.ne_of_lt hlt)]
      exact (hf c hcm).1
  done := by
    intro X hP hw hK hc i pins s σ H E I hf st hg
    subst hP hw hK
    obtain ⟨hle, hz, hTI, ⟨a, b, hTO⟩, h1, h2⟩ := st
    have hg' : min x.cps.size y.cps.size ≤ i := hg
    have hh := I.ok.hd hc
    have D1 := Draws.text (prog := X.prog) (w := X.w) (A := X.A.in1) hh i1 x t
    have D2 := Draws.text (prog := X.prog) (w := X.w) (A := X.A.in1) hh i2 y u
    refine wpAny_pyNext_zipD2_end S D1 D2 hz hTI hTO h1 h2 (by omega) (by omega) (by omega) fun h' tk hk => ⟨rfl, I.turnedL (t' := tk) (ch := [z, TI, TO, i1, i2]) (fun c o hb q => ?_) hf⟩
    simp only [List.mem_cons, List.not_mem_nil, or_false, not_or] at hb
    exact hk c o hb.1 hb.2.2.1 hb.2.2.2.1 hb.2.2.2.2 q
  self := fun A i s Q E st h => wpAny_pyIter_zip st.2.1 h
def iZipS (ta : TA) : TI := fun σ H R => ta σ H fun vs H1 => ∃ x y, vs = [.str x, .str y] ∧ R (Itzs x y) H1
theorem pi_zipS {X : Cx} {e e2 : Expr} {ta : TA} {p pos tpos : Pos} {elts : List Expr} {kk : Nat} (hg : Gl X "zip") (hm : X.mg "zip" = none) (ha : PA X [e, e2] ta)
    (hs : starEach [e, e2] X.env = (false, eval e X.env) :: starEach [e2] X.env := by rfl) (hpl : (backTo pos (starEach [e2] X.env)).any (·.1) = false := by rfl) :
    PI X (.Tuple elts kk tpos) (.Call (.Name "zip" p) [e, e2] [] pos) (iZipS ta) := by
  refine ⟨fun pins s σ H R I h => ?_⟩
  refine Call_ (ld_blt I hg hm PyProof.Rows.boot_zip (PyProof.Rows.callWith_type1 (thn (ha.run pos pins s σ H _ I h) fun us s1 ⟨vs, H1, I1, r1, q1⟩ => ?_) hs hpl))
  obtain ⟨x, y, ex, q⟩ := q1
  subst ex
  cases r1 with
  | cons r rr =>
    cases rr with
    | cons r' rr =>
    cases rr
    obtain ⟨t, rfl⟩ := r
    obtain ⟨u, rfl⟩ := r'
    refine zip_begins2 (begins_text x t) (begins_text y u) trivial trivial fun h' hz hTI hTO h1 h2 hsz hk => wpAny_pyIter_zip hz ?_
    have I2 : Inv X pins σ H1 { s1 with heap := h' } := I1.kept (t' := s1.toks) hk
    refine ⟨s1.heap.objs.size + 4, [s1.heap.objs.size + 4, s1.heap.objs.size + 2, s1.heap.objs.size + 3, s1.heap.objs.size, s1.heap.objs.size + 1], _, _, H1, rfl, I2,
      turn_zipS x y t u (zip_sep2 (by simp) (by simp)), ⟨Nat.zero_le _, hz, hTI, ⟨_, _, hTO⟩, ⟨_, h1, rfl, rfl⟩, ⟨_, h2, rfl, rfl⟩⟩, fun c hcm => ?_, q⟩
    have hle : s1.heap.objs.size ≤ c := by
      have cs : c = s1.heap.objs.size + 4 ∨ c = s1.heap.objs.size + 2 ∨ c = s1.heap.objs.size + 3 ∨ c = s1.heap.objs.size ∨ c = s1.heap.objs.size + 1 := by simpa using hcm
      rcases cs with e | e | e | e | e <;> rw [e] <;> first | exact Nat.le_refl _ | exact Nat.le_add_right _ _
    exact I1.fpOk hle (I1.hok.fresh hle)
/-- its turns -/
theorem walk_zipS {x y : Str} : Walk (Itzs x y) (min x.cps.size y.cps.size) (fun _ => True) (YPair (fun i => (x.cps[i]?).map fun c => V.str ⟨#[c]⟩) (fun i => (y.cps[i]?).map fun c => V.str ⟨#[c]⟩)) :=
  ⟨fun _ _ hi _ => hi, fun _ _ => Nat.le_refl _, fun i H v H' _ _ yy => by
    obtain ⟨T, c, d, h1, h2, h3, h4, h5⟩ := yy
    exact ⟨T, _, _, h1, h2, h3, by simp [h4], by simp [h5]⟩⟩

/-! ### a text by its places -/
def Ites (x : Str) : It :=
  ⟨fun i _ => i < x.cps.size, fun i H v H' => ∃ T c, v = .ref T ∧ H T = none ∧ H' = upd H T (.tup [.int (i : Nat), .str ⟨#[c]⟩]) ∧ x.cps[i]? = some c, fun i _ => x.cps.size ≤ i⟩
theorem turn_enumS {P : Program} {w : World} {K : PySem.W.Frag} {elts : List Expr} {kk : Nat} {tpos : Pos} (e it : Addr) (x : Str) (t : Tok) (hei : e ≠ it) :
    Turn P w K (.Tuple elts kk tpos) (Ites x) [e, it] e (fun i h => i ≤ x.cps.size ∧ (∃ old, IsEnum h e it ((i : Nat) : Int) old) ∧ h.IsStrIter it (strIterType x) x t i) where
  mem := by simp
  obj := fun i h st b hb => by
    obtain ⟨_, ⟨old, he⟩, ⟨o, ho, hc, hd⟩⟩ := st
    have cs : b = e ∨ b = it := by simpa using hb
    rcases cs with rfl | rfl
    · exact ⟨_, he, fun v q => by cases q⟩
    · exact ⟨o, ho, fun v q => by rw [hd] at q; cases q⟩
  keep := fun i h h' st k => by
    obtain ⟨hle, ⟨old, he⟩, ⟨o, ho, r⟩⟩ := st
    exact ⟨hle, ⟨old, k e (by simp) _ he⟩, ⟨o, k it (by simp) o ho, r⟩⟩
  item := by
    intro X hP hw hK hc i pins s σ H E I hf st hg
    subst hP hw hK
    obtain ⟨hle, ⟨old, he⟩, hit⟩ := st
    have hg' : i < x.cps.size := hg
    have D := Draws.text (prog := X.prog) (w := X.w) (A := X.A.in1) (I.ok.hd hc) it x t
    have hel : e < s.heap.objs.size := Heap.lt_size he
    have hil : it < s.heap.objs.size := by obtain ⟨_, q, _⟩ := hit; exact Heap.lt_size q
    have hei2 : e ∉ [it] := by simpa using hei
    refine wpAny_pyNext_enum_itemD D he hit hg' hei hei2 fun v h' tk p ho hit' hT hsz hk => ?_
    obtain ⟨c, t1, hc1, rfl⟩ := p
    refine ⟨_, rfl, wpAny_letOwnedTupleGo_enum (s := { s with heap := h', toks := tk + 1 }) ho fun h'' he' sb => ?_⟩
    have hT2 := (sb.2 _ (Nat.ne_of_gt hel)).trans hT
    have new : ObjOk X.prog X.w (upd H s.heap.objs.size (.tup [.int (i : Nat), .str ⟨#[c]⟩])) h'' s.heap.objs.size (.tup [.int (i : Nat), .str ⟨#[c]⟩]) :=
      ⟨by show 2 ≤ sizeLine; decide, [.int i tk, .str ⟨#[c]⟩ t1], .cons ⟨_, rfl⟩ (.cons ⟨_, rfl⟩ .nil), ⟨_, hT2, rfl, _, rfl⟩⟩
    have I1 := I.turnedNew (h' := h'') (t' := tk + 1) (ch := [e, it]) (fun b ob hb q => by
      simp only [List.mem_cons, List.not_mem_nil, or_false, not_or] at hb
      exact (sb.2 b hb.1).trans (hk b ob hb.1 hb.2 q)) hf (Nat.le_refl _) new
    refine ⟨.ref s.heap.objs.size, _, I1, rfl, ⟨_, c, rfl, I.hok.fresh (Nat.le_refl _), rfl, hc1⟩, ⟨by omega, ⟨.str ⟨#[c]⟩ t1, ?_⟩, ?_⟩, fun b hb => ?_⟩
    · have e1 : ((i + 1 : Nat) : Int) = (i : Int) + 1 := by omega
      rw [e1]; exact he'
    · obtain ⟨o, ho', r⟩ := hit'; exact ⟨o, (sb.2 it (Ne.symm hei)).trans ho', r⟩
    · have hb' : b < s.heap.objs.size := by
        have cs : b = e ∨ b = it := by simpa using hb
        rcases cs with rfl | rfl
        · exact hel
        · exact hil
      rw [upd_ne (Nat.ne_of_lt hb')]
      exact (hf b hb).1
  done := by
    intro X hP hw hK hc i pins s σ H E I hf st hg
    subst hP hw hK
    obtain ⟨hle, ⟨old, he⟩, hit⟩ := st
    have hg' : x.cps.size ≤ i := hg
    have ei : i = x.cps.size := Nat.le_antisymm hle hg'
    subst ei
    have D := Draws.text (prog := X.prog) (w := X.w) (A := X.A.in1) (I.ok.hd hc) it x t
    obtain ⟨f0, f1, f2, f3, f4, f5⟩ := hf it (by simp)
    exact wpAny_pyNext_enum_endD D he hit fun h' eb => ⟨rfl, I.turned (t' := s.toks) (fun b o hb q => eb b o hb q) f0 f1 f3 f4 f5⟩
  self := fun A i s Q E st h => by
    obtain ⟨_, ⟨old, he⟩, _⟩ := st
    exact wpAny_pyIter_enum he h
def iEnumS (ta : TA) : TI := fun σ H R => ta σ H fun vs H1 => ∃ x, vs = [.str x] ∧ R (Ites x) H1
theorem pi_enumS {X : Cx} {e : Expr} {ta : TA} {p pos tpos : Pos} {elts : List Expr} {kk : Nat} (hg : Gl X "enumerate") (hm : X.mg "enumerate" = none) (ha : PA X [e] ta) (hs : starEach [e] X.env = [(false, eval e X.env)] := by rfl) :
    PI X (.Tuple elts kk tpos) (.Call (.Name "enumerate" p) [e] [] pos) (iEnumS ta) := by
  refine ⟨fun pins s σ H R I h => ?_⟩
  refine Call_ (ld_blt I hg hm boot_enumerate (PyProof.Rows.callWith_type1 (thn (ha.run pos pins s σ H _ I h) fun us s1 ⟨vs, H1, I1, r1, q1⟩ => ?_) hs rfl))
  obtain ⟨x, ex, q⟩ := q1
  subst ex
  cases r1 with
  | cons r rr =>
    cases rr
    obtain ⟨t, rfl⟩ := r
    refine call_enumerate_str fun h' he hit hsz hk => wpAny_pyIter_enum he ?_
    have I2 : Inv X pins σ H1 { s1 with heap := h' } := I1.kept (t' := s1.toks) hk
    refine ⟨s1.heap.objs.size + 1, [s1.heap.objs.size + 1, s1.heap.objs.size], _, _, H1, rfl, I2, turn_enumS (s1.heap.objs.size + 1) s1.heap.objs.size x t (Nat.succ_ne_self _), ⟨Nat.zero_le _, ⟨.none, he⟩, hit⟩, fun b hb => ?_, q⟩
    have hle : s1.heap.objs.size ≤ b := by
      have cs : b = s1.heap.objs.size + 1 ∨ b = s1.heap.objs.size := by simpa using hb
      rcases cs with e | e <;> rw [e] <;> first | exact Nat.le_refl _ | exact Nat.le_add_right _ _
    exact I1.fpOk hle (I1.hok.fresh hle)
theorem walk_enumS {x : Str} : Walk (Ites x) x.cps.size (fun _ => True) (YPair (fun i => some (.int (i : Nat))) (fun i => (x.cps[i]?).map fun c => V.str ⟨#[c]⟩)) :=
  ⟨fun _ _ hi _ => hi, fun _ _ => Nat.le_refl _, fun i H v H' _ _ yy => by
    obtain ⟨T, c, h1, h2, h3, h4⟩ := yy
    exact ⟨T, _, _, h1, h2, h3, rfl, by simp [h4]⟩⟩
end Sw
namespace Sw
open PySem PySem.Spec PyProof.Rows L2
/-! ### the rules that speak of the written part, the part named (within a comprehension) -/
section
variable {X : Cx} (K : PySem.W.Frag)
theorem call_lenK (h : X.K = K := by rfl) : CallR X (.builtin "len") (fun xs H Q => ∃ x n, xs = [x] ∧ LenV K x H n ∧ Q (.int n) H) := h ▸ call_len
theorem call_len_seqK (h : X.K = K := by rfl) : CallR X (.builtin "len") (fun xs H Q => ∃ p ys, xs = [.ref p] ∧ (SqL K H p ys ∨ SqT K H p ys) ∧ Q (.int ys.length) H) := h ▸ call_len_seq
theorem ix_listK (h : X.K = K := by rfl) : IxR X (rIxL K) := h ▸ ix_list
theorem ix_tupK (h : X.K = K := by rfl) : IxR X (rIxT K) := h ▸ ix_tup
theorem op_in_seqK (h : X.K = K := by rfl) : OpR X (compareOp .In) (rIn K false) := h ▸ op_in_seq
theorem sl_listK (h : X.K = K := by rfl) : SlR X (rSlL K) := h ▸ sl_list
theorem cr_sumK (hc : X.calm = true) (h : X.K = K := by rfl) : CallR X (.builtin "sum") (rSum K) := h ▸ cr_sum hc
theorem cr_allK (hc : X.calm = true) (h : X.K = K := by rfl) : CallR X (.builtin "all") (rAll K) := h ▸ cr_all hc
theorem call_isiK (h : X.K = K := by rfl) : CallR X (.builtin "isinstance") (rIsi K) := h ▸ call_isi
theorem pg_tupK {es : List Expr} {k n : Nat} {t : TGs} {pos : Pos} (hc : X.calm = true) (h : PGs X es t) (hK : X.K = K := by rfl)
    (hn : (assignEach es X.env).length = n := by rfl) (hst : (assignEach es X.env).findIdx? (·.1) = none := by rfl) : PG X (.Tuple es k pos) (gTup K n t) := hK ▸ pg_tup hc h hn hst
end
/-- f(k = v, ..), nothing by place -/
theorem pe_callN0 {X : Cx} {CX : CXT} {k : Nat} {f : Addr} {fd : FuncData} {ps ks : List Str} {sp : Sp} {E : XK} {x : Str} {p pos : Pos} {kws : List Keyword} {tk : TA} {g : List Value → List Value → List Value} {gV : List V → List V → List V}
    (F : FnOk X.prog X.w X.K X.mg X.base CX k f fd ps sp) (hr : Room k X.A) (hg : Gl X x) (hm : X.mg x = some (.ref f)) (hk : PySem.W.keepIn X.K (.ref f) = true) (hb : KBn X.K fd ps 0 ks g gV) (hx : Passes CX X E) (hkw : PK X kws tk)
    (hall : (backToKw pos (keywordEach kws X.env)).all (·.1.isSome) = true := by rfl) (hks : (backToKw pos (keywordEach kws X.env)).filterMap (·.1) = ks := by rfl) (hdb : (x == ("__debug__" : Str)) = false := by decide)
    (hpl : ((backTo pos (starEach [] X.env)).any (·.1) || (backToKw pos (keywordEach kws X.env)).any (·.1.isNone)) = false := by rfl) :
    PE X (.Call (.Name x p) [] kws pos) (tCallN 0 ks.length sp gV E tNil tk) := by
  refine ⟨fun pins s σ H Q I h => wpAny_Call_Name_kw (ld_glob I hg hm ?_ hdb)⟩
  refine PySem.W.callWith_KW0 (h₀ := X.base) I.ok.mod.kin hk hall (thn (hkw.run pos pins s σ H _ I h) fun ws s2 ⟨zs, H2, I2, rz, l1, l2, q2⟩ => ⟨I2.kIn, ?_⟩) hpl
  rw [hks]
  exact run_fnN (us := []) F hr hb hx I2 .nil rz l1 l2 q2
end Sw
/-! Words as lists of signs; what a def keeps of the heap; draws. -/
namespace Sw
open PySem PySem.Spec PyProof.Rows L2
/-- the text of these signs -/
abbrev S (l : List Nat) : Str := SX.S l
/-- all that was tracked is as it was, but for what stands at g -/
def But (g : Addr) (H H' : Hp) : Prop := ∀ b o, b ≠ g → H b = some o → H' b = some o
theorem But.refl (g : Addr) (H : Hp) : But g H H := fun _ _ _ h => h
theorem But.trans {g : Addr} {H H1 H2 : Hp} (a : But g H H1) (b : But g H1 H2) : But g H H2 := fun c o n h => b c o n (a c o n h)
theorem But.same {g : Addr} {H H' : Hp} (a : Same H H') : But g H H' := fun c o _ h => a c o h
theorem But.upd {g : Addr} {H : Hp} {o : HO} : But g H (upd H g o) := fun c u n h => by rw [upd_ne n]; exact h
theorem Same.upd {H : Hp} {p : Addr} {o : HO} (hp : H p = none) : Same H (upd H p o) := fun c u h => by rw [upd_ne (ne_of_none h hp)]; exact h
theorem But.new {g p : Addr} {H H1 : Hp} {o : HO} (a : But g H H1) (hp : H1 p = none) : But g H (L2.upd H1 p o) := a.trans (.same (Same.upd hp))
theorem But.seq {K : PySem.W.Frag} {g a : Addr} {H H' : Hp} {xs : List V} (e : But g H H') (n : a ≠ g) (h : SqL K H a xs) : SqL K H' a xs := by
  rcases h with (h | ⟨o, h⟩) | h
  · exact .inl (.inl (e _ _ n h))
  · exact .inl (.inr ⟨o, e _ _ n h⟩)
  · exact .inr h
/-- the drawing state: what is left of the seed, its hash's part, how many were drawn -/
def GenAt (H : Hp) (g : Addr) (n : Nat) : Prop := ∃ x y z : Int, H g = some (.lst [.int x, .int y, .int z]) ∧ (0 ≤ x ∧ x.natAbs < 2 ^ 2000) ∧ (0 ≤ y ∧ y < 2147483647) ∧ (0 ≤ z ∧ z ≤ (n : Int))
theorem GenAt.same {H H' : Hp} {g : Addr} {n : Nat} (e : Same H H') (h : GenAt H g n) : GenAt H' g n := by
  obtain ⟨x, y, z, h0, r⟩ := h
  exact ⟨x, y, z, e _ _ h0, r⟩
theorem GenAt.mono {H : Hp} {g : Addr} {n m : Nat} (h : GenAt H g n) (l : n ≤ m) : GenAt H g m := by
  obtain ⟨x, y, z, h0, hx, hy, hz⟩ := h
  exact ⟨x, y, z, h0, hx, hy, hz.1, by omega⟩
theorem GenAt.new {H : Hp} {g p : Addr} {n : Nat} {o : HO} (h : GenAt H g n) (hp : H p = none) : GenAt (upd H p o) g n := h.same (Same.upd hp)
theorem GenAt.ne {H : Hp} {g p : Addr} {n : Nat} (h : GenAt H g n) (hp : H p = none) : p ≠ g := by
  obtain ⟨x, y, z, h0, _⟩ := h
  exact (ne_of_none h0 hp).symm
/-! ### signs -/
def signB (c : Nat) : Bool := decide (97 ≤ c) && decide (c ≤ 122)
def wordB (l : List Nat) : Bool := l.all signB
def ascB (l : List Nat) : Bool := (l.zip l.tail).all fun p => decide (p.1 < p.2)
def jointsB (l : List Nat) : Bool := wordB l && ascB l
theorem one_lt {c d : Nat} : (([c] : List Nat) < [d]) ↔ c < d := by
  constructor
  · intro h
    cases h with
    | rel h => exact h
    | cons h => cases h
  · exact fun h => List.Lex.rel h
theorem sign_chain (c : Nat) : (if (!decide ((⟨#[c]⟩ : Str).cps.toList < (Str.ofString "a").cps.toList)) = true then !decide ((Str.ofString "z").cps.toList < (⟨#[c]⟩ : Str).cps.toList) else false) = signB c := by
  have e1 : (Str.ofString "a").cps.toList = [97] := by decide +kernel
  have e2 : (Str.ofString "z").cps.toList = [122] := by decide +kernel
  rw [e1, e2]
  show (if (!decide (([c] : List Nat) < [97])) = true then !decide (([122] : List Nat) < [c]) else false) = signB c
  unfold signB
  simp only [one_lt]
  by_cases h1 : c < 97
  · simp [h1, Nat.not_le.mpr h1]
  · by_cases h2 : 122 < c
    · simp [h1, h2]
    · simp [h1, h2, Nat.not_lt.mp h1, Nat.not_lt.mp h2]
theorem size_S {l : List Nat} : (S l).cps.size = l.length := by simp [SX.S]
theorem at_S {l : List Nat} {i : Nat} : (S l).cps[i]? = l[i]? := by simp [SX.S]
theorem len_S (l : List Nat) : (S l).length = l.length := SX.S_len l
theorem take_snoc {α : Type} {l : List α} {i : Nat} {x : α} (h : l[i]? = some x) : l.take (i + 1) = l.take i ++ [x] := by
  rw [List.take_add_one, h]
  rfl
end Sw
namespace Sw
open PySem PySem.Spec PyProof.Rows L2
theorem small_line {n : Nat} (h : n ≤ 100000) : n < sizeLine := Nat.lt_of_le_of_lt h (by decide)
theorem small_le {n : Nat} (h : n ≤ 100000) : n ≤ sizeLine := Nat.le_of_lt (small_line h)
end Sw
namespace Sw
open PySem PySem.Spec PyProof.Rows L2
/-! ### slices of texts -/
theorem cutS_from {l : List Nat} {i : Int} (h : 0 ≤ i) : cutS (S l) (some i) none = S (l.drop i.toNat) := by
  rw [C8.cutS_slice]; exact SX.slice_from h
theorem cutS_to {l : List Nat} {i : Int} (h : 0 ≤ i) : cutS (S l) none (some i) = S (l.take i.toNat) := by
  rw [C8.cutS_slice]; exact SX.slice_to h
end Sw
namespace Sw
open PySem PySem.Spec PyProof.Rows L2
theorem zip_tail {l : List Nat} {i c d : Nat} (h1 : l[i]? = some c) (h2 : (l.drop (1 : Int).toNat)[i]? = some d) : (l.zip l.tail)[i]? = some (c, d) := by
  rw [List.getElem?_zip_eq_some]
  refine ⟨h1, ?_⟩
  have e : l.drop (1 : Int).toNat = l.tail := List.drop_one
  rw [e] at h2
  exact h2
theorem zip_size {l : List Nat} : min (S l).cps.size (S (l.drop (1 : Int).toNat)).cps.size = (l.zip l.tail).length := by
  rw [size_S, size_S, List.length_zip]
  have e : l.drop (1 : Int).toNat = l.tail := List.drop_one
  rw [e]
theorem one_lt_S {c d : Nat} : decide ((⟨#[c]⟩ : Str).cps.toList < (⟨#[d]⟩ : Str).cps.toList) = decide (c < d) := by
  show decide (([c] : List Nat) < [d]) = decide (c < d)
  simp only [one_lt]
end Sw
namespace Sw
open PySem PySem.Spec PyProof.Rows L2
theorem cutS_mid {l : List Nat} {i j : Nat} (h : i ≤ j) (hj : j ≤ l.length) : cutS (S l) (some (i : Int)) (some (j : Int)) = S ((l.drop i).take (j - i)) := by
  unfold cutS
  rw [HT.sIx_nat, HT.sIx_nat, len_S, Nat.min_eq_left hj, Nat.min_eq_left (Nat.le_trans h hj)]
/-! ### the first place of a sign -/
open PySem.StrLaws in
theorem occ_full (s sub : Str) (hi : Nat) (p : Nat) : ∀ (l : List Nat) (f : Nat), (forIn l ((#[p] : Array Nat), f) (occBody s sub hi 1)).run.fst = #[p]
  | [], f => rfl
  | a :: l, f => by
    rw [List.forIn_cons]
    unfold occBody
    rw [if_neg (by simp)]
    exact occ_full s sub hi p l f
open PySem.StrLaws in
theorem occ_to (s sub : Str) (hi p : Nat) (hp : p + sub.length ≤ hi) (hs : Builtin.Str.subAt s sub p = true) : ∀ (n a f : Nat), f ≤ a → a ≤ p → p < a + n → (∀ i, a ≤ i → i < p → ¬ Builtin.Str.subAt s sub i = true) →
    (forIn (List.range' a n) ((#[] : Array Nat), f) (occBody s sub hi 1)).run.fst = #[p]
  | 0, a, f, _, h1, h2, _ => by omega
  | n + 1, a, f, h0, h1, h2, hn => by
    rw [List.range'_succ, List.forIn_cons]
    by_cases e : a = p
    · subst e
      unfold occBody
      rw [if_pos ⟨⟨⟨by simp, h0⟩, hp⟩, hs⟩]
      exact occ_full s sub hi a _ _
    · unfold occBody
      rw [if_neg (fun z => hn a (Nat.le_refl _) (by omega) z.2)]
      exact occ_to s sub hi p hp hs n (a + 1) f (by omega) (by omega) (by omega) fun i h3 h4 => hn i (by omega) h4
theorem first_sign {l : List Nat} {c p : Nat} (h : l[p]? = some c) (hn : ∀ i, i < p → l[i]? ≠ some c) : Builtin.Str.occurrences (S l) (S [c]) 0 (S l).length 1 = [p] := by
  have hp : p < l.length := (List.getElem?_eq_some_iff.mp h).1
  have e1 : (S [c]).length = 1 := rfl
  have at1 := PySem.StrLaws.subAt_one (S l) c
  rw [PySem.StrLaws.occ_eq, occ_to (S l) (S [c]) (S l).length p (by rw [e1, len_S]; omega) ((at1 p).mpr h).2 _ 0 0 (Nat.le_refl _) (Nat.zero_le _) (by rw [len_S]; omega) fun i _ h4 z => hn i h4 ((at1 i).mp ⟨?_, z⟩)]
  show i + 1 ≤ (S l).length
  rw [len_S]
  omega
end Sw
namespace Sw
open PySem PySem.Spec PyProof.Rows L2
/-! ### the deed -/
def swapL (l : List Nat) (p : Nat) : List Nat := l.drop (p + 1) ++ (l.drop p).take 1 ++ l.take p
theorem drop_one {l : List Nat} {p c : Nat} (h : l[p]? = some c) : (l.drop p).take 1 = [c] := by
  obtain ⟨hp, e⟩ := List.getElem?_eq_some_iff.mp h
  rw [List.drop_eq_getElem_cons hp, e]
  rfl
theorem swapL_one {l : List Nat} {p c : Nat} (h : l[p]? = some c) : swapL l p = l.drop (p + 1) ++ [c] ++ l.take p := by
  unfold swapL
  rw [drop_one h]
theorem swapL_len {l : List Nat} {p : Nat} (h : p < l.length) : (swapL l p).length = l.length := by
  unfold swapL
  simp
  omega
theorem swapL_mem {l : List Nat} {p c : Nat} (h : c ∈ swapL l p) : c ∈ l := by
  unfold swapL at h
  rcases List.mem_append.mp h with h | h
  · rcases List.mem_append.mp h with h | h
    · exact List.mem_of_mem_drop h
    · exact List.mem_of_mem_drop (List.mem_of_mem_take h)
  · exact List.mem_of_mem_take h
/-- at the place counted from the end the same sign, and its deed leads back -/
theorem swapL_at {l : List Nat} {p : Nat} (h : p < l.length) : (swapL l p)[l.length - 1 - p]? = l[p]? := by
  have hc : l[p]? = some l[p] := List.getElem?_eq_getElem h
  rw [swapL_one hc, hc, List.append_assoc, List.getElem?_append_right (by rw [List.length_drop]; omega), List.length_drop, show l.length - 1 - p - (l.length - (p + 1)) = 0 by omega]
  rfl
theorem swapL_back {l : List Nat} {p : Nat} (h : p < l.length) : swapL (swapL l p) (l.length - 1 - p) = l := by
  have hc : l[p]? = some l[p] := List.getElem?_eq_getElem h
  rw [swapL_one ((swapL_at h).trans hc), swapL_one hc]
  have e1 : (l.drop (p + 1)).length = l.length - 1 - p := by rw [List.length_drop]; omega
  have e2 : (l.drop (p + 1) ++ [l[p]]).length = l.length - 1 - p + 1 := by rw [List.length_append, e1]; rfl
  rw [List.drop_left' e2, List.append_assoc (l.drop (p + 1)), List.take_left' e1, List.append_assoc]
  rw [List.singleton_append, ← List.drop_eq_getElem_cons h, List.take_append_drop]
/-- the places at which a joint stands -/
def openL (l js : List Nat) : List Nat := (List.range l.length).filter fun i => (l[i]?).any fun c => decide (c ∈ js)
theorem openL_len (l js : List Nat) : (openL l js).length ≤ l.length := by
  unfold openL
  have h := List.length_filter_le (fun i => (l[i]?).any fun c => decide (c ∈ js)) (List.range l.length)
  rw [List.length_range] at h
  exact h
theorem openL_snoc {l : List Nat} (js : List Nat) {i c : Nat} (h : l[i]? = some c) : openL (l.take (i + 1)) js = openL (l.take i) js ++ (if c ∈ js then [i] else []) := by
  obtain ⟨hi, e⟩ := List.getElem?_eq_some_iff.mp h
  have l1 : (l.take (i + 1)).length = i + 1 := by rw [List.length_take]; omega
  have l2 : (l.take i).length = i := by rw [List.length_take]; omega
  unfold openL
  rw [l1, l2, List.range_succ, List.filter_append]
  congr 1
  · refine List.filter_congr fun k hk => ?_
    have hk' : k < i := List.mem_range.mp hk
    rw [List.getElem?_take_of_lt (by omega), List.getElem?_take_of_lt hk']
  · rw [List.filter_cons, List.getElem?_take_of_lt (by omega), h]
    by_cases hm : c ∈ js <;> simp [hm]
theorem mem_openL {l js : List Nat} {i : Nat} (h : i ∈ openL l js) : ∃ c, l[i]? = some c ∧ c ∈ js := by
  unfold openL at h
  obtain ⟨_, h2⟩ := List.mem_filter.mp h
  cases e : l[i]? with
  | none => rw [e] at h2; cases h2
  | some c =>
    rw [e] at h2
    exact ⟨c, rfl, of_decide_eq_true h2⟩
end Sw
namespace Sw
open PySem PySem.Spec PyProof.Rows L2
theorem wordB_mem {l : List Nat} (h : wordB l = true) {c : Nat} (hc : c ∈ l) : 97 ≤ c ∧ c ≤ 122 := by
  have q := List.all_eq_true.mp h c hc
  unfold signB at q
  rw [Bool.and_eq_true] at q
  exact ⟨of_decide_eq_true q.1, of_decide_eq_true q.2⟩
theorem wordB_of {l : List Nat} (h : ∀ c ∈ l, 97 ≤ c ∧ c ≤ 122) : wordB l = true := by
  refine List.all_eq_true.mpr fun c hc => ?_
  unfold signB
  rw [decide_eq_true (h c hc).1, decide_eq_true (h c hc).2]
  rfl
theorem underscore : Str.ofString "_" = S [95] := by decide +kernel
/-- the ring with its hole at p, read from behind the hole on -/
theorem ring_hole {l : List Nat} {p c : Nat} (hw : wordB l = true) (hc : l[p]? = some c) :
    Builtin.Str.occurrences (S (l.take p ++ [95] ++ l.drop (p + 1) ++ [c])) (S [95]) 0 (S (l.take p ++ [95] ++ l.drop (p + 1) ++ [c])).length 1 = [p] := by
  obtain ⟨hp, e⟩ := List.getElem?_eq_some_iff.mp hc
  have lt : (l.take p).length = p := by rw [List.length_take]; omega
  refine first_sign ?_ fun i hi z => ?_
  · rw [List.append_assoc, List.append_assoc, List.getElem?_append_right (by omega), lt, Nat.sub_self]
    rfl
  · rw [List.append_assoc, List.append_assoc, List.getElem?_append_left (by omega)] at z
    have := wordB_mem hw (List.mem_of_mem_take (List.mem_of_getElem? z))
    omega
theorem ring_from {l : List Nat} {p c : Nat} (hp : p < l.length) : (l.take p ++ [95] ++ l.drop (p + 1) ++ [c]).drop (p + 1) = l.drop (p + 1) ++ [c] := by
  have lt : (l.take p ++ [95]).length = p + 1 := by rw [List.length_append, List.length_take]; simp; omega
  rw [List.append_assoc, List.drop_left' lt]
theorem ring_to {l : List Nat} {p c : Nat} (hp : p < l.length) : (l.take p ++ [95] ++ l.drop (p + 1) ++ [c]).take p = l.take p := by
  have lt : (l.take p).length = p := by rw [List.length_take]; omega
  rw [List.append_assoc, List.append_assoc, List.take_left' lt]
end Sw
namespace Sw
open PySem PySem.Spec PyProof.Rows L2
theorem cutV_to1 {ns : List Int} : some (HO.lst (cutV (ns.map V.int) none (some 1))) = some (HO.lst ((ns.take 1).map V.int)) := by
  have e : cutV (ns.map V.int) none (some 1) = (ns.map V.int).take 1 := by
    unfold cutV
    rw [HT.sIx_none, show (some (1 : Int)) = some ((1 : Nat) : Int) from rfl, HT.sIx_nat, List.drop_zero, Nat.sub_zero]
    rcases Nat.lt_or_ge (ns.map V.int).length 1 with h | h
    · rw [Nat.min_eq_right (by omega), List.take_length, List.take_of_length_le (by omega)]
    · rw [Nat.min_eq_left h]
  rw [e, List.map_take]
theorem seed_ok (x : Int) : 0 ≤ x % (10 ^ (60 : Int).toNat) ^ (10 : Int).toNat ∧ (x % (10 ^ (60 : Int).toNat) ^ (10 : Int).toNat).natAbs < 2 ^ 2000 := by
  have h0 : (0 : Int) < (10 ^ (60 : Int).toNat) ^ (10 : Int).toNat := by decide +kernel
  have h1 : ((10 ^ (60 : Int).toNat) ^ (10 : Int).toNat : Int).natAbs < 2 ^ 2000 := by decide +kernel
  have a := Int.emod_nonneg x (show ((10 ^ (60 : Int).toNat) ^ (10 : Int).toNat : Int) ≠ 0 by omega)
  have b := Int.emod_lt_of_pos x h0
  exact ⟨a, Nat.lt_of_lt_of_le (by omega) (Nat.le_of_lt h1)⟩
theorem joinL_signs : ∀ ws : List Nat, TL.joinL [] (ws.map fun c => [c]) = ws
  | [] => rfl
  | [c] => rfl
  | c :: d :: r => by
    have ih := joinL_signs (d :: r)
    show [c] ++ ([] ++ TL.joinL [] ((d :: r).map fun c => [c])) = c :: d :: r
    rw [ih]
    rfl
theorem join_signs (ws : List Nat) : Txt.join (Str.ofString "") (ws.map fun c => S [c]) = S ws := by
  have e0 : Str.ofString "" = S [] := by decide +kernel
  have e1 : (ws.map fun c => S [c]) = (ws.map fun c => [c]).map SX.S := by rw [List.map_map]; rfl
  rw [e0, e1, SX.join_S, joinL_signs]
theorem join_bound {ws : List Nat} (h : ws.length ≤ 100000) : ((ws.map fun c => S [c]).map (·.length)).sum + (ws.map fun c => S [c]).length * (Str.ofString "").length ≤ 16777216 := by
  have e0 : (Str.ofString "").length = 0 := by decide +kernel
  have e1 : ((ws.map fun c => S [c]).map (·.length)).sum = ws.length := by
    rw [List.map_map]
    have : ((fun x : Str => x.length) ∘ fun c => S [c]) = fun _ : Nat => 1 := funext fun c => rfl
    rw [this, List.map_const', List.sum_replicate_nat, Nat.mul_one]
  rw [e0, e1]
  omega
theorem alpha_len : (Str.ofString "abcdefghijklmnopqrstuvwxyz").length = 26 := by decide +kernel
theorem alpha_at (i : Nat) (h : i < 26) : (Str.ofString "abcdefghijklmnopqrstuvwxyz").cps[i]? = some (97 + i) := by
  have all : ∀ k : Fin 26, (Str.ofString "abcdefghijklmnopqrstuvwxyz").cps[k.val]? = some (97 + k.val) := by decide +kernel
  exact all ⟨i, h⟩
end Sw
namespace Sw
open PySem PySem.Spec PyProof.Rows L2
/-! ### lists of places compared -/
abbrev placesV (ns : List Nat) : List V := ns.map fun i => V.int (i : Nat)
def placesD (ns : List Nat) : List PyData := ns.map fun i => PyData.int (i : Nat)
theorem places_dp {K : PySem.W.Frag} {H : Hp} : ∀ ns : List Nat, DpAll K H (placesV ns) (placesD ns)
  | [] => .nil
  | n :: r => .cons (.int _) (places_dp r)
theorem places_lay : ∀ ns : List Nat, PyData.canLayAll0 (placesD ns) = true
  | [] => rfl
  | n :: r => by
    show (PyData.canLay0 (.int (n : Nat)) && PyData.canLayAll0 (placesD r)) = true
    rw [places_lay r]
    rfl
theorem places_depth : ∀ ns : List Nat, PyData.depthAll (placesD ns) = 0
  | [] => rfl
  | n :: r => by
    show max (PyData.depth (.int (n : Nat))) (PyData.depthAll (placesD r)) = 0
    rw [places_depth r]
    rfl
theorem places_shaped (ns : List Nat) : SeqAt.shaped (.list (placesD ns)) = true := by
  unfold SeqAt.shaped
  have e : (PyData.list (placesD ns)).depth = 1 := by
    show PyData.depthAll (placesD ns) + 1 = 1
    rw [places_depth]
  have e2 : (PyData.list (placesD ns)).canLay0 = true := places_lay ns
  rw [e, e2]
  rfl
theorem places_eqv (ns : List Nat) : PyData.eqv (.list (placesD ns)) (.list (placesD ns)) = true := PySem.SeqAt.eqv_refl _ (places_lay ns)
/-- a test that two lists of places are unlike, which they are not -/
theorem ne_places {K : PySem.W.Frag} {H : Hp} {a b : Addr} {ns : List Nat} {Q : VK} (ha : SqL K H a (placesV ns)) (hb : SqL K H b (placesV ns)) (q : Q (.bl false) H) : rNeD K (.ref a) (.ref b) H Q := by
  refine ⟨_, _, .lst ha (places_dp ns), .lst hb (places_dp ns), places_shaped ns, places_shaped ns, ?_⟩
  rw [places_eqv]
  exact q
/-- one of three -/
theorem pick3 {a b c r : Int} (h0 : 0 ≤ r) (h1 : r < 3) {m : Int} (ha : 0 ≤ a ∧ a ≤ m) (hb : 0 ≤ b ∧ b ≤ m) (hc : 0 ≤ c ∧ c ≤ m) : ∃ n : Nat, atI [V.int a, V.int b, V.int c] r = some (V.int (n : Nat)) ∧ (n : Int) ≤ m := by
  have e : r = 0 ∨ r = 1 ∨ r = 2 := by omega
  rcases e with rfl | rfl | rfl
  · exact ⟨a.toNat, by show some (V.int a) = _; rw [Int.toNat_of_nonneg ha.1], by omega⟩
  · exact ⟨b.toNat, by show some (V.int b) = _; rw [Int.toNat_of_nonneg hb.1], by omega⟩
  · exact ⟨c.toNat, by show some (V.int c) = _; rw [Int.toNat_of_nonneg hc.1], by omega⟩
theorem ascB_of {l : List Nat} (h : l.Pairwise (· < ·)) : ascB l = true := by
  unfold ascB
  refine List.all_eq_true.mpr fun p hp => ?_
  refine decide_eq_true ?_
  induction h with
  | nil => cases hp
  | @cons a r hr _ ih =>
    cases r with
    | nil => cases hp
    | cons b t =>
      have hp' : p ∈ (a, b) :: ((b :: t).zip t) := hp
      rcases List.mem_cons.mp hp' with e | hp'
      · rw [e]; exact hr b List.mem_cons_self
      · exact ih hp'
theorem jointsB_of {l : List Nat} (h : l.Pairwise (· < ·)) (hw : ∀ c ∈ l, 97 ≤ c ∧ c ≤ 122) : jointsB l = true := by
  unfold jointsB
  rw [wordB_of hw, ascB_of h]
  rfl
theorem jointsB_one {c : Nat} (h : 97 ≤ c ∧ c ≤ 122) : jointsB [c] = true := jointsB_of (List.pairwise_singleton _ _) fun d hd => by rw [List.mem_singleton.mp hd]; exact h
/-- some of the places: the first twelve and the last two -/
theorem cutV_to12 (xs : List V) : cutV xs none (some 12) = xs.take 12 := by
  unfold cutV
  rw [HT.sIx_none, show (some (12 : Int)) = some ((12 : Nat) : Int) from rfl, HT.sIx_nat, List.drop_zero, Nat.sub_zero]
  rcases Nat.lt_or_ge xs.length 12 with h | h
  · rw [Nat.min_eq_right (by omega), List.take_length, List.take_of_length_le (by omega)]
  · rw [Nat.min_eq_left h]
theorem openL_nil (l : List Nat) : openL l [] = [] := by
  unfold openL
  refine List.filter_eq_nil_iff.mpr fun i _ => ?_
  cases l[i]? <;> simp
theorem cutV_from {xs : List V} {k : Nat} (h : k ≤ xs.length) : cutV xs (some (k : Int)) none = xs.drop k := by
  unfold cutV
  rw [HT.sIx_none, HT.sIx_nat, Nat.min_eq_left h, List.take_of_length_le (by rw [List.length_drop]; omega)]
end Sw
namespace Sw
open PySem PySem.Spec PyProof.Rows L2
/-- what was not there before may change -/
theorem But.after {g : Addr} {H H1 H2 : Hp} (b : But g H1 H2) (s : Same H H1) (hg : H g = none) : Same H H2 := fun c o h => b c o (ne_of_none h hg) (s c o h)
end Sw
/-! Roads, what they move, what they cost. -/
namespace Sw
open PySem PySem.Spec PyProof.Rows L2
/-- the word to which a road leads; the words it passes -/
def ends (l r : List Nat) : List Nat := r.foldl swapL l
def pass (l : List Nat) : List Nat → List (List Nat)
  | [] => [l]
  | p :: r => l :: pass (swapL l p) r
def IsRoad (js l : List Nat) : List Nat → Prop
  | [] => True
  | p :: r => (∃ c, l[p]? = some c ∧ c ∈ js) ∧ IsRoad js (swapL l p) r
def backL (n : Nat) (r : List Nat) : List Nat := r.reverse.map fun p => n - 1 - p
theorem ends_cons (l : List Nat) (p : Nat) (r : List Nat) : ends l (p :: r) = ends (swapL l p) r := rfl
theorem ends_append (l r q : List Nat) : ends l (r ++ q) = ends (ends l r) q := by unfold ends; rw [List.foldl_append]
theorem ends_snoc (l r : List Nat) (p : Nat) : ends l (r ++ [p]) = swapL (ends l r) p := by rw [ends_append]; rfl
theorem pass_len (l r : List Nat) : (pass l r).length = r.length + 1 := by
  induction r generalizing l with
  | nil => rfl
  | cons p r ih => unfold pass; rw [List.length_cons, ih]; rfl
theorem pass_snoc (l r : List Nat) (p : Nat) : pass l (r ++ [p]) = pass l r ++ [ends l (r ++ [p])] := by
  induction r generalizing l with
  | nil => rfl
  | cons q r ih =>
    show l :: pass (swapL l q) (r ++ [p]) = l :: pass (swapL l q) r ++ [ends (swapL l q) (r ++ [p])]
    rw [ih]
    rfl
theorem pass_last (l r : List Nat) : (pass l r)[r.length]? = some (ends l r) := by
  induction r generalizing l with
  | nil => rfl
  | cons p r ih => show (l :: pass (swapL l p) r)[r.length + 1]? = _; rw [List.getElem?_cons_succ, ih]; rfl
theorem road_lt {js l r : List Nat} (h : IsRoad js l r) : ∀ p ∈ r, p < l.length := by
  induction r generalizing l with
  | nil => intro p hp; cases hp
  | cons q r ih =>
    obtain ⟨⟨c, hc, _⟩, h2⟩ := h
    have hq : q < l.length := (List.getElem?_eq_some_iff.mp hc).1
    intro p hp
    rcases List.mem_cons.mp hp with e | hp
    · rw [e]; exact hq
    · have := ih h2 p hp
      rw [swapL_len hq] at this
      exact this
theorem ends_len {l r : List Nat} (h : ∀ p ∈ r, p < l.length) : (ends l r).length = l.length := by
  induction r generalizing l with
  | nil => rfl
  | cons q r ih =>
    have hq := h q List.mem_cons_self
    rw [ends_cons, ih fun p hp => by rw [swapL_len hq]; exact h p (List.mem_cons_of_mem _ hp), swapL_len hq]
theorem ends_mem {l r : List Nat} {c : Nat} (h : c ∈ ends l r) : c ∈ l := by
  induction r generalizing l with
  | nil => exact h
  | cons q r ih => exact swapL_mem (ih h)
theorem road_append {js l r q : List Nat} : IsRoad js l (r ++ q) ↔ IsRoad js l r ∧ IsRoad js (ends l r) q := by
  induction r generalizing l with
  | nil => exact ⟨fun h => ⟨trivial, h⟩, fun h => h.2⟩
  | cons p r ih =>
    constructor
    · rintro ⟨h1, h2⟩
      exact ⟨⟨h1, (ih.mp h2).1⟩, (ih.mp h2).2⟩
    · rintro ⟨⟨h1, h2⟩, h3⟩
      exact ⟨h1, ih.mpr ⟨h2, h3⟩⟩
theorem road_at {js l r : List Nat} {i p : Nat} (h : IsRoad js l r) (hi : r[i]? = some p) : ∃ c, (ends l (r.take i))[p]? = some c ∧ c ∈ js := by
  have e : r = r.take i ++ p :: r.drop (i + 1) := by
    obtain ⟨hl, e⟩ := List.getElem?_eq_some_iff.mp hi
    rw [← e, ← List.drop_eq_getElem_cons hl, List.take_append_drop]
  rw [e] at h
  exact (road_append.mp h).2.1
theorem ends_take {l r : List Nat} {i p : Nat} (hi : r[i]? = some p) : ends l (r.take (i + 1)) = swapL (ends l (r.take i)) p := by
  rw [take_snoc hi, ends_snoc]
theorem pass_take {l r : List Nat} {i p : Nat} (hi : r[i]? = some p) : pass l (r.take (i + 1)) = pass l (r.take i) ++ [ends l (r.take (i + 1))] := by
  rw [take_snoc hi, pass_snoc]
theorem road_take {js l r : List Nat} {i : Nat} (h : IsRoad js l r) : IsRoad js l (r.take i) := by
  have e : r = r.take i ++ r.drop i := (List.take_append_drop i r).symm
  rw [e] at h
  exact (road_append.mp h).1
theorem backL_cons (n p : Nat) (r : List Nat) : backL n (p :: r) = backL n r ++ [n - 1 - p] := by
  unfold backL
  rw [List.reverse_cons, List.map_append]
  rfl
theorem back_ends {l r : List Nat} (h : ∀ p ∈ r, p < l.length) : ends (ends l r) (backL l.length r) = l := by
  induction r generalizing l with
  | nil => rfl
  | cons p r ih =>
    have hp := h p List.mem_cons_self
    have hr : ∀ q ∈ r, q < (swapL l p).length := fun q hq => by rw [swapL_len hp]; exact h q (List.mem_cons_of_mem _ hq)
    have := ih hr
    rw [swapL_len hp] at this
    rw [backL_cons, ends_snoc, ends_cons, this, swapL_back hp]
theorem back_road {js l r : List Nat} (h : IsRoad js l r) : IsRoad js (ends l r) (backL l.length r) := by
  induction r generalizing l with
  | nil => trivial
  | cons p r ih =>
    obtain ⟨⟨c, hc, hm⟩, h2⟩ := h
    have hp : p < l.length := (List.getElem?_eq_some_iff.mp hc).1
    have i2 := ih h2
    have e2 := back_ends (road_lt h2)
    rw [swapL_len hp] at i2 e2
    rw [backL_cons, road_append, ends_cons]
    refine ⟨i2, ⟨c, ?_, hm⟩, trivial⟩
    rw [e2]
    exact (swapL_at hp).trans hc
/-! ### what goes along: the same for the places as for the signs -/
theorem swapL_map (f : Nat → Nat) (l : List Nat) (p : Nat) : swapL (l.map f) p = (swapL l p).map f := by
  unfold swapL
  rw [List.map_append, List.map_append, List.map_drop, List.map_take, List.map_drop, List.map_take]
theorem ends_map (f : Nat → Nat) (l r : List Nat) : ends (l.map f) r = (ends l r).map f := by
  induction r generalizing l with
  | nil => rfl
  | cons p r ih => rw [ends_cons, ends_cons, swapL_map, ih]
theorem range_get (l : List Nat) : (List.range l.length).map (fun i => l.getD i 0) = l := by
  refine List.ext_getElem (by simp) fun i h1 h2 => ?_
  simp at h1
  simp [h1]
theorem moved_get (l r : List Nat) : (ends (List.range l.length) r).map (fun i => l.getD i 0) = ends l r := by
  rw [← ends_map, range_get]
/-! ### prices -/
def PricesOk (ps : List (Nat × Int)) : Prop := (∀ q ∈ ps, (97 ≤ q.1 ∧ q.1 ≤ 122) ∧ 1 ≤ q.2) ∧ (ps.map (·.1)).Pairwise (· < ·)
def priceAt (ps : List (Nat × Int)) (c : Nat) : Int := ((ps.find? fun q => decide (q.1 = c)).map (·.2)).getD 0
def costL (ps : List (Nat × Int)) (l : List Nat) : List Nat → Int
  | [] => 0
  | p :: r => priceAt ps (l.getD p 0) + costL ps (swapL l p) r
theorem cost_append (ps : List (Nat × Int)) (l r q : List Nat) : costL ps l (r ++ q) = costL ps l r + costL ps (ends l r) q := by
  induction r generalizing l with
  | nil => show costL ps l q = 0 + costL ps l q; omega
  | cons p r ih => show priceAt ps (l.getD p 0) + costL ps (swapL l p) (r ++ q) = _; rw [ih, ends_cons]; show _ = (priceAt ps (l.getD p 0) + costL ps (swapL l p) r) + _; omega
theorem cost_take {ps : List (Nat × Int)} {l r : List Nat} {i p : Nat} (hi : r[i]? = some p) : costL ps l (r.take (i + 1)) = costL ps l (r.take i) + priceAt ps ((ends l (r.take i)).getD p 0) := by
  rw [take_snoc hi, cost_append]
  show _ + (priceAt ps _ + 0) = _
  omega
theorem cost_back (ps : List (Nat × Int)) {l r : List Nat} (h : ∀ p ∈ r, p < l.length) : costL ps (ends l r) (backL l.length r) = costL ps l r := by
  induction r generalizing l with
  | nil => rfl
  | cons p r ih =>
    have hp := h p List.mem_cons_self
    have hr : ∀ q ∈ r, q < (swapL l p).length := fun q hq => by rw [swapL_len hp]; exact h q (List.mem_cons_of_mem _ hq)
    have i2 := ih hr
    have e2 := back_ends hr
    rw [swapL_len hp] at i2 e2
    rw [backL_cons, cost_append, ends_cons, i2, e2]
    show costL ps (swapL l p) r + (priceAt ps ((swapL l p).getD (l.length - 1 - p) 0) + 0) = priceAt ps (l.getD p 0) + costL ps (swapL l p) r
    have e3 : (swapL l p).getD (l.length - 1 - p) 0 = l.getD p 0 := by rw [List.getD_eq_getElem?_getD, List.getD_eq_getElem?_getD, swapL_at hp]
    rw [e3]
    omega
/-- the price of a letter is the sum of all prices of this letter -/
theorem price_sum {ps : List (Nat × Int)} (h : (ps.map (·.1)).Pairwise (· < ·)) (c : Nat) : ((ps.filter fun q => decide (q.1 = c)).map (·.2)).sum = priceAt ps c := by
  induction ps with
  | nil => rfl
  | cons q r ih =>
    have h' : (q.1 :: r.map (·.1)).Pairwise (· < ·) := h
    obtain ⟨h1, h2⟩ := List.pairwise_cons.mp h'
    unfold priceAt
    rw [List.filter_cons, List.find?_cons]
    by_cases e : q.1 = c
    · have hno : r.filter (fun q => decide (q.1 = c)) = [] := List.filter_eq_nil_iff.mpr fun y hy z => by
        have := h1 y.1 (List.mem_map_of_mem hy)
        have := of_decide_eq_true z
        omega
      simp [e, hno]
    · have := ih h2
      unfold priceAt at this
      simp only [e, decide_false]
      exact this
theorem price_find {ps : List (Nat × Int)} {c : Nat} (h : c ∈ ps.map (·.1)) : ∃ v, (ps.find? fun q => decide (q.1 = c)) = some v ∧ v.2 = priceAt ps c := by
  unfold priceAt
  cases e : ps.find? fun q => decide (q.1 = c) with
  | some v => exact ⟨v, rfl, rfl⟩
  | none =>
    obtain ⟨q, hq, rfl⟩ := List.mem_map.mp h
    exact absurd (decide_eq_true rfl) (List.find?_eq_none.mp e q hq)
/-- prices as they stand in the heap -/
def PriceT (H : Hp) (t : V) (q : Nat × Int) : Prop := ∃ a, t = .ref a ∧ H a = some (.tup [.str (S [q.1]), .int q.2])
def PricesAt (H : Hp) (a : Addr) (ps : List (Nat × Int)) : Prop := ∃ ts : List V, H a = some (.lst ts) ∧ Paired (PriceT H) ts ps
theorem PriceT.same {H H' : Hp} {t : V} {q : Nat × Int} (s : Same H H') (h : PriceT H t q) : PriceT H' t q := by
  obtain ⟨a, e, h⟩ := h
  exact ⟨a, e, s _ _ h⟩
theorem PricesAt.same {H H' : Hp} {a : Addr} {ps : List (Nat × Int)} (s : Same H H') (h : PricesAt H a ps) : PricesAt H' a ps := by
  obtain ⟨ts, h1, h2⟩ := h
  exact ⟨ts, s _ _ h1, Paired.mapP h2 fun t q z => PriceT.same s z⟩
theorem Paired.len {α β : Type} {F : α → β → Prop} : ∀ {xs : List α} {ys : List β}, Paired F xs ys → xs.length = ys.length
  | _, _, .nil => rfl
  | _, _, .cons _ t => congrArg Nat.succ (Paired.len t)
theorem Paired.at {α β : Type} {F : α → β → Prop} : ∀ {xs : List α} {ys : List β} {i : Nat} {x : α}, Paired F xs ys → xs[i]? = some x → ∃ y, ys[i]? = some y ∧ F x y
  | _, _, _, _, .nil, e => by simp at e
  | _, _, 0, x, .cons r _, e => by simp at e; subst e; exact ⟨_, rfl, r⟩
  | _, _, i + 1, x, .cons _ t, e => Paired.at (i := i) t (by simpa using e)
theorem Paired.snoc {α β : Type} {F : α → β → Prop} : ∀ {xs : List α} {ys : List β} {x : α} {y : β}, Paired F xs ys → F x y → Paired F (xs ++ [x]) (ys ++ [y])
  | _, _, _, _, .nil, h => .cons h .nil
  | _, _, _, _, .cons r t, h => .cons r (Paired.snoc t h)
/-- the dict of prices -/
def pricesK (ps : List (Nat × Int)) : List (Key × V) := ps.map fun q => (Sum.inr (S [q.1]), V.int q.2)
theorem mergeK_new : ∀ (more kvs : List (Key × V)), (∀ q ∈ more, valV kvs q.1 = none) → (more.map (·.1)).Nodup → mergeK kvs more = kvs ++ more
  | [], kvs, _, _ => (List.append_nil kvs).symm
  | q :: r, kvs, h, nd => by
    obtain ⟨n1, n2⟩ := List.nodup_cons.mp (show (q.1 :: r.map (·.1)).Nodup from nd)
    have e := putK_new q.2 (h q List.mem_cons_self)
    show mergeK (putK kvs q.1 q.2) r = kvs ++ q :: r
    rw [e, mergeK_new r _ (fun y hy => ?_) n2, List.append_assoc]
    · rfl
    · rw [valV_snoc _ _ _ _ (h q List.mem_cons_self), if_neg (fun z : y.1 = q.1 => n1 (by rw [← z]; exact List.mem_map_of_mem hy))]
      exact h y (List.mem_cons_of_mem _ hy)
theorem S_one_inj {c d : Nat} (h : S [c] = S [d]) : c = d := by
  have := SX.S_inj h
  injection this
theorem prices_merge {ps : List (Nat × Int)} (h : (ps.map (·.1)).Pairwise (· < ·)) : mergeK [] (pricesK ps) = pricesK ps := by
  rw [mergeK_new (pricesK ps) [] (fun _ _ => rfl) ?_, List.nil_append]
  unfold pricesK
  rw [List.map_map]
  have e : ((fun x : Key × V => x.1) ∘ fun q : Nat × Int => ((Sum.inr (S [q.1]) : Key), V.int q.2)) = (fun c : Nat => (Sum.inr (S [c]) : Key)) ∘ fun q : Nat × Int => q.1 := rfl
  rw [e, ← List.map_map, List.Nodup, List.pairwise_map]
  refine h.imp fun {a b} lt z => ?_
  have := S_one_inj (Sum.inr.inj z)
  omega
theorem prices_val {ps : List (Nat × Int)} {c : Nat} (h : c ∈ ps.map (·.1)) : valV (pricesK ps) (Sum.inr (S [c])) = some (V.int (priceAt ps c)) := by
  obtain ⟨v, hv, e⟩ := price_find h
  rw [← e]
  unfold valV pricesK
  rw [List.find?_map]
  have e2 : ((fun kv : Key × V => decide (kv.1 = Sum.inr (S [c]))) ∘ fun q : Nat × Int => ((Sum.inr (S [q.1]) : Key), V.int q.2)) = fun q : Nat × Int => decide (q.1 = c) := by
    funext q
    show decide ((Sum.inr (S [q.1]) : Key) = Sum.inr (S [c])) = decide (q.1 = c)
    by_cases z : q.1 = c
    · rw [z]; simp
    · rw [decide_eq_false z, decide_eq_false fun y => z (S_one_inj (Sum.inr.inj y))]
  rw [e2, hv]
  rfl
end Sw
namespace Sw
open PySem PySem.Spec PyProof.Rows L2
theorem cutV_tail (xs : List V) : cutV xs (some 1) none = xs.tail := by
  unfold cutV
  rw [HT.sIx_none, show (some (1 : Int)) = some ((1 : Nat) : Int) from rfl, HT.sIx_nat]
  cases xs with
  | nil => rfl
  | cons x r =>
    have e : min 1 (x :: r).length = 1 := by simp
    rw [e, List.take_of_length_le (by simp)]
    rfl
theorem one_lt_S' {c d : Nat} : decide ((S [c]).cps.toList < (S [d]).cps.toList) = decide (c < d) := one_lt_S
abbrev wordsV (ws : List (List Nat)) : List V := ws.map fun l => V.str (S l)
theorem place_of {r : List Nat} {i : Nat} {y : V} (h : (placesV r)[i]? = some y) : ∃ p, r[i]? = some p ∧ y = V.int (p : Nat) := by
  rw [List.getElem?_map] at h
  obtain ⟨p, hp, e⟩ := Option.map_eq_some_iff.mp h
  exact ⟨p, hp, e.symm⟩
theorem at_last {xs : List V} {v : V} (h : xs[xs.length - 1]? = some v) : atI xs (-1) = some v := by
  have hl : 0 < xs.length := by
    have := (List.getElem?_eq_some_iff.mp h).1
    omega
  unfold atI ixN
  rw [if_neg (by omega), if_pos (by omega)]
  show xs[((xs.length : Int) + -1).toNat]? = some v
  rw [show ((xs.length : Int) + -1).toNat = xs.length - 1 by omega]
  exact h
theorem last_word {l r : List Nat} (_ : r.length = r.length) : atI (wordsV (pass l r)) (-1) = some (V.str (S (ends l r))) := by
  refine at_last ?_
  rw [List.length_map, pass_len, Nat.add_sub_cancel, List.getElem?_map, pass_last]
  rfl
end Sw
namespace Sw
open PySem PySem.Spec PyProof.Rows L2
theorem cutV_mid {xs : List V} {i j : Nat} (h : i ≤ j) (hj : j ≤ xs.length) : cutV xs (some (i : Int)) (some (j : Int)) = (xs.drop i).take (j - i) := by
  unfold cutV
  rw [HT.sIx_nat, HT.sIx_nat, Nat.min_eq_left hj, Nat.min_eq_left (Nat.le_trans h hj)]
theorem cutV_toN {xs : List V} {j : Nat} (hj : j ≤ xs.length) : cutV xs none (some (j : Int)) = xs.take j := by
  unfold cutV
  rw [HT.sIx_none, HT.sIx_nat, Nat.min_eq_left hj, List.drop_zero, Nat.sub_zero]
theorem rg_places {n : Nat} : rgV 0 (n : Int) = placesV (List.range n) := by
  unfold rgV
  rw [show ((n : Int) - 0).toNat = n by omega]
  refine List.map_congr_left fun i _ => ?_
  rw [Int.zero_add]
theorem pass_at {l r : List Nat} {i : Nat} (h : i ≤ r.length) : (pass l r)[i]? = some (ends l (r.take i)) := by
  induction r generalizing l i with
  | nil =>
    have e : i = 0 := by simp at h; exact h
    subst e
    rfl
  | cons p r ih =>
    cases i with
    | zero => rfl
    | succ i =>
      show (l :: pass (swapL l p) r)[i + 1]? = _
      rw [List.getElem?_cons_succ, ih (by simp at h; omega)]
      rfl
theorem prices_addrs {H : Hp} : ∀ {ts : List V} {ps : List (Nat × Int)}, Paired (PriceT H) ts ps → ∃ as : List Addr, ts = as.map V.ref ∧ Paired (fun a q => H a = some (.tup [.str (S q.1.1), .int q.2]) ∧ True) as (ps.map fun q => (([q.1], ()), q.2))
  | _, _, .nil => ⟨[], rfl, .nil⟩
  | _, _, .cons r t => by
    obtain ⟨a, rfl, h⟩ := r
    obtain ⟨as, rfl, hp⟩ := prices_addrs t
    exact ⟨a :: as, rfl, .cons ⟨h, trivial⟩ hp⟩
theorem prices_paired {K : PySem.W.Frag} {H : Hp} : ∀ {as : List Addr} {ps : List (Nat × Int)}, Paired (fun a (q : (List Nat × Unit) × Int) => H a = some (.tup [.str (S q.1.1), .int q.2]) ∧ True) as (ps.map fun q => (([q.1], ()), q.2)) →
    Paired (fun p (kv : Key × V) => SqT K H p [kV kv.1, kv.2]) as (pricesK ps)
  | [], [], _ => .nil
  | a :: as, q :: ps, h => by
    cases h with
    | cons h t => exact .cons (SqT.of h.1) (prices_paired t)
  | [], _ :: _, h => by cases h
  | _ :: _, [], h => by cases h
theorem places_ne_nil {K : PySem.W.Frag} {H : Hp} {a b : Addr} {ns : List Nat} {Q : VK} (ha : SqL K H a (placesV ns)) (hb : SqL K H b []) (q : Q (.bl (!ns.isEmpty)) H) : rNeD K (.ref a) (.ref b) H Q := by
  refine ⟨_, _, .lst ha (places_dp ns), .lst hb .nil, places_shaped ns, places_shaped [], ?_⟩
  have e : PyData.eqv (.list (placesD ns)) (.list []) = ns.isEmpty := by
    cases ns with
    | nil => exact places_eqv []
    | cons n r => rfl
  rw [e]
  exact q
end Sw
namespace Sw
open PySem PySem.Spec PyProof.Rows L2
/-- one of two -/
theorem pick2 {a b r : Int} (h0 : 0 ≤ r) (h1 : r < 2) : ∃ n : Int, atI [V.int a, V.int b] r = some (V.int n) ∧ (n = a ∨ n = b) ∧ True := by
  have e : r = 0 ∨ r = 1 := by omega
  rcases e with rfl | rfl
  · exact ⟨a, rfl, .inl rfl, trivial⟩
  · exact ⟨b, rfl, .inr rfl, trivial⟩
end Sw
namespace Sw
open PySem PySem.Spec PyProof.Rows L2
theorem Same.updF {H H1 : Hp} {p : Addr} {o : HO} (s : Same H H1) (hp : H p = none) : Same H (L2.upd H1 p o) := fun c u h => by
  rw [upd_ne (ne_of_none h hp)]
  exact s c u h
/-! ### prices compared -/
def priceD (q : Nat × Int) : PyData := .tuple [.str (S [q.1]), .int q.2]
theorem prices_dp {K : PySem.W.Frag} {H : Hp} : ∀ {ts : List V} {ps : List (Nat × Int)}, Paired (PriceT H) ts ps → DpAll K H ts (ps.map priceD)
  | _, _, .nil => .nil
  | _, _, .cons r t => by
    obtain ⟨a, rfl, h⟩ := r
    exact .cons (.tup (SqT.of h) (.cons (.str _) (.cons (.int _) .nil))) (prices_dp t)
theorem prices_lay : ∀ {ps : List (Nat × Int)}, (∀ q ∈ ps, q.1 ≤ 122) → PyData.canLayAll0 (ps.map priceD) = true
  | [], _ => rfl
  | q :: r, h => by
    have h1 := h q List.mem_cons_self
    have h2 := prices_lay (ps := r) fun y hy => h y (List.mem_cons_of_mem _ hy)
    have e : PyData.strOk (S [q.1]) = true := by
      show ((#[q.1] : Array Nat).all fun c => decide (c < 0x110000)) = true
      simp
      omega
    show ((PyData.strOk (S [q.1]) && (true && true)) && PyData.canLayAll0 (r.map priceD)) = true
    rw [e, h2]
    rfl
theorem prices_depth : ∀ ps : List (Nat × Int), PyData.depthAll (ps.map priceD) ≤ 1
  | [] => Nat.zero_le _
  | q :: r => Nat.max_le.mpr ⟨Nat.le_refl _, prices_depth r⟩
theorem prices_shaped {ps : List (Nat × Int)} (h : ∀ q ∈ ps, q.1 ≤ 122) : SeqAt.shaped (.list (ps.map priceD)) = true := by
  unfold SeqAt.shaped
  have e : (PyData.list (ps.map priceD)).depth ≤ 64 := by
    show PyData.depthAll (ps.map priceD) + 1 ≤ 64
    have := prices_depth ps
    omega
  have e2 : (PyData.list (ps.map priceD)).canLay0 = true := prices_lay h
  rw [e2, decide_eq_true e]
  rfl
theorem prices_same {K : PySem.W.Frag} {H : Hp} {a b : Addr} {ps : List (Nat × Int)} {Q : VK} (ok : PricesOk ps) (ha : PricesAt H a ps) (hb : PricesAt H b ps) (q : Q (.bl false) H) : rNeD K (.ref a) (.ref b) H Q := by
  obtain ⟨ts, h1, h2⟩ := ha
  obtain ⟨us, h3, h4⟩ := hb
  have hle : ∀ q ∈ ps, q.1 ≤ 122 := fun q hq => (ok.1 q hq).1.2
  refine ⟨_, _, .lst (SqL.of h1) (prices_dp h2), .lst (SqL.of h3) (prices_dp h4), prices_shaped hle, prices_shaped hle, ?_⟩
  rw [PySem.SeqAt.eqv_refl _ (show (PyData.list (ps.map priceD)).canLay0 = true from prices_lay hle)]
  exact q
theorem PriceT.upd {H : Hp} {D : Addr} {xs ys : List V} (hD : H D = some (.lst xs)) {t : V} {q : Nat × Int} (h : PriceT H t q) : PriceT (L2.upd H D (.lst ys)) t q := by
  obtain ⟨a, e, h⟩ := h
  exact ⟨a, e, by rw [upd_ne (ne_of h hD (by intro z; cases z))]; exact h⟩
theorem PricesAt.but {g a : Addr} {H H' : Hp} {n : Nat} {ps : List (Nat × Int)} (G : GenAt H g n) (ne : a ≠ g) (b : But g H H') (h : PricesAt H a ps) : PricesAt H' a ps := by
  obtain ⟨ts, h1, h2⟩ := h
  obtain ⟨x, y, z, g0, _⟩ := G
  refine ⟨ts, b _ _ ne h1, Paired.mapP h2 fun t q z => ?_⟩
  obtain ⟨c, e, h⟩ := z
  exact ⟨c, e, b _ _ (ne_of h g0 (by intro z; cases z)) h⟩
/-- what the last part of the law about moved letters leans on -/
structure Facts4 (H0 : Hp) (g D m fe v : Addr) (ps : List (Nat × Int)) (r due : List Nat) (c : Nat) (H : Hp) : Prop where
  pr : PricesAt H D ps
  fe : PricesAt H fe ps
  du : H m = some (.lst (placesV due))
  ro : H v = some (.lst (placesV r))
  G : GenAt H g c
  B : But g H0 H
theorem Facts4.same {H0 H H' : Hp} {g D m fe v : Addr} {ps : List (Nat × Int)} {r due : List Nat} {c : Nat} (F : Facts4 H0 g D m fe v ps r due c H) (s : Same H H') : Facts4 H0 g D m fe v ps r due c H' :=
  ⟨F.pr.same s, F.fe.same s, s _ _ F.du, s _ _ F.ro, F.G.same s, F.B.trans (.same s)⟩
theorem due_get {n : Nat} {r : List Nat} (h : ∀ p ∈ r, p < n) : (ends (List.range n) (backL n r)).map (fun i => (ends (List.range n) r).getD i 0) = List.range n := by
  have hl : ∀ p ∈ r, p < (List.range n).length := fun p hp => by rw [List.length_range]; exact h p hp
  have e0 : (ends (List.range n) r).length = n := by rw [ends_len hl, List.length_range]
  have e1 : (List.range n).map (fun i => (ends (List.range n) r).getD i 0) = ends (List.range n) r := by
    have := range_get (ends (List.range n) r)
    rw [e0] at this
    exact this
  rw [← ends_map, e1]
  have := back_ends hl
  rw [List.length_range] at this
  exact this
end Sw
namespace Sw
open PySem PySem.Spec PyProof.Rows L2
/-- a test that two lists of places are alike, which they are -/
theorem eq_places {K : PySem.W.Frag} {H : Hp} {a b : Addr} {ns : List Nat} {Q : VK} (ha : SqL K H a (placesV ns)) (hb : SqL K H b (placesV ns)) (q : Q (.bl true) H) : rEqD K (.ref a) (.ref b) H Q := by
  refine ⟨_, _, .lst ha (places_dp ns), .lst hb (places_dp ns), places_shaped ns, places_shaped ns, ?_⟩
  rw [places_eqv]
  exact q
end Sw
/-! Defs that are entered while no repr runs: what repr of data needs of its surroundings, carried from call to call. -/
namespace Sw
open PySem PySem.Spec PyProof.Rows L2
/-- no repr of a container is under way -/
def Calm (A : Around) : Prop := A.guards = some []
section
variable {CX : CXT} {P : Program} {w : World} {K : PySem.W.Frag} {mg : Str → Option Value} {base : Heap}
/-- one entry of a def, by its body at just this entry -/
theorem enter_at {k : Nat} {f : Addr} {name qual : Str} {params : Arguments} {body : List Stmt} {scope : Scope} {dV kV doc pm cdv ct oc : Value} {an od : Option Addr} {osl : Array (Option Value)} {N ps : List Str}
    {A : Around} {outer : List Env} {s : Shared} {H : Hp} {args : Args} {us : List Value} {vs : List V} {Q : VK} {E : XK} {t : TS}
    (lk : K.lookup f = some ⟨oc, od, .func (PySem.W.fnOf name qual params body scope dV kV doc pm an cdv ct), osl⟩) (hcd : PySem.W.codeIn K cdv qual = true) (S : FnScope N ps scope) (hl : vs.length = ps.length)
    (hr : Room (k + 1) A) (e0 : Env0 P w K mg base A outer s H) (hb : BindsTo s (PySem.W.fnOf name qual params body scope dV kV doc pm an cdv ct) args (ps.zip us)) (r : Vals vs us)
    (ht : PSs (cxOf CX P w K mg base N qual scope f cdv A outer s H E) body t) (hq : t { nx := fun _ H' => Q .non H', rt := Q } (start N vs) H) :
    codeAny (model P w) A (.call (.ref f) args) (CR CX outer P w H s Q E) s := by
  have kept : ∀ b o, base.get? b = some o → s.heap.get? b = some o := fun b o e => (e0.bs b o e).1
  have KX := e0.mod.kin.keeps kept
  refine codeAny_call_function hr.depth (KX _ _ lk) rfl S.co S.gen rfl (PySem.W.codeRec_of KX hcd) (hb _ _ _ _ (wpAny_newFunctionEnv_cells S.kind (fun y hy => ?_) fun env he s1 x => ?_))
  · have hm : y.1 ∈ ps := (List.of_mem_zip (show (y.1, y.2) ∈ ps.zip us from hy)).1
    cases S.par y.1 hm with
    | inl q => exact .inl q
    | inr q => exact .inr ⟨q, PySem.W.cellsFrom_some _ _ _ (.inl q)⟩
  · subst he
    refine ⟨(e0.mod.nolimit.keeps kept).keeps x.toInCall.keep, codeAny_func ?_⟩
    refine wpAny_mono (ht.run [] s1 (start N vs) H _ (inv_start S hr.hd e0 hl r x) hq) (fun fl s' hs => ?_) fun _ _ hs => hs
    match fl, hs with
    | .ret u, hs =>
      obtain ⟨v, σ', H', J, rv, q⟩ := hs
      exact ⟨v, H', J.os, J.bare, J.base, J.hok, rv, q⟩
    | .next, hs =>
      obtain ⟨σ', H', J, q⟩ := hs
      exact ⟨V.non, H', J.os, J.bare, J.base, J.hok, rfl, q⟩
    | .brk, hs => exact hs.elim fun _ hs => hs.elim fun _ hs => hs.2.elim
    | .cont, hs => exact hs.elim fun _ hs => hs.elim fun _ hs => hs.2.elim
end
/-- a def's promise where no repr is under way -/
structure FnC (P : Program) (w : World) (K : PySem.W.Frag) (mg : Str → Option Value) (base : Heap) (CX : CXT) (k : Nat) (f : Addr) (fd : FuncData) (ps : List Str) (sp : Sp) : Prop where
  len : ∀ vs H Q E, sp vs H Q E → vs.length = ps.length
  run : ∀ (A : Around) (outer : List Env) (s : Shared) (H : Hp) (args : Args) (us : List Value) (vs : List V) (Q : VK) (E : XK), Room k A → Calm A → Env0 P w K mg base A outer s H → BindsTo s fd args (ps.zip us) → Vals vs us → sp vs H Q E →
    codeAny (model P w) A (.call (.ref f) args) (CR CX outer P w H s Q E) s
section
variable {CX : CXT} {P : Program} {w : World} {K : PySem.W.Frag} {mg : Str → Option Value} {base : Heap} {k : Nat} {f : Addr} {fd : FuncData} {ps : List Str} {sp : Sp}
theorem FnC.of (F : FnOk P w K mg base CX k f fd ps sp) : FnC P w K mg base CX k f fd ps sp := ⟨F.len, fun A outer s H args us vs Q E hr _ => F.run A outer s H args us vs Q E hr⟩
theorem calm_deeper {A : Around} {env : Env} (h : Calm A) : Calm (A.deeper env) := h
/-- the rule for a def, in such surroundings -/
theorem okC {x qual : Str} {st : Stmt} {N : List Str} (F : Fun K x qual st f fd) (S : FnScope N ps (defScope st)) (len : ∀ vs H Q E, sp vs H Q E → vs.length = ps.length)
    (hbody : ∀ (cdv : Value) (A : Around) (outer : List Env) (s : Shared) (H : Hp) (vs : List V) (Q : VK) (E : XK), Room k (A.deeper (envOfC qual (defScope st) s.heap.objs.size f cdv)) → Calm (A.deeper (envOfC qual (defScope st) s.heap.objs.size f cdv)) → sp vs H Q E →
      ∃ t, PSs (cxOf CX0 P w K mg base N qual (defScope st) f cdv A outer s H E).nox (defBody st) t ∧ t { nx := fun _ H' => Q .non H', rt := Q } (start N vs) H) : FnC P w K mg base CX0 (k + 1) f fd ps sp := by
  obtain ⟨oc, od, kV, doc, pm, an, cdv, ct, osl, rfl, lk, hcd⟩ := F.ex
  refine ⟨len, fun A outer s H args us vs Q E hr hc e0 hb r hsp => ?_⟩
  obtain ⟨t, h, q⟩ := hbody cdv A outer s H vs Q E (hr.deeper _) (calm_deeper hc) hsp
  exact enter_at lk hcd S (len _ _ _ _ hsp) hr e0 hb r h.nox q
end
/-! ### calls of such defs -/
section
variable {X : Cx} {CX : CXT} {k n : Nat} {f : Addr} {fd : FuncData} {ps ks : List Str} {sp : Sp} {E : XK} {x : Str} {p pos : Pos} {e : Expr} {es : List Expr} {kws : List Keyword} {t tk : TA} {ds : List Value} {dvs : List V} {g : List Value → List Value → List Value} {gV : List V → List V → List V}
theorem runC {pins : List (Addr × Obj)} {σ : L2.St} {H : Hp} {s : Shared} {Q : VK} {args : Args} {us : List Value} {vs : List V} (F : FnC X.prog X.w X.K X.mg X.base CX k f fd ps sp) (hr : Room k X.A) (hc : Calm X.A) (hx : Passes CX X E)
    (I : Inv X pins σ H s) (hb : BindsTo s fd args (ps.zip us)) (r : Vals vs us) (h : sp vs H Q E) : codeAny (model X.prog X.w) X.A (.call (.ref f) args) (fun r s' => match r with | .ok (.ret u) => EP X pins σ Q u s' | .ok _ => False | .error e => X.xe e s') s := by
  refine codeAny_mono (F.run X.A X.stack s H args us vs Q E hr hc I.env0 hb r h) fun z s' hq => ?_
  match z, hq with
  | .error e, hq => exact hx pins σ H s e s' I hq
  | .ok (.ret u), hq => exact I.after hq
  | .ok .next, hq => exact hq
  | .ok .brk, hq => exact hq
  | .ok .cont, hq => exact hq
theorem call_of {M : Model} {A : Around} {E : Value → Shared → Prop} {Q : Value → Shared → Prop} {s : Shared} {f : Value} {us : List Value} {kw : List (Str × Value)}
    (h : codeAny M A (.call f ⟨us, kw⟩) (fun r s' => match r with | .ok (.ret u) => Q u s' | .ok _ => False | .error e => E e s') s) : wpAny M A (call f us kw) Q E s := by
  refine wpAny_call (codeAny_mono h fun z s' hq => ?_)
  match z, hq with
  | .error e, hq => exact hq
  | .ok (.ret u), hq => exact hq
theorem pe_callC (F : FnC X.prog X.w X.K X.mg X.base CX k f fd ps sp) (hr : Room k X.A) (hc : Calm X.A) (hg : Gl X x) (hm : X.mg x = some (.ref f)) (hk : PySem.W.keepIn X.K (.ref f) = true) (hb : Binds X.K fd ps ds) (hd : Vals dvs ds) (hx : Passes CX X E)
    (ha : PA X (e :: es) t) (hdb : (x == ("__debug__" : Str)) = false := by decide) (he : starEach (e :: es) X.env = (false, eval e X.env) :: starEach es X.env := by rfl) (hpl : (backTo pos (starEach es X.env)).any (·.1) = false := by rfl) :
    PE X (.Call (.Name x p) (e :: es) [] pos) (tCall sp dvs E t) := by
  refine ⟨fun pins s σ H Q I h => wpAny_Call_Name_kw (ld_glob I hg hm ?_ hdb)⟩
  refine PySem.W.callWith_K (h₀ := X.base) I.ok.mod.kin hk (thn (ha.run pos pins s σ H _ I h) fun us s1 ⟨vs, H1, I1, r, q⟩ => ⟨I1.kIn, call_of ?_⟩) he hpl
  have r2 : Vals (vs ++ dvs) (us ++ ds) := r.append hd
  exact runC F hr hc hx I1 (hb s1 us I1.kIn (by rw [← r2.length]; exact F.len _ _ _ _ q)) r2 q
theorem pe_callNC (F : FnC X.prog X.w X.K X.mg X.base CX k f fd ps sp) (hr : Room k X.A) (hc : Calm X.A) (hg : Gl X x) (hm : X.mg x = some (.ref f)) (hk : PySem.W.keepIn X.K (.ref f) = true) (hb : KBn X.K fd ps 0 ks g gV) (hx : Passes CX X E) (hkw : PK X kws tk)
    (hall : (backToKw pos (keywordEach kws X.env)).all (·.1.isSome) = true := by rfl) (hks : (backToKw pos (keywordEach kws X.env)).filterMap (·.1) = ks := by rfl) (hdb : (x == ("__debug__" : Str)) = false := by decide)
    (hpl : ((backTo pos (starEach [] X.env)).any (·.1) || (backToKw pos (keywordEach kws X.env)).any (·.1.isNone)) = false := by rfl) :
    PE X (.Call (.Name x p) [] kws pos) (tCallN 0 ks.length sp gV E tNil tk) := by
  refine ⟨fun pins s σ H Q I h => wpAny_Call_Name_kw (ld_glob I hg hm ?_ hdb)⟩
  refine PySem.W.callWith_KW0 (h₀ := X.base) I.ok.mod.kin hk hall (thn (hkw.run pos pins s σ H _ I h) fun ws s2 ⟨zs, H2, I2, rz, l1, l2, q2⟩ => ⟨I2.kIn, call_of ?_⟩) hpl
  rw [hks]
  exact runC F hr hc hx I2 (hb.to s2 [] ws I2.kIn rfl (rz.length.symm.trans l2)) (hb.rel (vs := []) (us := []) .nil rz) q2
end
/-! ### repr of data -/
/-- repr(x), x data without a dict -/
theorem call_reprD {X : Cx} (hg : Calm X.A) (hu : X.A.units + 66 < cLine) : CallR X (.builtin "repr") (fun xs H Q => ∃ (a : Addr) (d : PyData), xs = [.ref a] ∧ Dp X.K H (.ref a) d ∧ d.showable = true ∧ d.hasDict = false ∧ d.depth ≤ 64 ∧ d.shown.length ≤ sizeLine ∧ Q (.str d.shown) H) := by
  intro pins s σ H xs us Q I r h
  obtain ⟨a, d, rfl, hd, sh, nd, dp, sz, q⟩ := h
  obtain ⟨u, rfl, rx⟩ := vals1 r
  obtain ⟨as, rd⟩ := Dp.reads I d _ _ hd rx
  obtain rfl : u = Value.ref a := rx
  exact repr_of_reads' rd sh (fun z => by rw [nd] at z; cases z) hg (by omega) (fun _ _ e => e) (fun h' u tk hk => ⟨.str d.shown, H, I.kept hk, ⟨_, rfl⟩, q⟩) sz
end Sw
namespace Sw
open PySem PySem.Spec PyProof.Rows L2
/-! ### the law's own call, entered in calm -/
/-- the state at the law's call: an abstract heap in which nothing but the script is told -/
theorem start_at {P : Program} {w : World} {K : PySem.W.Frag} {mg mb : Str → Option Value} {a : Addr} {s : Shared} {vs : List Value} {ns : List Int}
    (KX : K.In s.heap) (hns : s.heap.Ns mainGlobals mg) (hb : s.heap.Ns builtinsNs mb) (hbb : ∀ x : Str, x ≠ "__name__" → mb x = bootBuiltins x) (hlim : s.heap.NoLimit) (hg : s.gens = #[])
    (ha : s.heap.get? a = some { cls := .type "list", data := .seq vs.toArray }) (hi : IntsAre vs ns) (hl : ns.length ≤ sizeLine) :
    ∃ (H : Hp) (base : Heap), Only H ∧ SqL K H a (ns.map V.int) ∧ K.In base ∧ base.Ns mainGlobals mg ∧ Env0 P w K mg base callerA [] s H := by
  have rv := vals_ints hi
  have bare : AllBare s.gens := .of_eq hg
  have nofrs : ∀ {H : Hp}, ∀ b ∈ frs ([] : List Env), H b = none := fun b hb => by cases hb
  cases hk : K.lookup a with
  | some o =>
    obtain rfl : { cls := .type "list", data := .seq vs.toArray } = o := Option.some.inj (ha.symm.trans (KX a o hk))
    refine ⟨fun _ => none, s.heap, fun _ => .inl rfl, .inr ⟨_, vs.toArray, _, hk, rfl, rfl, rfl, by rw [List.size_toArray, hi.length]; exact hl, by simpa using rv⟩, KX, hns, ?_⟩
    exact ⟨rfl, ⟨KX, hns, ⟨mb, hb, hbb⟩, hlim⟩, fun b o e => ⟨e, rfl⟩, Nat.le_refl _, trivial, nofrs, (fun b u z => by cases z), bare⟩
  | none =>
    let H : Hp := fun b => if b = a then some (.frz { cls := .type "list", data := .seq vs.toArray } (.lst (ns.map V.int))) else none
    have Ha : H a = some (.frz { cls := .type "list", data := .seq vs.toArray } (.lst (ns.map V.int))) := if_pos rfl
    have Hn : ∀ b, b ≠ a → H b = none := fun b h => if_neg h
    have ns_hid : ∀ {b : Addr} {m : Str → Option Value}, s.heap.Ns b m → (hidT s.heap H).Ns b m := fun {b m} q => by
      obtain ⟨o, es, ep, e, d, z⟩ := q
      refine ⟨o, es, ep, hidT_get e (Hn b fun y => ?_), d, z⟩
      rw [y, ha] at e
      cases e
      cases d
    have k_hid : K.In (hidT s.heap H) := fun b o e => hidT_get (KX b o e) (Hn b fun y => by rw [y, hk] at e; cases e)
    refine ⟨H, hidT s.heap H, fun b => ?_, .inl (.inr ⟨_, Ha⟩), k_hid, ns_hid hns, ⟨rfl, ⟨k_hid, ns_hid hns, ⟨mb, ns_hid hb, hbb⟩, ?_⟩, fun b o e => of_hidT e, Nat.le_of_eq (hidT_size _ _), trivial, nofrs, fun b u z => ?_, bare⟩⟩
    · by_cases y : b = a
      · exact .inr ⟨_, _, by rw [y]; exact Ha⟩
      · exact .inl (Hn b y)
    · obtain ⟨mc, h1, h2⟩ := hlim
      exact ⟨mc, ns_hid h1, h2⟩
    · by_cases y : b = a
      · subst y
        rw [Ha] at z
        cases z
        exact ⟨ha, by rw [List.length_map]; exact hl, vs, _, rv, ha⟩
      · rw [Hn b y] at z
        cases z
theorem walkC {l : PySem.W.OpenLaw} {n k : Nat} {q : Program} {loose : List Str} {XP : (Str → Option Value) → Heap → Prop} {YP : World → Heap → Prop} {d : DefRec} {K : Params → PySem.W.Frag} {sp : World → Sp} {x : Str}
    (hn : l.most = some n) (hn2 : n ≤ sizeLine) (hdf : d.params.defaults = []) (hr : Room k callerA) (hY : ∀ (w : World) (h : Heap), YP w h → (K w.params).In h)
    (F : ∀ (w : World) (mg : Str → Option Value) (fa : Addr) (h : Heap), (K w.params).In h → h.Ns mainGlobals mg → mg d.name = some (.ref fa) →
      ∃ fd : FuncData, (∀ (s : Shared) (u : Value), BindsTo s fd ⟨[u], []⟩ [(x, u)]) ∧ ∀ base : Heap, (K w.params).In base → base.Ns mainGlobals mg → FnC l.prog w (K w.params) mg base CX0 k fa fd [x] (sp w))
    (hsp : ∀ (w : World) (H : Hp) (a : Addr) (ns : List Int), ns.length ≤ n → Only H → SqL (K w.params) H a (ns.map V.int) → sp w [.ref a] H (fun v _ => v = .bl true) fun _ _ _ => False) :
    PySem.W.WalkO q loose XP YP l.row.toRowW d [] (fun f vs => PySem.call f vs) := by
  refine Att.attach_call hn hdf fun w s₀ s mg mb fa o pm cd doc a vs ns G Y ho hd hcd hmg hobj hints hlen hg => ?_
  have KX := hY w _ Y
  obtain ⟨fd, hb, hF⟩ := F w mg fa _ KX G.T.g hmg
  obtain ⟨H, base, hO, hS, kb, nb, e0⟩ := start_at (P := l.prog) (w := w) KX G.T.g G.T.b G.T.builtins G.T.nolimit hg hobj hints (Nat.le_trans hlen hn2)
  refine codeAny_mono ((hF base kb nb).run callerA [] s H ⟨[.ref a], []⟩ [.ref a] [.ref a] _ _ hr rfl e0 (hb s (.ref a)) (.cons rfl .nil) (hsp w H a ns hlen hO hS)) fun r s' h => ?_
  match r, h with
  | .error e, h => exact h.elim
  | .ok (.ret u), h =>
    obtain ⟨v, H', os, bare, un, hok', r', rfl⟩ := h
    obtain rfl : u = Value.bool true := r'
    refine ⟨rfl, OldK.of_keep fun b o e => ?_, os, bare⟩
    rcases hO b with z | ⟨ob, xs, z⟩
    · exact un.keep b o e z (fun y => by cases y) (fun y => by cases y)
    · have h1 := (e0.hok b _ z).1
      have h2 := (hok' b _ (un.frzs b ob _ z)).1
      rw [e] at h1
      cases h1
      exact h2
end Sw
/-! Values of any kind where a road is asked for. -/
namespace Sw
open PySem PySem.Spec PyProof.Rows L2
/-- an item of a list: a whole number, or something that is none -/
inductive Item (H : Hp) : V → Option Int → Prop
  | int (i : Int) : Item H (.int i) (some i)
  | bl (b : Bool) : Item H (.bl b) none
  | non : Item H .non none
  | str (s : Str) : Item H (.str s) none
  | tup {a : Addr} {xs : List V} : H a = some (.tup xs) → Item H (.ref a) none
  | lst {a : Addr} {xs : List V} : H a = some (.lst xs) → Item H (.ref a) none
theorem Item.same {H H' : Hp} {v : V} {o : Option Int} (s : Same H H') (h : Item H v o) : Item H' v o := by
  cases h with
  | int i => exact .int i
  | bl b => exact .bl b
  | non => exact .non
  | str x => exact .str x
  | tup h => exact .tup (s _ _ h)
  | lst h => exact .lst (s _ _ h)
/-- the items of a list, in order -/
def Items (H : Hp) (xs : List V) (os : List (Option Int)) : Prop := xs.length = os.length ∧ ∀ (i : Nat) (x : V), xs[i]? = some x → ∃ o, os[i]? = some o ∧ Item H x o
theorem Items.same {H H' : Hp} {xs : List V} {os : List (Option Int)} (s : Same H H') (h : Items H xs os) : Items H' xs os :=
  ⟨h.1, fun i x e => by obtain ⟨o, h1, h2⟩ := h.2 i x e; exact ⟨o, h1, h2.same s⟩⟩
theorem Items.nil {H : Hp} : Items H [] [] := ⟨rfl, fun i x e => by cases e⟩
theorem Items.cons {H : Hp} {x : V} {o : Option Int} {xs : List V} {os : List (Option Int)} (h : Item H x o) (t : Items H xs os) : Items H (x :: xs) (o :: os) := by
  refine ⟨by rw [List.length_cons, List.length_cons, t.1], fun i y e => ?_⟩
  cases i with
  | zero => cases e; exact ⟨o, rfl, h⟩
  | succ i => exact t.2 i y e
theorem Items.append {H : Hp} : ∀ {xs ys : List V} {os us : List (Option Int)}, Items H xs os → Items H ys us → Items H (xs ++ ys) (os ++ us)
  | [], ys, [], us, _, h => h
  | [], ys, o :: os, us, h, _ => by cases h.1
  | x :: xs, ys, [], us, h, _ => by cases h.1
  | x :: xs, ys, o :: os, us, h, g => by
    obtain ⟨p, hp, hi⟩ := h.2 0 x rfl
    cases hp
    exact .cons hi (Items.append ⟨Nat.succ.inj h.1, fun i y e => h.2 (i + 1) y e⟩ g)
theorem Items.ints {H : Hp} : ∀ (ns : List Int), Items H (ns.map V.int) (ns.map some)
  | [] => .nil
  | n :: ns => .cons (.int n) (Items.ints ns)
/-- a value of any kind: a list with its items, or something else -/
inductive Val (H : Hp) : V → Option (List (Option Int)) → Prop
  | lst {a : Addr} {xs : List V} {os : List (Option Int)} : H a = some (.lst xs) → Items H xs os → Val H (.ref a) (some os)
  | tup {a : Addr} {xs : List V} : H a = some (.tup xs) → Val H (.ref a) none
  | dic {a : Addr} {kvs : List (Key × V)} : H a = some (.dK kvs) → Val H (.ref a) none
  | int (i : Int) : Val H (.int i) none
  | bl (b : Bool) : Val H (.bl b) none
  | non : Val H .non none
  | str (s : Str) : Val H (.str s) none
theorem Val.same {H H' : Hp} {v : V} {o : Option (List (Option Int))} (s : Same H H') (h : Val H v o) : Val H' v o := by
  cases h with
  | lst h g => exact .lst (s _ _ h) (g.same s)
  | tup h => exact .tup (s _ _ h)
  | dic h => exact .dic (s _ _ h)
  | int i => exact .int i
  | bl b => exact .bl b
  | non => exact .non
  | str x => exact .str x
def cntB : Option Int → Bool
  | some i => decide (0 ≤ i)
  | none => false
/-- the place at which a deed is done, if the item is one -/
def placeO (l js : List Nat) : Option Int → Option Nat
  | some i => if 0 ≤ i then (match l[i.toNat]? with | some c => if c ∈ js then some i.toNat else none | none => none) else none
  | none => none
/-- whether the items are a road -/
def walkO (js : List Nat) : List Nat → List (Option Int) → Bool
  | _, [] => true
  | l, o :: os => match placeO l js o with | some p => walkO js (swapL l p) os | none => false
def roadB (js l : List Nat) : Option (List (Option Int)) → Bool
  | some os => walkO js l os
  | none => false
theorem placeO_lt {l js : List Nat} {o : Option Int} {p : Nat} (h : placeO l js o = some p) : ∃ c, o = some (p : Int) ∧ l[p]? = some c ∧ c ∈ js := by
  cases o with
  | none => cases h
  | some i =>
    replace h : (if 0 ≤ i then (match l[i.toNat]? with | some c => if c ∈ js then some i.toNat else none | none => none) else none) = some p := h
    split at h
    · split at h
      · rename_i c e
        split at h
        · rename_i hc
          cases h
          exact ⟨c, by rw [show ((i.toNat : Nat) : Int) = i by omega], e, hc⟩
        · cases h
      · cases h
    · cases h
theorem placeO_yes {l js : List Nat} {p c : Nat} (h : l[p]? = some c) (hm : c ∈ js) : placeO l js (some (p : Int)) = some p := by
  show (if 0 ≤ (p : Int) then (match l[(p : Int).toNat]? with | some c => if c ∈ js then some (p : Int).toNat else none | none => none) else none) = some p
  rw [if_pos (by omega), Int.toNat_natCast, h]
  exact if_pos hm
theorem placeO_not {l js : List Nat} {p c : Nat} (h : l[p]? = some c) (hm : ¬ c ∈ js) : placeO l js (some (p : Int)) = none := by
  show (if 0 ≤ (p : Int) then (match l[(p : Int).toNat]? with | some c => if c ∈ js then some (p : Int).toNat else none | none => none) else none) = none
  rw [if_pos (by omega), Int.toNat_natCast, h]
  exact if_neg hm
theorem placeO_far {l js : List Nat} {p : Nat} (h : l.length ≤ p) : placeO l js (some (p : Int)) = none := by
  show (if 0 ≤ (p : Int) then (match l[(p : Int).toNat]? with | some c => if c ∈ js then some (p : Int).toNat else none | none => none) else none) = none
  rw [if_pos (by omega), Int.toNat_natCast, List.getElem?_eq_none h]
theorem placeO_neg {l js : List Nat} {i : Int} (h : ¬ 0 ≤ i) : placeO l js (some i) = none := by
  show (if 0 ≤ i then (match l[i.toNat]? with | some c => if c ∈ js then some i.toNat else none | none => none) else none) = none
  rw [if_neg h]
theorem walkO_step {js l : List Nat} {os : List (Option Int)} {i p : Nat} {o : Option Int} (h : os[i]? = some o) (hp : placeO l js o = some p) : walkO js l (os.drop i) = walkO js (swapL l p) (os.drop (i + 1)) := by
  obtain ⟨hi, rfl⟩ := List.getElem?_eq_some_iff.mp h
  rw [List.drop_eq_getElem_cons hi]
  show (match placeO l js os[i] with | some p => walkO js (swapL l p) (os.drop (i + 1)) | none => false) = _
  rw [hp]
theorem walkO_stop {js l : List Nat} {os : List (Option Int)} {i : Nat} {o : Option Int} (h : os[i]? = some o) (hp : placeO l js o = none) : walkO js l (os.drop i) = false := by
  obtain ⟨hi, rfl⟩ := List.getElem?_eq_some_iff.mp h
  rw [List.drop_eq_getElem_cons hi]
  show (match placeO l js os[i] with | some p => walkO js (swapL l p) (os.drop (i + 1)) | none => false) = _
  rw [hp]
theorem walkO_end {js l : List Nat} {os : List (Option Int)} : walkO js l (os.drop os.length) = true := by
  rw [List.drop_length]
  rfl
theorem atI_snoc {xs : List V} {x : V} : atI (xs ++ [x]) (-1) = some x := by
  refine at_last ?_
  rw [List.length_append]
  simp
theorem atI_len {xs : List V} {x : V} : atI (xs ++ [x]) ((((xs ++ [x]).length : Nat) : Int) - 1) = some x := by
  unfold atI ixN
  rw [List.length_append]
  have e : ((xs.length + [x].length : Nat) : Int) - 1 = (xs.length : Int) := by simp
  rw [e, if_pos (by omega), if_pos (by simp; omega)]
  show (xs ++ [x])[((xs.length : Nat) : Int).toNat]? = some x
  simp
end Sw
/-! repr of a value of any kind, where no repr is under way -/
namespace Sw
open PySem PySem.Spec PyProof.Rows L2
/-- what repr tells of a value -/
inductive Rp (K : PySem.W.Frag) (H : Hp) : V → Str → Prop
  | non : Rp K H .non (Str.ofString "None")
  | bl (b : Bool) : Rp K H (.bl b) (if b = true then Str.ofString "True" else Str.ofString "False")
  | int (i : Int) : i.natAbs.log2 < 1920 → Rp K H (.int i) (Str.ofString (toString i))
  | str (s : Str) : (reprText s).length ≤ sizeLine → Rp K H (.str s) (reprText s)
  | dic {a : Addr} : H a = some (.dK []) → Rp K H (.ref a) (PyData.dict []).shown
  | dk {a : Addr} {ps : List (Str × Int)} : H a = some (.dK (ps.map fun p => ((Sum.inr p.1 : Key), V.int p.2))) → (PyData.dict (ps.map fun p => (PyData.str p.1, PyData.int p.2))).showable = true → (PyData.dict (ps.map fun p => (PyData.str p.1, PyData.int p.2))).depth ≤ 2 → (PyData.dict (ps.map fun p => (PyData.str p.1, PyData.int p.2))).shown.length ≤ sizeLine → Rp K H (.ref a) (PyData.dict (ps.map fun p => (PyData.str p.1, PyData.int p.2))).shown
  | seq {a : Addr} {d : PyData} : Dp K H (.ref a) d → d.showable = true → d.hasDict = false → d.depth ≤ 62 → d.shown.length ≤ sizeLine → Rp K H (.ref a) d.shown
theorem sqL_same {K : PySem.W.Frag} {H H' : Hp} {a : Addr} {xs : List V} (s : Same H H') (h : SqL K H a xs) : SqL K H' a xs := by
  rcases h with (h | ⟨o, h⟩) | h
  · exact .inl (.inl (s _ _ h))
  · exact .inl (.inr ⟨o, s _ _ h⟩)
  · exact .inr h
theorem sqT_same {K : PySem.W.Frag} {H H' : Hp} {a : Addr} {xs : List V} (s : Same H H') (h : SqT K H a xs) : SqT K H' a xs := by
  rcases h with (h | ⟨o, h⟩) | h
  · exact .inl (.inl (s _ _ h))
  · exact .inl (.inr ⟨o, s _ _ h⟩)
  · exact .inr h
mutual
theorem dp_same {K : PySem.W.Frag} {H H' : Hp} (s : Same H H') : ∀ {d : PyData} {v : V}, Dp K H v d → Dp K H' v d
  | _, _, .non => .non
  | _, _, .bl b => .bl b
  | _, _, .int i => .int i
  | _, _, .str x => .str x
  | _, _, .lst h g => .lst (sqL_same s h) (dpAll_same s g)
  | _, _, .tup h g => .tup (sqT_same s h) (dpAll_same s g)
theorem dpAll_same {K : PySem.W.Frag} {H H' : Hp} (s : Same H H') : ∀ {ds : List PyData} {vs : List V}, DpAll K H vs ds → DpAll K H' vs ds
  | _, _, .nil => .nil
  | _, _, .cons h t => .cons (dp_same s h) (dpAll_same s t)
end
theorem Rp.same {K : PySem.W.Frag} {H H' : Hp} {v : V} {t : Str} (s : Same H H') (h : Rp K H v t) : Rp K H' v t := by
  cases h with
  | non => exact .non
  | bl b => exact .bl b
  | int i h => exact .int i h
  | str x h => exact .str x h
  | dic h => exact .dic (s _ _ h)
  | dk h h1 h2 h3 => exact .dk (s _ _ h) h1 h2 h3
  | seq d h1 h2 h3 h4 => exact .seq (dp_same s d) h1 h2 h3 h4
theorem reads_dk {P : Program} {w : World} {h : Heap} : ∀ {ps : List (Str × Int)} {vs : List (Key × Value)} {es : List DictEntry}, KV (ps.map fun p => ((Sum.inr p.1 : Key), V.int p.2)) vs → Pairs (mixKind P w) es vs →
    ReadsAll h (es.map (·.key)) ((ps.map fun p => (PyData.str p.1, PyData.int p.2)).map (·.1)) [] ∧ ReadsAll h (es.map (·.val)) ((ps.map fun p => (PyData.str p.1, PyData.int p.2)).map (·.2)) []
  | [], _, _, kv, pr => by
    cases kv
    cases pr
    exact ⟨.nil, .nil⟩
  | p :: ps, _, _, kv, pr => by
    rw [List.map_cons] at kv
    cases kv with
    | cons h1 t1 =>
      cases pr with
      | @cons e _ es' vs' h2 h3 t2 =>
        obtain ⟨a1, a2⟩ := h1
        obtain ⟨b1, b2⟩ := reads_dk (h := h) t1 t2
        rw [← a1] at h2
        obtain ⟨tk, a3⟩ := a2
        have hk : ∃ t, e.key = Value.str p.1 t := by
          rcases keyIs_shape (show keyIs (Sum.inr p.1) e.key = true from h2) with ⟨i, t, e1, _⟩ | ⟨x, t, e1, e2⟩
          · cases e1
          · cases e1
            exact ⟨t, e2⟩
        obtain ⟨tt, hk⟩ := hk
        rw [List.map_cons, List.map_cons, List.map_cons, List.map_cons, List.map_cons]
        refine ⟨?_, ?_⟩
        · have r1 : Reads h e.key (PyData.str p.1) [] := by rw [hk]; exact .str _ _
          exact .cons r1 b1
        · have r1 : Reads h e.val (PyData.int p.2) [] := by rw [h3, a3]; exact .int _ _
          exact .cons r1 b2
/-- repr(x) -/
theorem call_reprV {X : Cx} (hg : Calm X.A) (hu : X.A.units + 64 < cLine) : CallR X (.builtin "repr") (fun xs H Q => ∃ (v : V) (t : Str), xs = [v] ∧ Rp X.K H v t ∧ Q (.str t) H) := by
  intro pins s σ H xs us Q I r h
  obtain ⟨v, t, rfl, hr, q⟩ := h
  obtain ⟨u, rfl, rx⟩ := vals1 r
  cases hr with
  | non =>
    obtain rfl : u = Value.none := rx
    exact PySem.P.repr_of_none ⟨.str _, H, I.kept (fun _ _ e => e), ⟨_, rfl⟩, q⟩
  | bl b =>
    obtain rfl : u = Value.bool b := rx
    exact PySem.P.repr_of_bool ⟨.str _, H, I.kept (fun _ _ e => e), ⟨_, rfl⟩, q⟩
  | int i hi =>
    obtain ⟨t, rfl⟩ : ∃ t, u = Value.int i t := rx
    exact PySem.P.repr_of_int hi ⟨.str _, H, I.kept (fun _ _ e => e), ⟨_, rfl⟩, q⟩
  | str x hx =>
    obtain ⟨t, rfl⟩ : ∃ t, u = Value.str x t := rx
    exact PySem.P.repr_of_str ⟨.str _, H, I.kept (fun _ _ e => e), ⟨_, rfl⟩, q⟩ hx
  | @dic a ha =>
    obtain rfl : u = Value.ref a := rx
    have ok := I.hok a _ ha
    obtain ⟨_, low, vs, kv, o, es, ep, e, ex, ed, _, pr, _⟩ := ok
    cases kv
    have hes : es.toList = [] := by
      cases hl : es.toList with
      | nil => rfl
      | cons y ys => rw [hl] at pr; cases pr
    have rd : Reads s.heap (.ref a) (.dict []) ([a] ++ []) := .dict e ex.1 ed (by rw [hes]; exact .nil) (by rw [hes]; exact .nil)
    exact repr_of_reads' rd rfl (fun _ m => by
      rw [List.mem_singleton.mp m, beq_self_eq_true] at low
      cases low) hg (by show X.A.units + ((PyData.dict []).depth + 1) < cLine; have : (PyData.dict []).depth ≤ 2 := by decide
                        omega) (fun _ _ e => e) (fun h' u tk hk => ⟨.str _, H, I.kept hk, ⟨_, rfl⟩, q⟩) (by decide +kernel)
  | @dk a ps ha sh dp sz =>
    obtain rfl : u = Value.ref a := rx
    have ok := I.hok a _ ha
    obtain ⟨_, low, vs, kv, o, es, ep, e, ex, ed, _, pr, _⟩ := ok
    obtain ⟨r1, r2⟩ := reads_dk (h := s.heap) kv pr
    have rd : Reads s.heap (.ref a) (.dict (ps.map fun p => (PyData.str p.1, PyData.int p.2))) ([a] ++ []) := .dict e ex.1 ed r1 r2
    exact repr_of_reads' rd sh (fun _ m => by
      rw [List.mem_singleton.mp m, beq_self_eq_true] at low
      cases low) hg (by show X.A.units + ((PyData.dict _).depth + 1) < cLine; omega) (fun _ _ e => e) (fun h' u tk hk => ⟨.str _, H, I.kept hk, ⟨_, rfl⟩, q⟩) sz
  | @seq a d hd sh nd dp sz =>
    obtain ⟨as, rd⟩ := Dp.reads I d _ _ hd rx
    obtain rfl : u = Value.ref a := rx
    exact repr_of_reads' rd sh (fun z => by rw [nd] at z; cases z) hg (by omega) (fun _ _ e => e) (fun h' u tk hk => ⟨.str d.shown, H, I.kept hk, ⟨_, rfl⟩, q⟩) sz
end Sw

namespace Sw
open PySem PySem.Spec PyProof.Rows L2
/-! ### xs[::step], step reckoned to -1 -/
def tRevS (K : PySem.W.Frag) (te ts : TE) : TE := fun σ H Q => te σ H fun x H1 => ∃ (a : Addr) (xs : List V), x = .ref a ∧ tPart ts σ H1 fun o H2 => o = some (-1) ∧ SqL K H2 a xs ∧ ∀ p, H2 p = none → Q (.ref p) (upd H2 p (.lst xs.reverse))
theorem pe_revS {X : Cx} {e st : PySem.Expr} {te ts : TE} {p3 pos : Pos} (he : PE X e te) (hs : PE X st ts) : PE X (.Subscript e (.Slice none none (some st) p3) pos) (tRevS X.K te ts) := by
  refine ⟨fun pins s σ H Q I h => Subscript_ (thn (he.run pins s σ H _ I h) fun v s1 ⟨x, H1, I1, r1, q1⟩ => ?_)⟩
  obtain ⟨a, xs, rfl, q⟩ := q1
  obtain rfl : v = .ref a := r1
  refine wpAny_Slice (thn (po_none.run pins s1 σ H1 (fun o H2 => o = none ∧ H2 = H1) I1 ⟨rfl, rfl⟩) fun vl s2 ⟨l, H2, I2, pl, el, e2⟩ => ?_)
  subst el e2
  refine thn (po_none.run pins s2 σ H2 (fun o H3 => o = none ∧ H3 = H2) I2 ⟨rfl, rfl⟩) fun vu s3 ⟨u, H3, I3, pu, eu, e3⟩ => ?_
  subst eu e3
  refine thn ((po_some hs).run pins s3 σ H3 _ I3 q) fun vs s4 ⟨o, H4, I4, ps, eo, hx, q4⟩ => ?_
  subst eo
  have I5 := I4.kept (t' := s4.toks) (fun b ob q => Heap.get?_push_of_some { cls := Value.type "slice", data := Data.fields #[vl, vu, vs] } q)
  obtain ⟨its, r, ht, hz⟩ := I5.list hx
  have hlen := r.length
  refine tail_any (PlainL.isList ht).typeIs slot_list_getitem.lookup (wpAny_getItem_list_slice (PlainL.isList ht) (Heap.IsSliceOf.new s4.heap vl vu vs) pl pu ps (by decide) ?_ ?_) rfl
  · rw [PySem.W.krv_pick]
    refine ⟨.ref _, _, I5.laid (o := HO.lst xs.reverse) (fun b ob q => Heap.get?_push_of_some _ q) (Nat.le_refl _) ⟨by rw [List.length_reverse]; exact hz, its.reverse, 0, r.reverse, Heap.get?_push_size _ rfl⟩, rfl, q4 _ (HOk.fresh I5.hok (Nat.le_refl _))⟩
  · rw [List.size_toArray]; omega
end Sw
/-! Data short enough for repr; values of any kind with what repr tells of them. -/
namespace Sw
open PySem PySem.Spec PyProof.Rows L2
structure Short (D W : Nat) (d : PyData) : Prop where
  sh : d.showable = true
  nd : d.hasDict = false
  dp : d.depth ≤ D
  wt : d.weight ≤ W
  lv : PyData.leavesShort 13 d = true
structure ShortAll (D W : Nat) (ds : List PyData) : Prop where
  sh : PyData.showableAll ds = true
  nd : PyData.hasDictAll ds = false
  dp : PyData.depthAll ds ≤ D
  wt : PyData.weightAll ds ≤ ds.length * (W + 1)
  lv : PyData.leavesShortAll 13 ds = true
theorem Short.all {D W : Nat} : ∀ {ds : List PyData}, (∀ d ∈ ds, Short D W d) → ShortAll D W ds
  | [], _ => ⟨rfl, rfl, Nat.zero_le _, Nat.zero_le _, rfl⟩
  | d :: ds, h => by
    have a := h d List.mem_cons_self
    have b := Short.all (ds := ds) fun y hy => h y (List.mem_cons_of_mem _ hy)
    refine ⟨?_, ?_, ?_, ?_, ?_⟩
    · show (d.showable && PyData.showableAll ds) = true
      rw [a.sh, b.sh]; rfl
    · show (d.hasDict || PyData.hasDictAll ds) = false
      rw [a.nd, b.nd]; rfl
    · exact Nat.max_le.mpr ⟨a.dp, b.dp⟩
    · show d.weight + 1 + PyData.weightAll ds ≤ (ds.length + 1) * (W + 1)
      have := a.wt
      have := b.wt
      rw [Nat.add_mul, Nat.one_mul]
      omega
    · show (PyData.leavesShort 13 d && PyData.leavesShortAll 13 ds) = true
      rw [a.lv, b.lv]; rfl
theorem Short.list {D W : Nat} {ds : List PyData} (h : ∀ d ∈ ds, Short D W d) : Short (D + 1) (ds.length * (W + 1)) (.list ds) :=
  have a := Short.all h
  ⟨a.sh, a.nd, Nat.succ_le_succ a.dp, a.wt, a.lv⟩
theorem Short.tup {D W : Nat} {ds : List PyData} (h : ∀ d ∈ ds, Short D W d) : Short (D + 1) (ds.length * (W + 1)) (.tuple ds) :=
  have a := Short.all h
  ⟨a.sh, a.nd, Nat.succ_le_succ a.dp, a.wt, a.lv⟩
theorem Short.mono {D W E X : Nat} {d : PyData} (h : Short D W d) (e : D ≤ E) (x : W ≤ X) : Short E X d := ⟨h.sh, h.nd, Nat.le_trans h.dp e, Nat.le_trans h.wt x, h.lv⟩
theorem Short.non : Short 0 0 .none := ⟨rfl, rfl, Nat.le_refl _, Nat.le_refl _, by decide +kernel⟩
theorem Short.bl (b : Bool) : Short 0 0 (.bool b) := by cases b <;> exact ⟨rfl, rfl, Nat.le_refl _, Nat.le_refl _, by decide +kernel⟩
theorem Short.int {i : Int} (h : i.natAbs ≤ 99999) : Short 0 17 (.int i) := by
  have hl : i.natAbs.log2 ≤ 16 := by
    by_cases z : i.natAbs = 0
    · rw [z]; decide
    · have := (Nat.log2_lt z (k := 17)).mpr (by omega)
      omega
  refine ⟨decide_eq_true (Nat.lt_of_le_of_lt hl (by decide)), rfl, Nat.le_refl _, ?_, ?_⟩
  · show (if (i == 0) = true then 0 else i.natAbs.log2 + 1) ≤ 17
    split <;> omega
  · refine decide_eq_true ?_
    exact PyData.shown_int_le (Nat.lt_of_le_of_lt h (by decide))
theorem Short.rp {K : PySem.W.Frag} {H : Hp} {a : Addr} {d : PyData} (h : Short 60 (2 ^ 20) d) (p : Dp K H (.ref a) d) : Rp K H (.ref a) d.shown :=
  .seq p h.sh h.nd (Nat.le_trans h.dp (by decide)) (PyData.shown_fits (B := 13) (by decide) (by decide) h.lv h.wt)
/-- items with their data -/
def Its (K : PySem.W.Frag) (H : Hp) (xs : List V) (os : List (Option Int)) : Prop := Items H xs os ∧ ∃ ds, DpAll K H xs ds ∧ ds.length = xs.length ∧ ∀ d ∈ ds, Short 2 2000 d
theorem Its.nil {K : PySem.W.Frag} {H : Hp} : Its K H [] [] := ⟨.nil, [], .nil, rfl, fun _ h => by cases h⟩
theorem Its.cons {K : PySem.W.Frag} {H : Hp} {x : V} {o : Option Int} {d : PyData} {xs : List V} {os : List (Option Int)} (h : Item H x o) (p : Dp K H x d) (s : Short 2 2000 d) (t : Its K H xs os) : Its K H (x :: xs) (o :: os) := by
  obtain ⟨t1, ds, t2, t3, t4⟩ := t
  refine ⟨.cons h t1, d :: ds, .cons p t2, by rw [List.length_cons, List.length_cons, t3], fun y hy => ?_⟩
  rcases List.mem_cons.mp hy with rfl | hy
  · exact s
  · exact t4 y hy
theorem dpAll_append {K : PySem.W.Frag} {H : Hp} : ∀ {xs ys : List V} {ds es : List PyData}, DpAll K H xs ds → DpAll K H ys es → DpAll K H (xs ++ ys) (ds ++ es)
  | _, _, _, _, .nil, h => h
  | _, _, _, _, .cons h t, g => .cons h (dpAll_append t g)
theorem Its.append {K : PySem.W.Frag} {H : Hp} {xs ys : List V} {os us : List (Option Int)} (h : Its K H xs os) (g : Its K H ys us) : Its K H (xs ++ ys) (os ++ us) := by
  obtain ⟨h1, ds, h2, h3, h4⟩ := h
  obtain ⟨g1, es, g2, g3, g4⟩ := g
  refine ⟨h1.append g1, ds ++ es, dpAll_append h2 g2, by rw [List.length_append, List.length_append, h3, g3], fun d hd => ?_⟩
  rcases List.mem_append.mp hd with hd | hd
  · exact h4 d hd
  · exact g4 d hd
theorem Its.same {K : PySem.W.Frag} {H H' : Hp} {xs : List V} {os : List (Option Int)} (s : Same H H') (h : Its K H xs os) : Its K H' xs os := by
  obtain ⟨h1, ds, h2, h3, h4⟩ := h
  exact ⟨h1.same s, ds, dpAll_same s h2, h3, h4⟩
theorem Its.ints {K : PySem.W.Frag} {H : Hp} : ∀ {ns : List Int}, (∀ n ∈ ns, n.natAbs ≤ 99999) → Its K H (ns.map V.int) (ns.map some)
  | [], _ => .nil
  | n :: ns, h => .cons (.int n) (.int n) ((Short.int (h n List.mem_cons_self)).mono (by decide) (by decide)) (Its.ints fun y hy => h y (List.mem_cons_of_mem _ hy))
theorem Its.places {K : PySem.W.Frag} {H : Hp} : ∀ {ns : List Nat}, (∀ n ∈ ns, n ≤ 99999) → Its K H (placesV ns) (ns.map fun p : Nat => some (p : Int))
  | [], _ => .nil
  | n :: ns, h => .cons (.int n) (.int n) ((Short.int (by have := h n List.mem_cons_self; omega)).mono (by decide) (by decide)) (Its.places fun y hy => h y (List.mem_cons_of_mem _ hy))
/-- a value of any kind, with what repr tells of it -/
def Fine (K : PySem.W.Frag) (H : Hp) (v : V) : Prop := ∃ (o : Option (List (Option Int))) (t : Str), Val H v o ∧ Rp K H v t ∧ ∀ os, o = some os → os.length ≤ 50000
theorem Fine.same {K : PySem.W.Frag} {H H' : Hp} {v : V} (s : Same H H') (h : Fine K H v) : Fine K H' v := by
  obtain ⟨o, t, h1, h2, h3⟩ := h
  exact ⟨o, t, h1.same s, h2.same s, h3⟩
theorem Its.rp {K : PySem.W.Frag} {H : Hp} {xs : List V} {os : List (Option Int)} {a : Addr} (h : Its K H xs os) (n : xs.length ≤ 500) (e : H a = some (.lst xs)) : ∃ d : PyData, Rp K H (.ref a) d.shown := by
  obtain ⟨h1, ds, h2, h3, h4⟩ := h
  have s := Short.list h4
  rw [h3] at s
  exact ⟨_, Short.rp (s.mono (by decide) (by omega)) (.lst (SqL.of e) h2)⟩
theorem Its.rpT {K : PySem.W.Frag} {H : Hp} {xs : List V} {os : List (Option Int)} {a : Addr} (h : Its K H xs os) (n : xs.length ≤ 500) (e : H a = some (.tup xs)) : ∃ d : PyData, Rp K H (.ref a) d.shown := by
  obtain ⟨h1, ds, h2, h3, h4⟩ := h
  have s := Short.tup h4
  rw [h3] at s
  exact ⟨_, Short.rp (s.mono (by decide) (by omega)) (.tup (SqT.of e) h2)⟩
theorem Fine.lst {K : PySem.W.Frag} {H : Hp} {xs : List V} {os : List (Option Int)} {a : Addr} (h : Its K H xs os) (n : xs.length ≤ 500) (e : H a = some (.lst xs)) : Fine K H (.ref a) := by
  obtain ⟨d, p⟩ := h.rp n e
  exact ⟨some os, _, .lst e h.1, p, fun os' z => by cases z; rw [← h.1.1]; omega⟩
theorem Fine.tup {K : PySem.W.Frag} {H : Hp} {xs : List V} {os : List (Option Int)} {a : Addr} (h : Its K H xs os) (n : xs.length ≤ 500) (e : H a = some (.tup xs)) : Fine K H (.ref a) := by
  obtain ⟨d, p⟩ := h.rpT n e
  exact ⟨none, _, .tup e, p, fun os' z => by cases z⟩
theorem Fine.non {K : PySem.W.Frag} {H : Hp} : Fine K H .non := ⟨none, _, .non, .non, fun _ z => by cases z⟩
theorem Fine.int {K : PySem.W.Frag} {H : Hp} {i : Int} (h : i.natAbs.log2 < 1920) : Fine K H (.int i) := ⟨none, _, .int i, .int i h, fun _ z => by cases z⟩
theorem Fine.str {K : PySem.W.Frag} {H : Hp} {s : Str} (h : (reprText s).length ≤ sizeLine) : Fine K H (.str s) := ⟨none, _, .str s, .str s h, fun _ z => by cases z⟩
theorem Fine.dic {K : PySem.W.Frag} {H : Hp} {a : Addr} (e : H a = some (.dK [])) : Fine K H (.ref a) := ⟨none, _, .dic e, .dic e, fun _ z => by cases z⟩

/-- one item with its data -/
def OneIt (K : PySem.W.Frag) (H : Hp) (x : V) : Prop := ∃ (o : Option Int) (d : PyData), Item H x o ∧ Dp K H x d ∧ Short 2 2000 d
theorem OneIt.same {K : PySem.W.Frag} {H H' : Hp} {x : V} (s : Same H H') (h : OneIt K H x) : OneIt K H' x := by
  obtain ⟨o, d, h1, h2, h3⟩ := h
  exact ⟨o, d, h1.same s, dp_same s h2, h3⟩
theorem OneIt.int {K : PySem.W.Frag} {H : Hp} {i : Int} (h : i.natAbs ≤ 99999) : OneIt K H (.int i) := ⟨_, _, .int i, .int i, (Short.int h).mono (by decide) (by decide)⟩
theorem OneIt.bl {K : PySem.W.Frag} {H : Hp} (b : Bool) : OneIt K H (.bl b) := ⟨_, _, .bl b, .bl b, (Short.bl b).mono (by decide) (by decide)⟩
theorem OneIt.non {K : PySem.W.Frag} {H : Hp} : OneIt K H .non := ⟨_, _, .non, .non, Short.non.mono (by decide) (by decide)⟩
theorem OneIt.zero {K : PySem.W.Frag} {H : Hp} : OneIt K H (.str (Str.ofString "0")) := ⟨_, _, .str _, .str _, ⟨by decide +kernel, by decide +kernel, by decide +kernel, by decide +kernel, by decide +kernel⟩⟩
theorem OneIt.tup {K : PySem.W.Frag} {H : Hp} {a : Addr} (h : H a = some (.tup [.int 0])) : OneIt K H (.ref a) :=
  ⟨_, _, .tup h, .tup (SqT.of h) (.cons (.int 0) .nil), (Short.tup (D := 0) (W := 17) fun d hd => by rw [List.mem_singleton.mp hd]; exact Short.int (by decide)).mono (by decide) (by decide)⟩
theorem OneIt.lst {K : PySem.W.Frag} {H : Hp} {a : Addr} (h : H a = some (.lst [.int 0])) : OneIt K H (.ref a) :=
  ⟨_, _, .lst h, .lst (SqL.of h) (.cons (.int 0) .nil), (Short.list (D := 0) (W := 17) fun d hd => by rw [List.mem_singleton.mp hd]; exact Short.int (by decide)).mono (by decide) (by decide)⟩
theorem OneIt.its {K : PySem.W.Frag} {H : Hp} {x : V} (h : OneIt K H x) : ∃ o, Its K H [x] [o] := by
  obtain ⟨o, d, h1, h2, h3⟩ := h
  exact ⟨o, .cons h1 h2 h3 .nil⟩
theorem placesDp {K : PySem.W.Frag} {H : Hp} : ∀ r : List Nat, DpAll K H (placesV r) (r.map fun p : Nat => PyData.int (p : Int))
  | [] => .nil
  | p :: r => .cons (.int _) (placesDp r)
theorem Its.nest {K : PySem.W.Frag} {H : Hp} {v : Addr} {r : List Nat} (h : H v = some (.lst (placesV r))) (l : r.length ≤ 100) (b : ∀ p ∈ r, p ≤ 99999) : Its K H [V.ref v] [none] := by
  have s := Short.list (D := 0) (W := 17) (ds := r.map fun p : Nat => PyData.int (p : Int)) fun d hd => by
    obtain ⟨p, hp, rfl⟩ := List.mem_map.mp hd
    exact Short.int (by have := b p hp; omega)
  rw [List.length_map] at s
  exact .cons (.lst h) (.lst (SqL.of h) (placesDp r)) (s.mono (by decide) (by omega)) .nil
theorem But.free {g m : Addr} {H H' : Hp} {n : Nat} (b : But g H H') (G : GenAt H' g n) (h : H' m = none) : H m = none := by
  cases e : H m with
  | none => rfl
  | some o =>
    by_cases z : m = g
    · subst z
      obtain ⟨x, y, w, h0, _⟩ := G
      rw [h0] at h
      cases h
    · rw [b m o z e] at h
      cases h
end Sw
/-! Lists of words compared; the words of the road back. -/
namespace Sw
open PySem PySem.Spec PyProof.Rows L2
def wordsD (ws : List (List Nat)) : List PyData := ws.map fun l => PyData.str (S l)
theorem words_dp {K : PySem.W.Frag} {H : Hp} : ∀ ws : List (List Nat), DpAll K H (wordsV ws) (wordsD ws)
  | [] => .nil
  | l :: r => .cons (.str _) (words_dp r)
theorem words_lay : ∀ {ws : List (List Nat)}, (∀ l ∈ ws, wordB l = true) → PyData.canLayAll0 (wordsD ws) = true
  | [], _ => rfl
  | l :: r, h => by
    have h1 := h l List.mem_cons_self
    have h2 := words_lay (ws := r) fun y hy => h y (List.mem_cons_of_mem _ hy)
    have e : PyData.strOk (S l) = true := by
      show (l.toArray.all fun c => decide (c < 0x110000)) = true
      rw [List.all_toArray]
      refine List.all_eq_true.mpr fun c hc => decide_eq_true ?_
      have := wordB_mem h1 hc
      omega
    show (PyData.strOk (S l) && PyData.canLayAll0 (wordsD r)) = true
    rw [e, h2]
    rfl
theorem words_depth : ∀ ws : List (List Nat), PyData.depthAll (wordsD ws) = 0
  | [] => rfl
  | l :: r => by
    show max (PyData.depth (.str (S l))) (PyData.depthAll (wordsD r)) = 0
    rw [words_depth r]
    rfl
theorem words_shaped {ws : List (List Nat)} (h : ∀ l ∈ ws, wordB l = true) : SeqAt.shaped (.list (wordsD ws)) = true := by
  unfold SeqAt.shaped
  have e : (PyData.list (wordsD ws)).depth = 1 := by
    show PyData.depthAll (wordsD ws) + 1 = 1
    rw [words_depth]
  have e2 : (PyData.list (wordsD ws)).canLay0 = true := words_lay h
  rw [e, e2]
  rfl
/-- a test that two lists of words are unlike, which they are not -/
theorem ne_words {K : PySem.W.Frag} {H : Hp} {a b : Addr} {ws : List (List Nat)} {Q : VK} (h : ∀ l ∈ ws, wordB l = true) (ha : SqL K H a (wordsV ws)) (hb : SqL K H b (wordsV ws)) (q : Q (.bl false) H) : rNeD K (.ref a) (.ref b) H Q := by
  refine ⟨_, _, .lst ha (words_dp ws), .lst hb (words_dp ws), words_shaped h, words_shaped h, ?_⟩
  rw [show PyData.eqv (.list (wordsD ws)) (.list (wordsD ws)) = true from PySem.SeqAt.eqv_refl _ (words_lay h)]
  exact q
theorem swapL_mem' {l : List Nat} {p : Nat} (h : wordB l = true) : wordB (swapL l p) = true := wordB_of fun c hc => wordB_mem h (swapL_mem hc)
theorem pass_words {l : List Nat} (h : wordB l = true) : ∀ (r : List Nat) (w : List Nat), w ∈ pass l r → wordB w = true := by
  intro r
  induction r generalizing l with
  | nil => intro w hw; rw [List.mem_singleton.mp hw]; exact h
  | cons p r ih =>
    intro w hw
    rcases List.mem_cons.mp hw with rfl | hw
    · exact h
    · exact ih (swapL_mem' h) w hw
/-- the words of the road back are those of the road, backwards -/
theorem pass_back {n : Nat} : ∀ {l r : List Nat}, l.length = n → (∀ p ∈ r, p < n) → pass (ends l r) (backL n r) = (pass l r).reverse := by
  intro l r
  induction r generalizing l with
  | nil => intro _ _; rfl
  | cons p r ih =>
    intro hl hp
    have hpn : p < l.length := by rw [hl]; exact hp p List.mem_cons_self
    have hr : ∀ q ∈ r, q < n := fun q hq => hp q (List.mem_cons_of_mem _ hq)
    have hs : (swapL l p).length = n := by rw [swapL_len hpn, hl]
    have e1 : backL n (p :: r) = backL n r ++ [n - 1 - p] := by unfold backL; simp
    have e2 : ends (ends (swapL l p) r) (backL n r) = swapL l p := by
      have z := pass_last (ends (swapL l p) r) (backL n r)
      rw [ih hs hr] at z
      have y : (pass (swapL l p) r).reverse[(backL n r).length]? = some (swapL l p) := by
        have hb : (backL n r).length = r.length := by unfold backL; simp
        rw [hb, List.getElem?_reverse (by rw [pass_len]; omega), pass_len]
        rw [show r.length + 1 - 1 - r.length = 0 by omega]
        cases r <;> rfl
      rw [y] at z
      exact (Option.some.inj z).symm
    rw [ends_cons, e1, pass_snoc, ends_snoc, e2, ih hs hr, ← hl, swapL_back hpn]
    show (pass (swapL l p) r).reverse ++ [l] = (l :: pass (swapL l p) r).reverse
    rw [List.reverse_cons]
theorem back_back {n : Nat} {r : List Nat} (h : ∀ p ∈ r, p < n) : backL n (backL n r) = r := by
  unfold backL
  rw [List.map_reverse, List.map_map, List.map_reverse, List.reverse_reverse]
  refine (List.map_congr_left fun p hp => ?_).trans (List.map_id r)
  have := h p hp
  show n - 1 - (n - 1 - p) = p
  omega
/-- what the draws made a road is one by the items, too -/
theorem walk_road {js : List Nat} : ∀ {l r : List Nat}, IsRoad js l r → walkO js l (r.map fun p : Nat => some (p : Int)) = true
  | _, [], _ => rfl
  | l, p :: r, h => by
    obtain ⟨⟨c, hc, hm⟩, h2⟩ := h
    show (match placeO l js (some (p : Int)) with | some p => walkO js (swapL l p) (r.map fun p : Nat => some (p : Int)) | none => false) = true
    rw [placeO_yes hc hm]
    exact walk_road h2
theorem last_len {l r : List Nat} : atI (wordsV (pass l r)) ((((wordsV (pass l r)).length : Nat) : Int) - 1) = some (V.str (S (ends l r))) := by
  have hl : (wordsV (pass l r)).length = r.length + 1 := by rw [List.length_map, pass_len]
  rw [hl, show (((r.length + 1 : Nat) : Int) - 1) = ((r.length : Nat) : Int) by omega]
  refine atI_nat ?_
  rw [List.getElem?_map, pass_last]
  rfl
/-- what stays through a law's row about one road -/
structure FW (H0 : Hp) (g v ke m : Addr) (r ws : List Nat) (c : Nat) (H : Hp) : Prop where
  ro : H v = some (.lst (placesV r))
  ke : H ke = some (.lst (placesV r))
  du : H m = some (.lst (wordsV (pass ws r)))
  G : GenAt H g c
  B : But g H0 H
theorem FW.same {H0 H H' : Hp} {g v ke m : Addr} {r ws : List Nat} {c : Nat} (h : FW H0 g v ke m r ws c H) (s : Same H H') : FW H0 g v ke m r ws c H' :=
  ⟨s _ _ h.ro, s _ _ h.ke, s _ _ h.du, h.G.same s, h.B.trans (.same s)⟩
end Sw
namespace Sw
open PySem PySem.Spec PyProof.Rows L2
theorem FW.but {H0 H H' : Hp} {g v ke m : Addr} {r ws : List Nat} {c c' : Nat} (h : FW H0 g v ke m r ws c H) (nv : v ≠ g) (nk : ke ≠ g) (nm : m ≠ g) (b : But g H H') (G : GenAt H' g c') : FW H0 g v ke m r ws c' H' :=
  ⟨b _ _ nv h.ro, b _ _ nk h.ke, b _ _ nm h.du, G, h.B.trans b⟩
/-- isinstance(x, list) for a value of any kind -/
theorem isi_list {K : PySem.W.Frag} {H : Hp} {v : V} {o : Option (List (Option Int))} {Q : VK} (h : Val H v o) (q : Q (.bl o.isSome) H) : rIsi K [v, .ty "list"] H Q := by
  cases h with
  | lst ht _ => exact ⟨_, _, _, _, true, rfl, ClsV.ty "list", .base (.lst ht), kit_ty (by decide +kernel), q⟩
  | tup ht => exact ⟨_, _, _, _, _, rfl, ClsV.ty "list", .base (.tup ht), kit_ty (by decide +kernel), q⟩
  | dic ht => exact ⟨_, _, _, _, _, rfl, ClsV.ty "list", .base (.dK ht), kit_ty (by decide +kernel), q⟩
  | int i => exact ⟨_, _, _, _, _, rfl, ClsV.ty "list", .base (.int _), kit_ty (by decide +kernel), q⟩
  | bl b => exact ⟨_, _, _, _, _, rfl, ClsV.ty "list", .base (.bl _), kit_ty (by decide +kernel), q⟩
  | non => exact ⟨_, _, _, _, _, rfl, ClsV.ty "list", .base .non, kit_ty (by decide +kernel), q⟩
  | str s => exact ⟨_, _, _, _, _, rfl, ClsV.ty "list", .base (.str _), kit_ty (by decide +kernel), q⟩
/-- a and b, where b is asked only if a holds -/
theorem and_then {t1 t2 : TE} {σ : L2.St} {H : Hp} {Q : VK} {b c : Bool} (h1 : ∀ Q' : VK, Q' (.bl b) H → t1 σ H Q') (h2 : b = true → (∀ H', Same H H' → Q (.bl c) H') → t2 σ H Q) (h3 : b = false → c = false) (q : ∀ H', Same H H' → Q (.bl c) H') : tAndV t1 t2 σ H Q := by
  refine h1 _ ⟨b, rfl, ?_⟩
  cases b with
  | true => exact iteT (h2 rfl q)
  | false =>
    have := q H fun _ _ e => e
    rw [h3 rfl] at this
    exact iteF this
theorem walk_zeros : ∀ n : Nat, IsRoad [120] [120] (List.replicate n 0)
  | 0 => trivial
  | n + 1 => ⟨⟨120, rfl, List.mem_singleton.mpr rfl⟩, walk_zeros n⟩
theorem ends_zeros : ∀ n : Nat, ends [120] (List.replicate n 0) = [120]
  | 0 => rfl
  | n + 1 => ends_zeros n
end Sw
/-! Rules for lists of texts: the least one, how often one stands; a text backwards; the signs of a text as a list. -/
namespace Sw
open PySem PySem.Spec PyProof.Rows L2
/-- the first of the least -/
def minL (x : List Nat) (xs : List (List Nat)) : List Nat := xs.foldl (fun a y => if y < a then y else a) x
theorem minD_words (x : List Nat) (xs : List (List Nat)) : PySem.W.minD (.str (S x)) (wordsD xs) = .str (S (minL x xs)) := by
  unfold PySem.W.minD minL wordsD
  induction xs generalizing x with
  | nil => rfl
  | cons y r ih =>
    rw [List.map_cons, List.foldl_cons, List.foldl_cons, ← ih]
    (try dsimp only)
    rw [PySem.W.dataLt_str]
    have e : (if decide ((S y).cps.toList < (S x).cps.toList) = true then PyData.str (S y) else PyData.str (S x)) = .str (S (if y < x then y else x)) := by
      by_cases h : y < x
      · rw [if_pos (decide_eq_true h), if_pos h]
      · rw [if_neg (fun z => h (of_decide_eq_true z)), if_neg h]
    rw [e]
theorem words_alike (ws : List (List Nat)) : PySem.W.AlikeAll (wordsD ws) := by
  refine ⟨fun x hx y hy => ?_, fun x hx => ?_⟩
  · obtain ⟨a, _, rfl⟩ := List.mem_map.mp hx
    obtain ⟨b, _, rfl⟩ := List.mem_map.mp hy
    rfl
  · obtain ⟨a, _, rfl⟩ := List.mem_map.mp hx
    intro z
    cases z
def rMinS (K : PySem.W.Frag) : List V → Hp → VK → Prop := fun vs H Q => ∃ (a : Addr) (x : List Nat) (xs : List (List Nat)), vs = [V.ref a] ∧ SqL K H a (wordsV (x :: xs)) ∧ Q (.str (S (minL x xs))) H
theorem cr_minS {X : Cx} (hc : X.calm = true) (hu : X.A.units + 64 < cLine) : CallR X (.builtin "min") (rMinS X.K) := by
  intro pins s σ H vs us Q I r h
  obtain ⟨a, x, xs, rfl, hs, q⟩ := h
  obtain ⟨its, rv, hl, _⟩ := I.list hs
  rw [Vals.ref1 r]
  obtain ⟨as, hr⟩ := Dp.readsAll I _ _ _ (words_dp (K := X.K) (H := H) (x :: xs)) rv
  have hd : PyData.depthAll (wordsD (x :: xs)) = 0 := words_depth (x :: xs)
  refine PySem.W.min_list_data (I.ok.hd hc) hl.isList (x := .str (S x)) (xs := wordsD xs) (by rw [List.toList_toArray]; exact hr) (words_alike (x :: xs)) (by show X.A.units + 1 + PyData.depthAll (wordsD (x :: xs)) < cLine; rw [hd]; omega) fun i v h' tk bs _ rd hk => ?_
  rw [minD_words] at rd
  cases rd
  exact ⟨.str _, H, I.kept hk, ⟨_, rfl⟩, q⟩
end Sw
/-! The signs of a text as a list: list(text). -/
namespace Sw
open PySem PySem.W PySem.Spec PyProof.Rows L2
section
variable {prog : Program} {w : World} {A : Around} {E : Value → Shared → Prop} {s : Shared} {x : Str} {t : Tok}
theorem hint_text {Q : Bool → Shared → Prop} (h : Q false s) : wpAny (model prog w) A (Builtin.List.listLengthHint (.str x t)) Q E s := by
  unfold Builtin.List.listLengthHint
  refine wpAny_bind (wpAny_specialOf (typeIs_str s x t) PySem.F.slot_str_len.lookup ?_)
  generalize hid : ("str.__len__" : String) = id0
  wp_delta
  rw [show splitId id0 = some ("str", "__len__") from by subst hid; decide +kernel]
  subst hid
  refine wpAny_bind (wpAny_isInstance (T := "str") (b := true) (typeIs_str s x t) (by rw [isSubtype_type]; kernel_rfl) ?_)
  refine wpAny_ite_split (fun hab => absurd hab (by decide)) (fun _ => ?_)
  refine wpAny_ite_split (fun _ => ?_) (fun hab => absurd (by decide +kernel) hab)
  refine wpAny_bind (wpAny_typeOf (typeIs_str s x t) ?_)
  exact wpAny_pure h
theorem text_extend {R : Result → Shared → Prop} (hh : A.handled = none) (S : Addr) (res : Value) (c₀ : Nat) (hS : s.heap.get? S = some { cls := .type "list", data := .seq #[] c₀ })
    (hR : ∀ h' tk acc' c', (∀ b o, b ≠ S → s.heap.get? b = some o → h'.get? b = some o) → h'.get? S = some { cls := .type "list", dict := none, data := .seq acc' c', slots := #[] } → ItemsOf (SignAt x) acc' x.cps.size → R (.ok (.ret res)) { s with heap := h', toks := tk }) (hn : x.cps.size ≤ sizeLine) :
    wpAny (model prog w) A.in1 (Builtin.List.listExtendWith (.ref S) (.str x t) res)
      (fun fin s' => match fin with | .done f => R (.ok f) s' | .again c' => c'.quiet = true ∧ codeAny (model prog w) A c' R s') (fun e s' => R (.error e) s') s := by
  have hSI : S ≠ s.heap.objs.size := Nat.ne_of_lt (Heap.lt_size hS)
  have hSf : S ∉ [s.heap.objs.size] := by simp only [List.mem_cons, List.not_mem_nil, or_false]; exact hSI
  unfold Builtin.List.listExtendWith
  refine wpAny_bind (wpAny_typeOf (T := "str") (typeIs_str s x t) ?_)
  have h1 : Builtin.List.listSameRef (.ref S) (.str x t) = false := rfl
  have h2 : (Value.type "str" == Value.type "list") = false := by decide
  have h3 : (Value.type "str" == Value.type "tuple") = false := by decide
  simp only [h1, h2, h3, Bool.or_false, Bool.false_eq_true, if_false]
  refine wpAny_bind (wpAny_pyIter_str fun oI St W' st => ?_)
  have W := W' A.in1 hh
  have key : ∀ (h : Heap) (c₁ tk : Nat), St 0 h → (∀ b o, b ≠ S → s.heap.get? b = some o → h.get? b = some o) →
      h.get? S = some { cls := .type "list", data := .seq #[] c₁ } → codeAny (model prog w) A (.builtin "list.extend.loop" ⟨[.ref S, .ref s.heap.objs.size, res], []⟩) R { s with heap := h, toks := tk } := by
    intro h c₁ tk hst hk hS₁
    refine codeAny_extend_loopS W.toS hn S hSf res _ 0 _ #[] c₁ rfl (Nat.zero_le _) hst hS₁ (ItemsOf.nil _) fun s' acc' c' hm hS' hacc => ?_
    rw [Moved.eq_with hm]
    refine hR s'.heap s'.toks acc' c' (fun b o hb e => hm.heap b o (fun hmem => ?_) (hk b o hb e)) hS' hacc
    rcases List.mem_cons.mp hmem with e' | hmem
    · exact hb e'
    · exact absurd (Heap.lt_size e) (by rw [List.mem_singleton.mp hmem]; exact Nat.lt_irrefl _)
  have hS₁ := Heap.get?_push_of_some oI hS
  refine wpAny_bind (wpAny_holding (hint_text ?_))
  refine wpAny_ite_split (fun _ => ?_) (fun _ => wpAny_pure ⟨plainId_quiet PySem.F.plain_extend_loop _, key _ c₀ _ st (fun b o _ e => Heap.get?_push_of_some _ e) hS₁⟩)
  refine wpAny_bind (wpAny_rule ?_)
  refine wpAny_bind ?_
  show wpAny _ _ (updateSeq S (·.push .none) >>= fun _ => updateSeq S (·.pop)) _ _ _
  refine wpAny_bind (wpAny_updateSeq hS₁ rfl ?_)
  have hS₂ := Heap.get?_update_self (Obj.mapSeq (·.push Value.none)) hS₁ rfl
  refine wpAny_updateSeq (hz := by seq_fits) hS₂ rfl ?_
  have hS₃ := Heap.get?_update_self (Obj.mapSeq (·.pop)) hS₂ rfl
  refine wpAny_pure ⟨plainId_quiet PySem.F.plain_extend_loop _, key _ _ _ ?_ (fun b o hb e => ?_) hS₃⟩
  · refine W.frame 0 _ _ st fun b hb o e => ?_
    have hbS : b ≠ S := fun h => hSf (h ▸ hb)
    exact (Heap.get?_update_other _ _ (Ne.symm hbS)).trans ((Heap.get?_update_other _ _ (Ne.symm hbS)).trans e)
  · exact (Heap.get?_update_other _ _ (Ne.symm hb)).trans ((Heap.get?_update_other _ _ (Ne.symm hb)).trans (Heap.get?_push_of_some _ e))
theorem text_init {R : Result → Shared → Prop} (hh : A.handled = none) (S : Addr) (hS : s.heap.get? S = some { cls := .type "list", data := .seq #[] })
    (hR : ∀ h' tk acc' c', (∀ b o, b ≠ S → s.heap.get? b = some o → h'.get? b = some o) → h'.get? S = some { cls := .type "list", dict := none, data := .seq acc' c', slots := #[] } → ItemsOf (SignAt x) acc' x.cps.size → R (.ok (.ret .none)) { s with heap := h', toks := tk }) (hn : x.cps.size ≤ sizeLine) :
    wpAny (model prog w) A.in1 (Builtin.«list.__init__» ⟨[.ref S, .str x t], []⟩)
      (fun fin s' => match fin with | .done f => R (.ok f) s' | .again c' => c'.quiet = true ∧ codeAny (model prog w) A c' R s') (fun e s' => R (.error e) s') s := by
  show wpAny _ _ (do let old ← Builtin.List.listItems (.ref S); Builtin.List.listUpdate (.ref S) (fun _ => #[]); letGo old.toList.reverse; Builtin.List.listExtendWith (.ref S) (.str x t) .none) _ _ s
  refine wpAny_bind ?_
  unfold Builtin.List.listItems
  refine wpAny_bind (wpAny_seqItems hS rfl (wpAny_pure ?_))
  show wpAny _ _ (updateSeq S (fun _ => #[]) >>= fun _ => letGo (#[] : Array Value).toList.reverse >>= fun _ => Builtin.List.listExtendWith (.ref S) (.str x t) .none) _ _ s
  refine wpAny_bind (wpAny_updateSeq hS rfl ?_)
  have hS₂ := Heap.get?_update_self (Obj.mapSeq (fun _ => (#[] : Array Value))) hS rfl
  have oth : ∀ b o, b ≠ S → s.heap.get? b = some o → (s.heap.update S (Obj.mapSeq (fun _ => (#[] : Array Value)))).get? b = some o :=
    fun b o hb e => (Heap.get?_update_other _ _ (Ne.symm hb)).trans e
  refine wpAny_bind (wpAny_letGo ?_)
  refine text_extend hh S .none _ hS₂ (fun h' tk acc' c' hk hS' hacc => ?_) hn
  exact hR h' tk acc' c' (fun b o hb e => hk b o hb (oth b o hb e)) hS' hacc
theorem text_call {Q : Value → Shared → Prop} (hh : A.handled = none) (hn : x.cps.size ≤ sizeLine)
    (hQ : ∀ h' tk acc' c', (∀ b o, s.heap.get? b = some o → h'.get? b = some o) → h'.get? s.heap.objs.size = some { cls := .type "list", dict := none, data := .seq acc' c', slots := #[] } → ItemsOf (SignAt x) acc' x.cps.size → Q (.ref s.heap.objs.size) { s with heap := h', toks := tk }) :
    wpAny (model prog w) A (call (.type "list") [.str x t]) Q E s := by
  refine callType_codes (Q₁ := fun obj s₁ => obj = .ref s.heap.objs.size ∧ s₁ = { s with heap := s.heap.push { cls := .type "list", data := .seq #[] } }) PySem.F.called_list (PySem.F.typeCall_list_1 _) PySem.F.entry_list_init
    (code_list_new _ ⟨rfl, rfl⟩) fun obj s₁ h₁ => ?_
  obtain ⟨rfl, rfl⟩ := h₁
  have hS : (s.heap.push { cls := .type "list", data := .seq #[] }).get? s.heap.objs.size = some { cls := .type "list", data := .seq #[] } := Heap.get?_push_size _ rfl
  refine ⟨⟨_, hS, rfl⟩, PySem.F.args_list_init_2 _ _, text_init (A := A.in1) hh _ hS (fun h' tk acc' c' hk hS' hacc => ?_) hn⟩
  exact ⟨rfl, hQ h' tk acc' c' (fun b o e => hk b o (Nat.ne_of_lt (Heap.lt_size e)) (Heap.get?_push_of_some _ e)) hS' hacc⟩
end
/-- the signs, each a text -/
abbrev signsV (l : List Nat) : List V := (l.map fun c => S [c]).map V.str
def rListS : List V → Hp → VK → Prop := fun xs H Q => ∃ l : List Nat, xs = [.str (S l)] ∧ l.length ≤ 100000 ∧ ∀ q, H q = none → Q (.ref q) (upd H q (.lst (signsV l)))
theorem call_list_str {X : Cx} (hc : X.calm = true) : CallR X (.type "list") rListS := by
  intro pins s σ H xs us Q I r h
  obtain ⟨l, e, hl, q⟩ := h
  subst e
  obtain ⟨u, eu, rx⟩ := vals1 r
  subst eu
  obtain ⟨t, rfl⟩ := rx
  refine text_call (I.ok.hd hc) (by rw [size_S]; exact small_le hl) fun h' tk acc' c' hkeep hS hacc => ?_
  refine ⟨.ref s.heap.objs.size, upd H s.heap.objs.size (.lst (signsV l)), I.laid hkeep (Nat.le_refl _) (show ObjOk X.prog X.w _ _ _ (.lst (signsV l)) from ⟨?_, acc'.toList, c', ?_, ?_⟩), rfl, q _ (I.hok.fresh (Nat.le_refl _))⟩
  · rw [List.length_map, List.length_map]; exact small_le hl
  · have el : acc'.toList.length = acc'.size := by simp
    have es := hacc.1
    rw [size_S] at es
    refine vals_of_at (by rw [List.length_map, List.length_map, el, es]) fun j y w h1 h2 => ?_
    obtain ⟨c, u, hc1, rfl⟩ := hacc.2 j w (by rw [← Array.getElem?_toList]; exact h2)
    rw [at_S] at hc1
    rw [List.getElem?_map, List.getElem?_map, hc1] at h1
    cases h1
    exact ⟨u, rfl⟩
  · rw [Array.toArray_toList]; exact hS
end Sw
namespace Sw
open PySem PySem.Spec PyProof.Rows L2
/-! ### a text backwards, the step reckoned or written -/
def tRevT (te ts : TE) : TE := fun σ H Q => te σ H fun x H1 => ∃ l : List Nat, x = .str (S l) ∧ l.length ≤ 100000 ∧ tPart ts σ H1 fun o H2 => o = some (-1) ∧ Q (.str (S l.reverse)) H2
theorem rev_pick (l : List Nat) : (⟨((Builtin.Str.strSliceIndices none none (-1) (S l).length).filterMap ((S l).cps[·]?)).toArray⟩ : Str) = S l.reverse := by
  have h := step_rev_list (S l) 0
  have e : Txt.sliceBy (S l) none none (-1, 0) = ⟨((Builtin.Str.strSliceIndices none none (-1) (S l).length).filterMap ((S l).cps[·]?)).toArray⟩ := rfl
  rw [e] at h
  have h2 : (List.range (S l).length).map (fun k => (S l).cps.getD ((S l).length - 1 - k) 0) = l.reverse := by
    refine List.ext_getElem (by simp [len_S]) fun i h1 h2 => ?_
    have hi : i < l.length := by simpa using h2
    simp [SX.S, len_S]
    rw [List.getElem?_eq_getElem (by omega)]
    rfl
  rw [h2] at h
  have h3 : ∀ (a : Array Nat), a.toList = l.reverse → (⟨a⟩ : Str) = S l.reverse := by
    intro a ha
    show (⟨a⟩ : Str) = ⟨l.reverse.toArray⟩
    rw [← ha]
  exact h3 _ h
theorem pe_revT {X : Cx} {e st : PySem.Expr} {te ts : TE} {p3 pos : Pos} (he : PE X e te) (hs : PE X st ts) : PE X (.Subscript e (.Slice none none (some st) p3) pos) (tRevT te ts) := by
  refine ⟨fun pins s σ H Q I h => Subscript_ (thn (he.run pins s σ H _ I h) fun v s1 ⟨x, H1, I1, r1, q1⟩ => ?_)⟩
  obtain ⟨l, rfl, hl, q⟩ := q1
  obtain ⟨t, rfl⟩ := r1
  refine wpAny_Slice (thn (po_none.run pins s1 σ H1 (fun o H2 => o = none ∧ H2 = H1) I1 ⟨rfl, rfl⟩) fun vl s2 ⟨lo, H2, I2, pl, el, e2⟩ => ?_)
  subst el e2
  refine thn (po_none.run pins s2 σ H2 (fun o H3 => o = none ∧ H3 = H2) I2 ⟨rfl, rfl⟩) fun vu s3 ⟨u, H3, I3, pu, eu, e3⟩ => ?_
  subst eu e3
  refine thn ((po_some hs).run pins s3 σ H3 _ I3 q) fun vs s4 ⟨o, H4, I4, ps, eo, q4⟩ => ?_
  subst eo
  have I5 := I4.kept (t' := s4.toks) (fun b ob q => Heap.get?_push_of_some { cls := Value.type "slice", data := Data.fields #[vl, vu, vs] } q)
  obtain ⟨l', rfl, el⟩ := IsPart.raw pl
  obtain ⟨u', rfl, eu⟩ := IsPart.raw pu
  obtain ⟨st', rfl, es⟩ := IsPart.raw ps
  have hn1 : l' = none := by cases l' with | none => rfl | some _ => cases el
  have hn2 : u' = none := by cases u' with | none => rfl | some _ => cases eu
  subst hn1 hn2
  refine tail_any (typeIs_str _ _ _) F.slot_str_getitem.lookup ?_ rfl
  refine wpAny_getItem_str_slice (l := none) (u := none) (st := st') ⟨_, Heap.get?_push_size _ rfl, rfl, rfl⟩ (by rw [es]; rfl) ?_
  show Made.post (if ((st'.map (·.1)).getD 1 == 1 && (Builtin.Str.strSliceIndices none none ((st'.map (·.1)).getD 1) (S l).length).length == (S l).length) = true then Made.val (.str (S l) t)
    else Made.str ⟨((Builtin.Str.strSliceIndices none none ((st'.map (·.1)).getD 1) (S l).length).filterMap ((S l).cps[·]?)).toArray⟩) (EP X pins σ Q) _
  rw [es]
  show Made.post (if (((-1 : Int)) == 1 && (Builtin.Str.strSliceIndices none none (-1) (S l).length).length == (S l).length) = true then Made.val (.str (S l) t)
    else Made.str ⟨((Builtin.Str.strSliceIndices none none (-1) (S l).length).filterMap ((S l).cps[·]?)).toArray⟩) (EP X pins σ Q) _
  rw [if_neg (by simp), rev_pick]
  exact ⟨by rw [len_S, List.length_reverse]; exact small_le hl, .str _, H4, I5.tok _, ⟨_, rfl⟩, q4⟩
/-! ### how often a text stands in a list -/
def rCntS (K : PySem.W.Frag) : V → List V → Hp → VK → Prop := fun x xs H Q => ∃ (p : Addr) (ws : List (List Nat)) (l : List Nat), x = .ref p ∧ xs = [.str (S l)] ∧ SqL K H p (wordsV ws) ∧ Q (.int (ws.count l : Nat)) H
theorem plain_words : ∀ ws : List (List Nat), PyData.plainAll (wordsD ws) = true
  | [] => rfl
  | _ :: r => plain_words r
theorem count_words (l : List Nat) (ws : List (List Nat)) : (wordsD ws).countP (fun y => PyData.eqv y (.str (S l))) = ws.count l := by
  unfold wordsD
  rw [List.countP_map]
  show _ = ws.countP (· == l)
  refine List.countP_congr fun a _ => ?_
  show (S a == S l) = true ↔ (a == l) = true
  rw [beq_iff_eq, beq_iff_eq]
  exact ⟨fun h => SX.S_inj h, fun h => by rw [h]⟩
theorem mt_lcountS {X : Cx} (hu : X.A.units + 64 < cLine) : MtR X "list.count" (rCntS X.K) := by
  intro pins s σ H x xs v us Q I rx rxs h
  obtain ⟨p, ws, l, rfl, rfl, hs, q⟩ := h
  cases rx
  obtain ⟨u, rfl, ru⟩ := rxs.one
  obtain ⟨t, rfl⟩ := ru
  obtain ⟨its, rv, hl, _⟩ := I.list hs
  obtain ⟨as, hr⟩ := Dp.readsAll I _ _ _ (words_dp (K := X.K) (H := H) ws) rv
  refine PySem.SeqAt.count_list_data (xs := wordsD ws) (d := .str (S l)) hl.isList (by rw [List.toList_toArray]; exact hr) (.str _ _) (plain_words ws) rfl ?_ ?_
  · have : (PyData.str (S l)).depth = 0 := rfl
    rw [this]
    omega
  · rw [count_words]
    exact ⟨.int _, H, I.tok _, ⟨_, rfl⟩, q⟩
end Sw
/-! Rings: their turnings, the first of them, how many turnings keep a ring. -/
namespace Sw
def rotL {α : Type} (r : List α) (i : Nat) : List α := r.drop i ++ r.take i
def turnsL (r : List Nat) : List (List Nat) := (List.range r.length).map (rotL r)
def minW : List (List Nat) → List Nat
  | [] => []
  | x :: xs => minL x xs
def starL (l js : List Nat) : List Nat := l.map fun c => if c ∈ js then 42 else c
def ringL (l js : List Nat) : List Nat := starL l js ++ [42]
def keepN (r : List Nat) : Nat := (turnsL r).count r
theorem rot_len {α : Type} (r : List α) (i : Nat) : (rotL r i).length = r.length := by
  unfold rotL; simp; omega
theorem rot_get {α : Type} {r : List α} {i j : Nat} (hi : i ≤ r.length) (hj : j < r.length) : (rotL r i)[j]? = r[(i + j) % r.length]? := by
  unfold rotL
  by_cases h : j < r.length - i
  · rw [List.getElem?_append_left (by rw [List.length_drop]; exact h), List.getElem?_drop, Nat.mod_eq_of_lt (by omega)]
  · rw [List.getElem?_append_right (by rw [List.length_drop]; omega), List.length_drop, List.getElem?_take_of_lt (by omega)]
    congr 1
    rw [show i + j = (j - (r.length - i)) + r.length by omega, Nat.add_mod_right, Nat.mod_eq_of_lt (by omega)]
theorem list_ext_mod {α : Type} {r q : List α} (hl : r.length = q.length) (h : ∀ j, j < r.length → r[j]? = q[j]?) : r = q := by
  refine List.ext_getElem? fun j => ?_
  by_cases hj : j < r.length
  · exact h j hj
  · rw [List.getElem?_eq_none (by omega), List.getElem?_eq_none (by omega)]
/-- turned by any number: cells taken round -/
theorem rot_rot {α : Type} {r : List α} {i j : Nat} (hi : i ≤ r.length) (hj : j ≤ r.length) : rotL (rotL r i) j = rotL r ((i + j) % r.length) := by
  by_cases hz : r.length = 0
  · have : r = [] := List.eq_nil_of_length_eq_zero hz
    subst this
    simp [rotL]
  refine list_ext_mod (by rw [rot_len, rot_len, rot_len]) fun k hk => ?_
  rw [rot_len, rot_len] at hk
  have hm : (i + j) % r.length < r.length := Nat.mod_lt _ (by omega)
  rw [rot_get (by rw [rot_len]; exact hj) (by rw [rot_len]; exact hk), rot_get (Nat.le_of_lt hm) hk, rot_len, rot_get hi (Nat.mod_lt _ (by omega))]
  congr 1
  rw [Nat.add_mod_mod, ← Nat.add_assoc, Nat.mod_add_mod]
theorem rot_zero {α : Type} (r : List α) : rotL r 0 = r := by simp [rotL]
theorem rot_full {α : Type} (r : List α) : rotL r r.length = r := by simp [rotL]
theorem rot_inj {α : Type} {r q : List α} {i : Nat} (hl : r.length = q.length) (h : rotL r i = rotL q i) : r = q := by
  unfold rotL at h
  have h1 := List.append_inj h (by rw [List.length_drop, List.length_drop, hl])
  rw [← List.take_append_drop i r, ← List.take_append_drop i q, h1.1, h1.2]
theorem mem_turns {r q : List Nat} : q ∈ turnsL r ↔ ∃ i, i < r.length ∧ q = rotL r i := by
  unfold turnsL
  rw [List.mem_map]
  constructor
  · rintro ⟨i, hi, rfl⟩; exact ⟨i, List.mem_range.mp hi, rfl⟩
  · rintro ⟨i, hi, rfl⟩; exact ⟨i, List.mem_range.mpr hi, rfl⟩
/-- a turned ring has the same turnings -/
theorem mem_turns_rot {r q : List Nat} {k : Nat} (hk : k ≤ r.length) : q ∈ turnsL (rotL r k) ↔ q ∈ turnsL r := by
  rw [mem_turns, mem_turns, rot_len]
  constructor
  · rintro ⟨i, hi, rfl⟩
    refine ⟨(k + i) % r.length, Nat.mod_lt _ (by omega), rot_rot hk (by omega)⟩
  · rintro ⟨i, hi, rfl⟩
    refine ⟨(r.length - k + i) % r.length, Nat.mod_lt _ (by omega), ?_⟩
    have hm : (r.length - k + i) % r.length < r.length := Nat.mod_lt _ (by omega)
    rw [rot_rot hk (Nat.le_of_lt hm)]
    congr 1
    rw [Nat.add_mod_mod, show k + (r.length - k + i) = i + r.length by omega, Nat.add_mod_right, Nat.mod_eq_of_lt hi]
/-! ### the least of some texts -/
theorem minL_le (x : List Nat) (xs : List (List Nat)) : (∀ y ∈ x :: xs, ¬ y < minL x xs) ∧ minL x xs ∈ x :: xs := by
  unfold minL
  induction xs generalizing x with
  | nil =>
    refine ⟨fun y hy => ?_, List.mem_singleton.mpr rfl⟩
    rw [List.mem_singleton.mp hy]
    exact List.lt_irrefl _
  | cons y r ih =>
    rw [List.foldl_cons]
    by_cases h : y < x
    · rw [if_pos h]
      obtain ⟨h1, h2⟩ := ih y
      refine ⟨fun z hz => ?_, List.mem_cons_of_mem _ h2⟩
      rcases List.mem_cons.mp hz with rfl | hz
      · exact fun q => h1 y List.mem_cons_self (List.lt_trans h q)
      · exact h1 z hz
    · rw [if_neg h]
      obtain ⟨h1, h2⟩ := ih x
      refine ⟨fun z hz => ?_, ?_⟩
      · rcases List.mem_cons.mp hz with rfl | hz
        · exact h1 z List.mem_cons_self
        · rcases List.mem_cons.mp hz with rfl | hz
          · intro q
            have h3 := h1 x List.mem_cons_self
            have e1 := List.not_lt.mp h3
            have e2 := List.not_lt.mp h
            exact (List.not_lt.mpr (List.le_trans e1 e2)) q
          · exact h1 z (List.mem_cons_of_mem _ hz)
      · rcases List.mem_cons.mp h2 with h2 | h2
        · rw [h2]; exact List.mem_cons_self
        · exact List.mem_cons_of_mem _ (List.mem_cons_of_mem _ h2)
theorem minW_spec {ws : List (List Nat)} (h : ws ≠ []) : (∀ y ∈ ws, ¬ y < minW ws) ∧ minW ws ∈ ws := by
  cases ws with
  | nil => exact absurd rfl h
  | cons x xs => exact minL_le x xs
theorem minW_eq {ws : List (List Nat)} {m : List Nat} (hm : m ∈ ws) (hl : ∀ y ∈ ws, ¬ y < m) : minW ws = m := by
  have hne : ws ≠ [] := List.ne_nil_of_mem hm
  obtain ⟨h1, h2⟩ := minW_spec hne
  exact List.le_antisymm (List.not_lt.mp (h1 m hm)) (List.not_lt.mp (hl _ h2))
theorem minW_same {ws vs : List (List Nat)} (h : ∀ q, q ∈ ws ↔ q ∈ vs) : minW ws = minW vs := by
  cases ws with
  | nil =>
    cases vs with
    | nil => rfl
    | cons v vs => exact absurd ((h v).mpr List.mem_cons_self) (by simp)
  | cons x xs =>
    have hne : vs ≠ [] := List.ne_nil_of_mem ((h x).mp List.mem_cons_self)
    obtain ⟨h1, h2⟩ := minW_spec hne
    exact minW_eq ((h _).mpr h2) fun y hy => h1 y ((h y).mp hy)
theorem turns_ne {r : List Nat} (h : r ≠ []) : turnsL r ≠ [] := by
  cases r with
  | nil => exact absurd rfl h
  | cons c r => exact List.ne_nil_of_mem (mem_turns.mpr ⟨0, by simp, rfl⟩)
theorem min_rot {r : List Nat} {k : Nat} (hk : k ≤ r.length) : minW (turnsL (rotL r k)) = minW (turnsL r) := minW_same fun _ => mem_turns_rot hk
/-- the first turning is one -/
theorem min_mem {r : List Nat} (h : r ≠ []) : ∃ i, i < r.length ∧ minW (turnsL r) = rotL r i := mem_turns.mp (minW_spec (turns_ne h)).2
theorem min_min {r : List Nat} (h : r ≠ []) : minW (turnsL (minW (turnsL r))) = minW (turnsL r) := by
  obtain ⟨i, hi, e⟩ := min_mem h
  rw [e, min_rot (by omega), e]
/-! ### how many turnings keep a ring -/
theorem keep_filter (r : List Nat) : keepN r = ((List.range r.length).filter fun i => decide (rotL r i = r)).length := by
  unfold keepN turnsL
  rw [List.count_eq_countP, List.countP_map, List.countP_eq_length_filter]
  congr 1
  refine List.filter_congr fun i _ => ?_
  show (rotL r i == r) = decide (rotL r i = r)
  exact Bool.eq_iff_iff.mpr (by rw [beq_iff_eq, decide_eq_true_iff])
theorem keep_rot {r : List Nat} {k : Nat} (hk : k ≤ r.length) : keepN (rotL r k) = keepN r := by
  rw [keep_filter, keep_filter, rot_len]
  congr 1
  refine List.filter_congr fun i hi => ?_
  have hi' := List.mem_range.mp hi
  have e : rotL (rotL r k) i = rotL (rotL r i) k := by
    rw [rot_rot hk (by omega), rot_rot (by omega) hk, Nat.add_comm]
  rw [e]
  refine decide_eq_decide.mpr ⟨fun h => rot_inj (rot_len r i) h, fun h => by rw [h]⟩
theorem keep_pos {r : List Nat} (h : r ≠ []) : 0 < keepN r := by
  unfold keepN
  refine List.count_pos_iff.mpr (mem_turns.mpr ⟨0, ?_, (rot_zero r).symm⟩)
  cases r with
  | nil => exact absurd rfl h
  | cons _ _ => simp
/-- turnings that keep a ring: multiples of the least one -/
theorem rot_add {r : List Nat} {i j : Nat} (hi : i ≤ r.length) (hj : j ≤ r.length) (h : rotL r i = r) : rotL r ((i + j) % r.length) = rotL r j := by
  rw [← rot_rot hi hj, h]
theorem rot_mod {r : List Nat} {i : Nat} (h : i ≤ r.length) : rotL r (i % r.length) = rotL r i := by
  rcases Nat.lt_or_ge i r.length with h1 | h1
  · rw [Nat.mod_eq_of_lt h1]
  · have : i = r.length := by omega
    rw [this, Nat.mod_self, rot_zero, rot_full]
theorem per_mul {r : List Nat} {d : Nat} (hd : d ≤ r.length) (h : rotL r d = r) : ∀ m, m * d ≤ r.length → rotL r (m * d) = r
  | 0, _ => by rw [Nat.zero_mul]; exact rot_zero r
  | m + 1, hm => by
    have h1 : m * d ≤ r.length := by rw [Nat.succ_mul] at hm; omega
    have h2 := rot_add h1 hd (per_mul hd h m h1)
    rw [h] at h2
    rw [← rot_mod hm, Nat.succ_mul]
    exact h2
theorem per_sub {r : List Nat} {i j : Nat} (hij : i ≤ j) (hj : j ≤ r.length) (hi : rotL r i = r) (h : rotL r j = r) : rotL r (j - i) = r := by
  have e := rot_add (i := i) (j := j - i) (by omega) (by omega) hi
  rw [show i + (j - i) = j by omega, rot_mod hj, h] at e
  exact e.symm
theorem least_per {r : List Nat} (h : r ≠ []) : ∃ d, 0 < d ∧ d ≤ r.length ∧ rotL r d = r ∧ ∀ i, i ≤ r.length → rotL r i = r → d ∣ i := by
  have hn : 0 < r.length := List.length_pos_iff.mpr h
  have ex : ∃ d, 0 < d ∧ rotL r d = r ∧ d ≤ r.length := ⟨r.length, hn, rot_full r, Nat.le_refl _⟩
  have key : ∀ m, (∃ d, d ≤ m ∧ 0 < d ∧ rotL r d = r ∧ d ≤ r.length) → ∃ d, (0 < d ∧ rotL r d = r ∧ d ≤ r.length) ∧ ∀ e, 0 < e → rotL r e = r → e ≤ r.length → d ≤ e := by
    intro m
    induction m with
    | zero => rintro ⟨d, h0, h1, _⟩; omega
    | succ m ih =>
      rintro ⟨d, hdm, hd⟩
      by_cases hex : ∃ d, d ≤ m ∧ 0 < d ∧ rotL r d = r ∧ d ≤ r.length
      · exact ih hex
      · refine ⟨d, hd, fun e e0 e1 e2 => ?_⟩
        by_cases he : e ≤ m
        · exact absurd ⟨e, he, e0, e1, e2⟩ hex
        · omega
  obtain ⟨d, ⟨d0, d1, d2⟩, dm⟩ := key r.length ⟨r.length, Nat.le_refl _, hn, rot_full r, Nat.le_refl _⟩
  refine ⟨d, d0, d2, d1, fun i hi hir => ?_⟩
  have hq : i / d * d ≤ i := Nat.div_mul_le_self i d
  have h1 := per_mul d2 d1 (i / d) (by omega)
  have h2 := per_sub hq hi h1 hir
  have h3 : i - i / d * d = i % d := by
    have := Nat.div_add_mod i d
    rw [Nat.mul_comm] at this
    omega
  rw [h3] at h2
  have h4 : i % d < d := Nat.mod_lt _ d0
  by_cases hz : i % d = 0
  · exact Nat.dvd_of_mod_eq_zero hz
  · have := dm (i % d) (by omega) h2 (by omega)
    omega
theorem multiples_len {d : Nat} (hd : 0 < d) : ∀ q, ((List.range (q * d)).filter fun i => decide (d ∣ i)).length = q
  | 0 => by simp
  | q + 1 => by
    rw [Nat.succ_mul, List.range_add, List.filter_append, List.length_append, multiples_len hd q, List.filter_map, List.length_map]
    congr 1
    have e : ((List.range d).filter ((fun i => decide (d ∣ i)) ∘ fun x => q * d + x)) = [0] := by
      cases d with
      | zero => omega
      | succ d =>
        rw [List.range_succ_eq_map, List.filter_cons]
        have h0 : ((fun i => decide (d + 1 ∣ i)) ∘ fun x => q * (d + 1) + x) 0 = true := decide_eq_true (by rw [Nat.add_zero]; exact Nat.dvd_mul_left _ _)
        rw [if_pos h0]
        congr 1
        refine List.filter_eq_nil_iff.mpr fun i hi => ?_
        obtain ⟨j, hj, rfl⟩ := List.mem_map.mp hi
        have hj' := List.mem_range.mp hj
        intro hc
        have hc' : d + 1 ∣ q * (d + 1) + (j + 1) := of_decide_eq_true hc
        have := (Nat.dvd_add_right (Nat.dvd_mul_left (d + 1) q)).mp hc'
        have := Nat.le_of_dvd (by omega) this
        omega
    rw [e]
    rfl
theorem keep_count {r : List Nat} (h : r ≠ []) : ∃ d, 0 < d ∧ keepN r * d = r.length ∧ rotL r d = r := by
  obtain ⟨d, d0, d1, d2, d3⟩ := least_per h
  obtain ⟨q, hq⟩ := d3 r.length (Nat.le_refl _) (rot_full r)
  have hq' : r.length = q * d := by rw [hq, Nat.mul_comm]
  refine ⟨d, d0, ?_, d2⟩
  rw [keep_filter]
  have e : (List.range r.length).filter (fun i => decide (rotL r i = r)) = (List.range (q * d)).filter fun i => decide (d ∣ i) := by
    rw [← hq']
    refine List.filter_congr fun i hi => ?_
    have hi' := List.mem_range.mp hi
    refine decide_eq_decide.mpr ⟨fun hr => d3 i (by omega) hr, ?_⟩
    rintro ⟨m, rfl⟩
    rw [Nat.mul_comm]
    exact per_mul d1 d2 m (by rw [Nat.mul_comm]; omega)
  rw [e, multiples_len d0, hq']
/-- each sign stands in a ring as often as a multiple of the turnings that keep it -/
theorem keep_dvd {r : List Nat} (h : r ≠ []) (c : Nat) : keepN r ∣ r.count c := by
  obtain ⟨d, d0, d1, d2⟩ := keep_count h
  have hd : d ≤ r.length := by rw [← d1]; exact Nat.le_mul_of_pos_left d (keep_pos h)
  have key : ∀ m, m * d ≤ r.length → (r.take (m * d)).count c = m * (r.take d).count c := by
    intro m
    induction m with
    | zero => intro _; simp
    | succ m ih =>
      intro hm
      have hm1 : m * d + d ≤ r.length := by rw [Nat.succ_mul] at hm; exact hm
      rw [Nat.succ_mul, List.take_add, List.count_append, ih (by omega), Nat.succ_mul]
      congr 1
      have e := per_mul hd d2 m (by omega)
      have e2 : (rotL r (m * d)).take d = (r.drop (m * d)).take d := by
        unfold rotL
        rw [List.take_append_of_le_length (by rw [List.length_drop]; omega)]
      rw [← e2, e]
  have := key (keepN r) (by omega)
  rw [d1, List.take_length] at this
  exact ⟨_, this⟩
/-! ### words and their rings -/
theorem star_app (l m js : List Nat) : starL (l ++ m) js = starL l js ++ starL m js := List.map_append
theorem star_len (l js : List Nat) : (starL l js).length = l.length := List.length_map _
theorem ring_len (l js : List Nat) : (ringL l js).length = l.length + 1 := by unfold ringL; rw [List.length_append, star_len]; rfl
theorem ring_ne (l js : List Nat) : ringL l js ≠ [] := by unfold ringL; simp
/-- a deed turns the ring -/
theorem ring_swap {l js : List Nat} {p c : Nat} (hc : l[p]? = some c) (hj : c ∈ js) : ringL (swapL l p) js = rotL (ringL l js) (p + 1) := by
  obtain ⟨hp, e⟩ := List.getElem?_eq_some_iff.mp hc
  have hl : l = l.take p ++ c :: l.drop (p + 1) := by rw [← e, ← List.drop_eq_getElem_cons hp, List.take_append_drop]
  have hr : ringL l js = (starL (l.take p) js ++ [42]) ++ (starL (l.drop (p + 1)) js ++ [42]) := by
    unfold ringL
    conv => lhs; rw [hl, star_app]
    have : starL (c :: l.drop (p + 1)) js = 42 :: starL (l.drop (p + 1)) js := by
      show (if c ∈ js then 42 else c) :: _ = _
      rw [if_pos hj]; rfl
    rw [this]
    simp
  have h1 : (starL (l.take p) js ++ [42]).length = p + 1 := by rw [List.length_append, star_len, List.length_take]; simp; omega
  rw [hr]
  unfold rotL
  rw [List.drop_left' h1, List.take_left' h1, swapL_one hc]
  unfold ringL
  rw [star_app, star_app]
  have : starL [c] js = [42] := by
    show [if c ∈ js then 42 else c] = [42]
    rw [if_pos hj]
  rw [this]
  simp
theorem ring_end {l js : List Nat} {p c : Nat} (hc : l[p]? = some c) (hj : c ∈ js) : minW (turnsL (ringL (swapL l p) js)) = minW (turnsL (ringL l js)) ∧ keepN (ringL (swapL l p) js) = keepN (ringL l js) := by
  have hp : p < l.length := (List.getElem?_eq_some_iff.mp hc).1
  rw [ring_swap hc hj]
  exact ⟨min_rot (by rw [ring_len]; omega), keep_rot (by rw [ring_len]; omega)⟩
/-! ### star rings -/
def smallB (l : List Nat) : Bool := l.all signB
def starRingB (l : List Nat) : Bool := decide (42 ∈ l) && wordB (l.filter fun c => decide (c ≠ 42)) && decide (l = minW (turnsL l))
end Sw
/-! What readings by macro lean on. -/
namespace Sw
open PySem PySem.Spec PyProof.Rows L2
theorem Same.at {H H' : Hp} {a : Addr} {o : HO} (s : Same H H') (h : H a = some o) : H' a = some o := s _ _ h
theorem But.at {g a : Addr} {H H' : Hp} {o : HO} (s : But g H H') (n : a ≠ g) (h : H a = some o) : H' a = some o := s _ _ n h
theorem upd_at {H : Hp} {p : Addr} {o : HO} : (upd H p o) p = some o := upd_same
/-- a new item behind those of a list that a comprehension makes -/
theorem grow {H1 H4 : Hp} {D : Addr} {xs ys : List V} {y : V} (hD : H1 D = none) (s : Same H1 H4) (d : H4 D = some (.lst xs)) (l : xs.length ≤ 100000) (e : ys = xs ++ [y]) :
    ∃ acc, H4 D = some (.lst acc) ∧ acc.length < sizeLine ∧ (Same H1 (upd H4 D (.lst (acc ++ [y]))) ∧ (upd H4 D (.lst (acc ++ [y]))) D = some (.lst ys)) := by
  refine ⟨xs, d, small_line l, fun b o h => ?_, ?_⟩
  · rw [upd_ne (ne_of_none h hD)]; exact s b o h
  · rw [upd_same, e]
theorem GenAt.off {H : Hp} {g p : Addr} {n m : Nat} {o : HO} (h : GenAt H g n) (ne : p ≠ g) (l : n ≤ m) : GenAt (upd H p o) g m := by
  obtain ⟨x, y, z, h0, hx, hy, hz⟩ := h
  exact ⟨x, y, z, by rw [upd_ne ne.symm]; exact h0, hx, hy, hz.1, by omega⟩
/-- the same where draws go on -/
theorem growB {g D : Addr} {H1 H4 : Hp} {n m : Nat} {xs ys : List V} {y : V} (hD : H1 D = none) (nD : D ≠ g) (s : But g H1 H4) (G : GenAt H4 g n) (d : H4 D = some (.lst xs)) (l : xs.length ≤ 100000) (e : ys = xs ++ [y]) (hn : n ≤ m) :
    ∃ acc, H4 D = some (.lst acc) ∧ acc.length < sizeLine ∧ (But g H1 (upd H4 D (.lst (acc ++ [y]))) ∧ GenAt (upd H4 D (.lst (acc ++ [y]))) g m ∧ (upd H4 D (.lst (acc ++ [y]))) D = some (.lst ys)) := by
  refine ⟨xs, d, small_line l, fun b o ne h => ?_, G.off nD hn, ?_⟩
  · rw [upd_ne (ne_of_none h hD)]; exact s b o ne h
  · rw [upd_same, e]
/-- a list that a def made is changed by the def itself -/
theorem But.own {g v : Addr} {H H1 : Hp} {o : HO} (b : But g H H1) (hv : H v = none) : But g H (L2.upd H1 v o) := fun a u ne e => by
  rw [upd_ne (ne_of_none e hv)]
  exact b a u ne e
theorem Same.own {v : Addr} {H H1 : Hp} {o : HO} (b : Same H H1) (hv : H v = none) : Same H (L2.upd H1 v o) := fun a u e => by
  rw [upd_ne (ne_of_none e hv)]
  exact b a u e
theorem alloc_same {H H' : Hp} {p : Addr} {o : HO} (hX : L2.upd H p o = H') (hn : H p = none) : Same H H' := hX ▸ Same.upd hn
theorem alloc_at {H H' : Hp} {p : Addr} {o : HO} (hX : L2.upd H p o = H') : H' p = some o := hX ▸ upd_same
end Sw
/-! text.replace(.., ..) of written texts in a test that has written a text before. -/
namespace Sw
open PySem PySem.Spec PyProof.Rows L2 CwR
section
variable {X : Cx} {a b e : Expr} {rest : List Expr} {tA tB' : TT} {te tb : TE} {pos : Pos}
/-- a test behind which a token is out -/
def PTk (X : Cx) (e : Expr) (t : TT) : Prop := ∀ (pins : List (Addr × Obj)) (s : Shared) (σ : L2.St) (H : Hp) (Q : Bool → Hp → Prop), Inv X pins σ H s → t σ H Q → wpAny (model X.prog X.w) X.A (isTrue e X.env (eval e X.env)) (fun d s1 => 1 ≤ s1.toks ∧ TP X pins σ Q d s1) X.xe s
/-- tests where a token is out -/
def PTT (X : Cx) (e : Expr) (t : TT) : Prop := ∀ (pins : List (Addr × Obj)) (s : Shared) (σ : L2.St) (H : Hp) (Q : Bool → Hp → Prop), 1 ≤ s.toks → Inv X pins σ H s → t σ H Q → wpAny (model X.prog X.w) X.A (isTrue e X.env (eval e X.env)) (TP X pins σ Q) X.xe s
def PWT (X : Cx) (e : Expr) (t : TT) : Prop := ∀ (whole : Sem Value) (pins : List (Addr × Obj)) (s : Shared) (σ : L2.St) (H : Hp) (Q : Bool → Hp → Prop), 1 ≤ s.toks → Inv X pins σ H s → t σ H Q → wpAny (model X.prog X.w) X.A (isTrue e X.env whole) (TP X pins σ Q) X.xe s
theorem ptk_cmp {op : CmpOp} {r : R2} {y : Str} {j : Nat} {p p2 : Pos} (ho : OpR X (compareOp op) r) (hb : PE X b tb) (hm : behindInMarks op b = false) : PTk X (.Compare (.Constant (.str y) j p) [op] [b] p2) (tTest (tOp r (tC (.str y)) tb)) := by
  intro pins s σ H Q I h
  refine wpAny_isTrue_Compare1 (Calls.Constant_str ?_) hm
  have I1 := I.tok (s.toks + 1)
  have h1 : 1 ≤ ({ s with toks := s.toks + 1 } : Shared).toks := by show 1 ≤ s.toks + 1; omega
  refine wpAny_mono (PySem.wpAny_toks_of h1 (hb.run pins { s with toks := s.toks + 1 } σ H _ I1 h)) (fun u s2 q => ?_) fun _ _ z => z.2
  obtain ⟨k2, y', H2, I2, r2, q2⟩ := q
  refine wpAny_mono (PySem.wpAny_toks_of k2 (ho pins s2 σ H2 (.str y) y' (.str y s.toks) u _ I2 ⟨_, rfl⟩ r2 q2)) (fun c s3 q => ?_) fun _ _ z => z.2
  obtain ⟨k3, z, H3, I3, r3, k, e, q3⟩ := q
  subst e
  cases r3
  exact wpAny_truthy_bool ⟨k3, H3, I3, q3⟩
theorem pw_orK (ha : PTk X a tA) (hb : PWT X (.BoolOp .Or (b :: rest) pos) tB') : PW X (.BoolOp .Or (a :: b :: rest) pos) (tOr tA tB') := by
  refine ⟨fun wh pins s σ H Q I h => ?_⟩
  refine isTrue_or (thn (ha pins s σ H _ I h) fun c s1 ⟨k1, H1, I1, q1⟩ => ?_)
  cases c with
  | true => exact ⟨H1, I1, q1⟩
  | false => exact hb wh pins s1 σ H1 Q k1 I1 q1
theorem pwt_or1 (ha : PTT X a tA) : PWT X (.BoolOp .Or [a] pos) tA := by
  intro wh pins s σ H Q h0 I h
  refine isTrue_or (thn (ha pins s σ H Q h0 I h) fun c s1 e => ?_)
  cases c with
  | false => exact isTrue_or_nil e
  | true => exact e
theorem ptt_not (ha : PTT X a tA) : PTT X (.UnaryOp .Not a pos) (tNot tA) := by
  intro pins s σ H Q h0 I h
  exact isTrue_not (ha pins s σ H (fun c H1 => Q (!c) H1) h0 I h)
theorem ptt_val (h : PET X e te) (he : ∀ whole, isTrue e X.env whole = (do let v ← whole; standAt e.pos; holding [v] (truthy v)) := by intro _; rfl) : PTT X e (tB te) := by
  intro pins s σ H Q h0 I hw
  refine isTrue_plain (thn (h pins s σ H _ h0 I hw) fun v s1 ⟨x, H1, I1, r1, q1⟩ => ?_) (he _)
  obtain ⟨d, rfl, q⟩ := q1
  cases r1
  exact wpAny_truthy_bool ⟨H1, I1, q⟩
theorem pet_call {CX : CXT} {k : Nat} {f : Addr} {fd : FuncData} {ps : List Str} {ds : List Value} {dvs : List V} {sp : Sp} {E : XK} {x : Str} {p : Pos} {e : Expr} {es : List Expr} {t : TA} (F : FnOk X.prog X.w X.K X.mg X.base CX k f fd ps sp) (hr : Room k X.A) (hg : Gl X x) (hm : X.mg x = some (.ref f)) (hk : PySem.W.keepIn X.K (.ref f) = true) (hb : Binds X.K fd ps ds) (hd : Vals dvs ds) (hx : Passes CX X E)
    (ha : PAT X (e :: es) t) (hdb : (x == ("__debug__" : Str)) = false := by decide) (he : starEach (e :: es) X.env = (false, eval e X.env) :: starEach es X.env := by rfl) (hpl : (backTo pos (starEach es X.env)).any (·.1) = false := by rfl) :
    PET X (.Call (.Name x p) (e :: es) [] pos) (tCall sp dvs E t) := by
  intro pins s σ H Q h0 I h
  refine wpAny_Call_Name_kw (ld_glob I hg hm ?_ hdb)
  refine PySem.W.callWith_K (h₀ := X.base) I.ok.mod.kin hk (thn (ha pos pins s σ H _ h0 I h) fun us s1 ⟨vs, H1, I1, r, q⟩ => ⟨I1.kIn, ?_⟩) he hpl
  exact run_fn F hr hb hd hx I1 r q
end
/-- text.replace(sign, "") -/
theorem strike (l : List Nat) (c : Nat) : Txt.replace (S l) (S [c]) (Str.ofString "") = S (l.filter fun d => d != c) := by
  have e0 : Str.ofString "" = ⟨#[]⟩ := by decide +kernel
  have h := replace_strikes (S l) c
  rw [e0]
  have e1 : (S l).cps.toList = l := by simp [SX.S]
  rw [e1] at h
  have h3 : ∀ (x : Str), x.cps.toList = l.filter (· != c) → x = S (l.filter (· != c)) := by
    intro x hx
    obtain ⟨a⟩ := x
    show (⟨a⟩ : Str) = ⟨(l.filter (· != c)).toArray⟩
    rw [← hx]
  exact h3 _ h
end Sw
/-! A text so many times; sorted signs. -/
namespace Sw
open PySem PySem.Spec PyProof.Rows L2
theorem fold_cat (l : List Nat) : ∀ (n : Nat) (a : Array Nat), ((List.replicate n l.toArray).foldl (· ++ ·) a).toList = a.toList ++ (List.replicate n l).flatten
  | 0, a => by simp
  | n + 1, a => by
    rw [List.replicate_succ, List.foldl_cons, fold_cat l n, List.replicate_succ, List.flatten_cons]
    simp
theorem op_mulS {X : Cx} : OpR X (binaryOp .Mult) (fun x y H Q => ∃ (l : List Nat) (n : Nat), x = .str (S l) ∧ y = .int (n : Int) ∧ n ≤ 100000 ∧ l.length * n ≤ 1000000 ∧ Q (.str (S (List.replicate n l).flatten)) H) := by
  intro pins s σ H x y v u Q I rx ry h
  obtain ⟨l, n, rfl, rfl, hn, hl, q⟩ := h
  obtain ⟨t, rfl⟩ := rx
  obtain ⟨t', rfl⟩ := ry
  have big : ∀ m : Nat, m ≤ 1000000 → m ≤ sizeLine := fun m h => Nat.le_trans h (by decide)
  have e1 : (⟨(List.replicate n (S l).cps).foldl (· ++ ·) #[]⟩ : Str) = S (List.replicate n l).flatten := by
    have h := fold_cat l n #[]
    have h3 : ∀ (a : Array Nat), a.toList = (List.replicate n l).flatten → (⟨a⟩ : Str) = S (List.replicate n l).flatten := by
      intro a ha
      show (⟨a⟩ : Str) = ⟨((List.replicate n l).flatten).toArray⟩
      rw [← ha]
    exact h3 _ (by simpa [SX.S] using h)
  have l2 : (S (List.replicate n l).flatten).length ≤ sizeLine := by
    rw [len_S, List.length_flatten, List.map_replicate, List.sum_replicate_nat]
    exact big _ (by rw [Nat.mul_comm]; exact hl)
  refine PySem.P.mul_str (by rw [decide_eq_false (by omega), decide_eq_false (by omega)]; rfl) (fun h1 _ => ?_) (fun h1 _ => ?_) ?_
  · rw [len_S]
    have hp : 0 < (n : Int) := by omega
    have hz : (l.length : Int) * (n : Int) ≤ 1000000 := by
      have : ((l.length * n : Nat) : Int) ≤ 1000000 := by omega
      rw [Int.natCast_mul] at this; exact this
    intro hgt
    have h2 := Int.mul_le_of_le_ediv hp (show (l.length : Int) ≤ (2 ^ 63 - 1) / (n : Int) from by
      rw [Int.le_ediv_iff_mul_le hp]; omega)
    have h3 : (l.length : Int) ≤ (2 ^ 63 - 1) / (n : Int) := by rw [Int.le_ediv_iff_mul_le hp]; omega
    omega
  · rw [len_S, Int.toNat_natCast]
    exact decide_eq_false (p := l.length * n > sizeLine) (Nat.not_lt.mpr (big _ hl))
  · by_cases h0 : (n : Int) < 1
    · rw [if_pos h0]
      have : n = 0 := by omega
      subst this
      exact ⟨by decide, .str (S (List.replicate 0 l).flatten), H, I.tok _, ⟨s.toks, rfl⟩, q⟩
    · rw [if_neg h0]
      by_cases h1 : (((n : Int) == 1 || (S l).length == 0) = true)
      · rw [if_pos h1]
        refine ⟨.str _, H, I, ⟨t, ?_⟩, q⟩
        rw [Bool.or_eq_true] at h1
        rcases h1 with h1 | h1
        · have : n = 1 := by have := eq_of_beq h1; omega
          subst this
          simp
        · have hz : l.length = 0 := by have := eq_of_beq h1; rw [len_S] at this; exact this
          have : l = [] := List.eq_nil_of_length_eq_zero hz
          subst this
          simp
      · rw [if_neg h1, Int.toNat_natCast, e1]
        exact ⟨l2, .str _, H, I.tok _, ⟨_, rfl⟩, q⟩
theorem ltCps_one (c d : Nat) : ltCps [c] [d] = decide (c < d) := by
  show (decide (c < d) || (c == d && false)) = decide (c < d)
  rw [Bool.and_false, Bool.or_false]
theorem rising_signs : ∀ (ws : List Nat) (c : Nat), risingS (S [c]) (ws.map fun d => S [d]) = true → (c :: ws).Pairwise (· ≤ ·)
  | [], c, _ => List.pairwise_singleton _ _
  | d :: ws, c, h => by
    have h' : (!ltCps [d] [c] && risingS (S [d]) (ws.map fun d => S [d])) = true := h
    rw [Bool.and_eq_true] at h'
    have ih := rising_signs ws d h'.2
    have hcd : c ≤ d := by
      have := h'.1
      rw [ltCps_one] at this
      by_cases z : d < c
      · rw [decide_eq_true z] at this; cases this
      · omega
    refine List.pairwise_cons.mpr ⟨fun e he => ?_, ih⟩
    rcases List.mem_cons.mp he with rfl | he
    · exact hcd
    · have := (List.pairwise_cons.mp ih).1 e he
      omega
theorem sorted_signs {ws : List Nat} (h : sortedS (ws.map fun d => S [d]) = true) : ws.Pairwise (· ≤ ·) := by
  cases ws with
  | nil => exact .nil
  | cons c r => exact rising_signs r c h
/-- sorted(signs): the signs themselves, in order -/
theorem perm_signs {ys : List Str} {ws : List Nat} (h : ys.Perm (ws.map fun c => S [c])) (hs : sortedS ys = true) : ∃ vs : List Nat, ys = vs.map (fun c => S [c]) ∧ vs.Perm ws ∧ vs.Pairwise (· ≤ ·) := by
  have hm : ∀ y ∈ ys, ∃ c, y = S [c] := fun y hy => by
    obtain ⟨c, _, e⟩ := List.mem_map.mp (h.mem_iff.mp hy)
    exact ⟨c, e.symm⟩
  let f : Str → Nat := fun y => y.cps.toList.headD 0
  have hf : ∀ c : Nat, f (S [c]) = c := fun c => rfl
  have e : ys = (ys.map f).map fun c => S [c] := by
    rw [List.map_map]
    refine (List.map_id ys).symm.trans (List.map_congr_left fun y hy => ?_)
    obtain ⟨c, rfl⟩ := hm y hy
    rfl
  have hp : (ys.map f).Perm ws := by
    have := h.map f
    rw [List.map_map] at this
    have e2 : ws.map (f ∘ fun c => S [c]) = ws := by
      refine (List.map_congr_left fun c _ => hf c).trans (List.map_id ws)
    rw [e2] at this
    exact this
  refine ⟨ys.map f, e, hp, ?_⟩
  rw [e] at hs
  exact sorted_signs hs
theorem strict_of {ws : List Nat} (h : ws.Pairwise (· ≤ ·)) (nd : ws.Nodup) : ws.Pairwise (· < ·) := by
  induction h with
  | nil => exact .nil
  | @cons a r hr _ ih =>
    obtain ⟨n1, n2⟩ := List.nodup_cons.mp nd
    refine List.pairwise_cons.mpr ⟨fun b hb => ?_, ih n2⟩
    have := hr b hb
    have : a ≠ b := fun e => n1 (e ▸ hb)
    omega
end Sw
namespace Sw
open PySem PySem.Spec PyProof.Rows L2
theorem star_lit : Str.ofString "*" = S [42] := by decide +kernel
end Sw
/-! sorted(text): its signs in order. -/
namespace Sw
open PySem PySem.W PySem.Spec PyProof.Rows L2
section
variable {prog : Program} {w : World} {A : Around} {E : Value → Shared → Prop} {s : Shared} {x : Str} {t : Tok}
theorem signAt_vals {acc : Array Value} {l : List Nat} (h : ItemsOf (SignAt (S l)) acc l.length) : StrsAre acc.toList (l.map fun c => S [c]) := by
  have h2 : ∀ (vs : List Value) (m : List Nat), vs.length = m.length → (∀ (j : Nat) (v : Value), vs[j]? = some v → ∃ c u, m[j]? = some c ∧ v = Value.str ⟨#[c]⟩ u) → StrsAre vs (m.map fun c => S [c]) := by
    intro vs
    induction vs with
    | nil =>
      intro m hm _
      cases m with
      | nil => exact .nil
      | cons _ _ => cases hm
    | cons v vs ih =>
      intro m hm hv
      cases m with
      | nil => cases hm
      | cons c m =>
        obtain ⟨c', u, h1, rfl⟩ := hv 0 v rfl
        cases h1
        exact .cons _ u (ih m (by simpa using hm) fun j v hj => by
          obtain ⟨c', u', h3, h4⟩ := hv (j + 1) v (by simpa using hj)
          exact ⟨c', u', by simpa using h3, h4⟩)
  refine h2 acc.toList l (by rw [Array.length_toList]; exact h.1) fun j v hj => ?_
  obtain ⟨c, u, h3, h4⟩ := h.2 j v (by rw [← Array.getElem?_toList]; exact hj)
  exact ⟨c, u, by rw [← at_S]; exact h3, h4⟩
theorem text_iadd {R : Result → Shared → Prop} (hh : A.handled = none) (S : Addr) (c₀ : Nat) (hS : s.heap.get? S = some { cls := .type "list", data := .seq #[] c₀ })
    (hR : ∀ h' tk acc' c', (∀ b o, b ≠ S → s.heap.get? b = some o → h'.get? b = some o) → h'.get? S = some { cls := .type "list", dict := none, data := .seq acc' c', slots := #[] } → ItemsOf (SignAt x) acc' x.cps.size → R (.ok (.ret (.ref S))) { s with heap := h', toks := tk }) (hn : x.cps.size ≤ sizeLine) :
    codeAny (model prog w) A (.builtin "list.__iadd__" ⟨[.ref S, .str x t], []⟩) R s := by
  refine codeAny_builtin entry_list_iadd' ?_
  rw [Around.under_plainId (show plainId "list.__iadd__" = true by decide +kernel) _]
  exact text_extend hh S _ c₀ hS hR hn
theorem collect_text {Q : List Value → Shared → Prop} (hh : A.handled = none) (hn : x.cps.size ≤ sizeLine)
    (h : ∀ h' tk (acc : Array Value), (∀ b o, s.heap.get? b = some o → h'.get? b = some o) → ItemsOf (SignAt x) acc x.cps.size → s.heap.objs.size < h'.objs.size → Q acc.toList { s with heap := h', toks := tk }) :
    wpAny (model prog w) A (collect (.str x t)) Q E s := by
  unfold collect
  refine wpAny_bind (wpAny_runValue (codeAny_builtin entry_proto_collect' ?_))
  show wpAny _ _ (do again (.builtin "list.__iadd__" ⟨[← newList [], .str x t], []⟩)) _ _ s
  refine wpAny_bind (wpAny_newList (wpAny_pure ⟨Code.quiet_builtin _ (by decide +kernel), text_iadd (s := { s with heap := s.heap.push (seqObj "list" #[] 0) }) hh s.heap.objs.size 0 (Heap.get?_push_size _ rfl) (fun h' tk acc' c' hk hS hacc => ?_) hn⟩))
  show wpAny (model prog w) A (do
      let o ← load s.heap.objs.size
      match o.data with
      | .seq xs _ => pure xs.toList
      | _ => unsupported "internal:collect") Q E _
  refine wpAny_bind (wpAny_load hS ?_)
  exact wpAny_pure (h h' tk acc' (fun b o e => hk b o (Nat.ne_of_lt (Heap.lt_size e)) (Heap.get?_push_of_some _ e)) hacc (Heap.lt_size hS))
theorem sorted_text {l : List Nat} {Q : Value → Shared → Prop} (hh : A.handled = none) (h64 : l.length < 64)
    (h : ∀ h' tk a (out : Array Value) (vs : List Nat) e, (∀ b o, s.heap.get? b = some o → h'.get? b = some o) → s.heap.objs.size ≤ a → h'.get? a = some (seqObj "list" out e) → StrsAre out.toList (vs.map fun c => S [c]) → vs.Perm l → vs.Pairwise (· ≤ ·) → Q (.ref a) { s with heap := h', toks := tk }) :
    wpAny (model prog w) A (call (.builtin "sorted") [.str (S l) t]) Q E s := by
  refine Calls.call_function_entry kind_sorted plain_sorted entry_sorted (args_sorted1 _) ?_
  unfold Builtin.«sorted»
  refine wpAny_bind (m := checkCount "sorted" 1 1 _) (wpAny_pure ?_)
  refine wpAny_bind (collect_text hh (by rw [size_S]; exact small_le (by omega)) fun h1 tk acc hk hacc hlt => ?_)
  rw [size_S] at hacc
  have hS := signAt_vals hacc
  have hlen : acc.toList.length = l.length := by rw [Array.length_toList]; exact hacc.1
  refine wpAny_bind (wpAny_newList ?_ (by rw [hlen]; exact small_le (by omega)))
  have hoL : (h1.push (seqObj "list" acc.toList.toArray 0)).get? h1.objs.size = some (seqObj "list" acc.toList.toArray 0) := Heap.get?_push_size _ rfl
  refine wpAny_bind (wpAny_holding (wpAny_call_entry slot_list_sort ⟨_, hoL, rfl⟩ entry_list_sort (list_sort_treeK strKind_oneLt hoL hS.keysOf (fun v₁ v₂ rest e => keyKind_strs (by rw [← e]; exact hS)) (by rw [hlen]; exact h64) fun st' hp hs => ⟨_, rfl, ?_⟩) (args_list_sort _)))
  obtain ⟨ss', g1, g2, g3⟩ := sorted_out_str hS hp hs
  obtain ⟨vs, e1, e2, e3⟩ := perm_signs g2 g3
  subst e1
  obtain ⟨e, he⟩ := sortedHeap_at (out := (arrOf st').map (·.2)) hoL
  refine wpAny_pure ⟨_, rfl, h _ tk h1.objs.size _ vs e (fun b o eb => ?_) (Nat.le_of_lt hlt) he g1 e2 e3⟩
  have hb := hk b o eb
  have hlt2 : b < h1.objs.size := Heap.lt_size hb
  rw [sortedHeap_old (Nat.ne_of_lt hlt2) (by rw [size_push']; exact Nat.lt_succ_of_lt hlt2)]
  exact Heap.get?_push_of_some _ hb
end
def rSortedT : List V → Hp → VK → Prop := fun xs H Q => ∃ l : List Nat, xs = [.str (S l)] ∧ l.length < 64 ∧ ∀ (vs : List Nat) p, vs.Perm l → vs.Pairwise (· ≤ ·) → H p = none → Q (.ref p) (upd H p (.lst (signsV vs)))
theorem cr_sortedTx {X : Cx} (hc : X.calm = true) : CallR X (.builtin "sorted") rSortedT := by
  intro pins s σ H xs us Q I r h
  obtain ⟨l, e, hl, q⟩ := h
  subst e
  obtain ⟨u, eu, rx⟩ := vals1 r
  subst eu
  obtain ⟨t, rfl⟩ := rx
  refine sorted_text (I.ok.hd hc) hl fun h' tk a out vs e hk ha hat hS hp hs => ?_
  have hlen : (signsV vs).length ≤ sizeLine := by rw [List.length_map, List.length_map, hp.length_eq]; exact small_le (by omega)
  exact ⟨.ref a, upd H a (.lst (signsV vs)), I.laid (t' := tk) hk ha ⟨hlen, out.toList, e, vals_of_strs hS, by simpa using hat⟩, rfl, q vs a hp hs (I.hok.fresh ha)⟩
end Sw
/-! Small lemmas for laws about star rings. -/
namespace Sw
open PySem PySem.Spec PyProof.Rows L2
theorem count_sign (l : List Nat) (c : Nat) : Txt.count (S l) (S [c]) = ((l.count c : Nat) : Int) := by
  rw [show S [c] = (⟨#[c]⟩ : Str) from rfl, count_cnt]
  have e1 : (S l).cps.toList = l := by simp [SX.S]
  rw [e1]
  clear e1
  induction l with
  | nil => rfl
  | cons d r ih =>
    rw [cnt_cons, ih, List.count_cons]
    by_cases z : d = c
    · subst z
      simp
      omega
    · rw [if_neg z, if_neg (by simpa using z)]
      omega
theorem cutV_take {xs : List V} {j : Nat} : cutV xs none (some (j : Int)) = xs.take j := by
  unfold cutV
  rw [HT.sIx_none, HT.sIx_nat, List.drop_zero, Nat.sub_zero]
  rcases Nat.le_total j xs.length with h | h
  · rw [Nat.min_eq_left h]
  · rw [Nat.min_eq_right h, List.take_length, List.take_of_length_le h]
theorem cutV_drop {xs : List V} {j : Nat} : cutV xs (some (j : Int)) none = xs.drop j := by
  unfold cutV
  rw [HT.sIx_none, HT.sIx_nat]
  rcases Nat.le_total j xs.length with h | h
  · rw [Nat.min_eq_left h, List.take_of_length_le (by rw [List.length_drop]; omega)]
  · rw [Nat.min_eq_right h, List.drop_length, List.drop_eq_nil_of_le h, List.take_nil]
theorem cutS_take {l : List Nat} {j : Nat} : cutS (S l) none (some (j : Int)) = S (l.take j) := by
  rw [cutS_to (by omega), Int.toNat_natCast]
theorem dec_signs {a b : List Nat} : decide (V.str (S a) = V.str (S b)) = decide (a = b) := by
  refine decide_eq_decide.mpr ⟨fun h => ?_, fun h => by rw [h]⟩
  injection h with h
  exact SX.S_inj h
/-- repr of a text of signs -/
theorem Rp.signs {K : PySem.W.Frag} {H : Hp} {l : List Nat} (h : ∀ c ∈ l, c < 16 ^ 8) (n : l.length ≤ 100000) : Rp K H (.str (S l)) (reprText (S l)) := by
  refine .str _ (Nat.le_trans (StrLaws.reprText_len (S l) ?_) ?_)
  · have e1 : (S l).cps.toList = l := by simp [SX.S]
    rw [e1]; exact h
  · rw [len_S]
    exact Nat.le_trans (show 10 * l.length + 2 ≤ 1000002 by omega) (by decide)
/-- a value that is no text -/
inductive Odd (K : PySem.W.Frag) (H : Hp) : V → Prop
  | int (i : Int) : Odd K H (.int i)
  | bl (b : Bool) : Odd K H (.bl b)
  | non : Odd K H .non
  | lst {a : Addr} {xs : List V} : H a = some (.lst xs) → Odd K H (.ref a)
  | tup {a : Addr} {xs : List V} : H a = some (.tup xs) → Odd K H (.ref a)
  | dic {a : Addr} {kvs : List (Key × V)} : H a = some (.dK kvs) → Odd K H (.ref a)
theorem Odd.same {K : PySem.W.Frag} {H H' : Hp} {v : V} (s : Same H H') (h : Odd K H v) : Odd K H' v := by
  cases h with
  | int i => exact .int i
  | bl b => exact .bl b
  | non => exact .non
  | lst h => exact .lst (s _ _ h)
  | tup h => exact .tup (s _ _ h)
  | dic h => exact .dic (s _ _ h)
/-- isinstance(x, str) of such a value -/
theorem isi_odd {K : PySem.W.Frag} {H : Hp} {v : V} {Q : VK} (h : Odd K H v) (q : Q (.bl false) H) : rIsi K [v, .ty "str"] H Q := by
  cases h with
  | lst ht => exact ⟨_, _, _, _, _, rfl, ClsV.ty "str", .base (.lst ht), kit_ty (by decide +kernel), q⟩
  | tup ht => exact ⟨_, _, _, _, _, rfl, ClsV.ty "str", .base (.tup ht), kit_ty (by decide +kernel), q⟩
  | dic ht => exact ⟨_, _, _, _, _, rfl, ClsV.ty "str", .base (.dK ht), kit_ty (by decide +kernel), q⟩
  | int i => exact ⟨_, _, _, _, _, rfl, ClsV.ty "str", .base (.int _), kit_ty (by decide +kernel), q⟩
  | bl b => exact ⟨_, _, _, _, _, rfl, ClsV.ty "str", .base (.bl _), kit_ty (by decide +kernel), q⟩
  | non => exact ⟨_, _, _, _, _, rfl, ClsV.ty "str", .base .non, kit_ty (by decide +kernel), q⟩
theorem isi_str {K : PySem.W.Frag} {H : Hp} {s : Str} {Q : VK} (q : Q (.bl true) H) : rIsi K [.str s, .ty "str"] H Q :=
  ⟨_, _, _, _, _, rfl, ClsV.ty "str", .base (.str _), kit_ty (by decide +kernel), q⟩
theorem starRing_small {l : List Nat} (h1 : 42 ∈ l) (h2 : ∀ c ∈ l, c ≠ 42 → 97 ≤ c ∧ c ≤ 122) : starRingB l = decide (l = minW (turnsL l)) := by
  unfold starRingB
  rw [decide_eq_true h1, wordB_of (l := l.filter fun c => decide (c ≠ 42)) fun c hc => ?_]
  · rfl
  · obtain ⟨m1, m2⟩ := List.mem_filter.mp hc
    exact h2 c m1 (of_decide_eq_true m2)
theorem mem_ring {l js : List Nat} {c : Nat} (hw : wordB l = true) (h : c ∈ ringL l js) (ne : c ≠ 42) : 97 ≤ c ∧ c ≤ 122 := by
  unfold ringL at h
  rcases List.mem_append.mp h with h | h
  · obtain ⟨d, hd, e⟩ := List.mem_map.mp h
    by_cases z : d ∈ js
    · rw [if_pos z] at e; omega
    · rw [if_neg z] at e
      rw [← e]; exact wordB_mem hw hd
  · exact absurd (List.mem_singleton.mp h) ne
theorem mem_rot {α : Type} {r : List α} {i : Nat} {c : α} : c ∈ rotL r i ↔ c ∈ r := by
  unfold rotL
  rw [List.mem_append, or_comm, ← List.mem_append, List.take_append_drop]
theorem count_rot {r : List Nat} {i c : Nat} : (rotL r i).count c = r.count c := by
  unfold rotL
  rw [List.count_append, Nat.add_comm, ← List.count_append, List.take_append_drop]
theorem star_in (l js : List Nat) : 42 ∈ ringL l js := by unfold ringL; simp
end Sw
namespace Sw
open PySem PySem.Spec PyProof.Rows L2
def alphaL : List Nat := (List.range 26).map fun i => 97 + i
theorem alpha_S : Str.ofString "abcdefghijklmnopqrstuvwxyz" = S alphaL := by decide +kernel
theorem alpha_nd : alphaL.Nodup := by decide +kernel
theorem alpha_mem {c : Nat} (h : c ∈ alphaL) : 97 ≤ c ∧ c ≤ 122 := by
  obtain ⟨i, hi, rfl⟩ := List.mem_map.mp h
  have := List.mem_range.mp hi
  omega
theorem seq_index {i : Int} {n : Nat} (h0 : 0 ≤ i) (h1 : i < (n : Int)) : seqIndex? i n = some i.toNat := by
  unfold seqIndex?
  simp
  omega
theorem erase_perm {α : Type} : ∀ {l : List α} {k : Nat} {x : α}, l[k]? = some x → (x :: l.eraseIdx k).Perm l
  | [], _, _, h => by simp at h
  | a :: r, 0, x, h => by
    simp at h
    subst h
    exact List.Perm.refl _
  | a :: r, k + 1, x, h => by
    have ih := erase_perm (l := r) (k := k) (x := x) (by simpa using h)
    exact (List.Perm.swap a x _).trans (ih.cons a)
theorem map_erase {α β : Type} (f : α → β) : ∀ (l : List α) (k : Nat), (l.map f).eraseIdx k = (l.eraseIdx k).map f
  | [], _ => rfl
  | _ :: _, 0 => rfl
  | a :: r, k + 1 => by
    show f a :: (r.map f).eraseIdx k = f a :: (r.eraseIdx k).map f
    rw [map_erase f r k]
end Sw
namespace Sw
open PySem PySem.Spec PyProof.Rows L2
theorem signs_at {l : List Nat} {i c : Nat} (h : l[i]? = some c) : (signsV l)[i]? = some (V.str (S [c])) := by
  rw [List.getElem?_map, List.getElem?_map, h]; rfl
theorem signs_of {l : List Nat} {i : Nat} {y : V} (h : (signsV l)[i]? = some y) : ∃ c, l[i]? = some c ∧ y = V.str (S [c]) := by
  rw [List.getElem?_map, List.getElem?_map] at h
  cases e : l[i]? with
  | none => rw [e] at h; cases h
  | some c => rw [e] at h; exact ⟨c, rfl, (Option.some.inj h).symm⟩
/-- the stars among the cells -/
def starsAt (r : List Nat) (n : Nat) : List Nat := (List.range n).filter fun j => decide (r[j]? = some 42)
theorem stars_succ {r : List Nat} {i c : Nat} (h : r[i]? = some c) : starsAt r (i + 1) = starsAt r i ++ (if c = 42 then [i] else []) := by
  unfold starsAt
  rw [List.range_succ, List.filter_append]
  congr 1
  rw [List.filter_cons, h]
  by_cases z : c = 42 <;> simp [z]
theorem stars_len (r : List Nat) (n : Nat) : (starsAt r n).length ≤ n := by
  unfold starsAt
  have h := List.length_filter_le (fun j => decide (r[j]? = some 42)) (List.range n)
  rw [List.length_range] at h
  exact h
theorem signs_flat (n : Nat) (l : List Nat) : (List.replicate n (signsV l)).flatten = signsV (List.replicate n l).flatten := by
  show (List.replicate n ((l.map fun c => S [c]).map V.str)).flatten = ((List.replicate n l).flatten.map fun c => S [c]).map V.str
  rw [List.map_flatten, List.map_flatten, List.map_replicate, List.map_replicate]
theorem flat_len (n : Nat) (l : List Nat) : (List.replicate n l).flatten.length = n * l.length := by
  rw [List.length_flatten, List.map_replicate, List.sum_replicate_nat]
theorem flat_mem {n : Nat} {l : List Nat} {c : Nat} (h : c ∈ (List.replicate n l).flatten) : c ∈ l := by
  obtain ⟨m, hm, hc⟩ := List.mem_flatten.mp h
  rw [(List.mem_replicate.mp hm).2] at hc
  exact hc
theorem wordV_len (l : List Nat) : (signsV l).length = l.length := by rw [List.length_map, List.length_map]
end Sw
namespace Sw
open PySem PySem.Spec PyProof.Rows L2
theorem keep_len (r : List Nat) : ((turnsL r).filter fun q => decide (q = r)).length = keepN r := by
  unfold keepN
  rw [List.count_eq_countP, List.countP_eq_length_filter]
  congr 1
  refine List.filter_congr fun q _ => ?_
  exact Bool.eq_iff_iff.mpr (by rw [beq_iff_eq, decide_eq_true_iff])
theorem words_of {ws : List (List Nat)} {i : Nat} {y : V} (h : (wordsV ws)[i]? = some y) : ∃ l, ws[i]? = some l ∧ y = V.str (S l) := by
  rw [List.getElem?_map] at h
  cases e : ws[i]? with
  | none => rw [e] at h; cases h
  | some c => rw [e] at h; exact ⟨c, rfl, (Option.some.inj h).symm⟩
theorem words_at {ws : List (List Nat)} {i : Nat} {l : List Nat} (h : ws[i]? = some l) : (wordsV ws)[i]? = some (V.str (S l)) := by
  rw [List.getElem?_map, h]; rfl
theorem turns_len (r : List Nat) : (turnsL r).length = r.length := by unfold turnsL; rw [List.length_map, List.length_range]
theorem filter_snoc {α : Type} {l : List α} {i : Nat} {x : α} (f : α → Bool) (h : l[i]? = some x) : (l.take (i + 1)).filter f = (l.take i).filter f ++ (if f x = true then [x] else []) := by
  rw [take_snoc h, List.filter_append]
  congr 1
  rw [List.filter_cons]
  split <;> simp_all
end Sw
namespace Sw
open PySem PySem.Spec PyProof.Rows L2
theorem nil_lit : Str.ofString "" = S [] := by decide +kernel
theorem joints_one {js : List Nat} (h : jointsB js = true) : jointsB (js.take 1) = true := by
  have hw : ∀ c ∈ js.take 1, 97 ≤ c ∧ c ≤ 122 := fun c hc => by
    unfold jointsB at h
    rw [Bool.and_eq_true] at h
    exact wordB_mem h.1 (List.mem_of_mem_take hc)
  refine jointsB_of ?_ hw
  cases js with
  | nil => exact .nil
  | cons c r => exact List.pairwise_singleton _ _
theorem word_rev {l : List Nat} (h : wordB l = true) : wordB l.reverse = true := wordB_of fun c hc => wordB_mem h (List.mem_reverse.mp hc)
theorem far_ring : minW (turnsL (ringL (List.replicate 150 [97, 120]).flatten [120])) = [42, 42, 97] ++ (List.replicate 149 [42, 97]).flatten := by decide +kernel
theorem far_keep : keepN (ringL (List.replicate 150 [97, 120]).flatten [120]) = 1 := by decide +kernel
theorem all_keep : keepN (ringL (List.replicate 299 [120]).flatten [120]) = 300 := by decide +kernel
theorem every_ring : minW (turnsL (ringL alphaL alphaL)) = (List.replicate 27 [42]).flatten := by decide +kernel
end Sw
namespace Sw
open PySem PySem.Spec PyProof.Rows L2
/-- what is no star ring -/
def Bad5 (K : PySem.W.Frag) (H : Hp) (v : V) : Prop := (∃ l : List Nat, v = .str (S l) ∧ l.length ≤ 50000 ∧ starRingB l = false) ∨ Odd K H v
end Sw
/-! Words that come of one another, by star rings and counts; words parted by what stands behind them. -/
namespace Sw
open PySem PySem.Spec PyProof.Rows L2
def evenB (l m js : List Nat) : Bool := js.all fun c => decide (l.count c = m.count c)
def comesB (l m js : List Nat) : Bool := decide (minW (turnsL (ringL l js)) = minW (turnsL (ringL m js))) && evenB l m js
/-- what may stand behind: none, or a letter -/
def behinds : List (List Nat) := [] :: alphaL.map fun c => [c]
def firstP (l m js : List Nat) : Option (List Nat) := behinds.find? fun b => !comesB (l ++ b) (m ++ b) js
def dueO (l m js : List Nat) : Option (List Nat) := if starL l js = starL m js ∧ evenB l m js = true then none else firstP l m js
theorem even_app {l m a b js : List Nat} (h : evenB l m js = true) : evenB (a ++ l ++ b) (a ++ m ++ b) js = true := by
  unfold evenB at *
  rw [List.all_eq_true] at *
  intro c hc
  have := of_decide_eq_true (h c hc)
  refine decide_eq_true ?_
  simp only [List.count_append, this]
theorem comes_same {l m a b js : List Nat} (h1 : starL l js = starL m js) (h2 : evenB l m js = true) : comesB (a ++ l ++ b) (a ++ m ++ b) js = true := by
  unfold comesB
  rw [even_app h2, Bool.and_true]
  refine decide_eq_true ?_
  unfold ringL
  simp only [star_app, h1]
/-- equal first turnings: the one ring is a turning of the other -/
theorem rot_of_min {r q : List Nat} (hr : r ≠ []) (hq : q ≠ []) (h : minW (turnsL r) = minW (turnsL q)) : ∃ k, k < r.length ∧ q = rotL r k := by
  obtain ⟨i, hi, ei⟩ := min_mem hr
  obtain ⟨j, hj, ej⟩ := min_mem hq
  have e : rotL r i = rotL q j := by rw [← ei, ← ej, h]
  have hl : r.length = q.length := by have := congrArg List.length e; rw [rot_len, rot_len] at this; exact this
  have e2 : rotL (rotL q j) (q.length - j) = q := by
    rw [rot_rot (by omega) (by omega), show j + (q.length - j) = q.length by omega, Nat.mod_self, rot_zero]
  refine ⟨(i + (q.length - j)) % r.length, Nat.mod_lt _ (by omega), ?_⟩
  rw [← rot_rot (by omega) (by omega), e, e2]
/-- a letter that is new tells the words apart -/
theorem tells {l m js : List Nat} {c : Nat} (hc : 97 ≤ c) (hl : ¬ c ∈ l) (hj : ¬ c ∈ js) (h : comesB (l ++ [c]) (m ++ [c]) js = true) : starL l js = starL m js := by
  unfold comesB at h
  rw [Bool.and_eq_true] at h
  obtain ⟨k, hk, e⟩ := rot_of_min (ring_ne _ _) (ring_ne _ _) (of_decide_eq_true h.1)
  have hlen : m.length = l.length := by
    have := congrArg List.length e
    rw [rot_len, ring_len, ring_len, List.length_append, List.length_append] at this
    simpa using this
  have r1 : ringL (l ++ [c]) js = starL l js ++ [c, 42] := by
    unfold ringL
    rw [star_app]
    simp [starL, hj]
  have r2 : ringL (m ++ [c]) js = starL m js ++ [c, 42] := by
    unfold ringL
    rw [star_app]
    simp [starL, hj]
  rw [r1] at hk e
  rw [r2] at e
  have hn : (starL l js ++ [c, 42]).length = l.length + 2 := by rw [List.length_append, star_len]; rfl
  rw [hn] at hk
  have g2 : (starL m js ++ [c, 42])[l.length]? = some c := by
    rw [List.getElem?_append_right (by rw [star_len]; omega), star_len, hlen, Nat.sub_self]; rfl
  rw [e, rot_get (by omega) (by omega), hn] at g2
  have only : ∀ j, (starL l js ++ [c, 42])[j]? = some c → j = l.length := by
    intro j hjc
    rcases Nat.lt_trichotomy j l.length with z | z | z
    · rw [List.getElem?_append_left (by rw [star_len]; exact z)] at hjc
      obtain ⟨d, hd, ed⟩ := List.mem_map.mp (List.mem_of_getElem? hjc)
      by_cases y : d ∈ js
      · rw [if_pos y] at ed; omega
      · rw [if_neg y] at ed; exact absurd (ed ▸ hd) hl
    · exact z
    · rw [List.getElem?_append_right (by rw [star_len]; omega), star_len] at hjc
      have : j - l.length < [c, 42].length := (List.getElem?_eq_some_iff.mp hjc).1
      have e1 : j - l.length = 1 := by simp at this; omega
      rw [e1] at hjc
      have : 42 = c := Option.some.inj hjc
      omega
  have hk0 : k = 0 := by
    have := only _ g2
    by_cases z : k + l.length < l.length + 2
    · rw [Nat.mod_eq_of_lt z] at this; omega
    · rw [Nat.mod_eq_sub_mod (by omega), Nat.mod_eq_of_lt (by omega)] at this; omega
  rw [hk0, rot_zero] at e
  exact (List.append_inj e (by rw [star_len, star_len, hlen])).1.symm
theorem first_some {l m js : List Nat} {c : Nat} (ha : c ∈ alphaL) (hl : ¬ c ∈ l) (hj : ¬ c ∈ js) (h : ¬ (starL l js = starL m js ∧ evenB l m js = true)) : ∃ b, firstP l m js = some b := by
  unfold firstP
  cases e : behinds.find? fun b => !comesB (l ++ b) (m ++ b) js with
  | some b => exact ⟨b, rfl⟩
  | none =>
    exfalso
    rw [List.find?_eq_none] at e
    have e0 := e [] List.mem_cons_self
    have e1 := e [c] (List.mem_cons_of_mem _ (List.mem_map.mpr ⟨c, ha, rfl⟩))
    simp only [List.append_nil, Bool.not_eq_true, Bool.not_eq_false'] at e0 e1
    refine h ⟨tells (alpha_mem ha).1 hl hj e1, ?_⟩
    unfold comesB at e0
    rw [Bool.and_eq_true] at e0
    exact e0.2
/-- among so few there is a letter that is new -/
theorem len_of_nodup : ∀ {a b : List Nat}, a.Nodup → (∀ c ∈ a, c ∈ b) → a.length ≤ b.length
  | [], _, _, _ => by simp
  | x :: r, b, nd, h => by
    obtain ⟨n1, n2⟩ := List.nodup_cons.mp nd
    have hx := h x List.mem_cons_self
    have ih := len_of_nodup (a := r) (b := b.erase x) n2 fun c hc => (List.mem_erase_of_ne (fun e : c = x => n1 (e ▸ hc))).mpr (h c (List.mem_cons_of_mem _ hc))
    rw [List.length_erase_of_mem hx] at ih
    have := List.length_pos_of_mem hx
    simp only [List.length_cons]
    omega
theorem new_letter {b : List Nat} (h : b.length < 26) : ∃ c, c ∈ alphaL ∧ ¬ c ∈ b := by
  refine Classical.byContradiction fun z => ?_
  have := len_of_nodup alpha_nd (b := b) fun c hc => Classical.byContradiction fun y => z ⟨c, hc, y⟩
  have e : alphaL.length = 26 := by decide
  omega
theorem even_symm (l m js : List Nat) : evenB l m js = evenB m l js := by
  unfold evenB
  congr 1
  funext c
  exact decide_eq_decide.mpr ⟨fun h => h.symm, fun h => h.symm⟩
theorem comes_symm (l m js : List Nat) : comesB l m js = comesB m l js := by
  unfold comesB
  rw [even_symm l m]
  congr 1
  exact decide_eq_decide.mpr ⟨fun h => h.symm, fun h => h.symm⟩
theorem due_symm (l m js : List Nat) : dueO l m js = dueO m l js := by
  unfold dueO firstP
  rw [even_symm l m]
  have e : (fun b => !comesB (l ++ b) (m ++ b) js) = fun b => !comesB (m ++ b) (l ++ b) js := by
    funext b; rw [comes_symm]
  rw [e]
  by_cases h : starL l js = starL m js
  · rw [h]
  · rw [if_neg (fun q => h q.1), if_neg (fun q => h q.1.symm)]
/-- None, or the pair of no letter and the first behind -/
def DueAt (H : Hp) (v : V) : Option (List Nat) → Prop
  | none => v = .non
  | some b => ∃ T, v = .ref T ∧ H T = some (.tup [.str (S []), .str (S b)])
def dueT : Option (List Nat) → Str
  | none => Str.ofString "None"
  | some b => (PyData.tuple [.str (S []), .str (S b)]).shown
theorem DueAt.same {H H' : Hp} {v : V} {o : Option (List Nat)} (s : Same H H') (h : DueAt H v o) : DueAt H' v o := by
  cases o with
  | none => exact h
  | some b => obtain ⟨T, e, d⟩ := h; exact ⟨T, e, s _ _ d⟩
theorem first_mem {l m js b : List Nat} (h : dueO l m js = some b) : b ∈ behinds := by
  unfold dueO at h
  split at h
  · cases h
  · exact List.mem_of_find?_eq_some h
theorem behind_shown : ∀ b ∈ behinds, (PyData.tuple [.str (S []), .str (S b)]).shown.length ≤ 1000 := by decide +kernel
theorem DueAt.dp {K : PySem.W.Frag} {H : Hp} {v : V} {b : List Nat} (h : DueAt H v (some b)) : Dp K H v (.tuple [.str (S []), .str (S b)]) := by
  obtain ⟨T, rfl, d⟩ := h
  exact .tup (SqT.of d) (.cons (.str _) (.cons (.str _) .nil))
theorem DueAt.rp {K : PySem.W.Frag} {H : Hp} {v : V} {o : Option (List Nat)} (h : DueAt H v o) (hb : ∀ b, o = some b → b ∈ behinds) : Rp K H v (dueT o) := by
  cases o with
  | none => cases h; exact .non
  | some b =>
    have hs := behind_shown b (hb b rfl)
    obtain ⟨T, rfl, d⟩ := id h
    exact .seq (DueAt.dp h) rfl rfl (Nat.le_of_ble_eq_true rfl) (Nat.le_trans hs (by decide))
/-! ### values compared that read as data: no bound on the signs of texts -/
def rEqP (K : PySem.W.Frag) : R2 := fun x y H Q => ∃ d e, Dp K H x d ∧ Dp K H y e ∧ d.plain = true ∧ e.plain = true ∧ d.depth ≤ 64 ∧ Q (.bl (PyData.eqv d e)) H
def rNeP (K : PySem.W.Frag) : R2 := fun x y H Q => ∃ d e, Dp K H x d ∧ Dp K H y e ∧ d.plain = true ∧ e.plain = true ∧ d.depth ≤ 64 ∧ Q (.bl (!PyData.eqv d e)) H
theorem op_eqP {X : Cx} (hu : X.A.units + 64 < cLine) : OpR X (compareOp .Eq) (rEqP X.K) := by
  intro pins s σ H x y v u Q I rx ry h
  obtain ⟨d, e, hd, he, pd, pe, dd, q⟩ := h
  obtain ⟨as, r1⟩ := Dp.reads I d x v hd rx
  obtain ⟨bs, r2⟩ := Dp.reads I e y u he ry
  exact PySem.SeqAt.eq_plain r1 r2 pd pe (by omega) ⟨.bl _, H, I, rfl, q⟩
theorem op_neP {X : Cx} (hu : X.A.units + 64 < cLine) : OpR X (compareOp .NotEq) (rNeP X.K) := by
  intro pins s σ H x y v u Q I rx ry h
  obtain ⟨d, e, hd, he, pd, pe, dd, q⟩ := h
  obtain ⟨as, r1⟩ := Dp.reads I d x v hd rx
  obtain ⟨bs, r2⟩ := Dp.reads I e y u he ry
  exact PySem.SeqAt.ne_plain r1 r2 pd pe (by omega) ⟨.bl _, H, I, rfl, q⟩
/-- two loops, the one within the other: what one turn does is told by the body -/
theorem it2 {J : It} {n : Nat} {G : Hp → Prop} {Y : Nat → Hp → V → Hp → Prop} (w : Walk J n G Y) {body : V → Hp → (Hp → Prop) → Prop} {H0 : Hp} {Qd : Hp → Prop} (Pv : Nat → Hp → Prop) (h0 : Pv 0 H0) (hG : ∀ i H, i ≤ n → Pv i H → G H)
    (hs : ∀ i x H H', i < n → Pv i H → Y i H x H' → body x H' (Pv (i + 1))) (hd : ∀ H, Pv n H → Qd H) :
    ∃ W : Nat → Nat → Hp → Prop, (∃ m, W 0 m H0) ∧ ∀ i m H, W i m H →
      (J.stop i H ∧ Qd H) ∨ (J.go i H ∧ ∃ Nx : Hp → Prop, (∀ H', Nx H' → ∃ m', m' < m ∧ W (i + 1) m' H') ∧ ∀ x H', J.yld i H x H' → body x H' Nx) := by
  refine ⟨fun i m H => m = n - i ∧ i ≤ n ∧ Pv i H, ⟨n, by simp, Nat.zero_le _, h0⟩, ?_⟩
  rintro i m H ⟨rfl, hi, p⟩
  have q := hG i H hi p
  by_cases hlt : i < n
  · exact .inr ⟨w.goes i H hlt q, Pv (i + 1), fun H' p' => ⟨n - (i + 1), by omega, rfl, hlt, p'⟩, fun x H' y => hs i x H H' hlt p (w.yields i H x H' hlt q y)⟩
  · have e : i = n := by omega
    subst e
    exact .inl ⟨w.stops H q, hd H p⟩
/-! ### keys -/
theorem countsD_eqv (l m : List Nat) : ∀ js : List Nat, PyData.eqvAll (js.map fun c => PyData.int (l.count c : Nat)) (js.map fun c => PyData.int (m.count c : Nat)) = evenB l m js
  | [] => rfl
  | c :: r => by
    show (PyData.eqv (.int (l.count c : Nat)) (.int (m.count c : Nat)) && PyData.eqvAll _ _) = (decide (l.count c = m.count c) && evenB l m r)
    rw [countsD_eqv l m r]
    congr 1
    show (((l.count c : Nat) : Int) == ((m.count c : Nat) : Int)) = _
    exact Bool.eq_iff_iff.mpr (by rw [beq_iff_eq, decide_eq_true_iff]; omega)
theorem counts_dp {K : PySem.W.Frag} {H : Hp} (l : List Nat) : ∀ js : List Nat, DpAll K H (js.map fun c => V.int (l.count c : Nat)) (js.map fun c => PyData.int (l.count c : Nat))
  | [] => .nil
  | c :: r => .cons (.int _) (counts_dp l r)
theorem counts_plain (l : List Nat) : ∀ js : List Nat, PyData.plainAll (js.map fun c => PyData.int (l.count c : Nat)) = true
  | [] => rfl
  | c :: r => counts_plain l r
theorem counts_depth (l : List Nat) : ∀ js : List Nat, PyData.depthAll (js.map fun c => PyData.int (l.count c : Nat)) = 0
  | [] => rfl
  | c :: r => by
    show max (PyData.depth (.int (l.count c : Nat))) (PyData.depthAll (r.map fun c => PyData.int (l.count c : Nat))) = 0
    rw [counts_depth l r]
    rfl
def keyD (l js : List Nat) : PyData := .tuple [.str (S (minW (turnsL (ringL l js)))), .tuple (js.map fun c => PyData.int (l.count c : Nat))]
theorem key_plain (l js : List Nat) : (keyD l js).plain = true := by
  show (true && (PyData.plainAll (js.map fun c => PyData.int (l.count c : Nat)) && true)) = true
  rw [counts_plain]; rfl
theorem key_depth (l js : List Nat) : (keyD l js).depth ≤ 64 := by
  show max 0 (max (PyData.depthAll (js.map fun c => PyData.int (l.count c : Nat)) + 1) 0) + 1 ≤ 64
  rw [counts_depth]; decide
theorem key_eqv (l m js : List Nat) : PyData.eqv (keyD l js) (keyD m js) = comesB l m js := by
  show ((S (minW (turnsL (ringL l js))) == S (minW (turnsL (ringL m js)))) && (PyData.eqvAll (js.map fun c => PyData.int (l.count c : Nat)) (js.map fun c => PyData.int (m.count c : Nat)) && true)) = comesB l m js
  rw [countsD_eqv, Bool.and_true]
  unfold comesB
  congr 1
  exact Bool.eq_iff_iff.mpr (by rw [beq_iff_eq, decide_eq_true_iff]; exact ⟨fun h => SX.S_inj h, fun h => by rw [h]⟩)
/-! ### all texts to some letters -/
def textsN : Nat → List (List Nat)
  | 0 => [[]]
  | n + 1 => (textsN n).flatMap fun t => alphaL.map fun c => t ++ [c]
def findB (l m js : List Nat) (n : Nat) : Option (List Nat) := (textsN n).find? fun b => !comesB (l ++ b) (m ++ b) js
theorem textsN_one : textsN 1 = alphaL.map fun c => [c] := rfl
theorem first_find (l m js : List Nat) : firstP l m js = (findB l m js 0).or (findB l m js 1) := by
  unfold firstP findB
  rw [textsN_one]
  show List.find? _ ([] :: _) = (List.find? _ [[]]).or _
  rw [List.find?_cons, List.find?_cons]
  split <;> simp
theorem find_at {α : Type} {p : α → Bool} {xs : List α} {i : Nat} {x : α} (h : xs[i]? = some x) (ha : ∀ y ∈ xs.take i, p y = false) (hx : p x = true) : xs.find? p = some x := by
  have e : xs = xs.take i ++ x :: xs.drop (i + 1) := by
    obtain ⟨hi, e⟩ := List.getElem?_eq_some_iff.mp h
    rw [← e, ← List.drop_eq_getElem_cons hi, List.take_append_drop]
  rw [e, List.find?_append, List.find?_eq_none.mpr (fun y hy => by rw [ha y hy]; decide), List.find?_cons, hx]
  rfl
theorem behinds_texts : behinds = textsN 0 ++ textsN 1 := rfl
theorem comes_not_count {l m js : List Nat} {c : Nat} (hc : c ∈ js) (h : l.count c ≠ m.count c) : comesB l m js = false := by
  refine Bool.eq_false_iff.mpr fun q => ?_
  unfold comesB evenB at q
  rw [Bool.and_eq_true, List.all_eq_true] at q
  exact h (of_decide_eq_true (q.2 c hc))
theorem comes_not_ring {l m js : List Nat} (h : ¬ minW (turnsL (ringL l js)) = minW (turnsL (ringL m js))) : comesB l m js = false := by
  unfold comesB
  rw [decide_eq_false h]; rfl
theorem comes_yes {l m js : List Nat} (h : minW (turnsL (ringL l js)) = minW (turnsL (ringL m js))) (hq : ∀ c ∈ js, l.count c = m.count c) : comesB l m js = true := by
  unfold comesB evenB
  rw [decide_eq_true h, Bool.true_and, List.all_eq_true]
  exact fun c hc => decide_eq_true (hq c hc)
theorem texts_one {n : Nat} {b : List Nat} (hn : n ≤ 1) (hb : b ∈ textsN n) : b.length ≤ 1 ∧ wordB b = true := by
  have e : n = 0 ∨ n = 1 := by omega
  rcases e with rfl | rfl
  · rw [List.mem_singleton.mp hb]; exact ⟨by decide, rfl⟩
  · rw [textsN_one] at hb
    obtain ⟨c, hc, rfl⟩ := List.mem_map.mp hb
    exact ⟨by simp, wordB_of fun d hd => by rw [List.mem_singleton.mp hd]; exact alpha_mem hc⟩
theorem word_app {a b : List Nat} (ha : wordB a = true) (hb : wordB b = true) : wordB (a ++ b) = true := wordB_of fun c hc => (List.mem_append.mp hc).elim (wordB_mem ha) (wordB_mem hb)
theorem even_filter (l m js : List Nat) : (js.filter fun c => decide (l.count c ≠ m.count c)).isEmpty = evenB l m js := by
  unfold evenB
  induction js with
  | nil => rfl
  | cons c r ih =>
    rw [List.filter_cons, List.all_cons, ← ih]
    by_cases z : l.count c = m.count c
    · simp [z]
    · simp [z]
theorem signs_words (l : List Nat) : signsV l = wordsV (l.map fun c => [c]) := by simp [wordsV]
theorem words_eqv_nil (ws : List (List Nat)) : PyData.eqv (.list (wordsD ws)) (.list []) = ws.isEmpty := by
  cases ws with
  | nil => rfl
  | cons _ _ => rfl
theorem words_plainL (ws : List (List Nat)) : (PyData.list (wordsD ws)).plain = true := plain_words ws
theorem words_depthL (ws : List (List Nat)) : (PyData.list (wordsD ws)).depth ≤ 64 := by
  show PyData.depthAll (wordsD ws) + 1 ≤ 64
  rw [words_depth]; decide
theorem due_found {l m js b : List Nat} (h : dueO l m js = some b) : comesB (l ++ b) (m ++ b) js = false := by
  unfold dueO at h
  split at h
  · cases h
  · have := List.find?_some h
    simpa using this
theorem due_none {l m js : List Nat} (hn : ∃ b, dueO l m js = some b ∨ (starL l js = starL m js ∧ evenB l m js = true)) (h : dueO l m js = none) : starL l js = starL m js ∧ evenB l m js = true := by
  obtain ⟨b, hb | hb⟩ := hn
  · rw [h] at hb; cases hb
  · exact hb
theorem lit3 {a b c : Str} {l m js : List Nat} (h1 : a = S l) (h2 : b = S m) (h3 : c = S js) : [V.str a, V.str b, V.str c] = [V.str (S l), V.str (S m), V.str (S js)] := by rw [h1, h2, h3]
end Sw
/-! Words that deeds lead to; books of joints compared. -/
namespace Sw
open PySem PySem.Spec PyProof.Rows L2
/-- v is come to from w by deeds at letters of B -/
inductive Reach (B : List Nat) (w : List Nat) : List Nat → Prop
  | refl : Reach B w w
  | step {v : List Nat} {i c : Nat} : Reach B w v → v[i]? = some c → c ∈ B → Reach B w (swapL v i)
theorem Reach.len {B w v : List Nat} (h : Reach B w v) : v.length = w.length := by
  induction h with
  | refl => rfl
  | step h e _ ih => rw [swapL_len (List.getElem?_eq_some_iff.mp e).1, ih]
theorem Reach.mem {B w v : List Nat} (h : Reach B w v) : ∀ c ∈ v, c ∈ w := by
  induction h with
  | refl => exact fun _ h => h
  | step h e _ ih => exact fun c hc => ih c (swapL_mem hc)
theorem Reach.mono {B B' w v : List Nat} (h : Reach B w v) (hs : ∀ c ∈ w, c ∈ B → c ∈ B') : Reach B' w v := by
  induction h with
  | refl => exact .refl
  | step h e hc ih => exact .step ih e (hs _ (h.mem _ (List.mem_of_getElem? e)) hc)
theorem Reach.trans {B w v u : List Nat} (h : Reach B w v) (g : Reach B v u) : Reach B w u := by
  induction g with
  | refl => exact h
  | step _ e hc ih => exact .step ih e hc
/-- the star ring is turned -/
theorem Reach.ring {B w v : List Nat} (h : Reach B w v) : ∃ k, k < w.length + 1 ∧ ringL v B = rotL (ringL w B) k := by
  induction h with
  | refl => exact ⟨0, by omega, (rot_zero _).symm⟩
  | @step v i c h e hc ih =>
    obtain ⟨k, hk, er⟩ := ih
    have hi : i < v.length := (List.getElem?_eq_some_iff.mp e).1
    have hl := h.len
    rw [ring_swap e hc, er, rot_rot (by rw [ring_len]; omega) (by rw [ring_len]; omega)]
    exact ⟨_, by rw [ring_len]; exact Nat.mod_lt _ (by omega), rfl⟩
/-- a list that holds the word, is closed, and holds nothing else -/
theorem reach_list {B w : List Nat} {ws : List (List Nat)} (h0 : w ∈ ws) (h1 : ∀ v ∈ ws, Reach B w v) (h2 : ∀ v ∈ ws, ∀ i c, v[i]? = some c → c ∈ B → swapL v i ∈ ws) : ∀ v, v ∈ ws ↔ Reach B w v := by
  intro v
  refine ⟨h1 v, fun h => ?_⟩
  induction h with
  | refl => exact h0
  | step _ e hc ih => exact h2 _ ih _ _ e hc
/-! ### words of a size over some letters -/
def allW (L : List Nat) : Nat → List (List Nat)
  | 0 => [[]]
  | n + 1 => (allW L n).flatMap fun t => L.map fun c => t ++ [c]
theorem mem_allW {L : List Nat} : ∀ {n : Nat} {w : List Nat}, w ∈ allW L n ↔ w.length = n ∧ ∀ c ∈ w, c ∈ L
  | 0, w => by
    show w ∈ [[]] ↔ _
    rw [List.mem_singleton]
    constructor
    · rintro rfl; exact ⟨rfl, by simp⟩
    · rintro ⟨h, _⟩; exact List.eq_nil_of_length_eq_zero h
  | n + 1, w => by
    show w ∈ (allW L n).flatMap _ ↔ _
    rw [List.mem_flatMap]
    constructor
    · rintro ⟨t, ht, h⟩
      obtain ⟨c, hc, rfl⟩ := List.mem_map.mp h
      obtain ⟨h1, h2⟩ := mem_allW.mp ht
      refine ⟨by simp [h1], fun d hd => ?_⟩
      rcases List.mem_append.mp hd with hd | hd
      · exact h2 d hd
      · rw [List.mem_singleton.mp hd]; exact hc
    · rintro ⟨h1, h2⟩
      have hne : w ≠ [] := by intro e; rw [e] at h1; simp at h1
      refine ⟨w.dropLast, mem_allW.mpr ⟨by rw [List.length_dropLast, h1]; rfl, fun c hc => h2 c (List.dropLast_subset w hc)⟩, List.mem_map.mpr ⟨w.getLast hne, h2 _ (List.getLast_mem hne), List.dropLast_concat_getLast hne⟩⟩
theorem len_allW (L : List Nat) : ∀ n, (allW L n).length = L.length ^ n
  | 0 => rfl
  | n + 1 => by
    show ((allW L n).flatMap _).length = _
    rw [List.length_flatMap]
    have e : ((allW L n).map fun t => (L.map fun c => t ++ [c]).length) = (allW L n).map fun _ => L.length := List.map_congr_left fun t _ => List.length_map _
    rw [e, List.map_const', List.sum_replicate_nat, len_allW L n, Nat.pow_succ]
/-- few words without a double -/
theorem few_of_nodup : ∀ {a b : List (List Nat)}, a.Nodup → (∀ c ∈ a, c ∈ b) → a.length ≤ b.length
  | [], _, _, _ => by simp
  | x :: r, b, nd, h => by
    obtain ⟨n1, n2⟩ := List.nodup_cons.mp nd
    have hx := h x List.mem_cons_self
    have ih := few_of_nodup (a := r) (b := b.erase x) n2 fun c hc => (List.mem_erase_of_ne (fun e : c = x => n1 (e ▸ hc))).mpr (h c (List.mem_cons_of_mem _ hc))
    rw [List.length_erase_of_mem hx] at ih
    have := List.length_pos_of_mem hx
    simp only [List.length_cons]
    omega
/-! ### books -/
def lackN (B L : List Nat) : Nat := (L.filter fun c => decide (¬ c ∈ B)).length
def withinB (B B' L : List Nat) (n : Nat) : Bool := decide (n < 2 ∨ L.length < 2 ∨ (∀ c ∈ L, c ∈ B → c ∈ B') ∨ (n = 2 ∧ lackN B' L ≤ 1))
/-- whatever comes of a word by the one book comes of it by the other one -/
def Within (B B' L : List Nat) (n : Nat) : Prop := ∀ w ∈ allW L n, ∀ v, Reach B w v → Reach B' w v
theorem still {B w v : List Nat} (h : Reach B w v) (hs : ∀ i c, w[i]? = some c → swapL w i = w) : v = w := by
  induction h with
  | refl => rfl
  | step _ e _ ih => subst ih; exact hs _ _ e
theorem within_few {B B' L : List Nat} {n : Nat} (h : n < 2 ∨ L.length < 2) : Within B B' L n := by
  intro w hw v hv
  obtain ⟨h1, h2⟩ := mem_allW.mp hw
  have e : v = w := still hv fun i c hc => by
    have hi : i < w.length := (List.getElem?_eq_some_iff.mp hc).1
    have all : ∀ x ∈ w, ∀ y ∈ w, x = y ∨ n < 2 := fun x hx y hy => by
      rcases h with h | h
      · exact .inr h
      · left
        have hx' := h2 x hx
        have hy' := h2 y hy
        match L, h with
        | [], _ => cases hx'
        | [z], _ => rw [List.mem_singleton.mp hx', List.mem_singleton.mp hy']
    have same : ∀ x ∈ w, ∀ y ∈ w, x = y := fun x hx y hy => by
      rcases all x hx y hy with q | q
      · exact q
      · match w, h1, hx, hy with
        | [], _, hx, _ => cases hx
        | [z], _, hx, hy => rw [List.mem_singleton.mp hx, List.mem_singleton.mp hy]
        | _ :: _ :: _, h1, _, _ => simp only [List.length_cons] at h1; omega
    have hrep : w = List.replicate w.length c := List.eq_replicate_iff.mpr ⟨rfl, fun x hx => same x hx c (List.mem_of_getElem? hc)⟩
    have hrep2 : swapL w i = List.replicate w.length c := List.eq_replicate_iff.mpr ⟨swapL_len hi, fun x hx => same x (swapL_mem hx) c (List.mem_of_getElem? hc)⟩
    rw [hrep2, ← hrep]
  rw [e]; exact .refl
theorem two_lack {B L : List Nat} {x y : Nat} (hx : x ∈ L) (hy : y ∈ L) (hne : x ≠ y) (bx : ¬ x ∈ B) (by' : ¬ y ∈ B) : 2 ≤ lackN B L := by
  unfold lackN
  have := len_of_nodup (a := [x, y]) (b := L.filter fun c => decide (¬ c ∈ B)) (by simp [hne]) fun c hc => by
    simp only [List.mem_cons, List.not_mem_nil, or_false] at hc
    rcases hc with rfl | rfl
    · exact List.mem_filter.mpr ⟨hx, decide_eq_true bx⟩
    · exact List.mem_filter.mpr ⟨hy, decide_eq_true by'⟩
  exact this
theorem other_lack {B L : List Nat} {c : Nat} (nd : L.Nodup) (h : 2 ≤ lackN B L) : ∃ d ∈ L, d ≠ c ∧ ¬ d ∈ B := by
  unfold lackN at h
  have ndf : (L.filter fun c => decide (¬ c ∈ B)).Nodup := nd.sublist List.filter_sublist
  match hf : L.filter fun c => decide (¬ c ∈ B), h with
  | [], h => simp at h
  | [_], h => simp at h
  | x :: y :: r, _ => 
    rw [hf] at ndf
    have hx : x ∈ L.filter fun c => decide (¬ c ∈ B) := by rw [hf]; exact List.mem_cons_self
    have hy : y ∈ L.filter fun c => decide (¬ c ∈ B) := by rw [hf]; exact List.mem_cons_of_mem _ List.mem_cons_self
    obtain ⟨x1, x2⟩ := List.mem_filter.mp hx
    obtain ⟨y1, y2⟩ := List.mem_filter.mp hy
    have hxy : x ≠ y := by
      rintro rfl
      exact (List.nodup_cons.mp ndf).1 List.mem_cons_self
    by_cases z : x = c
    · exact ⟨y, y1, fun e => hxy (z.trans e.symm), of_decide_eq_true y2⟩
    · exact ⟨x, x1, z, of_decide_eq_true x2⟩
theorem other_of {L : List Nat} {c : Nat} (nd : L.Nodup) (h : 2 ≤ L.length) : ∃ d ∈ L, d ≠ c := by
  match L, h, nd with
  | x :: y :: r, _, nd =>
    by_cases z : x = c
    · refine ⟨y, List.mem_cons_of_mem _ List.mem_cons_self, fun e => ?_⟩
      exact (List.nodup_cons.mp nd).1 (by rw [z, ← e]; exact List.mem_cons_self)
    · exact ⟨x, List.mem_cons_self, z⟩
theorem two_only {B v : List Nat} {x y : Nat} (hv : Reach B [x, y] v) : v = [x, y] ∨ v = [y, x] := by
  induction hv with
  | refl => exact .inl rfl
  | @step u i c _ e _ ih =>
    have hi : i < u.length := (List.getElem?_eq_some_iff.mp e).1
    rcases ih with rfl | rfl
    · match i, hi with
      | 0, _ => exact .inr rfl
      | 1, _ => exact .inr rfl
    · match i, hi with
      | 0, _ => exact .inl rfl
      | 1, _ => exact .inl rfl
theorem within_two {B B' L : List Nat} (h : lackN B' L ≤ 1) : Within B B' L 2 := by
  intro w hw v hv
  obtain ⟨h1, h2⟩ := mem_allW.mp hw
  match w, h1, h2, hv with
  | [x, y], _, h2, hv =>
    have hv2 := two_only hv
    rcases hv2 with rfl | rfl
    · exact .refl
    · by_cases hxy : x = y
      · rw [hxy]; exact .refl
      · by_cases hx : x ∈ B'
        · exact Reach.step (i := 0) (c := x) .refl rfl hx
        · by_cases hy : y ∈ B'
          · exact Reach.step (i := 1) (c := y) .refl rfl hy
          · have := two_lack (h2 x (by simp)) (h2 y (by simp)) hxy hx hy
            omega
theorem not_within_two {B B' L : List Nat} {c : Nat} (nd : L.Nodup) (hc : c ∈ L) (hb : c ∈ B) (hb' : ¬ c ∈ B') (h : 2 ≤ lackN B' L) : ¬ Within B B' L 2 := by
  obtain ⟨d, hd, hdc, hdb⟩ := other_lack (c := c) nd h
  intro W
  have r := W [c, d] (mem_allW.mpr ⟨rfl, fun x hx => by
    simp only [List.mem_cons, List.not_mem_nil, or_false] at hx
    rcases hx with rfl | rfl <;> assumption⟩) [d, c] (Reach.step (v := [c, d]) (i := 0) (c := c) .refl rfl hb)
  have e : ([d, c] : List Nat) = [c, d] := by
    have key : ∀ v, Reach B' [c, d] v → v = [c, d] := fun v hv => by
      induction hv with
      | refl => rfl
      | step _ e hx ih =>
        subst ih
        have := List.mem_of_getElem? e
        simp only [List.mem_cons, List.not_mem_nil, or_false] at this
        rcases this with rfl | rfl
        · exact absurd hx hb'
        · exact absurd hx hdb
    exact key _ r
  injection e with e1 _
  exact hdc e1
theorem not_within_three {B B' L : List Nat} {c : Nat} (nd : L.Nodup) (hL : 2 ≤ L.length) (hc : c ∈ L) (hz : c ≠ 42) (hb : c ∈ B) (hb' : ¬ c ∈ B') : ¬ Within B B' L 3 := by
  obtain ⟨d, hd, hdc⟩ := other_of (c := c) nd hL
  intro W
  have r := W [c, c, d] (mem_allW.mpr ⟨rfl, fun x hx => by
    simp only [List.mem_cons, List.not_mem_nil, or_false] at hx
    rcases hx with rfl | rfl | rfl <;> assumption⟩) [c, d, c] (Reach.step (v := [c, c, d]) (i := 0) (c := c) .refl rfl hb)
  obtain ⟨k, hk, e⟩ := r.ring
  have hxc : (if d ∈ B' then 42 else d) ≠ c := by split <;> omega
  simp only [ringL, starL, List.map_cons, List.map_nil, if_neg hb'] at e
  generalize (if d ∈ B' then 42 else d) = x at e hxc
  have hk4 : k = 0 ∨ k = 1 ∨ k = 2 ∨ k = 3 := by simp only [List.length_cons, List.length_nil] at hk; omega
  rcases hk4 with rfl | rfl | rfl | rfl <;> simp [rotL] at e <;> omega
theorem not_within_four {B B' L : List Nat} {c : Nat} (nd : L.Nodup) (hL : 2 ≤ L.length) (hc : c ∈ L) (hz : c ≠ 42) (hb : c ∈ B) (hb' : ¬ c ∈ B') : ¬ Within B B' L 4 := by
  obtain ⟨d, hd, hdc⟩ := other_of (c := c) nd hL
  intro W
  have r := W [c, c, d, d] (mem_allW.mpr ⟨rfl, fun x hx => by
    simp only [List.mem_cons, List.not_mem_nil, or_false] at hx
    rcases hx with rfl | rfl | rfl | rfl <;> assumption⟩) [c, d, d, c] (Reach.step (v := [c, c, d, d]) (i := 0) (c := c) .refl rfl hb)
  obtain ⟨k, hk, e⟩ := r.ring
  have hxc : (if d ∈ B' then 42 else d) ≠ c := by split <;> omega
  simp only [ringL, starL, List.map_cons, List.map_nil, if_neg hb'] at e
  generalize (if d ∈ B' then 42 else d) = x at e hxc
  have hk4 : k = 0 ∨ k = 1 ∨ k = 2 ∨ k = 3 ∨ k = 4 := by simp only [List.length_cons, List.length_nil] at hk; omega
  rcases hk4 with rfl | rfl | rfl | rfl | rfl <;> simp [rotL] at e <;> omega
/-- for words of at most four letters -/
theorem within_iff {B B' L : List Nat} {n : Nat} (nd : L.Nodup) (hw : ∀ c ∈ L, 97 ≤ c) (hn : n ≤ 4) : Within B B' L n ↔ withinB B B' L n = true := by
  unfold withinB
  rw [decide_eq_true_iff]
  constructor
  · intro W
    refine Classical.byContradiction fun q => ?_
    have q1 : ¬ n < 2 := fun h => q (.inl h)
    have q2 : ¬ L.length < 2 := fun h => q (.inr (.inl h))
    have q3 : ¬ ∀ c ∈ L, c ∈ B → c ∈ B' := fun h => q (.inr (.inr (.inl h)))
    have q4 : ¬ (n = 2 ∧ lackN B' L ≤ 1) := fun h => q (.inr (.inr (.inr h)))
    obtain ⟨c, hc⟩ := Classical.not_forall.mp q3
    obtain ⟨hcL, hc⟩ := Classical.not_imp.mp hc
    obtain ⟨hcB, hcB'⟩ := Classical.not_imp.mp hc
    have hz : c ≠ 42 := by have := hw c hcL; omega
    have hn3 : n = 2 ∨ n = 3 ∨ n = 4 := by omega
    rcases hn3 with rfl | rfl | rfl
    · exact not_within_two nd hcL hcB hcB' (by have : ¬ lackN B' L ≤ 1 := fun h => q4 ⟨rfl, h⟩; omega) W
    · exact not_within_three nd (by omega) hcL hz hcB hcB' W
    · exact not_within_four nd (by omega) hcL hz hcB hcB' W
  · rintro (h | h | h | ⟨rfl, h⟩)
    · exact within_few (.inl h)
    · exact within_few (.inr h)
    · intro w hw' v hv
      exact hv.mono fun c hc => h c ((mem_allW.mp hw').2 c hc)
    · exact within_two h
theorem within_self (B L : List Nat) (n : Nat) : withinB B B L n = true := decide_eq_true (.inr (.inr (.inl fun _ _ h => h)))
theorem within_nil (B L : List Nat) (n : Nat) : withinB [] B L n = true := decide_eq_true (.inr (.inr (.inl fun _ _ h => nomatch h)))
theorem within_far {B B' L : List Nat} {n : Nat} (hn : 5 ≤ n) : withinB B B' L n = decide (L.length < 2 ∨ (L.filter fun c => decide (c ∈ B) && decide (¬ c ∈ B')) = []) := by
  unfold withinB
  refine decide_eq_decide.mpr ?_
  rw [List.filter_eq_nil_iff]
  constructor
  · rintro (h | h | h | ⟨h, _⟩)
    · omega
    · exact .inl h
    · refine .inr fun c hc q => ?_
      rw [Bool.and_eq_true] at q
      exact of_decide_eq_true q.2 (h c hc (of_decide_eq_true q.1))
    · omega
  · rintro (h | h)
    · exact .inr (.inl h)
    · refine .inr (.inr (.inl fun c hc hB => Classical.byContradiction fun q => h c hc ?_))
      rw [Bool.and_eq_true]
      exact ⟨decide_eq_true hB, decide_eq_true q⟩
theorem op_notIn_seqK {X : Cx} (K : PySem.W.Frag) (h : X.K = K := by rfl) : OpR X (compareOp .NotIn) (rIn K true) := h ▸ op_notIn_seq
/-- a dict that knows some words -/
def wordsK (ws : List (List Nat)) : List (Key × V) := ws.map fun l => (Sum.inr (S l), V.bl true)
theorem wordsK_val (l : List Nat) : ∀ ws : List (List Nat), (valV (wordsK ws) (Sum.inr (S l))).isSome = decide (l ∈ ws)
  | [] => rfl
  | x :: r => by
    by_cases z : x = l
    · subst z
      rw [show wordsK (x :: r) = (Sum.inr (S x), V.bl true) :: wordsK r from rfl, valV_pos rfl]
      simp
    · rw [show wordsK (x :: r) = (Sum.inr (S x), V.bl true) :: wordsK r from rfl, valV_neg (fun e => z (SX.S_inj (Sum.inr.inj e))), wordsK_val l r]
      refine decide_eq_decide.mpr ⟨fun h => List.mem_cons_of_mem _ h, fun h => ?_⟩
      rcases List.mem_cons.mp h with h | h
      · exact absurd h.symm z
      · exact h
theorem wordsK_put {ws : List (List Nat)} {l : List Nat} (h : ¬ l ∈ ws) : putK (wordsK ws) (Sum.inr (S l)) (V.bl true) = wordsK (ws ++ [l]) := by
  have e : valV (wordsK ws) (Sum.inr (S l)) = none := by
    have := wordsK_val l ws
    rw [decide_eq_false h] at this
    cases hv : valV (wordsK ws) (Sum.inr (S l)) with
    | none => rfl
    | some _ => rw [hv] at this; cases this
  rw [putK_new _ e]
  simp [wordsK]
theorem in_words (l : List Nat) (ws : List (List Nat)) : inV (V.str (S l)) (wordsV ws) = decide (l ∈ ws) := by
  unfold inV
  induction ws with
  | nil => rfl
  | cons x r ih =>
    show (S x == S l || (wordsV r).any _) = _
    rw [ih]
    by_cases z : x = l
    · subst z; simp
    · have : ¬ S x = S l := fun e => z (SX.S_inj e)
      have e1 : (S x == S l) = false := by rw [beq_eq_false_iff_ne]; exact this
      rw [e1, Bool.false_or]
      refine decide_eq_decide.mpr ⟨fun h => List.mem_cons_of_mem _ h, fun h => ?_⟩
      rcases List.mem_cons.mp h with h | h
      · exact absurd h.symm z
      · exact h
theorem words_flat : ∀ ws : List (List Nat), (wordsV ws).all flatV = true
  | [] => rfl
  | _ :: r => words_flat r
/-- what a search knows on its way: words without a double, all come to; from those ahead of the place all deeds were done -/
structure Found (B w : List Nat) (ws : List (List Nat)) (i : Nat) : Prop where
  nd : ws.Nodup
  start : w ∈ ws
  reach : ∀ v ∈ ws, Reach B w v
  done : ∀ j v, j < i → ws[j]? = some v → ∀ p c, v[p]? = some c → c ∈ B → swapL v p ∈ ws
theorem Found.len {B w : List Nat} {ws : List (List Nat)} {i : Nat} (h : Found B w ws i) (hw : w.length ≤ 4) : ws.length ≤ 256 := by
  have h1 := few_of_nodup (b := allW w w.length) h.nd fun v hv => mem_allW.mpr ⟨(h.reach v hv).len, (h.reach v hv).mem⟩
  rw [len_allW] at h1
  have h2 : w.length ^ w.length ≤ 4 ^ 4 := Nat.le_trans (Nat.pow_le_pow_left hw _) (Nat.pow_le_pow_right (by decide) hw)
  have h3 : (4 : Nat) ^ 4 = 256 := by decide
  omega
theorem Found.all {B w : List Nat} {ws : List (List Nat)} {i : Nat} (h : Found B w ws i) (hi : ws.length ≤ i) : ∀ v, v ∈ ws ↔ Reach B w v :=
  reach_list h.start h.reach fun v hv p c hc hb => by
    obtain ⟨j, hj, e⟩ := List.mem_iff_getElem.mp hv
    exact h.done j v (by omega) (by rw [← e]; exact List.getElem?_eq_getElem hj) p c hc hb
theorem Found.add {B w : List Nat} {ws : List (List Nat)} {i p c : Nat} {v : List Nat} (h : Found B w ws i) (hv : v ∈ ws) (hc : v[p]? = some c) (hb : c ∈ B) (hn : ¬ swapL v p ∈ ws) (hi : i ≤ ws.length) : Found B w (ws ++ [swapL v p]) i where
  nd := by
    rw [List.nodup_append]
    exact ⟨h.nd, by simp, fun a ha b hb' e => hn (by rw [List.mem_singleton.mp hb'] at e; exact e ▸ ha)⟩
  start := List.mem_append.mpr (.inl h.start)
  reach := fun u hu => by
    rcases List.mem_append.mp hu with hu | hu
    · exact h.reach u hu
    · rw [List.mem_singleton.mp hu]; exact .step (h.reach v hv) hc hb
  done := fun j u hj e q d hd hB => List.mem_append.mpr (.inl (h.done j u hj (by rw [List.getElem?_append_left (by omega)] at e; exact e) q d hd hB))
/-- a value `a and b`: what follows is shown once, for whichever truth value -/
theorem andV_by {ta tb : TE} {σ : L2.St} {H : Hp} {Q : VK} (R : Bool → Hp → Prop) (cont : ∀ b H', R b H' → Q (.bl b) H') (h : (∀ b H', R b H' → Q (.bl b) H') → ta σ H fun x H1 => ∃ c, x = .bl c ∧ if c = true then tb σ H1 Q else Q (.bl false) H1) : tAndV ta tb σ H Q := h cont
/-- all of the first are among the second -/
def subB (a b : List (List Nat)) : Bool := (a.filter fun v => decide (¬ v ∈ b)).isEmpty
theorem subB_iff {a b : List (List Nat)} : subB a b = true ↔ ∀ v ∈ a, v ∈ b := by
  unfold subB
  rw [List.isEmpty_iff, List.filter_eq_nil_iff]
  constructor
  · intro h v hv
    have := h v hv
    simpa using this
  · intro h v hv
    simpa using h v hv
def farB (B B' L : List Nat) : Bool := decide (L.length < 2 ∨ (L.filter fun c => decide (c ∈ B) && decide (¬ c ∈ B')) = [])
theorem joints_pair {l : List Nat} (h : l.Pairwise (· < ·)) : l.Nodup := h.imp fun {a b} lt => Nat.ne_of_lt lt
/-- what stands behind a row is shown once, for whichever way it ends -/
theorem st_by {t : TS} {D : Ends} {σ : L2.St} {H : Hp} (N : L2.St → Hp → Prop) (hN : ∀ σ' H', N σ' H' → D.nx σ' H') (h : (∀ σ' H', N σ' H' → D.nx σ' H') → t D σ H) : t D σ H := h hN
theorem seq_by {a b : TS} {D : Ends} {σ : L2.St} {H : Hp} (N : L2.St → Hp → Prop) (hN : ∀ σ' H', N σ' H' → b D σ' H') (h : (∀ σ' H', N σ' H' → b D σ' H') → a { D with nx := b D } σ H) : tSeq a b D σ H := h hN
theorem lit4 {a b c : Str} {i : Int} {l m js : List Nat} {n : Nat} (h1 : a = S l) (h2 : b = S m) (h3 : c = S js) (h4 : i = (n : Int)) : [V.str a, V.str b, V.str c, V.int i] = [V.str (S l), V.str (S m), V.str (S js), V.int (n : Int)] := by rw [h1, h2, h3, h4]
theorem bools_dp {K : PySem.W.Frag} {H : Hp} : ∀ bs : List Bool, DpAll K H (bs.map V.bl) (bs.map PyData.bool)
  | [] => .nil
  | b :: r => .cons (.bl b) (bools_dp r)
end Sw
/-! A word comes to another one exactly if their star rings are one and each joint stands equally often. -/
namespace Sw
open PySem PySem.Spec PyProof.Rows L2
theorem swap_mid (A : List Nat) (y : Nat) (B : List Nat) : swapL (A ++ y :: B) A.length = B ++ y :: A := by
  have h : (A ++ y :: B)[A.length]? = some y := by rw [List.getElem?_append_right (Nat.le_refl _), Nat.sub_self]; rfl
  rw [swapL_one h]
  have e1 : (A ++ y :: B).drop (A.length + 1) = B := by
    rw [show A ++ y :: B = (A ++ [y]) ++ B by simp]
    exact List.drop_left' (by simp)
  have e2 : (A ++ y :: B).take A.length = A := List.take_left' rfl
  rw [e1, e2]
  simp
theorem Reach.mid {js : List Nat} (A : List Nat) {y : Nat} (B : List Nat) (hy : y ∈ js) : Reach js (A ++ y :: B) (B ++ y :: A) := by
  have h : (A ++ y :: B)[A.length]? = some y := by rw [List.getElem?_append_right (Nat.le_refl _), Nat.sub_self]; rfl
  have := Reach.step (B := js) (w := A ++ y :: B) .refl h hy
  rw [swap_mid] at this
  exact this
/-- two joints change places by three deeds -/
theorem exch {js A B C : List Nat} {x y : Nat} (hx : x ∈ js) (hy : y ∈ js) : Reach js (A ++ y :: (B ++ x :: C)) (A ++ x :: (B ++ y :: C)) := by
  have h1 := Reach.mid (js := js) A (B ++ x :: C) hy
  have h2 := Reach.mid (js := js) B (C ++ y :: A) hx
  have h3 := Reach.mid (js := js) C (A ++ x :: B) hy
  have e1 : (B ++ x :: C) ++ y :: A = B ++ x :: (C ++ y :: A) := by simp
  have e2 : (C ++ y :: A) ++ x :: B = C ++ y :: (A ++ x :: B) := by simp
  have e3 : (A ++ x :: B) ++ y :: C = A ++ x :: (B ++ y :: C) := by simp
  rw [e1] at h1
  rw [e2] at h2
  rw [e3] at h3
  exact (h1.trans h2).trans h3
/-- letters on the stars of a row -/
def fillL : List Nat → List Nat → List Nat
  | [], _ => []
  | c :: p, J => if c = 42 then (match J with | [] => [] | x :: J => x :: fillL p J) else c :: fillL p J
theorem fill_cons : ∀ {p : List Nat} {n : Nat}, p.count 42 = n + 1 → ∃ b p', p'.count 42 = n ∧ ∀ x J, fillL p (x :: J) = b ++ x :: fillL p' J
  | [], n, h => by simp at h
  | c :: p, n, h => by
    by_cases z : c = 42
    · subst z
      rw [List.count_cons_self] at h
      exact ⟨[], p, by omega, fun x J => rfl⟩
    · rw [List.count_cons_of_ne (fun e => z e)] at h
      obtain ⟨b, p', h1, h2⟩ := fill_cons h
      refine ⟨c :: b, p', h1, fun x J => ?_⟩
      show (if c = 42 then _ else c :: fillL p (x :: J)) = _
      rw [if_neg z, h2]; rfl
theorem fill_reach {js : List Nat} {J J' : List Nat} (h : J.Perm J') : (∀ c ∈ J, c ∈ js) → ∀ p pre, p.count 42 = J.length → Reach js (pre ++ fillL p J) (pre ++ fillL p J') := by
  induction h with
  | nil => exact fun _ _ _ _ => .refl
  | @cons x J J' _ ih =>
    intro hj p pre hp
    obtain ⟨b, p', h1, h2⟩ := fill_cons hp
    rw [h2, h2]
    have := ih (fun c hc => hj c (List.mem_cons_of_mem _ hc)) p' (pre ++ b ++ [x]) h1
    simpa using this
  | swap x y J =>
    intro hj p pre hp
    obtain ⟨b, p', h1, h2⟩ := fill_cons hp
    obtain ⟨b', p'', h3, h4⟩ := fill_cons h1
    rw [h2, h2, h4, h4]
    have := exch (js := js) (A := pre ++ b) (B := b') (C := fillL p'' J) (hj x (by simp)) (hj y (by simp))
    simpa using this
  | trans h1 h2 ih1 ih2 =>
    intro hj p pre hp
    exact (ih1 hj p pre hp).trans (ih2 (fun c hc => hj c (h1.mem_iff.mpr hc)) p pre (by rw [hp, h1.length_eq]))
theorem fill_star {js : List Nat} : ∀ {l : List Nat}, ¬ 42 ∈ l → fillL (starL l js) (l.filter fun c => decide (c ∈ js)) = l
  | [], _ => rfl
  | c :: l, h => by
    have h1 : ¬ 42 ∈ l := fun z => h (List.mem_cons_of_mem _ z)
    have h2 : c ≠ 42 := fun z => h (by rw [z]; exact List.mem_cons_self)
    have ih := fill_star (js := js) h1
    by_cases z : c ∈ js
    · show fillL ((if c ∈ js then 42 else c) :: starL l js) _ = _
      rw [if_pos z, List.filter_cons, if_pos (decide_eq_true z)]
      show c :: fillL (starL l js) _ = _
      rw [ih]
    · show fillL ((if c ∈ js then 42 else c) :: starL l js) _ = _
      rw [if_neg z, List.filter_cons, if_neg (fun q => z (of_decide_eq_true q))]
      show (if c = 42 then _ else c :: fillL (starL l js) _) = _
      rw [if_neg h2, ih]
theorem star_count {js : List Nat} : ∀ {l : List Nat}, ¬ 42 ∈ l → (starL l js).count 42 = (l.filter fun c => decide (c ∈ js)).length
  | [], _ => rfl
  | c :: l, h => by
    have h1 : ¬ 42 ∈ l := fun z => h (List.mem_cons_of_mem _ z)
    have h2 : c ≠ 42 := fun z => h (by rw [z]; exact List.mem_cons_self)
    have ih := star_count (js := js) h1
    show ((if c ∈ js then 42 else c) :: starL l js).count 42 = _
    by_cases z : c ∈ js
    · rw [if_pos z, List.count_cons_self, List.filter_cons, if_pos (decide_eq_true z), List.length_cons, ih]
    · rw [if_neg z, List.count_cons_of_ne (fun e => h2 e), List.filter_cons, if_neg (fun q => z (of_decide_eq_true q)), ih]
theorem held_perm {l m js : List Nat} (h : evenB l m js = true) : (l.filter fun c => decide (c ∈ js)).Perm (m.filter fun c => decide (c ∈ js)) := by
  rw [List.perm_iff_count]
  intro c
  by_cases z : c ∈ js
  · have e1 : ∀ l : List Nat, (l.filter fun c => decide (c ∈ js)).count c = l.count c := fun l => List.count_filter (p := fun c => decide (c ∈ js)) (decide_eq_true z)
    rw [e1, e1]
    unfold evenB at h
    rw [List.all_eq_true] at h
    exact of_decide_eq_true (h c z)
  · have e1 : ∀ l : List Nat, (l.filter fun c => decide (c ∈ js)).count c = 0 := fun l => List.count_eq_zero.mpr fun q => z (of_decide_eq_true (List.mem_filter.mp q).2)
    rw [e1, e1]
/-- the same stars, the same joints: the one comes to the other -/
theorem star_reach {l m js : List Nat} (hl : ¬ 42 ∈ l) (hm : ¬ 42 ∈ m) (hs : starL l js = starL m js) (he : evenB l m js = true) : Reach js l m := by
  have h := fill_reach (js := js) (held_perm he) (fun c hc => of_decide_eq_true (List.mem_filter.mp hc).2) (starL l js) [] (star_count hl)
  rw [fill_star hl] at h
  rw [hs, fill_star hm] at h
  exact h
theorem swap_perm {l : List Nat} {p : Nat} (h : p < l.length) : (swapL l p).Perm l := by
  have hc : l[p]? = some l[p] := List.getElem?_eq_getElem h
  have e : l = l.take p ++ l[p] :: l.drop (p + 1) := by rw [← List.drop_eq_getElem_cons h, List.take_append_drop]
  rw [swapL_one hc]
  conv => rhs; rw [e]
  have h1 : (l.drop (p + 1) ++ [l[p]] ++ l.take p).Perm (l.take p ++ (l.drop (p + 1) ++ [l[p]])) := List.perm_append_comm
  have h2 : (l.drop (p + 1) ++ [l[p]]).Perm (l[p] :: l.drop (p + 1)) := List.perm_append_comm
  exact h1.trans (h2.append_left _)
theorem Reach.perm {js w v : List Nat} (h : Reach js w v) : v.Perm w := by
  induction h with
  | refl => exact List.Perm.refl _
  | step _ e _ ih => exact (swap_perm (List.getElem?_eq_some_iff.mp e).1).trans ih
theorem reach_comes {js w v : List Nat} (h : Reach js w v) : comesB w v js = true := by
  obtain ⟨k, hk, e⟩ := h.ring
  refine comes_yes ?_ fun c _ => (h.perm.count_eq c).symm
  rw [e, min_rot (by rw [ring_len]; omega)]
theorem comes_reach {l m js : List Nat} (hl : ¬ 42 ∈ l) (hm : ¬ 42 ∈ m) (h : comesB l m js = true) : Reach js l m := by
  unfold comesB at h
  rw [Bool.and_eq_true] at h
  obtain ⟨hr, he⟩ := h
  obtain ⟨k, hk, e⟩ := rot_of_min (ring_ne _ _) (ring_ne _ _) (of_decide_eq_true hr)
  rw [ring_len] at hk
  by_cases hk0 : k = 0
  · subst hk0
    rw [rot_zero] at e
    unfold ringL at e
    exact star_reach hl hm (List.append_cancel_right e).symm he
  · have hi : k - 1 < l.length := by omega
    have hc : l[k - 1]? = some l[k - 1] := List.getElem?_eq_getElem hi
    -- the last cell of the other ring is the hole
    have hlast : (ringL m js)[m.length]? = some 42 := by
      unfold ringL
      rw [List.getElem?_append_right (by rw [star_len]; omega), star_len, Nat.sub_self]; rfl
    have hml : m.length = l.length := by
      have := congrArg List.length e
      rw [rot_len, ring_len, ring_len] at this
      omega
    rw [e, rot_get (by rw [ring_len]; omega) (by rw [ring_len]; omega), ring_len] at hlast
    have hidx : (k + m.length) % (l.length + 1) = k - 1 := by
      rw [hml, Nat.mod_eq_sub_mod (by omega), Nat.mod_eq_of_lt (by omega)]; omega
    rw [hidx] at hlast
    unfold ringL at hlast
    rw [List.getElem?_append_left (by rw [star_len]; exact hi)] at hlast
    unfold starL at hlast
    rw [List.getElem?_map, hc] at hlast
    have hj : l[k - 1] ∈ js := by
      refine Classical.byContradiction fun z => ?_
      have : (if l[k - 1] ∈ js then 42 else l[k - 1]) = 42 := Option.some.inj hlast
      rw [if_neg z] at this
      exact hl (this ▸ List.getElem_mem hi)
    have hsw := ring_swap hc hj
    rw [show k - 1 + 1 = k by omega, ← e] at hsw
    have st : Reach js l (swapL l (k - 1)) := .step .refl hc hj
    refine st.trans (star_reach (fun z => hl (swapL_mem z)) hm ?_ ?_)
    · unfold ringL at hsw
      exact List.append_cancel_right hsw
    · unfold evenB at he ⊢
      rw [List.all_eq_true] at he ⊢
      intro c hc'
      have h1 := of_decide_eq_true (he c hc')
      exact decide_eq_true (by rw [(swap_perm hi).count_eq c]; exact h1)
theorem word_star {l : List Nat} (h : wordB l = true) : ¬ 42 ∈ l := fun z => by have := wordB_mem h z; omega
/-- THE THEOREM: what comes of what -/
theorem reach_iff {l m js : List Nat} (hl : wordB l = true) (hm : wordB m = true) : Reach js l m ↔ comesB l m js = true :=
  ⟨reach_comes, comes_reach (word_star hl) (word_star hm)⟩
end Sw
/-! A ring laid on another one; the road that brings wanted joints into the hole. -/
namespace Sw
open PySem PySem.Spec PyProof.Rows L2
/-- how many below n -/
def cnt (p : Nat → Bool) : Nat → Nat
  | 0 => 0
  | n + 1 => cnt p n + (if p n = true then 1 else 0)
theorem cnt_same {p q : Nat → Bool} : ∀ {n : Nat}, (∀ c, c < n → p c = q c) → cnt p n = cnt q n
  | 0, _ => rfl
  | n + 1, h => by
    show cnt p n + _ = cnt q n + _
    rw [cnt_same (fun c hc => h c (by omega)), h n (by omega)]
/-- two that differ at one place alone -/
theorem cnt_one {p q : Nat → Bool} {a : Nat} : ∀ {n : Nat}, a < n → (∀ c, c < n → c ≠ a → p c = q c) → cnt q n + (if p a = true then 1 else 0) = cnt p n + (if q a = true then 1 else 0)
  | 0, h, _ => by omega
  | n + 1, h, e => by
    show cnt q n + _ + _ = cnt p n + _ + _
    by_cases z : a = n
    · subst z
      rw [cnt_same (p := q) (q := p) (fun c hc => (e c (by omega) (by omega)).symm)]
      omega
    · have ih := cnt_one (p := p) (q := q) (a := a) (n := n) (by omega) (fun c hc hn => e c (by omega) hn)
      rw [e n (by omega) (by omega)]
      omega
theorem cnt_le {p : Nat → Bool} : ∀ n, cnt p n ≤ n
  | 0 => Nat.le_refl _
  | n + 1 => by
    show cnt p n + _ ≤ n + 1
    have := cnt_le (p := p) n
    split <;> omega
theorem cnt_mono {p q : Nat → Bool} : ∀ {n : Nat}, (∀ c, c < n → p c = true → q c = true) → cnt p n ≤ cnt q n
  | 0, _ => Nat.le_refl _
  | n + 1, h => by
    show cnt p n + _ ≤ cnt q n + _
    have := cnt_mono (p := p) (q := q) (n := n) (fun c hc => h c (by omega))
    by_cases z : p n = true
    · rw [if_pos z, if_pos (h n (by omega) z)]; omega
    · rw [if_neg z]; omega
theorem cnt_zero {p : Nat → Bool} {n : Nat} (h : cnt p n = 0) : ∀ c, c < n → p c = false := by
  induction n with
  | zero => intro c hc; omega
  | succ n ih =>
    intro c hc
    have h' : cnt p n + (if p n = true then 1 else 0) = 0 := h
    by_cases z : c = n
    · subst z
      by_cases y : p c = true
      · rw [if_pos y] at h'; omega
      · exact Bool.eq_false_iff.mpr y
    · exact ih (by omega) c (by omega)
/-- how often a sign stands in a row, by its cells -/
theorem count_take (x : Nat) (r : List Nat) : ∀ n, n ≤ r.length → (r.take n).count x = cnt (fun c => decide (r[c]? = some x)) n
  | 0, _ => rfl
  | n + 1, h => by
    have hn : n < r.length := by omega
    have hc : r[n]? = some r[n] := List.getElem?_eq_getElem hn
    rw [take_snoc hc, List.count_append, count_take x r n (by omega)]
    show _ = cnt _ n + (if decide (r[n]? = some x) = true then 1 else 0)
    rw [hc]
    by_cases z : r[n] = x
    · simp [z]
    · simp [z]
theorem count_cnt (x : Nat) (r : List Nat) : r.count x = cnt (fun c => decide (r[c]? = some x)) r.length := by
  have := count_take x r r.length (Nat.le_refl _)
  rw [List.take_length] at this
  exact this
/-- the ring r on the ring t: the same bodies, stars on stars, the same signs, one hole -/
structure Laid (js r t : List Nat) : Prop where
  len : r.length = t.length
  cell : ∀ c x y : Nat, r[c]? = some x → t[c]? = some y → x = y ∨ ((x ∈ js ∨ x = 95) ∧ (y ∈ js ∨ y = 95))
  perm : r.Perm t
  one : r.count 95 = 1
def wrongB (r t : List Nat) (c : Nat) : Bool := decide (r[c]? ≠ t[c]?)
def wrongN (r t : List Nat) : Nat := cnt (wrongB r t) r.length
/-- a joint jumps into the hole -/
def jump (r : List Nat) (h q x : Nat) : List Nat := (r.set h x).set q 95
theorem jump_len (r : List Nat) (h q x : Nat) : (jump r h q x).length = r.length := by unfold jump; simp
theorem jump_at {r : List Nat} {h q x : Nat} (hh : h < r.length) (hq : q < r.length) (ne : h ≠ q) (c : Nat) : (jump r h q x)[c]? = if c = q then some 95 else if c = h then some x else r[c]? := by
  unfold jump
  by_cases z : c = q
  · subst z
    rw [if_pos rfl, List.getElem?_set_self (by rw [List.length_set]; exact hq)]
  · rw [if_neg z, List.getElem?_set_ne (fun e => z e.symm)]
    by_cases y : c = h
    · subst y
      rw [if_pos rfl, List.getElem?_set_self hh]
    · rw [if_neg y, List.getElem?_set_ne (fun e => y e.symm)]
theorem hole_one {r : List Nat} {h c : Nat} (h1 : r.count 95 = 1) (hh : r[h]? = some 95) (hc : r[c]? = some 95) : c = h := by
  refine Classical.byContradiction fun ne => ?_
  have hlt : h < r.length := (List.getElem?_eq_some_iff.mp hh).1
  have clt : c < r.length := (List.getElem?_eq_some_iff.mp hc).1
  rw [count_cnt] at h1
  have e := cnt_one (p := fun d => decide (r[d]? = some 95)) (q := fun d => decide (r[d]? = some 95) && decide (d ≠ h)) (a := h) hlt (fun d _ hd => by simp [hd])
  have e2 := cnt_one (p := fun d => decide (r[d]? = some 95) && decide (d ≠ h)) (q := fun d => decide (r[d]? = some 95) && decide (d ≠ h) && decide (d ≠ c)) (a := c) clt (fun d _ hd => by simp [hd])
  simp [hh] at e
  simp [hc, ne] at e2
  omega
theorem jump_perm {r : List Nat} {h q x : Nat} (hh : r[h]? = some 95) (hq : r[q]? = some x) (ne : h ≠ q) : (jump r h q x).Perm r := by
  have h1 : h < r.length := (List.getElem?_eq_some_iff.mp hh).1
  have q1 : q < r.length := (List.getElem?_eq_some_iff.mp hq).1
  rw [List.perm_iff_count]
  intro z
  rw [count_cnt, count_cnt, jump_len]
  have a1 := cnt_one (p := fun c => decide (r[c]? = some z)) (q := fun c => if c = h then decide (x = z) else decide (r[c]? = some z)) (a := h) h1 (fun c _ hc => by simp [hc])
  have a2 := cnt_one (p := fun c => if c = h then decide (x = z) else decide (r[c]? = some z)) (q := fun c => decide ((jump r h q x)[c]? = some z)) (a := q) q1 (fun c _ hc => by
    rw [jump_at h1 q1 ne, if_neg hc]
    by_cases y : c = h <;> simp [y])
  rw [jump_at h1 q1 ne] at a2
  simp only [if_true, if_neg (Ne.symm ne), hh, hq, Option.some.injEq] at a1 a2
  simp only [decide_eq_true_eq] at a1 a2
  omega
theorem Laid.jump {js r t : List Nat} {h q x y : Nat} (L : Laid js r t) (hh : r[h]? = some 95) (hq : r[q]? = some x) (hx : x ≠ 95) (hy : t[q]? = some y) (hne : x ≠ y) : Laid js (Sw.jump r h q x) t := by
  have h1 : h < r.length := (List.getElem?_eq_some_iff.mp hh).1
  have q1 : q < r.length := (List.getElem?_eq_some_iff.mp hq).1
  have ne : h ≠ q := fun e => by rw [e, hq] at hh; exact hx (Option.some.inj hh)
  have hxj : x ∈ js ∧ (y ∈ js ∨ y = 95) := by
    rcases L.cell q x y hq hy with e | ⟨a, b⟩
    · exact absurd e hne
    · exact ⟨a.resolve_right hx, b⟩
  refine ⟨by rw [jump_len]; exact L.len, fun c a b ha hb => ?_, (jump_perm hh hq ne).trans L.perm, by rw [(jump_perm hh hq ne).count_eq]; exact L.one⟩
  rw [jump_at h1 q1 ne] at ha
  by_cases z : c = q
  · subst z
    rw [if_pos rfl] at ha
    rw [hy] at hb
    rw [← Option.some.inj ha, ← Option.some.inj hb]
    exact .inr ⟨.inr rfl, hxj.2⟩
  · rw [if_neg z] at ha
    by_cases w : c = h
    · subst w
      rw [if_pos rfl] at ha
      rw [← Option.some.inj ha]
      rcases L.cell c 95 b hh hb with e | ⟨_, e⟩
      · exact .inr ⟨.inl hxj.1, .inr e.symm⟩
      · exact .inr ⟨.inl hxj.1, e⟩
    · rw [if_neg w] at ha
      exact L.cell c a b ha hb
/-- wrong cells behind a jump -/
theorem wrong_jump {js r t : List Nat} {h q x y w : Nat} (L : Laid js r t) (hh : r[h]? = some 95) (hq : r[q]? = some x) (hx : x ≠ 95) (hy : t[q]? = some y) (hne : x ≠ y) (hw : t[h]? = some w) :
    wrongN (Sw.jump r h q x) t + 1 + (if w = 95 then 0 else 1) = wrongN r t + (if x = w then 0 else 1) + (if y = 95 then 0 else 1) := by
  have h1 : h < r.length := (List.getElem?_eq_some_iff.mp hh).1
  have q1 : q < r.length := (List.getElem?_eq_some_iff.mp hq).1
  have ne : h ≠ q := fun e => by rw [e, hq] at hh; exact hx (Option.some.inj hh)
  unfold wrongN
  rw [jump_len]
  have a1 := cnt_one (p := wrongB r t) (q := fun c => if c = h then decide (some x ≠ t[c]?) else wrongB r t c) (a := h) h1 (fun c _ hc => by simp [hc])
  have a2 := cnt_one (p := fun c => if c = h then decide (some x ≠ t[c]?) else wrongB r t c) (q := wrongB (Sw.jump r h q x) t) (a := q) q1 (fun c _ hc => by
    show _ = decide _
    rw [jump_at h1 q1 ne, if_neg hc]
    by_cases z : c = h
    · subst z; simp
    · simp only [if_neg z]; rfl)
  have b1 : wrongB r t h = decide (w ≠ 95) := by
    unfold wrongB; rw [hh, hw]; exact decide_eq_decide.mpr ⟨fun e z => e (by rw [z]), fun e z => e (Option.some.inj z).symm⟩
  have b2 : wrongB r t q = true := by
    unfold wrongB; rw [hq, hy]; exact decide_eq_true (fun e => hne (Option.some.inj e))
  have b3 : wrongB (Sw.jump r h q x) t q = decide (y ≠ 95) := by
    unfold wrongB; rw [jump_at h1 q1 ne, if_pos rfl, hy]; exact decide_eq_decide.mpr ⟨fun e z => e (by rw [z]), fun e z => e (Option.some.inj z).symm⟩
  rw [b1] at a1
  rw [b3] at a2
  simp only [if_true, if_neg (Ne.symm ne), b2, hw, Option.some.injEq, ne_eq] at a1 a2
  by_cases c1 : w = 95 <;> by_cases c2 : x = w <;> by_cases c3 : y = 95 <;> simp [c1, c2, c3] at a1 a2 ⊢ <;> omega
/-- the word of a ring whose hole is the cell h -/
def wordAt (r : List Nat) (h : Nat) : List Nat := r.drop (h + 1) ++ r.take h
/-- the place of the deed that brings the cell q into the hole h -/
def placeAt (n h q : Nat) : Nat := if h < q then q - h - 1 else q + n - h - 1
theorem split_at {r : List Nat} {h x : Nat} (hh : r[h]? = some x) : r = r.take h ++ x :: r.drop (h + 1) := by
  obtain ⟨hl, e⟩ := List.getElem?_eq_some_iff.mp hh
  rw [← e, ← List.drop_eq_getElem_cons hl, List.take_append_drop]
theorem word_jump {r : List Nat} {h q x : Nat} (hh : r[h]? = some 95) (hq : r[q]? = some x) (ne : h ≠ q) :
    (wordAt r h)[placeAt r.length h q]? = some x ∧ swapL (wordAt r h) (placeAt r.length h q) = wordAt (Sw.jump r h q x) q := by
  have h1 : h < r.length := (List.getElem?_eq_some_iff.mp hh).1
  have q1 : q < r.length := (List.getElem?_eq_some_iff.mp hq).1
  by_cases hlt : h < q
  · -- r = A ++ 95 :: B ++ x :: C
    have e1 := split_at hq
    have e2 := split_at (r := r.take q) (h := h) (x := 95) (by rw [List.getElem?_take_of_lt hlt]; exact hh)
    generalize hA : (r.take q).take h = A at e2
    generalize hB : (r.take q).drop (h + 1) = B at e2
    generalize hC : r.drop (q + 1) = C at e1
    have hAl : A.length = h := by rw [← hA, List.length_take, List.length_take]; omega
    have hBl : B.length = q - h - 1 := by rw [← hB, List.length_drop, List.length_take]; omega
    have er : r = A ++ 95 :: (B ++ x :: C) := by rw [e2] at e1; rw [e1]; simp
    have ew : wordAt r h = B ++ x :: (C ++ A) := by
      unfold wordAt
      rw [er, show A ++ 95 :: (B ++ x :: C) = (A ++ [95]) ++ (B ++ x :: C) by simp, List.drop_left' (by simp [hAl]), show (A ++ [95]) ++ (B ++ x :: C) = A ++ (95 :: (B ++ x :: C)) by simp, List.take_left' hAl]
      simp
    have ep : placeAt r.length h q = B.length := by unfold placeAt; rw [if_pos hlt, hBl]
    have ej : Sw.jump r h q x = A ++ x :: (B ++ 95 :: C) := by
      unfold Sw.jump
      rw [er, List.set_append_right _ _ (by omega), hAl, Nat.sub_self, List.set_cons_zero, List.set_append_right _ _ (by omega), hAl, show q - h = (q - h - 1) + 1 by omega, List.set_cons_succ, List.set_append_right _ _ (by omega), hBl, Nat.sub_self, List.set_cons_zero]
    rw [ew, ep, ej]
    refine ⟨by rw [List.getElem?_append_right (Nat.le_refl _), Nat.sub_self]; rfl, ?_⟩
    rw [swap_mid]
    unfold wordAt
    have hx : (A ++ x :: B).length = q := by simp [hAl, hBl]; omega
    rw [show A ++ x :: (B ++ 95 :: C) = ((A ++ x :: B) ++ [95]) ++ C by simp, List.drop_left' (by rw [List.length_append, hx]; rfl), show ((A ++ x :: B) ++ [95]) ++ C = (A ++ x :: B) ++ (95 :: C) by simp, List.take_left' hx]
    simp
  · have hgt : q < h := by omega
    have e1 := split_at hh
    have e2 := split_at (r := r.take h) (h := q) (x := x) (by rw [List.getElem?_take_of_lt hgt]; exact hq)
    generalize hA : (r.take h).take q = A at e2
    generalize hB : (r.take h).drop (q + 1) = B at e2
    generalize hC : r.drop (h + 1) = C at e1
    have hAl : A.length = q := by rw [← hA, List.length_take, List.length_take]; omega
    have hBl : B.length = h - q - 1 := by rw [← hB, List.length_drop, List.length_take]; omega
    have hCl : C.length = r.length - h - 1 := by rw [← hC, List.length_drop]; omega
    have er : r = A ++ x :: (B ++ 95 :: C) := by rw [e2] at e1; rw [e1]; simp
    have hx : (A ++ x :: B).length = h := by simp [hAl, hBl]; omega
    have ew : wordAt r h = (C ++ A) ++ x :: B := by
      unfold wordAt
      rw [er, show A ++ x :: (B ++ 95 :: C) = ((A ++ x :: B) ++ [95]) ++ C by simp, List.drop_left' (by rw [List.length_append, hx]; rfl), show ((A ++ x :: B) ++ [95]) ++ C = (A ++ x :: B) ++ (95 :: C) by simp, List.take_left' hx]
      simp
    have ep : placeAt r.length h q = (C ++ A).length := by unfold placeAt; rw [if_neg hlt, List.length_append, hCl, hAl]; omega
    have ej : Sw.jump r h q x = A ++ 95 :: (B ++ x :: C) := by
      unfold Sw.jump
      rw [er, show A ++ x :: (B ++ 95 :: C) = (A ++ x :: B) ++ 95 :: C by simp, List.set_append_right _ _ (by omega), hx, Nat.sub_self, List.set_cons_zero, show (A ++ x :: B) ++ x :: C = A ++ x :: (B ++ x :: C) by simp, List.set_append_right _ _ (by omega), hAl, Nat.sub_self, List.set_cons_zero]
    rw [ew, ep, ej]
    refine ⟨by rw [List.getElem?_append_right (Nat.le_refl _), Nat.sub_self]; rfl, ?_⟩
    rw [swap_mid]
    unfold wordAt
    rw [show A ++ 95 :: (B ++ x :: C) = (A ++ [95]) ++ (B ++ x :: C) by simp, List.drop_left' (by simp [hAl]), show (A ++ [95]) ++ (B ++ x :: C) = A ++ (95 :: (B ++ x :: C)) by simp, List.take_left' hAl]
    simp
/-- there is a cell to take -/
theorem cell_there {js r t : List Nat} {h w : Nat} (L : Laid js r t) (hne : r ≠ t) (hh : r[h]? = some 95) (hw : t[h]? = some w) : ∃ q x y : Nat, r[q]? = some x ∧ t[q]? = some y ∧ x ≠ y ∧ x ≠ 95 ∧ (w = 95 ∨ x = w) := by
  have pair : ∀ c, c < r.length → ∃ x y, r[c]? = some x ∧ t[c]? = some y := fun c hc =>
    ⟨_, _, List.getElem?_eq_getElem hc, List.getElem?_eq_getElem (show c < t.length by rw [← L.len]; exact hc)⟩
  have h1 : h < r.length := (List.getElem?_eq_some_iff.mp hh).1
  by_cases z : w = 95
  · subst z
    refine Classical.byContradiction fun no => hne ?_
    refine list_ext_mod L.len fun c hc => ?_
    obtain ⟨x, y, hx, hy⟩ := pair c hc
    rw [hx, hy]
    refine congrArg some (Classical.byContradiction fun ne => no ⟨c, x, y, hx, hy, ne, fun e => ?_, .inl rfl⟩)
    subst e
    have := hole_one L.one hh hx
    subst this
    rw [hw] at hy
    exact ne (Option.some.inj hy)
  · refine Classical.byContradiction fun no => ?_
    have hc := L.perm.count_eq w
    rw [count_cnt, count_cnt, ← L.len] at hc
    have m1 : cnt (fun c => decide (r[c]? = some w)) r.length ≤ cnt (fun c => decide (t[c]? = some w) && decide (c ≠ h)) r.length := cnt_mono fun c hcl hcw => by
      have hcw' : r[c]? = some w := of_decide_eq_true hcw
      obtain ⟨x, y, hx, hy⟩ := pair c hcl
      rw [hcw'] at hx
      have hxw : w = x := Option.some.inj hx
      have hyw : y = w := Classical.byContradiction fun ne => no ⟨c, w, y, hcw', hy, fun e => ne e.symm, z, .inr rfl⟩
      have hch : c ≠ h := fun e => by rw [e, hh] at hcw'; exact z (Option.some.inj hcw').symm
      rw [hy, hyw]
      simp [hch]
    have m2 := cnt_one (p := fun c => decide (t[c]? = some w)) (q := fun c => decide (t[c]? = some w) && decide (c ≠ h)) (a := h) h1 (fun c _ hcn => by simp [hcn])
    simp [hw] at m2
    simp only [ne_eq, decide_not] at m1
    omega
/-- at least two cells are wrong if one is -/
theorem two_wrong {js r t : List Nat} {h w : Nat} (L : Laid js r t) (hh : r[h]? = some 95) (hw : t[h]? = some w) (hz : w ≠ 95) : 2 ≤ wrongN r t := by
  have hne : r ≠ t := fun e => by rw [e, hw] at hh; exact hz (Option.some.inj hh)
  obtain ⟨q, x, y, hq, hy, hxy, hx, _⟩ := cell_there L hne hh hw
  have h1 : h < r.length := (List.getElem?_eq_some_iff.mp hh).1
  have q1 : q < r.length := (List.getElem?_eq_some_iff.mp hq).1
  have ne : h ≠ q := fun e => by rw [e, hq] at hh; exact hx (Option.some.inj hh)
  unfold wrongN
  have a1 := cnt_one (p := wrongB r t) (q := fun c => wrongB r t c && decide (c ≠ h)) (a := h) h1 (fun c _ hc => by simp [hc])
  have a2 := cnt_one (p := fun c => wrongB r t c && decide (c ≠ h)) (q := fun c => wrongB r t c && decide (c ≠ h) && decide (c ≠ q)) (a := q) q1 (fun c _ hc => by simp [hc])
  have b1 : wrongB r t h = true := by unfold wrongB; rw [hh, hw]; exact decide_eq_true (fun e => hz (Option.some.inj e).symm)
  have b2 : wrongB r t q = true := by unfold wrongB; rw [hq, hy]; exact decide_eq_true (fun e => hxy (Option.some.inj e))
  simp [b1] at a1
  simp [b2, Ne.symm ne] at a2
  omega
theorem one_wrong {r t : List Nat} {q x y : Nat} (hq : r[q]? = some x) (hy : t[q]? = some y) (hxy : x ≠ y) : 1 ≤ wrongN r t := by
  have q1 : q < r.length := (List.getElem?_eq_some_iff.mp hq).1
  unfold wrongN
  have a1 := cnt_one (p := wrongB r t) (q := fun c => wrongB r t c && decide (c ≠ q)) (a := q) q1 (fun c _ hc => by simp [hc])
  have b1 : wrongB r t q = true := by unfold wrongB; rw [hq, hy]; exact decide_eq_true (fun e => hxy (Option.some.inj e))
  simp [b1] at a1
  omega
/-- what the deeds to come cost at most, twice -/
def PotAt (r t : List Nat) (h n : Nat) : Prop :=
  (t[h]? = some 95 ∧ n = 3 * wrongN r t) ∨ (∃ w : Nat, t[h]? = some w ∧ w ≠ 95 ∧ (n + 4 = 3 * wrongN r t ∨ (n + 5 = 3 * wrongN r t ∧ ∀ k : Nat, t[k]? = some 95 → r[k]? ≠ some w)))
theorem pot_jump {js r t : List Nat} {h q x y w n : Nat} (L : Laid js r t) (hh : r[h]? = some 95) (hw : t[h]? = some w) (hq : r[q]? = some x) (hy : t[q]? = some y) (hxy : x ≠ y) (hx : x ≠ 95) (hc : w = 95 ∨ x = w) (P : PotAt r t h n) :
    ∃ n', n' + 2 ≤ n ∧ PotAt (Sw.jump r h q x) t q n' := by
  have h1 : h < r.length := (List.getElem?_eq_some_iff.mp hh).1
  have q1 : q < r.length := (List.getElem?_eq_some_iff.mp hq).1
  have ne : h ≠ q := fun e => by rw [e, hq] at hh; exact hx (Option.some.inj hh)
  have W := wrong_jump L hh hq hx hy hxy hw
  have one : t.count 95 = 1 := by rw [← L.perm.count_eq]; exact L.one
  have L' := L.jump hh hq hx hy hxy
  have hq' : (Sw.jump r h q x)[q]? = some 95 := by rw [jump_at h1 q1 ne, if_pos rfl]
  rcases P with ⟨p1, p2⟩ | ⟨w', hw', hz, p⟩
  · rw [hw] at p1
    have hw95 : w = 95 := Option.some.inj p1
    subst hw95
    have hy95 : y ≠ 95 := fun e => by rw [e] at hy; exact ne (hole_one one hw hy).symm
    rw [if_pos rfl, if_neg hx, if_neg hy95] at W
    have ow := one_wrong hq hy hxy
    refine ⟨3 * wrongN r t - 2, by omega, .inr ⟨y, hy, hy95, .inr ⟨by omega, fun k hk => ?_⟩⟩⟩
    have := hole_one one hw hk
    subst this
    rw [jump_at h1 q1 ne, if_neg ne, if_pos rfl]
    exact fun e => hxy (Option.some.inj e)
  · rw [hw] at hw'
    have e := Option.some.inj hw'
    subst e
    have hxw : x = w := hc.resolve_left hz
    subst hxw
    rw [if_neg hz, if_pos rfl] at W
    by_cases hy95 : y = 95
    · subst hy95
      rw [if_pos rfl] at W
      refine ⟨3 * wrongN (Sw.jump r h q x) t, ?_, .inl ⟨hy, rfl⟩⟩
      rcases p with p | ⟨_, p⟩
      · omega
      · exact absurd hq (p q hy)
    · rw [if_neg hy95] at W
      have tw := two_wrong L' hq' hy hy95
      refine ⟨3 * wrongN (Sw.jump r h q x) t - 4, ?_, .inr ⟨y, hy, hy95, .inl (by omega)⟩⟩
      rcases p with p | ⟨p, _⟩ <;> omega
/-- all lies -/
def liesL (l m js : List Nat) : List Nat := if l.length = m.length then (List.range (l.length + 1)).filter fun k => decide (rotL (ringL l js) k = ringL m js) else []
theorem in_two (c y : Nat) : inV (V.str (S [c])) [V.str (S [y]), V.str (S [95])] = (decide (c = y) || decide (c = 95)) := by
  show (S [y] == S [c] || (S [95] == S [c] || false)) = _
  have e : ∀ a : Nat, (S [a] == S [c]) = decide (c = a) := fun a => by
    by_cases z : c = a
    · subst z; simp
    · have : ¬ S [a] = S [c] := fun e => z (by have := SX.S_inj e; simpa using this.symm)
      rw [beq_eq_false_iff_ne.mpr this, decide_eq_false z]
  rw [e, e, Bool.or_false]
/-- the wrong cells of joints -/
def wrongL (r t : List Nat) (n : Nat) : List Nat := (List.range n).filter fun q => decide (r[q]? ≠ t[q]?) && decide (r[q]? ≠ some 95)
theorem wrong_snoc {r t : List Nat} {i c y : Nat} (hc : r[i]? = some c) (hy : t[i]? = some y) : wrongL r t (i + 1) = wrongL r t i ++ (if c = y ∨ c = 95 then [] else [i]) := by
  unfold wrongL
  rw [List.range_succ, List.filter_append]
  congr 1
  rw [List.filter_cons, hc, hy]
  by_cases z : c = y <;> by_cases w : c = 95 <;> simp [z, w]
theorem words_eqv : ∀ (a b : List (List Nat)), PyData.eqvAll (wordsD a) (wordsD b) = decide (a = b)
  | [], [] => rfl
  | [], _ :: _ => rfl
  | _ :: _, [] => rfl
  | x :: a, y :: b => by
    show ((S x == S y) && PyData.eqvAll (wordsD a) (wordsD b)) = _
    rw [words_eqv a b]
    by_cases z : x = y
    · subst z; simp
    · have : ¬ S x = S y := fun e => z (SX.S_inj e)
      rw [beq_eq_false_iff_ne.mpr this]
      simp [z]
theorem singles_inj {a b : List Nat} : (a.map fun c => [c]) = (b.map fun c => [c]) ↔ a = b := List.map_inj_right fun x y e => by simpa using e
theorem signs_eqv (a b : List Nat) : PyData.eqv (.list (wordsD (a.map fun c => [c]))) (.list (wordsD (b.map fun c => [c]))) = decide (a = b) := by
  show PyData.eqvAll _ _ = _
  rw [words_eqv]
  exact decide_eq_decide.mpr singles_inj
theorem ix_nat {n j : Nat} (h : j < n) : ixN n (j : Int) = some j := by
  unfold ixN
  rw [if_pos (by omega), if_pos (by omega)]; rfl
/-- the sign of a cell: a star for a joint and the hole -/
def signF (js : List Nat) (x : Nat) : Nat := if x ∈ js ∨ x = 95 then 42 else x
theorem rot_map (f : Nat → Nat) (r : List Nat) (k : Nat) : rotL (r.map f) k = (rotL r k).map f := by
  unfold rotL; rw [List.map_append, List.map_drop, List.map_take]
theorem ring_sign {l js : List Nat} (hw : wordB l = true) : ringL l js = (l ++ [95]).map (signF js) := by
  unfold ringL starL
  rw [List.map_append]
  congr 1
  · refine List.map_congr_left fun c hc => ?_
    have := wordB_mem hw hc
    unfold signF
    by_cases z : c ∈ js
    · rw [if_pos z, if_pos (.inl z)]
    · rw [if_neg z, if_neg (fun q => q.elim z (fun e => by omega))]
  · show [42] = [signF js 95]
    unfold signF
    rw [if_pos (.inr rfl)]
theorem lie_comes {l m js : List Nat} {k : Nat} (h : k ∈ liesL l m js) (he : evenB l m js = true) : comesB l m js = true := by
  unfold liesL at h
  split at h
  · obtain ⟨h1, h2⟩ := List.mem_filter.mp h
    have h3 := List.mem_range.mp h1
    have h4 := of_decide_eq_true h2
    unfold comesB
    rw [he, Bool.and_true]
    refine decide_eq_true ?_
    rw [← h4, min_rot (by rw [ring_len]; omega)]
  · cases h
theorem hole_at {l : List Nat} {k : Nat} (hk : k ≤ l.length) : rotL (l ++ [95]) k = l.drop k ++ 95 :: l.take k := by
  unfold rotL
  rw [List.drop_append_of_le_length hk, List.take_append_of_le_length hk]
  simp
theorem lay_start {l m js : List Nat} {k : Nat} (hl : wordB l = true) (hm : wordB m = true) (h : k ∈ liesL l m js) (he : evenB l m js = true) :
    k ≤ l.length ∧ Laid js (rotL (l ++ [95]) k) (m ++ [95]) ∧ (rotL (l ++ [95]) k)[l.length - k]? = some 95 ∧ wordAt (rotL (l ++ [95]) k) (l.length - k) = l := by
  have hc := lie_comes h he
  have hp : m.Perm l := (comes_reach (word_star hl) (word_star hm) hc).perm
  unfold liesL at h
  split at h
  case isFalse => cases h
  case isTrue hlen =>
  obtain ⟨h1, h2⟩ := List.mem_filter.mp h
  have hk : k ≤ l.length := by have := List.mem_range.mp h1; omega
  have h4 := of_decide_eq_true h2
  rw [ring_sign hl, ring_sign hm, rot_map] at h4
  refine ⟨hk, ⟨by rw [rot_len, List.length_append, List.length_append, hlen], fun c x y hx hy => ?_, ?_, ?_⟩, ?_, ?_⟩
  · have hf : signF js x = signF js y := by
      have := congrArg (fun q => q[c]?) h4
      simp only [List.getElem?_map, hx, hy, Option.map_some] at this
      exact Option.some.inj this
    have hx42 : x ≠ 42 := fun e => by
      have hm2 := List.mem_of_getElem? hx
      rw [mem_rot] at hm2
      rcases List.mem_append.mp hm2 with q | q
      · have := wordB_mem hl q; omega
      · rw [List.mem_singleton.mp q] at e; omega
    have hy42 : y ≠ 42 := fun e => by
      rcases List.mem_append.mp (List.mem_of_getElem? hy) with q | q
      · have := wordB_mem hm q; omega
      · rw [List.mem_singleton.mp q] at e; omega
    unfold signF at hf
    by_cases zx : x ∈ js ∨ x = 95
    · by_cases zy : y ∈ js ∨ y = 95
      · exact .inr ⟨zx, zy⟩
      · rw [if_pos zx, if_neg zy] at hf; exact absurd hf.symm hy42
    · by_cases zy : y ∈ js ∨ y = 95
      · rw [if_neg zx, if_pos zy] at hf; exact absurd hf hx42
      · rw [if_neg zx, if_neg zy] at hf; exact .inl hf
  · rw [hole_at hk]
    have e1 : (l.drop k ++ 95 :: l.take k).Perm (95 :: (l.drop k ++ l.take k)) := List.perm_middle
    have e2 : (l.drop k ++ l.take k).Perm l := by
      have := List.perm_append_comm (l₁ := l.drop k) (l₂ := l.take k)
      rwa [List.take_append_drop] at this
    have e3 : (m ++ [95]).Perm (95 :: m) := List.perm_append_singleton _ _
    exact (e1.trans ((e2.trans hp.symm).cons 95)).trans e3.symm
  · rw [count_rot, List.count_append]
    have : l.count 95 = 0 := List.count_eq_zero.mpr fun q => by have := wordB_mem hl q; omega
    rw [this]; rfl
  · rw [hole_at hk, List.getElem?_append_right (by rw [List.length_drop]; omega), List.length_drop, Nat.sub_self]; rfl
  · rw [hole_at hk]
    unfold wordAt
    rw [show l.drop k ++ 95 :: l.take k = (l.drop k ++ [95]) ++ l.take k by simp, List.drop_left' (by simp), show (l.drop k ++ [95]) ++ l.take k = l.drop k ++ (95 :: l.take k) by simp, List.take_left' (by simp)]
    exact List.take_append_drop _ _
theorem lay_end {m : List Nat} {h : Nat} (hm : wordB m = true) (hh : (m ++ [95])[h]? = some 95) : wordAt (m ++ [95]) h = m := by
  have h1 : (m ++ [95]).count 95 = 1 := by
    rw [List.count_append]
    have : m.count 95 = 0 := List.count_eq_zero.mpr fun q => by have := wordB_mem hm q; omega
    rw [this]; rfl
  have h2 : (m ++ [95])[m.length]? = some 95 := by rw [List.getElem?_append_right (Nat.le_refl _), Nat.sub_self]; rfl
  have := hole_one h1 h2 hh
  subst this
  unfold wordAt
  rw [List.drop_eq_nil_of_le (by simp), List.take_left' rfl, List.nil_append]
def pot0 (r t : List Nat) (h : Nat) : Nat := if t[h]? = some 95 then 3 * wrongN r t else 3 * wrongN r t - 4
theorem pot_start {js r t : List Nat} {h : Nat} (L : Laid js r t) (hh : r[h]? = some 95) : PotAt r t h (pot0 r t h) := by
  have h1 : h < t.length := by rw [← L.len]; exact (List.getElem?_eq_some_iff.mp hh).1
  have hw : t[h]? = some t[h] := List.getElem?_eq_getElem h1
  unfold pot0
  by_cases z : t[h]? = some 95
  · rw [if_pos z]; exact .inl ⟨z, rfl⟩
  · rw [if_neg z]
    have z' : t[h] ≠ 95 := fun e => z (by rw [hw, e])
    have := two_wrong L hh hw z'
    exact .inr ⟨_, hw, z', .inl (by omega)⟩
theorem place_mod {n h q : Nat} (hh : h < n) (hq : q < n) (ne : h ≠ q) : ((q : Int) - (h : Int) - 1) % (n : Int) = (placeAt n h q : Nat) := by
  unfold placeAt
  by_cases z : h < q
  · rw [if_pos z, Int.emod_eq_of_lt (by omega) (by omega)]; omega
  · rw [if_neg z]
    have e : ((q : Int) - (h : Int) - 1) = (((q + n - h - 1 : Nat) : Int)) + (n : Int) * (-1) := by omega
    rw [e, Int.add_mul_emod_self_left, Int.emod_eq_of_lt (by omega) (by omega)]
theorem words_flat1 (l : List Nat) : (signsV l).all flatV = true := by rw [signs_words]; exact words_flat _
theorem eqV_refl (s : Str) : eqV (V.str s) (V.str s) = true := by show (s == s) = true; simp
theorem eqV_ne {c d : Nat} (h : c ≠ d) : eqV (V.str (S [c])) (V.str (S [d])) = false := by
  show (S [c] == S [d]) = false
  exact beq_eq_false_iff_ne.mpr fun e => h (by have := SX.S_inj e; simpa using this)
theorem signs_set (r : List Nat) (h x : Nat) : (signsV r).set h (V.str (S [x])) = signsV (r.set h x) := by show (((r.map fun c => S [c]).map V.str).set h _) = ((r.set h x).map fun c => S [c]).map V.str; rw [List.map_set, List.map_set]
theorem pot_le (r t : List Nat) (h : Nat) : pot0 r t h ≤ 3 * r.length := by
  have := cnt_le (p := wrongB r t) r.length
  unfold pot0 wrongN
  split <;> omega
theorem lies_some {l m js : List Nat} (h : comesB l m js = true) : ∃ k r, liesL l m js = k :: r := by
  unfold comesB at h
  rw [Bool.and_eq_true] at h
  obtain ⟨k, hk, e⟩ := rot_of_min (ring_ne _ _) (ring_ne _ _) (of_decide_eq_true h.1)
  have hlen : l.length = m.length := by
    have := congrArg List.length e
    rw [rot_len, ring_len, ring_len] at this
    omega
  rw [ring_len] at hk
  have hm : k ∈ liesL l m js := by
    unfold liesL
    rw [if_pos hlen]
    exact List.mem_filter.mpr ⟨List.mem_range.mpr hk, decide_eq_true e.symm⟩
  cases hl : liesL l m js with
  | nil => rw [hl] at hm; cases hm
  | cons k r => exact ⟨k, r, rfl⟩
theorem comes_even {l m js : List Nat} (h : comesB l m js = true) : evenB l m js = true := by
  unfold comesB at h
  rw [Bool.and_eq_true] at h
  exact h.2
theorem lead_nil {l m js : List Nat} (h : comesB l m js = false) : (if evenB l m js = true then liesL l m js else []) = [] := by
  cases he : evenB l m js with
  | false => rfl
  | true =>
    rw [if_pos rfl]
    cases hl : liesL l m js with
    | nil => rfl
    | cons k r =>
      have := lie_comes (k := k) (by rw [hl]; exact List.mem_cons_self) he
      rw [h] at this; cases this
end Sw
/-! Sorted lists of words of any length; search with a stack. -/
namespace Sw
open PySem PySem.W PySem.Spec PyProof.Rows L2
theorem perm_words {ys : List Str} {ws : List (List Nat)} (h : ys.Perm (ws.map S)) : ∃ vs : List (List Nat), ys = vs.map S ∧ vs.Perm ws := by
  have hm : ∀ y ∈ ys, ∃ l, y = S l := fun y hy => by
    obtain ⟨l, _, e⟩ := List.mem_map.mp (h.mem_iff.mp hy)
    exact ⟨l, e.symm⟩
  let f : Str → List Nat := fun y => y.cps.toList
  have hf : ∀ l : List Nat, f (S l) = l := fun l => by simp [f, SX.S]
  have e : ys = (ys.map f).map S := by
    rw [List.map_map]
    refine (List.map_id ys).symm.trans (List.map_congr_left fun y hy => ?_)
    obtain ⟨l, rfl⟩ := hm y hy
    show S l = S (f (S l))
    rw [hf]
  have hp : (ys.map f).Perm ws := by
    have := h.map f
    rw [List.map_map] at this
    have e2 : ws.map (f ∘ S) = ws := by
      refine (List.map_congr_left fun l _ => ?_).trans (List.map_id ws)
      exact hf l
    rw [e2] at this
    exact this
  exact ⟨_, e, hp⟩
/-- sorted of a list of words of any length -/
def rSortedW (K : PySem.W.Frag) : List V → Hp → VK → Prop := fun vs H Q => ∃ (a : Addr) (ws : List (List Nat)), vs = [V.ref a] ∧ SqL K H a (wordsV ws) ∧ ws.length ≤ sizeLine ∧
  ∀ (us : List (List Nat)) (p : Addr), us.Perm ws → sortedS (us.map S) = true → H p = none → Q (.ref p) (upd H p (.lst (wordsV us)))
theorem cr_sortedW {X : Cx} : CallR X (.builtin "sorted") (rSortedW X.K) := by
  intro pins s σ H vs us Q I r h
  obtain ⟨a, ws, rfl, hs, hz, q⟩ := h
  have ew : wordsV ws = (ws.map S).map V.str := by rw [List.map_map]; rfl
  rw [ew] at hs
  obtain ⟨its, rv, hl, _⟩ := I.list hs
  rw [Vals.ref1 r]
  have hlen0 := rv.length
  rw [List.length_map, List.length_map] at hlen0
  refine PyProof.Rows.sorted_strsAny hl.isList rv.strs (by rw [← hlen0]; exact hz) fun out ys h1 h2 h3 => ?_
  obtain ⟨vs, rfl, hp⟩ := perm_words h2
  obtain ⟨ep, he'⟩ := PyProof.Rows.sortedAll_at s.heap its out
  have hlen : (wordsV vs).length ≤ sizeLine := by rw [List.length_map, hp.length_eq]; exact hz
  have ev : (vs.map S).map V.str = wordsV vs := by rw [List.map_map]; rfl
  have hv := vals_of_strs h1
  rw [ev] at hv
  exact ⟨.ref _, upd H (s.heap.objs.size + 1) (.lst (wordsV vs)), I.laid (t' := s.toks) (fun _ _ => PyProof.Rows.sortedAll_old) (Nat.le_succ _) ⟨hlen, out.toList, ep, hv, he'⟩, rfl, q vs _ hp h3 (I.hok.fresh (Nat.le_succ _))⟩
theorem wordsK_keys (ws : List (List Nat)) : ((wordsK ws).map fun kv => kV kv.1) = wordsV ws := by
  unfold wordsK
  rw [List.map_map]
  rfl
theorem openL_mem {l js : List Nat} {i c : Nat} (h : l[i]? = some c) (hc : c ∈ js) : i ∈ openL l js := by
  unfold openL
  refine List.mem_filter.mpr ⟨List.mem_range.mpr (List.getElem?_eq_some_iff.mp h).1, ?_⟩
  rw [h]
  simp [hc]
theorem openL_at {l js : List Nat} {i c : Nat} (h : l[i]? = some c) (hc : c ∈ js) : ∃ j : Nat, j < (openL l js).length ∧ (openL l js)[j]? = some i := by
  obtain ⟨j, hj, e⟩ := List.mem_iff_getElem.mp (openL_mem h hc)
  exact ⟨j, hj, by rw [List.getElem?_eq_getElem hj, e]⟩
/-- a list of words equal to the empty list -/
theorem words_is_nil {K : PySem.W.Frag} {H : Hp} {a b : Addr} {ws : List (List Nat)} {Q : VK} (ha : SqL K H a (wordsV ws)) (hb : SqL K H b []) (q : Q (.bl ws.isEmpty) H) : rEqP K (.ref a) (.ref b) H Q := by
  refine ⟨.list (wordsD ws), .list [], .lst ha (words_dp ws), .lst hb .nil, words_plainL ws, rfl, words_depthL ws, ?_⟩
  rw [words_eqv_nil]
  exact q
/-- search with a stack: us are known, st wait, i were taken off, those of ex are under way -/
structure Srch (B w : List Nat) (us st : List (List Nat)) (i : Nat) (ex : List (List Nat)) : Prop where
  nd : us.Nodup
  start : w ∈ us
  reach : ∀ v ∈ us, Reach B w v
  sub : ∀ v ∈ st, v ∈ us
  cnt : us.length = st.length + i
  done : ∀ v ∈ us, ¬ v ∈ st → ¬ v ∈ ex → ∀ p c, v[p]? = some c → c ∈ B → swapL v p ∈ us
theorem Srch.one (B w : List Nat) : Srch B w [w] [w] 0 [] where
  nd := by simp
  start := by simp
  reach := fun v hv => by rw [List.mem_singleton.mp hv]; exact .refl
  sub := fun v hv => hv
  cnt := rfl
  done := fun v hv hn => absurd hv hn
theorem pow_self_le {n m : Nat} (h : n ≤ m) (hm : 1 ≤ m) : n ^ n ≤ m ^ m := Nat.le_trans (Nat.pow_le_pow_left h n) (Nat.pow_le_pow_right hm h)
theorem Srch.len {B w : List Nat} {us st ex : List (List Nat)} {i : Nat} (h : Srch B w us st i ex) (hw : w.length ≤ 5) : us.length ≤ 3125 := by
  have h1 := few_of_nodup (b := allW w w.length) h.nd fun v hv => mem_allW.mpr ⟨(h.reach v hv).len, (h.reach v hv).mem⟩
  rw [len_allW] at h1
  have h2 := pow_self_le hw (by decide)
  have h3 : (5 : Nat) ^ 5 = 3125 := by decide
  omega
theorem Srch.pop {B w v : List Nat} {us st : List (List Nat)} {i : Nat} (h : Srch B w us st i []) (hv : st[st.length - 1]? = some v) : Srch B w us st.dropLast (i + 1) [v] where
  nd := h.nd
  start := h.start
  reach := h.reach
  sub := fun u hu => h.sub u (List.dropLast_subset _ hu)
  cnt := by
    have := h.cnt
    have h0 : 0 < st.length := by
      cases st with
      | nil => simp at hv
      | cons _ _ => simp
    rw [List.length_dropLast]
    omega
  done := fun u hu hn he p c hc hb => h.done u hu (fun hs => by
    have hne : st ≠ [] := by
      rintro rfl
      simp at hv
    have e : st = st.dropLast ++ [st.getLast hne] := (List.dropLast_concat_getLast hne).symm
    have e2 : st.getLast hne = v := by
      rw [List.getLast_eq_getElem]
      have hlt : st.length - 1 < st.length := by
        have := List.length_pos_iff.mpr hne
        omega
      rw [List.getElem?_eq_getElem hlt] at hv
      exact Option.some.inj hv
    rw [e, e2] at hs
    rcases List.mem_append.mp hs with hs | hs
    · exact hn hs
    · exact he hs) (by simp) p c hc hb
theorem Srch.add {B w v : List Nat} {us st ex : List (List Nat)} {i p c : Nat} (h : Srch B w us st i ex) (hv : v ∈ us) (hc : v[p]? = some c) (hb : c ∈ B) (hn : ¬ swapL v p ∈ us) : Srch B w (us ++ [swapL v p]) (st ++ [swapL v p]) i ex where
  nd := by
    rw [List.nodup_append]
    exact ⟨h.nd, by simp, fun a ha b hb' e => hn (by rw [List.mem_singleton.mp hb'] at e; exact e ▸ ha)⟩
  start := List.mem_append.mpr (.inl h.start)
  reach := fun u hu => by
    rcases List.mem_append.mp hu with hu | hu
    · exact h.reach u hu
    · rw [List.mem_singleton.mp hu]; exact .step (h.reach v hv) hc hb
  sub := fun u hu => by
    rcases List.mem_append.mp hu with hu | hu
    · exact List.mem_append.mpr (.inl (h.sub u hu))
    · exact List.mem_append.mpr (.inr hu)
  cnt := by rw [List.length_append, List.length_append, h.cnt]; simp; omega
  done := fun u hu hs he q d hd hB => by
    rcases List.mem_append.mp hu with hu | hu
    · exact List.mem_append.mpr (.inl (h.done u hu (fun z => hs (List.mem_append.mpr (.inl z))) he q d hd hB))
    · exact absurd (List.mem_append.mpr (.inr hu)) hs
theorem Srch.fin {B w v : List Nat} {us st : List (List Nat)} {i : Nat} (h : Srch B w us st i [v]) (hd : ∀ p c, v[p]? = some c → c ∈ B → swapL v p ∈ us) : Srch B w us st i [] where
  nd := h.nd
  start := h.start
  reach := h.reach
  sub := h.sub
  cnt := h.cnt
  done := fun u hu hs _ p c hc hb => by
    by_cases z : u = v
    · subst z; exact hd p c hc hb
    · exact h.done u hu hs (by simpa using z) p c hc hb
theorem Srch.all {B w : List Nat} {us : List (List Nat)} {i : Nat} (h : Srch B w us [] i []) : ∀ v, v ∈ us ↔ Reach B w v :=
  reach_list h.start h.reach fun v hv p c hc hb => h.done v hv (by simp) (by simp) p c hc hb
theorem comes_len {l m js : List Nat} (hl : wordB l = true) (hm : wordB m = true) (h : comesB l m js = true) : m.length = l.length := ((reach_iff hl hm).mpr h).len
theorem Reach.word {js w v : List Nat} (h : Reach js w v) (hw : wordB w = true) : wordB v = true := wordB_of fun c hc => wordB_mem hw (h.mem c hc)
theorem bar_non {b : Bool} {v : V} (h : if b = true then v = V.non else ∃ T, v = V.ref T) : decide (v = V.non) = b := by
  cases b with
  | true => rw [if_pos rfl] at h; rw [h]; rfl
  | false =>
    rw [if_neg (by decide)] at h
    obtain ⟨T0, rfl⟩ := h
    exact decide_eq_false fun q => by cases q
theorem same_ne (b : Bool) : (!decide (V.bl b = V.bl b)) = false := by simp
theorem same_eq (b : Bool) : decide (V.bl b = V.bl b) = true := by simp
theorem asc_take : ∀ {l : List Nat} {n : Nat}, ascB l = true → ascB (l.take n) = true
  | [], n, _ => by simp [ascB]
  | [a], n, _ => by cases n <;> simp [ascB]
  | a :: b :: r, 0, _ => rfl
  | a :: b :: r, 1, _ => by simp [ascB]
  | a :: b :: r, n + 2, h => by
    have e1 : ascB (a :: b :: r) = (decide (a < b) && ascB (b :: r)) := rfl
    have e2 : ascB ((a :: b :: r).take (n + 2)) = (decide (a < b) && ascB ((b :: r).take (n + 1))) := rfl
    rw [e1, Bool.and_eq_true] at h
    rw [e2, h.1, asc_take h.2]
    rfl
theorem joints_word {js : List Nat} (h : jointsB js = true) : wordB js = true := by
  unfold jointsB at h
  rw [Bool.and_eq_true] at h
  exact h.1
theorem joints_take {js : List Nat} {n : Nat} (h : jointsB js = true) : jointsB (js.take n) = true := by
  have hw := joints_word h
  unfold jointsB at h ⊢
  rw [Bool.and_eq_true] at h ⊢
  exact ⟨wordB_of fun c hc => wordB_mem hw (List.mem_of_mem_take hc), asc_take h.2⟩
end Sw
/-! The first and the last word of a class. -/
namespace Sw
open PySem PySem.Spec PyProof.Rows L2
/-! ### max of a list of words -/
def maxL (x : List Nat) (xs : List (List Nat)) : List Nat := xs.foldl (fun a y => if a < y then y else a) x
theorem maxD_words (x : List Nat) (xs : List (List Nat)) : PySem.W.maxD (.str (S x)) (wordsD xs) = .str (S (maxL x xs)) := by
  unfold PySem.W.maxD maxL wordsD
  induction xs generalizing x with
  | nil => rfl
  | cons y r ih =>
    rw [List.map_cons, List.foldl_cons, List.foldl_cons, ← ih]
    (try dsimp only)
    rw [PySem.W.dataLt_str]
    have e : (if decide ((S x).cps.toList < (S y).cps.toList) = true then PyData.str (S y) else PyData.str (S x)) = .str (S (if x < y then y else x)) := by
      by_cases h : x < y
      · rw [if_pos (decide_eq_true h), if_pos h]
      · rw [if_neg (fun z => h (of_decide_eq_true z)), if_neg h]
    rw [e]
def rMaxS (K : PySem.W.Frag) : List V → Hp → VK → Prop := fun vs H Q => ∃ (a : Addr) (x : List Nat) (xs : List (List Nat)), vs = [V.ref a] ∧ SqL K H a (wordsV (x :: xs)) ∧ Q (.str (S (maxL x xs))) H
theorem cr_maxS {X : Cx} (hc : X.calm = true) (hu : X.A.units + 64 < cLine) : CallR X (.builtin "max") (rMaxS X.K) := by
  intro pins s σ H vs us Q I r h
  obtain ⟨a, x, xs, rfl, hs, q⟩ := h
  obtain ⟨its, rv, hl, _⟩ := I.list hs
  rw [Vals.ref1 r]
  obtain ⟨as, hr⟩ := Dp.readsAll I _ _ _ (words_dp (K := X.K) (H := H) (x :: xs)) rv
  have hd : PyData.depthAll (wordsD (x :: xs)) = 0 := words_depth (x :: xs)
  refine PySem.W.max_list_data (I.ok.hd hc) hl.isList (x := .str (S x)) (xs := wordsD xs) (by rw [List.toList_toArray]; exact hr) (words_alike (x :: xs)) (by show X.A.units + 1 + PyData.depthAll (wordsD (x :: xs)) < cLine; rw [hd]; omega) fun i v h' tk bs _ rd hk => ?_
  rw [maxD_words] at rd
  cases rd
  exact ⟨.str _, H, I.kept hk, ⟨_, rfl⟩, q⟩
theorem lt_irr (a : List Nat) : ¬ a < a := List.lt_irrefl a
theorem lt_tr {a b c : List Nat} (h : a < b) (g : b < c) : a < c := List.lt_trans h g
theorem lt_tot {a b : List Nat} (h : ¬ a < b) (g : ¬ b < a) : a = b := List.le_antisymm (List.not_lt.mp g) (List.not_lt.mp h)
theorem lt_neg {a b c : List Nat} (h : ¬ b < a) (g : ¬ c < b) : ¬ c < a := fun q => by
  have h1 : a ≤ b := List.not_lt.mp h
  have h2 : b ≤ c := List.not_lt.mp g
  exact List.not_lt.mpr (List.le_trans h1 h2) q
theorem maxL_ge (x : List Nat) (xs : List (List Nat)) : (∀ y ∈ x :: xs, ¬ maxL x xs < y) ∧ maxL x xs ∈ x :: xs := by
  unfold maxL
  induction xs generalizing x with
  | nil => exact ⟨fun y hy => by rw [List.mem_singleton.mp hy]; exact lt_irr _, by simp⟩
  | cons z r ih =>
    rw [List.foldl_cons]
    by_cases h : x < z
    · rw [if_pos h]
      obtain ⟨h1, h2⟩ := ih z
      refine ⟨fun y hy => ?_, List.mem_cons_of_mem _ h2⟩
      rcases List.mem_cons.mp hy with rfl | hy
      · exact fun q => h1 z List.mem_cons_self (lt_tr q h)
      · exact h1 y hy
    · rw [if_neg h]
      obtain ⟨h1, h2⟩ := ih x
      refine ⟨fun y hy => ?_, ?_⟩
      · rcases List.mem_cons.mp hy with rfl | hy
        · exact h1 y List.mem_cons_self
        · rcases List.mem_cons.mp hy with rfl | hy
          · exact lt_neg h (h1 x List.mem_cons_self)
          · exact h1 y (List.mem_cons_of_mem _ hy)
      · rcases List.mem_cons.mp h2 with e | e
        · rw [e]; exact List.mem_cons_self
        · exact List.mem_cons_of_mem _ (List.mem_cons_of_mem _ e)
def maxW : List (List Nat) → List Nat
  | [] => []
  | x :: xs => maxL x xs
theorem maxW_spec {ws : List (List Nat)} (h : ws ≠ []) : (∀ y ∈ ws, ¬ maxW ws < y) ∧ maxW ws ∈ ws := by
  cases ws with
  | nil => exact absurd rfl h
  | cons x xs => exact maxL_ge x xs
/-! ### parts between stars -/
def splL : List Nat → List (List Nat)
  | [] => [[]]
  | c :: r => if c = 42 then [] :: splL r else (match splL r with | h :: t => (c :: h) :: t | [] => [[c]])
theorem splL_ne : ∀ l, splL l ≠ []
  | [] => by simp [splL]
  | c :: r => by
    show (if c = 42 then [] :: splL r else (match splL r with | h :: t => (c :: h) :: t | [] => [[c]])) ≠ []
    by_cases z : c = 42
    · rw [if_pos z]; simp
    · rw [if_neg z]
      cases splL r <;> simp
theorem pre_one (c : Nat) (r : List Nat) : TL.pre [42] (c :: r) = decide (c = 42) := by
  show ([c] == [42]) = _
  by_cases z : c = 42
  · subst z; rfl
  · rw [decide_eq_false z]; simp [z]
theorem spl_one : ∀ (l acc : List Nat), TL.spl [42] 0 acc l = (match splL l with | h :: t => (acc ++ h) :: t | [] => [])
  | [], acc => by rw [TL.spl_nil]; simp [splL]
  | c :: r, acc => by
    have e : splL (c :: r) = if c = 42 then [] :: splL r else (match splL r with | h :: t => (c :: h) :: t | [] => [[c]]) := rfl
    by_cases z : c = 42
    · rw [TL.spl_hit (by rw [pre_one]; exact decide_eq_true z), e, if_pos z]
      have ih := spl_one r []
      show acc :: TL.spl [42] 0 [] r = _
      rw [ih]
      cases h : splL r with
      | nil => exact absurd h (splL_ne r)
      | cons h t => simp
    · rw [TL.spl_miss (by rw [pre_one]; exact decide_eq_false z), e, if_neg z, spl_one r (acc ++ [c])]
      cases h : splL r with
      | nil => exact absurd h (splL_ne r)
      | cons h t => simp
theorem split_star (l : List Nat) : Txt.split (S l) (S [42]) = (splL l).map S := by
  rw [SX.split_S (by simp) (by decide), spl_one]
  cases h : splL l with
  | nil => exact absurd h (splL_ne l)
  | cons h t => simp
theorem splL_len : ∀ l : List Nat, (splL l).length = l.count 42 + 1
  | [] => rfl
  | c :: r => by
    have e : splL (c :: r) = if c = 42 then [] :: splL r else (match splL r with | h :: t => (c :: h) :: t | [] => [[c]]) := rfl
    have ih := splL_len r
    by_cases z : c = 42
    · rw [e, if_pos z, List.length_cons, ih, z, List.count_cons_self]
    · rw [e, if_neg z, List.count_cons_of_ne (fun q => z q)]
      cases h : splL r with
      | nil => exact absurd h (splL_ne r)
      | cons h t => rw [h] at ih; simpa using ih
theorem fill_unf (d : Nat) (r J : List Nat) : fillL (d :: r) J = if d = 42 then (match J with | [] => [] | x :: J => x :: fillL r J) else d :: fillL r J := rfl
/-- the parts with letters between them -/
def zipJ (ps : List (List Nat)) (J : List Nat) : List Nat := ((ps.zip (J.map (fun c => [c]) ++ [[]])).map fun p => p.1 ++ p.2).flatten
theorem zip_fill : ∀ {p J : List Nat}, p.count 42 = J.length → zipJ (splL p) J = fillL p J
  | [], [], _ => rfl
  | [], _ :: _, h => by simp at h
  | c :: r, J, h => by
    have e : splL (c :: r) = if c = 42 then [] :: splL r else (match splL r with | h :: t => (c :: h) :: t | [] => [[c]]) := rfl
    have ef := fill_unf c r J
    by_cases z : c = 42
    · rw [z, List.count_cons_self] at h
      cases J with
      | nil => simp at h
      | cons x J =>
        have ih := zip_fill (p := r) (J := J) (by simpa using h)
        rw [e, if_pos z, ef, if_pos z]
        show _ = x :: fillL r J
        rw [← ih]
        rfl
    · rw [List.count_cons_of_ne (fun q => z q)] at h
      have ih := zip_fill (p := r) (J := J) h
      rw [e, if_neg z, ef, if_neg z, ← ih]
      cases hs : splL r with
      | nil => exact absurd hs (splL_ne r)
      | cons u t =>
        cases J with
        | nil => rfl
        | cons x J => rfl
/-! ### fillings -/
theorem fill_len : ∀ {p J : List Nat}, p.count 42 = J.length → (fillL p J).length = p.length
  | [], _, _ => rfl
  | c :: r, J, h => by
    have ef := fill_unf c r J
    by_cases z : c = 42
    · rw [z, List.count_cons_self] at h
      cases J with
      | nil => simp at h
      | cons x J => rw [ef, if_pos z]; show (x :: fillL r J).length = _; rw [List.length_cons, fill_len (by simpa using h)]; rfl
    · rw [List.count_cons_of_ne (fun q => z q)] at h
      rw [ef, if_neg z, List.length_cons, fill_len h]; rfl
theorem fill_mem : ∀ {p J : List Nat} {c : Nat}, c ∈ fillL p J → (c ∈ p ∧ c ≠ 42) ∨ c ∈ J
  | [], J, c, h => by cases h
  | d :: r, J, c, h => by
    have ef := fill_unf d r J
    rw [ef] at h
    by_cases z : d = 42
    · rw [if_pos z] at h
      cases J with
      | nil => cases h
      | cons x J =>
        rcases List.mem_cons.mp h with rfl | h
        · exact .inr List.mem_cons_self
        · rcases fill_mem h with ⟨h1, h2⟩ | h
          · exact .inl ⟨List.mem_cons_of_mem _ h1, h2⟩
          · exact .inr (List.mem_cons_of_mem _ h)
    · rw [if_neg z] at h
      rcases List.mem_cons.mp h with rfl | h
      · exact .inl ⟨List.mem_cons_self, z⟩
      · rcases fill_mem h with ⟨h1, h2⟩ | h
        · exact .inl ⟨List.mem_cons_of_mem _ h1, h2⟩
        · exact .inr h
theorem fill_back {js : List Nat} : ∀ {p J : List Nat}, (∀ c ∈ p, c = 42 ∨ ¬ c ∈ js) → (∀ c ∈ J, c ∈ js) → p.count 42 = J.length → starL (fillL p J) js = p ∧ (fillL p J).filter (fun c => decide (c ∈ js)) = J
  | [], [], _, _, _ => ⟨rfl, rfl⟩
  | [], _ :: _, _, _, h => by simp at h
  | d :: r, J, hp, hJ, h => by
    have ef := fill_unf d r J
    have hp' : ∀ c ∈ r, c = 42 ∨ ¬ c ∈ js := fun c hc => hp c (List.mem_cons_of_mem _ hc)
    rw [ef]
    by_cases z : d = 42
    · rw [z, List.count_cons_self] at h
      rw [if_pos z]
      cases J with
      | nil => simp at h
      | cons x J =>
        obtain ⟨h1, h2⟩ := fill_back (J := J) hp' (fun c hc => hJ c (List.mem_cons_of_mem _ hc)) (by simpa using h)
        have hx := hJ x List.mem_cons_self
        refine ⟨?_, ?_⟩
        · show (if x ∈ js then 42 else x) :: starL (fillL r J) js = _
          rw [if_pos hx, h1, z]
        · show (x :: fillL r J).filter _ = _
          rw [List.filter_cons, if_pos (decide_eq_true hx), h2]
    · rw [List.count_cons_of_ne (fun q => z q)] at h
      rw [if_neg z]
      obtain ⟨h1, h2⟩ := fill_back hp' hJ h
      have hd : ¬ d ∈ js := (hp d List.mem_cons_self).resolve_left z
      refine ⟨?_, ?_⟩
      · show (if d ∈ js then 42 else d) :: starL (fillL r J) js = _
        rw [if_neg hd, h1]
      · rw [List.filter_cons, if_neg (fun q => hd (of_decide_eq_true q)), h2]
theorem fill_least : ∀ {p A J : List Nat}, A.Perm J → A.Pairwise (· ≤ ·) → p.count 42 = J.length → ¬ fillL p J < fillL p A
  | [], _, _, _, _, _ => lt_irr _
  | d :: r, A, J, hp, hs, h => by
    have ef : ∀ J, fillL (d :: r) J = if d = 42 then (match J with | [] => [] | x :: J => x :: fillL r J) else d :: fillL r J := fun _ => rfl
    rw [ef, ef]
    by_cases z : d = 42
    · rw [z, List.count_cons_self] at h
      rw [if_pos z, if_pos z]
      cases J with
      | nil => simp at h
      | cons x J =>
        cases A with
        | nil => have := hp.length_eq; simp at this
        | cons a A =>
          show ¬ x :: fillL r J < a :: fillL r A
          rw [List.cons_lt_cons_iff]
          obtain ⟨ha, hs'⟩ := List.pairwise_cons.mp hs
          have hax : a ≤ x := by
            rcases List.mem_cons.mp (hp.mem_iff.mpr (List.mem_cons_self : x ∈ x :: J)) with e | e
            · omega
            · exact ha x e
          rintro (q | ⟨e, q⟩)
          · omega
          · subst e
            exact fill_least (List.Perm.cons_inv hp) hs' (by simpa using h) q
    · rw [List.count_cons_of_ne (fun q => z q)] at h
      rw [if_neg z, if_neg z, List.cons_lt_cons_iff]
      rintro (q | ⟨_, q⟩)
      · omega
      · exact fill_least hp hs h q
theorem fill_most : ∀ {p A J : List Nat}, A.Perm J → A.Pairwise (· ≥ ·) → p.count 42 = J.length → ¬ fillL p A < fillL p J
  | [], _, _, _, _, _ => lt_irr _
  | d :: r, A, J, hp, hs, h => by
    have ef : ∀ J, fillL (d :: r) J = if d = 42 then (match J with | [] => [] | x :: J => x :: fillL r J) else d :: fillL r J := fun _ => rfl
    rw [ef, ef]
    by_cases z : d = 42
    · rw [z, List.count_cons_self] at h
      rw [if_pos z, if_pos z]
      cases J with
      | nil => simp at h
      | cons x J =>
        cases A with
        | nil => have := hp.length_eq; simp at this
        | cons a A =>
          show ¬ a :: fillL r A < x :: fillL r J
          rw [List.cons_lt_cons_iff]
          obtain ⟨ha, hs'⟩ := List.pairwise_cons.mp hs
          have hax : x ≤ a := by
            rcases List.mem_cons.mp (hp.mem_iff.mpr (List.mem_cons_self : x ∈ x :: J)) with e | e
            · omega
            · exact ha x e
          rintro (q | ⟨e, q⟩)
          · omega
          · subst e
            exact fill_most (List.Perm.cons_inv hp) hs' (by simpa using h) q
    · rw [List.count_cons_of_ne (fun q => z q)] at h
      rw [if_neg z, if_neg z, List.cons_lt_cons_iff]
      rintro (q | ⟨_, q⟩)
      · omega
      · exact fill_most hp hs h q
/-! ### rows behind the stars of a ring -/
def rowAt (r : List Nat) (c : Nat) : List Nat := r.drop (c + 1) ++ r.take c
def perN (r : List Nat) : Nat := r.length / keepN r
def rowsTo (r : List Nat) (n : Nat) : List (List Nat) := ((List.range n).filter fun c => decide (r[c]? = some 42)).map (rowAt r)
def rowsL (r : List Nat) : List (List Nat) := rowsTo r (perN r)
theorem rows_succ {r : List Nat} {i c : Nat} (h : r[i]? = some c) : rowsTo r (i + 1) = rowsTo r i ++ (if c = 42 then [rowAt r i] else []) := by
  unfold rowsTo
  rw [List.range_succ, List.filter_append, List.map_append]
  congr 1
  by_cases z : c = 42
  · rw [if_pos z]; simp [h, z]
  · rw [if_neg z]; simp [h, z]
theorem rows_len (r : List Nat) (n : Nat) : (rowsTo r n).length ≤ n := by
  unfold rowsTo
  rw [List.length_map]
  exact Nat.le_trans (List.length_filter_le _ _) (by rw [List.length_range]; exact Nat.le_refl _)
theorem rot_row {r : List Nat} {c x : Nat} (h : r[c]? = some x) : rotL r c = x :: rowAt r c := by
  unfold rotL rowAt
  have hc : c < r.length := (List.getElem?_eq_some_iff.mp h).1
  have e : r[c] = x := (List.getElem?_eq_some_iff.mp h).2
  rw [List.drop_eq_getElem_cons hc, e]
  rfl
theorem rot_row1 {r : List Nat} {c x : Nat} (h : r[c]? = some x) : rotL r (c + 1) = rowAt r c ++ [x] := by
  unfold rotL rowAt
  have hc : c < r.length := (List.getElem?_eq_some_iff.mp h).1
  have e : r[c] = x := (List.getElem?_eq_some_iff.mp h).2
  rw [List.take_succ_eq_append_getElem hc, e, List.append_assoc]
theorem per_le (r : List Nat) : perN r ≤ r.length := Nat.div_le_self _ _
/-- each star has a star ahead of the period with the same row -/
theorem row_ahead {r : List Nat} {c x : Nat} (h : r[c]? = some x) : ∃ c', c' < perN r ∧ r[c']? = some x ∧ rowAt r c' = rowAt r c := by
  have hc : c < r.length := (List.getElem?_eq_some_iff.mp h).1
  have hr : r ≠ [] := by rintro rfl; simp at h
  obtain ⟨d, d0, d1, d2⟩ := keep_count hr
  have hk := keep_pos hr
  have hper : perN r = d := by unfold perN; rw [← d1]; exact Nat.mul_div_cancel_left d hk
  have hdl : d ≤ r.length := by rw [← d1]; exact Nat.le_mul_of_pos_left d hk
  have hm : c / d * d ≤ r.length := Nat.le_trans (Nat.div_mul_le_self c d) (by omega)
  have h1 := per_mul hdl d2 (c / d) hm
  have hlt : c % d < d := Nat.mod_lt _ d0
  have hcd : c / d * d + c % d = c := by rw [Nat.mul_comm]; exact Nat.div_add_mod c d
  have h2 := rot_add (i := c / d * d) (j := c % d) hm (by omega) h1
  rw [hcd, Nat.mod_eq_of_lt hc] at h2
  have hlt2 : c % d < r.length := by omega
  have h3 : r[c % d]? = some r[c % d] := List.getElem?_eq_getElem hlt2
  rw [rot_row h, rot_row h3] at h2
  injection h2 with e1 e2
  exact ⟨c % d, by omega, by rw [h3, e1], e2.symm⟩
theorem row_star {w js : List Nat} {c : Nat} (h : (ringL w js)[c]? = some 42) : ∀ x ∈ rowAt (ringL w js) c, x = 42 ∨ (x ∈ w ∧ ¬ x ∈ js) := by
  intro x hx
  have hx' : x ∈ ringL w js := by
    unfold rowAt at hx
    exact (List.mem_append.mp hx).elim List.mem_of_mem_drop List.mem_of_mem_take
  unfold ringL starL at hx'
  rcases List.mem_append.mp hx' with h1 | h1
  · obtain ⟨y, hy, rfl⟩ := List.mem_map.mp h1
    by_cases z : y ∈ js
    · rw [if_pos z]; exact .inl rfl
    · rw [if_neg z]; exact .inr ⟨hy, z⟩
  · exact .inl (List.mem_singleton.mp h1)
def heldL (w js : List Nat) : List Nat := w.filter fun c => decide (c ∈ js)
theorem row_count {w js : List Nat} (hw : ¬ 42 ∈ w) {c : Nat} (h : (ringL w js)[c]? = some 42) : (rowAt (ringL w js) c).count 42 = (heldL w js).length := by
  have h1 : (rotL (ringL w js) c).count 42 = (ringL w js).count 42 := count_rot
  rw [rot_row h, List.count_cons_self] at h1
  have h2 : (ringL w js).count 42 = (starL w js).count 42 + 1 := by unfold ringL; rw [List.count_append]; rfl
  have h3 := star_count (js := js) hw
  unfold heldL
  omega
theorem row_len {w js : List Nat} {c : Nat} (h : (ringL w js)[c]? = some 42) : (rowAt (ringL w js) c).length = w.length := by
  have h1 := rot_len (ringL w js) c
  rw [rot_row h, ring_len, List.length_cons] at h1
  omega
/-- a filled row is a word of the class -/
theorem row_comes {w js A : List Nat} (hw : ¬ 42 ∈ w) {c : Nat} (h : (ringL w js)[c]? = some 42) (hA : A.Perm (heldL w js)) : comesB w (fillL (rowAt (ringL w js) c) A) js = true := by
  have hn := row_count hw h
  have hs := row_star h
  obtain ⟨h1, h2⟩ := fill_back (js := js) (p := rowAt (ringL w js) c) (J := A) (fun x hx => (hs x hx).imp id And.right) (fun x hx => of_decide_eq_true (List.mem_filter.mp (hA.mem_iff.mp hx)).2) (by rw [hn, hA.length_eq])
  refine comes_yes ?_ fun x hx => ?_
  · have e : ringL (fillL (rowAt (ringL w js) c) A) js = rotL (ringL w js) (c + 1) := by
      rw [rot_row1 h]; show starL (fillL (rowAt (ringL w js) c) A) js ++ [42] = _; rw [h1]
    have hc : c < (ringL w js).length := (List.getElem?_eq_some_iff.mp h).1
    rw [e, min_rot (by omega)]
  · have e1 : ∀ l : List Nat, (l.filter fun c => decide (c ∈ js)).count x = l.count x := fun l => List.count_filter (p := fun c => decide (c ∈ js)) (decide_eq_true hx)
    rw [← e1 w, ← e1 (fillL _ A), h2]
    exact (hA.count_eq x).symm
theorem row_word {w js A : List Nat} (hw : wordB w = true) {c : Nat} (h : (ringL w js)[c]? = some 42) (hA : A.Perm (heldL w js)) : wordB (fillL (rowAt (ringL w js) c) A) = true := wordB_of fun x hx => by
  rcases fill_mem hx with ⟨h1, h2⟩ | h1
  · exact wordB_mem hw ((row_star h x h1).resolve_left h2).1
  · exact wordB_mem hw (List.mem_filter.mp (hA.mem_iff.mp h1)).1
/-- each word of the class is a filled row -/
theorem comes_row {w v js : List Nat} (hv : ¬ 42 ∈ v) (h : comesB w v js = true) : ∃ c, c < perN (ringL w js) ∧ (ringL w js)[c]? = some 42 ∧ starL v js = rowAt (ringL w js) c ∧ (heldL v js).Perm (heldL w js) ∧ v = fillL (rowAt (ringL w js) c) (heldL v js) := by
  unfold comesB at h
  rw [Bool.and_eq_true] at h
  obtain ⟨h1, h2⟩ := h
  obtain ⟨k, hk, e⟩ := rot_of_min (ring_ne w js) (ring_ne v js) (of_decide_eq_true h1)
  have hrl := ring_len w js
  have key : ∃ c0, (ringL w js)[c0]? = some 42 ∧ starL v js = rowAt (ringL w js) c0 := by
    cases k with
    | zero =>
      rw [rot_zero] at e
      have hl : v.length = w.length := by have := congrArg List.length e; rw [ring_len, ring_len] at this; omega
      refine ⟨w.length, ?_, ?_⟩
      · unfold ringL; rw [List.getElem?_append_right (by rw [star_len]; omega), star_len]; simp
      · unfold rowAt
        rw [List.drop_eq_nil_of_le (by omega), List.nil_append]
        have : starL v js ++ [42] = starL w js ++ [42] := e
        have e2 : starL v js = starL w js := List.append_cancel_right this
        rw [e2]
        unfold ringL
        rw [List.take_append_of_le_length (by rw [star_len]; exact Nat.le_refl _), List.take_of_length_le (by rw [star_len]; exact Nat.le_refl _)]
    | succ c0 =>
      have hc0 : c0 < (ringL w js).length := by omega
      have hx : (ringL w js)[c0]? = some (ringL w js)[c0] := List.getElem?_eq_getElem hc0
      rw [rot_row1 hx] at e
      have e' : starL v js ++ [42] = rowAt (ringL w js) c0 ++ [(ringL w js)[c0]] := e
      obtain ⟨e1, e2⟩ := List.append_inj' e' rfl
      injection e2 with e3
      exact ⟨c0, by rw [hx, ← e3], e1⟩
  obtain ⟨c0, hc0, es⟩ := key
  obtain ⟨c, hc, hx, er⟩ := row_ahead hc0
  have he : (heldL v js).Perm (heldL w js) := (held_perm h2).symm
  refine ⟨c, hc, hx, by rw [es, er], he, ?_⟩
  rw [er, ← es]
  exact (fill_star hv).symm
/-! ### the first and the last word -/
def upL (w js A : List Nat) : List Nat := minW ((rowsL (ringL w js)).map fun p => fillL p A)
def downL (w js A : List Nat) : List Nat := maxW ((rowsL (ringL w js)).map fun p => fillL p A)
theorem rows_ne (w js : List Nat) : rowsL (ringL w js) ≠ [] := by
  have h : (ringL w js)[w.length]? = some 42 := by unfold ringL; rw [List.getElem?_append_right (by rw [star_len]; omega), star_len]; simp
  obtain ⟨c', h1, h2, _⟩ := row_ahead h
  unfold rowsL rowsTo
  intro e
  rw [List.map_eq_nil_iff] at e
  have : c' ∈ (List.range (perN (ringL w js))).filter fun c => decide ((ringL w js)[c]? = some 42) := List.mem_filter.mpr ⟨List.mem_range.mpr h1, decide_eq_true h2⟩
  rw [e] at this
  cases this
theorem mem_rows {r p : List Nat} : p ∈ rowsL r ↔ ∃ c, c < perN r ∧ r[c]? = some 42 ∧ p = rowAt r c := by
  unfold rowsL rowsTo
  rw [List.mem_map]
  constructor
  · rintro ⟨c, hc, rfl⟩
    obtain ⟨h1, h2⟩ := List.mem_filter.mp hc
    exact ⟨c, List.mem_range.mp h1, of_decide_eq_true h2, rfl⟩
  · rintro ⟨c, h1, h2, rfl⟩
    exact ⟨c, List.mem_filter.mpr ⟨List.mem_range.mpr h1, decide_eq_true h2⟩, rfl⟩
/-- u is the least word of the class of w -/
structure Least (w js u : List Nat) : Prop where
  word : wordB u = true
  cls : comesB w u js = true
  le : ∀ v, wordB v = true → comesB w v js = true → ¬ v < u
structure Most (w js u : List Nat) : Prop where
  word : wordB u = true
  cls : comesB w u js = true
  ge : ∀ v, wordB v = true → comesB w v js = true → ¬ u < v
theorem up_least {w js A : List Nat} (hw : wordB w = true) (hA : A.Perm (heldL w js)) (hs : A.Pairwise (· ≤ ·)) : Least w js (upL w js A) := by
  have h42 := word_star hw
  have hne : ((rowsL (ringL w js)).map fun p => fillL p A) ≠ [] := fun e => rows_ne w js (List.map_eq_nil_iff.mp e)
  obtain ⟨h1, h2⟩ := minW_spec hne
  obtain ⟨p, hp, e⟩ := List.mem_map.mp h2
  obtain ⟨c, _, hc, rfl⟩ := mem_rows.mp hp
  refine ⟨?_, ?_, fun v hv hcv => ?_⟩
  · show wordB (minW _) = true
    rw [← e]; exact row_word hw hc hA
  · show comesB w (minW _) js = true
    rw [← e]; exact row_comes h42 hc hA
  · obtain ⟨c', h3, h4, _, h5, h6⟩ := comes_row (word_star hv) hcv
    have h7 := h1 (fillL (rowAt (ringL w js) c') A) (List.mem_map.mpr ⟨_, mem_rows.mpr ⟨c', h3, h4, rfl⟩, rfl⟩)
    have h8 := fill_least (p := rowAt (ringL w js) c') (hA.trans h5.symm) hs (by rw [row_count h42 h4]; exact h5.length_eq.symm)
    rw [← h6] at h8
    exact lt_neg h7 h8
theorem down_most {w js A : List Nat} (hw : wordB w = true) (hA : A.Perm (heldL w js)) (hs : A.Pairwise (· ≥ ·)) : Most w js (downL w js A) := by
  have h42 := word_star hw
  have hne : ((rowsL (ringL w js)).map fun p => fillL p A) ≠ [] := fun e => rows_ne w js (List.map_eq_nil_iff.mp e)
  obtain ⟨h1, h2⟩ := maxW_spec hne
  obtain ⟨p, hp, e⟩ := List.mem_map.mp h2
  obtain ⟨c, _, hc, rfl⟩ := mem_rows.mp hp
  refine ⟨?_, ?_, fun v hv hcv => ?_⟩
  · show wordB (maxW _) = true
    rw [← e]; exact row_word hw hc hA
  · show comesB w (maxW _) js = true
    rw [← e]; exact row_comes h42 hc hA
  · obtain ⟨c', h3, h4, _, h5, h6⟩ := comes_row (word_star hv) hcv
    have h7 := h1 (fillL (rowAt (ringL w js) c') A) (List.mem_map.mpr ⟨_, mem_rows.mpr ⟨c', h3, h4, rfl⟩, rfl⟩)
    have h8 := fill_most (p := rowAt (ringL w js) c') (hA.trans h5.symm) hs (by rw [row_count h42 h4]; exact h5.length_eq.symm)
    rw [← h6] at h8
    exact lt_neg h8 h7
theorem comes_trans {w v u js : List Nat} (h : comesB w v js = true) (g : comesB v u js = true) : comesB w u js = true := by
  unfold comesB at *
  rw [Bool.and_eq_true] at *
  refine ⟨decide_eq_true ((of_decide_eq_true h.1).trans (of_decide_eq_true g.1)), ?_⟩
  have h2 := h.2
  have g2 := g.2
  unfold evenB at *
  rw [List.all_eq_true] at *
  exact fun c hc => decide_eq_true ((of_decide_eq_true (h2 c hc)).trans (of_decide_eq_true (g2 c hc)))
theorem comes_refl (w js : List Nat) : comesB w w js = true := comes_yes rfl fun _ _ => rfl
theorem Least.same {w v js u u' : List Nat} (h : Least w js u) (g : Least v js u') (c : comesB w v js = true) : u = u' :=
  lt_tot (g.le u h.word (comes_trans (by rw [comes_symm]; exact c) h.cls)) (h.le u' g.word (comes_trans c g.cls))
theorem Most.same {w v js u u' : List Nat} (h : Most w js u) (g : Most v js u') (c : comesB w v js = true) : u = u' :=
  lt_tot (h.ge u' g.word (comes_trans c g.cls)) (g.ge u h.word (comes_trans (by rw [comes_symm]; exact c) h.cls))
/-! ### repr of words -/
theorem Short.word {l : List Nat} (h : wordB l = true) : Short 0 l.length (.str (S l)) := by
  have e1 : (S l).cps.toList = l := by simp [SX.S]
  refine ⟨rfl, rfl, Nat.le_refl _, ?_, ?_⟩
  · show (S l).cps.size ≤ l.length
    rw [size_S]; exact Nat.le_refl _
  · show ((S l).cps.toList.all fun c => decide (c < 16 ^ 8)) = true
    rw [e1, List.all_eq_true]
    intro c hc
    have := wordB_mem h hc
    exact decide_eq_true (Nat.lt_of_le_of_lt this.2 (by decide))
theorem Rp.words {K : PySem.W.Frag} {H : Hp} {a : Addr} {ws : List (List Nat)} {n : Nat} (h : H a = some (.lst (wordsV ws))) (hw : ∀ l ∈ ws, wordB l = true ∧ l.length ≤ n) (hn : ws.length * (n + 1) ≤ 2 ^ 20) : Rp K H (.ref a) (PyData.list (wordsD ws)).shown := by
  have hs : Short 1 ((wordsD ws).length * (n + 1)) (.list (wordsD ws)) := Short.list fun d hd => by
    obtain ⟨l, hl, rfl⟩ := List.mem_map.mp hd
    exact (Short.word (hw l hl).1).mono (Nat.le_refl _) (hw l hl).2
  refine (hs.mono (by decide) ?_).rp (.lst (SqL.of h) (words_dp ws))
  have : (wordsD ws).length = ws.length := List.length_map _
  rw [this]; exact hn
theorem joinL_flat : ∀ ws : List (List Nat), TL.joinL [] ws = ws.flatten
  | [] => rfl
  | [p] => by simp [TL.joinL]
  | p :: q :: r => by
    show p ++ ([] ++ TL.joinL [] (q :: r)) = _
    rw [joinL_flat (q :: r)]
    simp
theorem join_words (ws : List (List Nat)) : Txt.join (Str.ofString "") (ws.map S) = S ws.flatten := by
  have e0 : Str.ofString "" = S [] := by decide +kernel
  rw [e0, SX.join_S, joinL_flat]
theorem sum_words (ws : List (List Nat)) : ((ws.map S).map (·.length)).sum = ws.flatten.length := by
  induction ws with
  | nil => rfl
  | cons w r ih =>
    rw [List.map_cons, List.map_cons, List.sum_cons, ih, List.flatten_cons, List.length_append, len_S]
theorem join_wbound {ws : List (List Nat)} (h : ws.flatten.length ≤ 1000000) : ((ws.map S).map (·.length)).sum + (ws.map S).length * (Str.ofString "").length ≤ 16777216 := by
  have e0 : (Str.ofString "").length = 0 := by decide +kernel
  rw [e0, sum_words]
  omega
theorem splL_mem : ∀ {l p : List Nat}, p ∈ splL l → p.length ≤ l.length
  | [], p, h => by
    have : p = [] := by simpa [splL] using h
    rw [this]; exact Nat.le_refl _
  | c :: r, p, h => by
    have e : splL (c :: r) = if c = 42 then [] :: splL r else (match splL r with | h :: t => (c :: h) :: t | [] => [[c]]) := rfl
    rw [e] at h
    by_cases z : c = 42
    · rw [if_pos z] at h
      rcases List.mem_cons.mp h with rfl | h
      · exact Nat.zero_le _
      · have := splL_mem h; rw [List.length_cons]; omega
    · rw [if_neg z] at h
      cases hs : splL r with
      | nil => exact absurd hs (splL_ne r)
      | cons u t =>
        rw [hs] at h
        rcases List.mem_cons.mp h with rfl | h
        · have := splL_mem (l := r) (p := u) (by rw [hs]; exact List.mem_cons_self)
          rw [List.length_cons, List.length_cons]; omega
        · have := splL_mem (l := r) (p := p) (by rw [hs]; exact List.mem_cons_of_mem _ h)
          rw [List.length_cons]; omega
/-! ### sorted lists of words -/
theorem rising_words : ∀ (ws : List (List Nat)) (c : List Nat), risingS (S c) (ws.map S) = true → (c :: ws).Pairwise fun a b => ¬ b < a
  | [], c, _ => List.pairwise_singleton _ _
  | d :: ws, c, h => by
    have h' : (!ltCps (S d).cps.toList (S c).cps.toList && risingS (S d) (ws.map S)) = true := h
    rw [Bool.and_eq_true] at h'
    have ih := rising_words ws d h'.2
    have e1 : ∀ l : List Nat, (S l).cps.toList = l := fun l => by simp [SX.S]
    have hcd : ¬ d < c := by
      have := h'.1
      rw [e1, e1, ltCps_eq] at this
      intro z
      rw [decide_eq_true z] at this
      cases this
    refine List.pairwise_cons.mpr ⟨fun e he => ?_, ih⟩
    rcases List.mem_cons.mp he with rfl | he
    · exact hcd
    · exact lt_neg hcd ((List.pairwise_cons.mp ih).1 e he)
theorem sorted_words {ws : List (List Nat)} (h : sortedS (ws.map S) = true) : ws.Pairwise fun a b => ¬ b < a := by
  cases ws with
  | nil => exact .nil
  | cons c r => exact rising_words r c h
theorem first_least {us : List (List Nat)} {w js u : List Nat} (hs : us.Pairwise fun a b => ¬ b < a) (hu : ∀ v, v ∈ us ↔ Reach js w v) (hw : wordB w = true) (h : us[0]? = some u) : Least w js u := by
  have hm := (hu u).mp (List.mem_of_getElem? h)
  refine ⟨hm.word hw, reach_comes hm, fun v hv hc => ?_⟩
  have hvm := (hu v).mpr ((reach_iff hw hv).mpr hc)
  cases us with
  | nil => cases hvm
  | cons x r =>
    obtain rfl : x = u := Option.some.inj h
    rcases List.mem_cons.mp hvm with rfl | hvm
    · exact lt_irr _
    · exact (List.pairwise_cons.mp hs).1 v hvm
theorem last_most {us : List (List Nat)} {w js u : List Nat} (hs : us.Pairwise fun a b => ¬ b < a) (hu : ∀ v, v ∈ us ↔ Reach js w v) (hw : wordB w = true) (h : us[us.length - 1]? = some u) : Most w js u := by
  have hm := (hu u).mp (List.mem_of_getElem? h)
  refine ⟨hm.word hw, reach_comes hm, fun v hv hc => ?_⟩
  have hvm := (hu v).mpr ((reach_iff hw hv).mpr hc)
  have hne : us ≠ [] := by rintro rfl; cases hvm
  have e : us = us.dropLast ++ [us.getLast hne] := (List.dropLast_concat_getLast hne).symm
  have e2 : us.getLast hne = u := by
    rw [List.getLast_eq_getElem]
    have hlt : us.length - 1 < us.length := by
      have := List.length_pos_iff.mpr hne
      omega
    rw [List.getElem?_eq_getElem hlt] at h
    exact Option.some.inj h
  rw [e2] at e
  rw [e] at hs hvm
  rcases List.mem_append.mp hvm with hvm | hvm
  · exact (List.pairwise_append.mp hs).2.2 v hvm u (List.mem_singleton.mpr rfl)
  · rw [List.mem_singleton.mp hvm]; exact lt_irr _
theorem lt_S {a b : List Nat} : decide ((S a).cps.toList < (S b).cps.toList) = decide (a < b) := by
  have e1 : ∀ l : List Nat, (S l).cps.toList = l := fun l => by simp [SX.S]
  rw [e1, e1]
/-- a method with arguments, K named (for the body of a comprehension) -/
theorem pe_bmK (K : PySem.W.Frag) {X : Cx} {o e : Expr} {es : List Expr} {to : TE} {t : TA} {name : Str} {apos cpos : Pos} {T id : String} {r : V → List V → Hp → VK → Prop} (pa : PlainAttrs T) (slot : Slot T name id) (hty : typeOf (.builtin id) = pure (.type "method_descriptor")) (hm : MtR X id r) (ho : PE X o to) (ha : PA X (e :: es) t)
    (hK : X.K = K := by rfl)
    (hbase : attributeBase o name X.env (eval o X.env) = eval o X.env := by rfl)
    (hfew : ((backTo cpos (starEach (e :: es) X.env)).all (fun x => !x.1) && (backToKw cpos (keywordEach [] X.env)).all (fun x => x.1.isSome)
      && decide ((e :: es).length + ([] : List Keyword).length + (if ([] : List Keyword).isEmpty then 0 else 1) < 30)) = true := by rfl)
    (hline : (apos.endLine == cpos.line) = true := by rfl) (hs : starEach (e :: es) X.env = (false, eval e X.env) :: starEach es X.env := by rfl) (hplain : (backTo cpos (starEach es X.env)).any (·.1) = false := by rfl) :
    PE X (.Call (.Attribute o name apos) (e :: es) [] cpos) (tBM K T r to t) := hK ▸ pe_bm pa slot hty hm ho ha hbase hfew hline hs hplain
theorem Rp.word {K : PySem.W.Frag} {H : Hp} {l : List Nat} (h : wordB l = true) (n : l.length ≤ 100000) : Rp K H (.str (S l)) (reprText (S l)) :=
  Rp.signs (fun c hc => Nat.lt_of_le_of_lt (wordB_mem h hc).2 (by decide)) n
theorem reach_none {w v : List Nat} (h : Reach [] w v) : v = w := by
  cases h with
  | refl => rfl
  | step _ _ hc => cases hc
theorem Least.none {w u : List Nat} (hw : wordB w = true) (h : Least w [] u) : u = w := reach_none ((reach_iff hw h.word).mpr h.cls)
theorem Most.none {w u : List Nat} (hw : wordB w = true) (h : Most w [] u) : u = w := reach_none ((reach_iff hw h.word).mpr h.cls)
theorem Most.rep {n c : Nat} {js u : List Nat} (hw : wordB (List.replicate n c) = true) (h : Most (List.replicate n c) js u) : u = List.replicate n c :=
  List.perm_replicate.mp ((reach_iff hw h.word).mpr h.cls).perm
end Sw
/-! Deeds of told widths: which places are let; a dict made of a walk. -/
namespace Sw
open PySem PySem.Spec PyProof.Rows L2
theorem dc_itS {J : It} {n : Nat} {G : Hp → Prop} {Y : Nat → Hp → V → Hp → Prop} (w : L2.Walk J n G Y) {g : TG} {tt : TT} {tk tv : TE} {vs : List Nat} {σ : L2.St} {H1 : Hp} {D : Addr} {Qd : Hp → Prop} (Pv : Nat → Hp → Prop) (h0 : Pv 0 (L2.upd H1 D (.dK []))) (hG : ∀ i H, i ≤ n → Pv i H → G H) (hs : ∀ i x H H', i < n → Pv i H → Y i H x H' → g x (wipe σ vs) H' fun σ2 H2 => wipe σ2 vs = wipe σ vs ∧ tt σ2 H2 fun b H3 => if b = true then tk σ2 H3 fun y H4 => tv σ2 H4 fun z H5 => ∃ kvs k, y = kV k ∧ H5 D = some (.dK kvs) ∧ kvs.length < sizeLine ∧ Pv (i + 1) (L2.upd H5 D (.dK (putK kvs k z))) else Pv (i + 1) H3) (hd : ∀ H, Pv n H → Qd H) :
    ∃ W : Nat → Nat → Hp → Prop, (∃ m, W 0 m (L2.upd H1 D (.dK []))) ∧ ∀ i m H, W i m H → (J.stop i H ∧ Qd H) ∨ (J.go i H ∧ ∃ Nx : Hp → Prop, (∀ H', Nx H' → ∃ m', m' < m ∧ W (i + 1) m' H') ∧ ∀ x H', J.yld i H x H' → g x (wipe σ vs) H' fun σ2 H2 => wipe σ2 vs = wipe σ vs ∧ tt σ2 H2 fun b H3 => if b = true then tk σ2 H3 fun y H4 => tv σ2 H4 fun z H5 => ∃ kvs k, y = kV k ∧ H5 D = some (.dK kvs) ∧ kvs.length < sizeLine ∧ Nx (L2.upd H5 D (.dK (putK kvs k z))) else Nx H3) := by
  refine ⟨fun j left E => left = n - j ∧ (j ≤ n ∧ Pv j E), ⟨n, (by omega), (by omega), h0⟩, ?_⟩
  rintro j left E ⟨rfl, hj, p⟩
  have q := hG j E hj p
  by_cases hlt : j < n
  · exact .inr ⟨w.goes j E hlt q, Pv (j + 1), fun E' p' => ⟨n - (j + 1), by omega, rfl, hlt, p'⟩, fun x E' y => hs j x E E' hlt p (w.yields j E x E' hlt q y)⟩
  · have e : j = n := by omega
    subst e
    exact .inl ⟨w.stops E q, hd E p⟩
/-- whether widths let the deed at a place of a word of n letters -/
def letB (n : Nat) (wd : List Nat) (p : Nat) : Bool := decide (p + 1 ∈ wd) || decide (n - p ∈ wd)
def letL (l js wd : List Nat) : List Nat := (openL l js).filter (letB l.length wd)
def letO (n : Nat) (wd : List Nat) : Option Int → Bool
  | some i => letB n wd i.toNat
  | none => false
def letsO (n : Nat) (wd : List Nat) : Option (List (Option Int)) → Bool
  | some os => os.all (letO n wd)
  | none => false
/-- the law's walk -/
def walkW (js wd : List Nat) : List Nat → List (Option Int) → Bool
  | _, [] => true
  | l, o :: os => match placeO l js o with | some p => if letB l.length wd p then walkW js wd (swapL l p) os else false | none => false
def roadW (js wd l : List Nat) : Option (List (Option Int)) → Bool
  | some os => walkW js wd l os
  | none => false
theorem walkW_eq {js wd : List Nat} : ∀ {l : List Nat} {os : List (Option Int)}, walkW js wd l os = (walkO js l os && os.all (letO l.length wd)) := by
  intro l os
  induction os generalizing l with
  | nil => rfl
  | cons o os ih =>
    unfold walkW walkO
    cases hp : placeO l js o with
    | none => rfl
    | some p =>
      obtain ⟨c, rfl, hc, hcj⟩ := placeO_lt hp
      have hl : p < l.length := (List.getElem?_eq_some_iff.mp hc).1
      have e := ih (l := swapL l p)
      rw [swapL_len hl] at e
      dsimp only
      rw [List.all_cons, e]
      have e2 : letO l.length wd (some (p : Int)) = letB l.length wd p := by show letB l.length wd (p : Int).toNat = _; rw [Int.toNat_natCast]
      rw [e2]
      cases letB l.length wd p <;> simp
theorem roadW_eq {js wd l : List Nat} {o : Option (List (Option Int))} : roadW js wd l o = (roadB js l o && letsO l.length wd o) := by
  cases o with
  | none => rfl
  | some os => exact walkW_eq
theorem walkW_stop {js wd l : List Nat} {os : List (Option Int)} {i : Nat} {o : Option Int} (h : os[i]? = some o) (hp : placeO l js o = none) : walkW js wd l (os.drop i) = false := by
  have hi : i < os.length := (List.getElem?_eq_some_iff.mp h).1
  have e : os.drop i = o :: os.drop (i + 1) := by rw [List.drop_eq_getElem_cons hi, (List.getElem?_eq_some_iff.mp h).2]
  rw [e, walkW, hp]
theorem walkW_not {js wd l : List Nat} {os : List (Option Int)} {i p : Nat} {o : Option Int} (h : os[i]? = some o) (hp : placeO l js o = some p) (hn : letB l.length wd p = false) : walkW js wd l (os.drop i) = false := by
  have hi : i < os.length := (List.getElem?_eq_some_iff.mp h).1
  have e : os.drop i = o :: os.drop (i + 1) := by rw [List.drop_eq_getElem_cons hi, (List.getElem?_eq_some_iff.mp h).2]
  rw [e, walkW, hp]
  simp [hn]
theorem walkW_step {js wd l : List Nat} {os : List (Option Int)} {i p : Nat} {o : Option Int} (h : os[i]? = some o) (hp : placeO l js o = some p) (hn : letB l.length wd p = true) : walkW js wd l (os.drop i) = walkW js wd (swapL l p) (os.drop (i + 1)) := by
  have hi : i < os.length := (List.getElem?_eq_some_iff.mp h).1
  have e : os.drop i = o :: os.drop (i + 1) := by rw [List.drop_eq_getElem_cons hi, (List.getElem?_eq_some_iff.mp h).2]
  rw [e, walkW, hp]
  simp [hn]
theorem walkW_end {js wd l : List Nat} {os : List (Option Int)} : walkW js wd l (os.drop os.length) = true := by
  rw [List.drop_length]
  rfl
/-- the dict of widths -/
def WideK (kvs : List (Key × V)) (wd : List Nat) : Prop := kvs.length ≤ wd.length ∧ ∀ i : Int, (valV kvs (Sum.inl i)).isSome = decide (∃ w ∈ wd, i = (w : Int))
theorem WideK.nil : WideK [] [] := ⟨Nat.le_refl _, fun i => by simp [valV]⟩
theorem WideK.put {kvs : List (Key × V)} {wd : List Nat} {w : Nat} {v : V} (h : WideK kvs wd) : WideK (putK kvs (Sum.inl (w : Int)) v) (wd ++ [w]) := by
  refine ⟨?_, fun i => ?_⟩
  · have := length_putK kvs (Sum.inl (w : Int)) v
    have := h.1
    rw [List.length_append]
    simp
    omega
  · rw [valV_put]
    by_cases e : i = (w : Int)
    · subst e
      rw [if_pos rfl]
      symm
      exact decide_eq_true ⟨w, by simp, rfl⟩
    · rw [if_neg (by intro q; exact e (Sum.inl.inj q)), h.2 i]
      refine decide_eq_decide.mpr ⟨fun ⟨x, hx, q⟩ => ⟨x, List.mem_append_left _ hx, q⟩, fun ⟨x, hx, q⟩ => ?_⟩
      rcases List.mem_append.mp hx with hx | hx
      · exact ⟨x, hx, q⟩
      · rw [List.mem_singleton.mp hx] at q
        exact absurd q e
theorem wide_at {kvs : List (Key × V)} {wd : List Nat} (h : WideK kvs wd) (i : Int) (p : Nat) (e : i = (p : Int)) : (valV kvs (Sum.inl i)).isSome = decide (p ∈ wd) := by
  rw [h.2 i]
  refine decide_eq_decide.mpr ⟨fun ⟨x, hx, q⟩ => ?_, fun q => ⟨p, q, e⟩⟩
  have : x = p := by omega
  exact this ▸ hx
/-- widths that may be handed in -/
def WidthsOk (wd : List Nat) : Prop := (∀ w ∈ wd, 1 ≤ w) ∧ wd.Pairwise (· < ·)
theorem tupS {a b : Str} {la lb : List Nat} (ha : a = S la) (hb : b = S lb) : some (HO.tup [V.str a, V.str b]) = some (HO.tup [V.str (S la), V.str (S lb)]) := by rw [ha, hb]
theorem flat_places (r : List Nat) : (placesV r).all flatV = true := by
  rw [List.all_eq_true]
  intro x hx
  obtain ⟨p, _, rfl⟩ := List.mem_map.mp hx
  rfl
theorem inV_places (i : Int) (p : Nat) (e : i = (p : Int)) (r : List Nat) : inV (V.int i) (placesV r) = decide (p ∈ r) := by
  subst e
  induction r with
  | nil => rfl
  | cons q r ih =>
    have e1 : inV (V.int (p : Int)) (placesV (q :: r)) = (((q : Int) == (p : Int)) || inV (V.int (p : Int)) (placesV r)) := rfl
    rw [e1, ih]
    have e2 : ((q : Int) == (p : Int)) = decide (p = q) := by rw [Bool.eq_iff_iff]; simp; omega
    rw [e2]
    simp [List.mem_cons]
theorem inV_neg (i : Int) (h : ¬ 0 ≤ i) (r : List Nat) : inV (V.int i) (placesV r) = false := by
  induction r with
  | nil => rfl
  | cons q r ih =>
    have e1 : inV (V.int i) (placesV (q :: r)) = (((q : Int) == i) || inV (V.int i) (placesV r)) := rfl
    rw [e1, ih]
    have e2 : ((q : Int) == i) = false := by rw [Bool.eq_false_iff]; simp; omega
    rw [e2]
    rfl
theorem mem_letL {l js wd : List Nat} {p : Nat} : p ∈ letL l js wd ↔ (∃ c, l[p]? = some c ∧ c ∈ js) ∧ letB l.length wd p = true := by
  unfold letL
  rw [List.mem_filter]
  refine ⟨fun ⟨a, b⟩ => ⟨mem_openL a, b⟩, fun ⟨⟨c, hc, hm⟩, b⟩ => ⟨?_, b⟩⟩
  unfold openL
  rw [List.mem_filter, List.mem_range, hc]
  exact ⟨(List.getElem?_eq_some_iff.mp hc).1, by simp [hm]⟩
theorem letL_len (l js wd : List Nat) : (letL l js wd).length ≤ l.length := Nat.le_trans (List.length_filter_le _ _) (openL_len l js)
theorem letL_lt {l js wd : List Nat} {p : Nat} (h : p ∈ letL l js wd) : p < l.length := by
  obtain ⟨⟨c, hc, _⟩, _⟩ := mem_letL.mp h
  exact (List.getElem?_eq_some_iff.mp hc).1
/-- the law's test: an int that is among the let places -/
theorem law_place {l js wd : List Nat} (i : Int) : inV (V.int i) (placesV (letL l js wd)) = (match placeO l js (some i) with | some p => letB l.length wd p | none => false) := by
  by_cases h0 : 0 ≤ i
  · obtain ⟨p, rfl⟩ := Int.eq_ofNat_of_zero_le h0
    rw [inV_places _ p rfl]
    cases hp : placeO l js (some (p : Int)) with
    | none =>
      refine decide_eq_false fun hm => ?_
      obtain ⟨⟨c, hc, hj⟩, _⟩ := mem_letL.mp hm
      rw [placeO_yes hc hj] at hp
      cases hp
    | some q =>
      obtain ⟨c, e, hc, hj⟩ := placeO_lt hp
      have e2 : q = p := by have := Option.some.inj e; omega
      subst e2
      show decide (q ∈ letL l js wd) = letB l.length wd q
      rw [Bool.eq_iff_iff, decide_eq_true_iff, mem_letL]
      exact ⟨fun h => h.2, fun h => ⟨⟨c, hc, hj⟩, h⟩⟩
  · rw [inV_neg i h0, placeO_neg h0]
/-- a value that may be a road: what it reads as, and how long -/
def Odds (H : Hp) (v : V) : Prop := ∃ o, Val H v o ∧ ∀ os, o = some os → os.length ≤ 2000
theorem Odds.same {H H' : Hp} {v : V} (s : Same H H') (h : Odds H v) : Odds H' v := by
  obtain ⟨o, a, b⟩ := h
  exact ⟨o, a.same s, b⟩
theorem Odds.lst {H : Hp} {a : Addr} {xs : List V} {os : List (Option Int)} (e : H a = some (.lst xs)) (i : Items H xs os) (n : xs.length ≤ 2000) : Odds H (.ref a) :=
  ⟨some os, .lst e i, fun os' q => by cases q; have := i.1; omega⟩
/-- such a value, also when the draws go on -/
def Far (g : Addr) (H : Hp) (v : V) : Prop := ∀ H', But g H H' → Odds H' v
theorem Far.but {g : Addr} {H H' : Hp} {v : V} (b : But g H H') (h : Far g H v) : Far g H' v := fun H2 b2 => h H2 (b.trans b2)
theorem Far.odds {g : Addr} {H : Hp} {v : V} (h : Far g H v) : Odds H v := h H (But.refl g H)
theorem Far.lst {g a : Addr} {H : Hp} {xs : List V} (e : H a = some (.lst xs)) (ne : a ≠ g) (i : ∀ H', But g H H' → ∃ os, Items H' xs os) (n : xs.length ≤ 2000) : Far g H (.ref a) := fun H' b => by
  obtain ⟨os, h⟩ := i H' b
  exact Odds.lst (b _ _ ne e) h n
theorem Far.tup {g a : Addr} {H : Hp} {xs : List V} (e : H a = some (.tup xs)) (ne : a ≠ g) : Far g H (.ref a) := fun H' b => ⟨none, .tup (b _ _ ne e), fun _ q => by cases q⟩
theorem Far.dic {g a : Addr} {H : Hp} {kvs : List (Key × V)} (e : H a = some (.dK kvs)) (ne : a ≠ g) : Far g H (.ref a) := fun H' b => ⟨none, .dic (b _ _ ne e), fun _ q => by cases q⟩
theorem Far.non {g : Addr} {H : Hp} : Far g H .non := fun _ _ => ⟨none, .non, fun _ q => by cases q⟩
theorem Far.int {g : Addr} {H : Hp} (i : Int) : Far g H (.int i) := fun _ _ => ⟨none, .int i, fun _ q => by cases q⟩
theorem Far.str {g : Addr} {H : Hp} (s : Str) : Far g H (.str s) := fun _ _ => ⟨none, .str s, fun _ q => by cases q⟩
theorem Items.places {H : Hp} (ns : List Nat) : Items H (placesV ns) (ns.map fun p : Nat => some (p : Int)) := by
  have h := Items.ints (H := H) (ns.map fun p : Nat => (p : Int))
  rw [List.map_map, List.map_map] at h
  exact h
/-- walking a road all of whose deeds are let -/
theorem walkW_road {js wd : List Nat} {l r : List Nat} (h : IsRoad js l r) (hb : ∀ p ∈ r, letB l.length wd p = true) : walkW js wd l (r.map fun p : Nat => some (p : Int)) = true := by
  rw [walkW_eq, walk_road h, Bool.true_and, List.all_eq_true]
  intro x hx
  obtain ⟨p, hp, rfl⟩ := List.mem_map.mp hx
  show letB l.length wd (p : Int).toNat = true
  rw [Int.toNat_natCast]
  exact hb p hp
theorem letB_back {n p : Nat} (wd : List Nat) (h : p < n) : letB n wd (n - 1 - p) = letB n wd p := by
  unfold letB
  rw [show n - 1 - p + 1 = n - p by omega, show n - (n - 1 - p) = p + 1 by omega, Bool.or_comm]
theorem letB_all {n p : Nat} (h : p < n) : letB n ((List.range (n / 2 + 1)).map (· + 1)) p = true := by
  unfold letB
  rw [Bool.or_eq_true, decide_eq_true_iff, decide_eq_true_iff]
  by_cases c : p ≤ n / 2
  · exact .inl (List.mem_map.mpr ⟨p, List.mem_range.mpr (by omega), rfl⟩)
  · exact .inr (List.mem_map.mpr ⟨n - p - 1, List.mem_range.mpr (by omega), by omega⟩)
theorem letL_all (l js : List Nat) : letL l js ((List.range (l.length / 2 + 1)).map (· + 1)) = openL l js := by
  unfold letL
  rw [List.filter_eq_self]
  intro p hp
  obtain ⟨c, hc, _⟩ := mem_openL hp
  exact letB_all (List.getElem?_eq_some_iff.mp hc).1
theorem letL_snoc {l : List Nat} (js wd : List Nat) {i c : Nat} (h : l[i]? = some c) : (openL (l.take (i + 1)) js).filter (letB l.length wd) = (openL (l.take i) js).filter (letB l.length wd) ++ (if (decide (c ∈ js) && letB l.length wd i) = true then [i] else []) := by
  rw [openL_snoc js h, List.filter_append]
  by_cases hm : c ∈ js
  · rw [if_pos hm, decide_eq_true hm, Bool.true_and]
    by_cases hb : letB l.length wd i = true
    · rw [if_pos hb]; simp [hb]
    · rw [if_neg hb]; simp [hb]
  · rw [if_neg hm, decide_eq_false hm]; rfl
theorem cutV_first {xs : List V} {j : Nat} : cutV xs none (some (j : Int)) = xs.take j := by
  unfold cutV
  rw [HT.sIx_none, HT.sIx_nat, List.drop_zero, Nat.sub_zero]
  rcases Nat.lt_or_ge xs.length j with h | h
  · rw [Nat.min_eq_right (by omega), List.take_length, List.take_of_length_le (by omega)]
  · rw [Nat.min_eq_left h]
/-- the numbers from 1 on -/
theorem rg_ones (n : Nat) : rgV 1 ((n : Int) / 2 + 2) = placesV ((List.range (n / 2 + 1)).map (· + 1)) := by
  unfold rgV
  rw [show ((n : Int) / 2 + 2 - 1).toNat = n / 2 + 1 by omega]
  show _ = List.map _ (List.map _ _)
  rw [List.map_map]
  refine List.map_congr_left fun i _ => ?_
  show V.int (1 + (i : Int)) = V.int ((i + 1 : Nat) : Int)
  rw [show (1 : Int) + (i : Int) = ((i + 1 : Nat) : Int) by omega]
theorem ones_ok (k : Nat) : WidthsOk ((List.range k).map (· + 1)) := by
  refine ⟨fun w hw => ?_, ?_⟩
  · obtain ⟨i, _, rfl⟩ := List.mem_map.mp hw
    omega
  · refine List.pairwise_map.mpr ?_
    exact List.pairwise_lt_range.imp fun h => by omega
/-- lists of places that stay, the draws, and what was there before -/
structure KeptL (H0 : Hp) (g : Addr) (b : Nat) (ls : List (Addr × List Nat)) (H : Hp) : Prop where
  all : ∀ q ∈ ls, q.1 ≠ g ∧ H q.1 = some (.lst (placesV q.2))
  G : GenAt H g b
  B : But g H0 H
theorem KeptL.same {H0 H H' : Hp} {g : Addr} {b : Nat} {ls : List (Addr × List Nat)} (h : KeptL H0 g b ls H) (s : Same H H') : KeptL H0 g b ls H' := ⟨fun q hq => ⟨(h.all q hq).1, s _ _ (h.all q hq).2⟩, h.G.same s, h.B.trans (But.same s)⟩
theorem KeptL.but {H0 H H' : Hp} {g : Addr} {b c : Nat} {ls : List (Addr × List Nat)} (h : KeptL H0 g b ls H) (s : But g H H') (G : GenAt H' g c) : KeptL H0 g c ls H' := ⟨fun q hq => ⟨(h.all q hq).1, s _ _ (h.all q hq).1 (h.all q hq).2⟩, G, h.B.trans s⟩
theorem KeptL.add {H0 H : Hp} {g a : Addr} {b : Nat} {r : List Nat} {ls : List (Addr × List Nat)} (h : KeptL H0 g b ls H) (n : a ≠ g) (d : H a = some (.lst (placesV r))) : KeptL H0 g b ((a, r) :: ls) H := ⟨fun q hq => by
  rcases List.mem_cons.mp hq with rfl | hq
  · exact ⟨n, d⟩
  · exact h.all q hq, h.G, h.B⟩
theorem KeptL.get {H0 H : Hp} {g a : Addr} {b : Nat} {r : List Nat} {ls : List (Addr × List Nat)} (h : KeptL H0 g b ls H) (m : (a, r) ∈ ls) : H a = some (.lst (placesV r)) := (h.all _ m).2
end Sw
/-! Numbers of words by their classes; first words that part two books. -/
namespace Sw
open PySem PySem.Spec PyProof.Rows L2
section
variable {X : Cx}
/-- d.setdefault(k, x), k a tuple of ints and texts -/
def rSetdT : V → List V → Hp → VK → Prop := fun x xs H Q => ∃ (a : Addr) (kvs : List (List L2.Key × V)) (k : List L2.Key) (b : Addr) (d : V), x = .ref a ∧ xs = [.ref b, d] ∧ H a = some (.dT kvs) ∧ H b = some (.tup (k.map kV)) ∧ kvs.length < sizeLine ∧
  (∀ v, valV kvs k = some v → Q v H) ∧ (valV kvs k = none → Q d (upd H a (.dT (putK kvs k d))))
theorem mt_setdT (hu : X.A.units + 1 < cLine) : MtR X "dict.setdefault" rSetdT := by
  intro pins s σ H x xs v us Q I rx rxs h
  obtain ⟨a, kvs, k, b, d, rfl, rfl, ha, hb, hl, q1, q2⟩ := h
  cases rx
  obtain ⟨u1, u2, rfl, r1, r2⟩ := vals2 rxs
  cases r1
  obtain ⟨z, hd, xs', rel, dd⟩ := dt_of I.hok ha
  have hz : xs'.length ≤ sizeLine := by rw [← Paired.length rel]; exact z
  refine call_setdefault_heap (hsz := hz) (knd := tupleKind (mixKind X.prog X.w)) (k := k) (tupleKind_room_in1 hu) (key_of I.hok hb) hd dd (fun p hp => ?_) fun hn h' dd' hs => ?_
  · have r := rel.val k
    rw [hp] at r
    cases ev : valV kvs k with
    | none => rw [ev] at r; exact (show False from r).elim
    | some v0 => rw [ev] at r; exact ⟨v0, H, I.tok _, r, q1 v0 ev⟩
  · have r := rel.val k
    rw [hn] at r
    cases ev : valV kvs k with
    | some v0 => rw [ev] at r; exact (show False from r).elim
    | none =>
      have hl2 : (putK kvs k d).length ≤ sizeLine := by have := length_putK kvs k d; omega
      refine ⟨d, upd H a (.dT (putK kvs k d)), ?_, r2, q2 ev⟩
      obtain ⟨q, es, ep, hq, h2, h3, h4, _, h5⟩ := dd'
      refine d_write (t' := _) I (by rw [ha]; exact True.intro) hs ⟨q, hq⟩ ⟨hl2, hd, _, (rel.put k hb r2).keeps fun c ys ec => ?_, q, es, ep, hq, h2, h3, h4, h5⟩
      rw [upd_ne (ne_of ec ha (fun z => nomatch z))]
      exact ec
/-- the view d.values() at p -/
def valuesO (p d : Addr) : HO := .ext fun h => h.IsValuesView p d
theorem valuesO_ok {P : Program} {w : World} {H : Hp} {h : Heap} {p d : Addr} (e : h.get? p = some { cls := .type "dict_values", data := .fields #[.ref d] }) : ObjOk P w H h p (valuesO p d) :=
  ⟨⟨_, e, rfl, rfl⟩, ⟨_, e⟩, fun h1 h2 x k => let ⟨o, ho, r⟩ := x; ⟨o, k o ho, r⟩⟩
def rValuesT : V → List V → Hp → VK → Prop := fun x xs H Q => ∃ (a : Addr) (kvs : List (List L2.Key × V)), x = .ref a ∧ xs = [] ∧ H a = some (.dT kvs) ∧ ∀ p, H p = none → Q (.ref p) (upd H p (valuesO p a))
theorem mt_valuesT : MtR X "dict.values" rValuesT := by
  intro pins s σ H x xs v us Q I rx rxs h
  obtain ⟨a, kvs, rfl, rfl, ha, q⟩ := h
  cases rx
  cases rxs
  obtain ⟨z, hd, xs', rel, o, es, ep, ho, hx, hdat, _⟩ := dt_of I.hok ha
  have hf : H s.heap.objs.size = none := I.hok.fresh (Nat.le_refl _)
  refine call_meetsIn PySem.F.slot_dict_values (⟨o, ho, hx.1⟩ : s.TypeIs (.ref a) "dict") PySem.F.entry_dict_values (PySem.F.args_dict_values_1 _) (meets_dict_values_raw a hd) ⟨⟨es, ep, o, ho, hx, hdat⟩, ?_⟩
  exact ⟨.ref s.heap.objs.size, upd H s.heap.objs.size (valuesO s.heap.objs.size a), I.laid (t' := s.toks) (fun b u e => Heap.get?_push_of_some _ e) (Nat.le_refl _) (valuesO_ok (Heap.get?_push_size _ rfl)), rfl, q _ hf⟩
theorem vals_of_rel {H : Hp} {kvs : List (List Key × V)} {xs : List (List Key × Addr × Value)} (r : KT H kvs xs) : Vals (kvs.map (·.2)) (xs.map fun x => x.2.2) := by
  induction r with
  | nil => exact .nil
  | cons h t ih => exact .cons h.2.2 ih
/-- list(d.values()) -/
theorem call_list_valsT (hc : X.calm = true) : CallR X (.type "list") (fun xs H Q => ∃ p d kvs, xs = [V.ref p] ∧ H p = some (valuesO p d) ∧ H d = some (.dT kvs) ∧ ∀ q, H q = none → Q (.ref q) (upd H q (.lst (kvs.map (·.2))))) := by
  intro pins s σ H xs us Q I r h
  obtain ⟨pv, d, kvs, rfl, hp, hd, q⟩ := h
  obtain ⟨u, rfl, rx⟩ := r.one
  cases rx
  have view : s.heap.IsValuesView pv d := (show ObjOk X.prog X.w H s.heap pv (valuesO pv d) from I.hok pv _ hp).1
  obtain ⟨z, hs, ks, pr, o, es, ep, ho, hx, hdt, he, hn⟩ := (show ObjOk X.prog X.w H s.heap d (.dT kvs) from I.hok d _ hd)
  have l1 : es.size = ks.length := size_of_entries he
  have l2 : kvs.length = ks.length := Paired.length pr
  refine PySem.W.kdl_call (KdlSrc.rawValues (es := es) (ep := ep)) (I.ok.hd hc) ⟨view, o, ho, hx, hdt⟩ (by omega) fun h' tk acc' c' kp e it => ?_
  have ea : acc'.toList = ks.map fun x => x.2.2 := by
    have hl : acc'.toList.length = ks.length := by rw [Array.length_toList, it.1]; exact l1
    apply List.ext_getElem?
    intro j
    rw [List.getElem?_map]
    cases hj : acc'.toList[j]? with
    | none =>
      have h1 := List.getElem?_eq_none_iff.mp hj
      rw [List.getElem?_eq_none (by omega)]
      all_goals rfl
    | some v =>
      obtain ⟨hi, hv⟩ := it.2 j v (by rw [← Array.getElem?_toList]; exact hj)
      have qe := entry_at he j
      rw [Array.getElem?_eq_getElem hi] at qe
      cases hb : ks[j]? with
      | none =>
        rw [hb] at qe
        exact nomatch (show some es[j] = none from qe)
      | some b =>
        rw [hb] at qe
        have e2 : es[j] = entryOfKey (tupleKind (mixKind X.prog X.w)) b := Option.some.inj qe
        rw [hv, e2]
        all_goals rfl
  have rv : Vals (kvs.map (·.2)) acc'.toList := by rw [ea]; exact vals_of_rel pr
  refine ⟨.ref s.heap.objs.size, _, I.laid (t' := tk) (o := .lst (kvs.map (·.2))) kp (Nat.le_refl _) ?_, rfl, q _ (I.hok.fresh (Nat.le_refl _))⟩
  exact ⟨by rw [List.length_map]; omega, acc'.toList, c', rv, by rw [Array.toArray_toList]; exact e⟩
end
/-! ### keys of words -/
def srtN (l : List Nat) : List Nat := l.mergeSort fun a b => decide (a ≤ b)
theorem srt_pw (l : List Nat) : (srtN l).Pairwise (· ≤ ·) := (List.pairwise_mergeSort (le := fun a b => decide (a ≤ b)) (fun a b c h g => by simp at *; omega) (fun a b => by simp; omega) l).imp fun h => by simpa using h
theorem srt_perm (l : List Nat) : (srtN l).Perm l := List.mergeSort_perm _ _
theorem srt_eq {A l : List Nat} (h : A.Perm l) (hs : A.Pairwise (· ≤ ·)) : A = srtN l :=
  List.Perm.eq_of_pairwise (fun a b _ _ h g => Nat.le_antisymm h g) hs (srt_pw l) (h.trans (srt_perm l).symm)
/-- what a class is known by -/
def keyO (B w : List Nat) : List Key := [Sum.inr (S (minW (turnsL (ringL w B)))), Sum.inr (S (srtN (heldL w B)))]
theorem key_iff {B u v : List Nat} : keyO B u = keyO B v ↔ comesB u v B = true := by
  unfold keyO comesB
  rw [Bool.and_eq_true, decide_eq_true_iff]
  constructor
  · intro h
    injection h with h1 h2
    injection h2 with h2 _
    refine ⟨SX.S_inj (Sum.inr.inj h1), ?_⟩
    have e := SX.S_inj (Sum.inr.inj h2)
    have p : (heldL u B).Perm (heldL v B) := (srt_perm _).symm.trans (e ▸ srt_perm _)
    unfold evenB
    refine List.all_eq_true.mpr fun c hc => decide_eq_true ?_
    have q := p.count_eq c
    unfold heldL at q
    rw [List.count_filter (by simpa using hc), List.count_filter (by simpa using hc)] at q
    exact q
  · rintro ⟨h1, h2⟩
    have p : (heldL u B).Perm (heldL v B) := held_perm h2
    rw [h1, srt_eq ((srt_perm (heldL u B)).trans p) (srt_pw _)]
/-- the word of a number -/
def wat (ws : List (List Nat)) (i : Nat) : List Nat := ws[i]?.getD []
theorem wat_of {ws : List (List Nat)} {i : Nat} {w : List Nat} (h : ws[i]? = some w) : wat ws i = w := by unfold wat; rw [h]; rfl
def upTo (ws : List (List Nat)) (B : List Nat) (k : List Key) (i : Nat) : List Nat := (List.range i).filter fun j => decide (keyO B (wat ws j) = k)
def matesL (ws : List (List Nat)) (B : List Nat) (i : Nat) : List Nat := upTo ws B (keyO B (wat ws i)) ws.length
theorem up_succ {ws : List (List Nat)} {B : List Nat} {k : List Key} {i : Nat} : upTo ws B k (i + 1) = upTo ws B k i ++ (if keyO B (wat ws i) = k then [i] else []) := by
  unfold upTo
  rw [List.range_succ, List.filter_append]
  by_cases z : keyO B (wat ws i) = k <;> simp [z]
theorem up_len (ws : List (List Nat)) (B : List Nat) (k : List Key) (i : Nat) : (upTo ws B k i).length ≤ i := by
  have := List.length_filter_le (fun j => decide (keyO B (wat ws j) = k)) (List.range i)
  rw [List.length_range] at this
  exact this
theorem mem_up {ws : List (List Nat)} {B : List Nat} {k : List Key} {i j : Nat} : j ∈ upTo ws B k i ↔ j < i ∧ keyO B (wat ws j) = k := by
  unfold upTo
  rw [List.mem_filter, List.mem_range, decide_eq_true_iff]
theorem mem_mates {ws : List (List Nat)} {B : List Nat} {i j : Nat} : j ∈ matesL ws B i ↔ j < ws.length ∧ comesB (wat ws j) (wat ws i) B = true := by
  unfold matesL
  rw [mem_up, key_iff]
theorem mates_eq {ws : List (List Nat)} {B : List Nat} {i j : Nat} (h : j ∈ matesL ws B i) : matesL ws B j = matesL ws B i := by
  have e : keyO B (wat ws j) = keyO B (wat ws i) := (mem_up.mp h).2
  unfold matesL
  rw [e]
theorem mates_iff {ws : List (List Nat)} {B : List Nat} {i j : Nat} (hj : j < ws.length) : matesL ws B j = matesL ws B i ↔ comesB (wat ws i) (wat ws j) B = true := by
  constructor
  · intro h
    have m : j ∈ matesL ws B j := mem_mates.mpr ⟨hj, comes_refl _ _⟩
    rw [h] at m
    rw [comes_symm]
    exact (mem_mates.mp m).2
  · intro h
    rw [comes_symm] at h
    exact mates_eq (mem_mates.mpr ⟨hj, h⟩)
/-! ### the numbers of the words by their classes, in the heap -/
structure Grp (ws : List (List Nat)) (B : List Nat) (H0 H : Hp) (F : Addr) (ks : List (List Key × Addr)) (i : Nat) : Prop where
  d : H F = some (.dT (ks.map fun e => (e.1, V.ref e.2)))
  each : ∀ e ∈ ks, H0 e.2 = none ∧ e.2 ≠ F ∧ H e.2 = some (.lst (placesV (upTo ws B e.1 i)))
  key : ∀ e ∈ ks, ∃ j, j < i ∧ keyO B (wat ws j) = e.1
  nda : (ks.map (·.2)).Nodup
  ndk : (ks.map (·.1)).Nodup
  all : ∀ j, j < i → ∃ e ∈ ks, e.1 = keyO B (wat ws j)
  len : ks.length ≤ i
  keep : Same H0 H
  f0 : H0 F = none
theorem Grp.start {ws : List (List Nat)} {B : List Nat} {H0 H : Hp} {F : Addr} (s : Same H0 H) (h : H F = some (.dT [])) (f0 : H0 F = none) : Grp ws B H0 H F [] 0 where
  d := h
  each := fun e he => nomatch he
  key := fun e he => nomatch he
  nda := List.nodup_nil
  ndk := List.nodup_nil
  all := fun j hj => absurd hj (by omega)
  len := Nat.le_refl _
  keep := s
  f0 := f0
theorem Grp.same {ws : List (List Nat)} {B : List Nat} {H0 H H' : Hp} {F : Addr} {ks : List (List Key × Addr)} {i : Nat} (G : Grp ws B H0 H F ks i) (s : Same H H') : Grp ws B H0 H' F ks i where
  d := s _ _ G.d
  each := fun e he => ⟨(G.each e he).1, (G.each e he).2.1, s _ _ (G.each e he).2.2⟩
  key := G.key
  nda := G.nda
  ndk := G.ndk
  all := G.all
  len := G.len
  keep := G.keep.trans s
  f0 := G.f0
theorem val_mem {k : List Key} {v : V} : ∀ {ks : List (List Key × Addr)}, valV (ks.map fun e => (e.1, V.ref e.2)) k = some v → ∃ e ∈ ks, e.1 = k ∧ v = V.ref e.2
  | [], h => by cases h
  | e :: r, h => by
    by_cases z : e.1 = k
    · rw [List.map_cons, valV_pos z] at h
      cases h
      exact ⟨e, List.mem_cons_self, z, rfl⟩
    · rw [List.map_cons, valV_neg z] at h
      obtain ⟨e', h1, h2⟩ := val_mem h
      exact ⟨e', List.mem_cons_of_mem _ h1, h2⟩
theorem val_not {k : List Key} : ∀ {ks : List (List Key × Addr)}, valV (ks.map fun e => (e.1, V.ref e.2)) k = none → ∀ e ∈ ks, e.1 ≠ k
  | [], _, e, he => nomatch he
  | e0 :: r, h, e, he => by
    by_cases z : e0.1 = k
    · rw [List.map_cons, valV_pos z] at h
      cases h
    · rw [List.map_cons, valV_neg z] at h
      rcases List.mem_cons.mp he with rfl | he
      · exact z
      · exact val_not h e he
theorem uniq_by {α β : Type} (f : α → β) {a b : α} : ∀ {l : List α}, (l.map f).Nodup → a ∈ l → b ∈ l → f a = f b → a = b
  | [], _, h, _, _ => nomatch h
  | x :: r, nd, h1, h2, e => by
    obtain ⟨n1, n2⟩ := List.nodup_cons.mp nd
    rcases List.mem_cons.mp h1 with g1 | g1
    · rcases List.mem_cons.mp h2 with g2 | g2
      · rw [g1, g2]
      · exact absurd (List.mem_map.mpr ⟨b, g2, by rw [← e, g1]⟩) n1
    · rcases List.mem_cons.mp h2 with g2 | g2
      · exact absurd (List.mem_map.mpr ⟨a, g1, by rw [e, g2]⟩) n1
      · exact uniq_by f n2 g1 g2 e
/-- a further number of a class that is there -/
theorem Grp.old {ws : List (List Nat)} {B : List Nat} {H0 H : Hp} {F : Addr} {ks : List (List Key × Addr)} {i : Nat} {e : List Key × Addr} (G : Grp ws B H0 H F ks i) (he : e ∈ ks) (hk : e.1 = keyO B (wat ws i)) :
    Grp ws B H0 (upd H e.2 (.lst (placesV (upTo ws B e.1 i) ++ [V.int (i : Nat)]))) F ks (i + 1) where
  d := by rw [upd_ne (G.each e he).2.1.symm]; exact G.d
  each := fun f hf => ⟨(G.each f hf).1, (G.each f hf).2.1, by
    rw [up_succ]
    by_cases z : f.2 = e.2
    · have ef : f = e := by
        exact uniq_by (·.2) G.nda hf he z
      subst ef
      rw [upd_same, if_pos hk.symm]
      simp [placesV]
    · rw [upd_ne z]
      have : ¬ keyO B (wat ws i) = f.1 := fun q => z (by
        rw [uniq_by (·.1) G.ndk hf he (q.symm.trans hk.symm)])
      rw [if_neg this, List.append_nil]
      exact (G.each f hf).2.2⟩
  key := fun f hf => let ⟨j, hj, h⟩ := G.key f hf; ⟨j, by omega, h⟩
  nda := G.nda
  ndk := G.ndk
  all := fun j hj => by
    by_cases z : j = i
    · subst z; exact ⟨e, he, hk⟩
    · exact G.all j (by omega)
  len := by have := G.len; omega
  keep := Same.own G.keep (G.each e he).1
  f0 := G.f0
/-- a class that is new -/
theorem Grp.new {ws : List (List Nat)} {B : List Nat} {H0 H : Hp} {F E : Addr} {ks : List (List Key × Addr)} {i : Nat} (G : Grp ws B H0 H F ks i) (hn : ∀ e ∈ ks, e.1 ≠ keyO B (wat ws i)) (h0 : H0 E = none) (hF : E ≠ F) (hE : ∀ e ∈ ks, e.2 ≠ E) :
    Grp ws B H0 (upd (upd H F (.dT ((ks ++ [(keyO B (wat ws i), E)]).map fun e => (e.1, V.ref e.2)))) E (.lst ([] ++ [V.int (i : Nat)]))) F (ks ++ [(keyO B (wat ws i), E)]) (i + 1) where
  d := by rw [upd_ne hF.symm, upd_same]
  each := fun f hf => by
    rcases List.mem_append.mp hf with hf | hf
    · obtain ⟨a1, a2, a3⟩ := G.each f hf
      refine ⟨a1, a2, ?_⟩
      rw [upd_ne (hE f hf), upd_ne a2, a3, up_succ, if_neg (fun q => hn f hf q.symm), List.append_nil]
    · rw [List.mem_singleton.mp hf]
      refine ⟨h0, hF, ?_⟩
      rw [upd_same, up_succ, if_pos rfl]
      have e0 : upTo ws B (keyO B (wat ws i)) i = [] := List.eq_nil_iff_forall_not_mem.mpr fun j hj => by
        obtain ⟨h1, h2⟩ := mem_up.mp hj
        obtain ⟨e, he, h3⟩ := G.all j h1
        exact hn e he (h3.trans h2)
      rw [e0]
      rfl
  key := fun f hf => by
    rcases List.mem_append.mp hf with hf | hf
    · obtain ⟨j, hj, h⟩ := G.key f hf
      exact ⟨j, by omega, h⟩
    · rw [List.mem_singleton.mp hf]; exact ⟨i, by omega, rfl⟩
  nda := by
    rw [List.map_append]
    refine List.nodup_append.mpr ⟨G.nda, by simp, fun a ha b hb => ?_⟩
    obtain ⟨e, he, rfl⟩ := List.mem_map.mp ha
    rw [List.map_singleton, List.mem_singleton] at hb
    rw [hb]
    exact hE e he
  ndk := by
    rw [List.map_append]
    refine List.nodup_append.mpr ⟨G.ndk, by simp, fun a ha b hb => ?_⟩
    obtain ⟨e, he, rfl⟩ := List.mem_map.mp ha
    rw [List.map_singleton, List.mem_singleton] at hb
    rw [hb]
    exact hn e he
  all := fun j hj => by
    by_cases z : j = i
    · subst z; exact ⟨(keyO B (wat ws j), E), List.mem_append.mpr (.inr (by simp)), rfl⟩
    · obtain ⟨e, he, h⟩ := G.all j (by omega)
      exact ⟨e, List.mem_append.mpr (.inl he), h⟩
  len := by have := G.len; simp; omega
  keep := Same.own (Same.own G.keep G.f0) h0
  f0 := G.f0
/-- a dict of numbers: the members of each number's class -/
def ClsAt (H : Hp) (ws : List (List Nat)) (B : List Nat) (C : Addr) : Prop := ∃ kvs : List (Key × V), H C = some (.dK kvs) ∧ ∀ i, i < ws.length → ∃ b, valV kvs (Sum.inl (i : Int)) = some (.ref b) ∧ H b = some (.lst (placesV (matesL ws B i)))
theorem ClsAt.same {H H' : Hp} {ws : List (List Nat)} {B : List Nat} {C : Addr} (h : ClsAt H ws B C) (s : Same H H') : ClsAt H' ws B C := by
  obtain ⟨kvs, h1, h2⟩ := h
  refine ⟨kvs, s _ _ h1, fun i hi => ?_⟩
  obtain ⟨b, h3, h4⟩ := h2 i hi
  exact ⟨b, h3, s _ _ h4⟩
/-! ### the first word that is parted -/
def oddB (ps : List (List Nat × List Nat)) (w v : List Nat) : Bool := ps.any fun p => comesB w v p.1 && !comesB w v p.2
def partP (ps : List (List Nat × List Nat)) (ws us : List (List Nat)) : Option (List Nat × List Nat) := us.findSome? fun w => (ws.find? (oddB ps w)).map fun v => (w, v)
def offL (ws : List (List Nat)) (p : List Nat × List Nat) (i : Nat) : List Nat := (matesL ws p.1 i).filter fun j => !decide (matesL ws p.2 j = matesL ws p.2 i)
def offsL (ws : List (List Nat)) (ps : List (List Nat × List Nat)) (i : Nat) : List Nat := (ps.map fun p => offL ws p i).flatten
theorem mem_offs {ws : List (List Nat)} {ps : List (List Nat × List Nat)} {i j : Nat} : j ∈ offsL ws ps i ↔ j < ws.length ∧ oddB ps (wat ws i) (wat ws j) = true := by
  unfold offsL oddB offL
  rw [List.mem_flatten]
  constructor
  · rintro ⟨l, hl, hj⟩
    obtain ⟨p, hp, rfl⟩ := List.mem_map.mp hl
    obtain ⟨h1, h2⟩ := List.mem_filter.mp hj
    obtain ⟨h3, h4⟩ := mem_mates.mp h1
    refine ⟨h3, List.any_eq_true.mpr ⟨p, hp, ?_⟩⟩
    rw [comes_symm, h4, Bool.true_and]
    simp only [Bool.not_eq_true', decide_eq_false_iff_not, mates_iff h3] at h2
    simpa using h2
  · rintro ⟨h3, h⟩
    obtain ⟨p, hp, hq⟩ := List.any_eq_true.mp h
    rw [Bool.and_eq_true] at hq
    refine ⟨_, List.mem_map.mpr ⟨p, hp, rfl⟩, List.mem_filter.mpr ⟨mem_mates.mpr ⟨h3, by rw [comes_symm]; exact hq.1⟩, ?_⟩⟩
    simp only [Bool.not_eq_true', decide_eq_false_iff_not, mates_iff h3]
    simpa using hq.2
theorem off_len (ws : List (List Nat)) (p : List Nat × List Nat) (i : Nat) : (offL ws p i).length ≤ ws.length := Nat.le_trans (List.length_filter_le _ _) (up_len _ _ _ _)
theorem find_least {ws : List (List Nat)} {q : List Nat → Bool} {u : List Nat} (hs : ws.Pairwise (· < ·)) (hu : u ∈ ws) (hq : q u = true) (hm : ∀ v ∈ ws, q v = true → ¬ v < u) : ws.find? q = some u := by
  obtain ⟨as, bs, rfl⟩ := List.append_of_mem hu
  refine List.find?_eq_some_iff_append.mpr ⟨hq, as, bs, rfl, fun a ha => ?_⟩
  have h1 : a < u := (List.pairwise_append.mp hs).2.2 a ha u List.mem_cons_self
  cases z : q a with
  | false => rfl
  | true => exact absurd h1 (hm a (List.mem_append.mpr (.inl ha)) z)
theorem find_num {ws : List (List Nat)} {q : List Nat → Bool} {m : Nat} (hm : m < ws.length) (hq : q (wat ws m) = true) (h : ∀ j, j < ws.length → q (wat ws j) = true → m ≤ j) : ws.find? q = some (wat ws m) := by
  have e : wat ws m = ws[m] := wat_of (List.getElem?_eq_getElem hm)
  refine List.find?_eq_some_iff_append.mpr ⟨hq, ws.take m, ws.drop (m + 1), ?_, fun a ha => ?_⟩
  · rw [e, List.getElem_cons_drop, List.take_append_drop]
  · obtain ⟨j, hj, rfl⟩ := List.mem_iff_getElem.mp ha
    rw [List.length_take] at hj
    rw [List.getElem_take]
    cases z : q ws[j] with
    | false => rfl
    | true =>
      have := h j (by omega) (by rw [wat_of (List.getElem?_eq_getElem (by omega : j < ws.length))]; exact z)
      omega
theorem find_off {ws : List (List Nat)} {ps : List (List Nat × List Nat)} {i : Nat} (h : offsL ws ps i = []) : ws.find? (oddB ps (wat ws i)) = none := by
  refine List.find?_eq_none.mpr fun v hv z => ?_
  obtain ⟨j, hj, rfl⟩ := List.mem_iff_getElem.mp hv
  have : j ∈ offsL ws ps i := mem_offs.mpr ⟨hj, by rw [wat_of (List.getElem?_eq_getElem hj)]; exact z⟩
  rw [h] at this
  cases this
theorem find_on {ws : List (List Nat)} {ps : List (List Nat × List Nat)} {i m : Nat} (h : m ∈ offsL ws ps i) (hm : ∀ j ∈ offsL ws ps i, m ≤ j) : ws.find? (oddB ps (wat ws i)) = some (wat ws m) :=
  find_num (mem_offs.mp h).1 (mem_offs.mp h).2 fun j hj hq => hm j (mem_offs.mpr ⟨hj, hq⟩)
theorem part_none {ps : List (List Nat × List Nat)} {ws us : List (List Nat)} : partP ps ws us = none ↔ ∀ w ∈ us, ∀ v ∈ ws, oddB ps w v = false := by
  unfold partP
  rw [List.findSome?_eq_none_iff]
  constructor
  · intro h w hw v hv
    have := h w hw
    rw [Option.map_eq_none_iff, List.find?_eq_none] at this
    exact Bool.eq_false_iff.mpr (this v hv)
  · intro h w hw
    rw [Option.map_eq_none_iff, List.find?_eq_none]
    intro v hv
    rw [h w hw v hv]
    exact Bool.false_ne_true
theorem part_app {ps : List (List Nat × List Nat)} {ws us : List (List Nat)} {w : List Nat} (h : partP ps ws us = none) : partP ps ws (us ++ [w]) = (ws.find? (oddB ps w)).map fun v => (w, v) := by
  unfold partP at *
  rw [List.findSome?_append, h]
  simp
theorem part_stay {ps : List (List Nat × List Nat)} {ws us vs : List (List Nat)} {r : List Nat × List Nat} (h : partP ps ws us = some r) : partP ps ws (us ++ vs) = some r := by
  unfold partP at *
  rw [List.findSome?_append, h]
  rfl
theorem part_mem {ps : List (List Nat × List Nat)} {ws us : List (List Nat)} {r : List Nat × List Nat} (h : partP ps ws us = some r) : r.1 ∈ us ∧ r.2 ∈ ws ∧ oddB ps r.1 r.2 = true := by
  unfold partP at h
  obtain ⟨w, hw, h⟩ := List.exists_of_findSome?_eq_some h
  obtain ⟨v, hv, rfl⟩ := Option.map_eq_some_iff.mp h
  exact ⟨hw, List.mem_of_find?_eq_some hv, List.find?_some hv⟩
theorem odd_swap (a b : List Nat × List Nat) : oddB [a, b] = oddB [b, a] := by
  funext w v
  unfold oddB
  simp [Bool.or_comm]
/-- all words of a size, rising -/
theorem lt_app {a b : List Nat} (x y : List Nat) (hl : a.length = b.length) (h : a < b) : a ++ x < b ++ y := by
  induction a generalizing b with
  | nil =>
    cases b with
    | nil => exact absurd h (lt_irr _)
    | cons _ _ => cases hl
  | cons c r ih =>
    cases b with
    | nil => cases hl
    | cons d q =>
      rw [List.cons_append, List.cons_append, List.cons_lt_cons_iff]
      rcases List.cons_lt_cons_iff.mp h with g | ⟨rfl, g⟩
      · exact .inl g
      · exact .inr ⟨rfl, ih (Nat.succ.inj hl) g⟩
theorem lt_app_same (a : List Nat) {x y : List Nat} (h : x < y) : a ++ x < a ++ y := by
  induction a with
  | nil => exact h
  | cons c r ih => rw [List.cons_append, List.cons_append, List.cons_lt_cons_iff]; exact .inr ⟨rfl, ih⟩
theorem allW_pw {L : List Nat} (hL : L.Pairwise (· < ·)) : ∀ n, (allW L n).Pairwise (· < ·)
  | 0 => List.pairwise_singleton _ _
  | n + 1 => by
    show ((allW L n).flatMap _).Pairwise _
    refine List.pairwise_flatMap.mpr ⟨fun t _ => ?_, ?_⟩
    · refine List.pairwise_map.mpr (hL.imp fun h => lt_app_same t ?_)
      rw [List.cons_lt_cons_iff]
      exact .inl h
    · refine (List.Pairwise.imp_of_mem (fun {s t} hs ht h => ?_) (allW_pw hL n))
      intro a ha b hb
      obtain ⟨c, _, rfl⟩ := List.mem_map.mp ha
      obtain ⟨d, _, rfl⟩ := List.mem_map.mp hb
      exact lt_app _ _ ((mem_allW.mp hs).1.trans (mem_allW.mp ht).1.symm) h
/-- some numbers are told: to each the list of its class -/
structure ByNum (ws : List (List Nat)) (B : List Nat) (H0 H : Hp) (F : Addr) (kvs : List (Key × V)) (D : List Nat) (c : Nat) : Prop where
  d : H F = some (.dK kvs)
  keep : ∀ b, b ≠ F → ∀ o, H0 b = some o → H b = some o
  val : ∀ (i : Nat) v, valV kvs (Sum.inl (i : Int)) = some v → ∃ b, v = .ref b ∧ b ≠ F ∧ H0 b = some (.lst (placesV (matesL ws B i)))
  all : ∀ j ∈ D, (valV kvs (Sum.inl (j : Int))).isSome = true
  len : kvs.length ≤ c
theorem ByNum.start {ws : List (List Nat)} {B : List Nat} {H : Hp} {F : Addr} (h : H F = some (.dK [])) : ByNum ws B H H F [] [] 0 where
  d := h
  keep := fun _ _ _ h => h
  val := fun i v h => nomatch h
  all := fun b hb => nomatch hb
  len := Nat.zero_le _
theorem ByNum.put {ws : List (List Nat)} {B : List Nat} {H0 H : Hp} {F b : Addr} {kvs : List (Key × V)} {D : List Nat} {c i j : Nat} (G : ByNum ws B H0 H F kvs D c) (hb : b ≠ F) (h : H0 b = some (.lst (placesV (matesL ws B i)))) (hj : j ∈ matesL ws B i) :
    ByNum ws B H0 (upd H F (.dK (putK kvs (Sum.inl (j : Int)) (V.ref b)))) F (putK kvs (Sum.inl (j : Int)) (V.ref b)) (D ++ [j]) (c + 1) where
  d := upd_same
  keep := fun a ha o e => by rw [upd_ne ha]; exact G.keep a ha o e
  val := fun i' v hv => by
    by_cases z : i' = j
    · subst z
      rw [valV_put] at hv
      rw [if_pos rfl] at hv
      cases hv
      exact ⟨b, rfl, hb, by rw [mates_eq hj]; exact h⟩
    · rw [valV_put, if_neg (fun e => z (by have := Sum.inl.inj e; omega))] at hv
      exact G.val i' v hv
  all := fun j' hj' => by
    rw [valV_put]
    by_cases z : j' = j
    · subst z; simp
    · rcases List.mem_append.mp hj' with hj' | hj'
      · rw [if_neg (fun e => z (by have := Sum.inl.inj e; omega))]
        exact G.all j' hj'
      · exact absurd (List.mem_singleton.mp hj') z
  len := by have := length_putK kvs (Sum.inl (j : Int)) (V.ref b); have := G.len; omega
theorem places_inj : ∀ {l m : List Nat}, placesV l = placesV m → l = m
  | [], [], _ => rfl
  | [], _ :: _, h => nomatch h
  | _ :: _, [], h => nomatch h
  | x :: r, y :: q, h => by
    have h' : V.int (x : Int) :: placesV r = V.int (y : Int) :: placesV q := h
    injection h' with h1 h2
    injection h1 with h1
    have e : x = y := by omega
    rw [e, places_inj (l := r) (m := q) h2]
/-- the tuples of the ways -/
def WaysAt (H : Hp) (ts : List Addr) (ps : List (List Nat × List Nat)) : Prop := ts.length = ps.length ∧ ∀ (i : Nat) t p, ts[i]? = some t → ps[i]? = some p → H t = some (.tup [V.str (S p.1), V.str (S p.2)])
theorem WaysAt.same {H H' : Hp} {ts : List Addr} {ps : List (List Nat × List Nat)} (h : WaysAt H ts ps) (s : Same H H') : WaysAt H' ts ps := ⟨h.1, fun i t p h1 h2 => s _ _ (h.2 i t p h1 h2)⟩
/-- None or a tuple of two words -/
def ResAt (H : Hp) (v : V) : Option (List Nat × List Nat) → Prop
  | none => v = .non
  | some r => ∃ t, v = .ref t ∧ H t = some (.tup [V.str (S r.1), V.str (S r.2)])
theorem ResAt.same {H H' : Hp} {v : V} {o : Option (List Nat × List Nat)} (h : ResAt H v o) (s : Same H H') : ResAt H' v o := by
  cases o with
  | none => exact h
  | some r => obtain ⟨t, e, h⟩ := h; exact ⟨t, e, s _ _ h⟩
theorem op_nePK {X : Cx} (K : PySem.W.Frag) (hu : X.A.units + 64 < cLine) (h : X.K = K := by rfl) : OpR X (compareOp .NotEq) (rNeP K) := h ▸ op_neP hu
theorem sw_trueD {kx vx : Expr} {gs : List Comprehension} {scope : Scope} {pos py : Pos} {y : Str} {l : Nat} {env : Env} (hk : env.scope.kind = .function) (hy : env.scope.names.lookup y = some .local) (hl : (py.line == pos.line) = true)
    (ha : (scope.names.any fun (n, k) => n == y && (k == .local || k == .cell)) = false) : swapsWith (.DictComp kx vx gs scope pos) (some (.Name y py)) l env = pure true := by
  have ky : env.kindOf y = some .local := hy
  have hb : env.blockKind = .function := by unfold Env.blockKind; rw [hk]; rfl
  unfold swapsWith
  simp only [hb, ky, ha, Expr.pos, hl]
  rfl
/-- y = {k: v for ..}, y a plain local name -/
theorem ps_setDc {X : Cx} {i : Nat} {y : Str} {py : Pos} {kx vx tg iter : Expr} {ifs : List Expr} {scope : Scope} {own : List (Str × Nat)} {pos spos : Pos} {wi : TI} {g : TG} {tt : TT} {tk tv : TE} (hc : X.calm = true) (hN : X.N.Nodup) (hy : X.N[i]? = some y) (hyl : X.env.scope.names.lookup y = some .local)
    (hsw : swapsWith (.DictComp kx vx [⟨tg, iter, ifs, 0⟩] scope pos) (some (.Name y py)) spos.line X.env = pure true) (hi : PI X tg iter wi) (ok : BlkOk X.N X.env.scope scope own)
    (hg : ∀ (s : Shared) (H : Hp) (C : Addr) (cl : List (Str × Addr)) (fp : List Addr), PG (X.blk s H scope (compEnvC scope cl C X.env) fp) tg g) (ht : ∀ (s : Shared) (H : Hp) (C : Addr) (cl : List (Str × Addr)) (fp : List Addr), PTs (X.blk s H scope (compEnvC scope cl C X.env) fp) ifs tt)
    (hk : ∀ (s : Shared) (H : Hp) (C : Addr) (cl : List (Str × Addr)) (fp : List Addr), PE (X.blk s H scope (compEnvC scope cl C X.env) fp) kx tk)
    (he : ∀ (s : Shared) (H : Hp) (C : Addr) (cl : List (Str × Addr)) (fp : List Addr), PE (X.blk s H scope (compEnvC scope cl C X.env) fp) vx tv) (hs : ∀ x, foldedSetIterable iter X.env x = pure x := by intro _; rfl) :
    PS X (.Assign [.Name y py] (.DictComp kx vx [⟨tg, iter, ifs, 0⟩] scope pos) spos) (tAsg (tDc wi g tt tk tv (own.map (·.2))) (gName i)) := by
  refine ⟨fun pins s σ H D I h => ?_⟩
  rw [exec_Assign_Name_used _ _ _ _ hsw]
  refine wpAny_bind (wpAny_standAt (wpAny_bind ?_))
  show wpAny _ X.A (do let _ ← comprehension (.DictComp kx vx [⟨tg, iter, ifs, 0⟩] scope pos) scope X.env (firstIterPos [⟨tg, iter, ifs, 0⟩] pos) newDict false (eval iter X.env) (some (assign (.Name y py) X.env))) _ _ s
  have h : tDc wi g tt tk tv (own.map (·.2)) σ H (fun x H1 => gName i x σ H1 D.nx) := h
  refine wpAny_bind (thn (dc_core (Qf := fun _ s' => SP X pins D .next s') hc hN I hi ok hg ht hk he hs h fun L C s' m H' I' q hn f => ?_) fun _ s' hq => wpAny_pure (wpAny_pure hq))
  show wpAny _ _ (assign (.Name y py) X.env (.ref L)) _ _ _
  refine wpAny_assign_Name (store_ok2 (v := V.ref L) I' hN hy (.inl hyl) rfl (fun s2 I2 ⟨a, sb, ha⟩ => ?_) (.inr hyl))
  obtain ⟨f0, f1, f2, f3, f4, f5⟩ := f
  have haC : C ≠ a := by
    rcases ha with z | z
    · rw [z]; exact f1
    · exact fun e => f4 y a z e.symm
  refine ⟨m, hn.sameBut sb haC, fun h3 sb3 => ?_⟩
  exact ⟨_, H', I2.turned (t' := s2.toks) (fun b o hb e => (sb3.2 b hb).trans e) f0 f1 f3 f4 f5, q⟩
theorem ClsAt.upd {H : Hp} {ws : List (List Nat)} {B : List Nat} {C D : Addr} {kv kv' : List (Key × V)} (h : ClsAt H ws B C) (hd : H D = some (.dK kv)) (hn : C ≠ D) : ClsAt (upd H D (.dK kv')) ws B C := by
  obtain ⟨kvs, h1, h2⟩ := h
  refine ⟨kvs, by rw [upd_ne hn]; exact h1, fun i hi => ?_⟩
  obtain ⟨b, h3, h4⟩ := h2 i hi
  exact ⟨b, h3, by rw [upd_ne (ne_of h4 hd (by simp))]; exact h4⟩
theorem places_eqvA : ∀ (a b : List Nat), PyData.eqvAll (placesD a) (placesD b) = decide (a = b)
  | [], [] => rfl
  | [], _ :: _ => rfl
  | _ :: _, [] => rfl
  | x :: a, y :: b => by
    show (PyData.eqv (.int (x : Int)) (.int (y : Int)) && PyData.eqvAll (placesD a) (placesD b)) = _
    rw [places_eqvA a b]
    have e : PyData.eqv (.int (x : Int)) (.int (y : Int)) = decide (x = y) := by
      show ((x : Int) == (y : Int)) = _
      by_cases z : x = y
      · subst z; simp
      · have : ¬ (x : Int) = (y : Int) := fun e => z (by omega)
        simp [z, this]
    rw [e]
    by_cases z : x = y <;> simp [z]
theorem places_eqv2 (a b : List Nat) : PyData.eqv (.list (placesD a)) (.list (placesD b)) = decide (a = b) := places_eqvA a b
theorem places_plainA : ∀ ns : List Nat, PyData.plainAll (placesD ns) = true
  | [] => rfl
  | n :: r => by
    show (PyData.plain (.int (n : Int)) && PyData.plainAll (placesD r)) = true
    rw [places_plainA r]; rfl
theorem places_plain (ns : List Nat) : (PyData.list (placesD ns)).plain = true := places_plainA ns
theorem places_depthL (ns : List Nat) : (PyData.list (placesD ns)).depth ≤ 64 := by
  show PyData.depthAll (placesD ns) + 1 ≤ 64
  rw [places_depth]; decide
/-- what parting_words, outside_words answer -/
def partsO (f1 f2 L : List Nat) (n : Nat) : Option (List Nat × List Nat) := if (withinB f1 f2 L n && withinB f2 f1 L n) = true then none else partP [(f1, f2), (f2, f1)] (allW L n) (allW L n)
def outO (f1 f2 L : List Nat) (n : Nat) : Option (List Nat × List Nat) := if withinB f1 f2 L n = true then none else partP [(f1, f2)] (allW L n) (allW L n)
/-! ### the law's own search -/
structure Fsts (H0 H2 H : Hp) (fo : Addr) (v0 v1 : V) (o0 o1 : Option (List Nat × List Nat)) : Prop where
  own : Same H0 H
  keep : ∀ b, b ≠ fo → ∀ o, H2 b = some o → H b = some o
  d : H fo = some (.lst [v0, v1])
  f0 : H0 fo = none
  r0 : ResAt H v0 o0
  r1 : ResAt H v1 o1
theorem Fsts.start {H0 H2 : Hp} {fo : Addr} {o0 o1 : Option (List Nat × List Nat)} (s : Same H0 H2) (d : H2 fo = some (.lst [V.non, V.non])) (f : H0 fo = none) (h0 : o0 = none) (h1 : o1 = none) : Fsts H0 H2 H2 fo .non .non o0 o1 := by
  subst h0 h1
  exact ⟨s, fun _ _ _ h => h, d, f, rfl, rfl⟩
theorem Fsts.same {H0 H2 H H' : Hp} {fo : Addr} {v0 v1 : V} {o0 o1 : Option (List Nat × List Nat)} (F : Fsts H0 H2 H fo v0 v1 o0 o1) (s : Same H H') : Fsts H0 H2 H' fo v0 v1 o0 o1 :=
  ⟨F.own.trans s, fun b hb o h => s _ _ (F.keep b hb o h), s _ _ F.d, F.f0, F.r0.same s, F.r1.same s⟩
theorem ResAt.upd {H : Hp} {v : V} {fo : Addr} {xs ys : List V} {o : Option (List Nat × List Nat)} (h : ResAt H v o) (d : H fo = some (.lst xs)) : ResAt (upd H fo (.lst ys)) v o := by
  cases o with
  | none => exact h
  | some r => obtain ⟨t, e, h⟩ := h; exact ⟨t, e, by rw [upd_ne (ne_of h d (by simp))]; exact h⟩
theorem Fsts.put0 {H0 H2 H : Hp} {fo : Addr} {v0 v1 : V} {o0 o1 : Option (List Nat × List Nat)} (F : Fsts H0 H2 H fo v0 v1 o0 o1) {v : V} {o : Option (List Nat × List Nat)} (r : ResAt H v o) : Fsts H0 H2 (upd H fo (.lst [v, v1])) fo v v1 o o1 :=
  ⟨Same.own F.own F.f0, fun b hb o h => by rw [upd_ne hb]; exact F.keep b hb o h, upd_same, F.f0, r.upd F.d, F.r1.upd F.d⟩
theorem Fsts.put1 {H0 H2 H : Hp} {fo : Addr} {v0 v1 : V} {o0 o1 : Option (List Nat × List Nat)} (F : Fsts H0 H2 H fo v0 v1 o0 o1) {v : V} {o : Option (List Nat × List Nat)} (r : ResAt H v o) : Fsts H0 H2 (upd H fo (.lst [v0, v])) fo v0 v o0 o :=
  ⟨Same.own F.own F.f0, fun b hb o h => by rw [upd_ne hb]; exact F.keep b hb o h, upd_same, F.f0, F.r0.upd F.d, r.upd F.d⟩
theorem word_all {L w : List Nat} {n : Nat} (hL : wordB L = true) (h : w ∈ allW L n) : wordB w = true := wordB_of fun c hc => wordB_mem hL ((mem_allW.mp h).2 c hc)
theorem Reach.all {L w v B : List Nat} {n : Nat} (h : Reach B w v) (hw : w ∈ allW L n) : v ∈ allW L n := mem_allW.mpr ⟨by rw [h.len]; exact (mem_allW.mp hw).1, fun c hc => (mem_allW.mp hw).2 c (h.mem c hc)⟩
theorem odd_iff {L w v : List Nat} {n : Nat} {ps : List (List Nat × List Nat)} (hL : wordB L = true) (hw : w ∈ allW L n) (hv : v ∈ allW L n) : oddB ps w v = true ↔ ∃ p ∈ ps, Reach p.1 w v ∧ ¬ Reach p.2 w v := by
  unfold oddB
  rw [List.any_eq_true]
  constructor
  · rintro ⟨p, hp, h⟩
    rw [Bool.and_eq_true, Bool.not_eq_true'] at h
    refine ⟨p, hp, (reach_iff (word_all hL hw) (word_all hL hv)).mpr h.1, fun q => ?_⟩
    rw [(reach_iff (word_all hL hw) (word_all hL hv)).mp q] at h
    exact absurd h.2 (by simp)
  · rintro ⟨p, hp, h1, h2⟩
    refine ⟨p, hp, ?_⟩
    rw [Bool.and_eq_true, Bool.not_eq_true']
    refine ⟨(reach_iff (word_all hL hw) (word_all hL hv)).mp h1, Bool.eq_false_iff.mpr fun q => h2 ((reach_iff (word_all hL hw) (word_all hL hv)).mpr q)⟩
theorem find_sorted {L w : List Nat} {n : Nat} {ps : List (List Nat × List Nat)} {out : List (List Nat)} (hLp : L.Pairwise (· < ·)) (hL : wordB L = true) (hw : w ∈ allW L n) (hm : ∀ v, v ∈ out ↔ ∃ p ∈ ps, Reach p.1 w v ∧ ¬ Reach p.2 w v) :
    (out = [] → (allW L n).find? (oddB ps w) = none) ∧ ∀ us : List (List Nat), us.Perm out → (us.Pairwise fun a b => ¬ b < a) → ∀ u, us[0]? = some u → (allW L n).find? (oddB ps w) = some u := by
  constructor
  · intro h
    refine List.find?_eq_none.mpr fun v hv z => ?_
    have := (hm v).mpr ((odd_iff hL hw hv).mp z)
    rw [h] at this
    cases this
  · intro us hp hs u hu
    have hum : u ∈ out := hp.mem_iff.mp (List.mem_of_getElem? hu)
    obtain ⟨p, hpp, h1, h2⟩ := (hm u).mp hum
    have hua := h1.all hw
    refine find_least (allW_pw hLp n) hua ((odd_iff hL hw hua).mpr ⟨p, hpp, h1, h2⟩) fun v hv z => ?_
    have hvm : v ∈ us := hp.mem_iff.mpr ((hm v).mpr ((odd_iff hL hw hv).mp z))
    match us, hu, hs, hvm with
    | x :: r, hu, hs, hvm =>
      cases hu
      rcases List.mem_cons.mp hvm with rfl | hvm
      · exact lt_irr _
      · exact (List.pairwise_cons.mp hs).1 v hvm
theorem wv_app (a b : List (List Nat)) : wordsV a ++ wordsV b = wordsV (a ++ b) := by simp [wordsV]
/-! ### what is known of the answers -/
theorem none_iff {L : List Nat} {n : Nat} {ps : List (List Nat × List Nat)} (hL : wordB L = true) : partP ps (allW L n) (allW L n) = none ↔ ∀ p ∈ ps, Within p.1 p.2 L n := by
  rw [part_none]
  constructor
  · intro h p hp w hw v hv
    refine Classical.byContradiction fun q => ?_
    have hva := hv.all hw
    have := (odd_iff hL hw hva).mpr ⟨p, hp, hv, q⟩
    rw [h w hw v hva] at this
    cases this
  · intro h w hw v hv
    refine Bool.eq_false_iff.mpr fun z => ?_
    obtain ⟨p, hp, h1, h2⟩ := (odd_iff hL hw hv).mp z
    exact h2 (h p hp w hw v h1)
theorem parts_eq {f1 f2 L : List Nat} {n : Nat} (nd : L.Nodup) (h97 : ∀ c ∈ L, 97 ≤ c) (hL : wordB L = true) (hn : n ≤ 4) : partsO f1 f2 L n = partP [(f1, f2), (f2, f1)] (allW L n) (allW L n) := by
  unfold partsO
  split
  · rename_i h
    rw [Bool.and_eq_true] at h
    refine ((none_iff hL).mpr fun p hp => ?_).symm
    simp only [List.mem_cons, List.not_mem_nil, or_false] at hp
    rcases hp with rfl | rfl
    · exact (within_iff nd h97 hn).mpr h.1
    · exact (within_iff nd h97 hn).mpr h.2
  · rfl
theorem out_eq {f1 f2 L : List Nat} {n : Nat} (nd : L.Nodup) (h97 : ∀ c ∈ L, 97 ≤ c) (hL : wordB L = true) (hn : n ≤ 4) : outO f1 f2 L n = partP [(f1, f2)] (allW L n) (allW L n) := by
  unfold outO
  split
  · rename_i h
    refine ((none_iff hL).mpr fun p hp => ?_).symm
    rw [List.mem_singleton] at hp
    subst hp
    exact (within_iff nd h97 hn).mpr h
  · rfl
theorem parts_none {f1 f2 L : List Nat} {n : Nat} (nd : L.Nodup) (h97 : ∀ c ∈ L, 97 ≤ c) (hL : wordB L = true) (hn : n ≤ 4) : (partP [(f1, f2), (f2, f1)] (allW L n) (allW L n)).isNone = (withinB f1 f2 L n && withinB f2 f1 L n) := by
  rw [Bool.eq_iff_iff, Option.isNone_iff_eq_none, none_iff hL, Bool.and_eq_true, ← within_iff nd h97 hn, ← within_iff nd h97 hn]
  constructor
  · intro h
    exact ⟨h (f1, f2) (by simp), h (f2, f1) (by simp)⟩
  · rintro ⟨h1, h2⟩ p hp
    simp only [List.mem_cons, List.not_mem_nil, or_false] at hp
    rcases hp with rfl | rfl
    · exact h1
    · exact h2
theorem out_none {f1 f2 L : List Nat} {n : Nat} (nd : L.Nodup) (h97 : ∀ c ∈ L, 97 ≤ c) (hL : wordB L = true) (hn : n ≤ 4) : (partP [(f1, f2)] (allW L n) (allW L n)).isNone = withinB f1 f2 L n := by
  rw [Bool.eq_iff_iff, Option.isNone_iff_eq_none, none_iff hL, ← within_iff nd h97 hn]
  constructor
  · intro h
    exact h (f1, f2) (by simp)
  · intro h1 p hp
    rw [List.mem_singleton] at hp
    subst hp
    exact h1
theorem parts_swap (f1 f2 L : List Nat) (n : Nat) : partsO f2 f1 L n = partsO f1 f2 L n := by
  unfold partsO
  rw [Bool.and_comm]
  have e : ∀ ws us, partP [(f2, f1), (f1, f2)] ws us = partP [(f1, f2), (f2, f1)] ws us := fun ws us => by
    unfold partP
    rw [odd_swap]
  rw [e]
/-- data of an answer -/
def resD : Option (List Nat × List Nat) → PyData
  | none => .none
  | some r => .tuple [.str (S r.1), .str (S r.2)]
def resT : Option (List Nat × List Nat) → Str
  | none => Str.ofString "None"
  | some r => (PyData.tuple [.str (S r.1), .str (S r.2)]).shown
theorem ResAt.dp {K : PySem.W.Frag} {H : Hp} {v : V} {o : Option (List Nat × List Nat)} (h : ResAt H v o) : Dp K H v (resD o) := by
  cases o with
  | none => rw [show v = V.non from h]; exact .non
  | some r => obtain ⟨t, rfl, h⟩ := h; exact .tup (SqT.of h) (.cons (.str _) (.cons (.str _) .nil))
def WellO (o : Option (List Nat × List Nat)) : Prop := ∀ r, o = some r → wordB r.1 = true ∧ wordB r.2 = true ∧ r.1.length ≤ 100 ∧ r.2.length ≤ 100
theorem res_short {o : Option (List Nat × List Nat)} (h : WellO o) : Short 1 300 (resD o) := by
  cases o with
  | none => exact Short.non.mono (by decide) (by decide)
  | some r =>
    obtain ⟨h1, h2, l1, l2⟩ := h r rfl
    refine (Short.tup (D := 0) (W := 100) (ds := [.str (S r.1), .str (S r.2)]) fun d hd => ?_).mono (by decide) (by simp)
    simp only [List.mem_cons, List.not_mem_nil, or_false] at hd
    rcases hd with rfl | rfl
    · exact (Short.word h1).mono (Nat.le_refl _) l1
    · exact (Short.word h2).mono (Nat.le_refl _) l2
theorem ResAt.rp {K : PySem.W.Frag} {H : Hp} {v : V} {o : Option (List Nat × List Nat)} (h : ResAt H v o) (w : WellO o) : Rp K H v (resT o) := by
  cases o with
  | none => rw [show v = V.non from h]; exact .non
  | some r =>
    have s := res_short w
    have d := h.dp (K := K)
    obtain ⟨t, rfl, h⟩ := h
    exact (s.mono (by decide) (by decide)).rp d
theorem well_part {L : List Nat} {n : Nat} {ps : List (List Nat × List Nat)} (hL : wordB L = true) (hn : n ≤ 100) : WellO (partP ps (allW L n) (allW L n)) := fun r h => by
  obtain ⟨h1, h2, _⟩ := part_mem h
  exact ⟨word_all hL h1, word_all hL h2, by rw [(mem_allW.mp h1).1]; exact hn, by rw [(mem_allW.mp h2).1]; exact hn⟩
theorem ResAt.isNone {H : Hp} {v : V} {o : Option (List Nat × List Nat)} (h : ResAt H v o) : decide (v = V.non) = o.isNone := by
  cases o with
  | none => rw [show v = V.non from h]; rfl
  | some r => obtain ⟨t, rfl, _⟩ := h; exact decide_eq_false fun q => by cases q
/-! ### longer words -/
theorem not_within_five {B B' L : List Nat} {c : Nat} (nd : L.Nodup) (hL : 2 ≤ L.length) (hc : c ∈ L) (hz : c ≠ 42) (hb : c ∈ B) (hb' : ¬ c ∈ B') : ¬ Within B B' L 5 := by
  obtain ⟨d, hd, hdc⟩ := other_of (c := c) nd hL
  intro W
  have r := W [c, c, c, c, d] (mem_allW.mpr ⟨rfl, fun x hx => by
    simp only [List.mem_cons, List.not_mem_nil, or_false] at hx
    rcases hx with rfl | rfl | rfl | rfl | rfl <;> assumption⟩) [c, c, c, d, c] (Reach.step (v := [c, c, c, c, d]) (i := 0) (c := c) .refl rfl hb)
  obtain ⟨k, hk, e⟩ := r.ring
  have hxc : (if d ∈ B' then 42 else d) ≠ c := by split <;> omega
  simp only [ringL, starL, List.map_cons, List.map_nil, if_neg hb'] at e
  generalize (if d ∈ B' then 42 else d) = x at e hxc
  have hk4 : k = 0 ∨ k = 1 ∨ k = 2 ∨ k = 3 ∨ k = 4 ∨ k = 5 := by simp only [List.length_cons, List.length_nil] at hk; omega
  rcases hk4 with rfl | rfl | rfl | rfl | rfl | rfl <;> simp [rotL] at e <;> omega
theorem not_within_eight {B B' L : List Nat} {c : Nat} (nd : L.Nodup) (hL : 2 ≤ L.length) (hc : c ∈ L) (hz : c ≠ 42) (hb : c ∈ B) (hb' : ¬ c ∈ B') : ¬ Within B B' L 8 := by
  obtain ⟨d, hd, hdc⟩ := other_of (c := c) nd hL
  intro W
  have r := W [c, c, c, c, c, c, c, d] (mem_allW.mpr ⟨rfl, fun x hx => by
    simp only [List.mem_cons, List.not_mem_nil, or_false] at hx
    rcases hx with rfl | rfl | rfl | rfl | rfl | rfl | rfl | rfl <;> assumption⟩) [c, c, c, c, c, c, d, c] (Reach.step (v := [c, c, c, c, c, c, c, d]) (i := 0) (c := c) .refl rfl hb)
  obtain ⟨k, hk, e⟩ := r.ring
  have hxc : (if d ∈ B' then 42 else d) ≠ c := by split <;> omega
  simp only [ringL, starL, List.map_cons, List.map_nil, if_neg hb'] at e
  generalize (if d ∈ B' then 42 else d) = x at e hxc
  have hk4 : k = 0 ∨ k = 1 ∨ k = 2 ∨ k = 3 ∨ k = 4 ∨ k = 5 ∨ k = 6 ∨ k = 7 ∨ k = 8 := by simp only [List.length_cons, List.length_nil] at hk; omega
  rcases hk4 with rfl | rfl | rfl | rfl | rfl | rfl | rfl | rfl | rfl <;> simp [rotL] at e <;> omega
/-- some letters and a size of which the law asks -/
structure FarL (L : List Nat) (n : Nat) : Prop where
  size : n = 8 ∨ n = 5 ∨ n = 4
  two : 2 ≤ L.length
  four : L.length ≤ 4
  joints : jointsB L = true
  pw : L.Pairwise (· < ·)
  h97 : ∀ c ∈ L, 97 ≤ c
  pow : ∀ i, i ≤ n → L.length ^ i ≤ 300
theorem far_ab : FarL [97, 98] 8 := ⟨.inl rfl, by decide, by decide, by decide +kernel, by decide, by decide, by decide⟩
theorem far_acd : FarL [97, 99, 100] 5 := ⟨.inr (.inl rfl), by decide, by decide, by decide +kernel, by decide, by decide, by decide⟩
theorem far_bdxz : FarL [98, 100, 120, 122] 4 := ⟨.inr (.inr rfl), by decide, by decide, by decide +kernel, by decide, by decide, by decide⟩
theorem FarL.nd {L : List Nat} {n : Nat} (F : FarL L n) : L.Nodup := joints_pair F.pw
theorem FarL.apart {L f1 f2 : List Nat} {n c : Nat} (F : FarL L n) (hc : c ∈ L) (h1 : c ∈ f1) (h2 : ¬ c ∈ f2) : ¬ Within f1 f2 L n := by
  have hz : c ≠ 42 := by have := F.h97 c hc; omega
  rcases F.size with rfl | rfl | rfl
  · exact not_within_eight F.nd F.two hc hz h1 h2
  · exact not_within_five F.nd F.two hc hz h1 h2
  · exact not_within_four F.nd F.two hc hz h1 h2
theorem FarL.same {L f1 f2 : List Nat} {n : Nat} (F : FarL L n) (s1 : f1.Sublist L) (s2 : f2.Sublist L) (h1 : ∀ c ∈ f1, c ∈ f2) (h2 : ∀ c ∈ f2, c ∈ f1) : f1 = f2 :=
  List.Perm.eq_of_pairwise (fun a b _ _ h g => absurd (Nat.lt_trans h g) (Nat.lt_irrefl _)) (F.pw.sublist s1) (F.pw.sublist s2) ((List.perm_ext_iff_of_nodup (F.nd.sublist s1) (F.nd.sublist s2)).mpr fun c => ⟨h1 c, h2 c⟩)
theorem FarL.none {L f1 f2 : List Nat} {n : Nat} (F : FarL L n) (s1 : f1.Sublist L) (s2 : f2.Sublist L) : (partsO f1 f2 L n).isNone = decide (f1 = f2) := by
  by_cases e : f1 = f2
  · subst e
    rw [decide_eq_true rfl]
    unfold partsO
    rw [within_self]
    rfl
  · rw [decide_eq_false e]
    obtain ⟨c, hc⟩ : ∃ c, (c ∈ f1 ∧ ¬ c ∈ f2) ∨ (c ∈ f2 ∧ ¬ c ∈ f1) := by
      refine Classical.byContradiction fun q => e (F.same s1 s2 (fun c hc => ?_) fun c hc => ?_)
      · exact Classical.byContradiction fun z => q ⟨c, .inl ⟨hc, z⟩⟩
      · exact Classical.byContradiction fun z => q ⟨c, .inr ⟨hc, z⟩⟩
    have hL := joints_word F.joints
    have np : partP [(f1, f2), (f2, f1)] (allW L n) (allW L n) ≠ Option.none := fun h => by
      have hw := (none_iff hL).mp h
      rcases hc with ⟨h1, h2⟩ | ⟨h1, h2⟩
      · exact F.apart (s1.subset h1) h1 h2 (hw (f1, f2) (by simp))
      · exact F.apart (s2.subset h1) h1 h2 (hw (f2, f1) (by simp))
    have hn : 4 ≤ n := by rcases F.size with rfl | rfl | rfl <;> decide
    have na : ¬ (withinB f1 f2 L n && withinB f2 f1 L n) = true := fun h => by
      rw [Bool.and_eq_true] at h
      have all : ∀ {a b : List Nat}, withinB a b L n = true → ∀ c ∈ L, c ∈ a → c ∈ b := fun {a b} h => by
        rcases of_decide_eq_true h with h | h | h | ⟨h, _⟩
        · omega
        · have := F.two; omega
        · exact h
        · omega
      rcases hc with ⟨h1, h2⟩ | ⟨h1, h2⟩
      · exact h2 (all h.1 c (s1.subset h1) h1)
      · exact h2 (all h.2 c (s2.subset h1) h1)
    unfold partsO
    rw [if_neg na]
    cases hp : partP [(f1, f2), (f2, f1)] (allW L n) (allW L n) with
    | none => exact absurd hp np
    | some r => rfl
theorem parts_mem {f1 f2 L : List Nat} {n : Nat} {r : List Nat × List Nat} (h : partsO f1 f2 L n = some r) : r.1 ∈ allW L n ∧ r.2 ∈ allW L n ∧ comesB r.1 r.2 f1 ≠ comesB r.1 r.2 f2 := by
  unfold partsO at h
  split at h
  · cases h
  · obtain ⟨h1, h2, h3⟩ := part_mem h
    refine ⟨h1, h2, fun e => ?_⟩
    unfold oddB at h3
    simp only [List.any_cons, List.any_nil, e, Bool.and_not_self, Bool.or_self] at h3
    cases h3
end Sw
/-! Sets of texts: what stands in them, in any order. -/
namespace Sw
open PySem PySem.Spec PyProof.Rows L2
/-- the text of an entry -/
def txOf (e : Int × Value) : Str := match e.2 with | .str x _ => x | _ => ⟨#[]⟩
def TxE (P : Program) (w : World) (l : List (Int × Value)) : Prop := ∀ e ∈ l, ∃ x tk, e.2 = Value.str x tk ∧ e.1 = (PySem.strKind P w).hash x
/-- the set of the texts ws at a -/
def SetX (P : Program) (w : World) (h : Heap) (a : Addr) (ws : List Str) : Prop :=
  ∃ o es ep t, h.get? a = some o ∧ o.ExactSet ∧ o.data = .set es ep t ∧ TxE P w es.toList ∧ (es.toList.map txOf).Perm ws ∧ ws.Nodup ∧ es.size < scanBound ∧ t.fits es.size = true ∧ Ris t.place.toList ∧
    (w.params.followText "set-order" = true ∨ t.led = true)
/-- one more text -/
def insX (ws : List Str) (x : Str) : List Str := if x ∈ ws then ws else ws ++ [x]
section
variable {P : Program} {w : World} {A : Around} {E : Value → Shared → Prop} {s : Shared} {a : Addr} {ws : List Str}
theorem SetX.at {h h' : Heap} (R : SetX P w h a ws) (k : ∀ o, h.get? a = some o → h'.get? a = some o) : SetX P w h' a ws := by
  obtain ⟨o, es, ep, t, ho, r⟩ := R
  exact ⟨o, es, ep, t, k o ho, r⟩
theorem SetX.there {h : Heap} (R : SetX P w h a ws) : ∃ o, h.get? a = some o := by
  obtain ⟨o, _, _, _, ho, _⟩ := R
  exact ⟨o, ho⟩
theorem TxE.elems {l : List (Int × Value)} (g : TxE P w l) : ElemsOf (PySem.strKind P w) l := fun e he => by
  obtain ⟨x, tk, h1, h2⟩ := g e he
  exact ⟨⟨x, by rw [h1]; exact strKind_is P w x tk, h2⟩, by rw [h1]; rfl⟩
theorem TxE.is {l : List (Int × Value)} (g : TxE P w l) {e : Int × Value} (he : e ∈ l) (x : Str) : (PySem.strKind P w).is x e.2 = true ↔ txOf e = x := by
  obtain ⟨y, tk, h1, _⟩ := g e he
  unfold txOf
  rw [h1]
  constructor
  · intro h
    exact (PySem.strKind P w).inj (.str y tk) y x (strKind_is P w y tk) h
  · intro h
    have h' : y = x := h
    subst h'
    exact strKind_is P w y tk
theorem TxE.mem {l : List (Int × Value)} (g : TxE P w l) (x : Str) : (∃ e ∈ l, (PySem.strKind P w).is x e.2 = true) ↔ x ∈ l.map txOf := by
  rw [List.mem_map]
  exact ⟨fun ⟨e, he, h⟩ => ⟨e, he, (g.is he x).mp h⟩, fun ⟨e, he, h⟩ => ⟨e, he, (g.is he x).mpr h⟩⟩
theorem TxE.perm {l l' : List (Int × Value)} (g : TxE P w l) (p : l'.Perm l) : TxE P w l' := fun e he => g e (p.mem_iff.mp he)
theorem SetX.setOf {h : Heap} (R : SetX P w h a ws) : h.SetOf (PySem.strKind P w) a (fun x => decide (x ∈ ws)) ws.length := by
  obtain ⟨o, es, ep, t, ho, hx, hd, g, pm, nd, hb, hf, _⟩ := R
  refine ⟨o, es, ep, t, ho, hx, hd, g.elems, fun x => ?_, hb, hf, ?_⟩
  · rw [decide_eq_true_iff, g.mem, pm.mem_iff]
  · rw [← pm.length_eq, List.length_map, Array.length_toList]
theorem ins_new {x : Str} (h : ¬ x ∈ ws) : insX ws x = ws ++ [x] := if_neg h
theorem ins_old {x : Str} (h : x ∈ ws) : insX ws x = ws := if_pos h
/-- the entry is laid; the table may be laid anew -/
theorem setX_lay {give : Bool → Sem Unit} (hg : ∀ (b : Bool) (s₁ : Shared) (Q' : Unit → Shared → Prop), Q' () s₁ → wpAny (model P w) A (give b) Q' E s₁)
    {o : Obj} {es es1 : Array (Int × Value)} {ep : Nat} {t t2 : SetTable} {vs : List Str} (ho : s.heap.get? a = some o) (hx : o.ExactSet) (hd : o.data = .set es ep t)
    (g1 : TxE P w es1.toList) (p1 : (es1.toList.map txOf).Perm vs) (nd : vs.Nodup) (hb : es1.size < scanBound) (hf : t2.fits es1.size = true) (hr : Ris t2.place.toList) (hl : w.params.followText "set-order" = true ∨ t2.led = true)
    {old : Bool} {R : Option Bool → Shared → Prop} (hR : ∀ h', Heap.SameBut a s.heap h' → SetX P w h' a vs → R (some true) { s with heap := h' }) :
    wpAny (model P w) A (do
        storeSet a es1 t2
        if (!old && t2.tooFull) = true then do
            give (relayAll t2 es1 (SetTable.grown es1.size)).2.2
            storeSet a (relayAll t2 es1 (SetTable.grown es1.size)).1 (relayAll t2 es1 (SetTable.grown es1.size)).2.1
            pure (some true)
          else pure (some true)) R E s := by
  have ho1 := store_at (es' := es1) (t' := t2) ho hd
  have sb1 := Heap.SameBut.update s.heap a (Obj.putSet es1 t2)
  refine wpAny_bind (wpAny_storeSet_of ho hd ?_ (fits_of_scanBound hb))
  split
  · have q1 := relayAll_perm t2 es1 (SetTable.grown es1.size)
    have q2 := relayAll_fits t2 es1 (SetTable.grown es1.size)
    have q3 := relayAll_ris t2 es1 (SetTable.grown es1.size)
    have q4 := relayAll_led t2 es1 (SetTable.grown es1.size)
    generalize relayAll t2 es1 (SetTable.grown es1.size) = Z at q1 q2 q3 q4 ⊢
    obtain ⟨es2, t3, gave⟩ := Z
    dsimp only at q1 q2 q3 q4 ⊢
    have hz : es2.size = es1.size := by rw [← Array.length_toList, q1.length_eq, Array.length_toList]
    refine wpAny_bind (hg _ _ _ ?_)
    refine wpAny_bind (wpAny_storeSet_of ho1 rfl ?_ (fits_of_scanBound (by rw [hz]; exact hb)))
    exact wpAny_pure (hR _ (sb1.trans (Heap.SameBut.update _ a _)) ⟨_, es2, _, t3, store_at (es' := es2) (t' := t3) ho1 rfl, hx, rfl, g1.perm q1, (q1.map txOf).trans p1, nd, by rw [hz]; exact hb, q2, q3,
      hl.imp id fun z => by rw [q4]; exact z⟩)
  · exact wpAny_pure (hR _ sb1 ⟨_, es1, _, t2, ho1, hx, rfl, g1, p1, nd, hb, hf, hr, hl⟩)
theorem setX_addH {x : Str} {tk : Tok} {Q : Bool → Shared → Prop} (R : SetX P w s.heap a ws) (room : ws.length + 1 < scanBound)
    (hQ : ∀ b h', Heap.SameBut a s.heap h' → SetX P w h' a (insX ws x) → Q b { s with heap := h' }) :
    wpAny (model P w) A (setAddHashed a (.str x tk) ((PySem.strKind P w).hash x)) Q E s := by
  obtain ⟨o, es, ep, t, ho, hx, hd, g, pm, nd, hb, hf, hr, hl⟩ := R
  have hlen : es.size = ws.length := by rw [← pm.length_eq, List.length_map, Array.length_toList]
  have hsc : (Value.str x tk).scannable = true := rfl
  have gw : ∀ (b : Bool) {s₁ : Shared} {Q' : Unit → Shared → Prop}, Q' () s₁ → wpAny (model P w) A (match b with | true => rule "set.scan.the-table-gave-way" | false => pure ()) Q' E s₁ :=
    fun b s₁ Q' q => by cases b <;> first | exact wpAny_pure q | exact wpAny_rule q
  unfold setAddHashed setAddHashedIn
  refine wpAny_holding (wpAny_bind (wpAny_setState_of ho hd hf ?_))
  dsimp only
  rw [byScan_of hsc hb g.elems]
  simp only [↓reduceIte]
  unfold setAddByScan
  refine wpAny_bind (wpAny_bind (wpAny_rule (wpAny_bind (wpAny_setScan_of (strKind_is P w x tk) ho hd hf g.elems ?_))))
  cases hfi : List.findIdx? (fun e => (PySem.strKind P w).is x e.2) es.toList with
  | some j =>
    obtain ⟨hj, pj, _⟩ := List.findIdx?_eq_some_iff_getElem.mp hfi
    have hm : x ∈ ws := pm.mem_iff.mp ((g.mem x).mp ⟨_, List.getElem_mem hj, pj⟩)
    dsimp only
    refine wpAny_pure (wpAny_pure (hQ _ s.heap (Heap.SameBut.refl a s.heap) ?_))
    rw [ins_old hm]
    exact ⟨o, es, ep, t, ho, hx, hd, g, pm, nd, hb, hf, hr, hl⟩
  | none =>
    have hm : ¬ x ∈ ws := fun z => by
      obtain ⟨e, he, q⟩ := (g.mem x).mpr (pm.mem_iff.mpr z)
      have c := List.findIdx?_eq_none_iff.mp hfi e he
      rw [q] at c
      cases c
    dsimp only
    have q1 := layNew_perm t es ((PySem.strKind P w).hash x) (.str x tk)
    have q2 := layNew_fits t es ((PySem.strKind P w).hash x) (.str x tk)
    have q3 := layNew_ris t es ((PySem.strKind P w).hash x) (.str x tk) hr
    have q4 := layNew_led t es ((PySem.strKind P w).hash x) (.str x tk)
    generalize layNew t es ((PySem.strKind P w).hash x) (.str x tk) = Z at q1 q2 q3 q4 ⊢
    obtain ⟨es1, t1, old, gave⟩ := Z
    dsimp only at q1 q2 q3 q4 ⊢
    rw [Array.toList_push] at q1
    have g1 : TxE P w es1.toList := fun e he => by
      rcases List.mem_append.mp (q1.mem_iff.mp he) with z | z
      · exact g e z
      · rw [List.mem_singleton.mp z]; exact ⟨x, tk, rfl, rfl⟩
    have p1 : (es1.toList.map txOf).Perm (insX ws x) := by
      rw [ins_new hm]
      have := q1.map txOf
      rw [List.map_append] at this
      exact this.trans (List.Perm.append_right _ pm)
    have nd1 : (insX ws x).Nodup := by
      rw [ins_new hm]
      exact List.nodup_append.mpr ⟨nd, by simp, fun c hc d hd' e => hm (by rw [List.mem_singleton] at hd'; rw [← hd', ← e]; exact hc)⟩
    have hb1 : es1.size < scanBound := by
      have : es1.size = ws.length + 1 := by rw [← Array.length_toList, q1.length_eq, List.length_append, Array.length_toList, hlen]; rfl
      rw [this]; exact room
    have hled : w.params.followText "set-order" = true ∨ t1.led = true := hl.imp id fun z => by rw [q4]; exact z
    refine wpAny_bind (gw _ ?_)
    split
    · refine wpAny_bind ?_
      rw [hashByValue_scannable 8 hsc]
      refine wpAny_pure ?_
      refine setX_lay ?_ ho hx hd g1 p1 nd1 hb1 ?_ ?_ ?_ ?_
      · intro b s₁ Q' q; cases b <;> first | exact wpAny_pure q | exact wpAny_rule q
      · first | (split <;> first | exact q2 | exact SetTable.fits_plain_off q2) | exact q2
      · first | (split <;> exact q3) | exact q3
      · first | (split <;> exact hled) | exact hled
      · intro h' sb r; dsimp only; exact wpAny_pure (hQ _ _ sb r)
    · refine wpAny_bind (wpAny_pure ?_)
      simp only [↓reduceIte]
      refine setX_lay ?_ ho hx hd g1 p1 nd1 hb1 q2 q3 hled ?_
      · intro b s₁ Q' q; cases b <;> first | exact wpAny_pure q | exact wpAny_rule q
      · intro h' sb r; dsimp only; exact wpAny_pure (hQ _ _ sb r)
/-- a set that is new -/
theorem setX_fresh {h : Heap} (P : Program) (w : World) : SetX P w (h.push { cls := .type "set", dict := none, data := .set #[] 0 (.fresh 0 0 (!w.params.followText "set-order")) }) h.objs.size [] :=
  ⟨_, #[], 0, _, Heap.get?_push_size _ rfl, ⟨rfl, rfl, rfl⟩, rfl, (fun e he => by simp at he), (by simp), List.nodup_nil, (by decide), rfl, List.Pairwise.nil, by
    show _ ∨ (!w.params.followText "set-order") = true
    cases w.params.followText "set-order"
    · exact .inr rfl
    · exact .inl rfl⟩
end
/-! ### sorted -/
def tOf (v : Value) : Str := match v with | .str x _ => x | _ => ⟨#[]⟩
theorem strs_of : ∀ (l : List Value), (∀ v ∈ l, ∃ x tk, v = Value.str x tk) → StrsAre l (l.map tOf)
  | [], _ => .nil
  | v :: l, h => by
    obtain ⟨x, tk, rfl⟩ := h v List.mem_cons_self
    exact .cons x tk (strs_of l fun u hu => h u (List.mem_cons_of_mem _ hu))
section
variable {P : Program} {w : World} {A : Around} {E : Value → Shared → Prop} {s : Shared} {a : Addr} {ws : List Str}
theorem setX_sorted {Q : Value → Shared → Prop} (R : SetX P w s.heap a ws) (hh : A.handled = none)
    (hQ : ∀ s' p (out : Array Value) (c : Nat) (us : List Str), (∀ b o, s.heap.get? b = some o → s'.heap.get? b = some o) → s'.gens = s.gens → s'.os = s.os → s.heap.objs.size ≤ p →
      s'.heap.get? p = some (seqObj "list" out c) → StrsAre out.toList us → us.Perm ws → sortedS us = true → Q (.ref p) s') :
    wpAny (model P w) A (call (.builtin "sorted") [.ref a]) Q E s := by
  obtain ⟨o, es, ep, t, ho, hx, hd, g, pm, nd, hb, hf, hr, hl⟩ := R
  refine Calls.call_function_entry kind_sorted plain_sorted entry_sorted (args_sorted1 _) ?_
  unfold Builtin.«sorted»
  refine wpAny_bind (m := checkCount "sorted" 1 1 _) (wpAny_pure ?_)
  refine wpAny_bind (collect_set (A := A.in1) hh ⟨o, ho, hx.1, hd⟩ hf hb hr hl fun s1 vs k1 hz g1 o1 pv => ?_)
  have hsz : vs.length ≤ sizeLine := by
    rw [pv.length_eq, List.length_map, Array.length_toList]
    exact fits_of_scanBound hb
  have hS : StrsAre vs (vs.map tOf) := strs_of vs fun v hv => by
    obtain ⟨e, he, q⟩ := List.mem_map.mp (pv.mem_iff.mp hv)
    obtain ⟨x, tk, h1, _⟩ := g e he
    exact ⟨x, tk, by rw [← q]; exact h1⟩
  have pw' : (vs.map tOf).Perm ws := by
    have q := pv.map tOf
    rw [List.map_map] at q
    exact q.trans pm
  refine wpAny_bind (wpAny_newList ?_ hsz)
  have hoL : (s1.heap.push (seqObj "list" vs.toArray 0)).get? s1.heap.objs.size = some (seqObj "list" vs.toArray 0) := Heap.get?_push_size _ rfl
  refine wpAny_bind (wpAny_holding (wpAny_call_entry slot_list_sort ⟨_, hoL, rfl⟩ entry_list_sort (list_sort_treeKAny strKind_oneLt hoL hS.keysOf (fun v₁ v₂ rest e => keyKind_strs (by rw [← e]; exact hS)) hsz fun st' a1 a2 => ⟨_, rfl, ?_⟩) (args_list_sort _)))
  obtain ⟨us, h1, h2, h3⟩ := sorted_out_str hS a1 a2
  obtain ⟨c, hc⟩ := sortedHeap_at (vs := vs) (out := (arrOf st').map (·.2)) hoL
  refine wpAny_pure ⟨_, rfl, hQ _ s1.heap.objs.size _ c us (fun b u e => ?_) g1 o1 hz hc h1 (h2.trans pw') h3⟩
  have q := k1 b u e
  have hlt := Heap.lt_size q
  show (sortedHeap (s1.heap.push (seqObj "list" vs.toArray 0)) s1.heap.objs.size vs _).get? b = some u
  rw [sortedHeap_old (Nat.ne_of_lt hlt) (by rw [size_push']; exact Nat.lt_succ_of_lt hlt)]
  exact Heap.get?_push_of_some _ q
end
/-- the set of the texts ws at a, as what stands at a -/
def SetXO (P : Program) (w : World) (a : Addr) (ws : List Str) : HO := .ext fun h => SetX P w h a ws
section
variable {X : Cx}
theorem setXO_new {w : World} {P : Program} {H : Hp} {h : Heap} {a : Addr} {ws : List Str} (R : SetX P w h a ws) : ObjOk P w H h a (SetXO P w a ws) := ⟨R, R.there, fun _ _ p k => p.at k⟩
theorem setXO_get {pins : List (Addr × Obj)} {σ : L2.St} {H : Hp} {s : Shared} {a : Addr} {ws : List Str} (I : Inv X pins σ H s) (ha : H a = some (SetXO X.prog X.w a ws)) : SetX X.prog X.w s.heap a ws := (I.hok a _ ha).1
/-- sorted(a set of texts) -/
def rSortedX (P : Program) (w : World) : List V → Hp → VK → Prop := fun vs H Q => ∃ (a : Addr) (ws : List Str), vs = [V.ref a] ∧ H a = some (SetXO P w a ws) ∧ ws.length ≤ 4000 ∧
  ∀ (us : List Str) (p : Addr), us.Perm ws → sortedS us = true → H p = none → Q (.ref p) (upd H p (.lst (us.map V.str)))
theorem cr_sortedX (hc : X.calm = true) : CallR X (.builtin "sorted") (rSortedX X.prog X.w) := by
  intro pins s σ H vs us Q I r h
  obtain ⟨a, ws, rfl, ha, hz, q⟩ := h
  have R := setXO_get I ha
  rw [Vals.ref1 r]
  refine setX_sorted R (I.ok.hd hc) fun s' p out c ys k g o hp hg hi hpm hs => ?_
  have hlen : (ys.map V.str).length ≤ sizeLine := by rw [List.length_map, hpm.length_eq, sizeLine_eq]; omega
  have hn : H p = none := I.hok.fresh hp
  have J : Inv X pins σ (upd H p (.lst (ys.map V.str))) { s with heap := s'.heap, gens := s'.gens, drawn := s'.drawn, toks := s'.toks } :=
    I.call (ch := []) (Un.laid k hp hn) (I.hok.laid k hp ⟨hlen, out.toList, c, vals_of_strs hi, hg⟩) (by rw [g]; exact I.bare) (fun _ z => nomatch z)
  have e : s' = { s with heap := s'.heap, gens := s'.gens, drawn := s'.drawn, toks := s'.toks } := by
    cases s'
    cases s
    cases o
    rfl
  rw [e]
  exact ⟨.ref p, _, J, rfl, q ys p hpm hs hn⟩
end
/-! ### set(a list of texts) -/
/-- the texts that are met, each once -/
def onceX (us : List Str) : List Str := us.foldl insX []
theorem mem_ins {ws : List Str} {x y : Str} : y ∈ insX ws x ↔ y ∈ ws ∨ y = x := by
  unfold insX
  split
  · rename_i h
    exact ⟨.inl, fun q => q.elim id fun e => e ▸ h⟩
  · rw [List.mem_append, List.mem_singleton]
theorem nd_ins {ws : List Str} {x : Str} (h : ws.Nodup) : (insX ws x).Nodup := by
  unfold insX
  split
  · exact h
  · rename_i hx
    exact List.nodup_append.mpr ⟨h, by simp, fun c hc d hd e => hx (by rw [List.mem_singleton] at hd; rw [← hd, ← e]; exact hc)⟩
theorem len_ins (ws : List Str) (x : Str) : (insX ws x).length ≤ ws.length + 1 := by
  unfold insX
  split
  · omega
  · simp
theorem once_snoc (us : List Str) (x : Str) : onceX (us ++ [x]) = insX (onceX us) x := by unfold onceX; rw [List.foldl_append]; rfl
theorem once_len : ∀ us : List Str, (onceX us).length ≤ us.length := fun us => by
  have h : ∀ (l acc : List Str), (l.foldl insX acc).length ≤ acc.length + l.length := fun l => by
    induction l with
    | nil => intro acc; exact Nat.le_refl _
    | cons x r ih =>
      intro acc
      have h1 := ih (insX acc x)
      have h2 := len_ins acc x
      simp only [List.foldl_cons, List.length_cons]
      omega
  have := h us []
  unfold onceX
  simpa using this
theorem once_mem {us : List Str} {y : Str} : y ∈ onceX us ↔ y ∈ us := by
  have h : ∀ (l acc : List Str), y ∈ l.foldl insX acc ↔ y ∈ acc ∨ y ∈ l := fun l => by
    induction l with
    | nil => intro acc; simp
    | cons x r ih =>
      intro acc
      rw [List.foldl_cons, ih, mem_ins, List.mem_cons, or_assoc]
  have := h us []
  unfold onceX
  simpa using this
theorem once_nd (us : List Str) : (onceX us).Nodup := by
  have h : ∀ (l acc : List Str), acc.Nodup → (l.foldl insX acc).Nodup := fun l => by
    induction l with
    | nil => intro acc h; exact h
    | cons x r ih => intro acc h; exact ih _ (nd_ins h)
  exact h us [] List.nodup_nil
section
variable {P : Program} {w : World} {A : Around} {E : Value → Shared → Prop} {s : Shared}
/-- the loop of set.update over texts -/
theorem update_texts {I : Addr} {fp wr : List Addr} {G : Array GenState → Array GenState → Prop} {n : Nat} {Pv : Nat → Value → Prop} {St : Nat → Shared → Prop} {R : Result → Shared → Prop}
    (W : WalksS P w A.in1 I fp wr G n Pv St) (D : Addr) (hD : D ∉ fp) (us : List Str) (hn : n = us.length) (hb : us.length + 1 < scanBound) (hval : ∀ i v, Pv i v → ∃ x t, us[i]? = some x ∧ v = .str x t) :
    ∀ (left i : Nat) (s : Shared), i + left = n → St i s → SetX P w s.heap D (onceX (us.take i)) →
      (∀ s', Moved (D :: wr) G s s' → SetX P w s'.heap D (onceX us) → R (.ok (.ret .none)) s') →
      codeAny (model P w) A (.builtin "set.update.loop" ⟨[.ref D, .ref I], []⟩) R s
  | 0, i, s, hi, hst, hS, hR => by
    refine codeAny_builtin F.entry_set_update_loop ?_
    rw [Around.under_plainId F.plain_set_update_loop _]
    show wpAny _ A.in1 (pyNext (.ref I) >>= _) _ _ s
    obtain rfl : i = n := by omega
    refine wpAny_bind (W.done s _ _ hst fun s' hm => ?_)
    show wpAny _ A.in1 (ret Value.none) _ _ s'
    rw [List.take_of_length_le (by omega)] at hS
    exact wpAny_pure (hR s' (hm.mono fun b hb => List.mem_cons_of_mem _ hb) (hS.at fun o e => hm.heap D o (fun h => hD (W.sub _ h)) e))
  | left + 1, i, s, hi, hst, hS, hR => by
    refine codeAny_builtin F.entry_set_update_loop ?_
    rw [Around.under_plainId F.plain_set_update_loop _]
    show wpAny _ A.in1 (pyNext (.ref I) >>= _) _ _ s
    refine wpAny_bind (W.item i s _ _ (by omega) hst fun v s' hP hst' hm => ?_)
    obtain ⟨x, t, hx, rfl⟩ := hval i v hP
    have hS' : SetX P w s'.heap D (onceX (us.take i)) := hS.at fun o e => hm.heap D o (fun h => hD (W.sub _ h)) e
    have hl := once_len (us.take i)
    rw [List.length_take] at hl
    show wpAny _ A.in1 (holding [Value.str x t] (setAdd D (.str x t)) >>= _) _ _ s'
    refine wpAny_bind (wpAny_holding ?_)
    unfold setAdd
    refine wpAny_holding ?_
    refine wpAny_bind ((PySem.strKind P w).pyHash (k := x) (strKind_is _ _ _ _) ?_)
    refine setX_addH (s := { s' with toks := s'.toks + 1 }) hS' (by omega) fun b h' sb hS2 => ?_
    rw [← once_snoc, ← take_snoc hx] at hS2
    refine wpAny_pure ⟨plainId_quiet F.plain_set_update_loop _, update_texts W D hD us hn hb hval left (i + 1) _ (by omega) (W.frame _ s' _ _ hst' (Nat.le_succ _) fun b hb o e => ?_) hS2 fun s'' hm2 hS3 => ?_⟩
    · rw [sb.2 b (fun h : b = D => hD (by rw [← h]; exact hb))]; exact e
    · refine hR s'' (Moved.trans W.gtrans ((hm.mono fun b hb => List.mem_cons_of_mem _ hb).then_heap (Nat.le_succ _) fun b o hb e => ?_) hm2) hS3
      rw [sb.2 b (fun h : b = D => hb (by rw [h]; exact List.mem_cons_self))]; exact e
end
section
variable {P : Program} {w : World} {A : Around} {E : Value → Shared → Prop} {s : Shared}
/-- the object of a new set -/
def newO (w : World) : Obj := { cls := .type "set", dict := none, data := .set #[] 0 (.fresh 0 0 (!w.params.followText "set-order")) }
set_option maxHeartbeats 6400000 in
theorem call_set_texts {l : Addr} {items : Array Value} {us : List Str} {Q : Value → Shared → Prop} (hh : A.handled = none) (hl : s.heap.IsList l items) (hit : StrsAre items.toList us) (hb : us.length + 1 < scanBound)
    (h : ∀ (h' : Heap) (tk : Nat), SetX P w h' s.heap.objs.size (onceX us) → (∀ b o, s.heap.get? b = some o → h'.get? b = some o) → Q (.ref s.heap.objs.size) { s with heap := h', toks := tk }) :
    wpAny (model P w) A (call (.type "set") [.ref l]) Q E s := by
  have hisz : items.size = us.length := by rw [← StrsAre.len_eq hit, Array.length_toList]
  obtain ⟨c, tl, hmro⟩ := F.called_set.mro
  have hmade := F.called_set.made
  have hsub := F.called_set.sub
  have h1 := F.called_set.notType
  have h2 := F.called_set.canCreate
  have hct := F.typeCall_set_1 (.ref l)
  refine wpAny_call (codeAny_of_tree ?_)
  show wpAny _ _ (callAny (.type "set") _) _ _ _
  refine wpAny_pure ⟨Code.quiet_builtin _ (by decide +kernel), codeAny_builtin F.entry_type_call ?_⟩
  rw [Around.under_plain (weight_type_call_type "set" [.ref l] []) rfl]
  repeat (any_goals (first | assumption | wp_step))
  refine codeAny_mono (code_set_led1 (.ref l) (E := E) (Q₁ := fun obj s₁ => obj = .ref s.heap.objs.size ∧ s₁ = { s with heap := s.heap.push (newO w) }) ⟨rfl, rfl⟩) fun r s₁ hr => ?_
  cases r with
  | error e => exact hr
  | ok fl =>
    cases fl with
    | ret obj =>
      obtain ⟨rfl, rfl⟩ := hr
      have hS : (s.heap.push (newO w)).get? s.heap.objs.size = some (newO w) := Heap.get?_push_size _ rfl
      have hT : Shared.TypeIs { s with heap := s.heap.push (newO w) } (.ref s.heap.objs.size) "set" := ⟨_, hS, rfl⟩
      have hli := F.called_set.init.lookup
      have hbi := F.called_set.init.bind (.ref s.heap.objs.size)
      repeat (any_goals (first | assumption | wp_step))
      refine codeAny_mono (codeAny_call_builtin (R := wants (fun r s₂ => r = .none ∧ ∃ h' tk, s₂ = { s with heap := h', toks := tk } ∧ SetX P w h' s.heap.objs.size (onceX us) ∧
          (∀ b o, s.heap.get? b = some o → h'.get? b = some o)) E) F.called_set.init.plain F.entry_set_init (check_set_init_1 hT ?_)) fun r₂ s₂ hr₂ => ?_
      · obtain ⟨ol, hol, hcl, nl, hdl⟩ := hl
        obtain ⟨ocls, odict, odata, oslots⟩ := ol
        simp only at hcl hdl
        subst hcl; subst hdl
        have hlS : l < s.heap.objs.size := Heap.lt_size hol
        have hol' : (s.heap.push (newO w)).get? l = some { cls := .type "list", dict := odict, data := .seq items nl, slots := oslots } := Heap.get?_push_of_some _ hol
        have hsls := F.sub_list_set
        have hslf := F.sub_list_frozenset
        have hne : (Value.type "list" == Value.type "dict") = false := by decide
        have hl1 : (s.heap.push (newO w)).IsList l items := ⟨_, hol', rfl, nl, rfl⟩
        unfold Builtin.«set.__init__» noKeywords Builtin.Frozenset.updateFrom
        generalize hPI : pyIter = PI
        wp_walk
        subst hPI
        refine wpAny_pyIter_list hl1 ?_
        refine wpAny_bind (wpAny_runValue ?_)
        have hneI : l ≠ (s.heap.push (newO w)).objs.size := by
          rw [Heap.size_push]; exact Nat.ne_of_lt (Nat.lt_succ_of_lt hlS)
        have hSf : s.heap.objs.size ∉ [(s.heap.push (newO w)).objs.size, l] := by
          rw [Heap.size_push]; simp only [List.mem_cons, List.not_mem_nil, or_false, not_or]
          exact ⟨Nat.ne_of_lt (Nat.lt_succ_self _), Nat.ne_of_gt hlS⟩
        have hval : ∀ (i : Nat) (v : Value), items[i]? = some v → ∃ x t, us[i]? = some x ∧ v = .str x t := fun i v hv => by
          have hv' : items.toList[i]? = some v := by rw [Array.getElem?_toList]; exact hv
          generalize items.toList = vs at hit hv'
          clear hv hisz hl1 hol' hol h
          induction hit generalizing i with
          | nil => cases hv'
          | cons y t r ih =>
            cases i with
            | zero => cases hv'; exact ⟨y, t, rfl, rfl⟩
            | succ i => exact ih (by simpa using Nat.lt_of_succ_lt hb) i hv'
        refine update_texts ((Walks.list (by simp [hh]) _ l hneI items).toS) s.heap.objs.size hSf us hisz hb hval items.size 0 _ (by omega) ⟨⟨_, Heap.get?_push_size _ rfl, rfl, rfl⟩, (hl1.push _)⟩ ?_ ?_
        · have hf := setX_fresh (h := s.heap) P w
          exact hf.at fun o e => Heap.get?_push_of_some _ e
        · intro s' hm hS'
          obtain ⟨h', g2, d', tk', os'⟩ := s'
          have eg : g2 = s.gens := hm.gens
          have ed : d' = s.drawn := hm.drawn
          have eo : os' = s.os := hm.os
          subst eg; subst ed; subst eo
          show wpAny _ _ _ _ _ _
          refine wpAny_pure ?_
          show wpAny _ _ (ret Value.none) _ _ _
          refine wpAny_pure ⟨rfl, h', tk', rfl, hS', fun b o e => ?_⟩
          have hb0 : b < s.heap.objs.size := Heap.lt_size e
          exact hm.heap b o (by
            rw [Heap.size_push]
            simp only [List.mem_cons, List.not_mem_nil, or_false, not_or]
            exact ⟨Nat.ne_of_lt hb0, Nat.ne_of_lt (Nat.lt_succ_of_lt hb0)⟩) (Heap.get?_push_of_some _ (Heap.get?_push_of_some _ e))
      · cases r₂ with
        | error e => exact hr₂
        | ok fl₂ =>
          cases fl₂ with
          | ret r =>
            obtain ⟨rfl, h', tk, rfl, hS', hk'⟩ := hr₂
            repeat (any_goals (first | assumption | wp_step))
            exact h _ _ hS' hk'
          | _ => exact hr₂.elim
    | _ => exact hr.elim
end
section
variable {X : Cx}
def rSetX (K : PySem.W.Frag) (P : Program) (w : World) : List V → Hp → VK → Prop := fun vs H Q => ∃ (a : Addr) (us : List Str), vs = [V.ref a] ∧ SqL K H a (us.map V.str) ∧ us.length ≤ 4000 ∧ ∀ p, H p = none → Q (.ref p) (upd H p (SetXO P w p (onceX us)))
theorem cr_setX (hc : X.calm = true) : CallR X (.type "set") (rSetX X.K X.prog X.w) := by
  intro pins s σ H vs us' Q I r h
  obtain ⟨a, us, rfl, hs, hz, q⟩ := h
  obtain ⟨its, rv, hl, _⟩ := I.list hs
  rw [Vals.ref1 r]
  refine call_set_texts (I.ok.hd hc) hl.isList (by simpa using rv.strs) (by show us.length + 1 < 4096; omega) fun h' tk hS hk => ?_
  exact ⟨.ref _, upd H s.heap.objs.size (SetXO X.prog X.w s.heap.objs.size (onceX us)), I.laid (t' := tk) hk (Nat.le_refl _) (setXO_new hS), rfl, q _ (I.hok.fresh (Nat.le_refl _))⟩
end
end Sw
/-! Set comprehensions of texts. -/
namespace Sw
open PySem PySem.Spec PyProof.Rows L2
/-! ### {text for target in iter if ..} -/
section
variable {P : Program} {w : World} {A : Around} {E : Value → Shared → Prop} {s : Shared} {a : Addr} {ws : List Str}
theorem setX_add {x : Str} {tk : Tok} {Q : Value → Shared → Prop} (R : SetX P w s.heap a ws) (room : ws.length + 1 < scanBound)
    (hQ : ∀ h', Heap.SameBut a s.heap h' → SetX P w h' a (insX ws x) → Q .none { s with heap := h', toks := s.toks + 1 }) :
    wpAny (model P w) A (call (.builtin "set.add") [.ref a, .str x tk]) Q E s := by
  refine wpAny_call_entry F.slot_set_add (R.setOf).typeIs F.entry_set_add ?_ (F.args_set_add_2 _ _)
  unfold Builtin.«set.add» Builtin.Frozenset.oneOther
  simp only [List.isEmpty_nil, bind_assoc]
  unfold Builtin.Frozenset.addrOf setAdd
  refine wpAny_bind (wpAny_pure ?_)
  try dsimp only
  refine wpAny_bind (wpAny_pure ?_)
  try dsimp only
  refine wpAny_bind (wpAny_holding (wpAny_bind ((PySem.strKind P w).pyHash (strKind_is P w x tk) ?_)))
  refine setX_addH (s := { s with toks := s.toks + 1 }) R room fun b h' sb r => ?_
  show wpAny _ _ (ret Value.none) _ _ _
  exact wpAny_pure ⟨_, rfl, hQ h' sb r⟩
end
section
variable {X : Cx}
theorem addX_ok {pins : List (Addr × Obj)} {σ : L2.St} {H : Hp} {s : Shared} {E : Value → Shared → Prop} {D : Addr} {ws : List Str} {x : Str} {tk : Tok} {Q : Value → Shared → Prop} (I : Inv X pins σ H s) (hD : H D = some (SetXO X.prog X.w D ws)) (room : ws.length + 1 < scanBound)
    (h : ∀ s', Inv X pins σ (upd H D (SetXO X.prog X.w D (insX ws x))) s' → Q .none s') : wpAny (model X.prog X.w) X.A (call (.builtin "set.add") [.ref D, .str x tk]) Q E s := by
  refine setX_add (setXO_get I hD) room fun h' sb new => ?_
  exact h _ (I.write (e := D) (t' := s.toks + 1) (by rw [hD]; trivial) (.inl rfl) (fun b u hb hu => (sb.2 b hb).trans hu) new.there (setXO_new new))
/-- D the new set -/
def tScX (P : Program) (w : World) (wi : TI) (g : TG) (tt : TT) (te : TE) (vs : List Nat) : TE := fun σ H Q => wi σ H fun J H1 => ∀ D, H1 D = none → ∃ W : Nat → Nat → Hp → Prop, (∃ m, W 0 m (upd H1 D (SetXO P w D []))) ∧ ∀ i m H, W i m H →
  (J.stop i H ∧ Q (.ref D) H) ∨ (J.go i H ∧ ∃ Nx : Hp → Prop, (∀ H', Nx H' → ∃ m', m' < m ∧ W (i + 1) m' H') ∧ ∀ x H', J.yld i H x H' → g x (wipe σ vs) H' fun σ2 H2 => wipe σ2 vs = wipe σ vs ∧ tt σ2 H2 fun b H3 =>
    if b = true then te σ2 H3 fun y H4 => ∃ (c : Str) (ws : List Str), y = .str c ∧ H4 D = some (SetXO P w D ws) ∧ ws.length + 1 < scanBound ∧ Nx (upd H4 D (SetXO P w D (insX ws c))) else Nx H3)
theorem pe_scX {elt tg iter : Expr} {ifs : List Expr} {scope : Scope} {own : List (PySem.Str × Nat)} {pos : Pos} {wi : TI} {g : TG} {tt : TT} {te : TE} (hc : X.calm = true) (hN : X.N.Nodup) (hi : PI X tg iter wi) (ok : BlkOk X.N X.env.scope scope own)
    (hg : ∀ (s : Shared) (H : Hp) (C : Addr) (cl : List (PySem.Str × Addr)) (fp : List Addr), PG (X.blk s H scope (compEnvC scope cl C X.env) fp) tg g) (ht : ∀ (s : Shared) (H : Hp) (C : Addr) (cl : List (PySem.Str × Addr)) (fp : List Addr), PTs (X.blk s H scope (compEnvC scope cl C X.env) fp) ifs tt)
    (he : ∀ (s : Shared) (H : Hp) (C : Addr) (cl : List (PySem.Str × Addr)) (fp : List Addr), PE (X.blk s H scope (compEnvC scope cl C X.env) fp) elt te) (hs : ∀ x, foldedSetIterable iter X.env x = pure x := by intro _; rfl) :
    PE X (.SetComp elt [⟨tg, iter, ifs, 0⟩] scope pos) (tScX X.prog X.w wi g tt te (own.map (·.2))) := by
  refine ⟨fun pins s σ H Q I h => ?_⟩
  rw [PpSet.eval_SetComp]
  have hfree : ∀ y ∈ scope.names, y.2 = .free → ∃ c, X.env.cells.lookup y.1 = some c := fun y hy e => (ok.free y hy e).elim (fun k => I.ok.has _ (.inl k)) fun k => I.ok.has _ (.inr k)
  refine wpAny_comprehension_free (use := none) rfl hs (closure_ok hfree) ok.kind (fun y hy e => by rw [ok.uniq y hy, e])
    (thn (hi.run pins s σ H _ I h) fun xv s1 hx => thn hx fun itv s2 h2 => ?_)
  obtain ⟨it, fp, tn, J, H2, e, I2, T, st2, f2, q⟩ := h2
  subst e
  refine PpSet.newSet_ok (newEnv_comp ?_)
  generalize hD : s2.heap.objs.size = D
  obtain ⟨W, ⟨m0, w0⟩, turn⟩ := q D (I2.hok.fresh (Nat.le_of_eq hD))
  generalize hs3 : ({ s2 with heap := s2.heap.push { cls := .type "set", dict := none, data := .set #[] 0 (.fresh 0 0 (!X.w.params.followText "set-order")) } } : Shared) = s3
  have h3 : s3.heap = s2.heap.push { cls := .type "set", dict := none, data := .set #[] 0 (.fresh 0 0 (!X.w.params.followText "set-order")) } := by rw [← hs3]
  have I3 : Inv X pins σ (upd H2 D (SetXO X.prog X.w D [])) s3 := by
    rw [← hs3]
    refine I2.laid (t' := s2.toks) (fun b o e => Heap.get?_push_of_some _ e) (Nat.le_of_eq hD) ?_
    rw [← hD]
    exact setXO_new (setX_fresh X.prog X.w)
  have below : ∀ b ∈ fp, b < s2.heap.objs.size := fun b hb => let ⟨o, e, _⟩ := T.obj _ _ st2 b hb; Heap.lt_size e
  have f3 : ∀ b ∈ fp, FpOk X pins (upd H2 D (SetXO X.prog X.w D [])) b ∧ b < s3.heap.objs.size := fun b hb => by
    have hlt := below b hb
    refine ⟨⟨?_, (f2 b hb).2⟩, by rw [h3, Heap.size_push]; exact Nat.lt_succ_of_lt hlt⟩
    rw [upd_ne (by rw [← hD]; exact Nat.ne_of_lt hlt)]
    exact (f2 b hb).1
  have st3 : tn 0 s3.heap := T.keep _ _ _ st2 fun b _ o e => by rw [h3]; exact Heap.get?_push_of_some _ e
  have I4 := block_start I3 ok hN f3
  generalize hCl : cellsFrom (s3.heap.objs.size + 1) scope.names (cloFrom X.env.cells scope.names []) = Cl at I4
  have pg := hg s3 (upd H2 D (SetXO X.prog X.w D [])) s3.heap.objs.size Cl fp
  have pt := ht s3 (upd H2 D (SetXO X.prog X.w D [])) s3.heap.objs.size Cl fp
  have pe := he s3 (upd H2 D (SetXO X.prog X.w D [])) s3.heap.objs.size Cl fp
  show codeAny _ _ (.compStart (.SetComp elt [⟨tg, iter, ifs, 0⟩] scope pos) 0 (.ref it) (.ref D) (compEnvC scope Cl s3.heap.objs.size X.env)) (compPost (model X.prog X.w) X.A X.xe none _ (.ref D) s3.heap.objs.size) { s3 with heap := pushCells (s3.heap.push { cls := .type "dict", data := .dict #[] }) scope.names }
  have nfp : ∀ b ∈ fp, (upd H2 D (SetXO X.prog X.w D [])) b = none := fun b hb => (f3 b hb).1.1
  generalize hce : compEnvC scope Cl s3.heap.objs.size X.env = ce at I4 pg pt pe ⊢
  have cL : ce.locals = s3.heap.objs.size := by subst hce; rfl
  generalize hH3 : upd H2 D (SetXO X.prog X.w D []) = H3 at I3 I4 pg pt pe w0 nfp f3
  generalize hs4 : ({ s3 with heap := pushCells (s3.heap.push { cls := .type "dict", data := .dict #[] }) scope.names } : Shared) = s4 at I4 ⊢
  have st4 : tn 0 s4.heap := T.keep _ _ _ st3 fun b _ o e => by rw [← hs4]; exact pushCells_keeps _ _ _ _ (Heap.get?_push_of_some _ e)
  have stat : ∀ {σ' : L2.St} {H' : Hp} {s' : Shared}, Inv (X.blk s3 H3 scope ce fp) [] σ' H' s' → (∀ b ∈ fp, H' b = none) → ∀ b ∈ fp, FpOk (X.blk s3 H3 scope ce fp) [] H' b := fun {σ' H' s'} I' hn b hb =>
    ⟨hn b hb, (I'.ok.exf b hb).1, I'.ok.exfs b hb, .inl hb, fun x c e => (I'.ok.exf b hb).2 x c e, fun p hp => absurd (show p ∈ ([] : List (Addr × Obj)) ++ [] from hp) (by simp)⟩
  refine PpSet.codeAny_compStart_set ?loop (T.self X.A 0 _ _ _ st4 ?loop)
  case loop =>
    refine PpSet.compLoopS_any (fun n s' => ∃ i H', Inv (X.blk s3 H3 scope ce fp) [] (wipe σ (own.map (·.2))) H' s' ∧ tn i s'.heap ∧ (∀ b ∈ fp, H' b = none) ∧ W i n H') ?_ m0 ⟨0, H3, I4, st4, nfp, w0⟩
    rintro n s5 ⟨i, H5, I5, st5, n5, w5⟩
    rcases turn i n H5 w5 with ⟨stop, qq⟩ | ⟨go, Nx, hNx, step⟩
    · refine thnF (T.done (X.blk s3 H3 scope ce fp) rfl rfl rfl hc i [] s5 _ H5 (fun _ _ => False) I5 (stat I5 n5) st5 stop) fun r s6 ⟨hr, I6⟩ => ?_
      subst hr
      have I7 : Inv X pins σ H5 s6 := I3.call' (ch := fp) I6.os I6.base I6.hok I6.bare fun b hb => ⟨(f3 b hb).1.2.2.2.1, (f3 b hb).1.2.1, (f3 b hb).1.2.2.2.2.1, (f3 b hb).1.2.2.2.2.2⟩
      have nC : H5 s3.heap.objs.size = none := cL ▸ I6.free
      obtain ⟨m, hn, _⟩ := I6.loc
      have hn : s6.heap.Ns s3.heap.objs.size m := cL ▸ hn
      obtain ⟨f0, f1, f2', f3', f4, f5⟩ := I3.fpOk (Nat.le_refl _) nC
      exact ⟨m, hn, fun h'' sb => ⟨.ref D, H5, I7.turned (t' := s6.toks) (fun b o hb e => (sb.2 b hb).trans e) f0 f1 f3' f4 f5, rfl, qq⟩⟩
    · refine thnF (T.item (X.blk s3 H3 scope ce fp) rfl rfl rfl hc i [] s5 _ H5 (fun _ _ => False) I5 (stat I5 n5) st5 go) fun r s6 ⟨u, hr, h6⟩ => ?_
      subst hr
      refine thnF h6 fun _ s7 ⟨x, H7, I7, r7, y7, st7, n7⟩ => ?_
      refine thnF (pg.run _ s7 _ H7 x u _ (I7.pinned (stat I7 n7) (T.obj _ _ st7)) r7 (step x H7 y7)) fun _ s8 ⟨σ8, H8, I8, hw8, q8⟩ => ?_
      refine thnF (pt.run _ s8 σ8 H8 _ I8 q8) fun b s9 ⟨H9, I9, q9⟩ => ?_
      have fin : ∀ {s' : Shared} {H' : Hp}, Inv (X.blk s3 H3 scope ce fp) ([] ++ pinsAt fp s7.heap) σ8 H' s' → Nx H' → ∃ m, m < n ∧ ∃ i H', Inv (X.blk s3 H3 scope ce fp) [] (wipe σ (own.map (·.2))) H' s' ∧ tn i s'.heap ∧ (∀ b ∈ fp, H' b = none) ∧ W i m H' := fun {s' H'} I' nx => by
        obtain ⟨m', hm, w'⟩ := hNx H' nx
        have pin' : ∀ b ∈ fp, ∀ o, s7.heap.get? b = some o → s'.heap.get? b = some o ∧ H' b = none := fun b hb o e =>
          let z := I'.pin (b, o) (List.mem_append_right _ (List.mem_append_right _ (mem_pinsAt hb e)))
          ⟨z.1, z.2.1⟩
        have hl : (wipe σ (own.map (·.2))).length = σ8.length := by rw [← hw8, wipe_length]
        refine ⟨m', hm, i + 1, H', (I'.unpinned (pins := [])).weak hl (fun j v e => ?_), T.keep _ _ _ st7 fun b hb o e => (pin' b hb o e).1, fun b hb => ?_, w'⟩
        · rw [← hw8] at e
          exact (wipe_some e).1
        · obtain ⟨o, e, _⟩ := T.obj _ _ st7 b hb
          exact (pin' b hb o e).2
      cases b with
      | false =>
        simp only [Bool.false_eq_true, if_false] at q9 ⊢
        exact fin I9 q9
      | true =>
        simp only [if_true] at q9 ⊢
        refine thnF (pe.run _ s9 σ8 H9 _ I9 q9) fun z s10 ⟨yv, H10, I10, r10, c, ws, ey, hD10, room, nx⟩ => ?_
        subst ey
        obtain ⟨tk, rfl⟩ : ∃ tk, z = Value.str c tk := r10
        exact addX_ok (X := X.blk s3 H3 scope ce fp) I10 hD10 room fun s11 I11 => fin I11 nx
end
end Sw
/-! Words from which no deed leads to another one. -/
namespace Sw
open PySem PySem.Spec PyProof.Rows L2
/-- every deed at a letter of js leaves the word as it is -/
def Lone (w js : List Nat) : Prop := ∀ p c, w[p]? = some c → c ∈ js → swapL w p = w
/-- the joints that stand in the word -/
def kindsL (w js : List Nat) : List Nat := js.filter fun c => decide (c ∈ w)
theorem lone_still {js w v : List Nat} (h : Lone w js) (r : Reach js w v) : v = w := by
  induction r with
  | refl => rfl
  | step _ e hc ih => subst ih; exact h _ _ e hc
theorem cnt_range (x : Nat) : ∀ l : List Nat, ((List.range l.length).filter fun p => decide (l[p]? = some x)).length = l.count x
  | [] => rfl
  | c :: r => by
    rw [List.length_cons, List.range_succ_eq_map, List.filter_cons, List.filter_map, List.count_cons, ← cnt_range x r]
    have e : (fun p => decide ((c :: r)[p]? = some x)) ∘ Nat.succ = fun p => decide (r[p]? = some x) := by funext p; simp
    rw [e]
    by_cases z : c = x
    · subst z; simp
    · simp [z]
theorem filter_eq_of {α : Type} {p q : α → Bool} : ∀ {l : List α}, (∀ x ∈ l, p x = true → q x = true) → (l.filter p).length = (l.filter q).length → ∀ x ∈ l, q x = true → p x = true
  | [], _, _, x, hx, _ => nomatch hx
  | a :: l, h, e, x, hx, hq => by
    have hl : ∀ x ∈ l, p x = true → q x = true := fun x hx => h x (List.mem_cons_of_mem _ hx)
    have le : ∀ l : List α, (∀ x ∈ l, p x = true → q x = true) → (l.filter p).length ≤ (l.filter q).length := fun l => by
      induction l with
      | nil => intro _; exact Nat.le_refl _
      | cons b r ih =>
        intro h
        have h2 := ih fun x hx => h x (List.mem_cons_of_mem _ hx)
        rw [List.filter_cons, List.filter_cons]
        by_cases z : p b = true
        · rw [if_pos z, if_pos (h b List.mem_cons_self z)]; simp only [List.length_cons]; omega
        · rw [if_neg z]
          split
          · simp only [List.length_cons]; omega
          · exact h2
    have h2 := le l hl
    rw [List.filter_cons, List.filter_cons] at e
    by_cases z : p a = true
    · rw [if_pos z, if_pos (h a List.mem_cons_self z)] at e
      simp only [List.length_cons] at e
      rcases List.mem_cons.mp hx with g | g
      · rw [g]; exact z
      · exact filter_eq_of hl (by omega) x g hq
    · rw [if_neg z] at e
      by_cases y : q a = true
      · rw [if_pos y] at e
        simp only [List.length_cons] at e
        omega
      · rw [if_neg y] at e
        rcases List.mem_cons.mp hx with g | g
        · rw [g] at hq; exact absurd hq y
        · exact filter_eq_of hl e x g hq
/-- turnings that may keep the ring: those behind a star -/
def behindB (r : List Nat) (i : Nat) : Bool := decide (i = 0) || decide (r[i - 1]? = some 42)
theorem ring_at {w js : List Nat} (hw : ¬ 42 ∈ w) {p : Nat} (hp : p < w.length) : (ringL w js)[p]? = some 42 ↔ ∃ c, w[p]? = some c ∧ c ∈ js := by
  unfold ringL
  rw [List.getElem?_append_left (by rw [star_len]; exact hp)]
  unfold starL
  rw [List.getElem?_map, List.getElem?_eq_getElem hp]
  have hm := List.getElem_mem hp
  generalize w[p] = c at hm
  simp only [Option.map_some, Option.some.injEq, exists_eq_left']
  by_cases z : c ∈ js
  · simp [z]
  · rw [if_neg z]
    exact ⟨fun e => absurd (e ▸ hm) hw, fun h => absurd h z⟩
theorem keep_behind {w js : List Nat} {i : Nat} (hi : i < (ringL w js).length) (h : rotL (ringL w js) i = ringL w js) : behindB (ringL w js) i = true := by
  unfold behindB
  by_cases z : i = 0
  · simp [z]
  · have hl := ring_len w js
    have e := rot_get (r := ringL w js) (i := i) (j := w.length) (by omega) (by omega)
    rw [h, hl, show (i + w.length) % (w.length + 1) = i - 1 by
      rw [show i + w.length = (i - 1) + (w.length + 1) by omega, Nat.add_mod_right]
      exact Nat.mod_eq_of_lt (by omega)] at e
    have e2 : (ringL w js)[w.length]? = some 42 := by
      unfold ringL
      rw [List.getElem?_append_right (by rw [star_len]; exact Nat.le_refl _), star_len, Nat.sub_self]; rfl
    rw [e2] at e
    simp [z, ← e]
theorem behind_count (w js : List Nat) : ((List.range (ringL w js).length).filter (behindB (ringL w js))).length = (ringL w js).count 42 := by
  have hl := ring_len w js
  rw [hl, List.range_succ_eq_map, List.filter_cons]
  have e0 : behindB (ringL w js) 0 = true := by unfold behindB; simp
  rw [if_pos e0, List.filter_map]
  have e : (behindB (ringL w js)) ∘ Nat.succ = fun p => decide ((ringL w js)[p]? = some 42) := by
    funext p
    unfold behindB
    simp
  rw [e]
  have e2 : ((List.range w.length).filter fun p => decide ((ringL w js)[p]? = some 42)) = (List.range (starL w js).length).filter fun p => decide ((starL w js)[p]? = some 42) := by
    rw [star_len]
    refine List.filter_congr fun p hp => ?_
    rw [List.mem_range] at hp
    unfold ringL
    rw [List.getElem?_append_left (by rw [star_len]; exact hp)]
  rw [List.length_cons, List.length_map, e2, cnt_range]
  unfold ringL
  rw [List.count_append]
  rfl
theorem keep_all {w js : List Nat} : keepN (ringL w js) = (ringL w js).count 42 ↔ ∀ i, i < (ringL w js).length → behindB (ringL w js) i = true → rotL (ringL w js) i = ringL w js := by
  rw [keep_filter, ← behind_count]
  have sub : ∀ x ∈ List.range (ringL w js).length, decide (rotL (ringL w js) x = ringL w js) = true → behindB (ringL w js) x = true := fun x hx h => keep_behind (List.mem_range.mp hx) (of_decide_eq_true h)
  constructor
  · intro e i hi hb
    exact of_decide_eq_true (filter_eq_of sub e i (List.mem_range.mpr hi) hb)
  · intro h
    have e : ((List.range (ringL w js).length).filter fun i => decide (rotL (ringL w js) i = ringL w js)) = (List.range (ringL w js).length).filter (behindB (ringL w js)) := by
      refine List.filter_congr fun i hi => ?_
      by_cases z : behindB (ringL w js) i = true
      · rw [z]; exact decide_eq_true (h i (List.mem_range.mp hi) z)
      · rw [Bool.eq_false_iff.mpr z]
        exact decide_eq_false fun q => z (keep_behind (List.mem_range.mp hi) q)
    rw [e]
theorem kinds_two {l : List Nat} (nd : l.Nodup) (h0 : l ≠ []) (h1 : ∀ x, l ≠ [x]) : ∃ x ∈ l, ∃ y ∈ l, x ≠ y := by
  match l, nd, h0, h1 with
  | [], _, h0, _ => exact absurd rfl h0
  | [x], _, _, h1 => exact absurd rfl (h1 x)
  | x :: y :: r, nd, _, _ =>
    refine ⟨x, by simp, y, by simp, fun e => ?_⟩
    exact (List.nodup_cons.mp nd).1 (by rw [e]; exact List.mem_cons_self)
theorem two_split : ∀ {w : List Nat} {x y : Nat}, x ∈ w → y ∈ w → x ≠ y → (∃ A B C, w = A ++ x :: (B ++ y :: C)) ∨ ∃ A B C, w = A ++ y :: (B ++ x :: C) := by
  intro w x y hx hy hne
  obtain ⟨A, D, rfl⟩ := List.append_of_mem hx
  rcases List.mem_append.mp hy with h | h
  · obtain ⟨B, C, rfl⟩ := List.append_of_mem h
    exact .inr ⟨B, C, D, by simp⟩
  · rcases List.mem_cons.mp h with h | h
    · exact absurd h.symm hne
    · obtain ⟨B, C, rfl⟩ := List.append_of_mem h
      exact .inl ⟨A, B, C, rfl⟩
theorem lone_iff {w js : List Nat} (hw : wordB w = true) (nd : js.Nodup) : Lone w js ↔ kindsL w js = [] ∨ ((∃ x, kindsL w js = [x]) ∧ keepN (ringL w js) = (ringL w js).count 42) := by
  have h42 := word_star hw
  constructor
  · intro h
    by_cases h0 : kindsL w js = []
    · exact .inl h0
    · refine .inr ⟨?_, keep_all.mpr fun i hi hb => ?_⟩
      · refine Classical.byContradiction fun q => ?_
        obtain ⟨x, hx, y, hy, hne⟩ := kinds_two (nd.sublist List.filter_sublist) h0 fun x e => q ⟨x, e⟩
        obtain ⟨x1, x2⟩ := List.mem_filter.mp hx
        obtain ⟨y1, y2⟩ := List.mem_filter.mp hy
        have swp : ∀ {a b : Nat} {A B C : List Nat}, a ∈ js → b ∈ js → w = A ++ a :: (B ++ b :: C) → a = b := fun {a b A B C} ha hb e => by
          have r := exch (js := js) (A := A) (B := B) (C := C) hb ha
          rw [← e] at r
          have e2 := lone_still h r
          rw [e] at e2
          have e3 := List.append_cancel_left e2
          injection e3 with e4 _
          exact e4.symm
        rcases two_split (of_decide_eq_true x2) (of_decide_eq_true y2) hne with ⟨A, B, C, e⟩ | ⟨A, B, C, e⟩
        · exact hne (swp x1 y1 e)
        · exact hne (swp y1 x1 e).symm
      · unfold behindB at hb
        rw [Bool.or_eq_true] at hb
        by_cases z : i = 0
        · rw [z]; exact rot_zero _
        · have hb2 := of_decide_eq_true (hb.resolve_left fun q => z (of_decide_eq_true q))
          rw [ring_len] at hi
          obtain ⟨c, hc, hj⟩ := (ring_at h42 (show i - 1 < w.length by omega)).mp hb2
          have e := ring_swap hc hj
          rw [h _ _ hc hj, show i - 1 + 1 = i by omega] at e
          exact e.symm
  · intro h p c hc hj
    have hp : p < w.length := (List.getElem?_eq_some_iff.mp hc).1
    have hcw := List.mem_of_getElem? hc
    rcases h with h | ⟨⟨x, hx⟩, hk⟩
    · have : c ∈ kindsL w js := List.mem_filter.mpr ⟨hj, decide_eq_true hcw⟩
      rw [h] at this
      cases this
    · have hr := keep_all.mp hk (p + 1) (by rw [ring_len]; omega) (by
        unfold behindB
        rw [Bool.or_eq_true]
        exact .inr (decide_eq_true ((ring_at h42 hp).mpr ⟨c, hc, hj⟩)))
      have e := ring_swap hc hj
      rw [hr] at e
      have es : starL (swapL w p) js = starL w js := List.append_cancel_right e
      have allx : ∀ v : List Nat, (∀ d ∈ v, d ∈ w) → ∀ d ∈ v.filter fun c => decide (c ∈ js), d = x := fun v hv d hd => by
        obtain ⟨d1, d2⟩ := List.mem_filter.mp hd
        have : d ∈ kindsL w js := List.mem_filter.mpr ⟨of_decide_eq_true d2, decide_eq_true (hv d d1)⟩
        rw [hx] at this
        exact List.mem_singleton.mp this
      have h42' : ¬ 42 ∈ swapL w p := fun z => h42 (swapL_mem z)
      have eh : ((swapL w p).filter fun c => decide (c ∈ js)) = w.filter fun c => decide (c ∈ js) := by
        have a1 := List.eq_replicate_iff.mpr ⟨rfl, allx (swapL w p) fun d hd => swapL_mem hd⟩
        have a2 := List.eq_replicate_iff.mpr ⟨rfl, allx w fun d hd => hd⟩
        rw [a1, a2, ← star_count h42', ← star_count h42, es]
      have f1 := fill_star (js := js) h42'
      have f2 := fill_star (js := js) h42
      rw [es, eh, f2] at f1
      exact f1.symm
end Sw
namespace Sw
open PySem PySem.Spec PyProof.Rows L2
/-- the words that one deed makes -/
def deedsL (w js : List Nat) : List (List Nat) := (openL w js).map fun p => swapL w p
theorem lone_deeds {w js : List Nat} : Lone w js ↔ ∀ v ∈ deedsL w js, v = w := by
  unfold deedsL
  constructor
  · intro h v hv
    obtain ⟨p, hp, rfl⟩ := List.mem_map.mp hv
    obtain ⟨c, hc, hj⟩ := mem_openL hp
    exact h p c hc hj
  · intro h p c hc hj
    exact h _ (List.mem_map.mpr ⟨p, openL_mem hc hj, rfl⟩)
theorem ins_words (ws : List (List Nat)) (x : List Nat) : insX (ws.map S) (S x) = (if x ∈ ws then ws else ws ++ [x]).map S := by
  unfold insX
  by_cases z : x ∈ ws
  · rw [if_pos z, if_pos (List.mem_map.mpr ⟨x, z, rfl⟩)]
  · rw [if_neg z, if_neg (fun q => by obtain ⟨y, hy, e⟩ := List.mem_map.mp q; exact z (SX.S_inj e ▸ hy)), List.map_append]; rfl
/-- a list without doubles with just these members, of words -/
theorem once_words (ws : List (List Nat)) {us : List Str} (h : us.Perm (onceX (ws.map S))) : ∃ vs : List (List Nat), us = vs.map S ∧ vs.Nodup ∧ ∀ v, v ∈ vs ↔ v ∈ ws := by
  have hm : ∀ y, y ∈ us ↔ y ∈ ws.map S := fun y => by rw [h.mem_iff, once_mem]
  have nd : us.Nodup := h.nodup_iff.mpr (once_nd _)
  have all : ∀ l : List Str, (∀ y ∈ l, y ∈ ws.map S) → ∃ vs : List (List Nat), l = vs.map S := fun l => by
    induction l with
    | nil => exact fun _ => ⟨[], rfl⟩
    | cons y r ih =>
      intro hy
      obtain ⟨vs, e⟩ := ih fun z hz => hy z (List.mem_cons_of_mem _ hz)
      obtain ⟨v, _, ev⟩ := List.mem_map.mp (hy y List.mem_cons_self)
      exact ⟨v :: vs, by rw [List.map_cons, ev, ← e]⟩
  obtain ⟨vs, rfl⟩ := all us fun y hy => (hm y).mp hy
  refine ⟨vs, rfl, ?_, fun v => ?_⟩
  · exact List.Pairwise.of_map S (fun a b hne e => hne (congrArg S e)) nd
  · constructor
    · intro hv
      obtain ⟨u, hu, e⟩ := List.mem_map.mp ((hm (S v)).mp (List.mem_map.mpr ⟨v, hv, rfl⟩))
      exact SX.S_inj e ▸ hu
    · intro hv
      obtain ⟨u, hu, e⟩ := List.mem_map.mp ((hm (S v)).mpr (List.mem_map.mpr ⟨v, hv, rfl⟩))
      exact SX.S_inj e ▸ hu
/-- nothing but the word itself -/
theorem lone_list {w js : List Nat} {vs : List (List Nat)} (nd : vs.Nodup) (hm : ∀ v, v ∈ vs ↔ v ∈ deedsL w js) : Lone w js ↔ vs = [] ∨ vs = [w] := by
  rw [lone_deeds]
  constructor
  · intro h
    match vs, nd, hm with
    | [], _, _ => exact .inl rfl
    | [v], _, hm => exact .inr (by rw [h v ((hm v).mp (by simp))])
    | u :: v :: r, nd, hm =>
      have e1 := h u ((hm u).mp (by simp))
      have e2 := h v ((hm v).mp (by simp))
      exact absurd (by rw [e1, e2]; exact List.mem_cons_self) (List.nodup_cons.mp nd).1
  · rintro (rfl | rfl) v hv
    · exact absurd ((hm v).mpr hv) (by simp)
    · exact List.mem_singleton.mp ((hm v).mpr hv)
end Sw
namespace Sw
open PySem PySem.Spec PyProof.Rows L2
/-- x in a list or a tuple, both data -/
def rInD (K : PySem.W.Frag) : R2 := fun x y H Q => ∃ (d e : PyData) (xs : List PyData), Dp K H x d ∧ Dp K H y e ∧ (e = .list xs ∨ e = .tuple xs) ∧ PyData.plainAll xs = true ∧ d.plain = true ∧ d.depth ≤ 60 ∧ Q (.bl (xs.any fun y => PyData.eqv y d)) H
theorem op_inD {X : Cx} (hu : X.A.units + 64 < cLine) : OpR X (compareOp .In) (rInD X.K) := by
  intro pins s σ H x y v u Q I rx ry h
  obtain ⟨d, e, xs, hd, he, hk, px, pd, dd, q⟩ := h
  obtain ⟨as, r1⟩ := Dp.reads I d x v hd rx
  obtain ⟨bs, r2⟩ := Dp.reads I e y u he ry
  rcases hk with rfl | rfl
  · exact PySem.SeqAt.in_list_data r2 r1 px pd (by omega) ⟨.bl _, H, I, rfl, q⟩
  · exact PySem.SeqAt.in_tuple_data r2 r1 px pd (by omega) ⟨.bl _, H, I, rfl, q⟩
end Sw
namespace Sw
open PySem PySem.Spec PyProof.Rows L2
/-- the list of one deed: each word once, in order -/
structure DeedsOf (l js : List Nat) (ws : List (List Nat)) : Prop where
  nd : ws.Nodup
  mem : ∀ v, v ∈ ws ↔ v ∈ deedsL l js
  srt : sortedS (ws.map S) = true
/-- walking a set comprehension -/
theorem sc_itS {P : Program} {w : World} {J : It} {n : Nat} {G : Hp → Prop} {Y : Nat → Hp → V → Hp → Prop} (wk : L2.Walk J n G Y) {g : TG} {tt : TT} {te : TE} {vs : List Nat} {σ : L2.St} {H1 : Hp} {D : Addr} {Qd : Hp → Prop} (Pv : Nat → Hp → Prop) (h0 : Pv 0 (L2.upd H1 D (SetXO P w D []))) (hG : ∀ i H, i ≤ n → Pv i H → G H)
    (hs : ∀ i x H H', i < n → Pv i H → Y i H x H' → g x (wipe σ vs) H' fun σ2 H2 => wipe σ2 vs = wipe σ vs ∧ tt σ2 H2 fun b H3 => if b = true then te σ2 H3 fun y H4 => ∃ (c : Str) (ws : List Str), y = .str c ∧ H4 D = some (SetXO P w D ws) ∧ ws.length + 1 < scanBound ∧ Pv (i + 1) (L2.upd H4 D (SetXO P w D (insX ws c))) else Pv (i + 1) H3)
    (hd : ∀ H, Pv n H → Qd H) :
    ∃ W : Nat → Nat → Hp → Prop, (∃ m, W 0 m (L2.upd H1 D (SetXO P w D []))) ∧ ∀ i m H, W i m H → (J.stop i H ∧ Qd H) ∨ (J.go i H ∧ ∃ Nx : Hp → Prop, (∀ H', Nx H' → ∃ m', m' < m ∧ W (i + 1) m' H') ∧ ∀ x H', J.yld i H x H' → g x (wipe σ vs) H' fun σ2 H2 => wipe σ2 vs = wipe σ vs ∧ tt σ2 H2 fun b H3 =>
      if b = true then te σ2 H3 fun y H4 => ∃ (c : Str) (ws : List Str), y = .str c ∧ H4 D = some (SetXO P w D ws) ∧ ws.length + 1 < scanBound ∧ Nx (L2.upd H4 D (SetXO P w D (insX ws c))) else Nx H3) := by
  refine ⟨fun j left E => left = n - j ∧ (j ≤ n ∧ Pv j E), ⟨n, by omega, by omega, h0⟩, ?_⟩
  rintro j left E ⟨rfl, hj, p⟩
  by_cases hlt : j < n
  · exact .inr ⟨wk.goes j E hlt (hG j E hj p), Pv (j + 1), fun H' p' => ⟨n - (j + 1), by omega, rfl, by omega, p'⟩, fun x H' y => hs j x E H' hlt p (wk.yields j E x H' hlt (hG j E hj p) y)⟩
  · obtain rfl : j = n := by omega
    exact .inl ⟨wk.stops E (hG j E hj p), hd E p⟩
end Sw
namespace Sw
open PySem PySem.Spec PyProof.Rows L2
theorem words_depth1 : ∀ ws : List (List Nat), PyData.depthAll (wordsD ws) = 0
  | [] => rfl
  | w :: r => by
    show max (PyData.depth (.str (S w))) (PyData.depthAll (wordsD r)) = 0
    rw [words_depth1 r]; rfl
theorem words_depthL1 (ws : List (List Nat)) : (PyData.list (wordsD ws)).depth ≤ 1 := by
  show PyData.depthAll (wordsD ws) + 1 ≤ 1
  rw [words_depth1]; decide
/-- the keys in the order in which they are met first -/
def firstK (ws : List (List Nat)) (B : List Nat) : Nat → List (List Key)
  | 0 => []
  | i + 1 => if ∃ k ∈ firstK ws B i, k = keyO B (wat ws i) then firstK ws B i else firstK ws B i ++ [keyO B (wat ws i)]
/-- the numbers by their classes -/
def groupsL (ws : List (List Nat)) (B : List Nat) : List (List Nat) := (firstK ws B ws.length).map fun k => upTo ws B k ws.length
/-- lists of numbers, new ones -/
structure ListsAt (H H' : Hp) (as : List Addr) (gs : List (List Nat)) : Prop where
  len : as.length = gs.length
  at' : ∀ (i : Nat) (b : Addr) (g : List Nat), as[i]? = some b → gs[i]? = some g → H b = none ∧ H' b = some (.lst (placesV g))
  nd : as.Nodup
theorem ListsAt.back {H0 H H' : Hp} {as : List Addr} {gs : List (List Nat)} (L : ListsAt H H' as gs) (s : Same H0 H) : ListsAt H0 H' as gs := ⟨L.len, fun i b g h1 h2 => ⟨s.free (L.at' i b g h1 h2).1, (L.at' i b g h1 h2).2⟩, L.nd⟩
theorem ListsAt.same {H H' H2 : Hp} {as : List Addr} {gs : List (List Nat)} (L : ListsAt H H' as gs) (s : Same H' H2) : ListsAt H H2 as gs := ⟨L.len, fun i b g h1 h2 => ⟨(L.at' i b g h1 h2).1, s _ _ (L.at' i b g h1 h2).2⟩, L.nd⟩
structure GrpO (ws : List (List Nat)) (B : List Nat) (H0 H : Hp) (F : Addr) (ks : List (List Key × Addr)) (i : Nat) : Prop extends Grp ws B H0 H F ks i where
  ord : ks.map (·.1) = firstK ws B i
theorem GrpO.start {ws : List (List Nat)} {B : List Nat} {H0 H : Hp} {F : Addr} (s : Same H0 H) (h : H F = some (.dT [])) (f0 : H0 F = none) : GrpO ws B H0 H F [] 0 := ⟨Grp.start s h f0, rfl⟩
theorem GrpO.same {ws : List (List Nat)} {B : List Nat} {H0 H H' : Hp} {F : Addr} {ks : List (List Key × Addr)} {i : Nat} (G : GrpO ws B H0 H F ks i) (s : Same H H') : GrpO ws B H0 H' F ks i := ⟨G.toGrp.same s, G.ord⟩
theorem GrpO.old {ws : List (List Nat)} {B : List Nat} {H0 H : Hp} {F : Addr} {ks : List (List Key × Addr)} {i : Nat} {e : List Key × Addr} (G : GrpO ws B H0 H F ks i) (he : e ∈ ks) (hk : e.1 = keyO B (wat ws i)) :
    GrpO ws B H0 (upd H e.2 (.lst (placesV (upTo ws B e.1 i) ++ [V.int (i : Nat)]))) F ks (i + 1) := ⟨G.toGrp.old he hk, by
  show _ = if _ then _ else _
  rw [if_pos (by rw [← G.ord]; exact ⟨e.1, List.mem_map.mpr ⟨e, he, rfl⟩, hk⟩)]
  exact G.ord⟩
theorem GrpO.new {ws : List (List Nat)} {B : List Nat} {H0 H : Hp} {F E : Addr} {ks : List (List Key × Addr)} {i : Nat} (G : GrpO ws B H0 H F ks i) (hn : ∀ e ∈ ks, e.1 ≠ keyO B (wat ws i)) (h0 : H0 E = none) (hF : E ≠ F) (hE : ∀ e ∈ ks, e.2 ≠ E) :
    GrpO ws B H0 (upd (upd H F (.dT ((ks ++ [(keyO B (wat ws i), E)]).map fun e => (e.1, V.ref e.2)))) E (.lst ([] ++ [V.int (i : Nat)]))) F (ks ++ [(keyO B (wat ws i), E)]) (i + 1) := ⟨G.toGrp.new hn h0 hF hE, by
  show _ = if _ then _ else _
  rw [if_neg (fun q => by rw [← G.ord] at q; obtain ⟨k, hk, e3⟩ := q; obtain ⟨e, he, e2⟩ := List.mem_map.mp hk; exact hn e he (e2.trans e3)), List.map_append, G.ord]
  rfl⟩
theorem GrpO.lists {ws : List (List Nat)} {B : List Nat} {H0 H : Hp} {F : Addr} {ks : List (List Key × Addr)} (G : GrpO ws B H0 H F ks ws.length) : ListsAt H0 H (ks.map (·.2)) (groupsL ws B) where
  len := by
    unfold groupsL
    rw [← G.ord]
    simp
  at' := fun i b g h1 h2 => by
    unfold groupsL at h2
    rw [← G.ord, List.map_map, List.getElem?_map] at h2
    rw [List.getElem?_map] at h1
    obtain ⟨e, he, rfl⟩ := Option.map_eq_some_iff.mp h1
    rw [he] at h2
    cases h2
    have q := G.each e (List.mem_of_getElem? he)
    exact ⟨q.1, q.2.2⟩
  nd := G.nda
end Sw
namespace Sw
open PySem PySem.Spec PyProof.Rows L2
/-! ### how many orders a word has -/
def insAll (c : Nat) : List Nat → List (List Nat)
  | [] => [[c]]
  | x :: r => (c :: x :: r) :: (insAll c r).map (x :: ·)
def permsL : List Nat → List (List Nat)
  | [] => [[]]
  | c :: r => (permsL r).flatMap (insAll c)
def factN : Nat → Nat
  | 0 => 1
  | n + 1 => factN n * (n + 1)
theorem insAll_len (c : Nat) : ∀ l, (insAll c l).length = l.length + 1
  | [] => rfl
  | x :: r => by
    show ((insAll c r).map (x :: ·)).length + 1 = _
    rw [List.length_map, insAll_len c r]; rfl
theorem mem_insAll (c : Nat) : ∀ A B, A ++ c :: B ∈ insAll c (A ++ B)
  | [], [] => by simp [insAll]
  | [], x :: r => by simp [insAll]
  | a :: A, B => by
    show a :: (A ++ c :: B) ∈ (c :: a :: (A ++ B)) :: (insAll c (A ++ B)).map (a :: ·)
    exact List.mem_cons_of_mem _ (List.mem_map.mpr ⟨_, mem_insAll c A B, rfl⟩)
theorem perm_mem : ∀ {w v : List Nat}, v.Perm w → v ∈ permsL w
  | [], v, h => by rw [List.Perm.eq_nil h]; simp [permsL]
  | c :: r, v, h => by
    obtain ⟨A, B, rfl⟩ := List.append_of_mem (h.mem_iff.mpr List.mem_cons_self)
    have h2 : (A ++ B).Perm r := (List.perm_middle.symm.trans h).cons_inv
    exact List.mem_flatMap.mpr ⟨_, perm_mem h2, mem_insAll c A B⟩
theorem permsL_mem : ∀ {w v : List Nat}, v ∈ permsL w → v.length = w.length
  | [], v, h => by rw [List.mem_singleton.mp h]
  | c :: r, v, h => by
    obtain ⟨u, hu, hv⟩ := List.mem_flatMap.mp h
    have e := permsL_mem hu
    have : ∀ (l v : List Nat), v ∈ insAll c l → v.length = l.length + 1 := fun l => by
      induction l with
      | nil => intro v hv; rw [List.mem_singleton.mp hv]; rfl
      | cons x r ih =>
        intro v hv
        rcases List.mem_cons.mp hv with g | g
        · rw [g]; simp
        · obtain ⟨z, hz, rfl⟩ := List.mem_map.mp g
          simp [ih z hz]
    rw [this u v hv, e]; rfl
theorem permsL_len : ∀ w : List Nat, (permsL w).length = factN w.length
  | [] => rfl
  | c :: r => by
    show ((permsL r).flatMap (insAll c)).length = _
    rw [List.length_flatMap]
    have e : ((permsL r).map fun l => (insAll c l).length) = (permsL r).map fun _ => r.length + 1 := List.map_congr_left fun l hl => by rw [insAll_len, permsL_mem hl]
    rw [e, List.map_const', List.sum_replicate_nat, permsL_len r]
    rfl
theorem Srch.len6 {B w : List Nat} {us st ex : List (List Nat)} {i : Nat} (h : Srch B w us st i ex) (hw : w.length ≤ 6) : us.length ≤ 3125 := by
  have h1 := few_of_nodup (b := permsL w) h.nd fun v hv => perm_mem (h.reach v hv).perm
  rw [permsL_len] at h1
  have h2 : factN w.length ≤ 720 := by
    have h3 : w.length = 0 ∨ w.length = 1 ∨ w.length = 2 ∨ w.length = 3 ∨ w.length = 4 ∨ w.length = 5 ∨ w.length = 6 := by omega
    rcases h3 with e | e | e | e | e | e | e <;> (rw [e]; decide)
  omega
/-- the search tells one word exactly if no deed leads to another one -/
theorem lone_reach {w js : List Nat} {ws : List (List Nat)} (nd : ws.Nodup) (h : ∀ v, v ∈ ws ↔ Reach js w v) : ws.length = 1 ↔ Lone w js := by
  have h0 : w ∈ ws := (h w).mpr .refl
  constructor
  · intro e p c hc hj
    match ws, e, h0, h with
    | [x], _, h0, h =>
      have e1 := List.mem_singleton.mp h0
      have := (h (swapL w p)).mpr (.step .refl hc hj)
      rw [← e1] at this
      exact List.mem_singleton.mp this
  · intro hl
    match ws, nd, h0, h with
    | [x], _, _, _ => rfl
    | x :: y :: r, nd, _, h =>
      have e1 := lone_still hl ((h x).mp (by simp))
      have e2 := lone_still hl ((h y).mp (by simp))
      exact absurd (by rw [e1, e2]; exact List.mem_cons_self) (List.nodup_cons.mp nd).1
theorem DeedsOf.uniq {l js : List Nat} {ws vs : List (List Nat)} (h : DeedsOf l js ws) (g : DeedsOf l js vs) : ws = vs :=
  List.Perm.eq_of_pairwise (fun a b _ _ h1 h2 => lt_tot h2 h1) (sorted_words h.srt) (sorted_words g.srt) ((List.perm_ext_iff_of_nodup h.nd g.nd).mpr fun v => (h.mem v).trans (g.mem v).symm)
end Sw
namespace Sw
open PySem PySem.Spec PyProof.Rows L2
theorem orV_by {ta tb : TE} {σ : L2.St} {H : Hp} {Q : VK} (R : Bool → Hp → Prop) (cont : ∀ b H', R b H' → Q (.bl b) H') (h : (∀ b H', R b H' → Q (.bl b) H') → tOrV ta tb σ H Q) : tOrV ta tb σ H Q := h cont
theorem lone_kinds {w js : List Nat} (hw : wordB w = true) (nd : js.Nodup) : Lone w js ↔ (kindsL w js).length = 0 ∨ ((kindsL w js).length = 1 ∧ keepN (ringL w js) = (ringL w js).count 42) := by
  rw [lone_iff hw nd]
  constructor
  · rintro (h | ⟨⟨x, h⟩, h2⟩)
    · exact .inl (by rw [h]; rfl)
    · exact .inr ⟨by rw [h]; rfl, h2⟩
  · rintro (h | ⟨h, h2⟩)
    · exact .inl (List.eq_nil_of_length_eq_zero h)
    · obtain ⟨x, hx⟩ := List.length_eq_one_iff.mp h
      exact .inr ⟨⟨x, hx⟩, h2⟩
end Sw
namespace Sw
theorem asc_pw : ∀ {l : List Nat}, ascB l = true → l.Pairwise (· < ·)
  | [], _ => List.Pairwise.nil
  | [_], _ => List.pairwise_singleton _ _
  | a :: b :: r, h => by
    have h2 : decide (a < b) = true ∧ ascB (b :: r) = true := by
      simpa [ascB] using h
    have ih := asc_pw h2.2
    refine List.pairwise_cons.mpr ⟨fun c hc => ?_, ih⟩
    have hab := of_decide_eq_true h2.1
    rcases List.mem_cons.mp hc with e | e
    · rw [e]; exact hab
    · exact Nat.lt_trans hab ((List.pairwise_cons.mp ih).1 c e)
theorem joints_nodup {js : List Nat} (h : jointsB js = true) : js.Nodup := joints_pair (asc_pw (by
  unfold jointsB at h
  rw [Bool.and_eq_true] at h
  exact h.2))
end Sw
/-! list.index of data. -/
namespace Sw
open PySem PySem.Spec PyProof.Rows L2 PySem.W PySem.SeqAt
def rIndexD (K : PySem.W.Frag) : V → List V → Hp → VK → Prop := fun x xs H Q => ∃ (a : Addr) (y : V) (d e : PyData) (ds : List PyData) (j : Nat), x = V.ref a ∧ xs = [y] ∧ Dp K H y d ∧ Dp K H (.ref a) (.list ds) ∧ PyData.plainAll ds = true ∧ d.plain = true ∧ d.depth ≤ 60 ∧
  ds[j]? = some e ∧ PyData.eqv e d = true ∧ (∀ m e', m < j → ds[m]? = some e' → PyData.eqv e' d = false) ∧ Q (.int (j : Nat)) H
theorem mt_indexD {X : Cx} (hu : X.A.units + 64 < cLine) : MtR X "list.index" (rIndexD X.K) := by
  intro pins s σ H x xs v us Q I rx rxs h
  obtain ⟨a, y, d, e, ds, j, rfl, rfl, hd, hl, pl, pd, dd, hj, hjt, hno, q⟩ := h
  cases rx
  cases rxs with
  | cons ry rt =>
    rename_i uy ut
    cases rt
    obtain ⟨as, r1⟩ := Dp.reads I d y uy hd ry
    obtain ⟨bs, r2⟩ := Dp.reads I (.list ds) (.ref a) (.ref a) hl rfl
    cases r2 with
    | list h1 h2 h3 h4 =>
      have hil := (show Heap.IsList s.heap a _ from ⟨_, h1, h2, _, h3⟩)
      obtain ⟨⟨cls, dc, data, sl⟩, ho, hc, n, hdt⟩ := id hil
      simp only at hc hdt
      subst hc hdt
      have hlen := PySem.SeqAt.len_at h4
      have hjl : j < ds.length := (List.getElem?_eq_some_iff.mp hj).1
      have hlist := hl
      have hsz : ds.length ≤ sizeLine := by
        cases hlist with
        | lst hs g =>
          obtain ⟨its, rv, hil2, hz⟩ := I.list hs
          obtain ⟨o2, ho2, hc2, n2, hd2⟩ := hil2.isList
          rw [ho] at ho2
          cases ho2
          cases hd2
          have e1 := rv.length
          have e2 : its.toArray.size = ds.length := hlen
          rw [List.size_toArray] at e2
          omega
      have hsl := sizeLine_eq
      refine call_meets PySem.F.slot_list_index ⟨_, ho, rfl⟩ PySem.F.entry_list_index (PySem.F.args_list_index_2 _ _)
        (SeqAt.list_indexAt a _ n dc sl uy (fun u => PyData.eqv (readOf s.heap u) d) j (by omega) (by omega) ?_ ?_) ⟨ho, PySem.SeqAt.items_plain h4 r1 pl pd (by omega), ?_⟩
      · obtain ⟨k1, k2⟩ := PySem.SeqAt.readOf_at h4 pl j (by omega)
        rw [k2]
        rw [List.getElem?_eq_getElem hjl] at hj
        rw [Option.some.inj hj]
        exact hjt
      · intro m hm hmj
        obtain ⟨k1, k2⟩ := PySem.SeqAt.readOf_at h4 pl m hm
        rw [k2]
        exact hno m _ hmj (List.getElem?_eq_getElem k1)
      · exact ⟨.int (j : Nat), H, I.tok _, ⟨_, rfl⟩, q⟩
end Sw
namespace Sw
open PySem PySem.Spec PyProof.Rows L2
/-- a key of the law's: its tuple and the tuple of its counts -/
def KeyAt (H : Hp) (T : Addr) (w B : List Nat) : Prop := ∃ C, H T = some (.tup [.str (S (minW (turnsL (ringL w B)))), .ref C]) ∧ H C = some (.tup (B.map fun c => V.int (w.count c : Nat)))
theorem KeyAt.same {H H' : Hp} {T : Addr} {w B : List Nat} (h : KeyAt H T w B) (s : Same H H') : KeyAt H' T w B := let ⟨C, h1, h2⟩ := h; ⟨C, s _ _ h1, s _ _ h2⟩
theorem KeyAt.upd {H : Hp} {T a : Addr} {w B : List Nat} {xs ys : List V} (h : KeyAt H T w B) (d : H a = some (.lst xs)) : KeyAt (upd H a (.lst ys)) T w B := by
  obtain ⟨C, h1, h2⟩ := h
  exact ⟨C, by rw [upd_ne (ne_of h1 d (by simp))]; exact h1, by rw [upd_ne (ne_of h2 d (by simp))]; exact h2⟩
theorem KeyAt.dp {K : PySem.W.Frag} {H : Hp} {T : Addr} {w B : List Nat} (h : KeyAt H T w B) : Dp K H (.ref T) (keyD w B) := by
  obtain ⟨C, h1, h2⟩ := h
  exact .tup (SqT.of h1) (.cons (.str _) (.cons (.tup (SqT.of h2) (counts_dp w B)) .nil))
/-- e: number of the first word of a class, its key, its list -/
structure Lgr (ws : List (List Nat)) (B : List Nat) (H0 H : Hp) (KA F : Addr) (es : List (Nat × Addr × Addr)) (i : Nat) : Prop where
  dk : H KA = some (.lst (es.map fun e => V.ref e.2.1))
  df : H F = some (.lst (es.map fun e => V.ref e.2.2))
  key : ∀ e ∈ es, KeyAt H e.2.1 (wat ws e.1) B
  each : ∀ e ∈ es, H0 e.2.2 = none ∧ e.2.2 ≠ F ∧ e.2.2 ≠ KA ∧ H e.2.2 = some (.lst (placesV (upTo ws B (keyO B (wat ws e.1)) i)))
  nd : (es.map (·.2.2)).Nodup
  ord : (es.map fun e => keyO B (wat ws e.1)) = firstK ws B i
  ndk : (es.map fun e => keyO B (wat ws e.1)).Nodup
  all : ∀ j, j < i → ∃ e ∈ es, keyO B (wat ws e.1) = keyO B (wat ws j)
  len : es.length ≤ i
  keep : Same H0 H
  k0 : H0 KA = none
  f0 : H0 F = none
  ne : KA ≠ F
theorem Lgr.same {ws : List (List Nat)} {B : List Nat} {H0 H H' : Hp} {KA F : Addr} {es : List (Nat × Addr × Addr)} {i : Nat} (G : Lgr ws B H0 H KA F es i) (s : Same H H') : Lgr ws B H0 H' KA F es i :=
  { G with dk := s _ _ G.dk, df := s _ _ G.df, key := fun e he => (G.key e he).same s, each := fun e he => ⟨(G.each e he).1, (G.each e he).2.1, (G.each e he).2.2.1, s _ _ (G.each e he).2.2.2⟩, keep := G.keep.trans s }
/-- a further number of a class that is there -/
theorem Lgr.old {ws : List (List Nat)} {B : List Nat} {H0 H : Hp} {KA F : Addr} {es : List (Nat × Addr × Addr)} {i : Nat} {e : Nat × Addr × Addr} (G : Lgr ws B H0 H KA F es i) (he : e ∈ es) (hk : keyO B (wat ws e.1) = keyO B (wat ws i)) :
    Lgr ws B H0 (upd H e.2.2 (.lst (placesV (upTo ws B (keyO B (wat ws e.1)) i) ++ [V.int (i : Nat)]))) KA F es (i + 1) := by
  obtain ⟨a1, a2, a3, a4⟩ := G.each e he
  refine { G with dk := by rw [upd_ne a3.symm]; exact G.dk, df := by rw [upd_ne a2.symm]; exact G.df, key := fun f hf => (G.key f hf).upd a4, each := fun f hf => ?_, ord := ?_, all := fun j hj => ?_, len := by have := G.len; omega, keep := Same.own G.keep a1 }
  · obtain ⟨b1, b2, b3, b4⟩ := G.each f hf
    refine ⟨b1, b2, b3, ?_⟩
    rw [up_succ]
    by_cases z : f.2.2 = e.2.2
    · have ef := uniq_by (fun e : Nat × Addr × Addr => e.2.2) G.nd hf he z
      subst ef
      rw [upd_same, if_pos hk.symm]
      simp [placesV]
    · rw [upd_ne z, b4]
      have : ¬ keyO B (wat ws i) = keyO B (wat ws f.1) := fun q => z (by rw [uniq_by (fun e : Nat × Addr × Addr => keyO B (wat ws e.1)) G.ndk hf he (q.symm.trans hk.symm)])
      rw [if_neg this, List.append_nil]
  · show _ = if _ then _ else _
    rw [if_pos ⟨_, by rw [← G.ord]; exact List.mem_map.mpr ⟨e, he, rfl⟩, hk⟩]
    exact G.ord
  · by_cases z : j = i
    · subst z; exact ⟨e, he, hk⟩
    · exact G.all j (by omega)
/-- a class that is new: T its key, E its list -/
theorem Lgr.new {ws : List (List Nat)} {B : List Nat} {H0 H : Hp} {KA F T E : Addr} {es : List (Nat × Addr × Addr)} {i : Nat} (G : Lgr ws B H0 H KA F es i) (hn : ∀ e ∈ es, keyO B (wat ws e.1) ≠ keyO B (wat ws i)) (hT : KeyAt H T (wat ws i) B) (h0 : H0 E = none) (hF : E ≠ F) (hK : E ≠ KA) (hE : ∀ e ∈ es, e.2.2 ≠ E) (dE : H E = some (.lst [V.int (i : Nat)])) :
    Lgr ws B H0 (upd (upd H KA (.lst (es.map (fun e => V.ref e.2.1) ++ [V.ref T]))) F (.lst (es.map (fun e => V.ref e.2.2) ++ [V.ref E]))) KA F (es ++ [(i, T, E)]) (i + 1) := by
  have dF1 : (upd H KA (.lst (es.map (fun e => V.ref e.2.1) ++ [V.ref T]))) F = some (.lst (es.map fun e => V.ref e.2.2)) := by rw [upd_ne G.ne.symm]; exact G.df
  have kk : ∀ {T' : Addr} {w : List Nat}, KeyAt H T' w B → KeyAt (upd (upd H KA (.lst (es.map (fun e => V.ref e.2.1) ++ [V.ref T]))) F (.lst (es.map (fun e => V.ref e.2.2) ++ [V.ref E]))) T' w B := fun h => (h.upd G.dk).upd dF1
  refine { dk := by rw [upd_ne G.ne, upd_same]; simp, df := by rw [upd_same]; simp, key := fun f hf => ?_, each := fun f hf => ?_, nd := ?_, ord := ?_, ndk := ?_, all := fun j hj => ?_, len := by have := G.len; simp; omega, keep := Same.own (Same.own G.keep G.k0) G.f0, k0 := G.k0, f0 := G.f0, ne := G.ne }
  · rcases List.mem_append.mp hf with hf | hf
    · exact kk (G.key f hf)
    · rw [List.mem_singleton.mp hf]; exact kk hT
  · rcases List.mem_append.mp hf with hf | hf
    · obtain ⟨b1, b2, b3, b4⟩ := G.each f hf
      refine ⟨b1, b2, b3, ?_⟩
      rw [upd_ne b2, upd_ne b3, b4, up_succ, if_neg (fun q => hn f hf q.symm), List.append_nil]
    · rw [List.mem_singleton.mp hf]
      refine ⟨h0, hF, hK, ?_⟩
      rw [upd_ne hF, upd_ne hK, dE, up_succ, if_pos rfl]
      have e0 : upTo ws B (keyO B (wat ws i)) i = [] := List.eq_nil_iff_forall_not_mem.mpr fun j hj => by
        obtain ⟨h1, h2⟩ := mem_up.mp hj
        obtain ⟨e, he, h3⟩ := G.all j h1
        exact hn e he (h3.trans h2)
      rw [e0]
      rfl
  · rw [List.map_append]
    refine List.nodup_append.mpr ⟨G.nd, by simp, fun a ha b hb => ?_⟩
    obtain ⟨e, he, rfl⟩ := List.mem_map.mp ha
    rw [List.map_singleton, List.mem_singleton] at hb
    rw [hb]
    exact hE e he
  · show _ = if _ then _ else _
    rw [if_neg (fun q => by rw [← G.ord] at q; obtain ⟨k, hk, e3⟩ := q; obtain ⟨e, he, e2⟩ := List.mem_map.mp hk; exact hn e he (e2.trans e3)), List.map_append, G.ord]
    rfl
  · rw [List.map_append]
    refine List.nodup_append.mpr ⟨G.ndk, by simp, fun a ha b hb => ?_⟩
    obtain ⟨e, he, rfl⟩ := List.mem_map.mp ha
    rw [List.map_singleton, List.mem_singleton] at hb
    rw [hb]
    exact hn e he
  · by_cases z : j = i
    · subst z; exact ⟨(j, T, E), List.mem_append.mpr (.inr (by simp)), rfl⟩
    · obtain ⟨e, he, h⟩ := G.all j (by omega)
      exact ⟨e, List.mem_append.mpr (.inl he), h⟩
theorem Lgr.lists {ws : List (List Nat)} {B : List Nat} {H0 H : Hp} {KA F : Addr} {es : List (Nat × Addr × Addr)} (G : Lgr ws B H0 H KA F es ws.length) : ListsAt H0 H (es.map (·.2.2)) (groupsL ws B) where
  len := by unfold groupsL; rw [← G.ord]; simp
  at' := fun i b g h1 h2 => by
    unfold groupsL at h2
    rw [← G.ord, List.map_map, List.getElem?_map] at h2
    rw [List.getElem?_map] at h1
    obtain ⟨e, he, rfl⟩ := Option.map_eq_some_iff.mp h1
    rw [he] at h2
    cases h2
    have q := G.each e (List.mem_of_getElem? he)
    exact ⟨q.1, q.2.2.2⟩
  nd := G.nd
end Sw
namespace Sw
open PySem PySem.Spec PyProof.Rows L2
theorem key_depth2 (l js : List Nat) : (keyD l js).depth ≤ 2 := by
  show max 0 (max (PyData.depthAll (js.map fun c => PyData.int (l.count c : Nat)) + 1) 0) + 1 ≤ 2
  rw [counts_depth]; decide
theorem upd_comm {H : Hp} {a b : Addr} {x y : HO} (h : a ≠ b) : upd (upd H a x) b y = upd (upd H b y) a x := by
  funext c
  by_cases z : c = a
  · subst z; rw [upd_ne h, upd_same, upd_same]
  · by_cases w : c = b
    · subst w; rw [upd_same, upd_ne z, upd_same]
    · rw [upd_ne w, upd_ne z, upd_ne z, upd_ne w]
end Sw
namespace Sw
open PySem PySem.Spec PyProof.Rows L2
theorem firstK_len (ws : List (List Nat)) (B : List Nat) : ∀ i, (firstK ws B i).length ≤ i
  | 0 => Nat.le_refl _
  | i + 1 => by
    have ih := firstK_len ws B i
    show (if _ then _ else _ : List (List Key)).length ≤ _
    split
    · omega
    · rw [List.length_append]; simp; omega
theorem groups_len (ws : List (List Nat)) (B : List Nat) : (groupsL ws B).length ≤ ws.length := by unfold groupsL; rw [List.length_map]; exact firstK_len ws B _
theorem groups_row {ws : List (List Nat)} {B g : List Nat} (h : g ∈ groupsL ws B) : g.length ≤ ws.length ∧ ∀ n ∈ g, n < ws.length := by
  unfold groupsL at h
  obtain ⟨k, _, rfl⟩ := List.mem_map.mp h
  exact ⟨up_len _ _ _ _, fun n hn => (mem_up.mp hn).1⟩
def groupsD (gs : List (List Nat)) : List PyData := gs.map fun g => PyData.list (placesD g)
theorem ListsAt.dps {K : PySem.W.Frag} {H H' : Hp} : ∀ {as : List Addr} {gs : List (List Nat)}, as.length = gs.length → (∀ (i : Nat) (b : Addr) (g : List Nat), as[i]? = some b → gs[i]? = some g → H' b = some (.lst (placesV g))) → DpAll K H' (as.map V.ref) (groupsD gs)
  | [], [], _, _ => .nil
  | [], _ :: _, e, _ => by cases e
  | _ :: _, [], e, _ => by cases e
  | a :: as, g :: gs, e, h => .cons (.lst (SqL.of (h 0 a g rfl rfl)) (places_dp g)) (ListsAt.dps (H := H) (Nat.succ.inj e) fun i b g h1 h2 => h (i + 1) b g h1 h2)
theorem ListsAt.rp {K : PySem.W.Frag} {H H' : Hp} {p : Addr} {as : List Addr} {ws : List (List Nat)} {B : List Nat} (L : ListsAt H H' as (groupsL ws B)) (hp : H' p = some (.lst (as.map V.ref))) (hn : ws.length ≤ 100) : Rp K H' (.ref p) (PyData.list (groupsD (groupsL ws B))).shown := by
  have hs : Short 2 ((groupsD (groupsL ws B)).length * (1800 + 1)) (.list (groupsD (groupsL ws B))) := Short.list fun d hd => by
    obtain ⟨g, hg, rfl⟩ := List.mem_map.mp hd
    obtain ⟨h1, h2⟩ := groups_row hg
    have h3 : Short 1 ((placesD g).length * (17 + 1)) (.list (placesD g)) := Short.list fun d hd => by
      obtain ⟨n, hn', rfl⟩ := List.mem_map.mp hd
      have := h2 n hn'
      exact Short.int (by omega)
    refine h3.mono (Nat.le_refl _) ?_
    have : (placesD g).length = g.length := List.length_map _
    rw [this]; omega
  refine (hs.mono (by decide) ?_).rp (.lst (SqL.of hp) (ListsAt.dps (H := H) L.len fun i b g h1 h2 => (L.at' i b g h1 h2).2))
  have h4 : (groupsD (groupsL ws B)).length = (groupsL ws B).length := List.length_map _
  have := groups_len ws B
  rw [h4]
  have : (2 : Nat) ^ 20 = 1048576 := by decide
  omega
end Sw
namespace Sw
open PySem PySem.Spec PyProof.Rows L2
/-! ### the groups, reckoned -/
def firstR (ws : List (List Nat)) (B : List Nat) : Nat → List Nat
  | 0 => []
  | i + 1 => if (firstR ws B i).any (fun r => comesB (wat ws r) (wat ws i) B) = true then firstR ws B i else firstR ws B i ++ [i]
def groupsC (ws : List (List Nat)) (B : List Nat) : List (List Nat) := (firstR ws B ws.length).map fun r => (List.range ws.length).filter fun j => comesB (wat ws j) (wat ws r) B
theorem firstK_R (ws : List (List Nat)) (B : List Nat) : ∀ i, firstK ws B i = (firstR ws B i).map fun r => keyO B (wat ws r)
  | 0 => rfl
  | i + 1 => by
    have ih := firstK_R ws B i
    show (if _ then _ else _) = List.map _ (if _ then _ else _)
    rw [ih]
    have e : (∃ k ∈ (firstR ws B i).map fun r => keyO B (wat ws r), k = keyO B (wat ws i)) ↔ (firstR ws B i).any (fun r => comesB (wat ws r) (wat ws i) B) = true := by
      rw [List.any_eq_true]
      constructor
      · rintro ⟨k, hk, e⟩
        obtain ⟨r, hr, rfl⟩ := List.mem_map.mp hk
        exact ⟨r, hr, key_iff.mp e⟩
      · rintro ⟨r, hr, h⟩
        exact ⟨_, List.mem_map.mpr ⟨r, hr, rfl⟩, key_iff.mpr h⟩
    by_cases z : (firstR ws B i).any (fun r => comesB (wat ws r) (wat ws i) B) = true
    · rw [if_pos (e.mpr z), if_pos z]
    · rw [if_neg (fun q => z (e.mp q)), if_neg z, List.map_append]; rfl
theorem groups_C (ws : List (List Nat)) (B : List Nat) : groupsL ws B = groupsC ws B := by
  unfold groupsL groupsC
  rw [firstK_R, List.map_map]
  refine List.map_congr_left fun r _ => ?_
  show upTo ws B (keyO B (wat ws r)) ws.length = _
  unfold upTo
  refine List.filter_congr fun j _ => ?_
  rw [Bool.eq_iff_iff, decide_eq_true_iff, key_iff]
end Sw
namespace K13
open PySem PySem.Spec PyProof.Rows L2 Sw
def top (i : Nat) : Stmt := PySem.Challenge.pw_sideswaps_k13_one_deed_and_words_alone.main.body.getD i (.Pass ⟨0, 0, 0, 0⟩)
abbrev s_is_word : Stmt := top 6
abbrev N_is_word : List Str := ["value", "sign"]
abbrev P_is_word : List Str := ["value"]
theorem sc_is_word : FnScope N_is_word P_is_word (defScope s_is_word) := ⟨rfl, rfl, rfl, by decide +kernel, rfl, by decide +kernel, by decide +kernel⟩
abbrev s__ascends : Stmt := top 8
abbrev N__ascends : List Str := ["signs", "first", "second"]
abbrev P__ascends : List Str := ["signs"]
theorem sc__ascends : FnScope N__ascends P__ascends (defScope s__ascends) := ⟨rfl, rfl, rfl, by decide +kernel, rfl, by decide +kernel, by decide +kernel⟩
abbrev s_sides_changed : Stmt := top 12
abbrev N_sides_changed : List Str := ["word", "place"]
abbrev P_sides_changed : List Str := ["word", "place"]
theorem sc_sides_changed : FnScope N_sides_changed P_sides_changed (defScope s_sides_changed) := ⟨rfl, rfl, rfl, by decide +kernel, rfl, by decide +kernel, by decide +kernel⟩
abbrev s_starred : Stmt := top 14
abbrev N_starred : List Str := ["text", "joints", "letter"]
abbrev P_starred : List Str := ["text", "joints"]
theorem sc_starred : FnScope N_starred P_starred (defScope s_starred) := ⟨rfl, rfl, rfl, by decide +kernel, rfl, by decide +kernel, by decide +kernel⟩
abbrev s_turnings : Stmt := top 16
abbrev N_turnings : List Str := ["ring", "cell"]
abbrev P_turnings : List Str := ["ring"]
theorem sc_turnings : FnScope N_turnings P_turnings (defScope s_turnings) := ⟨rfl, rfl, rfl, by decide +kernel, rfl, by decide +kernel, by decide +kernel⟩
abbrev s_letters_held : Stmt := top 21
abbrev N_letters_held : List Str := ["word", "joints", "letter"]
abbrev P_letters_held : List Str := ["word", "joints"]
theorem sc_letters_held : FnScope N_letters_held P_letters_held (defScope s_letters_held) := ⟨rfl, rfl, rfl, by decide +kernel, rfl, by decide +kernel, by decide +kernel⟩
abbrev s__law_hash : Stmt := top 26
abbrev N__law_hash : List Str := ["_law_seed", "_law_index", "_law_mixed"]
abbrev P__law_hash : List Str := ["_law_seed", "_law_index"]
theorem sc__law_hash : FnScope N__law_hash P__law_hash (defScope s__law_hash) := ⟨rfl, rfl, rfl, by decide +kernel, rfl, by decide +kernel, by decide +kernel⟩
abbrev s__law_cell : Stmt := top 28
abbrev N__law_cell : List Str := ["_law_script", "_law_index"]
abbrev P__law_cell : List Str := ["_law_script", "_law_index"]
theorem sc__law_cell : FnScope N__law_cell P__law_cell (defScope s__law_cell) := ⟨rfl, rfl, rfl, by decide +kernel, rfl, by decide +kernel, by decide +kernel⟩
abbrev s__law_deed : Stmt := top 34
abbrev N__law_deed : List Str := ["_law_word_here", "_law_place"]
abbrev P__law_deed : List Str := ["_law_word_here", "_law_place"]
theorem sc__law_deed : FnScope N__law_deed P__law_deed (defScope s__law_deed) := ⟨rfl, rfl, rfl, by decide +kernel, rfl, by decide +kernel, by decide +kernel⟩
abbrev s__law_places : Stmt := top 35
abbrev N__law_places : List Str := ["_law_word_here", "_law_joints", "_law_place", "_law_letter"]
abbrev P__law_places : List Str := ["_law_word_here", "_law_joints"]
theorem sc__law_places : FnScope N__law_places P__law_places (defScope s__law_places) := ⟨rfl, rfl, rfl, by decide +kernel, rfl, by decide +kernel, by decide +kernel⟩
abbrev s__law_ring : Stmt := top 37
abbrev N__law_ring : List Str := ["_law_word_here", "_law_joints", "_law_letter"]
abbrev P__law_ring : List Str := ["_law_word_here", "_law_joints"]
theorem sc__law_ring : FnScope N__law_ring P__law_ring (defScope s__law_ring) := ⟨rfl, rfl, rfl, by decide +kernel, rfl, by decide +kernel, by decide +kernel⟩
abbrev s__law_turnings : Stmt := top 38
abbrev N__law_turnings : List Str := ["_law_ring_here", "_law_cell_here"]
abbrev P__law_turnings : List Str := ["_law_ring_here"]
theorem sc__law_turnings : FnScope N__law_turnings P__law_turnings (defScope s__law_turnings) := ⟨rfl, rfl, rfl, by decide +kernel, rfl, by decide +kernel, by decide +kernel⟩
abbrev s__law_same : Stmt := top 40
abbrev N__law_same : List Str := ["_law_told", "_law_due"]
abbrev P__law_same : List Str := ["_law_told", "_law_due"]
theorem sc__law_same : FnScope N__law_same P__law_same (defScope s__law_same) := ⟨rfl, rfl, rfl, by decide +kernel, rfl, by decide +kernel, by decide +kernel⟩
abbrev s_is_joints : Stmt := top 7
abbrev N_is_joints : List Str := ["value"]
abbrev P_is_joints : List Str := ["value"]
theorem sc_is_joints : FnScope N_is_joints P_is_joints (defScope s_is_joints) := ⟨rfl, rfl, rfl, by decide +kernel, rfl, by decide +kernel, by decide +kernel⟩
abbrev s_check_word : Stmt := top 9
abbrev N_check_word : List Str := ["value"]
abbrev P_check_word : List Str := ["value"]
theorem sc_check_word : FnScope N_check_word P_check_word (defScope s_check_word) := ⟨rfl, rfl, rfl, by decide +kernel, rfl, by decide +kernel, by decide +kernel⟩
abbrev s_ring_stars : Stmt := top 15
abbrev N_ring_stars : List Str := ["word", "joints"]
abbrev P_ring_stars : List Str := ["word", "joints"]
theorem sc_ring_stars : FnScope N_ring_stars P_ring_stars (defScope s_ring_stars) := ⟨rfl, rfl, rfl, by decide +kernel, rfl, by decide +kernel, by decide +kernel⟩
abbrev s__law_random : Stmt := top 27
abbrev N__law_random : List Str := ["_law_generator_here", "_law_bound", "_law_drawn_here", "_law_turn"]
abbrev P__law_random : List Str := ["_law_generator_here", "_law_bound"]
theorem sc__law_random : FnScope N__law_random P__law_random (defScope s__law_random) := ⟨rfl, rfl, rfl, by decide +kernel, rfl, by decide +kernel, by decide +kernel⟩
abbrev s__law_generator : Stmt := top 29
abbrev N__law_generator : List Str := ["_law_script", "_law_index", "_law_seed"]
abbrev P__law_generator : List Str := ["_law_script", "_law_index"]
theorem sc__law_generator : FnScope N__law_generator P__law_generator (defScope s__law_generator) := ⟨rfl, rfl, rfl, by decide +kernel, rfl, by decide +kernel, by decide +kernel⟩
abbrev s__law_walk : Stmt := top 36
abbrev N__law_walk : List Str := ["_law_word_here", "_law_joints", "_law_found", "_law_waiting", "_law_turn", "_law_there", "_law_place", "_law_made_here"]
abbrev P__law_walk : List Str := ["_law_word_here", "_law_joints"]
theorem sc__law_walk : FnScope N__law_walk P__law_walk (defScope s__law_walk) := ⟨rfl, rfl, rfl, by decide +kernel, rfl, by decide +kernel, by decide +kernel⟩
abbrev s__law_key : Stmt := top 39
abbrev N__law_key : List Str := ["_law_word_here", "_law_joints", "_law_counts", "_law_letter"]
abbrev P__law_key : List Str := ["_law_word_here", "_law_joints"]
theorem sc__law_key : FnScope N__law_key P__law_key (defScope s__law_key) := ⟨rfl, rfl, rfl, by decide +kernel, rfl, by decide +kernel, by decide +kernel⟩
abbrev s_check_joints : Stmt := top 10
abbrev N_check_joints : List Str := ["value"]
abbrev P_check_joints : List Str := ["value"]
theorem sc_check_joints : FnScope N_check_joints P_check_joints (defScope s_check_joints) := ⟨rfl, rfl, rfl, by decide +kernel, rfl, by decide +kernel, by decide +kernel⟩
abbrev s_numbers_by_class : Stmt := top 22
abbrev N_numbers_by_class : List Str := ["words", "joints", "found", "number", "word", "key"]
abbrev P_numbers_by_class : List Str := ["words", "joints"]
theorem sc_numbers_by_class : FnScope N_numbers_by_class P_numbers_by_class (defScope s_numbers_by_class) := ⟨rfl, rfl, rfl, by decide +kernel, rfl, by decide +kernel, by decide +kernel⟩
abbrev s__law_letters : Stmt := top 30
abbrev N__law_letters : List Str := ["_law_generator_here", "_law_many", "_law_left", "_law_found", "_law_turn"]
abbrev P__law_letters : List Str := ["_law_generator_here", "_law_many"]
theorem sc__law_letters : FnScope N__law_letters P__law_letters (defScope s__law_letters) := ⟨rfl, rfl, rfl, by decide +kernel, rfl, by decide +kernel, by decide +kernel⟩
abbrev s__law_word : Stmt := top 31
abbrev N__law_word : List Str := ["_law_generator_here", "_law_letters_here", "_law_many", "_law_turn"]
abbrev P__law_word : List Str := ["_law_generator_here", "_law_letters_here", "_law_many"]
theorem sc__law_word : FnScope N__law_word P__law_word (defScope s__law_word) := ⟨rfl, rfl, rfl, by decide +kernel, rfl, by decide +kernel, by decide +kernel⟩
abbrev s__law_round : Stmt := top 32
abbrev N__law_round : List Str := ["_law_generator_here", "_law_bodies", "_law_signs", "_law_most", "_law_kinds", "_law_block", "_law_turn", "_law_times", "_law_ring_here", "_law_stars", "_law_hole", "_law_found", "_law_sign", "_law_cell_here"]
abbrev P__law_round : List Str := ["_law_generator_here", "_law_bodies", "_law_signs", "_law_most"]
theorem sc__law_round : FnScope N__law_round P__law_round (defScope s__law_round) := ⟨rfl, rfl, rfl, by decide +kernel, rfl, by decide +kernel, by decide +kernel⟩
abbrev s__law_made : Stmt := top 41
abbrev N__law_made : List Str := ["_law_word_here", "_law_joints", "_law_place"]
abbrev P__law_made : List Str := ["_law_word_here", "_law_joints"]
theorem sc__law_made : FnScope N__law_made P__law_made (defScope s__law_made) := ⟨rfl, rfl, rfl, by decide +kernel, rfl, by decide +kernel, by decide +kernel⟩
abbrev s_open_places : Stmt := top 11
abbrev N_open_places : List Str := ["word", "joints", "place", "letter"]
abbrev P_open_places : List Str := ["word", "joints"]
theorem sc_open_places : FnScope N_open_places P_open_places (defScope s_open_places) := ⟨rfl, rfl, rfl, by decide +kernel, rfl, by decide +kernel, by decide +kernel⟩
abbrev s_ring_turns : Stmt := top 17
abbrev N_ring_turns : List Str := ["word", "joints", "ring"]
abbrev P_ring_turns : List Str := ["word", "joints"]
theorem sc_ring_turns : FnScope N_ring_turns P_ring_turns (defScope s_ring_turns) := ⟨rfl, rfl, rfl, by decide +kernel, rfl, by decide +kernel, by decide +kernel⟩
abbrev s_classes_of : Stmt := top 24
abbrev N_classes_of : List Str := ["words", "joints", "word"]
abbrev P_classes_of : List Str := ["words", "joints"]
theorem sc_classes_of : FnScope N_classes_of P_classes_of (defScope s_classes_of) := ⟨rfl, rfl, rfl, by decide +kernel, rfl, by decide +kernel, by decide +kernel⟩
abbrev s__law_drawn : Stmt := top 33
abbrev N__law_drawn : List Str := ["_law_generator_here", "_law_most", "_law_letters_here", "_law_signs", "_law_bodies", "_law_strange", "_law_joints", "_law_letter"]
abbrev P__law_drawn : List Str := ["_law_generator_here", "_law_most"]
theorem sc__law_drawn : FnScope N__law_drawn P__law_drawn (defScope s__law_drawn) := ⟨rfl, rfl, rfl, by decide +kernel, rfl, by decide +kernel, by decide +kernel⟩
abbrev s__law_groups : Stmt := top 43
abbrev N__law_groups : List Str := ["_law_words", "_law_joints", "_law_keys", "_law_found", "_law_number", "_law_word_here", "_law_key_here"]
abbrev P__law_groups : List Str := ["_law_words", "_law_joints"]
theorem sc__law_groups : FnScope N__law_groups P__law_groups (defScope s__law_groups) := ⟨rfl, rfl, rfl, by decide +kernel, rfl, by decide +kernel, by decide +kernel⟩
abbrev s_one_deed : Stmt := top 18
abbrev N_one_deed : List Str := ["word", "joints", "place"]
abbrev P_one_deed : List Str := ["word", "joints"]
theorem sc_one_deed : FnScope N_one_deed P_one_deed (defScope s_one_deed) := ⟨rfl, rfl, rfl, by decide +kernel, rfl, by decide +kernel, by decide +kernel⟩
abbrev s_is_alone : Stmt := top 19
abbrev N_is_alone : List Str := ["word", "joints"]
abbrev P_is_alone : List Str := ["word", "joints"]
theorem sc_is_alone : FnScope N_is_alone P_is_alone (defScope s_is_alone) := ⟨rfl, rfl, rfl, by decide +kernel, rfl, by decide +kernel, by decide +kernel⟩
abbrev s__law_word_right : Stmt := top 42
abbrev N__law_word_right : List Str := ["_law_word_here", "_law_joints", "_law_due", "_law_told", "_law_kinds", "_law_ring_here", "_law_alone", "_law_letter"]
abbrev P__law_word_right : List Str := ["_law_word_here", "_law_joints"]
theorem sc__law_word_right : FnScope N__law_word_right P__law_word_right (defScope s__law_word_right) := ⟨rfl, rfl, rfl, by decide +kernel, rfl, by decide +kernel, by decide +kernel⟩
abbrev s__law_far_list_right : Stmt := top 44
abbrev N__law_far_list_right : List Str := ["_law_generator_here", "_law_word_here", "_law_joints", "_law_words", "_law_places_here", "_law_turn", "_law_there", "_law_found", "_law_at"]
abbrev P__law_far_list_right : List Str := ["_law_generator_here"]
theorem sc__law_far_list_right : FnScope N__law_far_list_right P__law_far_list_right (defScope s__law_far_list_right) := ⟨rfl, rfl, rfl, by decide +kernel, rfl, by decide +kernel, by decide +kernel⟩
abbrev s__law_list_right : Stmt := top 45
abbrev N__law_list_right : List Str := ["_law_generator_here", "_law_joints", "_law_words", "_law_turn", "_law_word_here", "_law_places_here", "_law_due", "_law_handed", "_law_told", "_law_row"]
abbrev P__law_list_right : List Str := ["_law_generator_here"]
theorem sc__law_list_right : FnScope N__law_list_right P__law_list_right (defScope s__law_list_right) := ⟨rfl, rfl, rfl, by decide +kernel, rfl, by decide +kernel, by decide +kernel⟩
abbrev s__law_right : Stmt := top 46
abbrev N__law_right : List Str := ["_law_generator_here", "_law_most", "_law_word_here", "_law_joints", "_law_small", "_law_signs"]
abbrev P__law_right : List Str := ["_law_generator_here"]
theorem sc__law_right : FnScope N__law_right P__law_right (defScope s__law_right) := ⟨rfl, rfl, rfl, by decide +kernel, rfl, by decide +kernel, by decide +kernel⟩
abbrev s_law : Stmt := top 47
abbrev N_law : List Str := ["_law_script", "_law_index", "_law_told", "_law_far", "_law_number"]
abbrev P_law : List Str := ["_law_script"]
theorem sc_law : FnScope N_law P_law (defScope s_law) := ⟨rfl, rfl, rfl, by decide +kernel, rfl, by decide +kernel, by decide +kernel⟩
structure Txt (K : PySem.W.Frag) (mg : Str → Option Value) where
  f_is_word : Addr
  fd_is_word : FuncData
  F_is_word : Fun K "is_word" "is_word" s_is_word f_is_word fd_is_word
  m_is_word : mg "is_word" = some (.ref f_is_word)
  b_is_word : Binds K fd_is_word P_is_word []
  f__ascends : Addr
  fd__ascends : FuncData
  F__ascends : Fun K "_ascends" "_ascends" s__ascends f__ascends fd__ascends
  m__ascends : mg "_ascends" = some (.ref f__ascends)
  b__ascends : Binds K fd__ascends P__ascends []
  f_sides_changed : Addr
  fd_sides_changed : FuncData
  F_sides_changed : Fun K "sides_changed" "sides_changed" s_sides_changed f_sides_changed fd_sides_changed
  m_sides_changed : mg "sides_changed" = some (.ref f_sides_changed)
  b_sides_changed : Binds K fd_sides_changed P_sides_changed []
  f_starred : Addr
  fd_starred : FuncData
  F_starred : Fun K "starred" "starred" s_starred f_starred fd_starred
  m_starred : mg "starred" = some (.ref f_starred)
  b_starred : Binds K fd_starred P_starred []
  f_turnings : Addr
  fd_turnings : FuncData
  F_turnings : Fun K "turnings" "turnings" s_turnings f_turnings fd_turnings
  m_turnings : mg "turnings" = some (.ref f_turnings)
  b_turnings : Binds K fd_turnings P_turnings []
  f_letters_held : Addr
  fd_letters_held : FuncData
  F_letters_held : Fun K "letters_held" "letters_held" s_letters_held f_letters_held fd_letters_held
  m_letters_held : mg "letters_held" = some (.ref f_letters_held)
  b_letters_held : Binds K fd_letters_held P_letters_held []
  f__law_hash : Addr
  fd__law_hash : FuncData
  F__law_hash : Fun K "_law_hash" "_law_hash" s__law_hash f__law_hash fd__law_hash
  m__law_hash : mg "_law_hash" = some (.ref f__law_hash)
  b__law_hash : Binds K fd__law_hash P__law_hash []
  f__law_cell : Addr
  fd__law_cell : FuncData
  F__law_cell : Fun K "_law_cell" "_law_cell" s__law_cell f__law_cell fd__law_cell
  m__law_cell : mg "_law_cell" = some (.ref f__law_cell)
  b__law_cell : Binds K fd__law_cell P__law_cell []
  f__law_deed : Addr
  fd__law_deed : FuncData
  F__law_deed : Fun K "_law_deed" "_law_deed" s__law_deed f__law_deed fd__law_deed
  m__law_deed : mg "_law_deed" = some (.ref f__law_deed)
  b__law_deed : Binds K fd__law_deed P__law_deed []
  f__law_places : Addr
  fd__law_places : FuncData
  F__law_places : Fun K "_law_places" "_law_places" s__law_places f__law_places fd__law_places
  m__law_places : mg "_law_places" = some (.ref f__law_places)
  b__law_places : Binds K fd__law_places P__law_places []
  f__law_ring : Addr
  fd__law_ring : FuncData
  F__law_ring : Fun K "_law_ring" "_law_ring" s__law_ring f__law_ring fd__law_ring
  m__law_ring : mg "_law_ring" = some (.ref f__law_ring)
  b__law_ring : Binds K fd__law_ring P__law_ring []
  f__law_turnings : Addr
  fd__law_turnings : FuncData
  F__law_turnings : Fun K "_law_turnings" "_law_turnings" s__law_turnings f__law_turnings fd__law_turnings
  m__law_turnings : mg "_law_turnings" = some (.ref f__law_turnings)
  b__law_turnings : Binds K fd__law_turnings P__law_turnings []
  f__law_same : Addr
  fd__law_same : FuncData
  F__law_same : Fun K "_law_same" "_law_same" s__law_same f__law_same fd__law_same
  m__law_same : mg "_law_same" = some (.ref f__law_same)
  b__law_same : Binds K fd__law_same P__law_same []
  f_is_joints : Addr
  fd_is_joints : FuncData
  F_is_joints : Fun K "is_joints" "is_joints" s_is_joints f_is_joints fd_is_joints
  m_is_joints : mg "is_joints" = some (.ref f_is_joints)
  b_is_joints : Binds K fd_is_joints P_is_joints []
  f_check_word : Addr
  fd_check_word : FuncData
  F_check_word : Fun K "check_word" "check_word" s_check_word f_check_word fd_check_word
  m_check_word : mg "check_word" = some (.ref f_check_word)
  b_check_word : Binds K fd_check_word P_check_word []
  f_ring_stars : Addr
  fd_ring_stars : FuncData
  F_ring_stars : Fun K "ring_stars" "ring_stars" s_ring_stars f_ring_stars fd_ring_stars
  m_ring_stars : mg "ring_stars" = some (.ref f_ring_stars)
  b_ring_stars : Binds K fd_ring_stars P_ring_stars []
  f__law_random : Addr
  fd__law_random : FuncData
  F__law_random : Fun K "_law_random" "_law_random" s__law_random f__law_random fd__law_random
  m__law_random : mg "_law_random" = some (.ref f__law_random)
  b__law_random : Binds K fd__law_random P__law_random []
  f__law_generator : Addr
  fd__law_generator : FuncData
  F__law_generator : Fun K "_law_generator" "_law_generator" s__law_generator f__law_generator fd__law_generator
  m__law_generator : mg "_law_generator" = some (.ref f__law_generator)
  b__law_generator : Binds K fd__law_generator P__law_generator []
  f__law_walk : Addr
  fd__law_walk : FuncData
  F__law_walk : Fun K "_law_walk" "_law_walk" s__law_walk f__law_walk fd__law_walk
  m__law_walk : mg "_law_walk" = some (.ref f__law_walk)
  b__law_walk : Binds K fd__law_walk P__law_walk []
  f__law_key : Addr
  fd__law_key : FuncData
  F__law_key : Fun K "_law_key" "_law_key" s__law_key f__law_key fd__law_key
  m__law_key : mg "_law_key" = some (.ref f__law_key)
  b__law_key : Binds K fd__law_key P__law_key []
  f_check_joints : Addr
  fd_check_joints : FuncData
  F_check_joints : Fun K "check_joints" "check_joints" s_check_joints f_check_joints fd_check_joints
  m_check_joints : mg "check_joints" = some (.ref f_check_joints)
  b_check_joints : Binds K fd_check_joints P_check_joints []
  f_numbers_by_class : Addr
  fd_numbers_by_class : FuncData
  F_numbers_by_class : Fun K "numbers_by_class" "numbers_by_class" s_numbers_by_class f_numbers_by_class fd_numbers_by_class
  m_numbers_by_class : mg "numbers_by_class" = some (.ref f_numbers_by_class)
  b_numbers_by_class : Binds K fd_numbers_by_class P_numbers_by_class []
  f__law_letters : Addr
  fd__law_letters : FuncData
  F__law_letters : Fun K "_law_letters" "_law_letters" s__law_letters f__law_letters fd__law_letters
  m__law_letters : mg "_law_letters" = some (.ref f__law_letters)
  b__law_letters : Binds K fd__law_letters P__law_letters []
  f__law_word : Addr
  fd__law_word : FuncData
  F__law_word : Fun K "_law_word" "_law_word" s__law_word f__law_word fd__law_word
  m__law_word : mg "_law_word" = some (.ref f__law_word)
  b__law_word : Binds K fd__law_word P__law_word []
  f__law_round : Addr
  fd__law_round : FuncData
  F__law_round : Fun K "_law_round" "_law_round" s__law_round f__law_round fd__law_round
  m__law_round : mg "_law_round" = some (.ref f__law_round)
  b__law_round : Binds K fd__law_round P__law_round []
  f__law_made : Addr
  fd__law_made : FuncData
  F__law_made : Fun K "_law_made" "_law_made" s__law_made f__law_made fd__law_made
  m__law_made : mg "_law_made" = some (.ref f__law_made)
  b__law_made : Binds K fd__law_made P__law_made []
  f_open_places : Addr
  fd_open_places : FuncData
  F_open_places : Fun K "open_places" "open_places" s_open_places f_open_places fd_open_places
  m_open_places : mg "open_places" = some (.ref f_open_places)
  b_open_places : Binds K fd_open_places P_open_places []
  f_ring_turns : Addr
  fd_ring_turns : FuncData
  F_ring_turns : Fun K "ring_turns" "ring_turns" s_ring_turns f_ring_turns fd_ring_turns
  m_ring_turns : mg "ring_turns" = some (.ref f_ring_turns)
  b_ring_turns : Binds K fd_ring_turns P_ring_turns []
  f_classes_of : Addr
  fd_classes_of : FuncData
  F_classes_of : Fun K "classes_of" "classes_of" s_classes_of f_classes_of fd_classes_of
  m_classes_of : mg "classes_of" = some (.ref f_classes_of)
  b_classes_of : Binds K fd_classes_of P_classes_of []
  f__law_drawn : Addr
  fd__law_drawn : FuncData
  F__law_drawn : Fun K "_law_drawn" "_law_drawn" s__law_drawn f__law_drawn fd__law_drawn
  m__law_drawn : mg "_law_drawn" = some (.ref f__law_drawn)
  b__law_drawn : Binds K fd__law_drawn P__law_drawn []
  f__law_groups : Addr
  fd__law_groups : FuncData
  F__law_groups : Fun K "_law_groups" "_law_groups" s__law_groups f__law_groups fd__law_groups
  m__law_groups : mg "_law_groups" = some (.ref f__law_groups)
  b__law_groups : Binds K fd__law_groups P__law_groups []
  f_one_deed : Addr
  fd_one_deed : FuncData
  F_one_deed : Fun K "one_deed" "one_deed" s_one_deed f_one_deed fd_one_deed
  m_one_deed : mg "one_deed" = some (.ref f_one_deed)
  b_one_deed : Binds K fd_one_deed P_one_deed []
  f_is_alone : Addr
  fd_is_alone : FuncData
  F_is_alone : Fun K "is_alone" "is_alone" s_is_alone f_is_alone fd_is_alone
  m_is_alone : mg "is_alone" = some (.ref f_is_alone)
  b_is_alone : Binds K fd_is_alone P_is_alone []
  f__law_word_right : Addr
  fd__law_word_right : FuncData
  F__law_word_right : Fun K "_law_word_right" "_law_word_right" s__law_word_right f__law_word_right fd__law_word_right
  m__law_word_right : mg "_law_word_right" = some (.ref f__law_word_right)
  b__law_word_right : Binds K fd__law_word_right P__law_word_right []
  f__law_far_list_right : Addr
  fd__law_far_list_right : FuncData
  F__law_far_list_right : Fun K "_law_far_list_right" "_law_far_list_right" s__law_far_list_right f__law_far_list_right fd__law_far_list_right
  m__law_far_list_right : mg "_law_far_list_right" = some (.ref f__law_far_list_right)
  b__law_far_list_right : Binds K fd__law_far_list_right P__law_far_list_right []
  f__law_list_right : Addr
  fd__law_list_right : FuncData
  F__law_list_right : Fun K "_law_list_right" "_law_list_right" s__law_list_right f__law_list_right fd__law_list_right
  m__law_list_right : mg "_law_list_right" = some (.ref f__law_list_right)
  b__law_list_right : Binds K fd__law_list_right P__law_list_right []
  f__law_right : Addr
  fd__law_right : FuncData
  F__law_right : Fun K "_law_right" "_law_right" s__law_right f__law_right fd__law_right
  m__law_right : mg "_law_right" = some (.ref f__law_right)
  b__law_right : Binds K fd__law_right P__law_right []
  f_law : Addr
  fd_law : FuncData
  F_law : Fun K "law" "law" s_law f_law fd_law
  m_law : mg "law" = some (.ref f_law)
  b_law : Binds K fd_law P_law []
  z_all : mg "all" = none
  z_enumerate : mg "enumerate" = none
  z_int : mg "int" = none
  z_isinstance : mg "isinstance" = none
  z_len : mg "len" = none
  z_list : mg "list" = none
  z_max : mg "max" = none
  z_min : mg "min" = none
  z_range : mg "range" = none
  z_repr : mg "repr" = none
  z_set : mg "set" = none
  z_sorted : mg "sorted" = none
  z_str : mg "str" = none
  z_sum : mg "sum" = none
  z_tuple : mg "tuple" = none
  z_zip : mg "zip" = none
def gk_one_deed__0_joints_word {α : Type} : List α → List α → List α := fun us ws => match us, ws with | [], [w0, w1] => [w1, w0] | _, _ => []
theorem gk_rel_one_deed__0_joints_word {vs zs : List V} {us ws : List Value} (r1 : Vals vs us) (r2 : Vals zs ws) : Vals (gk_one_deed__0_joints_word vs zs) (gk_one_deed__0_joints_word us ws) := by
  cases r1 with
  | nil =>
    cases r2 with
    | nil => exact .nil
    | cons w0 r2 =>
      cases r2 with
      | nil => exact .nil
      | cons w1 r2 =>
        cases r2 with
        | nil =>
          exact (.cons w1 (.cons w0 .nil))
        | cons _ _ => exact .nil
  | cons _ _ => exact .nil
theorem kb_one_deed__0_joints_word {K : PySem.W.Frag} {mg : Str → Option Value} (T : Txt K mg) : KBn K T.fd_one_deed P_one_deed 0 ["joints", "word"] gk_one_deed__0_joints_word gk_one_deed__0_joints_word := by
  obtain ⟨oc, od, kV, doc, pm, an, cdv, ct, osl, e, lk, hcd⟩ := T.F_one_deed.ex
  refine ⟨fun s us ws X l1 l2 => ?_, fun r1 r2 => gk_rel_one_deed__0_joints_word r1 r2⟩
  rw [e]
  exact match us, ws, l1, l2 with | [], [_, _], _, _ => .of_eq rfl
def gk_classes_of__0_joints_words {α : Type} : List α → List α → List α := fun us ws => match us, ws with | [], [w0, w1] => [w1, w0] | _, _ => []
theorem gk_rel_classes_of__0_joints_words {vs zs : List V} {us ws : List Value} (r1 : Vals vs us) (r2 : Vals zs ws) : Vals (gk_classes_of__0_joints_words vs zs) (gk_classes_of__0_joints_words us ws) := by
  cases r1 with
  | nil =>
    cases r2 with
    | nil => exact .nil
    | cons w0 r2 =>
      cases r2 with
      | nil => exact .nil
      | cons w1 r2 =>
        cases r2 with
        | nil =>
          exact (.cons w1 (.cons w0 .nil))
        | cons _ _ => exact .nil
  | cons _ _ => exact .nil
theorem kb_classes_of__0_joints_words {K : PySem.W.Frag} {mg : Str → Option Value} (T : Txt K mg) : KBn K T.fd_classes_of P_classes_of 0 ["joints", "words"] gk_classes_of__0_joints_words gk_classes_of__0_joints_words := by
  obtain ⟨oc, od, kV, doc, pm, an, cdv, ct, osl, e, lk, hcd⟩ := T.F_classes_of.ex
  refine ⟨fun s us ws X l1 l2 => ?_, fun r1 r2 => gk_rel_classes_of__0_joints_words r1 r2⟩
  rw [e]
  exact match us, ws, l1, l2 with | [], [_, _], _, _ => .of_eq rfl
def gk_is_alone__0_word_joints {α : Type} : List α → List α → List α := fun us ws => match us, ws with | [], [w0, w1] => [w0, w1] | _, _ => []
theorem gk_rel_is_alone__0_word_joints {vs zs : List V} {us ws : List Value} (r1 : Vals vs us) (r2 : Vals zs ws) : Vals (gk_is_alone__0_word_joints vs zs) (gk_is_alone__0_word_joints us ws) := by
  cases r1 with
  | nil =>
    cases r2 with
    | nil => exact .nil
    | cons w0 r2 =>
      cases r2 with
      | nil => exact .nil
      | cons w1 r2 =>
        cases r2 with
        | nil =>
          exact (.cons w0 (.cons w1 .nil))
        | cons _ _ => exact .nil
  | cons _ _ => exact .nil
theorem kb_is_alone__0_word_joints {K : PySem.W.Frag} {mg : Str → Option Value} (T : Txt K mg) : KBn K T.fd_is_alone P_is_alone 0 ["word", "joints"] gk_is_alone__0_word_joints gk_is_alone__0_word_joints := by
  obtain ⟨oc, od, kV, doc, pm, an, cdv, ct, osl, e, lk, hcd⟩ := T.F_is_alone.ex
  refine ⟨fun s us ws X l1 l2 => ?_, fun r1 r2 => gk_rel_is_alone__0_word_joints r1 r2⟩
  rw [e]
  exact match us, ws, l1, l2 with | [], [_, _], _, _ => .of_eq rfl
section
variable {P : Program} {w : World} {K : PySem.W.Frag} {mg : Str → Option Value} {base : Heap}
/-! is_word -/
def sp_is_word : Sp := fun vs H Q _ => ∃ l : List Nat, vs = [.str (S l)] ∧ l.length ≤ 50000 ∧ ∀ H', Same H H' → Q (.bl (wordB l)) H'
theorem ok_is_word (T : Txt K mg) : FnOk P w K mg base CX0 1 T.f_is_word T.fd_is_word P_is_word (sp_is_word) := by
  have nd : N_is_word.Nodup := sc_is_word.nd
  refine T.F_is_word.ok sc_is_word (fun vs H Q E h => ?_) (fun cdv A outer s H vs Q E hr h => ?_)
  · obtain ⟨l, rfl, _⟩ := h
    rfl
  · obtain ⟨l, rfl, hl, k⟩ := h
    refine ⟨_, (pss_one (ps_ret (pe_and (pe_callB call_isi (by rfl) T.z_isinstance (by decide +kernel) (pa_cons (pv 0) (pa_cons (pe_bltn (v := .ty "str") (by rfl) T.z_str (by decide +kernel) rfl) pa_nil))) (pe_one (pe_callB (cr_all rfl) (by rfl) T.z_all (by decide +kernel) (pa_cons (pe_lc (own := [("sign", 1)]) (hc := rfl) (hN := nd) (pi_str (pv 0)) (blkOk_by (N := N_is_word) (sc := defScope s_is_word) (by decide +kernel)) (fun _ _ _ _ _ => by exact (pg_name (i := 1) nd rfl (Or.inl rfl))) (fun _ _ _ _ _ => by exact pts_nil) (fun _ _ _ _ _ => by exact (pe_chain op_le_str op_le_str pe_str (pv 1) pe_str))) pa_nil)))))), ?_⟩
    refine ⟨_, rfl, _, _, _, _, _, rfl, ClsV.ty "str", .base (.str _), kit_ty (by decide +kernel), true, rfl, iteT ?_⟩
    refine ⟨_, rfl, _, rfl, fun D hD => ?_⟩
    refine lc_it walk_str (fun i H' => Same H H' ∧ H' D = some (.lst (((l.take i).map signB).map V.bl))) ⟨Same.upd hD, by rw [upd_same]; rfl⟩ (fun _ _ _ _ => trivial) ?_ ?_
    · rintro i x H1 H2 hi ⟨s1, d1⟩ ⟨rfl, c, hc, rfl⟩
      rw [at_S] at hc
      refine ⟨rfl, _, rfl, _, _, rfl, rfl, _, rfl, ?_⟩
      have step : ∀ v, v = V.bl (signB c) → ∃ acc, H2 D = some (.lst acc) ∧ acc.length < sizeLine ∧ (Same H (upd H2 D (.lst (acc ++ [v]))) ∧ (upd H2 D (.lst (acc ++ [v]))) D = some (.lst (((l.take (i + 1)).map signB).map V.bl))) := by
        rintro v rfl
        refine ⟨_, d1, ?_, fun b o e => ?_, ?_⟩
        · rw [List.length_map, List.length_map, List.length_take]; exact small_line (by omega)
        · rw [upd_ne (ne_of_none e hD)]; exact s1 b o e
        · rw [upd_same, take_snoc hc]; simp
      have sc := sign_chain c
      refine ite2 (fun z => ?_) (fun z => ?_)
      · rw [if_pos z] at sc
        exact ⟨_, _, rfl, rfl, step _ (by rw [sc])⟩
      · rw [if_neg z] at sc
        exact step _ (by rw [sc])
    · rintro H1 ⟨s1, d1⟩
      rw [size_S, List.take_length] at d1
      refine ⟨D, l.map signB, rfl, SqL.of d1, ?_⟩
      have e : (l.map signB).all id = wordB l := by unfold wordB; rw [List.all_map]; rfl
      rw [e]
      exact k _ s1
/-! _ascends -/
def sp__ascends : Sp := fun vs H Q _ => ∃ l : List Nat, vs = [.str (S l)] ∧ l.length ≤ 50000 ∧ ∀ H', Same H H' → Q (.bl (ascB l)) H'
theorem ok__ascends (T : Txt K mg) : FnOk P w K mg base CX0 1 T.f__ascends T.fd__ascends P__ascends (sp__ascends) := by
  have nd : N__ascends.Nodup := sc__ascends.nd
  refine T.F__ascends.ok sc__ascends (fun vs H Q E h => ?_) (fun cdv A outer s H vs Q E hr h => ?_)
  · obtain ⟨l, rfl, _⟩ := h
    rfl
  · obtain ⟨l, rfl, hl, k⟩ := h
    refine ⟨_, (pss_one (ps_ret (pe_callB (cr_all rfl) (by rfl) T.z_all (by decide +kernel) (pa_cons (pe_lc (own := [("first", 1), ("second", 2)]) (hc := rfl) (hN := nd) (pi_zipS (by rfl) T.z_zip (pa_cons (pv 0) (pa_cons (pe_slice sl_str (pv 0) (po_some pe_int) po_none) pa_nil))) (blkOk_by (N := N__ascends) (sc := defScope s__ascends) (by decide +kernel)) (fun _ _ _ _ _ => by exact (pg_tupK K (n := 2) rfl (pgs_cons (by exact (pg_name (i := 1) nd rfl (Or.inl rfl))) (pgs_cons (by exact (pg_name (i := 2) nd rfl (Or.inl rfl))) pgs_nil)))) (fun _ _ _ _ _ => by exact pts_nil) (fun _ _ _ _ _ => by exact (pe_cmpR op_lt_str (pv 1) (pv 2) (nomark _)))) pa_nil)))), ?_⟩
    refine ⟨_, rfl, _, rfl, _, rfl, _, rfl, by rw [len_S]; exact small_le (by omega), _, _, rfl, fun D hD => ?_⟩
    rw [cutS_from (by decide)]
    refine lc_it walk_zipS (fun i H' => Same H H' ∧ H' D = some (.lst ((((l.zip l.tail).take i).map fun p => decide (p.1 < p.2)).map V.bl))) ⟨Same.upd hD, by rw [upd_same]; rfl⟩ (fun _ _ _ _ => trivial) ?_ ?_
    · rintro i x H1 H2 hi ⟨s1, d1⟩ ⟨T1, x1, y1, rfl, hT, rfl, h1, h2⟩
      replace h1 : (l[i]?).map (fun c => V.str ⟨#[c]⟩) = some x1 := by rw [← at_S]; exact h1
      replace h2 : ((l.drop (1 : Int).toNat)[i]?).map (fun c => V.str ⟨#[c]⟩) = some y1 := by rw [← at_S]; exact h2
      obtain ⟨c, hc, rfl⟩ := Option.map_eq_some_iff.mp h1
      obtain ⟨d, hd, rfl⟩ := Option.map_eq_some_iff.mp h2
      have hz : (l.zip l.tail)[i]? = some (c, d) := zip_tail hc hd
      have nT : D ≠ T1 := ne_of_none d1 hT
      refine ⟨T1, _, rfl, SqT.of upd_same, rfl, _, _, rfl, _, _, rfl, rfl, rfl, ?_⟩
      refine ⟨_, rfl, _, rfl, _, _, rfl, rfl, ?_⟩
      rw [one_lt_S]
      refine ⟨_, by rw [upd_ne nT]; exact d1, ?_, fun b o e => ?_, ?_⟩
      · rw [List.length_map, List.length_map, List.length_take, List.length_zip]; exact small_line (by omega)
      · rw [upd_ne (ne_of_none e hD)]; exact Same.upd hT _ _ (s1 b o e)
      · rw [upd_same, take_snoc hz]; simp
    · rintro H1 ⟨s1, d1⟩
      rw [zip_size, List.take_length] at d1
      refine ⟨D, _, rfl, SqL.of d1, ?_⟩
      have e : ((l.zip l.tail).map fun p => decide (p.1 < p.2)).all id = ascB l := by unfold ascB; rw [List.all_map]; rfl
      rw [e]
      exact k _ s1
/-! sides_changed -/
def sp_sides_changed : Sp := fun vs H Q _ => ∃ (l : List Nat) (p : Nat), vs = [.str (S l), .int (p : Int)] ∧ l.length ≤ 50000 ∧ p < l.length ∧ Q (.str (S (swapL l p))) H
theorem ok_sides_changed (T : Txt K mg) : FnOk P w K mg base CX0 1 T.f_sides_changed T.fd_sides_changed P_sides_changed (sp_sides_changed) := by
  have nd : N_sides_changed.Nodup := sc_sides_changed.nd
  refine T.F_sides_changed.ok sc_sides_changed (fun vs H Q E h => ?_) (fun cdv A outer s H vs Q E hr h => ?_)
  · obtain ⟨l, p, rfl, _⟩ := h
    rfl
  · obtain ⟨l, p, rfl, hl, hp, k⟩ := h
    refine ⟨_, (pss_one (ps_ret (pe_op op_add_str (pe_op op_add_str (pe_slice sl_str (pv 0) (po_some (pe_op op_add (pv 1) pe_int)) po_none) (pe_slice sl_str (pv 0) (po_some (pv 1)) (po_some (pe_op op_add (pv 1) pe_int)))) (pe_slice sl_str (pv 0) po_none (po_some (pv 1)))))), ?_⟩
    have hz : (S l).length ≤ sizeLine := by rw [len_S]; exact small_le (by omega)
    refine ⟨_, rfl, _, rfl, _, _, rfl, rfl, _, rfl, _, rfl, hz, ?_⟩
    refine ⟨_, rfl, _, rfl, _, rfl, _, rfl, _, _, rfl, rfl, _, rfl, _, rfl, hz, ?_⟩
    rw [cutS_from (by omega), show ((p : Int) + 1) = ((p + 1 : Nat) : Int) by omega, cutS_mid (by omega) (by omega), Int.toNat_natCast]
    refine ⟨_, _, rfl, rfl, ?_, ?_⟩
    · rw [len_S, len_S, List.length_drop, List.length_take, List.length_drop]; exact small_le (by omega)
    refine ⟨_, rfl, _, rfl, _, rfl, _, rfl, hz, ?_⟩
    rw [cutS_to (by omega), Int.toNat_natCast, SX.S_cat]
    refine ⟨_, _, rfl, rfl, ?_, ?_⟩
    · rw [len_S, len_S, List.length_append, List.length_drop, List.length_take, List.length_drop, List.length_take]; exact small_le (by omega)
    rw [SX.S_cat, show p + 1 - p = 1 by omega]
    exact k
/-! starred -/
def sp_starred : Sp := fun vs H Q _ => ∃ l js : List Nat, vs = [.str (S l), .str (S js)] ∧ l.length ≤ 50000 ∧ ∀ H', Same H H' → Q (.str (S (starL l js))) H'
theorem ok_starred (T : Txt K mg) : FnOk P w K mg base CX0 1 T.f_starred T.fd_starred P_starred (sp_starred) := by
  have nd : N_starred.Nodup := sc_starred.nd
  refine T.F_starred.ok sc_starred (fun vs H Q E h => ?_) (fun cdv A outer s H vs Q E hr h => ?_)
  · obtain ⟨l, js, rfl, _⟩ := h
    rfl
  · obtain ⟨l, js, rfl, hl, k⟩ := h
    refine ⟨_, (pss_one (ps_ret (pe_join pe_str (pe_lc (own := [("letter", 2)]) (hc := rfl) (hN := nd) (pi_str (pv 0)) (blkOk_by (N := N_starred) (sc := defScope s_starred) (by decide +kernel)) (fun _ _ _ _ _ => by exact (pg_name (i := 2) nd rfl (Or.inl rfl))) (fun _ _ _ _ _ => by exact pts_nil) (fun _ _ _ _ _ => by exact (pe_ifExp (pt_cmpR op_in_sign (pv 2) (pv 1) rfl) pe_str (pv 2))))))), ?_⟩
    (repeat (first | (apply Exists.intro) | (apply And.intro; first | exact rfl | assumption | exact ⟨_, rfl⟩ | omega | exact SqL.of (by (first | assumption | exact upd_same | (refine Same.at (by assumption) ?_; (first | assumption | exact upd_same | (refine Same.at (by assumption) ?_; (first | assumption | exact upd_same | (refine Same.at (by assumption) ?_; (first | assumption | exact upd_same | (refine Same.at (by assumption) ?_; (first | assumption | exact upd_same | (refine Same.at (by assumption) ?_; (first | assumption | exact upd_same | (refine Same.at (by assumption) ?_; (first | assumption | exact upd_same | (refine Same.at (by assumption) ?_; (first | assumption | exact upd_same | (refine Same.at (by assumption) ?_; (first | assumption | exact upd_same | (refine Same.at (by assumption) ?_; (first | assumption | exact upd_same | (refine Same.at (by assumption) ?_; (first | assumption | exact upd_same | (refine Same.at (by assumption) ?_; (first | assumption | exact upd_same | (refine Same.at (by assumption) ?_; (first | assumption | exact upd_same | (refine Same.at (by assumption) ?_; (first | assumption | exact upd_same | (refine Same.at (by assumption) ?_; (first | assumption | exact upd_same)))))))))))))))))))))))))))))) | exact ⟨_, SqL.of (by (first | assumption | exact upd_same | (refine Same.at (by assumption) ?_; (first | assumption | exact upd_same | (refine Same.at (by assumption) ?_; (first | assumption | exact upd_same | (refine Same.at (by assumption) ?_; (first | assumption | exact upd_same | (refine Same.at (by assumption) ?_; (first | assumption | exact upd_same | (refine Same.at (by assumption) ?_; (first | assumption | exact upd_same | (refine Same.at (by assumption) ?_; (first | assumption | exact upd_same | (refine Same.at (by assumption) ?_; (first | assumption | exact upd_same | (refine Same.at (by assumption) ?_; (first | assumption | exact upd_same | (refine Same.at (by assumption) ?_; (first | assumption | exact upd_same | (refine Same.at (by assumption) ?_; (first | assumption | exact upd_same | (refine Same.at (by assumption) ?_; (first | assumption | exact upd_same | (refine Same.at (by assumption) ?_; (first | assumption | exact upd_same | (refine Same.at (by assumption) ?_; (first | assumption | exact upd_same | (refine Same.at (by assumption) ?_; (first | assumption | exact upd_same))))))))))))))))))))))))))))))⟩ | exact SqT.of (by (first | assumption | exact upd_same | (refine Same.at (by assumption) ?_; (first | assumption | exact upd_same | (refine Same.at (by assumption) ?_; (first | assumption | exact upd_same | (refine Same.at (by assumption) ?_; (first | assumption | exact upd_same | (refine Same.at (by assumption) ?_; (first | assumption | exact upd_same | (refine Same.at (by assumption) ?_; (first | assumption | exact upd_same | (refine Same.at (by assumption) ?_; (first | assumption | exact upd_same | (refine Same.at (by assumption) ?_; (first | assumption | exact upd_same | (refine Same.at (by assumption) ?_; (first | assumption | exact upd_same | (refine Same.at (by assumption) ?_; (first | assumption | exact upd_same | (refine Same.at (by assumption) ?_; (first | assumption | exact upd_same | (refine Same.at (by assumption) ?_; (first | assumption | exact upd_same | (refine Same.at (by assumption) ?_; (first | assumption | exact upd_same | (refine Same.at (by assumption) ?_; (first | assumption | exact upd_same | (refine Same.at (by assumption) ?_; (first | assumption | exact upd_same)))))))))))))))))))))))))))))) | (first | assumption | exact upd_same | (refine Same.at (by assumption) ?_; (first | assumption | exact upd_same | (refine Same.at (by assumption) ?_; (first | assumption | exact upd_same | (refine Same.at (by assumption) ?_; (first | assumption | exact upd_same | (refine Same.at (by assumption) ?_; (first | assumption | exact upd_same | (refine Same.at (by assumption) ?_; (first | assumption | exact upd_same | (refine Same.at (by assumption) ?_; (first | assumption | exact upd_same | (refine Same.at (by assumption) ?_; (first | assumption | exact upd_same | (refine Same.at (by assumption) ?_; (first | assumption | exact upd_same | (refine Same.at (by assumption) ?_; (first | assumption | exact upd_same | (refine Same.at (by assumption) ?_; (first | assumption | exact upd_same | (refine Same.at (by assumption) ?_; (first | assumption | exact upd_same | (refine Same.at (by assumption) ?_; (first | assumption | exact upd_same | (refine Same.at (by assumption) ?_; (first | assumption | exact upd_same | (refine Same.at (by assumption) ?_; (first | assumption | exact upd_same))))))))))))))))))))))))))))) | exact small_le (by simp; done))))
    intro D hD
    refine lc_it walk_str (fun i H' => Same H H' ∧ H' D = some (.lst (signsV (starL (l.take i) js)))) ⟨Same.upd hD, upd_same⟩ (fun _ _ _ _ => trivial) ?_ ?_
    · rintro i x H1 H2 hi ⟨s1, d1⟩ ⟨rfl, c, hc, rfl⟩
      rw [at_S] at hc
      have hl2 : (starL (l.take i) js).length ≤ 50000 := by rw [star_len, List.length_take]; omega
      have e : ∀ y, y = V.str (S [if c ∈ js then 42 else c]) → ∃ acc, H2 D = some (.lst acc) ∧ acc.length < sizeLine ∧ (Same H (L2.upd H2 D (.lst (acc ++ [y]))) ∧ (L2.upd H2 D (.lst (acc ++ [y]))) D = some (.lst (signsV (starL (l.take (i + 1)) js)))) := by
        rintro y rfl
        exact grow hD s1 d1 (by rw [List.length_map, List.length_map]; omega) (by rw [take_snoc hc, star_app]; simp [starL])
      refine ⟨rfl, ?_⟩
      (repeat (first | (apply Exists.intro) | (apply And.intro; first | exact rfl | assumption | exact ⟨_, rfl⟩ | omega | exact SqL.of (by (first | assumption | exact upd_same | (refine Same.at (by assumption) ?_; (first | assumption | exact upd_same | (refine Same.at (by assumption) ?_; (first | assumption | exact upd_same | (refine Same.at (by assumption) ?_; (first | assumption | exact upd_same | (refine Same.at (by assumption) ?_; (first | assumption | exact upd_same | (refine Same.at (by assumption) ?_; (first | assumption | exact upd_same | (refine Same.at (by assumption) ?_; (first | assumption | exact upd_same | (refine Same.at (by assumption) ?_; (first | assumption | exact upd_same | (refine Same.at (by assumption) ?_; (first | assumption | exact upd_same | (refine Same.at (by assumption) ?_; (first | assumption | exact upd_same | (refine Same.at (by assumption) ?_; (first | assumption | exact upd_same | (refine Same.at (by assumption) ?_; (first | assumption | exact upd_same | (refine Same.at (by assumption) ?_; (first | assumption | exact upd_same | (refine Same.at (by assumption) ?_; (first | assumption | exact upd_same | (refine Same.at (by assumption) ?_; (first | assumption | exact upd_same)))))))))))))))))))))))))))))) | exact ⟨_, SqL.of (by (first | assumption | exact upd_same | (refine Same.at (by assumption) ?_; (first | assumption | exact upd_same | (refine Same.at (by assumption) ?_; (first | assumption | exact upd_same | (refine Same.at (by assumption) ?_; (first | assumption | exact upd_same | (refine Same.at (by assumption) ?_; (first | assumption | exact upd_same | (refine Same.at (by assumption) ?_; (first | assumption | exact upd_same | (refine Same.at (by assumption) ?_; (first | assumption | exact upd_same | (refine Same.at (by assumption) ?_; (first | assumption | exact upd_same | (refine Same.at (by assumption) ?_; (first | assumption | exact upd_same | (refine Same.at (by assumption) ?_; (first | assumption | exact upd_same | (refine Same.at (by assumption) ?_; (first | assumption | exact upd_same | (refine Same.at (by assumption) ?_; (first | assumption | exact upd_same | (refine Same.at (by assumption) ?_; (first | assumption | exact upd_same | (refine Same.at (by assumption) ?_; (first | assumption | exact upd_same | (refine Same.at (by assumption) ?_; (first | assumption | exact upd_same))))))))))))))))))))))))))))))⟩ | exact SqT.of (by (first | assumption | exact upd_same | (refine Same.at (by assumption) ?_; (first | assumption | exact upd_same | (refine Same.at (by assumption) ?_; (first | assumption | exact upd_same | (refine Same.at (by assumption) ?_; (first | assumption | exact upd_same | (refine Same.at (by assumption) ?_; (first | assumption | exact upd_same | (refine Same.at (by assumption) ?_; (first | assumption | exact upd_same | (refine Same.at (by assumption) ?_; (first | assumption | exact upd_same | (refine Same.at (by assumption) ?_; (first | assumption | exact upd_same | (refine Same.at (by assumption) ?_; (first | assumption | exact upd_same | (refine Same.at (by assumption) ?_; (first | assumption | exact upd_same | (refine Same.at (by assumption) ?_; (first | assumption | exact upd_same | (refine Same.at (by assumption) ?_; (first | assumption | exact upd_same | (refine Same.at (by assumption) ?_; (first | assumption | exact upd_same | (refine Same.at (by assumption) ?_; (first | assumption | exact upd_same | (refine Same.at (by assumption) ?_; (first | assumption | exact upd_same)))))))))))))))))))))))))))))) | (first | assumption | exact upd_same | (refine Same.at (by assumption) ?_; (first | assumption | exact upd_same | (refine Same.at (by assumption) ?_; (first | assumption | exact upd_same | (refine Same.at (by assumption) ?_; (first | assumption | exact upd_same | (refine Same.at (by assumption) ?_; (first | assumption | exact upd_same | (refine Same.at (by assumption) ?_; (first | assumption | exact upd_same | (refine Same.at (by assumption) ?_; (first | assumption | exact upd_same | (refine Same.at (by assumption) ?_; (first | assumption | exact upd_same | (refine Same.at (by assumption) ?_; (first | assumption | exact upd_same | (refine Same.at (by assumption) ?_; (first | assumption | exact upd_same | (refine Same.at (by assumption) ?_; (first | assumption | exact upd_same | (refine Same.at (by assumption) ?_; (first | assumption | exact upd_same | (refine Same.at (by assumption) ?_; (first | assumption | exact upd_same | (refine Same.at (by assumption) ?_; (first | assumption | exact upd_same | (refine Same.at (by assumption) ?_; (first | assumption | exact upd_same))))))))))))))))))))))))))))) | exact small_le (by simp; done))))
      refine ite2 (fun z => ?_) (fun z => ?_)
      · have z' : c ∈ js := of_decide_eq_true z
        exact e _ (by rw [star_lit, if_pos z'])
      · have z' : ¬ c ∈ js := fun q => z (decide_eq_true q)
        exact ⟨_, rfl, e _ (by rw [if_neg z'])⟩
    rintro H1 ⟨s1, d1⟩
    rw [size_S, List.take_length] at d1
    have hl2 : (starL l js).length ≤ 100000 := by rw [star_len]; omega
    refine ⟨_, D, (starL l js).map fun c => S [c], rfl, rfl, .inl (SqL.of d1), join_bound hl2, ?_⟩
    rw [join_signs]
    exact k _ s1
/-! turnings -/
def sp_turnings : Sp := fun vs H Q _ => ∃ r : List Nat, vs = [.str (S r)] ∧ r.length ≤ 50001 ∧ ∀ p H', H p = none → Same H H' → H' p = some (.lst (wordsV (turnsL r))) → Q (.ref p) H'
theorem ok_turnings (T : Txt K mg) : FnOk P w K mg base CX0 1 T.f_turnings T.fd_turnings P_turnings (sp_turnings) := by
  have nd : N_turnings.Nodup := sc_turnings.nd
  refine T.F_turnings.ok sc_turnings (fun vs H Q E h => ?_) (fun cdv A outer s H vs Q E hr h => ?_)
  · obtain ⟨r, rfl, _⟩ := h
    rfl
  · obtain ⟨r, rfl, hl, k⟩ := h
    refine ⟨_, (pss_one (ps_ret (pe_lc (own := [("cell", 1)]) (hc := rfl) (hN := nd) (pi_range1 rfl T.z_range (pa_cons (pe_callB call_len (by rfl) T.z_len (by decide +kernel) (pa_cons (pv 0) pa_nil)) pa_nil)) (blkOk_by (N := N_turnings) (sc := defScope s_turnings) (by decide +kernel)) (fun _ _ _ _ _ => by exact (pg_name (i := 1) nd rfl (Or.inl rfl))) (fun _ _ _ _ _ => by exact pts_nil) (fun _ _ _ _ _ => by exact (pe_op op_add_str (pe_slice sl_str (pv 0) (po_some (pv 1)) po_none) (pe_slice sl_str (pv 0) po_none (po_some (pv 1)))))))), ?_⟩
    refine ⟨_, rfl, _, r.length, rfl, ⟨by rw [len_S]; exact small_le (by omega), by rw [len_S]⟩, _, rfl, by omega, by omega, fun D hD => ?_⟩
    rw [Int.toNat_natCast]
    refine lc_it walk_range (fun i H' => Same H H' ∧ H' D = some (.lst (wordsV ((turnsL r).take i)))) ⟨Same.upd hD, upd_same⟩ (fun _ _ _ _ => trivial) ?_ ?_
    · rintro i x H1 H2 hi ⟨s1, d1⟩ ⟨rfl, rfl⟩
      have hz : (S r).length ≤ sizeLine := by rw [len_S]; exact small_le (by omega)
      have hc : (turnsL r)[i]? = some (rotL r i) := by unfold turnsL; rw [List.getElem?_map, List.getElem?_range hi]; rfl
      have hlt : (turnsL r).length = r.length := by unfold turnsL; rw [List.length_map, List.length_range]
      refine ⟨rfl, ?_⟩
      refine ⟨_, rfl, _, rfl, _, rfl, _, rfl, hz, ?_⟩
      rw [cutS_from (by omega), show ((0 : Int) + (i : Nat)).toNat = i by omega]
      refine ⟨_, rfl, _, rfl, _, rfl, _, rfl, hz, ?_⟩
      rw [cutS_to (by omega), show ((0 : Int) + (i : Nat)).toNat = i by omega]
      refine ⟨_, _, rfl, rfl, ?_, ?_⟩
      · rw [len_S, len_S, List.length_drop, List.length_take]; exact small_le (by omega)
      rw [SX.S_cat]
      exact grow hD s1 d1 (by rw [List.length_map, List.length_take]; omega) (by rw [take_snoc hc]; simp [wordsV]; rfl)
    rintro H1 ⟨s1, d1⟩
    have hlt : (turnsL r).length = r.length := by unfold turnsL; rw [List.length_map, List.length_range]
    rw [← hlt, List.take_length] at d1
    exact k D H1 hD s1 d1
/-! letters_held -/
def sp_letters_held : Sp := fun vs H Q _ => ∃ l js : List Nat, vs = [.str (S l), .str (S js)] ∧ l.length ≤ 50000 ∧ ∀ (A : List Nat) p H', A.Perm (heldL l js) → A.Pairwise (· ≤ ·) → H p = none → Same H H' → H' p = some (.lst (signsV A)) → Q (.ref p) H'
theorem ok_letters_held (T : Txt K mg) : FnOk P w K mg base CX0 1 T.f_letters_held T.fd_letters_held P_letters_held (sp_letters_held) := by
  have nd : N_letters_held.Nodup := sc_letters_held.nd
  refine T.F_letters_held.ok sc_letters_held (fun vs H Q E h => ?_) (fun cdv A outer s H vs Q E hr h => ?_)
  · obtain ⟨l, js, rfl, _⟩ := h
    rfl
  · obtain ⟨l, js, rfl, hl, k⟩ := h
    refine ⟨_, (pss_one (ps_ret (pe_callB cr_sortedW (by rfl) T.z_sorted (by decide +kernel) (pa_cons (pe_lc (own := [("letter", 2)]) (hc := rfl) (hN := nd) (pi_str (pv 0)) (blkOk_by (N := N_letters_held) (sc := defScope s_letters_held) (by decide +kernel)) (fun _ _ _ _ _ => by exact (pg_name (i := 2) nd rfl (Or.inl rfl))) (fun _ _ _ _ _ => by exact (pts_one (pt_cmpR op_in_sign (pv 2) (pv 1) rfl))) (fun _ _ _ _ _ => by exact (pv 2))) pa_nil)))), ?_⟩
    refine ⟨_, rfl, _, rfl, fun D hD => ?_⟩
    refine lc_it walk_str (fun i H' => Same H H' ∧ H' D = some (.lst (signsV (heldL (l.take i) js)))) ⟨Same.upd hD, upd_same⟩ (fun _ _ _ _ => trivial) ?_ ?_
    · rintro i x H1 H2 hi ⟨s1, d1⟩ ⟨rfl, c, hcl, rfl⟩
      rw [at_S] at hcl
      have hfl := List.length_filter_le (fun c => decide (c ∈ js)) (l.take i)
      rw [List.length_take] at hfl
      refine ⟨rfl, _, rfl, _, rfl, c, S js, rfl, rfl, _, rfl, ?_⟩
      have es : (S js).cps.toList = js := by simp [SX.S]
      rw [es]
      refine ite2 (fun z => ?_) (fun z => ?_)
      · have z' : c ∈ js := by simpa using z
        exact ⟨_, rfl, grow hD s1 d1 (by rw [wordV_len]; show (List.filter _ _).length ≤ _; omega) (by unfold heldL; rw [take_snoc hcl, List.filter_append]; simp [z'])⟩
      · have z' : ¬ c ∈ js := by simpa using z
        exact ⟨s1, by rw [d1]; unfold heldL; rw [take_snoc hcl, List.filter_append]; simp [z']⟩
    rintro H1 ⟨s1, d1⟩
    rw [size_S, List.take_length] at d1
    have hfl := List.length_filter_le (fun c => decide (c ∈ js)) l
    refine ⟨D, (heldL l js).map fun c => [c], rfl, SqL.of (by rw [← signs_words]; exact d1), by rw [List.length_map]; exact small_le (by show (List.filter _ _).length ≤ _; omega), fun us q hus hso hq => ?_⟩
    have e1 : us.map S = us.map S := rfl
    obtain ⟨A, eA, hA, hpw⟩ := perm_signs (ws := heldL l js) (ys := us.map S) (by have := hus.map S; rw [List.map_map] at this; exact this) hso
    have e2 : wordsV us = signsV A := by
      have : (us.map S).map V.str = (A.map fun c => S [c]).map V.str := by rw [eA]
      rw [List.map_map] at this
      exact this
    rw [e2]
    exact k A q _ hA hpw (s1.free hq) (s1.trans (Same.upd hq)) upd_same
/-! _law_hash -/
def sp__law_hash : Sp := fun vs H Q _ => ∃ a b : Int, vs = [.int a, .int b] ∧ (0 ≤ a ∧ a < 2147483647) ∧ (0 ≤ b ∧ b ≤ 1000000000) ∧ ∀ r : Int, 0 ≤ r → r < 2147483647 → Q (.int r) H
theorem ok__law_hash (T : Txt K mg) : FnOk P w K mg base CX0 1 T.f__law_hash T.fd__law_hash P__law_hash (sp__law_hash) := by
  have nd : N__law_hash.Nodup := sc__law_hash.nd
  refine T.F__law_hash.ok sc__law_hash (fun vs H Q E h => ?_) (fun cdv A outer s H vs Q E hr h => ?_)
  · obtain ⟨a, b, rfl, _⟩ := h
    rfl
  · obtain ⟨a, b, rfl, ha, hb, k⟩ := h
    refine ⟨_, (pss_cons (ps_set (i := 2) nd rfl (Or.inl rfl) (pe_op op_mod (pe_callTy call_int1 (by rfl) T.z_int (by decide +kernel) (pa_cons (pe_op op_add (pe_op op_add (pe_op op_add (pe_op op_mul (pv 0) pe_int) (pe_op op_mul (pe_op op_mul pe_int (pv 1)) (pv 1))) (pe_op op_mul pe_int (pv 1))) pe_int) pa_nil)) pe_int))
      (pss_cons (ps_set (i := 2) nd rfl (Or.inl rfl) (pe_op op_mod (pe_callTy call_int1 (by rfl) T.z_int (by decide +kernel) (pa_cons (pe_op op_add (pe_op op_add (pe_op op_mul (pv 2) (pv 2)) (pe_op op_mul pe_int (pv 1))) pe_int) pa_nil)) pe_int))
      (pss_one (ps_ret (pe_op op_mod (pe_callTy call_int1 (by rfl) T.z_int (by decide +kernel) (pa_cons (pe_op op_mul (pv 2) pe_int) pa_nil)) pe_int))))), ?_⟩
    refine ⟨_, rfl, _, _, rfl, rfl, .inl ⟨by omega, by omega⟩, _, rfl, _, _, rfl, rfl, .inl ⟨by decide, by decide⟩, _, rfl, _, _, rfl, rfl, .inl ⟨by omega, by omega⟩, ?_⟩
    refine ⟨_, _, rfl, rfl, _, rfl, _, _, rfl, rfl, .inl ⟨by decide, by decide⟩, _, _, rfl, rfl, _, _, rfl, rfl, .inl ⟨_, rfl, ?_⟩⟩
    refine ⟨_, _, rfl, rfl, (by show (0 : Int) < 2147483629; decide), ?_⟩
    refine ⟨_, rfl, _, rfl, _, _, rfl, rfl, .inl ⟨by omega, by omega⟩, _, rfl, _, _, rfl, rfl, .inl ⟨by decide, by decide⟩, _, _, rfl, rfl, _, _, rfl, rfl, .inl ⟨_, rfl, ?_⟩⟩
    refine ⟨_, _, rfl, rfl, (by show (0 : Int) < 2147483587; decide), ?_⟩
    refine ⟨_, rfl, _, _, rfl, rfl, .inl ⟨by omega, by omega⟩, .inl ⟨_, rfl, ?_⟩⟩
    refine ⟨_, _, rfl, rfl, (by show (0 : Int) < 2147483647; decide), ?_⟩
    exact k _ (Int.emod_nonneg _ (by decide)) (Int.emod_lt_of_pos _ (by decide))
/-! _law_cell -/
def sp__law_cell (K : PySem.W.Frag) : Sp := fun vs H Q _ => ∃ (a : Addr) (ns : List Int) (j : Nat), vs = [.ref a, .int (j : Int)] ∧ SqL K H a (ns.map V.int) ∧ ∀ (r : Int) H', Same H H' → Q (.int r) H'
theorem ok__law_cell (T : Txt K mg) : FnOk P w K mg base CX0 1 T.f__law_cell T.fd__law_cell P__law_cell (sp__law_cell K) := by
  have nd : N__law_cell.Nodup := sc__law_cell.nd
  refine T.F__law_cell.ok sc__law_cell (fun vs H Q E h => ?_) (fun cdv A outer s H vs Q E hr h => ?_)
  · obtain ⟨a, ns, j, rfl, _⟩ := h
    rfl
  · obtain ⟨a, ns, j, rfl, hS, k⟩ := h
    refine ⟨_, (pss_cons (ps_if (pt_cmpR op_lt (pv 1) (pe_callB call_len_seq (by rfl) T.z_len (by decide +kernel) (pa_cons (pv 0) pa_nil)) (nomark _)) (pss_one (ps_ret (pe_ix ix_list (pv 0) (pv 1) (fun _ _ => rfl)))) pss_nil)
      (pss_one (ps_ret (pe_op op_mod (pe_callB (cr_sum rfl) (by rfl) T.z_sum (by decide +kernel) (pa_cons (pe_slice sl_list (pv 0) po_none (po_some pe_int)) pa_nil)) pe_int)))), ?_⟩
    refine ⟨_, rfl, _, rfl, a, _, rfl, .inl hS, _, _, rfl, rfl, _, rfl, ite2 (fun q => ?_) (fun q => ?_)⟩
    · have q' : j < ns.length := by have := of_decide_eq_true q; rw [List.length_map] at this; omega
      exact ⟨_, rfl, _, rfl, a, _, _, V.int ns[j], rfl, rfl, hS, atI_nat (by rw [List.getElem?_map, List.getElem?_eq_getElem q']; rfl), k _ _ (Same.refl _)⟩
    · refine ⟨_, rfl, _, rfl, a, _, rfl, hS, fun p hp => ?_⟩
      refine ⟨p, ns.take 1, rfl, SqL.of (by rw [upd_same, cutV_to1]), _, _, rfl, rfl, (by show (0 : Int) < 1000003; decide), k _ _ (Same.upd hp)⟩
/-! _law_deed -/
def sp__law_deed : Sp := fun vs H Q _ => ∃ (l : List Nat) (p : Nat), vs = [.str (S l), .int (p : Int)] ∧ l.length ≤ 50000 ∧ p < l.length ∧ Q (.str (S (swapL l p))) H
theorem ok__law_deed (T : Txt K mg) : FnOk P w K mg base CX0 1 T.f__law_deed T.fd__law_deed P__law_deed (sp__law_deed) := by
  have nd : N__law_deed.Nodup := sc__law_deed.nd
  refine T.F__law_deed.ok sc__law_deed (fun vs H Q E h => ?_) (fun cdv A outer s H vs Q E hr h => ?_)
  · obtain ⟨l, p, rfl, _⟩ := h
    rfl
  · obtain ⟨l, p, rfl, hl, hp, k⟩ := h
    refine ⟨_, (pss_one (ps_ret (pe_op op_add_str (pe_op op_add_str (pe_slice sl_str (pv 0) (po_some (pe_op op_add (pv 1) pe_int)) po_none) (pe_item_str (pv 0) (pv 1) (fun _ _ => rfl))) (pe_slice sl_str (pv 0) po_none (po_some (pv 1)))))), ?_⟩
    have hz : (S l).length ≤ sizeLine := by rw [len_S]; exact small_le (by omega)
    have hc : l[p]? = some l[p] := List.getElem?_eq_getElem hp
    refine ⟨_, rfl, _, rfl, _, _, rfl, rfl, _, rfl, _, rfl, hz, ?_⟩
    rw [cutS_from (by omega), show ((p : Int) + 1).toNat = p + 1 by omega]
    refine ⟨_, rfl, _, rfl, S l, p, l[p], rfl, rfl, by omega, by omega, by rw [len_S]; omega, by rw [Int.toNat_natCast, at_S]; exact hc, ?_⟩
    refine ⟨_, S [l[p]], rfl, rfl, ?_, ?_⟩
    · rw [len_S, len_S, List.length_drop]; exact small_le (by simp; omega)
    refine ⟨_, rfl, _, rfl, _, rfl, _, rfl, hz, ?_⟩
    rw [cutS_to (by omega), Int.toNat_natCast, SX.S_cat]
    refine ⟨_, _, rfl, rfl, ?_, ?_⟩
    · rw [len_S, len_S, List.length_append, List.length_drop, List.length_take]; exact small_le (by simp; omega)
    rw [SX.S_cat, ← swapL_one hc]
    exact k
/-! _law_places -/
def sp__law_places : Sp := fun vs H Q _ => ∃ (l js : List Nat), vs = [.str (S l), .str (S js)] ∧ l.length ≤ 50000 ∧ ∀ p H', H p = none → Same H H' → H' p = some (.lst (placesV (openL l js))) → Q (.ref p) H'
theorem ok__law_places (T : Txt K mg) : FnOk P w K mg base CX0 1 T.f__law_places T.fd__law_places P__law_places (sp__law_places) := by
  have nd : N__law_places.Nodup := sc__law_places.nd
  refine T.F__law_places.ok sc__law_places (fun vs H Q E h => ?_) (fun cdv A outer s H vs Q E hr h => ?_)
  · obtain ⟨l, js, rfl, _⟩ := h
    rfl
  · obtain ⟨l, js, rfl, hl, k⟩ := h
    refine ⟨_, (pss_one (ps_ret (pe_lc (own := [("_law_place", 2), ("_law_letter", 3)]) (hc := rfl) (hN := nd) (pi_enumS (by rfl) T.z_enumerate (pa_cons (pv 0) pa_nil)) (blkOk_by (N := N__law_places) (sc := defScope s__law_places) (by decide +kernel)) (fun _ _ _ _ _ => by exact (pg_tupK K (n := 2) rfl (pgs_cons (by exact (pg_name (i := 2) nd rfl (Or.inl rfl))) (pgs_cons (by exact (pg_name (i := 3) nd rfl (Or.inl rfl))) pgs_nil)))) (fun _ _ _ _ _ => by exact (pts_one (pt_cmpR op_in_sign (pv 3) (pv 1) rfl))) (fun _ _ _ _ _ => by exact (pv 2))))), ?_⟩
    refine ⟨_, rfl, _, rfl, fun D hD => ?_⟩
    refine lc_it walk_enumS (fun i H' => Same H H' ∧ H' D = some (.lst (placesV (openL (l.take i) js)))) ⟨Same.upd hD, by rw [upd_same]; rfl⟩ (fun _ _ _ _ => trivial) ?_ ?_
    · rintro i x H3 H4 hi ⟨s3, d3⟩ ⟨T1, x1, y1, rfl, hT, rfl, h1, h2⟩
      replace h2 : (l[i]?).map (fun c => V.str ⟨#[c]⟩) = some y1 := by rw [← at_S]; exact h2
      have h1' : V.int (i : Nat) = x1 := Option.some.inj h1
      subst h1'
      obtain ⟨c, hc, rfl⟩ := Option.map_eq_some_iff.mp h2
      have nT : D ≠ T1 := ne_of_none d3 hT
      have ee := openL_snoc js hc
      have hlen := openL_len (l.take i) js
      rw [List.length_take] at hlen
      refine ⟨T1, _, rfl, SqT.of upd_same, rfl, _, _, rfl, _, _, rfl, rfl, rfl, ?_⟩
      refine ⟨_, rfl, _, rfl, c, S js, rfl, rfl, _, rfl, ?_⟩
      refine ite2 (fun z => ?_) (fun z => ?_)
      · rw [if_pos (of_decide_eq_true z)] at ee
        exact ⟨_, rfl, grow hD (s3.trans (Same.upd hT)) (Same.at (Same.upd hT) d3) (by rw [List.length_map]; omega) (by rw [ee]; simp [placesV])⟩
      · rw [if_neg (fun q => z (decide_eq_true q))] at ee
        exact ⟨s3.trans (Same.upd hT), by rw [upd_ne nT, d3, ee]; simp⟩
    rintro H3 ⟨s3, d3⟩
    rw [size_S, List.take_length] at d3
    exact k D H3 hD s3 d3
/-! _law_ring -/
def sp__law_ring : Sp := fun vs H Q _ => ∃ l js : List Nat, vs = [.str (S l), .str (S js)] ∧ l.length ≤ 50000 ∧ ∀ H', Same H H' → Q (.str (S (ringL l js))) H'
theorem ok__law_ring (T : Txt K mg) : FnOk P w K mg base CX0 1 T.f__law_ring T.fd__law_ring P__law_ring (sp__law_ring) := by
  have nd : N__law_ring.Nodup := sc__law_ring.nd
  refine T.F__law_ring.ok sc__law_ring (fun vs H Q E h => ?_) (fun cdv A outer s H vs Q E hr h => ?_)
  · obtain ⟨l, js, rfl, _⟩ := h
    rfl
  · obtain ⟨l, js, rfl, hl, k⟩ := h
    refine ⟨_, (pss_one (ps_ret (pe_op op_add_str (pe_join pe_str (pe_lc (own := [("_law_letter", 2)]) (hc := rfl) (hN := nd) (pi_str (pv 0)) (blkOk_by (N := N__law_ring) (sc := defScope s__law_ring) (by decide +kernel)) (fun _ _ _ _ _ => by exact (pg_name (i := 2) nd rfl (Or.inl rfl))) (fun _ _ _ _ _ => by exact pts_nil) (fun _ _ _ _ _ => by exact (pe_ifExp (pt_cmpR op_in_sign (pv 2) (pv 1) rfl) pe_str (pv 2))))) pe_str))), ?_⟩
    (repeat (first | (apply Exists.intro) | (apply And.intro; first | exact rfl | assumption | exact ⟨_, rfl⟩ | omega | exact SqL.of (by (first | assumption | exact upd_same | (refine Same.at (by assumption) ?_; (first | assumption | exact upd_same | (refine Same.at (by assumption) ?_; (first | assumption | exact upd_same | (refine Same.at (by assumption) ?_; (first | assumption | exact upd_same | (refine Same.at (by assumption) ?_; (first | assumption | exact upd_same | (refine Same.at (by assumption) ?_; (first | assumption | exact upd_same | (refine Same.at (by assumption) ?_; (first | assumption | exact upd_same | (refine Same.at (by assumption) ?_; (first | assumption | exact upd_same | (refine Same.at (by assumption) ?_; (first | assumption | exact upd_same | (refine Same.at (by assumption) ?_; (first | assumption | exact upd_same | (refine Same.at (by assumption) ?_; (first | assumption | exact upd_same | (refine Same.at (by assumption) ?_; (first | assumption | exact upd_same | (refine Same.at (by assumption) ?_; (first | assumption | exact upd_same | (refine Same.at (by assumption) ?_; (first | assumption | exact upd_same | (refine Same.at (by assumption) ?_; (first | assumption | exact upd_same)))))))))))))))))))))))))))))) | exact ⟨_, SqL.of (by (first | assumption | exact upd_same | (refine Same.at (by assumption) ?_; (first | assumption | exact upd_same | (refine Same.at (by assumption) ?_; (first | assumption | exact upd_same | (refine Same.at (by assumption) ?_; (first | assumption | exact upd_same | (refine Same.at (by assumption) ?_; (first | assumption | exact upd_same | (refine Same.at (by assumption) ?_; (first | assumption | exact upd_same | (refine Same.at (by assumption) ?_; (first | assumption | exact upd_same | (refine Same.at (by assumption) ?_; (first | assumption | exact upd_same | (refine Same.at (by assumption) ?_; (first | assumption | exact upd_same | (refine Same.at (by assumption) ?_; (first | assumption | exact upd_same | (refine Same.at (by assumption) ?_; (first | assumption | exact upd_same | (refine Same.at (by assumption) ?_; (first | assumption | exact upd_same | (refine Same.at (by assumption) ?_; (first | assumption | exact upd_same | (refine Same.at (by assumption) ?_; (first | assumption | exact upd_same | (refine Same.at (by assumption) ?_; (first | assumption | exact upd_same))))))))))))))))))))))))))))))⟩ | exact SqT.of (by (first | assumption | exact upd_same | (refine Same.at (by assumption) ?_; (first | assumption | exact upd_same | (refine Same.at (by assumption) ?_; (first | assumption | exact upd_same | (refine Same.at (by assumption) ?_; (first | assumption | exact upd_same | (refine Same.at (by assumption) ?_; (first | assumption | exact upd_same | (refine Same.at (by assumption) ?_; (first | assumption | exact upd_same | (refine Same.at (by assumption) ?_; (first | assumption | exact upd_same | (refine Same.at (by assumption) ?_; (first | assumption | exact upd_same | (refine Same.at (by assumption) ?_; (first | assumption | exact upd_same | (refine Same.at (by assumption) ?_; (first | assumption | exact upd_same | (refine Same.at (by assumption) ?_; (first | assumption | exact upd_same | (refine Same.at (by assumption) ?_; (first | assumption | exact upd_same | (refine Same.at (by assumption) ?_; (first | assumption | exact upd_same | (refine Same.at (by assumption) ?_; (first | assumption | exact upd_same | (refine Same.at (by assumption) ?_; (first | assumption | exact upd_same)))))))))))))))))))))))))))))) | (first | assumption | exact upd_same | (refine Same.at (by assumption) ?_; (first | assumption | exact upd_same | (refine Same.at (by assumption) ?_; (first | assumption | exact upd_same | (refine Same.at (by assumption) ?_; (first | assumption | exact upd_same | (refine Same.at (by assumption) ?_; (first | assumption | exact upd_same | (refine Same.at (by assumption) ?_; (first | assumption | exact upd_same | (refine Same.at (by assumption) ?_; (first | assumption | exact upd_same | (refine Same.at (by assumption) ?_; (first | assumption | exact upd_same | (refine Same.at (by assumption) ?_; (first | assumption | exact upd_same | (refine Same.at (by assumption) ?_; (first | assumption | exact upd_same | (refine Same.at (by assumption) ?_; (first | assumption | exact upd_same | (refine Same.at (by assumption) ?_; (first | assumption | exact upd_same | (refine Same.at (by assumption) ?_; (first | assumption | exact upd_same | (refine Same.at (by assumption) ?_; (first | assumption | exact upd_same | (refine Same.at (by assumption) ?_; (first | assumption | exact upd_same))))))))))))))))))))))))))))) | exact small_le (by simp; done))))
    intro D hD
    refine lc_it walk_str (fun i H' => Same H H' ∧ H' D = some (.lst (signsV (starL (l.take i) js)))) ⟨Same.upd hD, upd_same⟩ (fun _ _ _ _ => trivial) ?_ ?_
    · rintro i x H1 H2 hi ⟨s1, d1⟩ ⟨rfl, c, hc, rfl⟩
      rw [at_S] at hc
      have hl2 : (starL (l.take i) js).length ≤ 50000 := by rw [star_len, List.length_take]; omega
      have e : ∀ y, y = V.str (S [if c ∈ js then 42 else c]) → ∃ acc, H2 D = some (.lst acc) ∧ acc.length < sizeLine ∧ (Same H (L2.upd H2 D (.lst (acc ++ [y]))) ∧ (L2.upd H2 D (.lst (acc ++ [y]))) D = some (.lst (signsV (starL (l.take (i + 1)) js)))) := by
        rintro y rfl
        exact grow hD s1 d1 (by rw [List.length_map, List.length_map]; omega) (by rw [take_snoc hc, star_app]; simp [starL])
      refine ⟨rfl, ?_⟩
      (repeat (first | (apply Exists.intro) | (apply And.intro; first | exact rfl | assumption | exact ⟨_, rfl⟩ | omega | exact SqL.of (by (first | assumption | exact upd_same | (refine Same.at (by assumption) ?_; (first | assumption | exact upd_same | (refine Same.at (by assumption) ?_; (first | assumption | exact upd_same | (refine Same.at (by assumption) ?_; (first | assumption | exact upd_same | (refine Same.at (by assumption) ?_; (first | assumption | exact upd_same | (refine Same.at (by assumption) ?_; (first | assumption | exact upd_same | (refine Same.at (by assumption) ?_; (first | assumption | exact upd_same | (refine Same.at (by assumption) ?_; (first | assumption | exact upd_same | (refine Same.at (by assumption) ?_; (first | assumption | exact upd_same | (refine Same.at (by assumption) ?_; (first | assumption | exact upd_same | (refine Same.at (by assumption) ?_; (first | assumption | exact upd_same | (refine Same.at (by assumption) ?_; (first | assumption | exact upd_same | (refine Same.at (by assumption) ?_; (first | assumption | exact upd_same | (refine Same.at (by assumption) ?_; (first | assumption | exact upd_same | (refine Same.at (by assumption) ?_; (first | assumption | exact upd_same)))))))))))))))))))))))))))))) | exact ⟨_, SqL.of (by (first | assumption | exact upd_same | (refine Same.at (by assumption) ?_; (first | assumption | exact upd_same | (refine Same.at (by assumption) ?_; (first | assumption | exact upd_same | (refine Same.at (by assumption) ?_; (first | assumption | exact upd_same | (refine Same.at (by assumption) ?_; (first | assumption | exact upd_same | (refine Same.at (by assumption) ?_; (first | assumption | exact upd_same | (refine Same.at (by assumption) ?_; (first | assumption | exact upd_same | (refine Same.at (by assumption) ?_; (first | assumption | exact upd_same | (refine Same.at (by assumption) ?_; (first | assumption | exact upd_same | (refine Same.at (by assumption) ?_; (first | assumption | exact upd_same | (refine Same.at (by assumption) ?_; (first | assumption | exact upd_same | (refine Same.at (by assumption) ?_; (first | assumption | exact upd_same | (refine Same.at (by assumption) ?_; (first | assumption | exact upd_same | (refine Same.at (by assumption) ?_; (first | assumption | exact upd_same | (refine Same.at (by assumption) ?_; (first | assumption | exact upd_same))))))))))))))))))))))))))))))⟩ | exact SqT.of (by (first | assumption | exact upd_same | (refine Same.at (by assumption) ?_; (first | assumption | exact upd_same | (refine Same.at (by assumption) ?_; (first | assumption | exact upd_same | (refine Same.at (by assumption) ?_; (first | assumption | exact upd_same | (refine Same.at (by assumption) ?_; (first | assumption | exact upd_same | (refine Same.at (by assumption) ?_; (first | assumption | exact upd_same | (refine Same.at (by assumption) ?_; (first | assumption | exact upd_same | (refine Same.at (by assumption) ?_; (first | assumption | exact upd_same | (refine Same.at (by assumption) ?_; (first | assumption | exact upd_same | (refine Same.at (by assumption) ?_; (first | assumption | exact upd_same | (refine Same.at (by assumption) ?_; (first | assumption | exact upd_same | (refine Same.at (by assumption) ?_; (first | assumption | exact upd_same | (refine Same.at (by assumption) ?_; (first | assumption | exact upd_same | (refine Same.at (by assumption) ?_; (first | assumption | exact upd_same | (refine Same.at (by assumption) ?_; (first | assumption | exact upd_same)))))))))))))))))))))))))))))) | (first | assumption | exact upd_same | (refine Same.at (by assumption) ?_; (first | assumption | exact upd_same | (refine Same.at (by assumption) ?_; (first | assumption | exact upd_same | (refine Same.at (by assumption) ?_; (first | assumption | exact upd_same | (refine Same.at (by assumption) ?_; (first | assumption | exact upd_same | (refine Same.at (by assumption) ?_; (first | assumption | exact upd_same | (refine Same.at (by assumption) ?_; (first | assumption | exact upd_same | (refine Same.at (by assumption) ?_; (first | assumption | exact upd_same | (refine Same.at (by assumption) ?_; (first | assumption | exact upd_same | (refine Same.at (by assumption) ?_; (first | assumption | exact upd_same | (refine Same.at (by assumption) ?_; (first | assumption | exact upd_same | (refine Same.at (by assumption) ?_; (first | assumption | exact upd_same | (refine Same.at (by assumption) ?_; (first | assumption | exact upd_same | (refine Same.at (by assumption) ?_; (first | assumption | exact upd_same | (refine Same.at (by assumption) ?_; (first | assumption | exact upd_same))))))))))))))))))))))))))))) | exact small_le (by simp; done))))
      refine ite2 (fun z => ?_) (fun z => ?_)
      · have z' : c ∈ js := of_decide_eq_true z
        exact e _ (by rw [star_lit, if_pos z'])
      · have z' : ¬ c ∈ js := fun q => z (decide_eq_true q)
        exact ⟨_, rfl, e _ (by rw [if_neg z'])⟩
    rintro H1 ⟨s1, d1⟩
    rw [size_S, List.take_length] at d1
    have hl2 : (starL l js).length ≤ 100000 := by rw [star_len]; omega
    refine ⟨_, D, (starL l js).map fun c => S [c], rfl, rfl, .inl (SqL.of d1), join_bound hl2, ?_⟩
    rw [join_signs]
    refine ⟨_, _, rfl, rfl, ?_, ?_⟩
    · rw [star_lit, len_S, len_S, star_len]; exact small_le (by simp; omega)
    rw [star_lit, SX.S_cat]
    exact k _ s1
/-! _law_turnings -/
def sp__law_turnings : Sp := fun vs H Q _ => ∃ r : List Nat, vs = [.str (S r)] ∧ r.length ≤ 50001 ∧ ∀ p H', H p = none → Same H H' → H' p = some (.lst (wordsV (turnsL r))) → Q (.ref p) H'
theorem ok__law_turnings (T : Txt K mg) : FnOk P w K mg base CX0 1 T.f__law_turnings T.fd__law_turnings P__law_turnings (sp__law_turnings) := by
  have nd : N__law_turnings.Nodup := sc__law_turnings.nd
  refine T.F__law_turnings.ok sc__law_turnings (fun vs H Q E h => ?_) (fun cdv A outer s H vs Q E hr h => ?_)
  · obtain ⟨r, rfl, _⟩ := h
    rfl
  · obtain ⟨r, rfl, hl, k⟩ := h
    refine ⟨_, (pss_one (ps_ret (pe_lc (own := [("_law_cell_here", 1)]) (hc := rfl) (hN := nd) (pi_range1 rfl T.z_range (pa_cons (pe_callB call_len (by rfl) T.z_len (by decide +kernel) (pa_cons (pv 0) pa_nil)) pa_nil)) (blkOk_by (N := N__law_turnings) (sc := defScope s__law_turnings) (by decide +kernel)) (fun _ _ _ _ _ => by exact (pg_name (i := 1) nd rfl (Or.inl rfl))) (fun _ _ _ _ _ => by exact pts_nil) (fun _ _ _ _ _ => by exact (pe_op op_add_str (pe_slice sl_str (pv 0) (po_some (pv 1)) po_none) (pe_slice sl_str (pv 0) po_none (po_some (pv 1)))))))), ?_⟩
    refine ⟨_, rfl, _, r.length, rfl, ⟨by rw [len_S]; exact small_le (by omega), by rw [len_S]⟩, _, rfl, by omega, by omega, fun D hD => ?_⟩
    rw [Int.toNat_natCast]
    refine lc_it walk_range (fun i H' => Same H H' ∧ H' D = some (.lst (wordsV ((turnsL r).take i)))) ⟨Same.upd hD, upd_same⟩ (fun _ _ _ _ => trivial) ?_ ?_
    · rintro i x H1 H2 hi ⟨s1, d1⟩ ⟨rfl, rfl⟩
      have hz : (S r).length ≤ sizeLine := by rw [len_S]; exact small_le (by omega)
      have hc : (turnsL r)[i]? = some (rotL r i) := by unfold turnsL; rw [List.getElem?_map, List.getElem?_range hi]; rfl
      have hlt : (turnsL r).length = r.length := by unfold turnsL; rw [List.length_map, List.length_range]
      refine ⟨rfl, ?_⟩
      refine ⟨_, rfl, _, rfl, _, rfl, _, rfl, hz, ?_⟩
      rw [cutS_from (by omega), show ((0 : Int) + (i : Nat)).toNat = i by omega]
      refine ⟨_, rfl, _, rfl, _, rfl, _, rfl, hz, ?_⟩
      rw [cutS_to (by omega), show ((0 : Int) + (i : Nat)).toNat = i by omega]
      refine ⟨_, _, rfl, rfl, ?_, ?_⟩
      · rw [len_S, len_S, List.length_drop, List.length_take]; exact small_le (by omega)
      rw [SX.S_cat]
      exact grow hD s1 d1 (by rw [List.length_map, List.length_take]; omega) (by rw [take_snoc hc]; simp [wordsV]; rfl)
    rintro H1 ⟨s1, d1⟩
    have hlt : (turnsL r).length = r.length := by unfold turnsL; rw [List.length_map, List.length_range]
    rw [← hlt, List.take_length] at d1
    exact k D H1 hD s1 d1
/-! _law_same -/
def sp__law_same (K : PySem.W.Frag) : Sp := fun vs H Q _ => ∃ (v w : V) (t : Str), vs = [v, w] ∧ Rp K H v t ∧ Rp K H w t ∧ Q (.bl true) H
theorem ok__law_same (T : Txt K mg) : FnC P w K mg base CX0 1 T.f__law_same T.fd__law_same P__law_same (sp__law_same K) := by
  have nd : N__law_same.Nodup := sc__law_same.nd
  refine okC T.F__law_same sc__law_same (fun vs H Q E h => ?_) (fun cdv A outer s H vs Q E hr hc h => ?_)
  · obtain ⟨v, w, t, rfl, _⟩ := h
    rfl
  · obtain ⟨v, w, t, rfl, hv, hw, k⟩ := h
    refine ⟨_, (pss_one (ps_ret (pe_cmpR op_eq (pe_callB (call_reprV hc hr.units) (by rfl) T.z_repr (by decide +kernel) (pa_cons (pv 0) pa_nil)) (pe_callB (call_reprV hc hr.units) (by rfl) T.z_repr (by decide +kernel) (pa_cons (pv 1) pa_nil)) (nomark _)))), ?_⟩
    refine ⟨_, rfl, v, t, rfl, hv, _, rfl, w, t, rfl, hw, rfl, ?_⟩
    have e : Q (V.bl (decide (V.str t = V.str t))) H := by rw [decide_eq_true rfl]; exact k
    exact e
/-! is_joints -/
def sp_is_joints : Sp := fun vs H Q _ => ∃ l : List Nat, vs = [.str (S l)] ∧ l.length ≤ 50000 ∧ ∀ H', Same H H' → Q (.bl (jointsB l)) H'
theorem ok_is_joints (T : Txt K mg) : FnOk P w K mg base CX0 2 T.f_is_joints T.fd_is_joints P_is_joints (sp_is_joints) := by
  have nd : N_is_joints.Nodup := sc_is_joints.nd
  refine T.F_is_joints.ok sc_is_joints (fun vs H Q E h => ?_) (fun cdv A outer s H vs Q E hr h => ?_)
  · obtain ⟨l, rfl, _⟩ := h
    rfl
  · obtain ⟨l, rfl, hl, k⟩ := h
    refine ⟨_, (pss_one (ps_ret (pe_and (pe_call (ok_is_word T) (hr.mono (by decide)) rfl T.m_is_word T.F_is_word.kp T.b_is_word .nil pass0 (pa_cons (pv 0) pa_nil)) (pe_one (pe_call (ok__ascends T) (hr.mono (by decide)) rfl T.m__ascends T.F__ascends.kp T.b__ascends .nil pass0 (pa_cons (pv 0) pa_nil)))))), ?_⟩
    refine ⟨_, rfl, l, rfl, hl, fun H1 s1 => ⟨_, rfl, ite2 (fun z => ?_) (fun z => ?_)⟩⟩
    · refine ⟨_, rfl, l, rfl, hl, fun H2 s2 => ?_⟩
      have e : ascB l = jointsB l := by unfold jointsB; rw [z]; rfl
      rw [e]
      exact k _ (s1.trans s2)
    · have e : jointsB l = false := by unfold jointsB; rw [Bool.eq_false_iff.mpr z]; rfl
      have q := k _ s1
      rw [e] at q
      exact q
/-! check_word -/
def sp_check_word : Sp := fun vs H Q _ => ∃ l : List Nat, vs = [.str (S l)] ∧ l.length ≤ 50000 ∧ wordB l = true ∧ ∀ H', Same H H' → Q .non H'
theorem ok_check_word (T : Txt K mg) : FnOk P w K mg base CX0 2 T.f_check_word T.fd_check_word P_check_word (sp_check_word) := by
  have nd : N_check_word.Nodup := sc_check_word.nd
  refine T.F_check_word.ok sc_check_word (fun vs H Q E h => ?_) (fun cdv A outer s H vs Q E hr h => ?_)
  · obtain ⟨l, rfl, _⟩ := h
    rfl
  · obtain ⟨l, rfl, hl, hw, k⟩ := h
    refine ⟨_, (pss_one (ps_if (pt_not (pt_val (pe_call (ok_is_word T) (hr.mono (by decide)) rfl T.m_is_word T.F_is_word.kp T.b_is_word .nil pass0 (pa_cons (pv 0) pa_nil)))) pss_never pss_nil)), ?_⟩
    refine ⟨_, rfl, l, rfl, hl, fun H1 s1 => ⟨_, rfl, ?_⟩⟩
    rw [hw]
    exact iteF (k _ s1)
/-! ring_stars -/
def sp_ring_stars : Sp := fun vs H Q _ => ∃ l js : List Nat, vs = [.str (S l), .str (S js)] ∧ l.length ≤ 50000 ∧ ∀ H', Same H H' → Q (.str (S (ringL l js))) H'
theorem ok_ring_stars (T : Txt K mg) : FnOk P w K mg base CX0 2 T.f_ring_stars T.fd_ring_stars P_ring_stars (sp_ring_stars) := by
  have nd : N_ring_stars.Nodup := sc_ring_stars.nd
  refine T.F_ring_stars.ok sc_ring_stars (fun vs H Q E h => ?_) (fun cdv A outer s H vs Q E hr h => ?_)
  · obtain ⟨l, js, rfl, _⟩ := h
    rfl
  · obtain ⟨l, js, rfl, hl, k⟩ := h
    refine ⟨_, (pss_one (ps_ret (pe_op op_add_str (pe_call (ok_starred T) (hr.mono (by decide)) rfl T.m_starred T.F_starred.kp T.b_starred .nil pass0 (pa_cons (pv 0) (pa_cons (pv 1) pa_nil))) pe_str))), ?_⟩
    (repeat (first | (apply Exists.intro) | (apply And.intro; first | exact rfl | assumption | exact ⟨_, rfl⟩ | omega | exact SqL.of (by (first | assumption | exact upd_same | (refine Same.at (by assumption) ?_; (first | assumption | exact upd_same | (refine Same.at (by assumption) ?_; (first | assumption | exact upd_same | (refine Same.at (by assumption) ?_; (first | assumption | exact upd_same | (refine Same.at (by assumption) ?_; (first | assumption | exact upd_same | (refine Same.at (by assumption) ?_; (first | assumption | exact upd_same | (refine Same.at (by assumption) ?_; (first | assumption | exact upd_same | (refine Same.at (by assumption) ?_; (first | assumption | exact upd_same | (refine Same.at (by assumption) ?_; (first | assumption | exact upd_same | (refine Same.at (by assumption) ?_; (first | assumption | exact upd_same | (refine Same.at (by assumption) ?_; (first | assumption | exact upd_same | (refine Same.at (by assumption) ?_; (first | assumption | exact upd_same | (refine Same.at (by assumption) ?_; (first | assumption | exact upd_same | (refine Same.at (by assumption) ?_; (first | assumption | exact upd_same | (refine Same.at (by assumption) ?_; (first | assumption | exact upd_same)))))))))))))))))))))))))))))) | exact ⟨_, SqL.of (by (first | assumption | exact upd_same | (refine Same.at (by assumption) ?_; (first | assumption | exact upd_same | (refine Same.at (by assumption) ?_; (first | assumption | exact upd_same | (refine Same.at (by assumption) ?_; (first | assumption | exact upd_same | (refine Same.at (by assumption) ?_; (first | assumption | exact upd_same | (refine Same.at (by assumption) ?_; (first | assumption | exact upd_same | (refine Same.at (by assumption) ?_; (first | assumption | exact upd_same | (refine Same.at (by assumption) ?_; (first | assumption | exact upd_same | (refine Same.at (by assumption) ?_; (first | assumption | exact upd_same | (refine Same.at (by assumption) ?_; (first | assumption | exact upd_same | (refine Same.at (by assumption) ?_; (first | assumption | exact upd_same | (refine Same.at (by assumption) ?_; (first | assumption | exact upd_same | (refine Same.at (by assumption) ?_; (first | assumption | exact upd_same | (refine Same.at (by assumption) ?_; (first | assumption | exact upd_same | (refine Same.at (by assumption) ?_; (first | assumption | exact upd_same))))))))))))))))))))))))))))))⟩ | exact SqT.of (by (first | assumption | exact upd_same | (refine Same.at (by assumption) ?_; (first | assumption | exact upd_same | (refine Same.at (by assumption) ?_; (first | assumption | exact upd_same | (refine Same.at (by assumption) ?_; (first | assumption | exact upd_same | (refine Same.at (by assumption) ?_; (first | assumption | exact upd_same | (refine Same.at (by assumption) ?_; (first | assumption | exact upd_same | (refine Same.at (by assumption) ?_; (first | assumption | exact upd_same | (refine Same.at (by assumption) ?_; (first | assumption | exact upd_same | (refine Same.at (by assumption) ?_; (first | assumption | exact upd_same | (refine Same.at (by assumption) ?_; (first | assumption | exact upd_same | (refine Same.at (by assumption) ?_; (first | assumption | exact upd_same | (refine Same.at (by assumption) ?_; (first | assumption | exact upd_same | (refine Same.at (by assumption) ?_; (first | assumption | exact upd_same | (refine Same.at (by assumption) ?_; (first | assumption | exact upd_same | (refine Same.at (by assumption) ?_; (first | assumption | exact upd_same)))))))))))))))))))))))))))))) | (first | assumption | exact upd_same | (refine Same.at (by assumption) ?_; (first | assumption | exact upd_same | (refine Same.at (by assumption) ?_; (first | assumption | exact upd_same | (refine Same.at (by assumption) ?_; (first | assumption | exact upd_same | (refine Same.at (by assumption) ?_; (first | assumption | exact upd_same | (refine Same.at (by assumption) ?_; (first | assumption | exact upd_same | (refine Same.at (by assumption) ?_; (first | assumption | exact upd_same | (refine Same.at (by assumption) ?_; (first | assumption | exact upd_same | (refine Same.at (by assumption) ?_; (first | assumption | exact upd_same | (refine Same.at (by assumption) ?_; (first | assumption | exact upd_same | (refine Same.at (by assumption) ?_; (first | assumption | exact upd_same | (refine Same.at (by assumption) ?_; (first | assumption | exact upd_same | (refine Same.at (by assumption) ?_; (first | assumption | exact upd_same | (refine Same.at (by assumption) ?_; (first | assumption | exact upd_same | (refine Same.at (by assumption) ?_; (first | assumption | exact upd_same))))))))))))))))))))))))))))) | exact small_le (by simp; done))))
    intro H1 s1
    refine ⟨_, _, rfl, rfl, ?_, ?_⟩
    · rw [star_lit, len_S, len_S, star_len]; exact small_le (by simp; omega)
    rw [star_lit, SX.S_cat]
    exact k _ s1
/-! _law_random -/
def sp__law_random : Sp := fun vs H Q _ => ∃ (g : Addr) (n : Int) (b : Nat), vs = [.ref g, .int n] ∧ GenAt H g b ∧ b ≤ 900000000 ∧ 0 < n ∧ n.natAbs < 2 ^ 120 ∧ ∀ (r : Int) H', 0 ≤ r → r < n → But g H H' → GenAt H' g (b + 10) → Q (.int r) H'
theorem ok__law_random (T : Txt K mg) : FnOk P w K mg base CX0 2 T.f__law_random T.fd__law_random P__law_random (sp__law_random) := by
  have nd : N__law_random.Nodup := sc__law_random.nd
  refine T.F__law_random.ok sc__law_random (fun vs H Q E h => ?_) (fun cdv A outer s H vs Q E hr h => ?_)
  · obtain ⟨a, n, b, rfl, _⟩ := h
    rfl
  · obtain ⟨g, n, b, rfl, ⟨x, y, z, h0, hx, hy, hz⟩, hb, hn0, hn1, k⟩ := h
    refine ⟨_, (pss_cons (ps_if (pt_cmpR op_gt (pe_ix ix_list (pv 0) pe_int (fun _ _ => rfl)) pe_int (nomark _)) (pss_cons (ps_set (i := 2) nd rfl (Or.inl rfl) (pe_op op_mod (pe_callTy call_int1 (by rfl) T.z_int (by decide +kernel) (pa_cons (pe_ix ix_list (pv 0) pe_int (fun _ _ => rfl)) pa_nil)) (pv 1)))
      (pss_cons (ps_asg (pe_op op_fdivW (pe_ix ix_list (pv 0) pe_int (fun _ _ => rfl)) (pv 1)) (pg_sub (pv 0) pe_int set_list))
      (pss_one (ps_ret (pv 2))))) pss_nil)
      (pss_cons (ps_set (i := 2) nd rfl (Or.inl rfl) pe_int)
      (pss_cons (ps_for PassesOwn.never rfl (pi_range1 rfl T.z_range (pa_cons (pe_op op_add pe_int (pe_op op_fdivW (pe_bits (pv 1)) pe_int)) pa_nil)) (pg_name (i := 3) nd rfl (Or.inl rfl))
      (pss_cons (ps_asg (pe_op op_add (pe_ix ix_list (pv 0) pe_int (fun _ _ => rfl)) pe_int) (pg_sub (pv 0) pe_int set_list))
      (pss_one (ps_set (i := 2) nd rfl (Or.inl rfl) (pe_op op_add (pe_op op_mul (pv 2) pe_int) (pe_call (ok__law_hash T) (hr.mono (by decide)) rfl T.m__law_hash T.F__law_hash.kp T.b__law_hash .nil pass0 (pa_cons (pe_ix ix_list (pv 0) pe_int (fun _ _ => rfl)) (pa_cons (pe_ix ix_list (pv 0) pe_int (fun _ _ => rfl)) pa_nil))))))))
      (pss_one (ps_ret (pe_op op_mod (pe_callTy call_int1 (by rfl) T.z_int (by decide +kernel) (pa_cons (pv 2) pa_nil)) (pv 1))))))), ?_⟩
    have rd : ∀ {H' : Hp} {x y z : Int}, H' g = some (.lst [.int x, .int y, .int z]) → SqL K H' g [.int x, .int y, .int z] := fun q => SqL.of q
    refine ⟨_, rfl, g, _, _, V.int x, rfl, rfl, rd h0, rfl, _, _, rfl, rfl, _, rfl, ?_⟩
    refine ite2 (fun q => ?_) (fun q => ?_)
    · refine ⟨_, rfl, g, _, _, V.int x, rfl, rfl, rd h0, rfl, .inl ⟨_, rfl, _, rfl, _, _, rfl, rfl, hn0, ?_⟩⟩
      refine ⟨_, rfl, g, _, _, V.int x, rfl, rfl, rd h0, rfl, _, rfl, _, _, rfl, rfl, wide_div hn0 hn1 (by decide) (by decide), ?_⟩
      refine ⟨_, rfl, g, _, _, 0, rfl, rfl, h0, rfl, _, rfl, ?_⟩
      refine k _ _ (Int.emod_nonneg _ (by omega)) (Int.emod_lt_of_pos _ hn0) But.upd ⟨x / n, y, z, upd_same, ⟨Int.ediv_nonneg hx.1 (by omega), ?_⟩, hy, hz.1, by omega⟩
      exact wide_le (Int.ediv_nonneg hx.1 (by omega)) (Int.ediv_le_self _ hx.1) hx.2
    · have hbits : Builtin.Int.intBits n ≤ 121 := by
        have := PySem.Flt.log2_lt_of (by decide) hn1
        unfold Builtin.Int.intBits
        split <;> omega
      refine ⟨_, rfl, _, rfl, _, _, rfl, rfl, wide_div (b := 5) (by decide) (by decide) (by decide) (by decide), _, _, rfl, rfl, ?_⟩
      refine ⟨_, rfl, by omega, by omega, ?_⟩
      refine for_range (lo := 0) (n := ((1 : Int) + ((Builtin.Int.intBits n : Nat) : Int) / 30).toNat) (fun i σ H' => ∃ (d w : Int) (v : Option V), σ = [some (.ref g), some (.int n), some (.int d), v] ∧ But g H H' ∧ H' g = some (.lst [.int x, .int y, .int w]) ∧ 0 ≤ w ∧ w ≤ z + i) ⟨0, z, none, rfl, But.refl _ _, h0, hz.1, by omega⟩ ?_ ?_
      · rintro i σ H1 hi ⟨d, w, v, rfl, b1, g1, w0, w1⟩
        refine ⟨_, rfl, g, _, _, V.int w, rfl, rfl, rd g1, rfl, _, _, rfl, rfl, ?_⟩
        refine ⟨_, rfl, g, _, _, 2, rfl, rfl, g1, rfl, ?_⟩
        have g2 : upd H1 g (.lst [.int x, .int y, .int (w + 1)]) g = some (.lst [.int x, .int y, .int (w + 1)]) := upd_same
        refine ⟨_, rfl, _, _, rfl, rfl, .inr ⟨by decide, by decide⟩, _, rfl, g, _, _, V.int y, rfl, rfl, rd g2, rfl, _, rfl, g, _, _, V.int (w + 1), rfl, rfl, rd g2, rfl, y, w + 1, rfl, hy, ⟨by omega, by omega⟩, fun r r0 r1 => ?_⟩
        refine ⟨_, _, rfl, rfl, ?_⟩
        exact ⟨_, w + 1, _, rfl, b1.trans But.upd, g2, by omega, by omega⟩
      · rintro σ H1 ⟨d, w, v, rfl, b1, g1, w0, w1⟩
        refine ⟨_, rfl, .inl ⟨_, rfl, _, rfl, _, _, rfl, rfl, hn0, ?_⟩⟩
        exact k _ _ (Int.emod_nonneg _ (by omega)) (Int.emod_lt_of_pos _ hn0) b1 ⟨x, y, w, g1, hx, hy, w0, by omega⟩
/-! _law_generator -/
def sp__law_generator (K : PySem.W.Frag) : Sp := fun vs H Q _ => ∃ (a : Addr) (ns : List Int) (j : Nat), vs = [.ref a, .int (j : Int)] ∧ SqL K H a (ns.map V.int) ∧ j ≤ 1000 ∧ ∀ (g : Addr) H', H g = none → Same H H' → GenAt H' g (1000 * j) → Q (.ref g) H'
theorem ok__law_generator (T : Txt K mg) : FnOk P w K mg base CX0 2 T.f__law_generator T.fd__law_generator P__law_generator (sp__law_generator K) := by
  have nd : N__law_generator.Nodup := sc__law_generator.nd
  refine T.F__law_generator.ok sc__law_generator (fun vs H Q E h => ?_) (fun cdv A outer s H vs Q E hr h => ?_)
  · obtain ⟨a, ns, j, rfl, _⟩ := h
    rfl
  · obtain ⟨a, ns, j, rfl, hS, hj, k⟩ := h
    refine ⟨_, (pss_cons (ps_set (i := 2) nd rfl (Or.inl rfl) (pe_call (ok__law_cell T) (hr.mono (by decide)) rfl T.m__law_cell T.F__law_cell.kp T.b__law_cell .nil pass0 (pa_cons (pv 0) (pa_cons (pv 1) pa_nil))))
      (pss_one (ps_ret (pe_lst (pa_cons (pe_op op_mod (pe_callTy call_int1 (by rfl) T.z_int (by decide +kernel) (pa_cons (pe_callB (call_max2 rfl) (by rfl) T.z_max (by decide +kernel) (pa_cons (pe_op op_sub (pv 2) (pe_op op_powW pe_int pe_int)) (pa_cons pe_int pa_nil))) pa_nil)) (pe_op op_powW (pe_op op_powW pe_int pe_int) pe_int)) (pa_cons (pe_op op_mod (pe_callTy call_int1 (by rfl) T.z_int (by decide +kernel) (pa_cons (pv 2) pa_nil)) pe_int) (pa_cons (pe_op op_mul pe_int (pv 1)) pa_nil))))))), ?_⟩
    refine ⟨_, rfl, _, rfl, a, ns, j, rfl, hS, fun r H1 s1 => ?_⟩
    refine ⟨_, rfl, _, _, rfl, rfl, ⟨by decide, by decide +kernel⟩, _, _, rfl, rfl, _, _, rfl, .inl ⟨_, rfl, ?_⟩⟩
    refine ⟨_, _, rfl, rfl, ⟨by decide, by decide +kernel⟩, _, _, rfl, rfl, ⟨by decide, by decide +kernel⟩, _, _, rfl, rfl, (by show (0 : Int) < (10 ^ (60 : Int).toNat) ^ (10 : Int).toNat; decide +kernel), ?_⟩
    refine ⟨_, rfl, .inl ⟨_, rfl, _, _, rfl, rfl, (by show (0 : Int) < 2147483647; decide), _, rfl, _, _, rfl, rfl, .inl ⟨by decide, by decide⟩, (by show 3 ≤ sizeLine; decide), fun p hp => ?_⟩⟩
    refine k p _ (s1.free hp) (s1.trans (Same.upd hp)) ⟨_, _, _, upd_same, seed_ok _, ⟨Int.emod_nonneg _ (by decide), Int.emod_lt_of_pos _ (by decide)⟩, by omega, by omega⟩
/-! _law_walk -/
def sp__law_walk : Sp := fun vs H Q _ => ∃ w B : List Nat, vs = [.str (S w), .str (S B)] ∧ w.length ≤ 6 ∧ ∀ (p : Addr) (ws : List (List Nat)) H', H p = none → Same H H' → H' p = some (.lst (wordsV ws)) → ws.length ≤ 3125 → ws.Nodup → (∀ v, v ∈ ws ↔ Reach B w v) → Q (.ref p) H'
theorem ok__law_walk (T : Txt K mg) : FnOk P w K mg base CX0 2 T.f__law_walk T.fd__law_walk P__law_walk (sp__law_walk) := by
  have nd : N__law_walk.Nodup := sc__law_walk.nd
  refine T.F__law_walk.ok sc__law_walk (fun vs H Q E h => ?_) (fun cdv A outer s H vs Q E hr h => ?_)
  · obtain ⟨w, B, rfl, _⟩ := h
    rfl
  · obtain ⟨w0, B, rfl, hw, k⟩ := h
    refine ⟨_, (pss_cons (ps_par (i := 2) (j := 3) rfl nd rfl rfl (by decide) rfl rfl (pa_cons (pe_disp (pps_cons (pv 0) pe_bl pps_nil) rfl rfl (by simp) (Nat.le_of_ble_eq_true rfl)) (pa_cons (pe_lst (pa_cons (pv 0) pa_nil)) pa_nil)) (by rfl))
      (pss_cons (ps_for PassesOwn.never rfl (pi_range1 rfl T.z_range (pa_cons pe_int pa_nil)) (pg_name (i := 4) nd rfl (Or.inl rfl))
      (pss_cons (ps_if (pt_cmpR (op_eqP hr.units) (pv 3) (pe_lst pa_nil) (nomark _)) (pss_one ps_break) pss_nil)
      (pss_cons (ps_set (i := 5) nd rfl (Or.inl rfl) (pe_bm0 PySem.F.plainAttrs_list PySem.F.slot_list_pop PySem.F.type_list_pop mt_pop (pv 3)))
      (pss_one (ps_for PassesOwn.never rfl (pi_list (pe_call (ok__law_places T) (hr.mono (by decide)) rfl T.m__law_places T.F__law_places.kp T.b__law_places .nil pass0 (pa_cons (pv 5) (pa_cons (pv 1) pa_nil)))) (pg_name (i := 6) nd rfl (Or.inl rfl))
      (pss_cons (ps_set (i := 7) nd rfl (Or.inl rfl) (pe_call (ok__law_deed T) (hr.mono (by decide)) rfl T.m__law_deed T.F__law_deed.kp T.b__law_deed .nil pass0 (pa_cons (pv 5) (pa_cons (pv 6) pa_nil))))
      (pss_one (ps_if (pt_cmp (pc_dnotin (hu_of hr) (pv 7) (pv 2))) (pss_cons (ps_dput (hu_of hr) (pv 2) (pv 7) pe_bl (by rfl))
      (pss_one (ps_expr (pe_bm PySem.F.plainAttrs_list PySem.F.slot_list_append PySem.F.type_list_append mt_append (pv 3) (pa_cons (pv 7) pa_nil))))) pss_nil))))))))
      (pss_one (ps_ret (pe_callB cr_sortedW (by rfl) T.z_sorted (by decide +kernel) (pa_cons (pe_callTy (call_listD rfl) (by rfl) T.z_list (by decide +kernel) (pa_cons (pv 2) pa_nil)) pa_nil)))))), ?_⟩
    intro kn hn_kn
    refine ⟨_, rfl, upd_same, [(Sum.inr (S w0), V.bl true)], rfl, by simp, ?_⟩
    generalize hX1 : L2.upd (L2.upd H kn _) kn _ = H1
    have s_kn : Same H H1 := by rw [← hX1]; exact Same.own (Same.upd hn_kn) hn_kn
    have d_kn : H1 kn = some (.dK (wordsK [w0])) := by rw [← hX1, upd_same]; rfl
    refine ⟨_, rfl, (by show 1 ≤ sizeLine; decide), ?_⟩
    intro sw hn_sw
    generalize hX_sw : L2.upd _ sw _ = H2
    have s_sw := alloc_same hX_sw hn_sw
    have d_sw := alloc_at hX_sw
    have nks : kn ≠ sw := ne_of_none d_kn hn_sw
    have hsw : H sw = none := s_kn.free hn_sw
    have d_kn2 : H2 kn = some (.dK (wordsK [w0])) := s_sw _ _ d_kn
    refine ⟨_, _, rfl, ?_⟩
    try dsimp only
    refine seq_by (fun σ' H' => ∃ (us : List (List Nat)) (w1 w2 w3 w4 : Option V), σ' = [some (.str (S w0)), some (.str (S B)), some (.ref kn), some (.ref sw), w1, w2, w3, w4] ∧ Same H H' ∧ H' kn = some (.dK (wordsK us)) ∧ us.length ≤ 3125 ∧ us.Nodup ∧ (∀ v, v ∈ us ↔ Reach B w0 v)) ?ga ?gb
    case ga =>
      rintro σ H9 ⟨us, w1, w2, w3, w4, rfl, s9, d9, hul, hnd, hur⟩
      refine ⟨_, rfl, kn, _, rfl, Rd.of d9, fun p hp => ?_⟩
      rw [wordsK_keys]
      refine ⟨p, us, rfl, SqL.of upd_same, small_le (by omega), fun vs q hvp _ hq => ?_⟩
      have h1 := Same.upd (o := HO.lst (wordsV us)) hp
      exact k q vs _ (s9.free (h1.free hq)) (s9.trans (h1.trans (Same.upd hq))) upd_same (by rw [hvp.length_eq]; exact hul) (hvp.nodup_iff.mpr hnd) fun v => hvp.mem_iff.trans (hur v)
    intro hN
    refine ⟨9000, rfl, by decide, by decide, ?_⟩
    refine for_range (lo := 0) (n := 9000) (fun i σ H' => ∃ (us st : List (List Nat)) (w1 w2 w3 w4 : Option V), σ = [some (.str (S w0)), some (.str (S B)), some (.ref kn), some (.ref sw), w1, w2, w3, w4] ∧ Srch B w0 us st i [] ∧ Same H H' ∧ H' sw = some (.lst (wordsV st)) ∧ H' kn = some (.dK (wordsK us)))
      ⟨[w0], [w0], none, none, none, none, rfl, Srch.one B w0, s_kn.trans s_sw, d_sw, d_kn2⟩ ?_ ?_
    · rintro i σ H3 hi ⟨us, st, w1, w2, w3, w4, rfl, F, s3, ds, dk⟩
      have hlen := F.len6 hw
      have hcnt := F.cnt
      refine ⟨_, rfl, (by show 0 ≤ sizeLine; decide), ?_⟩
      intro e0 hn_e0
      generalize hX_e0 : L2.upd _ e0 _ = H4
      have s_e0 := alloc_same hX_e0 hn_e0
      have d_e0 := alloc_at hX_e0
      have ds4 := s_e0 _ _ ds
      have dk4 := s_e0 _ _ dk
      refine words_is_nil (SqL.of ds4) (SqL.of d_e0) ?_
      refine ⟨_, rfl, ?_⟩
      cases st with
      | nil =>
        refine iteT ?_
        exact hN _ _ ⟨us, _, _, _, _, rfl, s3.trans s_e0, dk4, hlen, F.nd, F.all⟩
      | cons x r =>
        refine iteF ?_
        show tNext _ _ _
        have hst : (x :: r).length - 1 < (x :: r).length := by simp
        obtain ⟨v, hv⟩ : ∃ v, (x :: r)[(x :: r).length - 1]? = some v := ⟨_, List.getElem?_eq_getElem hst⟩
        have hst0 : 0 < (x :: r).length := by simp
        generalize x :: r = st at hv hst hst0 F hcnt ds ds4
        have hvm := F.sub v (List.mem_of_getElem? hv)
        have hvl : v.length = w0.length := (F.reach v hvm).len
        have F2 := F.pop hv
        refine ⟨_, rfl, .inl ⟨rfl, _, SqL.of ds4⟩, sw, _, V.str (S v), rfl, rfl, ds4, (by rw [List.length_map]; exact words_at hv), ?_⟩
        generalize hX5 : L2.upd H4 sw _ = H5
        have s5 : Same H H5 := by rw [← hX5]; exact Same.own (s3.trans s_e0) hsw
        have ds5 : H5 sw = some (.lst (wordsV st.dropLast)) := by rw [← hX5, upd_same, ← List.map_dropLast]
        have dk5 : H5 kn = some (.dK (wordsK us)) := by rw [← hX5, upd_ne nks]; exact dk4
        refine ⟨_, rfl, _, rfl, v, B, rfl, by omega, fun p H6 hp6 s6 d6 => ?_⟩
        have hpk : p ≠ kn := fun e => by rw [e, dk5] at hp6; cases hp6
        have hps : p ≠ sw := fun e => by rw [e, ds5] at hp6; cases hp6
        refine ⟨p, rfl, ⟨_, SqL.of d6⟩, ?_⟩
        refine for_list (K := K) (a := p) (xs := placesV (openL v B)) (fun j σ H' => ∃ (us st : List (List Nat)) (w3 w4 : Option V), σ = [some (.str (S w0)), some (.str (S B)), some (.ref kn), some (.ref sw), some (.int ((0 : Int) + (i : Nat))), some (.str (S v)), w3, w4] ∧ v ∈ us ∧ Srch B w0 us st (i + 1) [v] ∧ (∀ j' q, j' < j → (openL v B)[j']? = some q → swapL v q ∈ us) ∧ Same H H' ∧ H' sw = some (.lst (wordsV st)) ∧ H' kn = some (.dK (wordsK us)) ∧ H' p = some (.lst (placesV (openL v B))))
          ⟨us, _, _, _, rfl, hvm, F2, fun j' q h => absurd h (by omega), s5.trans s6, s6 _ _ ds5, s6 _ _ dk5, d6⟩ (fun j σ H' _ ⟨_, _, _, _, _, _, _, _, _, _, _, e⟩ => SqL.of e) ?_ ?_
        · rintro j y σ H7 hj ⟨us, st, w3, w4, rfl, hvu, F7, hd, s7, ds7, dk7, dp7⟩
          have hl7 := F7.len6 hw
          have hc7 := F7.cnt
          obtain ⟨q, hq, rfl⟩ : ∃ q, (openL v B)[j]? = some q ∧ V.int (q : Nat) = y := by
            rw [List.getElem?_map] at hj
            exact Option.map_eq_some_iff.mp hj
          obtain ⟨c, hcq, hcB⟩ := mem_openL (List.mem_of_getElem? hq)
          have hql : q < v.length := (List.getElem?_eq_some_iff.mp hcq).1
          refine ⟨_, rfl, _, rfl, v, q, rfl, by omega, hql, ?_⟩
          refine ⟨_, rfl, _, rfl, kn, _, rfl, DGet.k (k := Sum.inr (S (swapL v q))) dk7, _, rfl, ?_⟩
          rw [wordsK_val]
          refine ite2 (fun x => ?_) (fun x => ?_)
          · have x' : ¬ swapL v q ∈ us := by simpa using x
            refine ⟨_, rfl, _, rfl, kn, _, rfl, DPut.k (k := Sum.inr (S (swapL v q))) dk7 (by rw [show (wordsK us).length = us.length from List.length_map _]; exact small_line (by omega)), ?_⟩
            rw [wordsK_put x']
            have e1 : (L2.upd H7 kn (.dK (wordsK (us ++ [swapL v q])))) sw = some (.lst (wordsV st)) := by rw [upd_ne nks.symm]; exact ds7
            refine ⟨_, rfl, .inl ⟨rfl, _, SqL.of e1⟩, _, rfl, sw, _, _, rfl, rfl, e1, by rw [List.length_map]; exact small_line (by omega), ?_⟩
            refine ⟨us ++ [swapL v q], st ++ [swapL v q], _, _, rfl, List.mem_append.mpr (.inl hvu), F7.add hvu hcq hcB x', fun j' q' hj' hq' => ?_, Same.own (Same.own s7 hn_kn) hsw, by rw [upd_same]; simp [wordsV], by rw [upd_ne nks, upd_same], by rw [upd_ne hps, upd_ne hpk]; exact dp7⟩
            by_cases z : j' = j
            · subst z
              rw [hq] at hq'
              cases hq'
              exact List.mem_append.mpr (.inr (List.mem_singleton.mpr rfl))
            · exact List.mem_append.mpr (.inl (hd j' q' (by omega) hq'))
          · have x' : swapL v q ∈ us := by simpa using x
            refine ⟨us, st, _, _, rfl, hvu, F7, fun j' q' hj' hq' => ?_, s7, ds7, dk7, dp7⟩
            by_cases z : j' = j
            · subst z
              rw [hq] at hq'
              cases hq'
              exact x'
            · exact hd j' q' (by omega) hq'
        rintro σ H7 ⟨us, st, w3, w4, rfl, hvu, F7, hd, s7, ds7, dk7, dp7⟩
        refine ⟨us, st, _, _, _, _, rfl, F7.fin fun p c hc hB => ?_, s7, ds7, dk7⟩
        obtain ⟨j, hj, e⟩ := openL_at hc hB
        exact hd j p (by rw [List.length_map]; exact hj) e
    rintro σ H3 ⟨us, st, w1, w2, w3, w4, rfl, F, s3, ds, dk⟩
    have hlen := F.len6 hw
    have hcnt := F.cnt
    omega
/-! _law_key -/
def sp__law_key : Sp := fun vs H Q _ => ∃ l js : List Nat, vs = [.str (S l), .str (S js)] ∧ l.length ≤ 40000 ∧ js.length ≤ 50000 ∧ ∀ (T C : Addr) H', Same H H' → H' T = some (.tup [.str (S (minW (turnsL (ringL l js)))), .ref C]) → H' C = some (.tup (js.map fun c => V.int (l.count c : Nat))) → Q (.ref T) H'
theorem ok__law_key (T : Txt K mg) : FnOk P w K mg base CX0 2 T.f__law_key T.fd__law_key P__law_key (sp__law_key) := by
  have nd : N__law_key.Nodup := sc__law_key.nd
  refine T.F__law_key.ok sc__law_key (fun vs H Q E h => ?_) (fun cdv A outer s H vs Q E hr h => ?_)
  · obtain ⟨l, js, rfl, _⟩ := h
    rfl
  · obtain ⟨l, js, rfl, hl, hjl, k⟩ := h
    refine ⟨_, (pss_cons (ps_setLc (i := 2) (own := [("_law_letter", 3)]) rfl nd rfl rfl (sw_true rfl rfl rfl (by decide +kernel)) (pi_str (pv 1)) (blkOk_by (N := N__law_key) (sc := defScope s__law_key) (by decide +kernel)) (fun _ _ _ _ _ => by exact (pg_name (i := 3) nd rfl (Or.inl rfl))) (fun _ _ _ _ _ => by exact pts_nil) (fun _ _ _ _ _ => by exact (pe_m1 PySem.F.slot_str_count PySem.F.type_str_count mt_count (pv 0) (pv 3))))
      (pss_one (ps_ret (pe_tup (pa_cons (pe_callB (cr_minS rfl hr.units) (by rfl) T.z_min (by decide +kernel) (pa_cons (pe_call (ok__law_turnings T) (hr.mono (by decide)) rfl T.m__law_turnings T.F__law_turnings.kp T.b__law_turnings .nil pass0 (pa_cons (pe_call (ok__law_ring T) (hr.mono (by decide)) rfl T.m__law_ring T.F__law_ring.kp T.b__law_ring .nil pass0 (pa_cons (pv 0) (pa_cons (pv 1) pa_nil))) pa_nil)) pa_nil)) (pa_cons (pe_callTy call_tuple_of (by rfl) T.z_tuple (by decide +kernel) (pa_cons (pv 2) pa_nil)) pa_nil)))))), ?_⟩
    refine ⟨_, rfl, _, rfl, fun D hD => ?_⟩
    refine lc_it walk_str (fun i H' => Same H H' ∧ H' D = some (.lst ((js.take i).map fun c => V.int (l.count c : Nat)))) ⟨Same.upd hD, upd_same⟩ (fun _ _ _ _ => trivial) ?_ ?_
    · rintro i x H1 H2 hi ⟨s1, d1⟩ ⟨rfl, c, hc, rfl⟩
      rw [at_S] at hc
      refine ⟨rfl, ?_⟩
      refine ⟨_, rfl, ⟨_, rfl⟩, _, rfl, _, _, rfl, rfl, ?_⟩
      rw [show (⟨#[c]⟩ : Str) = S [c] from rfl, count_sign]
      exact grow hD s1 d1 (by rw [List.length_map, List.length_take]; omega) (by rw [take_snoc hc]; simp)
    rintro H1 ⟨s1, d1⟩
    rw [size_S, List.take_length] at d1
    refine ⟨_, rfl, _, rfl, l, js, rfl, by omega, fun H2 s2 => ?_⟩
    refine ⟨ringL l js, rfl, by rw [ring_len]; omega, fun p H3 hp s3 d3 => ?_⟩
    obtain ⟨x, xs, hx⟩ := List.exists_cons_of_ne_nil (turns_ne (ring_ne l js))
    rw [hx] at d3
    refine ⟨p, x, xs, rfl, SqL.of d3, ?_⟩
    have e : minL x xs = minW (turnsL (ringL l js)) := by rw [hx]; rfl
    rw [e]
    refine ⟨_, rfl, D, _, rfl, .inl ⟨SqL.of (s3 _ _ (s2 _ _ d1)), ?_⟩⟩
    intro C hn_C
    generalize hX_C : L2.upd _ C _ = H4
    have s_C := alloc_same hX_C hn_C
    have d_C := alloc_at hX_C
    refine ⟨(by show 2 ≤ sizeLine; decide), ?_⟩
    intro T0 hn_T0
    generalize hX_T0 : L2.upd _ T0 _ = H5
    have s_T0 := alloc_same hX_T0 hn_T0
    have d_T0 := alloc_at hX_T0
    exact k T0 C H5 (s1.trans (s2.trans (s3.trans (s_C.trans s_T0)))) d_T0 (s_T0 _ _ d_C)
/-! check_joints -/
def sp_check_joints : Sp := fun vs H Q _ => ∃ l : List Nat, vs = [.str (S l)] ∧ l.length ≤ 50000 ∧ jointsB l = true ∧ ∀ H', Same H H' → Q .non H'
theorem ok_check_joints (T : Txt K mg) : FnOk P w K mg base CX0 3 T.f_check_joints T.fd_check_joints P_check_joints (sp_check_joints) := by
  have nd : N_check_joints.Nodup := sc_check_joints.nd
  refine T.F_check_joints.ok sc_check_joints (fun vs H Q E h => ?_) (fun cdv A outer s H vs Q E hr h => ?_)
  · obtain ⟨l, rfl, _⟩ := h
    rfl
  · obtain ⟨l, rfl, hl, hw, k⟩ := h
    refine ⟨_, (pss_one (ps_if (pt_not (pt_val (pe_call (ok_is_joints T) (hr.mono (by decide)) rfl T.m_is_joints T.F_is_joints.kp T.b_is_joints .nil pass0 (pa_cons (pv 0) pa_nil)))) pss_never pss_nil)), ?_⟩
    refine ⟨_, rfl, l, rfl, hl, fun H1 s1 => ⟨_, rfl, ?_⟩⟩
    rw [hw]
    exact iteF (k _ s1)
/-! numbers_by_class -/
def sp_numbers_by_class : Sp := fun vs H Q _ => ∃ (a : Addr) (ws : List (List Nat)) (B : List Nat), vs = [.ref a, .str (S B)] ∧ H a = some (.lst (wordsV ws)) ∧ ws.length ≤ 300 ∧ (∀ w ∈ ws, w.length ≤ 100) ∧ B.length ≤ 50000 ∧ ∀ p (as : List Addr) H', H p = none → Same H H' → H' p = some (.lst (as.map V.ref)) → ListsAt H H' as (groupsL ws B) → Q (.ref p) H'
theorem ok_numbers_by_class (T : Txt K mg) : FnOk P w K mg base CX0 3 T.f_numbers_by_class T.fd_numbers_by_class P_numbers_by_class (sp_numbers_by_class) := by
  have nd : N_numbers_by_class.Nodup := sc_numbers_by_class.nd
  refine T.F_numbers_by_class.ok sc_numbers_by_class (fun vs H Q E h => ?_) (fun cdv A outer s H vs Q E hr h => ?_)
  · obtain ⟨a, ws, B, rfl, _⟩ := h
    rfl
  · obtain ⟨a, ws, B, rfl, ha, hn, hw, hB, k⟩ := h
    refine ⟨_, (pss_cons (ps_set (i := 2) nd rfl (Or.inl rfl) pe_dnewT)
      (pss_cons (ps_for PassesOwn.never rfl (pi_enum (by rfl) T.z_enumerate (pa_cons (pv 0) pa_nil)) (pg_tup (n := 2) rfl (pgs_cons (by exact (pg_name (i := 3) nd rfl (Or.inl rfl))) (pgs_cons (by exact (pg_name (i := 4) nd rfl (Or.inl rfl))) pgs_nil)))
      (pss_cons (ps_set (i := 5) nd rfl (Or.inl rfl) (pe_tup (pa_cons (pe_callB (cr_minS rfl hr.units) (by rfl) T.z_min (by decide +kernel) (pa_cons (pe_call (ok_turnings T) (hr.mono (by decide)) rfl T.m_turnings T.F_turnings.kp T.b_turnings .nil pass0 (pa_cons (pe_call (ok_ring_stars T) (hr.mono (by decide)) rfl T.m_ring_stars T.F_ring_stars.kp T.b_ring_stars .nil pass0 (pa_cons (pv 4) (pa_cons (pv 1) pa_nil))) pa_nil)) pa_nil)) (pa_cons (pe_join pe_str (pe_call (ok_letters_held T) (hr.mono (by decide)) rfl T.m_letters_held T.F_letters_held.kp T.b_letters_held .nil pass0 (pa_cons (pv 4) (pa_cons (pv 1) pa_nil)))) pa_nil))))
      (pss_one (ps_expr (pe_bm PySem.F.plainAttrs_list PySem.F.slot_list_append PySem.F.type_list_append mt_append (pe_bm PySem.F.plainAttrs_dict PySem.F.slot_dict_setdefault PySem.F.type_dict_setdefault (mt_setdT (hu_of hr)) (pv 2) (pa_cons (pv 5) (pa_cons (pe_lst pa_nil) pa_nil))) (pa_cons (pv 3) pa_nil))))))
      (pss_one (ps_ret (pe_callTy (call_list_valsT rfl) (by rfl) T.z_list (by decide +kernel) (pa_cons (pe_bm0 PySem.F.plainAttrs_dict PySem.F.slot_dict_values PySem.F.type_dict_values mt_valuesT (pv 2)) pa_nil)))))), ?_⟩
    intro F hn_F
    generalize hX_F : L2.upd _ F _ = H1
    have s_F : Same H H1 := alloc_same hX_F hn_F
    have d_F := alloc_at hX_F
    refine ⟨_, rfl, a, _, rfl, SqL.of (s_F _ _ ha), ?_⟩
    refine for_it walk_enum (fun i σ H' => ∃ (ks : List (List Key × Addr)) (w1 w2 w3 : Option V), σ = [some (.ref a), some (.str (S B)), some (.ref F), w1, w2, w3] ∧ GrpO ws B H H' F ks i) ⟨[], _, _, _, rfl, GrpO.start s_F d_F hn_F⟩ (fun i σ H' _ ⟨_, _, _, _, _, G⟩ => SqL.of (G.keep _ _ ha)) ?_ ?_
    · rintro i x σ H2 H3 hi ⟨ks, w1, w2, w3, rfl, G⟩ ⟨T0, x0, y0, rfl, hT, rfl, h1, h2⟩
      obtain ⟨w, hq, rfl⟩ := words_of h2
      cases h1
      have nT : ∀ {b : Addr} {o : HO}, H2 b = some o → T0 ≠ b := fun h => (ne_of_none h hT).symm
      have G3 := G.same (Same.upd (o := HO.tup [V.int (i : Nat), V.str (S w)]) hT)
      have d_T : (upd H2 T0 (.tup [V.int (i : Nat), V.str (S w)])) T0 = some (.tup [V.int (i : Nat), V.str (S w)]) := upd_same
      generalize upd H2 T0 (.tup [V.int (i : Nat), V.str (S w)]) = H3 at G3 d_T ⊢
      refine ⟨T0, _, rfl, SqT.of d_T, rfl, _, _, rfl, _, _, rfl, rfl, ?_⟩
      have hwm := List.mem_of_getElem? hq
      have hwl := hw w hwm
      have hin : i < ws.length := (List.getElem?_eq_some_iff.mp hq).1
      have ew : wat ws i = w := wat_of hq
      refine ⟨_, rfl, _, rfl, w, B, rfl, by omega, fun H4 s4 => ?_⟩
      refine ⟨_, rfl, by rw [ring_len]; omega, fun p H5 hp s5 d5 => ?_⟩
      obtain ⟨x, xs, hx⟩ := List.exists_cons_of_ne_nil (turns_ne (ring_ne w B))
      have hmin : minL x xs = minW (turnsL (ringL w B)) := by rw [hx]; rfl
      rw [hx] at d5
      refine ⟨p, x, xs, rfl, SqL.of d5, ?_⟩
      rw [hmin]
      refine ⟨⟨_, rfl⟩, _, rfl, _, rfl, w, B, rfl, by omega, fun A q H6 hA hs hq6 s6 d6 => ?_⟩
      have hAl : A.length ≤ 100 := by
        rw [hA.length_eq]
        exact Nat.le_trans (List.length_filter_le _ _) hwl
      refine ⟨_, q, A.map fun c => S [c], rfl, rfl, .inl (SqL.of d6), join_bound (by omega), ?_⟩
      rw [join_signs, srt_eq hA hs]
      refine ⟨(by show 2 ≤ sizeLine; decide), ?_⟩
      intro kt hn_kt
      generalize hX_kt : L2.upd _ kt _ = H7
      have s_kt := alloc_same hX_kt hn_kt
      have d_kt := alloc_at hX_kt
      have G7 := G3.same (s4.trans (s5.trans (s6.trans s_kt)))
      have e_kt : H7 kt = some (.tup ((keyO B w).map kV)) := d_kt
      show tNext _ _ _
      refine ⟨_, rfl, .inr (.inr (.inl ⟨rfl, .inr ⟨_, G7.d⟩⟩)), _, rfl, (by show 0 ≤ sizeLine; decide), ?_⟩
      intro E0 hn_E0
      generalize hX_E0 : L2.upd _ E0 _ = H8
      have s_E0 := alloc_same hX_E0 hn_E0
      have d_E0 := alloc_at hX_E0
      have G8 := G7.same s_E0
      have hEF : E0 ≠ F := (ne_of_none G7.d hn_E0).symm
      have hkl : (ks.map fun e => (e.1, V.ref e.2)).length < sizeLine := by rw [List.length_map]; have := G.len; exact small_line (by omega)
      refine ⟨F, _, keyO B w, kt, V.ref E0, rfl, rfl, G8.d, s_E0 _ _ e_kt, hkl, fun v hv => ?_, fun hv => ?_⟩
      · obtain ⟨e, he, hk, rfl⟩ := val_mem hv
        have hul := up_len ws B e.1 i
        refine ⟨.inl ⟨rfl, _, SqL.of (G8.toGrp.each e he).2.2⟩, _, rfl, e.2, _, _, rfl, rfl, (G8.toGrp.each e he).2.2, by rw [List.length_map]; exact small_line (by omega), ?_⟩
        exact ⟨ks, _, _, _, rfl, G8.old he (by rw [ew]; exact hk)⟩
      · have hnk := val_not hv
        have ep : putK (ks.map fun e => (e.1, V.ref e.2)) (keyO B w) (V.ref E0) = (ks ++ [(keyO B (wat ws i), E0)]).map fun e => (e.1, V.ref e.2) := by
          rw [putK_new _ hv, ew]; simp
        rw [ep]
        have e1 : (L2.upd H8 F (.dT ((ks ++ [(keyO B (wat ws i), E0)]).map fun e => (e.1, V.ref e.2)))) E0 = some (.lst []) := by rw [upd_ne hEF]; exact d_E0
        refine ⟨.inl ⟨rfl, _, SqL.of e1⟩, _, rfl, E0, _, _, rfl, rfl, e1, small_line (by simp), ?_⟩
        exact ⟨_, _, _, _, rfl, G8.new (by rw [ew]; exact hnk) (G7.keep.free hn_E0) hEF fun e he => ne_of_none (G7.toGrp.each e he).2.2 hn_E0⟩
    rintro σ H2 ⟨ks, w1, w2, w3, rfl, G⟩
    rw [show (wordsV ws).length = ws.length from List.length_map _] at G
    refine ⟨_, rfl, .inr (.inr (.inl ⟨rfl, .inr ⟨_, G.d⟩⟩)), F, _, rfl, rfl, G.d, fun v hv => ?_⟩
    generalize hX_v : L2.upd H2 v _ = H3
    have s_v : Same H2 H3 := alloc_same hX_v hv
    have d_v := alloc_at hX_v
    have G3 := G.same s_v
    refine ⟨v, F, _, rfl, d_v, G3.d, ?_⟩
    intro p hn_p
    generalize hX_p : L2.upd _ p _ = H4
    have s_p := alloc_same hX_p hn_p
    have d_p := alloc_at hX_p
    have G4 := G3.same s_p
    have el : (ks.map fun e => (e.1, V.ref e.2)).map (·.2) = (ks.map (·.2)).map V.ref := by simp
    rw [el] at d_p
    exact k p (ks.map (·.2)) H4 (G3.keep.free hn_p) G4.keep d_p (G4.lists)
/-! _law_letters -/
def sp__law_letters : Sp := fun vs H Q _ => ∃ (g : Addr) (n b : Nat), vs = [.ref g, .int (n : Int)] ∧ GenAt H g b ∧ b + 10 * n ≤ 900000000 ∧ n ≤ 26 ∧ ∀ (l : List Nat) H', l.length = n → l.Pairwise (· < ·) → (∀ c ∈ l, 97 ≤ c ∧ c ≤ 122) → But g H H' → GenAt H' g (b + 10 * n) → Q (.str (S l)) H'
theorem ok__law_letters (T : Txt K mg) : FnOk P w K mg base CX0 3 T.f__law_letters T.fd__law_letters P__law_letters (sp__law_letters) := by
  have nd : N__law_letters.Nodup := sc__law_letters.nd
  refine T.F__law_letters.ok sc__law_letters (fun vs H Q E h => ?_) (fun cdv A outer s H vs Q E hr h => ?_)
  · obtain ⟨g, n, b, rfl, _⟩ := h
    rfl
  · obtain ⟨g, n, b, rfl, G, hb, hn, k⟩ := h
    refine ⟨_, (pss_cons (ps_par (i := 2) (j := 3) rfl nd rfl rfl (by decide) rfl rfl (pa_cons (pe_callTy (call_list_str rfl) (by rfl) T.z_list (by decide +kernel) (pa_cons pe_str pa_nil)) (pa_cons (pe_lst pa_nil) pa_nil)) (by rfl))
      (pss_cons (ps_for PassesOwn.never rfl (pi_range1 rfl T.z_range (pa_cons (pv 1) pa_nil)) (pg_name (i := 4) nd rfl (Or.inl rfl))
      (pss_one (ps_expr (pe_bm PySem.F.plainAttrs_list PySem.F.slot_list_append PySem.F.type_list_append mt_append (pv 3) (pa_cons (pe_bm PySem.F.plainAttrs_list PySem.F.slot_list_pop PySem.F.type_list_pop mt_popAt (pv 2) (pa_cons (pe_call (ok__law_random T) (hr.mono (by decide)) rfl T.m__law_random T.F__law_random.kp T.b__law_random .nil pass0 (pa_cons (pv 0) (pa_cons (pe_callB call_len_seq (by rfl) T.z_len (by decide +kernel) (pa_cons (pv 2) pa_nil)) pa_nil))) pa_nil)) pa_nil)))))
      (pss_one (ps_ret (pe_join pe_str (pe_callB cr_sortedS (by rfl) T.z_sorted (by decide +kernel) (pa_cons (pv 3) pa_nil))))))), ?_⟩
    refine ⟨alphaL, by rw [alpha_S], by decide, ?_⟩
    intro le hn_le
    generalize hX_le : L2.upd _ le _ = H1
    have s_le := alloc_same hX_le hn_le
    have d_le := alloc_at hX_le
    have hlg := G.ne hn_le
    refine ⟨(by show 0 ≤ sizeLine; decide), ?_⟩
    intro fo hn_fo
    generalize hX_fo : L2.upd _ fo _ = H2
    have s_fo := alloc_same hX_fo hn_fo
    have d_fo := alloc_at hX_fo
    have G1 := G.same s_le
    have hfg := G1.ne hn_fo
    have hfo : H fo = none := s_le.free hn_fo
    refine ⟨_, _, rfl, ?_⟩
    refine ⟨_, rfl, _, rfl, by omega, by omega, ?_⟩
    rw [Int.toNat_natCast]
    have nlf : le ≠ fo := ne_of_none d_le hn_fo
    refine for_range (lo := 0) (n := n) (fun i σ H' => ∃ (rem fs : List Nat) (w : Option V), σ = [some (.ref g), some (.int (n : Nat)), some (.ref le), some (.ref fo), w] ∧ rem.length + i = 26 ∧ fs.length = i ∧ (rem ++ fs).Perm alphaL ∧ But g H H' ∧ GenAt H' g (b + 10 * i) ∧ H' le = some (.lst (signsV rem)) ∧ H' fo = some (.lst (signsV fs)))
      ⟨alphaL, [], none, rfl, rfl, rfl, by simp, But.same (s_le.trans s_fo), (G1.same s_fo), Same.at s_fo d_le, d_fo⟩ ?_ ?_
    · rintro i σ H3 hi ⟨rem, fs, w, rfl, hr, hf, hp, b3, G3, dl, df⟩
      refine ⟨_, rfl, .inl ⟨rfl, _, SqL.of df⟩, _, rfl, .inl ⟨rfl, _, SqL.of dl⟩, _, rfl, _, rfl, le, _, rfl, .inl (SqL.of dl), ?_⟩
      refine ⟨g, _, _, rfl, G3, by omega, by rw [List.length_map, List.length_map]; omega, Nat.lt_of_le_of_lt (by rw [List.length_map, List.length_map]; omega : ((((signsV rem).length : Nat) : Int)).natAbs ≤ 26) (by decide), fun q H4 q0 q1 b4 G4 => ?_⟩
      rw [List.length_map, List.length_map] at q1
      have hq : q.toNat < rem.length := by omega
      have hc : rem[q.toNat]? = some rem[q.toNat] := List.getElem?_eq_getElem hq
      have dl4 := b4.at hlg dl
      have df4 := b4.at hfg df
      refine ⟨le, _, q, q.toNat, V.str (S [rem[q.toNat]]), rfl, rfl, dl4, by omega, by omega, seq_index q0 (by rw [List.length_map, List.length_map]; omega), by rw [List.getElem?_map, List.getElem?_map, hc]; rfl, ?_⟩
      have df5 : (L2.upd H4 le (.lst ((signsV rem).eraseIdx q.toNat))) fo = some (.lst (signsV fs)) := by rw [upd_ne nlf.symm]; exact df4
      refine ⟨fo, _, _, rfl, rfl, df5, by rw [List.length_map, List.length_map]; exact small_line (by omega), ?_⟩
      have hp2 : (rem.eraseIdx q.toNat ++ (fs ++ [rem[q.toNat]])).Perm alphaL := by
        refine List.Perm.trans ?_ hp
        have e1 := (erase_perm hc).append_right fs
        refine List.Perm.trans ?_ e1
        rw [← List.append_assoc]
        exact List.perm_append_singleton _ _
      have hl2 : (rem.eraseIdx q.toNat).length = rem.length - 1 := List.length_eraseIdx_of_lt hq
      refine ⟨rem.eraseIdx q.toNat, fs ++ [rem[q.toNat]], _, rfl, by omega, by simp [hf], hp2, ?_, ?_, ?_, ?_⟩
      · exact ((b3.trans b4).own hn_le).own hfo
      · exact (G4.off hlg (Nat.le_refl _)).off hfg (by omega)
      · rw [upd_ne nlf, upd_same, map_erase, map_erase]
      · rw [upd_same]; simp
    rintro σ H3 ⟨rem, fs, w, rfl, hr, hf, hp, b3, G3, dl, df⟩
    refine ⟨⟨_, rfl⟩, _, rfl, fo, fs.map fun c => S [c], rfl, SqL.of df, by rw [List.length_map]; omega, fun ys p hy hs hn_p => ?_⟩
    obtain ⟨ws, rfl, hw, hws⟩ := perm_signs hy hs
    have nd : ws.Nodup := by
      have h1 := hp.nodup_iff.mpr alpha_nd
      exact hw.nodup_iff.mpr (List.nodup_append.mp h1).2.1
    have hwl : ws.length = n := by rw [hw.length_eq, hf]
    have hwm : ∀ c ∈ ws, 97 ≤ c ∧ c ≤ 122 := fun c hc => alpha_mem (hp.mem_iff.mp (List.mem_append.mpr (.inr (hw.mem_iff.mp hc))))
    refine ⟨_, p, ws.map fun c => S [c], rfl, rfl, .inl (SqL.of upd_same), join_bound (by omega), ?_⟩
    rw [join_signs]
    exact k ws _ hwl (strict_of hws nd) hwm (b3.trans (But.same (Same.upd hn_p))) (G3.same (Same.upd hn_p))
/-! _law_word -/
def sp__law_word : Sp := fun vs H Q _ => ∃ (g : Addr) (l : List Nat) (n b : Nat), vs = [.ref g, .str (S l), .int (n : Int)] ∧ GenAt H g b ∧ b + 10 * n ≤ 900000000 ∧ 0 < l.length ∧ l.length ≤ 50000 ∧ n ≤ 50000 ∧ ∀ (ws : List Nat) H', ws.length = n → (∀ c ∈ ws, c ∈ l) → But g H H' → GenAt H' g (b + 10 * n) → Q (.str (S ws)) H'
theorem ok__law_word (T : Txt K mg) : FnOk P w K mg base CX0 3 T.f__law_word T.fd__law_word P__law_word (sp__law_word) := by
  have nd : N__law_word.Nodup := sc__law_word.nd
  refine T.F__law_word.ok sc__law_word (fun vs H Q E h => ?_) (fun cdv A outer s H vs Q E hr h => ?_)
  · obtain ⟨g, l, n, b, rfl, _⟩ := h
    rfl
  · obtain ⟨g, l, n, b, rfl, G, hb, hl0, hl, hn, k⟩ := h
    refine ⟨_, (pss_one (ps_ret (pe_join pe_str (pe_lc (own := [("_law_turn", 3)]) (hc := rfl) (hN := nd) (pi_range1 rfl T.z_range (pa_cons (pv 2) pa_nil)) (blkOk_by (N := N__law_word) (sc := defScope s__law_word) (by decide +kernel)) (fun _ _ _ _ _ => by exact (pg_name (i := 3) nd rfl (Or.inl rfl))) (fun _ _ _ _ _ => by exact pts_nil) (fun _ _ _ _ _ => by exact (pe_item_str (pv 1) (pe_call (ok__law_random T) (hr.mono (by decide)) rfl T.m__law_random T.F__law_random.kp T.b__law_random .nil pass0 (pa_cons (pv 0) (pa_cons (pe_callB (call_lenK K) (by rfl) T.z_len (by decide +kernel) (pa_cons (pv 1) pa_nil)) pa_nil))) (fun _ _ => rfl))))))), ?_⟩
    refine ⟨⟨_, rfl⟩, _, rfl, _, rfl, by omega, by omega, fun D hD => ?_⟩
    rw [Int.toNat_natCast]
    refine lc_it walk_range (fun i H' => ∃ ws : List Nat, ws.length = i ∧ (∀ c ∈ ws, c ∈ l) ∧ But g H H' ∧ GenAt H' g (b + 10 * i) ∧ H' D = some (.lst ((ws.map fun c => S [c]).map V.str)))
      ⟨[], rfl, fun c h => (nomatch h), But.same (Same.upd hD), G.new hD, upd_same⟩ (fun _ _ _ _ => trivial) ?_ ?_
    · rintro i x H1 H2 hi ⟨ws, hlen, hm, b1, G1, d1⟩ ⟨rfl, rfl⟩
      have nD : D ≠ g := G.ne hD
      refine ⟨rfl, _, rfl, _, rfl, _, rfl, _, l.length, rfl, ⟨by rw [len_S]; exact small_le (by omega), by rw [len_S]⟩, ?_⟩
      refine ⟨g, _, b + 10 * i, rfl, G1, by omega, by omega, Nat.lt_of_le_of_lt (by omega : (l.length : Int).natAbs ≤ 50000) (by decide), fun r H3 r0 r1 b3 G3 => ?_⟩
      have hr : r.toNat < l.length := by omega
      refine ⟨S l, r, l[r.toNat], rfl, rfl, r0, by omega, by rw [len_S]; omega, by rw [at_S]; exact List.getElem?_eq_getElem hr, ?_⟩
      refine ⟨_, b3 _ _ nD d1, ?_, ws ++ [l[r.toNat]], by simp [hlen], ?_, ?_, ?_, ?_⟩
      · rw [List.length_map, List.length_map, hlen]; exact small_line (by omega)
      · intro c hc
        rcases List.mem_append.mp hc with hc | hc
        · exact hm c hc
        · rw [List.mem_singleton.mp hc]; exact List.getElem_mem hr
      · exact fun c o ne e => by rw [upd_ne (ne_of_none e hD)]; exact (b1.trans b3) c o ne e
      · obtain ⟨x, y, z, g0, hx⟩ := G3
        exact ⟨x, y, z, by rw [upd_ne nD.symm]; exact g0, hx.1, hx.2.1, by omega, by omega⟩
      · rw [upd_same]; simp
    · rintro H1 ⟨ws, hlen, hm, b1, G1, d1⟩
      refine ⟨_, D, ws.map fun c => S [c], rfl, rfl, .inl (SqL.of d1), ?_, ?_⟩
      · exact join_bound (by omega)
      · rw [join_signs]
        exact k ws H1 hlen hm b1 G1
/-! _law_round -/
def sp__law_round : Sp := fun vs H Q _ => ∃ (g : Addr) (bs ss : List Nat) (m b : Nat), vs = [.ref g, .str (S bs), .str (S ss), .int (m : Int)] ∧ GenAt H g b ∧ b ≤ 800000000 ∧ bs.length ≤ 26 ∧ 0 < ss.length ∧ ss.length ≤ 26 ∧ m ≤ 60 ∧ (∀ c ∈ bs, c ≠ 42) ∧ ∀ (ws : List Nat) H', (ws.length ≤ m ∨ ws.length ≤ 2) → (∀ c ∈ ws, c ∈ bs ∨ c ∈ ss) → But g H H' → GenAt H' g (b + 2000) → Q (.str (S ws)) H'
theorem ok__law_round (T : Txt K mg) : FnOk P w K mg base CX0 3 T.f__law_round T.fd__law_round P__law_round (sp__law_round) := by
  have nd : N__law_round.Nodup := sc__law_round.nd
  refine T.F__law_round.ok sc__law_round (fun vs H Q E h => ?_) (fun cdv A outer s H vs Q E hr h => ?_)
  · obtain ⟨g, bs, ss, m, b, rfl, _⟩ := h
    rfl
  · obtain ⟨g, bs, ss, m, b, rfl, G, hb, hbl, hs0, hsl, hm, hb42, k⟩ := h
    refine ⟨_, (pss_cons (ps_par (i := 4) (j := 5) rfl nd rfl rfl (by decide) rfl rfl (pa_cons (pe_op op_cat (pe_callTy (call_list_str rfl) (by rfl) T.z_list (by decide +kernel) (pa_cons (pv 1) pa_nil)) (pe_lst (pa_cons pe_str pa_nil))) (pa_cons (pe_lst (pa_cons pe_str pa_nil)) pa_nil)) (by rfl))
      (pss_cons (ps_for PassesOwn.never rfl (pi_range1 rfl T.z_range (pa_cons (pe_call (ok__law_random T) (hr.mono (by decide)) rfl T.m__law_random T.F__law_random.kp T.b__law_random .nil pass0 (pa_cons (pv 0) (pa_cons pe_int pa_nil))) pa_nil)) (pg_name (i := 6) nd rfl (Or.inl rfl))
      (pss_one (ps_expr (pe_bm PySem.F.plainAttrs_list PySem.F.slot_list_append PySem.F.type_list_append mt_append (pv 5) (pa_cons (pe_ix ix_list (pv 4) (pe_call (ok__law_random T) (hr.mono (by decide)) rfl T.m__law_random T.F__law_random.kp T.b__law_random .nil pass0 (pa_cons (pv 0) (pa_cons (pe_callB call_len_seq (by rfl) T.z_len (by decide +kernel) (pa_cons (pv 4) pa_nil)) pa_nil))) (fun _ _ => rfl)) pa_nil)))))
      (pss_cons (ps_set (i := 7) nd rfl (Or.inl rfl) (pe_op op_add pe_int (pe_call (ok__law_random T) (hr.mono (by decide)) rfl T.m__law_random T.F__law_random.kp T.b__law_random .nil pass0 (pa_cons (pv 0) (pa_cons (pe_callB (call_max2 rfl) (by rfl) T.z_max (by decide +kernel) (pa_cons pe_int (pa_cons (pe_op op_fdivW (pe_op op_add (pv 3) pe_int) (pe_callB call_len_seq (by rfl) T.z_len (by decide +kernel) (pa_cons (pv 5) pa_nil))) pa_nil))) pa_nil)))))
      (pss_cons (ps_set (i := 8) nd rfl (Or.inl rfl) (pe_op op_rep (pv 5) (pv 7)))
      (pss_cons (ps_setLc (i := 9) (own := [("_law_cell_here", 13), ("_law_sign", 12)]) rfl nd rfl rfl (sw_true rfl rfl rfl (by decide +kernel)) (pi_enum (by rfl) T.z_enumerate (pa_cons (pv 8) pa_nil)) (blkOk_by (N := N__law_round) (sc := defScope s__law_round) (by decide +kernel)) (fun _ _ _ _ _ => by exact (pg_tupK K (n := 2) rfl (pgs_cons (by exact (pg_name (i := 13) nd rfl (Or.inl rfl))) (pgs_cons (by exact (pg_name (i := 12) nd rfl (Or.inl rfl))) pgs_nil)))) (fun _ _ _ _ _ => by exact (pts_one (pt_cmpR op_eq (pv 12) pe_str (nomark _)))) (fun _ _ _ _ _ => by exact (pv 13)))
      (pss_cons (ps_set (i := 10) nd rfl (Or.inl rfl) (pe_ix ix_list (pv 9) (pe_call (ok__law_random T) (hr.mono (by decide)) rfl T.m__law_random T.F__law_random.kp T.b__law_random .nil pass0 (pa_cons (pv 0) (pa_cons (pe_callB call_len_seq (by rfl) T.z_len (by decide +kernel) (pa_cons (pv 9) pa_nil)) pa_nil))) (fun _ _ => rfl)))
      (pss_cons (ps_set (i := 11) nd rfl (Or.inl rfl) (pe_lst pa_nil))
      (pss_cons (ps_for PassesOwn.never rfl (pi_list (pe_op op_cat (pe_slice sl_list (pv 8) (po_some (pe_op op_add (pv 10) pe_int)) po_none) (pe_slice sl_list (pv 8) po_none (po_some (pv 10))))) (pg_name (i := 12) nd rfl (Or.inl rfl))
      (pss_one (ps_expr (pe_bm PySem.F.plainAttrs_list PySem.F.slot_list_append PySem.F.type_list_append mt_append (pv 11) (pa_cons (pe_ifExp (pt_cmpR op_eq (pv 12) pe_str (nomark _)) (pe_item_str (pv 2) (pe_call (ok__law_random T) (hr.mono (by decide)) rfl T.m__law_random T.F__law_random.kp T.b__law_random .nil pass0 (pa_cons (pv 0) (pa_cons (pe_callB call_len (by rfl) T.z_len (by decide +kernel) (pa_cons (pv 2) pa_nil)) pa_nil))) (fun _ _ => rfl)) (pv 12)) pa_nil)))))
      (pss_one (ps_ret (pe_join pe_str (pv 11)))))))))))), ?_⟩
    refine ⟨_, rfl, bs, rfl, by omega, ?_⟩
    intro q1 hn_q1
    generalize hX_q1 : L2.upd _ q1 _ = H1
    have s_q1 := alloc_same hX_q1 hn_q1
    have d_q1 := alloc_at hX_q1
    refine ⟨(by show 1 ≤ sizeLine; decide), ?_⟩
    intro q2 hn_q2
    generalize hX_q2 : L2.upd _ q2 _ = H2
    have s_q2 := alloc_same hX_q2 hn_q2
    have d_q2 := alloc_at hX_q2
    refine ⟨q1, q2, _, _, rfl, rfl, (by (first | assumption | exact upd_same | (refine Same.at (by assumption) ?_; (first | assumption | exact upd_same | (refine Same.at (by assumption) ?_; (first | assumption | exact upd_same | (refine Same.at (by assumption) ?_; (first | assumption | exact upd_same | (refine Same.at (by assumption) ?_; (first | assumption | exact upd_same | (refine Same.at (by assumption) ?_; (first | assumption | exact upd_same | (refine Same.at (by assumption) ?_; (first | assumption | exact upd_same | (refine Same.at (by assumption) ?_; (first | assumption | exact upd_same | (refine Same.at (by assumption) ?_; (first | assumption | exact upd_same | (refine Same.at (by assumption) ?_; (first | assumption | exact upd_same | (refine Same.at (by assumption) ?_; (first | assumption | exact upd_same | (refine Same.at (by assumption) ?_; (first | assumption | exact upd_same | (refine Same.at (by assumption) ?_; (first | assumption | exact upd_same | (refine Same.at (by assumption) ?_; (first | assumption | exact upd_same | (refine Same.at (by assumption) ?_; (first | assumption | exact upd_same)))))))))))))))))))))))))))))), (by (first | assumption | exact upd_same | (refine Same.at (by assumption) ?_; (first | assumption | exact upd_same | (refine Same.at (by assumption) ?_; (first | assumption | exact upd_same | (refine Same.at (by assumption) ?_; (first | assumption | exact upd_same | (refine Same.at (by assumption) ?_; (first | assumption | exact upd_same | (refine Same.at (by assumption) ?_; (first | assumption | exact upd_same | (refine Same.at (by assumption) ?_; (first | assumption | exact upd_same | (refine Same.at (by assumption) ?_; (first | assumption | exact upd_same | (refine Same.at (by assumption) ?_; (first | assumption | exact upd_same | (refine Same.at (by assumption) ?_; (first | assumption | exact upd_same | (refine Same.at (by assumption) ?_; (first | assumption | exact upd_same | (refine Same.at (by assumption) ?_; (first | assumption | exact upd_same | (refine Same.at (by assumption) ?_; (first | assumption | exact upd_same | (refine Same.at (by assumption) ?_; (first | assumption | exact upd_same | (refine Same.at (by assumption) ?_; (first | assumption | exact upd_same)))))))))))))))))))))))))))))), small_le (by simp; omega), ?_⟩
    intro kd hn_kd
    generalize hX_kd : L2.upd _ kd _ = H3
    have s_kd := alloc_same hX_kd hn_kd
    have d_kd := alloc_at hX_kd
    refine ⟨(by show 1 ≤ sizeLine; decide), ?_⟩
    intro bk hn_bk
    generalize hX_bk : L2.upd _ bk _ = H4
    have s_bk := alloc_same hX_bk hn_bk
    have d_bk := alloc_at hX_bk
    have G4 := (((G.same s_q1).same s_q2).same s_kd).same s_bk
    have S4 : Same H H4 := s_q1.trans (s_q2.trans (s_kd.trans s_bk))
    have hkg : kd ≠ g := ((G.same s_q1).same s_q2).ne hn_kd
    have hbg : bk ≠ g := (((G.same s_q1).same s_q2).same s_kd).ne hn_bk
    have hbk : H bk = none := (s_q1.trans (s_q2.trans s_kd)).free hn_bk
    have nkb : kd ≠ bk := ne_of_none d_kd hn_bk
    have ekd : signsV bs ++ [V.str (Str.ofString "*")] = signsV (bs ++ [42]) := by rw [star_lit]; simp
    rw [ekd] at d_kd
    have dk4 : H4 kd = some (.lst (signsV (bs ++ [42]))) := Same.at s_bk d_kd
    have db4 : H4 bk = some (.lst (signsV [42])) := by rw [d_bk, star_lit]; rfl
    refine ⟨_, _, rfl, ?_⟩
    refine ⟨_, rfl, g, 3, b, rfl, G4, by omega, by decide, by decide, fun r0 H5 r00 r01 b5 G5 => ?_⟩
    obtain ⟨n0, rfl⟩ := Int.eq_ofNat_of_zero_le r00
    refine ⟨_, rfl, by omega, by omega, ?_⟩
    rw [Int.toNat_natCast]
    refine for_range (lo := 0) (n := n0) (fun i σ H' => ∃ (bl : List Nat) (w : Option V), σ = [some (.ref g), some (.str (S bs)), some (.str (S ss)), some (.int (m : Nat)), some (.ref kd), some (.ref bk), w, none, none, none, none, none, none, none] ∧ bl.length = 1 + i ∧ bl[0]? = some 42 ∧ (∀ c ∈ bl, c = 42 ∨ c ∈ bs) ∧ But g H H' ∧ GenAt H' g (b + 10 + 10 * i) ∧ H' kd = some (.lst (signsV (bs ++ [42]))) ∧ H' bk = some (.lst (signsV bl)))
      ⟨[42], none, rfl, rfl, rfl, (by simp), (But.same S4).trans b5, G5, b5.at hkg dk4, b5.at hbg db4⟩ ?_ ?_
    · rintro i σ H6 hi ⟨bl, w, rfl, hl, hz, hc, b6, G6, dk6, db6⟩
      refine ⟨_, rfl, .inl ⟨rfl, _, SqL.of db6⟩, _, rfl, _, rfl, _, rfl, kd, _, rfl, .inl (SqL.of dk6), ?_⟩
      rw [wordV_len]
      refine ⟨g, _, _, rfl, G6, by omega, by simp, Nat.lt_of_le_of_lt (by simp; omega : ((((bs ++ [42]).length : Nat) : Int)).natAbs ≤ 27) (by decide), fun q H7 q0 q1 b7 G7 => ?_⟩
      have hq : q.toNat < (bs ++ [42]).length := by omega
      have hcq : (bs ++ [42])[q.toNat]? = some (bs ++ [42])[q.toNat] := List.getElem?_eq_getElem hq
      have hmq := List.getElem_mem hq
      generalize (bs ++ [42])[q.toNat] = c at hcq hmq
      refine ⟨kd, _, q, V.str (S [c]), rfl, rfl, SqL.of (b7.at hkg dk6), at_of (j := q.toNat) (by omega) (signs_at hcq), ?_⟩
      have db7 := b7.at hbg db6
      refine ⟨bk, _, _, rfl, rfl, db7, by rw [wordV_len]; exact small_line (by omega), ?_⟩
      refine ⟨bl ++ [c], _, rfl, by simp; omega, by rw [List.getElem?_append_left (by omega)]; exact hz, fun d hd => ?_, (b6.trans b7).own hbk, G7.off hbg (by omega), ?_, ?_⟩
      · rcases List.mem_append.mp hd with hd | hd
        · exact hc d hd
        · rw [List.mem_singleton.mp hd]
          rcases List.mem_append.mp hmq with h | h
          · exact .inr h
          · exact .inl (List.mem_singleton.mp h)
      · rw [upd_ne nkb]; exact b7.at hkg dk6
      · rw [upd_same]; simp
    rintro σ H6 ⟨bl, w, rfl, hl, hz, hc, b6, G6, dk6, db6⟩
    have hbl0 : 0 < bl.length := by omega
    have hbl3 : bl.length ≤ 3 := by omega
    -- times
    refine ⟨_, rfl, _, rfl, _, _, rfl, rfl, _, rfl, bk, _, rfl, .inl (SqL.of db6), ?_⟩
    rw [wordV_len]
    refine ⟨_, _, rfl, rfl, wide_div (j := (bl.length : Int)) (b := 3) (by omega) (by show (bl.length : Int).natAbs < 8; omega) (by decide) (by decide), _, _, rfl, ?_⟩
    obtain ⟨M, hM, hM1, hM2, hM3, hM4⟩ : ∃ M : Nat, (if ((m : Int) + 1) / (bl.length : Int) > 1 then ((m : Int) + 1) / (bl.length : Int) else 1) = (M : Int) ∧ 1 ≤ M ∧ M * bl.length ≤ 64 ∧ M ≤ 61 ∧ (M * bl.length ≤ m + 1 ∨ M = 1) := by
      have h1 : ((m : Int) + 1) / (bl.length : Int) = (((m + 1) / bl.length : Nat) : Int) := by rw [Int.natCast_ediv]; rfl
      rw [h1]
      have h2 : (m + 1) / bl.length * bl.length ≤ m + 1 := Nat.div_mul_le_self _ _
      have h3 : (m + 1) / bl.length ≤ m + 1 := Nat.div_le_self _ _
      by_cases h : (((m + 1) / bl.length : Nat) : Int) > 1
      · rw [if_pos h]; exact ⟨_, rfl, by omega, by omega, by omega, .inl h2⟩
      · rw [if_neg h]; exact ⟨1, rfl, by omega, by omega, by omega, .inr rfl⟩
    rw [hM]
    refine ⟨g, _, _, rfl, G6, by omega, by omega, Nat.lt_of_le_of_lt (show ((M : Int)).natAbs ≤ 61 by omega) (by decide), fun r H7 r0' r1' b7 G7 => ?_⟩
    obtain ⟨t0, rfl⟩ := Int.eq_ofNat_of_zero_le r0'
    refine ⟨_, _, rfl, rfl, ?_⟩
    have db7 := b7.at hbg db6
    have b07 := b6.trans b7
    -- the ring
    have htl : (1 + t0) * bl.length ≤ 64 := by
      have h1 : (1 + t0) ≤ M := by omega
      exact Nat.le_trans (Nat.mul_le_mul_right _ h1) hM2
    have htl2 : (1 + t0) * bl.length ≤ m + 1 ∨ (1 + t0) * bl.length ≤ 3 := by
      rcases hM4 with h | h
      · exact .inl (Nat.le_trans (Nat.mul_le_mul_right _ (show 1 + t0 ≤ M by omega)) h)
      · right
        have : t0 = 0 := by omega
        rw [this]; omega
    refine ⟨_, rfl, _, rfl, bk, (1 + (t0 : Int)), _, rfl, rfl, db7, by omega, by omega, ?_, ?_⟩
    · rw [wordV_len, show (1 + (t0 : Int)).toNat = 1 + t0 by omega, Nat.mul_comm]; exact small_le (by omega)
    intro rg hn_rg
    generalize hX_rg : L2.upd _ rg _ = H8
    have s_rg := alloc_same hX_rg hn_rg
    have d_rg := alloc_at hX_rg
    rw [show (1 + (t0 : Int)).toNat = 1 + t0 by omega, signs_flat] at d_rg
    have hR : (List.replicate (1 + t0) bl).flatten.length ≤ 64 := by rw [flat_len]; exact htl
    have hR2 : (List.replicate (1 + t0) bl).flatten.length ≤ m + 1 ∨ (List.replicate (1 + t0) bl).flatten.length ≤ 3 := by rw [flat_len]; exact htl2
    have hR0 : (List.replicate (1 + t0) bl).flatten[0]? = some 42 := by
      rw [Nat.add_comm, List.replicate_succ, List.flatten_cons, List.getElem?_append_left hbl0]; exact hz
    have hRc : ∀ c ∈ (List.replicate (1 + t0) bl).flatten, c = 42 ∨ c ∈ bs := fun c h => hc c (flat_mem h)
    generalize (List.replicate (1 + t0) bl).flatten = R at d_rg hR hR2 hR0 hRc
    have hRp : 0 < R.length := (List.getElem?_eq_some_iff.mp hR0).1
    have G8 := G7.same s_rg
    -- its stars
    refine ⟨_, rfl, rg, _, rfl, SqL.of d_rg, fun D hD => ?_⟩
    refine lc_it (walk_enum (K := K) (a := rg) (xs := signsV R)) (fun i H' => Same H8 H' ∧ H' D = some (.lst (placesV (starsAt R i)))) ⟨Same.upd hD, upd_same⟩ (fun i H' _ ⟨s, _⟩ => SqL.of (s _ _ d_rg)) ?_ ?_
    · rintro i x H9 H10 hi ⟨s9, d9⟩ ⟨T1, x1, y1, rfl, hT, rfl, h1, h2⟩
      obtain ⟨c, hcR, rfl⟩ := signs_of h2
      have h1' : V.int (i : Nat) = x1 := Option.some.inj h1
      subst h1'
      have nT : D ≠ T1 := ne_of_none d9 hT
      have ee := stars_succ hcR
      have hsl2 := stars_len R i
      rw [wordV_len] at hi
      refine ⟨T1, _, rfl, SqT.of upd_same, rfl, _, _, rfl, _, _, rfl, rfl, rfl, ?_⟩
      refine ⟨_, rfl, rfl, _, rfl, ?_⟩
      rw [star_lit, dec_signs]
      refine ite2 (fun z => ?_) (fun z => ?_)
      · have z' : c = 42 := by have := of_decide_eq_true z; injection this
        rw [if_pos z'] at ee
        exact ⟨_, rfl, grow hD (s9.trans (Same.upd hT)) (Same.at (Same.upd hT) d9) (by rw [List.length_map]; omega) (by rw [ee]; simp [placesV])⟩
      · have z' : ¬ c = 42 := fun q => z (decide_eq_true (by rw [q]))
        rw [if_neg z'] at ee
        exact ⟨s9.trans (Same.upd hT), by rw [upd_ne nT, d9, ee]; simp⟩
    rintro H9 ⟨s9, d9⟩
    rw [wordV_len] at d9
    have hDg : D ≠ g := G8.ne hD
    have h0s : 0 ∈ starsAt R R.length := List.mem_filter.mpr ⟨List.mem_range.mpr hRp, decide_eq_true hR0⟩
    have hsl0 : 0 < (starsAt R R.length).length := List.length_pos_of_mem h0s
    have hsl1 := stars_len R R.length
    have hsm : ∀ h ∈ starsAt R R.length, h < R.length := fun h hh => List.mem_range.mp (List.mem_filter.mp hh).1
    generalize starsAt R R.length = st at d9 hsl0 hsl1 hsm
    refine ⟨_, rfl, _, rfl, _, rfl, D, _, rfl, .inl (SqL.of d9), ?_⟩
    rw [List.length_map]
    refine ⟨g, _, _, rfl, G8.same s9, by omega, by omega, Nat.lt_of_le_of_lt (show ((st.length : Nat) : Int).natAbs ≤ 64 by omega) (by decide), fun q H10 q0 q1 b10 G10 => ?_⟩
    have hq : q.toNat < st.length := by omega
    have hcq : st[q.toNat]? = some st[q.toNat] := List.getElem?_eq_getElem hq
    have hh := hsm _ (List.getElem_mem hq)
    generalize st[q.toNat] = h at hcq hh
    refine ⟨D, _, q, V.int (h : Nat), rfl, rfl, SqL.of (b10.at hDg d9), at_of (j := q.toNat) (by omega) (by rw [List.getElem?_map, hcq]; rfl), ?_⟩
    have hrg : rg ≠ g := G7.ne hn_rg
    have dr10 := b10.at hrg (Same.at s9 d_rg)
    have b010 : But g H H10 := b07.trans ((But.same (s_rg.trans s9)).trans b10)
    -- found
    refine ⟨(by show 0 ≤ sizeLine; decide), ?_⟩
    intro fo hn_fo
    generalize hX_fo : L2.upd _ fo _ = H11
    have s_fo := alloc_same hX_fo hn_fo
    have d_fo := alloc_at hX_fo
    have hfg : fo ≠ g := G10.ne hn_fo
    have hfo : H fo = none := b010.free G10 hn_fo
    refine ⟨_, rfl, _, rfl, _, _, rfl, rfl, _, rfl, rg, _, rfl, SqL.of (Same.at s_fo dr10), ?_⟩
    intro p1 hn_p1
    generalize hX_p1 : L2.upd _ p1 _ = H12
    have s_p1 := alloc_same hX_p1 hn_p1
    have d_p1 := alloc_at hX_p1
    rw [show ((h : Int) + 1) = ((h + 1 : Nat) : Int) by omega, cutV_drop] at d_p1
    refine ⟨_, rfl, _, rfl, _, rfl, rg, _, rfl, SqL.of (Same.at s_p1 (Same.at s_fo dr10)), ?_⟩
    intro p2 hn_p2
    generalize hX_p2 : L2.upd _ p2 _ = H13
    have s_p2 := alloc_same hX_p2 hn_p2
    have d_p2 := alloc_at hX_p2
    rw [cutV_take] at d_p2
    refine ⟨p1, p2, _, _, rfl, rfl, Same.at s_p2 d_p1, d_p2, ?_, ?_⟩
    · rw [List.length_drop, List.length_take, wordV_len]; exact small_le (by omega)
    intro p3 hn_p3
    generalize hX_p3 : L2.upd _ p3 _ = H14
    have s_p3 := alloc_same hX_p3 hn_p3
    have d_p3 := alloc_at hX_p3
    have G14 := (((G10.same s_fo).same s_p1).same s_p2).same s_p3
    have n3g : p3 ≠ g := (((G10.same s_fo).same s_p1).same s_p2).ne hn_p3
    have n3f : fo ≠ p3 := ne_of_none (Same.at s_p2 (Same.at s_p1 d_fo)) hn_p3
    have e3 : (signsV R).drop (h + 1) ++ (signsV R).take h = signsV (R.drop (h + 1) ++ R.take h) := by simp
    rw [e3] at d_p3
    have hL : (R.drop (h + 1) ++ R.take h).length ≤ 64 := by rw [List.length_append, List.length_drop, List.length_take]; omega
    have hL2 : (R.drop (h + 1) ++ R.take h).length ≤ m ∨ (R.drop (h + 1) ++ R.take h).length ≤ 2 := by rw [List.length_append, List.length_drop, List.length_take]; omega
    have hLc : ∀ c ∈ R.drop (h + 1) ++ R.take h, c = 42 ∨ c ∈ bs := fun c hc' => hRc c ((List.mem_append.mp hc').elim List.mem_of_mem_drop List.mem_of_mem_take)
    generalize R.drop (h + 1) ++ R.take h = L at d_p3 hL hL2 hLc
    refine ⟨p3, rfl, ⟨_, SqL.of d_p3⟩, ?_⟩
    have b014 : But g H H14 := b010.trans (But.same (s_fo.trans (s_p1.trans (s_p2.trans s_p3))))
    have df14 : H14 fo = some (.lst (signsV [])) := Same.at s_p3 (Same.at s_p2 (Same.at s_p1 d_fo))
    refine for_list (K := K) (a := p3) (xs := signsV L) (fun i σ H' => ∃ (fs : List Nat) (w1 w2 : Option V), σ = [some (.ref g), some (.str (S bs)), some (.str (S ss)), some (.int (m : Nat)), some (.ref kd), some (.ref bk), w1, some (.int (1 + (t0 : Int))), some (.ref rg), some (.ref D), some (.int (h : Nat)), some (.ref fo), w2, none] ∧ fs.length = i ∧ (∀ c ∈ fs, c ∈ bs ∨ c ∈ ss) ∧ But g H H' ∧ GenAt H' g (b + 100 + 10 * i) ∧ H' p3 = some (.lst (signsV L)) ∧ H' fo = some (.lst (signsV fs)))
      ⟨[], w, _, rfl, rfl, (by simp), b014, G14.mono (by omega), d_p3, df14⟩ (fun i σ H' _ ⟨_, _, _, _, _, _, _, _, e, _⟩ => SqL.of e) ?_ ?_
    · rintro i y σ H15 hi ⟨fs, w1, w2, rfl, hfl, hfc, b15, G15, d15, f15⟩
      obtain ⟨c, hcL, rfl⟩ := signs_of hi
      have hiL : i < L.length := (List.getElem?_eq_some_iff.mp hcL).1
      have hcm := hLc c (List.mem_of_getElem? hcL)
      refine ⟨_, rfl, .inl ⟨rfl, _, SqL.of f15⟩, _, rfl, rfl, _, rfl, ?_⟩
      rw [star_lit, dec_signs]
      refine ite2 (fun z => ?_) (fun z => ?_)
      · refine ⟨_, rfl, _, rfl, _, rfl, _, ss.length, rfl, ⟨by rw [len_S]; exact small_le (by omega), by rw [len_S]⟩, ?_⟩
        refine ⟨g, _, _, rfl, G15, by omega, by omega, Nat.lt_of_le_of_lt (show ((ss.length : Nat) : Int).natAbs ≤ 26 by omega) (by decide), fun q2 H16 q20 q21 b16 G16 => ?_⟩
        have hq2 : q2.toNat < ss.length := by omega
        refine ⟨S ss, q2, ss[q2.toNat], rfl, rfl, q20, by omega, by rw [len_S]; omega, by rw [at_S]; exact List.getElem?_eq_getElem hq2, ?_⟩
        have f16 := b16.at hfg f15
        refine ⟨fo, _, _, rfl, rfl, f16, by rw [wordV_len]; exact small_line (by omega), ?_⟩
        refine ⟨fs ++ [ss[q2.toNat]], _, _, rfl, by simp [hfl], fun d hd => ?_, (b15.trans b16).own hfo, G16.off hfg (by omega), ?_, ?_⟩
        · rcases List.mem_append.mp hd with hd | hd
          · exact hfc d hd
          · rw [List.mem_singleton.mp hd]; exact .inr (List.getElem_mem hq2)
        · rw [upd_ne n3f.symm]; exact b16.at n3g d15
        · rw [upd_same]; simp
      · have hc42 : ¬ c = 42 := fun q => z (decide_eq_true (by rw [q]))
        refine ⟨_, rfl, fo, _, _, rfl, rfl, f15, by rw [wordV_len]; exact small_line (by omega), ?_⟩
        refine ⟨fs ++ [c], _, _, rfl, by simp [hfl], fun d hd => ?_, b15.own hfo, G15.off hfg (by omega), ?_, ?_⟩
        · rcases List.mem_append.mp hd with hd | hd
          · exact hfc d hd
          · rw [List.mem_singleton.mp hd]; exact .inl (hcm.resolve_left hc42)
        · rw [upd_ne n3f.symm]; exact d15
        · rw [upd_same]; simp
    rintro σ H15 ⟨fs, w1, w2, rfl, hfl, hfc, b15, G15, d15, f15⟩
    rw [wordV_len] at hfl G15
    refine ⟨⟨_, rfl⟩, _, rfl, _, fo, fs.map fun c => S [c], rfl, rfl, .inl (SqL.of f15), join_bound (by omega), ?_⟩
    rw [join_signs]
    exact k fs _ (by rw [hfl]; exact hL2) hfc b15 (G15.mono (by omega))
/-! _law_made -/
def sp__law_made : Sp := fun vs H Q _ => ∃ l js : List Nat, vs = [.str (S l), .str (S js)] ∧ l.length ≤ 4000 ∧ ∀ p ws H', H p = none → Same H H' → H' p = some (.lst (wordsV ws)) → DeedsOf l js ws → Q (.ref p) H'
theorem ok__law_made (T : Txt K mg) : FnOk P w K mg base CX0 3 T.f__law_made T.fd__law_made P__law_made (sp__law_made) := by
  have nd : N__law_made.Nodup := sc__law_made.nd
  refine T.F__law_made.ok sc__law_made (fun vs H Q E h => ?_) (fun cdv A outer s H vs Q E hr h => ?_)
  · obtain ⟨l, js, rfl, _⟩ := h
    rfl
  · obtain ⟨l, js, rfl, hl, k⟩ := h
    refine ⟨_, (pss_one (ps_ret (pe_callB (cr_sortedX rfl) (by rfl) T.z_sorted (by decide +kernel) (pa_cons (pe_callTy (cr_setX rfl) (by rfl) T.z_set (by decide +kernel) (pa_cons (pe_lc (own := [("_law_place", 2)]) (hc := rfl) (hN := nd) (pi_list (pe_call (ok__law_places T) (hr.mono (by decide)) rfl T.m__law_places T.F__law_places.kp T.b__law_places .nil pass0 (pa_cons (pv 0) (pa_cons (pv 1) pa_nil)))) (blkOk_by (N := N__law_made) (sc := defScope s__law_made) (by decide +kernel)) (fun _ _ _ _ _ => by exact (pg_name (i := 2) nd rfl (Or.inl rfl))) (fun _ _ _ _ _ => by exact pts_nil) (fun _ _ _ _ _ => by exact (pe_call (ok__law_deed T) (hr.mono (by decide)) rfl T.m__law_deed T.F__law_deed.kp T.b__law_deed .nil pass0 (pa_cons (pv 0) (pa_cons (pv 2) pa_nil))))) pa_nil)) pa_nil)))), ?_⟩
    refine ⟨_, rfl, _, rfl, l, js, rfl, by omega, fun p H1 hp s1 d1 => ?_⟩
    have hol := openL_len l js
    refine ⟨p, rfl, ⟨_, SqL.of d1⟩, fun D hD => ?_⟩
    refine lc_it walk_list (fun i H' => Same H1 H' ∧ H' D = some (.lst (wordsV ((deedsL l js).take i)))) ⟨Same.upd hD, upd_same⟩ (fun i H' _ ⟨s, _⟩ => SqL.of (s _ _ d1)) ?_ ?_
    · rintro i x H2 H3 hi ⟨s2, d2⟩ ⟨rfl, hx⟩
      obtain ⟨q, hq, rfl⟩ := place_of hx
      obtain ⟨c, hc, hjc⟩ := mem_openL (List.mem_of_getElem? hq)
      have hql : q < l.length := (List.getElem?_eq_some_iff.mp hc).1
      have hil : i < (openL l js).length := (List.getElem?_eq_some_iff.mp hq).1
      have hdq : (deedsL l js)[i]? = some (swapL l q) := by unfold deedsL; rw [List.getElem?_map, hq]; rfl
      refine ⟨rfl, _, rfl, _, rfl, l, q, rfl, by omega, hql, ?_⟩
      exact grow hD s2 d2 (by rw [List.length_map, List.length_take]; omega) (by rw [take_snoc hdq]; simp [wordsV])
    rintro H2 ⟨s2, d2⟩
    have hel : (placesV (openL l js)).length = (deedsL l js).length := by unfold deedsL; rw [List.length_map, List.length_map]
    rw [hel, List.take_length] at d2
    have hdl : (deedsL l js).length = (openL l js).length := List.length_map _
    have ew : wordsV (deedsL l js) = ((deedsL l js).map S).map V.str := by rw [List.map_map]; rfl
    rw [ew] at d2
    have hlen := once_len ((deedsL l js).map S)
    rw [List.length_map] at hlen
    refine ⟨D, _, rfl, SqL.of d2, by rw [List.length_map]; omega, fun D3 hD3 => ?_⟩
    generalize hX_3 : L2.upd H2 D3 _ = H3
    have s_3 : Same H2 H3 := alloc_same hX_3 hD3
    have d_3 := alloc_at hX_3
    refine ⟨D3, _, rfl, d_3, by omega, fun us q hus hso hq => ?_⟩
    obtain ⟨vs, rfl, nd, hm⟩ := once_words _ hus
    generalize hX_q : L2.upd H3 q _ = H4
    have s_q : Same H3 H4 := alloc_same hX_q hq
    have d_q := alloc_at hX_q
    rw [List.map_map] at d_q
    exact k q vs H4 (s1.free (s2.free (s_3.free hq))) (s1.trans (s2.trans (s_3.trans s_q))) d_q ⟨nd, hm, hso⟩
/-! open_places -/
def sp_open_places : Sp := fun vs H Q _ => ∃ (l js : List Nat), vs = [.str (S l), .str (S js)] ∧ l.length ≤ 50000 ∧ wordB l = true ∧ js.length ≤ 50000 ∧ jointsB js = true ∧ ∀ p H', H p = none → Same H H' → H' p = some (.lst ((openL l js).map fun i => .int (i : Nat))) → Q (.ref p) H'
theorem ok_open_places (T : Txt K mg) : FnOk P w K mg base CX0 4 T.f_open_places T.fd_open_places P_open_places (sp_open_places) := by
  have nd : N_open_places.Nodup := sc_open_places.nd
  refine T.F_open_places.ok sc_open_places (fun vs H Q E h => ?_) (fun cdv A outer s H vs Q E hr h => ?_)
  · obtain ⟨l, js, rfl, _⟩ := h
    rfl
  · obtain ⟨l, js, rfl, hl, hw, hjl, hj, k⟩ := h
    refine ⟨_, (pss_cons (ps_expr (pe_call (ok_check_word T) (hr.mono (by decide)) rfl T.m_check_word T.F_check_word.kp T.b_check_word .nil pass0 (pa_cons (pv 0) pa_nil)))
      (pss_cons (ps_expr (pe_call (ok_check_joints T) (hr.mono (by decide)) rfl T.m_check_joints T.F_check_joints.kp T.b_check_joints .nil pass0 (pa_cons (pv 1) pa_nil)))
      (pss_one (ps_ret (pe_lc (own := [("place", 2), ("letter", 3)]) (hc := rfl) (hN := nd) (pi_enumS (by rfl) T.z_enumerate (pa_cons (pv 0) pa_nil)) (blkOk_by (N := N_open_places) (sc := defScope s_open_places) (by decide +kernel)) (fun _ _ _ _ _ => by exact (pg_tupK K (n := 2) rfl (pgs_cons (by exact (pg_name (i := 2) nd rfl (Or.inl rfl))) (pgs_cons (by exact (pg_name (i := 3) nd rfl (Or.inl rfl))) pgs_nil)))) (fun _ _ _ _ _ => by exact (pts_one (pt_cmpR op_in_sign (pv 3) (pv 1) rfl))) (fun _ _ _ _ _ => by exact (pv 2))))))), ?_⟩
    refine ⟨_, rfl, l, rfl, hl, hw, fun H1 s1 => ⟨_, rfl, js, rfl, hjl, hj, fun H2 s2 => ?_⟩⟩
    refine ⟨_, rfl, _, rfl, fun D hD => ?_⟩
    refine lc_it walk_enumS (fun i H' => Same H2 H' ∧ H' D = some (.lst (((openL (l.take i) js)).map fun i => V.int (i : Nat)))) ⟨Same.upd hD, by rw [upd_same]; rfl⟩ (fun _ _ _ _ => trivial) ?_ ?_
    · rintro i x H3 H4 hi ⟨s3, d3⟩ ⟨T1, x1, y1, rfl, hT, rfl, h1, h2⟩
      replace h2 : (l[i]?).map (fun c => V.str ⟨#[c]⟩) = some y1 := by rw [← at_S]; exact h2
      have h1' : V.int (i : Nat) = x1 := Option.some.inj h1
      subst h1'
      obtain ⟨c, hc, rfl⟩ := Option.map_eq_some_iff.mp h2
      have nT : D ≠ T1 := ne_of_none d3 hT
      have ee := openL_snoc js hc
      have hlen := openL_len (l.take i) js
      refine ⟨T1, _, rfl, SqT.of upd_same, rfl, _, _, rfl, _, _, rfl, rfl, rfl, ?_⟩
      refine ⟨_, rfl, _, rfl, c, S js, rfl, rfl, _, rfl, ?_⟩
      refine ite2 (fun z => ?_) (fun z => ?_)
      · rw [if_pos (of_decide_eq_true z)] at ee
        refine ⟨_, rfl, _, by rw [upd_ne nT]; exact d3, ?_, fun b o e => ?_, ?_⟩
        · rw [List.length_map]; rw [List.length_take] at hlen; exact small_line (by omega)
        · rw [upd_ne (ne_of_none e hD)]; exact Same.upd hT _ _ (s3 b o e)
        · rw [upd_same, ee]; simp
      · rw [if_neg (fun q => z (decide_eq_true q))] at ee
        exact ⟨s3.trans (Same.upd hT), by rw [upd_ne nT, d3, ee]; simp⟩
    · rintro H3 ⟨s3, d3⟩
      rw [size_S, List.take_length] at d3
      exact k D H3 (s1.free (s2.free hD)) ((s1.trans s2).trans s3) d3
/-! ring_turns -/
def sp_ring_turns : Sp := fun vs H Q _ => ∃ l js : List Nat, vs = [.str (S l), .str (S js)] ∧ l.length ≤ 50000 ∧ wordB l = true ∧ js.length ≤ 50000 ∧ jointsB js = true ∧ ∀ H', Same H H' → Q (.int (keepN (ringL l js) : Nat)) H'
theorem ok_ring_turns (T : Txt K mg) : FnOk P w K mg base CX0 4 T.f_ring_turns T.fd_ring_turns P_ring_turns (sp_ring_turns) := by
  have nd : N_ring_turns.Nodup := sc_ring_turns.nd
  refine T.F_ring_turns.ok sc_ring_turns (fun vs H Q E h => ?_) (fun cdv A outer s H vs Q E hr h => ?_)
  · obtain ⟨l, js, rfl, _⟩ := h
    rfl
  · obtain ⟨l, js, rfl, hl, hw, hjl, hj, k⟩ := h
    refine ⟨_, (pss_cons (ps_expr (pe_call (ok_check_word T) (hr.mono (by decide)) rfl T.m_check_word T.F_check_word.kp T.b_check_word .nil pass0 (pa_cons (pv 0) pa_nil)))
      (pss_cons (ps_expr (pe_call (ok_check_joints T) (hr.mono (by decide)) rfl T.m_check_joints T.F_check_joints.kp T.b_check_joints .nil pass0 (pa_cons (pv 1) pa_nil)))
      (pss_cons (ps_set (i := 2) nd rfl (Or.inl rfl) (pe_call (ok_ring_stars T) (hr.mono (by decide)) rfl T.m_ring_stars T.F_ring_stars.kp T.b_ring_stars .nil pass0 (pa_cons (pv 0) (pa_cons (pv 1) pa_nil))))
      (pss_one (ps_ret (pe_bm PySem.F.plainAttrs_list PySem.F.slot_list_count PySem.F.type_list_count (mt_lcountS hr.units) (pe_call (ok_turnings T) (hr.mono (by decide)) rfl T.m_turnings T.F_turnings.kp T.b_turnings .nil pass0 (pa_cons (pv 2) pa_nil)) (pa_cons (pv 2) pa_nil))))))), ?_⟩
    (repeat (first | (apply Exists.intro) | (apply And.intro; first | exact rfl | assumption | exact ⟨_, rfl⟩ | omega | exact SqL.of (by (first | assumption | exact upd_same | (refine Same.at (by assumption) ?_; (first | assumption | exact upd_same | (refine Same.at (by assumption) ?_; (first | assumption | exact upd_same | (refine Same.at (by assumption) ?_; (first | assumption | exact upd_same | (refine Same.at (by assumption) ?_; (first | assumption | exact upd_same | (refine Same.at (by assumption) ?_; (first | assumption | exact upd_same | (refine Same.at (by assumption) ?_; (first | assumption | exact upd_same | (refine Same.at (by assumption) ?_; (first | assumption | exact upd_same | (refine Same.at (by assumption) ?_; (first | assumption | exact upd_same | (refine Same.at (by assumption) ?_; (first | assumption | exact upd_same | (refine Same.at (by assumption) ?_; (first | assumption | exact upd_same | (refine Same.at (by assumption) ?_; (first | assumption | exact upd_same | (refine Same.at (by assumption) ?_; (first | assumption | exact upd_same | (refine Same.at (by assumption) ?_; (first | assumption | exact upd_same | (refine Same.at (by assumption) ?_; (first | assumption | exact upd_same)))))))))))))))))))))))))))))) | exact ⟨_, SqL.of (by (first | assumption | exact upd_same | (refine Same.at (by assumption) ?_; (first | assumption | exact upd_same | (refine Same.at (by assumption) ?_; (first | assumption | exact upd_same | (refine Same.at (by assumption) ?_; (first | assumption | exact upd_same | (refine Same.at (by assumption) ?_; (first | assumption | exact upd_same | (refine Same.at (by assumption) ?_; (first | assumption | exact upd_same | (refine Same.at (by assumption) ?_; (first | assumption | exact upd_same | (refine Same.at (by assumption) ?_; (first | assumption | exact upd_same | (refine Same.at (by assumption) ?_; (first | assumption | exact upd_same | (refine Same.at (by assumption) ?_; (first | assumption | exact upd_same | (refine Same.at (by assumption) ?_; (first | assumption | exact upd_same | (refine Same.at (by assumption) ?_; (first | assumption | exact upd_same | (refine Same.at (by assumption) ?_; (first | assumption | exact upd_same | (refine Same.at (by assumption) ?_; (first | assumption | exact upd_same | (refine Same.at (by assumption) ?_; (first | assumption | exact upd_same))))))))))))))))))))))))))))))⟩ | exact SqT.of (by (first | assumption | exact upd_same | (refine Same.at (by assumption) ?_; (first | assumption | exact upd_same | (refine Same.at (by assumption) ?_; (first | assumption | exact upd_same | (refine Same.at (by assumption) ?_; (first | assumption | exact upd_same | (refine Same.at (by assumption) ?_; (first | assumption | exact upd_same | (refine Same.at (by assumption) ?_; (first | assumption | exact upd_same | (refine Same.at (by assumption) ?_; (first | assumption | exact upd_same | (refine Same.at (by assumption) ?_; (first | assumption | exact upd_same | (refine Same.at (by assumption) ?_; (first | assumption | exact upd_same | (refine Same.at (by assumption) ?_; (first | assumption | exact upd_same | (refine Same.at (by assumption) ?_; (first | assumption | exact upd_same | (refine Same.at (by assumption) ?_; (first | assumption | exact upd_same | (refine Same.at (by assumption) ?_; (first | assumption | exact upd_same | (refine Same.at (by assumption) ?_; (first | assumption | exact upd_same | (refine Same.at (by assumption) ?_; (first | assumption | exact upd_same)))))))))))))))))))))))))))))) | (first | assumption | exact upd_same | (refine Same.at (by assumption) ?_; (first | assumption | exact upd_same | (refine Same.at (by assumption) ?_; (first | assumption | exact upd_same | (refine Same.at (by assumption) ?_; (first | assumption | exact upd_same | (refine Same.at (by assumption) ?_; (first | assumption | exact upd_same | (refine Same.at (by assumption) ?_; (first | assumption | exact upd_same | (refine Same.at (by assumption) ?_; (first | assumption | exact upd_same | (refine Same.at (by assumption) ?_; (first | assumption | exact upd_same | (refine Same.at (by assumption) ?_; (first | assumption | exact upd_same | (refine Same.at (by assumption) ?_; (first | assumption | exact upd_same | (refine Same.at (by assumption) ?_; (first | assumption | exact upd_same | (refine Same.at (by assumption) ?_; (first | assumption | exact upd_same | (refine Same.at (by assumption) ?_; (first | assumption | exact upd_same | (refine Same.at (by assumption) ?_; (first | assumption | exact upd_same | (refine Same.at (by assumption) ?_; (first | assumption | exact upd_same))))))))))))))))))))))))))))) | exact small_le (by simp; done))))
    intro H1 s1
    (repeat (first | (apply Exists.intro) | (apply And.intro; first | exact rfl | assumption | exact ⟨_, rfl⟩ | omega | exact SqL.of (by (first | assumption | exact upd_same | (refine Same.at (by assumption) ?_; (first | assumption | exact upd_same | (refine Same.at (by assumption) ?_; (first | assumption | exact upd_same | (refine Same.at (by assumption) ?_; (first | assumption | exact upd_same | (refine Same.at (by assumption) ?_; (first | assumption | exact upd_same | (refine Same.at (by assumption) ?_; (first | assumption | exact upd_same | (refine Same.at (by assumption) ?_; (first | assumption | exact upd_same | (refine Same.at (by assumption) ?_; (first | assumption | exact upd_same | (refine Same.at (by assumption) ?_; (first | assumption | exact upd_same | (refine Same.at (by assumption) ?_; (first | assumption | exact upd_same | (refine Same.at (by assumption) ?_; (first | assumption | exact upd_same | (refine Same.at (by assumption) ?_; (first | assumption | exact upd_same | (refine Same.at (by assumption) ?_; (first | assumption | exact upd_same | (refine Same.at (by assumption) ?_; (first | assumption | exact upd_same | (refine Same.at (by assumption) ?_; (first | assumption | exact upd_same)))))))))))))))))))))))))))))) | exact ⟨_, SqL.of (by (first | assumption | exact upd_same | (refine Same.at (by assumption) ?_; (first | assumption | exact upd_same | (refine Same.at (by assumption) ?_; (first | assumption | exact upd_same | (refine Same.at (by assumption) ?_; (first | assumption | exact upd_same | (refine Same.at (by assumption) ?_; (first | assumption | exact upd_same | (refine Same.at (by assumption) ?_; (first | assumption | exact upd_same | (refine Same.at (by assumption) ?_; (first | assumption | exact upd_same | (refine Same.at (by assumption) ?_; (first | assumption | exact upd_same | (refine Same.at (by assumption) ?_; (first | assumption | exact upd_same | (refine Same.at (by assumption) ?_; (first | assumption | exact upd_same | (refine Same.at (by assumption) ?_; (first | assumption | exact upd_same | (refine Same.at (by assumption) ?_; (first | assumption | exact upd_same | (refine Same.at (by assumption) ?_; (first | assumption | exact upd_same | (refine Same.at (by assumption) ?_; (first | assumption | exact upd_same | (refine Same.at (by assumption) ?_; (first | assumption | exact upd_same))))))))))))))))))))))))))))))⟩ | exact SqT.of (by (first | assumption | exact upd_same | (refine Same.at (by assumption) ?_; (first | assumption | exact upd_same | (refine Same.at (by assumption) ?_; (first | assumption | exact upd_same | (refine Same.at (by assumption) ?_; (first | assumption | exact upd_same | (refine Same.at (by assumption) ?_; (first | assumption | exact upd_same | (refine Same.at (by assumption) ?_; (first | assumption | exact upd_same | (refine Same.at (by assumption) ?_; (first | assumption | exact upd_same | (refine Same.at (by assumption) ?_; (first | assumption | exact upd_same | (refine Same.at (by assumption) ?_; (first | assumption | exact upd_same | (refine Same.at (by assumption) ?_; (first | assumption | exact upd_same | (refine Same.at (by assumption) ?_; (first | assumption | exact upd_same | (refine Same.at (by assumption) ?_; (first | assumption | exact upd_same | (refine Same.at (by assumption) ?_; (first | assumption | exact upd_same | (refine Same.at (by assumption) ?_; (first | assumption | exact upd_same | (refine Same.at (by assumption) ?_; (first | assumption | exact upd_same)))))))))))))))))))))))))))))) | (first | assumption | exact upd_same | (refine Same.at (by assumption) ?_; (first | assumption | exact upd_same | (refine Same.at (by assumption) ?_; (first | assumption | exact upd_same | (refine Same.at (by assumption) ?_; (first | assumption | exact upd_same | (refine Same.at (by assumption) ?_; (first | assumption | exact upd_same | (refine Same.at (by assumption) ?_; (first | assumption | exact upd_same | (refine Same.at (by assumption) ?_; (first | assumption | exact upd_same | (refine Same.at (by assumption) ?_; (first | assumption | exact upd_same | (refine Same.at (by assumption) ?_; (first | assumption | exact upd_same | (refine Same.at (by assumption) ?_; (first | assumption | exact upd_same | (refine Same.at (by assumption) ?_; (first | assumption | exact upd_same | (refine Same.at (by assumption) ?_; (first | assumption | exact upd_same | (refine Same.at (by assumption) ?_; (first | assumption | exact upd_same | (refine Same.at (by assumption) ?_; (first | assumption | exact upd_same | (refine Same.at (by assumption) ?_; (first | assumption | exact upd_same))))))))))))))))))))))))))))) | exact small_le (by simp; done))))
    intro H2 s2
    (repeat (first | (apply Exists.intro) | (apply And.intro; first | exact rfl | assumption | exact ⟨_, rfl⟩ | omega | exact SqL.of (by (first | assumption | exact upd_same | (refine Same.at (by assumption) ?_; (first | assumption | exact upd_same | (refine Same.at (by assumption) ?_; (first | assumption | exact upd_same | (refine Same.at (by assumption) ?_; (first | assumption | exact upd_same | (refine Same.at (by assumption) ?_; (first | assumption | exact upd_same | (refine Same.at (by assumption) ?_; (first | assumption | exact upd_same | (refine Same.at (by assumption) ?_; (first | assumption | exact upd_same | (refine Same.at (by assumption) ?_; (first | assumption | exact upd_same | (refine Same.at (by assumption) ?_; (first | assumption | exact upd_same | (refine Same.at (by assumption) ?_; (first | assumption | exact upd_same | (refine Same.at (by assumption) ?_; (first | assumption | exact upd_same | (refine Same.at (by assumption) ?_; (first | assumption | exact upd_same | (refine Same.at (by assumption) ?_; (first | assumption | exact upd_same | (refine Same.at (by assumption) ?_; (first | assumption | exact upd_same | (refine Same.at (by assumption) ?_; (first | assumption | exact upd_same)))))))))))))))))))))))))))))) | exact ⟨_, SqL.of (by (first | assumption | exact upd_same | (refine Same.at (by assumption) ?_; (first | assumption | exact upd_same | (refine Same.at (by assumption) ?_; (first | assumption | exact upd_same | (refine Same.at (by assumption) ?_; (first | assumption | exact upd_same | (refine Same.at (by assumption) ?_; (first | assumption | exact upd_same | (refine Same.at (by assumption) ?_; (first | assumption | exact upd_same | (refine Same.at (by assumption) ?_; (first | assumption | exact upd_same | (refine Same.at (by assumption) ?_; (first | assumption | exact upd_same | (refine Same.at (by assumption) ?_; (first | assumption | exact upd_same | (refine Same.at (by assumption) ?_; (first | assumption | exact upd_same | (refine Same.at (by assumption) ?_; (first | assumption | exact upd_same | (refine Same.at (by assumption) ?_; (first | assumption | exact upd_same | (refine Same.at (by assumption) ?_; (first | assumption | exact upd_same | (refine Same.at (by assumption) ?_; (first | assumption | exact upd_same | (refine Same.at (by assumption) ?_; (first | assumption | exact upd_same))))))))))))))))))))))))))))))⟩ | exact SqT.of (by (first | assumption | exact upd_same | (refine Same.at (by assumption) ?_; (first | assumption | exact upd_same | (refine Same.at (by assumption) ?_; (first | assumption | exact upd_same | (refine Same.at (by assumption) ?_; (first | assumption | exact upd_same | (refine Same.at (by assumption) ?_; (first | assumption | exact upd_same | (refine Same.at (by assumption) ?_; (first | assumption | exact upd_same | (refine Same.at (by assumption) ?_; (first | assumption | exact upd_same | (refine Same.at (by assumption) ?_; (first | assumption | exact upd_same | (refine Same.at (by assumption) ?_; (first | assumption | exact upd_same | (refine Same.at (by assumption) ?_; (first | assumption | exact upd_same | (refine Same.at (by assumption) ?_; (first | assumption | exact upd_same | (refine Same.at (by assumption) ?_; (first | assumption | exact upd_same | (refine Same.at (by assumption) ?_; (first | assumption | exact upd_same | (refine Same.at (by assumption) ?_; (first | assumption | exact upd_same | (refine Same.at (by assumption) ?_; (first | assumption | exact upd_same)))))))))))))))))))))))))))))) | (first | assumption | exact upd_same | (refine Same.at (by assumption) ?_; (first | assumption | exact upd_same | (refine Same.at (by assumption) ?_; (first | assumption | exact upd_same | (refine Same.at (by assumption) ?_; (first | assumption | exact upd_same | (refine Same.at (by assumption) ?_; (first | assumption | exact upd_same | (refine Same.at (by assumption) ?_; (first | assumption | exact upd_same | (refine Same.at (by assumption) ?_; (first | assumption | exact upd_same | (refine Same.at (by assumption) ?_; (first | assumption | exact upd_same | (refine Same.at (by assumption) ?_; (first | assumption | exact upd_same | (refine Same.at (by assumption) ?_; (first | assumption | exact upd_same | (refine Same.at (by assumption) ?_; (first | assumption | exact upd_same | (refine Same.at (by assumption) ?_; (first | assumption | exact upd_same | (refine Same.at (by assumption) ?_; (first | assumption | exact upd_same | (refine Same.at (by assumption) ?_; (first | assumption | exact upd_same | (refine Same.at (by assumption) ?_; (first | assumption | exact upd_same))))))))))))))))))))))))))))) | exact small_le (by simp; done))))
    intro H3 s3
    refine ⟨_, rfl, _, rfl, by rw [ring_len]; omega, fun p H4 hp s4 d4 => ?_⟩
    refine ⟨.inl ⟨rfl, _, SqL.of d4⟩, _, rfl, p, _, _, rfl, rfl, SqL.of d4, ?_⟩
    exact k _ (s1.trans (s2.trans (s3.trans s4)))
/-! classes_of -/
def sp_classes_of : Sp := fun vs H Q _ => ∃ (a : Addr) (ws : List (List Nat)) (B : List Nat), vs = [.ref a, .str (S B)] ∧ H a = some (.lst (wordsV ws)) ∧ ws.length ≤ 300 ∧ (∀ w ∈ ws, w.length ≤ 100) ∧ B.length ≤ 50000 ∧ (∀ w ∈ ws, wordB w = true) ∧ jointsB B = true ∧ ∀ p (as : List Addr) H', H p = none → Same H H' → H' p = some (.lst (as.map V.ref)) → ListsAt H H' as (groupsL ws B) → Q (.ref p) H'
theorem ok_classes_of (T : Txt K mg) : FnOk P w K mg base CX0 4 T.f_classes_of T.fd_classes_of P_classes_of (sp_classes_of) := by
  have nd : N_classes_of.Nodup := sc_classes_of.nd
  refine T.F_classes_of.ok sc_classes_of (fun vs H Q E h => ?_) (fun cdv A outer s H vs Q E hr h => ?_)
  · obtain ⟨a, ws, B, rfl, _⟩ := h
    rfl
  · obtain ⟨a, ws, B, rfl, ha, hn, hw, hB, hwb, hj, k⟩ := h
    refine ⟨_, (pss_cons (ps_if (pt_not (pt_val (pe_callB call_isi (by rfl) T.z_isinstance (by decide +kernel) (pa_cons (pv 0) (pa_cons (pe_bltn (v := .ty "list") (by rfl) T.z_list (by decide +kernel) rfl) pa_nil))))) pss_never pss_nil)
      (pss_cons (ps_for PassesOwn.never rfl (pi_list (pv 0)) (pg_name (i := 2) nd rfl (Or.inl rfl))
      (pss_one (ps_expr (pe_call (ok_check_word T) (hr.mono (by decide)) rfl T.m_check_word T.F_check_word.kp T.b_check_word .nil pass0 (pa_cons (pv 2) pa_nil)))))
      (pss_cons (ps_expr (pe_call (ok_check_joints T) (hr.mono (by decide)) rfl T.m_check_joints T.F_check_joints.kp T.b_check_joints .nil pass0 (pa_cons (pv 1) pa_nil)))
      (pss_one (ps_ret (pe_call (ok_numbers_by_class T) (hr.mono (by decide)) rfl T.m_numbers_by_class T.F_numbers_by_class.kp T.b_numbers_by_class .nil pass0 (pa_cons (pv 0) (pa_cons (pv 1) pa_nil)))))))), ?_⟩
    refine ⟨_, rfl, _, _, _, _, _, rfl, ClsV.ty "list", .base (.lst ha), kit_ty (by decide +kernel), true, rfl, iteF ?_⟩
    show tNext _ _ _
    refine ⟨_, rfl, a, rfl, ⟨_, SqL.of ha⟩, ?_⟩
    refine for_list (K := K) (a := a) (xs := wordsV ws) (fun i σ H' => ∃ w2 : Option V, σ = [some (.ref a), some (.str (S B)), w2] ∧ Same H H') ⟨_, rfl, fun _ _ e => e⟩ (fun i σ H' _ ⟨_, _, s⟩ => SqL.of (s _ _ ha)) ?_ ?_
    · rintro i y σ H1 hy ⟨w2, rfl, s1⟩
      obtain ⟨w, hq, rfl⟩ := words_of hy
      have hwm := List.mem_of_getElem? hq
      exact ⟨_, rfl, w, rfl, by have := hw w hwm; omega, hwb w hwm, fun H2 s2 => ⟨_, rfl, s1.trans s2⟩⟩
    rintro σ H1 ⟨w2, rfl, s1⟩
    refine ⟨_, rfl, B, rfl, hB, hj, fun H2 s2 => ?_⟩
    have s12 := s1.trans s2
    exact ⟨_, rfl, _, rfl, a, ws, B, rfl, s12 _ _ ha, hn, hw, hB, fun p as H3 hp s3 d3 L => k p as H3 (s12.free hp) (s12.trans s3) d3 (L.back s12)⟩
/-! _law_drawn -/
def sp__law_drawn : Sp := fun vs H Q _ => ∃ (g : Addr) (m b : Nat), vs = [.ref g, .int (m : Int)] ∧ GenAt H g b ∧ b ≤ 700000000 ∧ m ≤ 60 ∧ ∀ (T : Addr) (ws js : List Nat) H', H T = none → But g H H' → GenAt H' g (b + 3000) → H' T = some (.tup [.str (S ws), .str (S js)]) → (ws.length ≤ m ∨ ws.length ≤ 2) → wordB ws = true → js.length ≤ 50 → jointsB js = true → Q (.ref T) H'
theorem ok__law_drawn (T : Txt K mg) : FnOk P w K mg base CX0 4 T.f__law_drawn T.fd__law_drawn P__law_drawn (sp__law_drawn) := by
  have nd : N__law_drawn.Nodup := sc__law_drawn.nd
  refine T.F__law_drawn.ok sc__law_drawn (fun vs H Q E h => ?_) (fun cdv A outer s H vs Q E hr h => ?_)
  · obtain ⟨g, m, b, rfl, _⟩ := h
    rfl
  · obtain ⟨g, m, b, rfl, G, hb, hm, k⟩ := h
    refine ⟨_, (pss_cons (ps_set (i := 2) nd rfl (Or.inr rfl) (pe_call (ok__law_letters T) (hr.mono (by decide)) rfl T.m__law_letters T.F__law_letters.kp T.b__law_letters .nil pass0 (pa_cons (pv 0) (pa_cons (pe_op op_add pe_int (pe_call (ok__law_random T) (hr.mono (by decide)) rfl T.m__law_random T.F__law_random.kp T.b__law_random .nil pass0 (pa_cons (pv 0) (pa_cons pe_int pa_nil)))) pa_nil))))
      (pss_cons (ps_set (i := 3) nd rfl (Or.inr rfl) (pe_join pe_str (pe_lc (own := [("_law_letter", 7)]) (hc := rfl) (hN := nd) (pi_str (pv 2)) (blkOk_by (N := N__law_drawn) (sc := defScope s__law_drawn) (by decide +kernel)) (fun _ _ _ _ _ => by exact (pg_name (i := 7) nd rfl (Or.inl rfl))) (fun _ _ _ _ _ => by exact (pts_one (pt_cmpR op_eq (pe_call (ok__law_random T) (hr.mono (by decide)) rfl T.m__law_random T.F__law_random.kp T.b__law_random .nil pass0 (pa_cons (pv 0) (pa_cons pe_int pa_nil))) pe_int (nomark _)))) (fun _ _ _ _ _ => by exact (pv 7)))))
      (pss_cons (ps_set (i := 4) nd rfl (Or.inl rfl) (pe_join pe_str (pe_lc (own := [("_law_letter", 7)]) (hc := rfl) (hN := nd) (pi_str (pv 2)) (blkOk_by (N := N__law_drawn) (sc := defScope s__law_drawn) (by decide +kernel)) (fun _ _ _ _ _ => by exact (pg_name (i := 7) nd rfl (Or.inl rfl))) (fun _ _ _ _ _ => by exact (pts_one (pt_cmpR op_notIn_sign (pv 7) (pv 3) rfl))) (fun _ _ _ _ _ => by exact (pv 7)))))
      (pss_cons (ps_set (i := 5) nd rfl (Or.inl rfl) (pe_slice sl_list (pe_lc (own := [("_law_letter", 7)]) (hc := rfl) (hN := nd) (pi_str pe_str) (blkOk_by (N := N__law_drawn) (sc := defScope s__law_drawn) (by decide +kernel)) (fun _ _ _ _ _ => by exact (pg_name (i := 7) nd rfl (Or.inl rfl))) (fun _ _ _ _ _ => by exact (pts_one (pt_cmpR op_notIn_sign (pv 7) (pv 2) rfl))) (fun _ _ _ _ _ => by exact (pv 7))) po_none (po_some (pe_call (ok__law_random T) (hr.mono (by decide)) rfl T.m__law_random T.F__law_random.kp T.b__law_random .nil pass0 (pa_cons (pv 0) (pa_cons pe_int pa_nil))))))
      (pss_cons (ps_set (i := 6) nd rfl (Or.inl rfl) (pe_join pe_str (pe_callB (cr_sortedTx rfl) (by rfl) T.z_sorted (by decide +kernel) (pa_cons (pe_op op_add_str (pv 3) (pe_join pe_str (pv 5))) pa_nil))))
      (pss_cons (ps_if (PW.pt (pw_and (pt_cmpR op_ne (pv 3) pe_str (nomark _)) (pw_and1 (pt_cmpR op_eq (pe_call (ok__law_random T) (hr.mono (by decide)) rfl T.m__law_random T.F__law_random.kp T.b__law_random .nil pass0 (pa_cons (pv 0) (pa_cons pe_int pa_nil))) pe_int (nomark _))))) (pss_one (ps_ret (pe_tup (pa_cons (pe_call (ok__law_round T) (hr.mono (by decide)) rfl T.m__law_round T.F__law_round.kp T.b__law_round .nil pass0 (pa_cons (pv 0) (pa_cons (pv 4) (pa_cons (pv 3) (pa_cons (pv 1) pa_nil))))) (pa_cons (pv 6) pa_nil))))) pss_nil)
      (pss_one (ps_ret (pe_tup (pa_cons (pe_call (ok__law_word T) (hr.mono (by decide)) rfl T.m__law_word T.F__law_word.kp T.b__law_word .nil pass0 (pa_cons (pv 0) (pa_cons (pv 2) (pa_cons (pe_call (ok__law_random T) (hr.mono (by decide)) rfl T.m__law_random T.F__law_random.kp T.b__law_random .nil pass0 (pa_cons (pv 0) (pa_cons (pe_op op_add (pv 1) pe_int) pa_nil))) pa_nil)))) (pa_cons (pv 6) pa_nil))))))))))), ?_⟩
    refine ⟨_, rfl, _, rfl, g, 5, b, rfl, G, by omega, by decide, by decide, fun r H1 r0 r1 b1 G1 => ?_⟩
    obtain ⟨n0, rfl⟩ := Int.eq_ofNat_of_zero_le r0
    refine ⟨_, _, rfl, rfl, g, n0 + 1, _, (by show [V.ref g, V.int ((1 : Int) + (n0 : Int))] = _; rw [show ((1 : Int) + (n0 : Int)) = ((n0 + 1 : Nat) : Int) by omega]), G1, by omega, by omega, fun l H2 hl hp hc b2 G2 => ?_⟩
    have G2' : Sw.GenAt H2 g (b + 100) := G2.mono (by omega)
    have B2 := b1.trans b2
    generalize b + 10 + 10 * (n0 + 1) = c0 at G2
    have G2 := G2'
    -- signs
    refine ⟨⟨_, rfl⟩, _, rfl, _, rfl, fun D hD => ?_⟩
    have nDg : D ≠ g := G2.ne hD
    refine lc_it walk_str (fun i H' => ∃ js : List Nat, js.Sublist (l.take i) ∧ But g H2 H' ∧ GenAt H' g (b + 100 + 10 * i) ∧ H' D = some (.lst (signsV js)))
      ⟨[], List.nil_sublist _, But.same (Same.upd hD), G2.new hD, upd_same⟩ (fun _ _ _ _ => trivial) ?_ ?_
    · rintro i x H3 H4 hi ⟨js, hs, b3, G3, d3⟩ ⟨rfl, c, hcl, rfl⟩
      rw [at_S] at hcl
      rw [size_S] at hi
      have hs2 : (l.take i ++ [c]) = l.take (i + 1) := (take_snoc hcl).symm
      have hjl : js.length ≤ 26 := by have := hs.length_le; rw [List.length_take] at this; omega
      refine ⟨rfl, _, rfl, g, _, _, rfl, G3, by omega, by decide, by decide, fun r H5 r0 r1 b5 G5 => ?_⟩
      refine ⟨rfl, _, rfl, ite2 (fun q => ?_) (fun q => ?_)⟩
      · refine ⟨_, rfl, _, b5.at nDg d3, ?_, js ++ [c], ?_, (b3.trans b5).own hD, G5.off nDg (by omega), ?_⟩
        · rw [wordV_len]; exact small_line (by omega)
        · rw [← hs2]; exact hs.append (List.Sublist.refl _)
        · rw [upd_same]; simp
      · exact ⟨js, by rw [← hs2]; exact hs.trans (List.sublist_append_left _ _), b3.trans b5, G5.mono (by omega), b5.at nDg d3⟩
    rintro H3 ⟨ss, hs, b3, G3, d3⟩
    rw [size_S, List.take_length] at hs
    rw [size_S] at G3
    have hssl : ss.length ≤ l.length := hs.length_le
    refine ⟨_, D, ss.map fun c => S [c], rfl, rfl, .inl (SqL.of d3), join_bound (by omega), ?_⟩
    rw [join_signs]
    -- bodies
    refine ⟨⟨_, rfl⟩, _, rfl, _, rfl, fun D2 hD2 => ?_⟩
    refine lc_it walk_str (fun i H' => Same H3 H' ∧ H' D2 = some (.lst (signsV ((l.take i).filter fun c => decide (¬ c ∈ ss))))) ⟨Same.upd hD2, upd_same⟩ (fun _ _ _ _ => trivial) ?_ ?_
    · rintro i x H4 H5 hi ⟨s4, d4⟩ ⟨rfl, c, hcl, rfl⟩
      rw [at_S] at hcl
      have hfl := List.length_filter_le (fun c => decide (¬ c ∈ ss)) (l.take i)
      rw [List.length_take] at hfl
      refine ⟨rfl, _, rfl, _, rfl, c, S ss, rfl, rfl, _, rfl, ?_⟩
      have es : (S ss).cps.toList = ss := by simp [SX.S]
      rw [es]
      refine ite2 (fun z => ?_) (fun z => ?_)
      · have z' : ¬ c ∈ ss := by simpa using z
        exact ⟨_, rfl, grow hD2 s4 d4 (by rw [wordV_len]; omega) (by rw [take_snoc hcl, List.filter_append]; simp [z'])⟩
      · have z' : c ∈ ss := by simpa using z
        exact ⟨s4, by rw [d4, take_snoc hcl, List.filter_append]; simp [z']⟩
    rintro H4 ⟨s4, d4⟩
    rw [size_S, List.take_length] at d4
    have hbl := List.length_filter_le (fun c => decide (¬ c ∈ ss)) l
    have hbm : ∀ c ∈ l.filter (fun c => decide (¬ c ∈ ss)), c ∈ l := fun c h => (List.mem_filter.mp h).1
    generalize l.filter (fun c => decide (¬ c ∈ ss)) = bs at d4 hbl hbm
    refine ⟨_, D2, bs.map fun c => S [c], rfl, rfl, .inl (SqL.of d4), join_bound (by omega), ?_⟩
    rw [join_signs]
    -- strange
    have emqz : Str.ofString "mqz" = S [109, 113, 122] := by decide +kernel
    rw [emqz]
    refine ⟨_, rfl, fun D3 hD3 => ?_⟩
    refine lc_it walk_str (fun i H' => Same H4 H' ∧ H' D3 = some (.lst (signsV (([109, 113, 122].take i).filter fun c => decide (¬ c ∈ l))))) ⟨Same.upd hD3, upd_same⟩ (fun _ _ _ _ => trivial) ?_ ?_
    · rintro i x H5 H6 hi ⟨s5, d5⟩ ⟨rfl, c, hcl, rfl⟩
      rw [at_S] at hcl
      have hfl := List.length_filter_le (fun c => decide (¬ c ∈ l)) ([109, 113, 122].take i)
      rw [List.length_take] at hfl
      have h3 : [109, 113, 122].length = 3 := rfl
      refine ⟨rfl, _, rfl, _, rfl, c, S l, rfl, rfl, _, rfl, ?_⟩
      have es : (S l).cps.toList = l := by simp [SX.S]
      rw [es]
      refine ite2 (fun z => ?_) (fun z => ?_)
      · have z' : ¬ c ∈ l := by simpa using z
        exact ⟨_, rfl, grow hD3 s5 d5 (by rw [wordV_len]; omega) (by rw [take_snoc hcl, List.filter_append]; simp [z'])⟩
      · have z' : c ∈ l := by simpa using z
        exact ⟨s5, by rw [d5, take_snoc hcl, List.filter_append]; simp [z']⟩
    rintro H5 ⟨s5, d5⟩
    rw [size_S, List.take_length] at d5
    have hD3g : D3 ≠ g := (G3.same s4).ne hD3
    refine ⟨_, rfl, g, 2, _, rfl, (G3.same s4).same s5, by omega, by decide, by decide, fun r2 H6 r20 r21 b6 G6 => ?_⟩
    obtain ⟨n2, rfl⟩ := Int.eq_ofNat_of_zero_le r20
    refine ⟨_, rfl, D3, _, rfl, SqL.of (b6.at hD3g d5), ?_⟩
    intro sg hn_sg
    generalize hX_sg : L2.upd _ sg _ = H7
    have s_sg := alloc_same hX_sg hn_sg
    have d_sg := alloc_at hX_sg
    rw [cutV_take] at d_sg
    have exs : (signsV (([109, 113, 122] : List Nat).filter fun c => decide (¬ c ∈ l))).take n2 = signsV ((([109, 113, 122] : List Nat).filter fun c => decide (¬ c ∈ l)).take n2) := by simp
    rw [exs] at d_sg
    have hxs : ((([109, 113, 122] : List Nat).filter fun c => decide (¬ c ∈ l)).take n2).Sublist [109, 113, 122] := (List.take_sublist _ _).trans List.filter_sublist
    have hxl : ∀ c ∈ (([109, 113, 122] : List Nat).filter fun c => decide (¬ c ∈ l)).take n2, ¬ c ∈ l := fun c h => by simpa using (List.mem_filter.mp (List.mem_of_mem_take h)).2
    generalize (([109, 113, 122] : List Nat).filter fun c => decide (¬ c ∈ l)).take n2 = xs at d_sg hxs hxl
    have hx3 : xs.length ≤ 3 := hxs.length_le
    have hxm : ∀ c ∈ xs, 97 ≤ c ∧ c ≤ 122 := fun c h => by
      have := hxs.subset h
      simp only [List.mem_cons, List.not_mem_nil, or_false] at this
      omega
    have ndx : (ss ++ xs).Nodup := by
      refine List.nodup_append.mpr ⟨(hp.sublist hs).imp (fun {a b} lt => Nat.ne_of_lt lt), (List.Pairwise.sublist hxs (by decide : ([109, 113, 122] : List Nat).Pairwise (· < ·))).imp (fun {a b} lt => Nat.ne_of_lt lt), ?_⟩
      intro a ha b hb e
      exact hxl b hb (e ▸ hs.subset ha)
    have B7 : But g H H7 := B2.trans (b3.trans ((But.same (s4.trans s5)).trans (b6.trans (But.same s_sg))))
    have G7 := G6.same s_sg
    -- joints
    refine ⟨⟨_, rfl⟩, _, rfl, ⟨_, rfl⟩, _, rfl, _, sg, xs.map fun c => S [c], rfl, rfl, .inl (SqL.of d_sg), join_bound (by omega), ?_⟩
    rw [join_signs]
    refine ⟨_, _, rfl, rfl, ?_, ?_⟩
    · rw [len_S, len_S]; exact small_le (by omega)
    rw [SX.S_cat]
    refine ⟨ss ++ xs, rfl, by rw [List.length_append]; omega, fun js p hjp hjo hp0 => ?_⟩
    have hjs : jointsB js = true := jointsB_of (strict_of hjo (hjp.nodup_iff.mpr ndx)) fun c h => by
      rcases List.mem_append.mp (hjp.mem_iff.mp h) with h | h
      · exact hc c (hs.subset h)
      · exact hxm c h
    have hjl : js.length ≤ 50 := by rw [hjp.length_eq, List.length_append]; omega
    refine ⟨_, p, js.map fun c => S [c], rfl, rfl, .inl (SqL.of upd_same), join_bound (by omega), ?_⟩
    rw [join_signs]
    have B8 := B7.trans (But.same (Same.upd (o := HO.lst (signsV js)) hp0))
    have G8 := G7.same (Same.upd (o := HO.lst (signsV js)) hp0)
    generalize L2.upd H7 p (HO.lst (signsV js)) = H8 at B8 G8
    -- which of both
    refine ⟨_, rfl, rfl, _, rfl, ?_⟩
    have e0 : Str.ofString "" = S [] := by decide +kernel
    rw [e0, dec_signs]
    refine ite2 (fun z => ?_) (fun z => ?_)
    · have hss0 : 0 < ss.length := by
        cases ss with
        | nil => simp at z
        | cons _ _ => simp
      refine ⟨_, rfl, g, 2, _, rfl, G8, by omega, by decide, by decide, fun r3 H9 r30 r31 b9 G9 => ?_⟩
      refine ⟨rfl, _, rfl, ite2 (fun y => ?_) (fun y => ?_)⟩
      · refine ⟨_, rfl, _, rfl, _, rfl, _, rfl, g, bs, ss, m, _, rfl, G9, by omega, by omega, hss0, by omega, hm, fun c h => by have := hc c (hbm c h); omega, fun ws H10 hwl hwm b10 G10 => ?_⟩
        refine ⟨_, rfl, (by show 2 ≤ sizeLine; decide), ?_⟩
        intro T0 hn_T0
        generalize hX_T0 : L2.upd _ T0 _ = H22
        have s_T0 := alloc_same hX_T0 hn_T0
        have d_T0 := alloc_at hX_T0
        have B22 : But g H H22 := B8.trans (b9.trans (b10.trans (But.same s_T0)))
        exact k T0 ws js H22 ((B8.trans (b9.trans b10)).free G10 hn_T0) B22 ((G10.same s_T0).mono (by omega)) d_T0 hwl (wordB_of fun c h => (hwm c h).elim (fun h => hc c (hbm c h)) fun h => hc c (hs.subset h)) hjl hjs
      · show tNext _ _ _
        refine ⟨_, rfl, _, rfl, _, rfl, _, rfl, _, _, rfl, rfl, g, _, _, rfl, G9, by omega, by omega, Nat.lt_of_le_of_lt (show ((m : Int) + 1).natAbs ≤ 61 by omega) (by decide), fun rw1 H20 rw0 rw2 b20 G20 => ?_⟩
        obtain ⟨nw, rfl⟩ := Int.eq_ofNat_of_zero_le rw0
        refine ⟨g, l, nw, _, rfl, G20, by omega, by omega, by omega, by omega, fun ws H21 hwl hwm b21 G21 => ?_⟩
        refine ⟨_, rfl, (by show 2 ≤ sizeLine; decide), ?_⟩
        intro T0 hn_T0
        generalize hX_T0 : L2.upd _ T0 _ = H22
        have s_T0 := alloc_same hX_T0 hn_T0
        have d_T0 := alloc_at hX_T0
        have B22 : But g H H22 := (B8.trans b9).trans (b20.trans (b21.trans (But.same s_T0)))
        exact k T0 ws js H22 (((B8.trans b9).trans (b20.trans b21)).free G21 hn_T0) B22 ((G21.same s_T0).mono (by omega)) d_T0 (.inl (by omega)) (wordB_of fun c h => hc c (hwm c h)) hjl hjs
    · show tNext _ _ _
      refine ⟨_, rfl, _, rfl, _, rfl, _, rfl, _, _, rfl, rfl, g, _, _, rfl, G8, by omega, by omega, Nat.lt_of_le_of_lt (show ((m : Int) + 1).natAbs ≤ 61 by omega) (by decide), fun rw1 H20 rw0 rw2 b20 G20 => ?_⟩
      obtain ⟨nw, rfl⟩ := Int.eq_ofNat_of_zero_le rw0
      refine ⟨g, l, nw, _, rfl, G20, by omega, by omega, by omega, by omega, fun ws H21 hwl hwm b21 G21 => ?_⟩
      refine ⟨_, rfl, (by show 2 ≤ sizeLine; decide), ?_⟩
      intro T0 hn_T0
      generalize hX_T0 : L2.upd _ T0 _ = H22
      have s_T0 := alloc_same hX_T0 hn_T0
      have d_T0 := alloc_at hX_T0
      have B22 : But g H H22 := B8.trans (b20.trans (b21.trans (But.same s_T0)))
      exact k T0 ws js H22 ((B8.trans (b20.trans b21)).free G21 hn_T0) B22 ((G21.same s_T0).mono (by omega)) d_T0 (.inl (by omega)) (wordB_of fun c h => hc c (hwm c h)) hjl hjs
/-! _law_groups -/
def sp__law_groups (K : PySem.W.Frag) : Sp := fun vs H Q _ => ∃ (a : Addr) (ws : List (List Nat)) (B : List Nat), vs = [.ref a, .str (S B)] ∧ H a = some (.lst (wordsV ws)) ∧ ws.length ≤ 200 ∧ (∀ w ∈ ws, w.length ≤ 100) ∧ B.length ≤ 50000 ∧ ∀ p (as : List Addr) H', H p = none → Same H H' → H' p = some (.lst (as.map V.ref)) → ListsAt H H' as (groupsL ws B) → Q (.ref p) H'
theorem ok__law_groups (T : Txt K mg) : FnOk P w K mg base CX0 4 T.f__law_groups T.fd__law_groups P__law_groups (sp__law_groups K) := by
  have nd : N__law_groups.Nodup := sc__law_groups.nd
  refine T.F__law_groups.ok sc__law_groups (fun vs H Q E h => ?_) (fun cdv A outer s H vs Q E hr h => ?_)
  · obtain ⟨a, ws, B, rfl, _⟩ := h
    rfl
  · obtain ⟨a, ws, B, rfl, ha, hn, hw, hB, k⟩ := h
    refine ⟨_, (pss_cons (ps_par (i := 2) (j := 3) rfl nd rfl rfl (by decide) rfl rfl (pa_cons (pe_lst pa_nil) (pa_cons (pe_lst pa_nil) pa_nil)) (by rfl))
      (pss_cons (ps_for PassesOwn.never rfl (pi_enum (by rfl) T.z_enumerate (pa_cons (pv 0) pa_nil)) (pg_tup (n := 2) rfl (pgs_cons (by exact (pg_name (i := 4) nd rfl (Or.inl rfl))) (pgs_cons (by exact (pg_name (i := 5) nd rfl (Or.inl rfl))) pgs_nil)))
      (pss_cons (ps_set (i := 6) nd rfl (Or.inl rfl) (pe_call (ok__law_key T) (hr.mono (by decide)) rfl T.m__law_key T.F__law_key.kp T.b__law_key .nil pass0 (pa_cons (pv 5) (pa_cons (pv 1) pa_nil))))
      (pss_one (ps_if (pt_cmpR (op_inD hr.units) (pv 6) (pv 2) rfl) (pss_one (ps_expr (pe_bm PySem.F.plainAttrs_list PySem.F.slot_list_append PySem.F.type_list_append mt_append (pe_ix ix_list (pv 3) (pe_bm PySem.F.plainAttrs_list PySem.F.slot_list_index PySem.F.type_list_index (mt_indexD hr.units) (pv 2) (pa_cons (pv 6) pa_nil)) (fun _ _ => rfl)) (pa_cons (pv 4) pa_nil)))) (pss_cons (ps_expr (pe_bm PySem.F.plainAttrs_list PySem.F.slot_list_append PySem.F.type_list_append mt_append (pv 2) (pa_cons (pv 6) pa_nil)))
      (pss_one (ps_expr (pe_bm PySem.F.plainAttrs_list PySem.F.slot_list_append PySem.F.type_list_append mt_append (pv 3) (pa_cons (pe_lst (pa_cons (pv 4) pa_nil)) pa_nil)))))))))
      (pss_one (ps_ret (pv 3))))), ?_⟩
    refine ⟨(by show 0 ≤ sizeLine; decide), ?_⟩
    intro ka hn_ka
    generalize hX_ka : L2.upd _ ka _ = H1
    have s_ka := alloc_same hX_ka hn_ka
    have d_ka := alloc_at hX_ka
    refine ⟨(by show 0 ≤ sizeLine; decide), ?_⟩
    intro fo hn_fo
    generalize hX_fo : L2.upd _ fo _ = H2
    have s_fo := alloc_same hX_fo hn_fo
    have d_fo := alloc_at hX_fo
    have nkf : ka ≠ fo := ne_of_none d_ka hn_fo
    have S2 := s_ka.trans s_fo
    refine ⟨_, _, rfl, ?_⟩
    refine ⟨_, rfl, a, _, rfl, SqL.of (S2 _ _ ha), ?_⟩
    refine for_it walk_enum (fun i σ H' => ∃ (es : List (Nat × Addr × Addr)) (w4 w5 w6 : Option V), σ = [some (.ref a), some (.str (S B)), some (.ref ka), some (.ref fo), w4, w5, w6] ∧ Lgr ws B H H' ka fo es i) ⟨[], _, _, _, rfl, { dk := s_fo _ _ d_ka, df := d_fo, key := fun e he => (nomatch he), each := fun e he => (nomatch he), nd := List.nodup_nil, ord := rfl, ndk := List.nodup_nil, all := fun j hj => absurd hj (by omega), len := Nat.le_refl _, keep := S2, k0 := hn_ka, f0 := s_ka.free hn_fo, ne := nkf }⟩ (fun i σ H' _ ⟨_, _, _, _, _, G⟩ => SqL.of (G.keep _ _ ha)) ?_ ?_
    · rintro i x σ H3 H4 hi ⟨es, w4, w5, w6, rfl, G⟩ ⟨T0, x0, y0, rfl, hT, rfl, h1, h2⟩
      obtain ⟨w, hq, rfl⟩ := words_of h2
      cases h1
      have hwl := hw w (List.mem_of_getElem? hq)
      have hin : i < ws.length := (List.getElem?_eq_some_iff.mp hq).1
      have ew : wat ws i = w := wat_of hq
      have G4 := G.same (Same.upd (o := HO.tup [V.int (i : Nat), V.str (S w)]) hT)
      have d_T : (upd H3 T0 (.tup [V.int (i : Nat), V.str (S w)])) T0 = some (.tup [V.int (i : Nat), V.str (S w)]) := upd_same
      generalize upd H3 T0 (.tup [V.int (i : Nat), V.str (S w)]) = H4 at G4 d_T ⊢
      refine ⟨T0, _, rfl, SqT.of d_T, rfl, _, _, rfl, _, _, rfl, rfl, ?_⟩
      refine ⟨_, rfl, _, rfl, w, B, rfl, by omega, hB, fun T C H5 s5 dT dC => ?_⟩
      have G5 := G4.same s5
      have KT : KeyAt H5 T w B := ⟨C, dT, dC⟩
      have hes := G.len
      have kdp : DpAll K H5 (es.map fun e => V.ref e.2.1) (es.map fun e => keyD (wat ws e.1) B) := by
        have : ∀ l : List (Nat × Addr × Addr), (∀ e ∈ l, KeyAt H5 e.2.1 (wat ws e.1) B) → DpAll K H5 (l.map fun e => V.ref e.2.1) (l.map fun e => keyD (wat ws e.1) B) := fun l => by
          induction l with
          | nil => intro _; exact .nil
          | cons e r ih => intro h; exact .cons (h e List.mem_cons_self).dp (ih fun f hf => h f (List.mem_cons_of_mem _ hf))
        exact this es G5.key
      have kpl : PyData.plainAll (es.map fun e => keyD (wat ws e.1) B) = true := by
        have : ∀ l : List (Nat × Addr × Addr), PyData.plainAll (l.map fun e => keyD (wat ws e.1) B) = true := fun l => by
          induction l with
          | nil => rfl
          | cons e r ih => show (PyData.plain (keyD (wat ws e.1) B) && PyData.plainAll (r.map fun e => keyD (wat ws e.1) B)) = true; rw [key_plain, ih]; rfl
        exact this es
      have kdl : Dp K H5 (.ref ka) (.list (es.map fun e => keyD (wat ws e.1) B)) := .lst (SqL.of G5.dk) kdp
      have kde : (keyD w B).depth ≤ 60 := by have := key_depth2 w B; omega
      have eqk : ∀ u, PyData.eqv (keyD u B) (keyD w B) = decide (keyO B u = keyO B w) := fun u => by
        rw [key_eqv, Bool.eq_iff_iff, decide_eq_true_iff, key_iff]
      refine ⟨_, rfl, _, rfl, keyD w B, _, _, KT.dp, kdl, .inl rfl, kpl, key_plain w B, kde, _, rfl, ite2 (fun z => ?_) (fun z => ?_)⟩
      · obtain ⟨e, he, hk⟩ : ∃ e ∈ es, keyO B (wat ws e.1) = keyO B w := by
          obtain ⟨d, hd, h⟩ := List.any_eq_true.mp z
          obtain ⟨e, he, rfl⟩ := List.mem_map.mp hd
          rw [eqk] at h
          exact ⟨e, he, of_decide_eq_true h⟩
        obtain ⟨j, hj, ej⟩ := List.mem_iff_getElem.mp he
        have hje : es[j]? = some e := by rw [List.getElem?_eq_getElem hj, ej]
        refine ⟨_, rfl, _, rfl, .inl ⟨rfl, _, SqL.of G5.dk⟩, _, rfl, ka, _, keyD w B, keyD (wat ws e.1) B, _, j, rfl, rfl, KT.dp, kdl, kpl, key_plain w B, kde, by rw [List.getElem?_map, hje]; rfl, by rw [eqk]; exact decide_eq_true hk, fun m e' hm he' => ?_, ?_⟩
        · rw [List.getElem?_map] at he'
          obtain ⟨f, hf, rfl⟩ := Option.map_eq_some_iff.mp he'
          rw [eqk]
          refine decide_eq_false fun q => ?_
          have hfm := List.mem_of_getElem? hf
          have ef := uniq_by (fun e : Nat × Addr × Addr => keyO B (wat ws e.1)) G5.ndk hfm he (q.trans hk.symm)
          have nd' : es.Nodup := List.Pairwise.of_map (fun e : Nat × Addr × Addr => keyO B (wat ws e.1)) (fun a b hne e => hne (congrArg (fun e : Nat × Addr × Addr => keyO B (wat ws e.1)) e)) G5.ndk
          obtain ⟨hm', em⟩ := List.getElem?_eq_some_iff.mp hf
          have := (List.getElem_inj (h₀ := hm') (h₁ := hj) nd').mp (by rw [em, ej, ef])
          omega
        · have hul := up_len ws B (keyO B (wat ws e.1)) i
          refine ⟨fo, _, (j : Int), V.ref e.2.2, rfl, rfl, SqL.of G5.df, at_of (j := j) (by omega) (by rw [List.getElem?_map, hje]; rfl), .inl ⟨rfl, _, SqL.of (G5.each e he).2.2.2⟩, _, rfl, e.2.2, _, _, rfl, rfl, (G5.each e he).2.2.2, by rw [List.length_map]; exact small_line (by omega), ?_⟩
          exact ⟨es, _, _, _, rfl, G5.old he (by rw [ew]; exact hk)⟩
      · have hnk : ∀ e ∈ es, keyO B (wat ws e.1) ≠ keyO B (wat ws i) := fun e he q => z (List.any_eq_true.mpr ⟨_, List.mem_map.mpr ⟨e, he, rfl⟩, by rw [eqk, ← ew]; exact decide_eq_true q⟩)
        refine ⟨_, rfl, .inl ⟨rfl, _, SqL.of G5.dk⟩, _, rfl, ka, _, _, rfl, rfl, G5.dk, by rw [List.length_map]; exact small_line (by omega), ?_⟩
        have eF6 : (L2.upd H5 ka (.lst (es.map (fun e => V.ref e.2.1) ++ [V.ref T]))) fo = some (.lst (es.map fun e => V.ref e.2.2)) := by rw [upd_ne nkf.symm]; exact G5.df
        refine ⟨_, rfl, .inl ⟨rfl, _, SqL.of eF6⟩, _, rfl, (by show 1 ≤ sizeLine; decide), fun E hE6 => ?_⟩
        have hEk : E ≠ ka := fun q => by rw [q, upd_same] at hE6; cases hE6
        have hE5 : H5 E = none := by rw [upd_ne hEk] at hE6; exact hE6
        have hEf : E ≠ fo := fun q => by rw [q, eF6] at hE6; cases hE6
        have G6 := G5.same (Same.upd (o := HO.lst [V.int (i : Nat)]) hE5)
        have dE : (upd H5 E (.lst [V.int (i : Nat)])) E = some (.lst [V.int (i : Nat)]) := upd_same
        refine ⟨fo, _, _, rfl, rfl, by rw [upd_ne hEf.symm]; exact eF6, by rw [List.length_map]; exact small_line (by omega), ?_⟩
        refine ⟨es ++ [(i, T, E)], _, _, _, rfl, ?_⟩
        rw [upd_comm hEk.symm]
        exact G6.new hnk (by rw [ew]; exact KT.same (Same.upd hE5)) (G5.keep.free hE5) hEf hEk (fun e he => ne_of_none (G5.each e he).2.2.2 hE5) dE
    rintro σ H3 ⟨es, w4, w5, w6, rfl, G⟩
    rw [show (wordsV ws).length = ws.length from List.length_map _] at G
    exact ⟨_, rfl, k fo (es.map (·.2.2)) H3 G.f0 G.keep (by rw [G.df, List.map_map]; rfl) G.lists⟩
/-! one_deed -/
def sp_one_deed : Sp := fun vs H Q _ => ∃ l js : List Nat, vs = [.str (S l), .str (S js)] ∧ l.length ≤ 4000 ∧ wordB l = true ∧ js.length ≤ 50000 ∧ jointsB js = true ∧ ∀ p ws H', H p = none → Same H H' → H' p = some (.lst (wordsV ws)) → DeedsOf l js ws → Q (.ref p) H'
theorem ok_one_deed (T : Txt K mg) : FnOk P w K mg base CX0 5 T.f_one_deed T.fd_one_deed P_one_deed (sp_one_deed) := by
  have nd : N_one_deed.Nodup := sc_one_deed.nd
  refine T.F_one_deed.ok sc_one_deed (fun vs H Q E h => ?_) (fun cdv A outer s H vs Q E hr h => ?_)
  · obtain ⟨l, js, rfl, _⟩ := h
    rfl
  · obtain ⟨l, js, rfl, hl, hw, hjl, hj, k⟩ := h
    refine ⟨_, (pss_one (ps_ret (pe_callB (cr_sortedX rfl) (by rfl) T.z_sorted (by decide +kernel) (pa_cons (pe_scX (own := [("place", 2)]) (hc := rfl) (hN := nd) (pi_list (pe_call (ok_open_places T) (hr.mono (by decide)) rfl T.m_open_places T.F_open_places.kp T.b_open_places .nil pass0 (pa_cons (pv 0) (pa_cons (pv 1) pa_nil)))) (blkOk_by (N := N_one_deed) (sc := defScope s_one_deed) (by decide +kernel)) (fun _ _ _ _ _ => by exact (pg_name (i := 2) nd rfl (Or.inl rfl))) (fun _ _ _ _ _ => by exact pts_nil) (fun _ _ _ _ _ => by exact (pe_call (ok_sides_changed T) (hr.mono (by decide)) rfl T.m_sides_changed T.F_sides_changed.kp T.b_sides_changed .nil pass0 (pa_cons (pv 0) (pa_cons (pv 2) pa_nil))))) pa_nil)))), ?_⟩
    refine ⟨_, rfl, _, rfl, l, js, rfl, by omega, hw, hjl, hj, fun p H1 hp s1 d1 => ?_⟩
    refine ⟨p, rfl, ⟨_, SqL.of d1⟩, fun D hD => ?_⟩
    refine sc_itS walk_list (fun i H' => Same H1 H' ∧ H' D = some (SetXO P w D (onceX (((deedsL l js).take i).map S)))) ⟨Same.upd hD, upd_same⟩ (fun i H' _ ⟨s, _⟩ => SqL.of (s _ _ d1)) ?_ ?_
    · rintro i x H2 H3 hi ⟨s2, d2⟩ ⟨rfl, hx⟩
      obtain ⟨q, hq, rfl⟩ := place_of hx
      obtain ⟨c, hc, hjc⟩ := mem_openL (List.mem_of_getElem? hq)
      have hql : q < l.length := (List.getElem?_eq_some_iff.mp hc).1
      have hol := openL_len l js
      have hil : i < (openL l js).length := (List.getElem?_eq_some_iff.mp hq).1
      have hlen := once_len (((deedsL l js).take i).map S)
      rw [List.length_map, List.length_take] at hlen
      have hdq : (deedsL l js)[i]? = some (swapL l q) := by unfold deedsL; rw [List.getElem?_map, hq]; rfl
      refine ⟨rfl, _, rfl, _, rfl, l, q, rfl, by omega, hql, _, _, rfl, d2, (by show _ + 1 < 4096; omega), Same.own s2 hD, ?_⟩
      rw [upd_same, take_snoc hdq, List.map_append, List.map_singleton, once_snoc]
      rfl
    rintro H2 ⟨s2, d2⟩
    have hel : (placesV (openL l js)).length = (deedsL l js).length := by unfold deedsL; rw [List.length_map, List.length_map]
    rw [show ((openL l js).map fun i : Nat => V.int (i : Nat)).length = (deedsL l js).length from hel, List.take_length] at d2
    have hol := openL_len l js
    have hdl : (deedsL l js).length = (openL l js).length := List.length_map _
    have hlen := once_len ((deedsL l js).map S)
    rw [List.length_map] at hlen
    refine ⟨D, _, rfl, d2, by omega, fun us q hus hso hq => ?_⟩
    obtain ⟨vs, rfl, nd, hm⟩ := once_words _ hus
    generalize hX_q : L2.upd H2 q _ = H4
    have s_q : Same H2 H4 := alloc_same hX_q hq
    have d_q := alloc_at hX_q
    rw [List.map_map] at d_q
    exact k q vs H4 (s1.free (s2.free hq)) (s1.trans (s2.trans s_q)) d_q ⟨nd, hm, hso⟩
/-! is_alone -/
def sp_is_alone : Sp := fun vs H Q _ => ∃ l js : List Nat, vs = [.str (S l), .str (S js)] ∧ l.length ≤ 4000 ∧ wordB l = true ∧ js.length ≤ 50000 ∧ jointsB js = true ∧ ∀ (b : Bool) H', (b = true ↔ Lone l js) → Same H H' → Q (.bl b) H'
theorem ok_is_alone (T : Txt K mg) : FnOk P w K mg base CX0 6 T.f_is_alone T.fd_is_alone P_is_alone (sp_is_alone) := by
  have nd : N_is_alone.Nodup := sc_is_alone.nd
  refine T.F_is_alone.ok sc_is_alone (fun vs H Q E h => ?_) (fun cdv A outer s H vs Q E hr h => ?_)
  · obtain ⟨l, js, rfl, _⟩ := h
    rfl
  · obtain ⟨l, js, rfl, hl, hw, hjl, hj, k⟩ := h
    refine ⟨_, (pss_one (ps_ret (pe_cmpR (op_inD hr.units) (pe_call (ok_one_deed T) (hr.mono (by decide)) rfl T.m_one_deed T.F_one_deed.kp T.b_one_deed .nil pass0 (pa_cons (pv 0) (pa_cons (pv 1) pa_nil))) (pe_tup (pa_cons (pe_lst pa_nil) (pa_cons (pe_lst (pa_cons (pv 0) pa_nil)) pa_nil))) rfl))), ?_⟩
    refine ⟨_, rfl, _, rfl, l, js, rfl, hl, hw, hjl, hj, fun p ws H1 hp s1 d1 hd => ?_⟩
    refine ⟨(by show 0 ≤ sizeLine; decide), ?_⟩
    intro e0 hn_e0
    generalize hX_e0 : L2.upd _ e0 _ = H2
    have s_e0 := alloc_same hX_e0 hn_e0
    have d_e0 := alloc_at hX_e0
    refine ⟨_, rfl, (by show 1 ≤ sizeLine; decide), ?_⟩
    intro e1 hn_e1
    generalize hX_e1 : L2.upd _ e1 _ = H3
    have s_e1 := alloc_same hX_e1 hn_e1
    have d_e1 := alloc_at hX_e1
    refine ⟨(by show 2 ≤ sizeLine; decide), ?_⟩
    intro tt hn_tt
    generalize hX_tt : L2.upd _ tt _ = H4
    have s_tt := alloc_same hX_tt hn_tt
    have d_tt := alloc_at hX_tt
    have S4 := s_e0.trans (s_e1.trans s_tt)
    refine ⟨.list (wordsD ws), .tuple [.list [], .list [.str (S l)]], [.list [], .list [.str (S l)]], .lst (SqL.of (S4 _ _ d1)) (words_dp _), .tup (SqT.of d_tt) (.cons (.lst (SqL.of (s_tt _ _ (s_e1 _ _ d_e0))) .nil) (.cons (.lst (SqL.of (s_tt _ _ d_e1)) (.cons (.str _) .nil)) .nil)), .inr rfl, rfl, words_plainL _, by have := words_depthL1 ws; omega, ?_⟩
    refine k _ _ ?_ (s1.trans S4)
    rw [lone_list hd.nd hd.mem]
    show ((PyData.eqvAll [] (wordsD ws)) || ((PyData.eqvAll (wordsD [l]) (wordsD ws)) || false)) = true ↔ _
    rw [show PyData.eqvAll [] (wordsD ws) = decide ([] = ws) from words_eqv [] ws, words_eqv, Bool.or_false, Bool.or_eq_true, decide_eq_true_iff, decide_eq_true_iff]
    exact ⟨fun h => h.elim (fun e => .inl e.symm) fun e => .inr e.symm, fun h => h.elim (fun e => .inl e.symm) fun e => .inr e.symm⟩
/-! _law_word_right -/
def sp__law_word_right (K : PySem.W.Frag) : Sp := fun vs H Q _ => ∃ l js : List Nat, vs = [.str (S l), .str (S js)] ∧ l.length ≤ 60 ∧ wordB l = true ∧ js.length ≤ 50 ∧ jointsB js = true ∧ ∀ H', Same H H' → Q (.bl true) H'
theorem ok__law_word_right (T : Txt K mg) : FnC P w K mg base CX0 7 T.f__law_word_right T.fd__law_word_right P__law_word_right (sp__law_word_right K) := by
  have nd : N__law_word_right.Nodup := sc__law_word_right.nd
  refine okC T.F__law_word_right sc__law_word_right (fun vs H Q E h => ?_) (fun cdv A outer s H vs Q E hr hc h => ?_)
  · obtain ⟨l, js, rfl, _⟩ := h
    rfl
  · obtain ⟨l, js, rfl, hl, hw, hjl, hj, k⟩ := h
    refine ⟨_, (pss_cons (ps_set (i := 2) nd rfl (Or.inl rfl) (pe_call (ok__law_made T) (hr.mono (by decide)) rfl T.m__law_made T.F__law_made.kp T.b__law_made .nil pass0 (pa_cons (pv 0) (pa_cons (pv 1) pa_nil))))
      (pss_cons (ps_set (i := 3) nd rfl (Or.inl rfl) (pe_call (ok_one_deed T) (hr.mono (by decide)) rfl T.m_one_deed T.F_one_deed.kp T.b_one_deed .nil pass0 (pa_cons (pv 0) (pa_cons (pv 1) pa_nil))))
      (pss_cons (ps_if (PW.pt (pw_or (pt_not (pt_val (pe_callB call_isi (by rfl) T.z_isinstance (by decide +kernel) (pa_cons (pv 3) (pa_cons (pe_bltn (v := .ty "list") (by rfl) T.z_list (by decide +kernel) rfl) pa_nil))))) (pw_or1 (pt_not (pt_val (pe_callC (ok__law_same T) (hr.mono (by decide)) hc rfl T.m__law_same T.F__law_same.kp T.b__law_same .nil pass0 (pa_cons (pv 3) (pa_cons (pv 2) pa_nil)))))))) (pss_one (ps_ret pe_bl)) pss_nil)
      (pss_cons (ps_expr (pe_bm PySem.F.plainAttrs_list PySem.F.slot_list_append PySem.F.type_list_append mt_append (pv 3) (pa_cons pe_str pa_nil)))
      (pss_cons (ps_if (pt_not (pt_val (pe_callC (ok__law_same T) (hr.mono (by decide)) hc rfl T.m__law_same T.F__law_same.kp T.b__law_same .nil pass0 (pa_cons (pe_callN0 (ok_one_deed T) (hr.mono (by decide)) rfl T.m_one_deed T.F_one_deed.kp (kb_one_deed__0_joints_word T) pass0 (pk_cons (pv 1) (pk_cons (pv 0) pk_nil))) (pa_cons (pv 2) pa_nil))))) (pss_one (ps_ret pe_bl)) pss_nil)
      (pss_cons (ps_par (i := 4) (j := 5) rfl nd rfl rfl (by decide) rfl rfl (pa_cons (pe_lc (own := [("_law_letter", 7)]) (hc := rfl) (hN := nd) (pi_str (pv 1)) (blkOk_by (N := N__law_word_right) (sc := defScope s__law_word_right) (by decide +kernel)) (fun _ _ _ _ _ => by exact (pg_name (i := 7) nd rfl (Or.inl rfl))) (fun _ _ _ _ _ => by exact (pts_one (pt_cmpR op_in_sign (pv 7) (pv 0) rfl))) (fun _ _ _ _ _ => by exact (pv 7))) (pa_cons (pe_call (ok__law_ring T) (hr.mono (by decide)) rfl T.m__law_ring T.F__law_ring.kp T.b__law_ring .nil pass0 (pa_cons (pv 0) (pa_cons (pv 1) pa_nil))) pa_nil)) (by rfl))
      (pss_cons (ps_set (i := 6) nd rfl (Or.inl rfl) (pe_or (pe_cmpR op_eq (pe_callB call_len_seq (by rfl) T.z_len (by decide +kernel) (pa_cons (pv 4) pa_nil)) pe_int (nomark _)) (pe_one (pe_and (pe_cmpR op_eq (pe_callB call_len_seq (by rfl) T.z_len (by decide +kernel) (pa_cons (pv 4) pa_nil)) pe_int (nomark _)) (pe_one (pe_cmpR op_eq (pe_call (ok_ring_turns T) (hr.mono (by decide)) rfl T.m_ring_turns T.F_ring_turns.kp T.b_ring_turns .nil pass0 (pa_cons (pv 0) (pa_cons (pv 1) pa_nil))) (pe_m1 PySem.F.slot_str_count PySem.F.type_str_count mt_count (pv 5) pe_str) (nomark _)))))))
      (pss_cons (ps_if (pt_not (pt_val (pe_callC (ok__law_same T) (hr.mono (by decide)) hc rfl T.m__law_same T.F__law_same.kp T.b__law_same .nil pass0 (pa_cons (pe_call (ok_is_alone T) (hr.mono (by decide)) rfl T.m_is_alone T.F_is_alone.kp T.b_is_alone .nil pass0 (pa_cons (pv 0) (pa_cons (pv 1) pa_nil))) (pa_cons (pv 6) pa_nil))))) (pss_one (ps_ret pe_bl)) pss_nil)
      (pss_one (ps_ret (pe_or (pe_not (pv 6)) (pe_or (pe_cmpR (op_eqP hr.units) (pv 2) (pe_lst pa_nil) (nomark _)) (pe_one (pe_cmpR (op_eqP hr.units) (pv 2) (pe_lst (pa_cons (pv 0) pa_nil)) (nomark _))))))))))))))), ?_⟩
    refine ⟨_, rfl, _, rfl, l, js, rfl, by omega, fun p ws H1 hp s1 d1 D1 => ?_⟩
    refine ⟨_, rfl, _, rfl, l, js, rfl, by omega, hw, by omega, hj, fun q vs H2 hq s2 d2 D2 => ?_⟩
    obtain rfl := D2.uniq D1
    have hvl : vs.length ≤ 60 := by
      have h1 := few_of_nodup (b := deedsL l js) D1.nd fun v hv => (D1.mem v).mp hv
      have h2 := openL_len l js
      have h3 : (deedsL l js).length = (openL l js).length := List.length_map _
      omega
    have hvw : ∀ v ∈ vs, wordB v = true ∧ v.length ≤ 60 := fun v hv => by
      obtain ⟨p, hp, rfl⟩ := List.mem_map.mp ((D1.mem v).mp hv)
      obtain ⟨c, hc, _⟩ := mem_openL hp
      have hpl := (List.getElem?_eq_some_iff.mp hc).1
      exact ⟨wordB_of fun c hc => wordB_mem hw (swapL_mem hc), by rw [swapL_len hpl]; exact hl⟩
    have d1' := s2 _ _ d1
    have bnd : vs.length * (60 + 1) ≤ 2 ^ 20 := by omega
    refine ⟨_, rfl, _, _, _, _, _, rfl, ClsV.ty "list", .base (.lst d2), kit_ty (by decide +kernel), true, rfl, iteF ?_⟩
    refine ⟨_, rfl, _, rfl, V.ref q, V.ref p, _, rfl, Rp.words d2 hvw bnd, Rp.words d1' hvw bnd, true, rfl, iteF ?_⟩
    show tNext _ _ _
    refine ⟨_, rfl, .inl ⟨rfl, _, SqL.of d2⟩, q, _, _, rfl, rfl, d2, by rw [List.length_map]; exact small_line (by omega), ?_⟩
    have s3 : Same H1 (L2.upd H2 q (.lst (wordsV vs ++ [V.str (Str.ofString "a")]))) := Same.own s2 hq
    generalize L2.upd H2 q (.lst (wordsV vs ++ [V.str (Str.ofString "a")])) = H3 at s3 ⊢
    have d13 := s3 _ _ d1
    show tNext _ _ _
    refine ⟨_, rfl, _, rfl, rfl, rfl, l, js, rfl, by omega, hw, by omega, hj, fun q2 us H4 hq2 s4 d4 D4 => ?_⟩
    obtain rfl := D4.uniq D1
    refine ⟨_, rfl, V.ref q2, V.ref p, _, rfl, Rp.words d4 hvw bnd, Rp.words (s4 _ _ d13) hvw bnd, true, rfl, iteF ?_⟩
    show tNext _ _ _
    refine ⟨_, rfl, _, rfl, fun D hD => ?_⟩
    refine lc_it walk_str (fun i H' => Same H4 H' ∧ H' D = some (.lst (signsV (kindsL l (js.take i))))) ⟨Same.upd hD, upd_same⟩ (fun _ _ _ _ => trivial) ?_ ?_
    · rintro i x H5 H6 hi ⟨s5, d5⟩ ⟨rfl, c, hc, rfl⟩
      rw [at_S] at hc
      have hfl := List.length_filter_le (fun c => decide (c ∈ l)) (js.take i)
      rw [List.length_take] at hfl
      refine ⟨rfl, _, rfl, _, rfl, c, S l, rfl, rfl, _, rfl, ?_⟩
      have es : (S l).cps.toList = l := by simp [SX.S]
      rw [es]
      refine ite2 (fun z => ?_) (fun z => ?_)
      · have z' : c ∈ l := by simpa using z
        exact ⟨_, rfl, grow hD s5 d5 (by rw [wordV_len]; show (List.filter _ _).length ≤ _; omega) (by unfold kindsL; rw [take_snoc hc, List.filter_append]; simp [z'])⟩
      · have z' : ¬ c ∈ l := by simpa using z
        exact ⟨s5, by rw [d5]; unfold kindsL; rw [take_snoc hc, List.filter_append]; simp [z']⟩
    rintro H5 ⟨s5, d5⟩
    rw [size_S, List.take_length] at d5
    refine ⟨_, rfl, _, rfl, l, js, rfl, by omega, fun H6 s6 => ?_⟩
    refine ⟨_, _, rfl, ?_⟩
    have d6 := s6 _ _ d5
    have S6 : Same H H6 := s1.trans (s3.trans (s4.trans (s5.trans s6)))
    have dp6 : H6 p = some (.lst (wordsV us)) := s6 _ _ (s5 _ _ (s4 _ _ d13))
    have ndj : js.Nodup := joints_nodup hj
    have LK := lone_kinds hw ndj
    dsimp only
    unfold tSeq
    unfold tAsg
    refine orV_by (fun b H' => (b = true ↔ Lone l js) ∧ Same H6 H') (fun b7 H7 ⟨hb7, s7⟩ => ?ga) (fun cont => ?gb)
    case gb =>
      refine ⟨_, rfl, D, _, rfl, .inl (SqL.of d6), rfl, _, rfl, ite2 (fun z => ?_) (fun z => ?_)⟩
      · have z' : (kindsL l js).length = 0 := by
          have := of_decide_eq_true z
          rw [wordV_len] at this
          injection this with e
          omega
        exact cont true H6 ⟨⟨fun _ => LK.mpr (.inl z'), fun _ => rfl⟩, fun _ _ e => e⟩
      · have z' : ¬ (kindsL l js).length = 0 := fun e => z (decide_eq_true (by rw [wordV_len, e]; rfl))
        refine ⟨_, rfl, D, _, rfl, .inl (SqL.of d6), rfl, _, rfl, ite2 (fun y => ?_) (fun y => ?_)⟩
        · have y' : (kindsL l js).length = 1 := by
            have := of_decide_eq_true y
            rw [wordV_len] at this
            injection this with e
            omega
          refine ⟨_, rfl, _, rfl, l, js, rfl, by omega, hw, by omega, hj, fun H8 s8 => ?_⟩
          refine ⟨_, rfl, ⟨_, rfl⟩, _, _, rfl, rfl, rfl, ?_⟩
          rw [star_lit, count_sign]
          refine cont _ H8 ⟨?_, s8⟩
          rw [LK, decide_eq_true_iff]
          constructor
          · intro e
            injection e with e
            exact .inr ⟨y', by omega⟩
          · rintro (e | ⟨_, e⟩)
            · exact absurd e z'
            · rw [e]
        · have y' : ¬ (kindsL l js).length = 1 := fun e => y (decide_eq_true (by rw [wordV_len, e]; rfl))
          refine cont false H6 ⟨⟨fun e => (nomatch e), fun h => ?_⟩, fun _ _ e => e⟩
          rcases LK.mp h with e | ⟨e, _⟩
          · exact absurd e z'
          · exact absurd e y'
    case ga =>
      refine ⟨_, rfl, _, rfl, l, js, rfl, by omega, hw, by omega, hj, fun b8 H8 hb8 s8 => ?_⟩
      have e87 : b8 = b7 := by rw [Bool.eq_iff_iff, hb8, hb7]
      subst e87
      refine ⟨_, rfl, V.bl b8, V.bl b8, _, rfl, .bl b8, .bl b8, true, rfl, iteF ?_⟩
      show tNext _ _ _
      have dp8 := s8 _ _ (s7 _ _ dp6)
      have S8 := S6.trans (s7.trans s8)
      refine ⟨_, rfl, _, rfl, _, rfl, ?_⟩
      cases hb : b8 with
      | false =>
        refine iteT ?_
        exact k _ S8
      | true =>
        refine iteF ?_
        rcases (lone_list D1.nd D1.mem).mp (hb8.mp hb) with e | e
        · refine ⟨_, rfl, (by show 0 ≤ sizeLine; decide), ?_⟩
          intro e0 hn_e0
          generalize hX_e0 : L2.upd _ e0 _ = H9
          have s_e0 := alloc_same hX_e0 hn_e0
          have d_e0 := alloc_at hX_e0
          refine ⟨_, _, .lst (SqL.of (s_e0 _ _ dp8)) (words_dp _), .lst (SqL.of d_e0) .nil, words_plainL _, rfl, words_depthL _, _, rfl, ?_⟩
          rw [words_eqv_nil, e]
          refine iteT ?_
          exact k _ (S8.trans s_e0)
        · refine ⟨_, rfl, (by show 0 ≤ sizeLine; decide), ?_⟩
          intro e0 hn_e0
          generalize hX_e0 : L2.upd _ e0 _ = H9
          have s_e0 := alloc_same hX_e0 hn_e0
          have d_e0 := alloc_at hX_e0
          refine ⟨_, _, .lst (SqL.of (s_e0 _ _ dp8)) (words_dp _), .lst (SqL.of d_e0) .nil, words_plainL _, rfl, words_depthL _, _, rfl, ?_⟩
          rw [words_eqv_nil, e]
          refine iteF ?_
          refine ⟨_, rfl, _, rfl, (by show 1 ≤ sizeLine; decide), ?_⟩
          intro e1 hn_e1
          generalize hX_e1 : L2.upd _ e1 _ = H10
          have s_e1 := alloc_same hX_e1 hn_e1
          have d_e1 := alloc_at hX_e1
          have dp10 := s_e1 _ _ (s_e0 _ _ dp8)
          rw [e] at dp10
          refine ⟨_, _, .lst (SqL.of dp10) (words_dp _), .lst (SqL.of d_e1) (.cons (.str _) .nil), words_plainL _, rfl, words_depthL _, ?_⟩
          rw [show PyData.eqv (.list (wordsD [l])) (.list [.str (S l)]) = true from (words_eqv [l] [l]).trans (decide_eq_true rfl)]
          exact k _ (S8.trans (s_e0.trans s_e1))
/-! _law_far_list_right -/
def sp__law_far_list_right (K : PySem.W.Frag) : Sp := fun vs H Q _ => ∃ (g : Addr) (b : Nat), vs = [.ref g] ∧ GenAt H g b ∧ b ≤ 600000000 ∧ ∀ H', But g H H' → Q (.bl true) H'
theorem ok__law_far_list_right (T : Txt K mg) : FnC P w K mg base CX0 7 T.f__law_far_list_right T.fd__law_far_list_right P__law_far_list_right (sp__law_far_list_right K) := by
  have nd : N__law_far_list_right.Nodup := sc__law_far_list_right.nd
  refine okC T.F__law_far_list_right sc__law_far_list_right (fun vs H Q E h => ?_) (fun cdv A outer s H vs Q E hr hc h => ?_)
  · obtain ⟨g, b, rfl, _⟩ := h
    rfl
  · obtain ⟨g, b, rfl, G, hb, k⟩ := h
    refine ⟨_, (pss_cons (ps_asg (pe_call (ok__law_drawn T) (hr.mono (by decide)) rfl T.m__law_drawn T.F__law_drawn.kp T.b__law_drawn .nil pass0 (pa_cons (pv 0) (pa_cons pe_int pa_nil))) (pg_tup (n := 2) rfl (pgs_cons (by exact (pg_name (i := 1) nd rfl (Or.inl rfl))) (pgs_cons (by exact (pg_name (i := 2) nd rfl (Or.inl rfl))) pgs_nil))))
      (pss_cons (ps_par (i := 3) (j := 4) rfl nd rfl rfl (by decide) rfl rfl (pa_cons (pe_lst (pa_cons (pv 1) pa_nil)) (pa_cons (pe_call (ok__law_places T) (hr.mono (by decide)) rfl T.m__law_places T.F__law_places.kp T.b__law_places .nil pass0 (pa_cons (pv 1) (pa_cons (pv 2) pa_nil))) pa_nil)) (by rfl))
      (pss_cons (ps_for PassesOwn.never rfl (pi_range1 rfl T.z_range (pa_cons pe_int pa_nil)) (pg_name (i := 5) nd rfl (Or.inl rfl))
      (pss_cons (ps_set (i := 6) nd rfl (Or.inl rfl) (pe_ix ix_list (pv 3) (pe_call (ok__law_random T) (hr.mono (by decide)) rfl T.m__law_random T.F__law_random.kp T.b__law_random .nil pass0 (pa_cons (pv 0) (pa_cons (pe_callB call_len_seq (by rfl) T.z_len (by decide +kernel) (pa_cons (pv 3) pa_nil)) pa_nil))) (fun _ _ => rfl)))
      (pss_cons (ps_if (PW.pt (pw_and (pt_cmpR (op_neP hr.units) (pv 4) (pe_lst pa_nil) (nomark _)) (pw_and1 (pt_cmpR op_lt (pv 5) pe_int (nomark _))))) (pss_cons (ps_set (i := 7) nd rfl (Or.inl rfl) (pe_call (ok__law_places T) (hr.mono (by decide)) rfl T.m__law_places T.F__law_places.kp T.b__law_places .nil pass0 (pa_cons (pv 6) (pa_cons (pv 2) pa_nil))))
      (pss_one (ps_set (i := 6) nd rfl (Or.inl rfl) (pe_call (ok__law_deed T) (hr.mono (by decide)) rfl T.m__law_deed T.F__law_deed.kp T.b__law_deed .nil pass0 (pa_cons (pv 6) (pa_cons (pe_ix ix_list (pv 7) (pe_call (ok__law_random T) (hr.mono (by decide)) rfl T.m__law_random T.F__law_random.kp T.b__law_random .nil pass0 (pa_cons (pv 0) (pa_cons (pe_callB call_len_seq (by rfl) T.z_len (by decide +kernel) (pa_cons (pv 7) pa_nil)) pa_nil))) (fun _ _ => rfl)) pa_nil)))))) pss_nil)
      (pss_one (ps_expr (pe_bm PySem.F.plainAttrs_list PySem.F.slot_list_append PySem.F.type_list_append mt_append (pv 3) (pa_cons (pv 6) pa_nil)))))))
      (pss_cons (ps_set (i := 8) nd rfl (Or.inl rfl) (pe_call (ok__law_random T) (hr.mono (by decide)) rfl T.m__law_random T.F__law_random.kp T.b__law_random .nil pass0 (pa_cons (pv 0) (pa_cons (pe_op op_add (pe_callB call_len (by rfl) T.z_len (by decide +kernel) (pa_cons (pv 1) pa_nil)) pe_int) pa_nil))))
      (pss_cons (ps_expr (pe_bm PySem.F.plainAttrs_list PySem.F.slot_list_append PySem.F.type_list_append mt_append (pv 3) (pa_cons (pe_op op_add_str (pe_op op_add_str (pe_slice sl_str (pv 1) po_none (po_some (pv 8))) (pe_item_str (pe_op op_add_str (pv 2) pe_str) (pe_call (ok__law_random T) (hr.mono (by decide)) rfl T.m__law_random T.F__law_random.kp T.b__law_random .nil pass0 (pa_cons (pv 0) (pa_cons (pe_op op_add (pe_callB call_len (by rfl) T.z_len (by decide +kernel) (pa_cons (pv 2) pa_nil)) pe_int) pa_nil))) (fun _ _ => rfl))) (pe_slice sl_str (pv 1) (po_some (pe_op op_add (pv 8) pe_int)) po_none)) pa_nil)))
      (pss_cons (ps_expr (pe_bm PySem.F.plainAttrs_list PySem.F.slot_list_append PySem.F.type_list_append mt_append (pv 3) (pa_cons (pe_revT (pv 1) (pe_un un_neg pe_int)) pa_nil)))
      (pss_one (ps_ret (pe_callC (ok__law_same T) (hr.mono (by decide)) hc rfl T.m__law_same T.F__law_same.kp T.b__law_same .nil pass0 (pa_cons (pe_call (ok_classes_of T) (hr.mono (by decide)) rfl T.m_classes_of T.F_classes_of.kp T.b_classes_of .nil pass0 (pa_cons (pv 3) (pa_cons (pv 2) pa_nil))) (pa_cons (pe_call (ok__law_groups T) (hr.mono (by decide)) rfl T.m__law_groups T.F__law_groups.kp T.b__law_groups .nil pass0 (pa_cons (pv 3) (pa_cons (pv 2) pa_nil))) pa_nil))))))))))), ?_⟩
    refine ⟨_, rfl, g, 40, b, rfl, G, by omega, by decide, fun T0 w js H1 hT b1 G1 dT hwl hwb hjl hjj => ?_⟩
    refine ⟨T0, _, rfl, SqT.of dT, rfl, _, _, rfl, _, _, rfl, rfl, ?_⟩
    have hw40 : w.length ≤ 40 := by omega
    refine ⟨_, rfl, (by show 1 ≤ sizeLine; decide), ?_⟩
    intro W hn_W
    generalize hX_W : L2.upd _ W _ = H2
    have s_W := alloc_same hX_W hn_W
    have d_W := alloc_at hX_W
    refine ⟨_, rfl, _, rfl, w, js, rfl, by omega, fun pl H3 hpl s3 d3 => ?_⟩
    refine ⟨_, _, rfl, ?_⟩
    have d_W3 := s3 _ _ d_W
    have eW1 : H2 W = some (.lst (wordsV [w])) := d_W
    have nW : W ≠ g := G1.ne hn_W
    have hW0 : H W = none := (show ∀ x, H1 W = none → H W = none from fun _ h => by
      cases hh : H W with
      | none => rfl
      | some o => have := b1 _ _ nW hh; rw [h] at this; cases this) () hn_W
    have npl : pl ≠ g := (G1.same s_W).ne hpl
    have nWp : pl ≠ W := (ne_of_none d_W hpl).symm
    have hop0 := openL_len w js
    have B3 : But g H H3 := b1.trans ((But.same s_W).trans (But.same s3))
    refine ⟨3, rfl, by decide, by decide, ?_⟩
    refine for_range (lo := 0) (n := 3) (fun i σ H' => ∃ (us : List (List Nat)) (w5 w6 w7 : Option V), σ = [some (.ref g), some (.str (S w)), some (.str (S js)), some (.ref W), some (.ref pl), w5, w6, w7, none] ∧ us.length = i + 1 ∧ (∀ u ∈ us, Reach js w u) ∧ H' W = some (.lst (wordsV us)) ∧ H' pl = some (.lst (placesV (openL w js))) ∧ But g H H' ∧ GenAt H' g (b + 3000 + 100 * i))
      ⟨[w], _, _, _, rfl, rfl, fun u hu => by rw [List.mem_singleton.mp hu]; exact .refl, d_W3, d3, B3, ((G1.same s_W).same s3).mono (by omega)⟩ ?_ ?_
    · rintro i σ H4 hi ⟨us, w5, w6, w7, rfl, hul, hu, dW, dp, b4, G4⟩
      have hwz : (wordsV us).length = us.length := List.length_map _
      refine ⟨_, rfl, _, rfl, _, rfl, W, _, rfl, .inl (SqL.of dW), g, _, _, rfl, G4, by omega, by rw [hwz]; omega, by rw [hwz]; exact Nat.lt_of_le_of_lt (show ((us.length : Nat) : Int).natAbs ≤ 9 by omega) (by decide), fun x H5 x0 x1 b5 G5 => ?_⟩
      rw [hwz] at x1
      have hxl : x.toNat < us.length := by omega
      have hxu : us[x.toNat]? = some us[x.toNat] := List.getElem?_eq_getElem hxl
      have hxm := hu _ (List.getElem_mem hxl)
      generalize us[x.toNat] = u at hxu hxm
      have dW5 := b5.at nW dW
      have dp5 := b5.at npl dp
      have ul : u.length ≤ 40 := by rw [hxm.len]; exact hw40
      refine ⟨W, _, x, V.str (S u), rfl, rfl, SqL.of dW5, at_of (j := x.toNat) (by omega) (words_at hxu), ?_⟩
      dsimp only
      refine seq_by (fun σ' H' => ∃ (v : List Nat) (w5 w7 : Option V), σ' = [some (.ref g), some (.str (S w)), some (.str (S js)), some (.ref W), some (.ref pl), w5, some (.str (S v)), w7, none] ∧ Reach js w v ∧ H' W = some (.lst (wordsV us)) ∧ H' pl = some (.lst (placesV (openL w js))) ∧ But g H H' ∧ GenAt H' g (b + 3000 + 100 * i + 50)) ?ga ?gb
      case ga =>
        rintro σ H7 ⟨v, w5, w7, rfl, hv, dW7, dp7, b7, G7⟩
        refine ⟨_, rfl, .inl ⟨rfl, _, SqL.of dW7⟩, _, rfl, W, _, _, rfl, rfl, dW7, by rw [List.length_map]; exact small_line (by omega), ?_⟩
        refine ⟨us ++ [v], _, _, _, rfl, by simp [hul], fun u hu' => ?_, by rw [upd_same]; simp [wordsV], by rw [upd_ne nWp]; exact dp7, fun c o hc h => ?_, G7.off nW (by omega)⟩
        · rcases List.mem_append.mp hu' with h | h
          · exact hu u h
          · rw [List.mem_singleton.mp h]; exact hv
        · rw [upd_ne (ne_of_none h hW0)]; exact b7 c o hc h
      case gb =>
        intro hN
        have B5 := b4.trans b5
        refine ⟨_, rfl, (by show 0 ≤ sizeLine; decide), ?_⟩
        intro e1 hn_e1
        generalize hX_e1 : L2.upd _ e1 _ = H6
        have s_e1 := alloc_same hX_e1 hn_e1
        have d_e1 := alloc_at hX_e1
        have dW6 := s_e1 _ _ dW5
        have dp6 := s_e1 _ _ dp5
        have B6 := B5.trans (But.same s_e1)
        have G6 := G5.same s_e1
        refine ⟨.list (placesD (openL w js)), .list (placesD []), .lst (SqL.of dp6) (places_dp _), .lst (SqL.of d_e1) .nil, places_plain _, rfl, places_depthL _, _, rfl, ?_⟩
        rw [places_eqv2]
        by_cases ho : openL w js = []
        · rw [decide_eq_true ho]
          refine iteF (iteF ?_)
          exact hN _ _ ⟨u, _, _, rfl, hxm, dW6, dp6, B6, G6.mono (by omega)⟩
        · rw [decide_eq_false ho]
          refine iteT ?_
          refine ⟨_, rfl, _, _, rfl, rfl, _, rfl, ite2 (fun y => ?_) (fun y => ?_)⟩
          · refine ⟨_, rfl, _, rfl, u, js, rfl, by omega, fun p2 H7 hp2 s7 d7 => ?_⟩
            have hou : 0 < (openL u js).length := by
              obtain ⟨p, hp⟩ : ∃ p, p ∈ openL w js := by
                cases hh : openL w js with
                | nil => exact absurd hh ho
                | cons p _ => exact ⟨p, List.mem_cons_self⟩
              obtain ⟨c, hc, hj⟩ := mem_openL hp
              have hcu : c ∈ u := hxm.perm.symm.mem_iff.mp (List.mem_of_getElem? hc)
              obtain ⟨j, hj', ej⟩ := List.mem_iff_getElem.mp hcu
              exact List.length_pos_of_mem (openL_mem (List.getElem?_eq_some_iff.mpr ⟨hj', ej⟩) hj)
            have hpz : (placesV (openL u js)).length = (openL u js).length := List.length_map _
            have hol := openL_len u js
            have np2 : p2 ≠ g := G6.ne hp2
            refine ⟨_, rfl, _, rfl, _, rfl, _, rfl, p2, _, rfl, .inl (SqL.of d7), g, _, _, rfl, G6.same s7, by omega, by rw [hpz]; omega, by rw [hpz]; exact Nat.lt_of_le_of_lt (show (((openL u js).length : Nat) : Int).natAbs ≤ 40 by omega) (by decide), fun t H8 t0 t1 b8 G8 => ?_⟩
            rw [hpz] at t1
            have htl : t.toNat < (openL u js).length := by omega
            have hto : (openL u js)[t.toNat]? = some (openL u js)[t.toNat] := List.getElem?_eq_getElem htl
            generalize (openL u js)[t.toNat] = pp at hto
            obtain ⟨c, hc, hj⟩ := mem_openL (List.mem_of_getElem? hto)
            have hpl2 : pp < u.length := (List.getElem?_eq_some_iff.mp hc).1
            refine ⟨p2, _, t, V.int (pp : Nat), rfl, rfl, SqL.of (b8.at np2 d7), at_of (j := t.toNat) (by omega) (by rw [List.getElem?_map, hto]; rfl), u, pp, rfl, by omega, hpl2, ?_⟩
            exact hN _ _ ⟨swapL u pp, _, _, rfl, .step hxm hc hj, b8.at nW (s7 _ _ dW6), b8.at npl (s7 _ _ dp6), B6.trans ((But.same s7).trans b8), G8.mono (by omega)⟩
          · exact hN _ _ ⟨u, _, _, rfl, hxm, dW6, dp6, B6, G6.mono (by omega)⟩
    rintro σ H4 ⟨us, w5, w6, w7, rfl, hul, hu, dW, dp, b4, G4⟩
    refine ⟨_, rfl, _, rfl, _, w.length, rfl, ⟨by rw [len_S]; exact small_le (by omega), by rw [len_S]⟩, _, _, rfl, rfl, g, _, _, rfl, G4, by omega, by omega, Nat.lt_of_le_of_lt (show ((w.length : Int) + 1).natAbs ≤ 100 by omega) (by decide), fun at0 H5 a0 a1 b5 G5 => ?_⟩
    obtain ⟨ai, rfl⟩ : ∃ ai : Nat, at0 = (ai : Int) := ⟨at0.toNat, by omega⟩
    have dW5 := b5.at nW dW
    have hzw : (S w).length ≤ sizeLine := by rw [len_S]; exact small_le (by omega)
    refine ⟨_, rfl, .inl ⟨rfl, _, SqL.of dW5⟩, ?_⟩
    refine ⟨_, rfl, _, rfl, _, rfl, _, rfl, hzw, ?_⟩
    rw [cutS_take]
    refine ⟨_, rfl, _, _, rfl, rfl, by rw [show Str.ofString "ab" = S [97, 98] by decide +kernel, len_S, len_S]; exact small_le (by simp; omega), ?_⟩
    rw [show Str.ofString "ab" = S [97, 98] by decide +kernel, SX.S_cat]
    refine ⟨_, rfl, _, rfl, _, js.length, rfl, ⟨by rw [len_S]; exact small_le (by omega), by rw [len_S]⟩, _, _, rfl, rfl, g, _, _, rfl, G5, by omega, by omega, Nat.lt_of_le_of_lt (show ((js.length : Int) + 2).natAbs ≤ 100 by omega) (by decide), fun t H6 t0 t1 b6 G6 => ?_⟩
    have htl : t.toNat < (js ++ [97, 98]).length := by rw [List.length_append]; simp; omega
    have hcj : (js ++ [97, 98])[t.toNat]? = some (js ++ [97, 98])[t.toNat] := List.getElem?_eq_getElem htl
    have hcm := List.getElem_mem htl
    generalize (js ++ [97, 98])[t.toNat] = c at hcj hcm
    refine ⟨_, t, c, rfl, rfl, by omega, by omega, by rw [len_S]; omega, by rw [at_S]; exact hcj, ?_⟩
    have hc1 : (⟨#[c]⟩ : Str) = S [c] := rfl
    rw [hc1]
    refine ⟨_, _, rfl, rfl, by rw [len_S, len_S]; exact small_le (by rw [List.length_take]; simp; omega), ?_⟩
    rw [SX.S_cat]
    refine ⟨_, rfl, _, rfl, _, _, rfl, rfl, _, rfl, _, rfl, hzw, ?_⟩
    rw [cutS_from (by omega), show ((ai : Int) + 1).toNat = ai + 1 by omega]
    refine ⟨_, _, rfl, rfl, by rw [len_S, len_S]; exact small_le (by rw [List.length_append, List.length_take, List.length_drop]; simp; omega), ?_⟩
    rw [SX.S_cat]
    have hx1 : (w.take ai ++ [c] ++ w.drop (ai + 1)).length ≤ 42 := by rw [List.length_append, List.length_append, List.length_take, List.length_drop]; simp; omega
    have hjw := joints_word hjj
    have hcb : 97 ≤ c ∧ c ≤ 122 := by
      rcases List.mem_append.mp hcm with h | h
      · exact wordB_mem hjw h
      · simp only [List.mem_cons, List.not_mem_nil, or_false] at h
        omega
    have hx2 : wordB (w.take ai ++ [c] ++ w.drop (ai + 1)) = true := wordB_of fun d hd => by
      rcases List.mem_append.mp hd with h | h
      · rcases List.mem_append.mp h with h | h
        · exact wordB_mem hwb (List.mem_of_mem_take h)
        · rw [List.mem_singleton.mp h]; exact hcb
      · exact wordB_mem hwb (List.mem_of_mem_drop h)
    generalize w.take ai ++ [c] ++ w.drop (ai + 1) = x1 at hx1 hx2 ⊢
    have dW6 := b6.at nW dW5
    refine ⟨W, _, _, rfl, rfl, dW6, by rw [List.length_map]; exact small_line (by omega), ?_⟩
    have B6 : But g H H6 := b4.trans (b5.trans b6)
    have B7 : But g H (L2.upd H6 W (.lst (wordsV us ++ [V.str (S x1)]))) := fun c o hc h => by rw [upd_ne (ne_of_none h hW0)]; exact B6 c o hc h
    have dW7 : (L2.upd H6 W (.lst (wordsV us ++ [V.str (S x1)]))) W = some (.lst (wordsV (us ++ [x1]))) := by rw [upd_same]; simp [wordsV]
    generalize L2.upd H6 W (.lst (wordsV us ++ [V.str (S x1)])) = H7 at B7 dW7 ⊢
    show tNext _ _ _
    refine ⟨_, rfl, .inl ⟨rfl, _, SqL.of dW7⟩, _, rfl, w, rfl, by omega, _, rfl, _, rfl, rfl, ?_⟩
    refine ⟨W, _, _, rfl, rfl, dW7, by rw [List.length_map]; exact small_line (by simp; omega), ?_⟩
    have B8 : But g H (L2.upd H7 W (.lst (wordsV (us ++ [x1]) ++ [V.str (S w.reverse)]))) := fun c o hc h => by rw [upd_ne (ne_of_none h hW0)]; exact B7 c o hc h
    have dW8 : (L2.upd H7 W (.lst (wordsV (us ++ [x1]) ++ [V.str (S w.reverse)]))) W = some (.lst (wordsV (us ++ [x1] ++ [w.reverse]))) := by rw [upd_same]; simp [wordsV]
    generalize L2.upd H7 W (.lst (wordsV (us ++ [x1]) ++ [V.str (S w.reverse)])) = H8 at B8 dW8 ⊢
    show tNext _ _ _
    have hall : ∀ v ∈ us ++ [x1] ++ [w.reverse], wordB v = true ∧ v.length ≤ 42 := fun v hv => by
      rcases List.mem_append.mp hv with h | h
      · rcases List.mem_append.mp h with h | h
        · exact ⟨(hu v h).word hwb, by rw [(hu v h).len]; omega⟩
        · rw [List.mem_singleton.mp h]; exact ⟨hx2, hx1⟩
      · rw [List.mem_singleton.mp h]
        exact ⟨wordB_of fun c hc => wordB_mem hwb (List.mem_reverse.mp hc), by rw [List.length_reverse]; omega⟩
    have hlen6 : (us ++ [x1] ++ [w.reverse]).length ≤ 6 := by simp [hul]
    generalize us ++ [x1] ++ [w.reverse] = ws at dW8 hall hlen6
    have hub : ∀ v ∈ ws, v.length ≤ 100 := fun v hv => by have := (hall v hv).2; omega
    refine ⟨_, rfl, _, rfl, W, ws, js, rfl, dW8, by omega, hub, by omega, fun v hv => (hall v hv).1, hjj, fun q bs H9 hq s9 d9 L9 => ?_⟩
    refine ⟨_, rfl, _, rfl, W, ws, js, rfl, s9 _ _ dW8, by omega, hub, by omega, fun p as H10 hp s10 d10 L10 => ?_⟩
    refine ⟨V.ref q, V.ref p, _, rfl, (L9.same s10).rp (s10 _ _ d9) (by omega), L10.rp d10 (by omega), ?_⟩
    exact k _ (B8.trans (But.same (s9.trans s10)))
/-! _law_list_right -/
def sp__law_list_right (K : PySem.W.Frag) : Sp := fun vs H Q _ => ∃ (g : Addr) (b : Nat), vs = [.ref g] ∧ GenAt H g b ∧ b ≤ 600000000 ∧ ∀ H', But g H H' → GenAt H' g (b + 3000) → Q (.bl true) H'
theorem ok__law_list_right (T : Txt K mg) : FnC P w K mg base CX0 7 T.f__law_list_right T.fd__law_list_right P__law_list_right (sp__law_list_right K) := by
  have nd : N__law_list_right.Nodup := sc__law_list_right.nd
  refine okC T.F__law_list_right sc__law_list_right (fun vs H Q E h => ?_) (fun cdv A outer s H vs Q E hr hc h => ?_)
  · obtain ⟨g, b, rfl, _⟩ := h
    rfl
  · obtain ⟨g, b, rfl, G, hb, k⟩ := h
    refine ⟨_, (pss_cons (ps_par (i := 1) (j := 2) rfl nd rfl rfl (by decide) rfl rfl (pa_cons (pe_slice sl_str pe_str po_none (po_some (pe_call (ok__law_random T) (hr.mono (by decide)) rfl T.m__law_random T.F__law_random.kp T.b__law_random .nil pass0 (pa_cons (pv 0) (pa_cons pe_int pa_nil))))) (pa_cons (pe_lst pa_nil) pa_nil)) (by rfl))
      (pss_cons (ps_for PassesOwn.never rfl (pi_range1 rfl T.z_range (pa_cons (pe_call (ok__law_random T) (hr.mono (by decide)) rfl T.m__law_random T.F__law_random.kp T.b__law_random .nil pass0 (pa_cons (pv 0) (pa_cons pe_int pa_nil))) pa_nil)) (pg_name (i := 3) nd rfl (Or.inl rfl))
      (pss_cons (ps_set (i := 4) nd rfl (Or.inl rfl) (pe_call (ok__law_word T) (hr.mono (by decide)) rfl T.m__law_word T.F__law_word.kp T.b__law_word .nil pass0 (pa_cons (pv 0) (pa_cons pe_str (pa_cons (pe_call (ok__law_random T) (hr.mono (by decide)) rfl T.m__law_random T.F__law_random.kp T.b__law_random .nil pass0 (pa_cons (pv 0) (pa_cons pe_int pa_nil))) pa_nil)))))
      (pss_cons (ps_if (PW.pt (pw_and (pt_cmpR (op_neP hr.units) (pv 2) (pe_lst pa_nil) (nomark _)) (pw_and1 (pt_cmpR op_eq (pe_call (ok__law_random T) (hr.mono (by decide)) rfl T.m__law_random T.F__law_random.kp T.b__law_random .nil pass0 (pa_cons (pv 0) (pa_cons pe_int pa_nil))) pe_int (nomark _))))) (pss_cons (ps_set (i := 4) nd rfl (Or.inl rfl) (pe_ix ix_list (pv 2) (pe_call (ok__law_random T) (hr.mono (by decide)) rfl T.m__law_random T.F__law_random.kp T.b__law_random .nil pass0 (pa_cons (pv 0) (pa_cons (pe_callB call_len_seq (by rfl) T.z_len (by decide +kernel) (pa_cons (pv 2) pa_nil)) pa_nil))) (fun _ _ => rfl)))
      (pss_cons (ps_set (i := 5) nd rfl (Or.inl rfl) (pe_call (ok__law_places T) (hr.mono (by decide)) rfl T.m__law_places T.F__law_places.kp T.b__law_places .nil pass0 (pa_cons (pv 4) (pa_cons (pv 1) pa_nil))))
      (pss_one (ps_if (pt_cmpR (op_neP hr.units) (pv 5) (pe_lst pa_nil) (nomark _)) (pss_one (ps_set (i := 4) nd rfl (Or.inl rfl) (pe_call (ok__law_deed T) (hr.mono (by decide)) rfl T.m__law_deed T.F__law_deed.kp T.b__law_deed .nil pass0 (pa_cons (pv 4) (pa_cons (pe_ix ix_list (pv 5) (pe_call (ok__law_random T) (hr.mono (by decide)) rfl T.m__law_random T.F__law_random.kp T.b__law_random .nil pass0 (pa_cons (pv 0) (pa_cons (pe_callB call_len_seq (by rfl) T.z_len (by decide +kernel) (pa_cons (pv 5) pa_nil)) pa_nil))) (fun _ _ => rfl)) pa_nil))))) pss_nil)))) pss_nil)
      (pss_one (ps_expr (pe_bm PySem.F.plainAttrs_list PySem.F.slot_list_append PySem.F.type_list_append mt_append (pv 2) (pa_cons (pv 4) pa_nil)))))))
      (pss_cons (ps_par (i := 6) (j := 7) rfl nd rfl rfl (by decide) rfl rfl (pa_cons (pe_call (ok__law_groups T) (hr.mono (by decide)) rfl T.m__law_groups T.F__law_groups.kp T.b__law_groups .nil pass0 (pa_cons (pv 2) (pa_cons (pv 1) pa_nil))) (pa_cons (pe_callTy call_list_of (by rfl) T.z_list (by decide +kernel) (pa_cons (pv 2) pa_nil)) pa_nil)) (by rfl))
      (pss_cons (ps_set (i := 8) nd rfl (Or.inl rfl) (pe_call (ok_classes_of T) (hr.mono (by decide)) rfl T.m_classes_of T.F_classes_of.kp T.b_classes_of .nil pass0 (pa_cons (pv 7) (pa_cons (pv 1) pa_nil))))
      (pss_cons (ps_if (PW.pt (pw_or (pt_not (pt_val (pe_callB call_isi (by rfl) T.z_isinstance (by decide +kernel) (pa_cons (pv 8) (pa_cons (pe_bltn (v := .ty "list") (by rfl) T.z_list (by decide +kernel) rfl) pa_nil))))) (pw_or (pt_not (pt_val (pe_callC (ok__law_same T) (hr.mono (by decide)) hc rfl T.m__law_same T.F__law_same.kp T.b__law_same .nil pass0 (pa_cons (pv 8) (pa_cons (pv 6) pa_nil))))) (pw_or1 (pt_cmpR (op_neP hr.units) (pv 7) (pv 2) (nomark _)))))) (pss_one (ps_ret pe_bl)) pss_nil)
      (pss_cons (ps_for PassesOwn.never rfl (pi_list (pv 8)) (pg_name (i := 9) nd rfl (Or.inl rfl))
      (pss_one (ps_expr (pe_bm PySem.F.plainAttrs_list PySem.F.slot_list_append PySem.F.type_list_append mt_append (pv 9) (pa_cons pe_int pa_nil)))))
      (pss_cons (ps_expr (pe_bm PySem.F.plainAttrs_list PySem.F.slot_list_append PySem.F.type_list_append mt_append (pv 8) (pa_cons (pe_lst pa_nil) pa_nil)))
      (pss_one (ps_ret (pe_and (pe_callC (ok__law_same T) (hr.mono (by decide)) hc rfl T.m__law_same T.F__law_same.kp T.b__law_same .nil pass0 (pa_cons (pe_callN0 (ok_classes_of T) (hr.mono (by decide)) rfl T.m_classes_of T.F_classes_of.kp (kb_classes_of__0_joints_words T) pass0 (pk_cons (pv 1) (pk_cons (pv 2) pk_nil))) (pa_cons (pv 6) pa_nil))) (pe_one (pe_cmpR (op_eqP hr.units) (pv 7) (pv 2) (nomark _))))))))))))), ?_⟩
    refine ⟨_, rfl, g, 3, b, rfl, G, by omega, by decide, by decide, fun r H1 r0 r1 b1 G1 => ?_⟩
    obtain ⟨rn, rfl⟩ : ∃ rn : Nat, r = (rn : Int) := ⟨r.toNat, by omega⟩
    refine ⟨_, rfl, _, rfl, (by decide +kernel : (Str.ofString "xy").length ≤ sizeLine), ?_⟩
    rw [show Str.ofString "xy" = S [120, 121] by decide +kernel, cutS_take]
    have hJ : ∃ js : List Nat, js = [120, 121].take rn := ⟨_, rfl⟩
    obtain ⟨js, hjs⟩ := hJ
    rw [← hjs]
    have hjj : jointsB js = true := by
      have : rn = 0 ∨ rn = 1 ∨ rn = 2 := by omega
      rcases this with e | e | e <;> (rw [hjs, e]; decide +kernel)
    have hjl : js.length ≤ 2 := by rw [hjs, List.length_take]; simp; omega
    refine ⟨(by show 0 ≤ sizeLine; decide), ?_⟩
    intro W hn_W
    generalize hX_W : L2.upd _ W _ = H2
    have s_W := alloc_same hX_W hn_W
    have d_W := alloc_at hX_W
    have nW : W ≠ g := G1.ne hn_W
    have hW0 : H W = none := (show ∀ x, H1 W = none → H W = none from fun _ h => by
      cases hh : H W with
      | none => rfl
      | some o => have := b1 _ _ nW hh; rw [h] at this; cases this) () hn_W
    refine ⟨_, _, rfl, ?_⟩
    refine ⟨_, rfl, g, 9, _, rfl, G1.same s_W, by omega, by decide, by decide, fun m H3 m0 m1 b3 G3 => ?_⟩
    refine ⟨_, rfl, by omega, by omega, ?_⟩
    refine for_range (lo := 0) (n := m.toNat) (fun i σ H' => ∃ (us : List (List Nat)) (w3 w4 w5 : Option V), σ = [some (.ref g), some (.str (S js)), some (.ref W), w3, w4, w5, none, none, none, none] ∧ us.length = i ∧ (∀ u ∈ us, wordB u = true ∧ u.length ≤ 4) ∧ H' W = some (.lst (wordsV us)) ∧ But g H H' ∧ GenAt H' g (b + 100 + 200 * i))
      ⟨[], _, _, _, rfl, rfl, fun u hu => (nomatch hu), b3.at nW d_W, b1.trans ((But.same s_W).trans b3), G3.mono (by omega)⟩ ?_ ?_
    · rintro i σ H4 hi ⟨us, w3, w4, w5, rfl, hul, hu, dW, b4, G4⟩
      refine ⟨_, rfl, _, rfl, g, 5, _, rfl, G4, by omega, by decide, by decide, fun n H5 n0 n1 b5 G5 => ?_⟩
      obtain ⟨nn, rfl⟩ : ∃ nn : Nat, n = (nn : Int) := ⟨n.toNat, by omega⟩
      rw [show Str.ofString "abxy" = S [97, 98, 120, 121] by decide +kernel]
      refine ⟨g, [97, 98, 120, 121], nn, _, rfl, G5, by omega, by decide, by decide, by omega, fun wv H6 hwl hwm b6 G6 => ?_⟩
      have hwb : wordB wv = true := wordB_of fun c hc => by
        have := hwm c hc
        simp only [List.mem_cons, List.not_mem_nil, or_false] at this
        omega
      have dW6 := b6.at nW (b5.at nW dW)
      have B6 : But g H H6 := b4.trans (b5.trans b6)
      dsimp only
      refine seq_by (fun σ' H' => ∃ (v : List Nat) (w3 w5 : Option V), σ' = [some (.ref g), some (.str (S js)), some (.ref W), w3, some (.str (S v)), w5, none, none, none, none] ∧ wordB v = true ∧ v.length ≤ 4 ∧ H' W = some (.lst (wordsV us)) ∧ But g H H' ∧ GenAt H' g (b + 100 + 200 * i + 150)) ?ga ?gb
      case ga =>
        rintro σ H7 ⟨v, w3, w5, rfl, hvb, hvl, dW7, b7, G7⟩
        refine ⟨_, rfl, .inl ⟨rfl, _, SqL.of dW7⟩, _, rfl, W, _, _, rfl, rfl, dW7, by rw [List.length_map]; exact small_line (by omega), ?_⟩
        refine ⟨us ++ [v], _, _, _, rfl, by simp [hul], fun u hu' => ?_, by rw [upd_same]; simp [wordsV], fun c o hc h => ?_, ?_⟩
        · rcases List.mem_append.mp hu' with h | h
          · exact hu u h
          · rw [List.mem_singleton.mp h]; exact ⟨hvb, hvl⟩
        · rw [upd_ne (ne_of_none h hW0)]; exact b7 c o hc h
        · exact G7.off nW (by omega)
      case gb =>
        intro hN
        refine ⟨_, rfl, (by show 0 ≤ sizeLine; decide), ?_⟩
        intro e0 hn_e0
        generalize hX_e0 : L2.upd _ e0 _ = H7
        have s_e0 := alloc_same hX_e0 hn_e0
        have d_e0 := alloc_at hX_e0
        have dW7 := s_e0 _ _ dW6
        refine ⟨_, _, .lst (SqL.of dW7) (words_dp _), .lst (SqL.of d_e0) .nil, words_plainL _, rfl, words_depthL _, _, rfl, ?_⟩
        rw [words_eqv_nil]
        have B7 := B6.trans (But.same s_e0)
        have G7 := G6.same s_e0
        by_cases hne : us = []
        · rw [hne]
          refine iteF (iteF ?_)
          exact hN _ _ ⟨wv, _, _, rfl, hwb, by omega, dW7, B7, G7.mono (by omega)⟩
        · have hie : us.isEmpty = false := by cases us with
            | nil => exact absurd rfl hne
            | cons _ _ => rfl
          rw [hie]
          refine iteT ?_
          refine ⟨_, rfl, g, 2, _, rfl, G7, by omega, by decide, by decide, fun z H8 z0 z1 b8 G8 => ?_⟩
          refine ⟨rfl, _, rfl, ite2 (fun y => ?_) (fun y => ?_)⟩
          · have dW8 := b8.at nW dW7
            have hpos : 0 < us.length := List.length_pos_iff.mpr hne
            have hwz : (wordsV us).length = us.length := List.length_map _
            refine ⟨_, rfl, _, rfl, _, rfl, W, _, rfl, .inl (SqL.of dW8), g, _, _, rfl, G8, by omega, by rw [hwz]; omega, by rw [hwz]; exact Nat.lt_of_le_of_lt (show ((us.length : Nat) : Int).natAbs ≤ 9 by omega) (by decide), fun x H9 x0 x1 b9 G9 => ?_⟩
            rw [hwz] at x1
            have hxl : x.toNat < us.length := by omega
            have hxu : us[x.toNat]? = some us[x.toNat] := List.getElem?_eq_getElem hxl
            have hxm := hu _ (List.getElem_mem hxl)
            generalize us[x.toNat] = u at hxu hxm
            have dW9 := b9.at nW dW8
            refine ⟨W, _, x, V.str (S u), rfl, rfl, SqL.of dW9, at_of (j := x.toNat) (by omega) (words_at hxu), ?_⟩
            refine ⟨_, rfl, _, rfl, u, js, rfl, by omega, fun pl H10 hpl s10 d10 => ?_⟩
            have B10 : But g H H10 := B7.trans (b8.trans (b9.trans (But.same s10)))
            have G10 := G9.same s10
            refine ⟨_, rfl, (by show 0 ≤ sizeLine; decide), ?_⟩
            intro e1 hn_e1
            generalize hX_e1 : L2.upd _ e1 _ = H11
            have s_e1 := alloc_same hX_e1 hn_e1
            have d_e1 := alloc_at hX_e1
            have dp11 := s_e1 _ _ d10
            have dW11 := s_e1 _ _ (s10 _ _ dW9)
            refine ⟨.list (placesD (openL u js)), .list (placesD []), .lst (SqL.of dp11) (places_dp _), .lst (SqL.of d_e1) .nil, places_plain _, rfl, places_depthL _, _, rfl, ?_⟩
            rw [places_eqv2]
            refine ite2 (fun q => ?_) (fun q => ?_)
            · have hop : 0 < (openL u js).length := by
                cases ho : openL u js with
                | nil => rw [ho] at q; simp at q
                | cons _ _ => simp
              have hpz : (placesV (openL u js)).length = (openL u js).length := List.length_map _
              have hol := openL_len u js
              refine ⟨_, rfl, _, rfl, _, rfl, _, rfl, pl, _, rfl, .inl (SqL.of dp11), g, _, _, rfl, G10.same s_e1, by omega, by rw [hpz]; omega, by rw [hpz]; exact Nat.lt_of_le_of_lt (show (((openL u js).length : Nat) : Int).natAbs ≤ 9 by omega) (by decide), fun t H12 t0 t1 b12 G12 => ?_⟩
              rw [hpz] at t1
              have htl : t.toNat < (openL u js).length := by omega
              have hto : (openL u js)[t.toNat]? = some (openL u js)[t.toNat] := List.getElem?_eq_getElem htl
              generalize (openL u js)[t.toNat] = pp at hto
              obtain ⟨c, hc, hj⟩ := mem_openL (List.mem_of_getElem? hto)
              have hpl2 : pp < u.length := (List.getElem?_eq_some_iff.mp hc).1
              have npl : pl ≠ g := G9.ne hpl
              refine ⟨pl, _, t, V.int (pp : Nat), rfl, rfl, SqL.of (b12.at npl dp11), at_of (j := t.toNat) (by omega) (by rw [List.getElem?_map, hto]; rfl), u, pp, rfl, by omega, hpl2, ?_⟩
              exact hN _ _ ⟨swapL u pp, _, _, rfl, wordB_of fun c hc => wordB_mem hxm.1 (swapL_mem hc), by rw [swapL_len hpl2]; exact hxm.2, b12.at nW dW11, B10.trans ((But.same s_e1).trans b12), G12.mono (by omega)⟩
            · exact hN _ _ ⟨u, _, _, rfl, hxm.1, hxm.2, dW11, B10.trans (But.same s_e1), (G10.same s_e1).mono (by omega)⟩
          · exact hN _ _ ⟨wv, _, _, rfl, hwb, by omega, b8.at nW dW7, B7.trans b8, G8.mono (by omega)⟩
    rintro σ H4 ⟨us, w3, w4, w5, rfl, hul, hu, dW, b4, G4⟩
    have hul9 : us.length ≤ 9 := by omega
    have hub : ∀ w ∈ us, w.length ≤ 100 := fun w hw => by have := (hu w hw).2; omega
    have huw : ∀ w ∈ us, wordB w = true := fun w hw => (hu w hw).1
    refine ⟨_, rfl, _, rfl, W, us, js, rfl, dW, by omega, hub, by omega, fun p as H5 hp s5 d5 L5 => ?_⟩
    refine ⟨_, rfl, W, _, rfl, .inl (SqL.of (s5 _ _ dW)), fun hd hhd => ?_⟩
    generalize hX_6 : L2.upd H5 hd _ = H6
    have s6 : Same H5 H6 := alloc_same hX_6 hhd
    have d6 : H6 hd = some (.lst (wordsV us)) := alloc_at hX_6
    have dW6 := s6 _ _ (s5 _ _ dW)
    have dp6 := s6 _ _ d5
    have L56 := L5.same s6
    refine ⟨_, _, rfl, ?_⟩
    refine ⟨_, rfl, _, rfl, hd, us, js, rfl, d6, by omega, hub, by omega, huw, hjj, fun q bs H7 hq s7 d7 L7 => ?_⟩
    have eqq : PyData.eqv (.list (wordsD us)) (.list (wordsD us)) = true := (words_eqv us us).trans (decide_eq_true rfl)
    refine ⟨_, rfl, _, _, _, _, _, rfl, ClsV.ty "list", .base (.lst d7), kit_ty (by decide +kernel), true, rfl, iteF ?_⟩
    refine ⟨_, rfl, _, rfl, V.ref q, V.ref p, _, rfl, L7.rp d7 (by omega), (L56.same s7).rp (s7 _ _ dp6) (by omega), true, rfl, iteF ?_⟩
    refine ⟨_, rfl, _, rfl, .list (wordsD us), .list (wordsD us), .lst (SqL.of (s7 _ _ d6)) (words_dp _), .lst (SqL.of (s7 _ _ dW6)) (words_dp _), words_plainL _, words_plainL _, words_depthL _, _, rfl, ?_⟩
    rw [eqq]
    refine iteF ?_
    show tNext _ _ _
    have hbq : ∀ c ∈ bs, c ≠ q ∧ H6 c = none ∧ ∃ zs, H7 c = some (.lst zs) ∧ zs.length ≤ 300 := fun c hc => by
      obtain ⟨j, hj, ej⟩ := List.mem_iff_getElem.mp hc
      have hjc : bs[j]? = some c := by rw [List.getElem?_eq_getElem hj, ej]
      have hjg : j < (groupsL us js).length := by rw [← L7.len]; exact hj
      obtain ⟨c1, c2⟩ := L7.at' j c _ hjc (List.getElem?_eq_getElem hjg)
      have hrow := groups_row (List.getElem_mem hjg)
      refine ⟨fun e => ?_, c1, _, c2, by rw [List.length_map]; omega⟩
      rw [e, d7] at c2
      have e2 : bs.map V.ref = placesV (groupsL us js)[j] := by injection (Option.some.inj c2)
      cases bs with
      | nil => cases hc
      | cons x r =>
        cases hg : (groupsL us js)[j] with
        | nil => rw [hg] at e2; cases e2
        | cons y z =>
          rw [hg] at e2
          have e3 : V.ref x :: r.map V.ref = V.int (y : Int) :: placesV z := e2
          injection e3 with e4 _
          cases e4
    refine ⟨_, rfl, q, rfl, ⟨_, SqL.of d7⟩, ?_⟩
    refine for_list (K := K) (a := q) (xs := bs.map V.ref) (fun t σ H' => ∃ w9 : Option V, σ = [some (.ref g), some (.str (S js)), some (.ref W), w3, w4, w5, some (.ref p), some (.ref hd), some (.ref q), w9] ∧ Same H6 H' ∧ H' q = some (.lst (bs.map V.ref)) ∧ ∀ c ∈ bs, ∃ zs, H' c = some (.lst zs) ∧ zs.length ≤ 300 + t)
      ⟨_, rfl, s7, d7, fun c hc => (hbq c hc).2.2⟩ (fun t σ H' _ ⟨_, _, _, e, _⟩ => SqL.of e) ?_ ?_
    · rintro t y σ H8 hy ⟨w9, rfl, s8, d8, z8⟩
      rw [List.getElem?_map] at hy
      obtain ⟨c, hc, rfl⟩ := Option.map_eq_some_iff.mp hy
      have htl : t < bs.length := (List.getElem?_eq_some_iff.mp hc).1
      have hcm := List.mem_of_getElem? hc
      obtain ⟨zs, ez, hz⟩ := z8 c hcm
      obtain ⟨n1, n2, _⟩ := hbq c hcm
      have hbl : bs.length ≤ 9 := by rw [L7.len]; have := groups_len us js; omega
      refine ⟨_, rfl, .inl ⟨rfl, _, SqL.of ez⟩, c, _, _, rfl, rfl, ez, small_line (by omega), ?_⟩
      refine ⟨_, rfl, Same.own s8 n2, by rw [upd_ne n1.symm]; exact d8, fun c' hc' => ?_⟩
      by_cases e : c' = c
      · subst e; exact ⟨_, upd_same, by rw [List.length_append]; simp; omega⟩
      · obtain ⟨zs', ez', hz'⟩ := z8 c' hc'
        exact ⟨zs', by rw [upd_ne e]; exact ez', by omega⟩
    rintro σ H8 ⟨w9, rfl, s8, d8, _⟩
    refine ⟨_, rfl, .inl ⟨rfl, _, SqL.of d8⟩, (by show 0 ≤ sizeLine; decide), ?_⟩
    intro e1 hn_e1
    generalize hX_e1 : L2.upd _ e1 _ = H9
    have s_e1 := alloc_same hX_e1 hn_e1
    have d_e1 := alloc_at hX_e1
    have hbl : bs.length ≤ 9 := by rw [L7.len]; have := groups_len us js; omega
    refine ⟨q, _, _, rfl, rfl, s_e1 _ _ d8, by rw [List.length_map]; exact small_line (by omega), ?_⟩
    have s10 : Same H6 (L2.upd H9 q (.lst (bs.map V.ref ++ [V.ref e1]))) := Same.own (s8.trans s_e1) hq
    generalize L2.upd H9 q (.lst (bs.map V.ref ++ [V.ref e1])) = H10 at s10 ⊢
    show tNext _ _ _
    refine ⟨_, rfl, _, rfl, rfl, rfl, W, us, js, rfl, s10 _ _ dW6, by omega, hub, by omega, huw, hjj, fun q2 cs H11 hq2 s11 d11 L11 => ?_⟩
    have s1011 := s10.trans s11
    refine ⟨_, rfl, V.ref q2, V.ref p, _, rfl, L11.rp d11 (by omega), (L56.same s1011).rp (s1011 _ _ dp6) (by omega), _, rfl, iteT ?_⟩
    refine ⟨_, rfl, _, rfl, .list (wordsD us), .list (wordsD us), .lst (SqL.of (s1011 _ _ d6)) (words_dp _), .lst (SqL.of (s1011 _ _ dW6)) (words_dp _), words_plainL _, words_plainL _, words_depthL _, ?_⟩
    rw [eqq]
    have S4 : Same H4 H11 := s5.trans (s6.trans s1011)
    exact k _ (b4.trans (But.same S4)) ((G4.same S4).mono (by omega))
/-! _law_right -/
def sp__law_right (K : PySem.W.Frag) : Sp := fun vs H Q _ => ∃ (g : Addr) (b : Nat), vs = [.ref g] ∧ GenAt H g b ∧ b ≤ 500000000 ∧ ∀ H', But g H H' → Q (.bl true) H'
theorem ok__law_right (T : Txt K mg) : FnC P w K mg base CX0 9 T.f__law_right T.fd__law_right P__law_right (sp__law_right K) := by
  have nd : N__law_right.Nodup := sc__law_right.nd
  refine okC T.F__law_right sc__law_right (fun vs H Q E h => ?_) (fun cdv A outer s H vs Q E hr hc h => ?_)
  · obtain ⟨g, b, rfl, _⟩ := h
    rfl
  · obtain ⟨g, b, rfl, G, hb, k⟩ := h
    refine ⟨_, (pss_cons (ps_for PassesOwn.never rfl (pi_list (pe_lst (pa_cons pe_int (pa_cons pe_int (pa_cons pe_int pa_nil))))) (pg_name (i := 1) nd rfl (Or.inl rfl))
      (pss_cons (ps_asg (pe_call (ok__law_drawn T) (hr.mono (by decide)) rfl T.m__law_drawn T.F__law_drawn.kp T.b__law_drawn .nil pass0 (pa_cons (pv 0) (pa_cons (pv 1) pa_nil))) (pg_tup (n := 2) rfl (pgs_cons (by exact (pg_name (i := 2) nd rfl (Or.inl rfl))) (pgs_cons (by exact (pg_name (i := 3) nd rfl (Or.inl rfl))) pgs_nil))))
      (pss_one (ps_if (PW.pt (pw_or (pt_not (pt_val (pe_callC (ok__law_word_right T) (hr.mono (by decide)) hc rfl T.m__law_word_right T.F__law_word_right.kp T.b__law_word_right .nil pass0 (pa_cons (pv 2) (pa_cons (pv 3) pa_nil))))) (pw_or1 (pt_not (pt_val (pe_callC (ok__law_word_right T) (hr.mono (by decide)) hc rfl T.m__law_word_right T.F__law_word_right.kp T.b__law_word_right .nil pass0 (pa_cons (pv 2) (pa_cons (pe_slice sl_str (pv 3) po_none (po_some pe_int)) pa_nil)))))))) (pss_one (ps_ret pe_bl)) pss_nil))))
      (pss_cons (ps_asg (pe_call (ok__law_drawn T) (hr.mono (by decide)) rfl T.m__law_drawn T.F__law_drawn.kp T.b__law_drawn .nil pass0 (pa_cons (pv 0) (pa_cons pe_int pa_nil))) (pg_tup (n := 2) rfl (pgs_cons (by exact (pg_name (i := 4) nd rfl (Or.inl rfl))) (pgs_cons (by exact (pg_name (i := 5) nd rfl (Or.inl rfl))) pgs_nil))))
      (pss_cons (ps_if (pt_not (pt_val (pe_callC (ok__law_same T) (hr.mono (by decide)) hc rfl T.m__law_same T.F__law_same.kp T.b__law_same .nil pass0 (pa_cons (pe_callN0 (ok_is_alone T) (hr.mono (by decide)) rfl T.m_is_alone T.F_is_alone.kp (kb_is_alone__0_word_joints T) pass0 (pk_cons (pv 4) (pk_cons (pv 5) pk_nil))) (pa_cons (pe_cmpR op_eq (pe_callB call_len_seq (by rfl) T.z_len (by decide +kernel) (pa_cons (pe_call (ok__law_walk T) (hr.mono (by decide)) rfl T.m__law_walk T.F__law_walk.kp T.b__law_walk .nil pass0 (pa_cons (pv 4) (pa_cons (pv 5) pa_nil))) pa_nil)) pe_int (nomark _)) pa_nil))))) (pss_one (ps_ret pe_bl)) pss_nil)
      (pss_one (ps_ret (pe_and (pe_callC (ok__law_list_right T) (hr.mono (by decide)) hc rfl T.m__law_list_right T.F__law_list_right.kp T.b__law_list_right .nil pass0 (pa_cons (pv 0) pa_nil)) (pe_and (pe_callC (ok__law_list_right T) (hr.mono (by decide)) hc rfl T.m__law_list_right T.F__law_list_right.kp T.b__law_list_right .nil pass0 (pa_cons (pv 0) pa_nil)) (pe_one (pe_callC (ok__law_far_list_right T) (hr.mono (by decide)) hc rfl T.m__law_far_list_right T.F__law_far_list_right.kp T.b__law_far_list_right .nil pass0 (pa_cons (pv 0) pa_nil)))))))))), ?_⟩
    refine ⟨(by show 3 ≤ sizeLine; decide), ?_⟩
    intro L hn_L
    generalize hX_L : L2.upd _ L _ = H1
    have s_L := alloc_same hX_L hn_L
    have d_L := alloc_at hX_L
    refine ⟨L, rfl, ⟨_, SqL.of d_L⟩, ?_⟩
    have nL := G.ne hn_L
    refine for_list (K := K) (a := L) (xs := [V.int 8, V.int 4, V.int 60]) (fun i σ H' => ∃ w1 w2 w3 : Option V, σ = [some (.ref g), w1, w2, w3, none, none] ∧ But g H H' ∧ H' L = some (.lst [V.int 8, V.int 4, V.int 60]) ∧ GenAt H' g (b + 3000 * i)) ⟨_, _, _, rfl, But.same s_L, d_L, (G.same s_L).mono (by omega)⟩ (fun i σ H' _ ⟨_, _, _, _, _, e, _⟩ => SqL.of e) ?_ ?_
    · rintro i y σ H2 hy ⟨w1, w2, w3, rfl, b2, dL, G2⟩
      obtain ⟨mm, rfl, hm, hi⟩ : ∃ mm : Nat, y = V.int (mm : Int) ∧ mm ≤ 60 ∧ i < 3 := by
        match i, hy with
        | 0, hy => cases hy; exact ⟨8, rfl, by decide, by decide⟩
        | 1, hy => cases hy; exact ⟨4, rfl, by decide, by decide⟩
        | 2, hy => cases hy; exact ⟨60, rfl, by decide, by decide⟩
        | _ + 3, hy => cases hy
      refine ⟨_, rfl, _, rfl, g, mm, _, rfl, G2, by omega, hm, fun T0 w js H3 hT b3 G3 dT hwl hwb hjl hjj => ?_⟩
      refine ⟨T0, _, rfl, SqT.of dT, rfl, _, _, rfl, _, _, rfl, rfl, ?_⟩
      refine ⟨_, rfl, _, rfl, w, js, rfl, by omega, hwb, by omega, hjj, fun H4 s4 => ⟨true, rfl, iteF ?_⟩⟩
      refine ⟨_, rfl, _, rfl, _, rfl, _, rfl, (by rw [len_S]; exact small_le (by omega)), ?_⟩
      rw [show (some (1 : Int)) = some ((1 : Nat) : Int) from rfl, cutS_take]
      have hj1 : jointsB (js.take 1) = true := joints_take hjj
      refine ⟨w, js.take 1, rfl, by omega, hwb, by rw [List.length_take]; omega, hj1, fun H5 s5 => ⟨true, rfl, iteF ?_⟩⟩
      have s45 := s4.trans s5
      exact ⟨_, _, _, rfl, b2.trans (b3.trans (But.same s45)), s45 _ _ (b3.at nL dL), (G3.same s45).mono (by omega)⟩
    rintro σ H2 ⟨w1, w2, w3, rfl, b2, dL, G2⟩
    refine ⟨_, rfl, g, 6, _, rfl, G2, by simp; omega, by decide, fun T0 w js H3 hT b3 G3 dT hwl hwb hjl hjj => ?_⟩
    refine ⟨T0, _, rfl, SqT.of dT, rfl, _, _, rfl, _, _, rfl, rfl, ?_⟩
    refine ⟨_, rfl, _, rfl, rfl, rfl, w, js, rfl, by omega, hwb, by omega, hjj, fun bb H4 hbb s4 => ?_⟩
    refine ⟨_, rfl, _, rfl, w, js, rfl, by omega, fun p ws H5 hp s5 d5 hl5 nd5 m5 => ?_⟩
    refine ⟨p, _, rfl, .inl (SqL.of d5), rfl, ?_⟩
    have eb : decide (V.int ((wordsV ws).length : Nat) = V.int 1) = bb := by
      rw [Bool.eq_iff_iff, hbb, ← lone_reach nd5 m5, decide_eq_true_iff]
      have : (wordsV ws).length = ws.length := List.length_map _
      constructor
      · intro h
        injection h with h
        omega
      · intro h
        rw [this, h]; rfl
    rw [eb]
    refine ⟨V.bl bb, V.bl bb, _, rfl, .bl bb, .bl bb, true, rfl, iteF ?_⟩
    show tNext _ _ _
    have s45 := s4.trans s5
    have B5 : But g H H5 := b2.trans (b3.trans (But.same s45))
    have G5 := G3.same s45
    refine ⟨_, rfl, g, _, rfl, G5, by simp; omega, fun H6 b6 G6 => ⟨_, rfl, iteT ?_⟩⟩
    refine ⟨_, rfl, g, _, rfl, G6, by simp; omega, fun H7 b7 G7 => ⟨_, rfl, iteT ?_⟩⟩
    exact ⟨_, rfl, g, _, rfl, G7, by simp; omega, fun H8 b8 => k _ (B5.trans (b6.trans (b7.trans b8)))⟩
/-! law -/
def sp_law (K : PySem.W.Frag) : Sp := fun vs H Q _ => ∃ (a : Addr) (ns : List Int), vs = [.ref a] ∧ SqL K H a (ns.map V.int) ∧ ns.length ≤ 63 ∧ ∀ H', Q (.bl true) H'
theorem ok_law (T : Txt K mg) : FnC P w K mg base CX0 10 T.f_law T.fd_law P_law (sp_law K) := by
  have nd : N_law.Nodup := sc_law.nd
  refine okC T.F_law sc_law (fun vs H Q E h => ?_) (fun cdv A outer s H vs Q E hr hc h => ?_)
  · obtain ⟨a, ns, rfl, _⟩ := h
    rfl
  · obtain ⟨a, ns, rfl, hS, hlen, k⟩ := h
    refine ⟨_, (pss_cons (ps_for PassesOwn.never rfl (pi_range1 rfl T.z_range (pa_cons pe_int pa_nil)) (pg_name (i := 1) nd rfl (Or.inl rfl))
      (pss_one (ps_if (pt_not (pt_val (pe_callC (ok__law_right T) (hr.mono (by decide)) hc rfl T.m__law_right T.F__law_right.kp T.b__law_right .nil pass0 (pa_cons (pe_call (ok__law_generator T) (hr.mono (by decide)) rfl T.m__law_generator T.F__law_generator.kp T.b__law_generator .nil pass0 (pa_cons (pv 0) (pa_cons (pv 1) pa_nil))) pa_nil)))) (pss_one (ps_ret pe_bl)) pss_nil)))
      (pss_cons (ps_set (i := 2) nd rfl (Or.inl rfl) (pe_lst (pa_cons (pe_call (ok_one_deed T) (hr.mono (by decide)) rfl T.m_one_deed T.F_one_deed.kp T.b_one_deed .nil pass0 (pa_cons pe_str (pa_cons pe_str pa_nil))) (pa_cons (pe_call (ok_one_deed T) (hr.mono (by decide)) rfl T.m_one_deed T.F_one_deed.kp T.b_one_deed .nil pass0 (pa_cons pe_str (pa_cons pe_str pa_nil))) (pa_cons (pe_call (ok_one_deed T) (hr.mono (by decide)) rfl T.m_one_deed T.F_one_deed.kp T.b_one_deed .nil pass0 (pa_cons pe_str (pa_cons pe_str pa_nil))) (pa_cons (pe_call (ok_one_deed T) (hr.mono (by decide)) rfl T.m_one_deed T.F_one_deed.kp T.b_one_deed .nil pass0 (pa_cons pe_str (pa_cons pe_str pa_nil))) (pa_cons (pe_call (ok_one_deed T) (hr.mono (by decide)) rfl T.m_one_deed T.F_one_deed.kp T.b_one_deed .nil pass0 (pa_cons pe_str (pa_cons pe_str pa_nil))) pa_nil)))))))
      (pss_cons (ps_if (PW.pt (pw_or (pt_cmpR (op_neP hr.units) (pv 2) (pe_lst (pa_cons (pe_lst (pa_cons pe_str (pa_cons pe_str pa_nil))) (pa_cons (pe_lst (pa_cons pe_str pa_nil)) (pa_cons (pe_lst pa_nil) (pa_cons (pe_lst pa_nil) (pa_cons (pe_lst (pa_cons pe_str pa_nil)) pa_nil)))))) (nomark _)) (pw_or1 (pt_cmpR (op_neP hr.units) (pe_call (ok_classes_of T) (hr.mono (by decide)) rfl T.m_classes_of T.F_classes_of.kp T.b_classes_of .nil pass0 (pa_cons (pe_lst pa_nil) (pa_cons pe_str pa_nil))) (pe_lst pa_nil) (nomark _))))) (pss_one (ps_ret pe_bl)) pss_nil)
      (pss_cons (ps_if (pt_cmpR (op_neP hr.units) (pe_call (ok_classes_of T) (hr.mono (by decide)) rfl T.m_classes_of T.F_classes_of.kp T.b_classes_of .nil pass0 (pa_cons (pe_lst (pa_cons pe_str (pa_cons pe_str (pa_cons pe_str (pa_cons pe_str (pa_cons pe_str pa_nil)))))) (pa_cons pe_str pa_nil))) (pe_lst (pa_cons (pe_lst (pa_cons pe_int (pa_cons pe_int (pa_cons pe_int pa_nil)))) (pa_cons (pe_lst (pa_cons pe_int (pa_cons pe_int pa_nil))) pa_nil))) (nomark _)) (pss_one (ps_ret pe_bl)) pss_nil)
      (pss_cons (ps_if (pt_cmpR (op_neP hr.units) (pe_call (ok_classes_of T) (hr.mono (by decide)) rfl T.m_classes_of T.F_classes_of.kp T.b_classes_of .nil pass0 (pa_cons (pe_lst (pa_cons pe_str (pa_cons pe_str (pa_cons pe_str pa_nil)))) (pa_cons pe_str pa_nil))) (pe_lst (pa_cons (pe_lst (pa_cons pe_int (pa_cons pe_int pa_nil))) (pa_cons (pe_lst (pa_cons pe_int pa_nil)) pa_nil))) (nomark _)) (pss_one (ps_ret pe_bl)) pss_nil)
      (pss_cons (ps_if (pt_cmpR (op_neP hr.units) (pe_call (ok_classes_of T) (hr.mono (by decide)) rfl T.m_classes_of T.F_classes_of.kp T.b_classes_of .nil pass0 (pa_cons (pe_callTy (call_list_str rfl) (by rfl) T.z_list (by decide +kernel) (pa_cons pe_str pa_nil)) (pa_cons pe_str pa_nil))) (pe_lc (own := [("_law_number", 4)]) (hc := rfl) (hN := nd) (pi_range1 rfl T.z_range (pa_cons pe_int pa_nil)) (blkOk_by (N := N_law) (sc := defScope s_law) (by decide +kernel)) (fun _ _ _ _ _ => by exact (pg_name (i := 4) nd rfl (Or.inl rfl))) (fun _ _ _ _ _ => by exact pts_nil) (fun _ _ _ _ _ => by exact (pe_lst (pa_cons (pv 4) pa_nil)))) (nomark _)) (pss_one (ps_ret pe_bl)) pss_nil)
      (pss_cons (ps_if (pt_cmpR (op_neP hr.units) (pe_call (ok_classes_of T) (hr.mono (by decide)) rfl T.m_classes_of T.F_classes_of.kp T.b_classes_of .nil pass0 (pa_cons (pe_lst (pa_cons (pe_op op_add_str pe_str (pe_op op_mulS pe_str pe_int)) (pa_cons (pe_op op_add_str (pe_op op_mulS pe_str pe_int) pe_str) pa_nil))) (pa_cons pe_str pa_nil))) (pe_lst (pa_cons (pe_lst (pa_cons pe_int pa_nil)) (pa_cons (pe_lst (pa_cons pe_int pa_nil)) pa_nil))) (nomark _)) (pss_one (ps_ret pe_bl)) pss_nil)
      (pss_cons (ps_set (i := 3) nd rfl (Or.inl rfl) (pe_lst (pa_cons (pe_call (ok_is_alone T) (hr.mono (by decide)) rfl T.m_is_alone T.F_is_alone.kp T.b_is_alone .nil pass0 (pa_cons (pe_op op_add_str (pe_op op_mulS pe_str pe_int) pe_str) (pa_cons pe_str pa_nil))) (pa_cons (pe_call (ok_is_alone T) (hr.mono (by decide)) rfl T.m_is_alone T.F_is_alone.kp T.b_is_alone .nil pass0 (pa_cons (pe_op op_mulS pe_str pe_int) (pa_cons pe_str pa_nil))) (pa_cons (pe_call (ok_is_alone T) (hr.mono (by decide)) rfl T.m_is_alone T.F_is_alone.kp T.b_is_alone .nil pass0 (pa_cons (pe_op op_mulS pe_str pe_int) (pa_cons pe_str pa_nil))) (pa_cons (pe_call (ok_is_alone T) (hr.mono (by decide)) rfl T.m_is_alone T.F_is_alone.kp T.b_is_alone .nil pass0 (pa_cons pe_str (pa_cons pe_str pa_nil))) pa_nil))))))
      (pss_one (ps_ret (pe_and (pe_cmpR (op_eqP hr.units) (pv 3) (pe_lst (pa_cons pe_bl (pa_cons pe_bl (pa_cons pe_bl (pa_cons pe_bl pa_nil))))) (nomark _)) (pe_one (pe_cmpR (op_eqP hr.units) (pe_call (ok_classes_of T) (hr.mono (by decide)) rfl T.m_classes_of T.F_classes_of.kp T.b_classes_of .nil pass0 (pa_cons (pe_op op_rep (pe_lst (pa_cons pe_str pa_nil)) pe_int) (pa_cons pe_str pa_nil))) (pe_lst (pa_cons (pe_listRg rfl rfl T.z_list (prg_1 rfl T.z_range pe_int)) pa_nil)) (nomark _)))))))))))))), ?_⟩
    refine ⟨3, rfl, by decide, by decide, ?_⟩
    refine for_range (lo := 0) (n := 3) (fun i σ H' => ∃ v : Option V, σ = [some (.ref a), v, none, none, none] ∧ SqL K H' a (ns.map V.int)) ⟨none, rfl, hS⟩ ?_ ?_
    · rintro i σ H1 hi ⟨v, rfl, hS1⟩
      refine ⟨_, rfl, _, rfl, a, ns, i, (by rw [Int.zero_add]; rfl), hS1, by omega, fun g H2 hg s2 G => ?_⟩
      refine ⟨g, 1000 * i, rfl, G, by omega, fun H3 b3 => ⟨_, rfl, iteF ?_⟩⟩
      exact ⟨_, rfl, (b3.after s2 hg).seq hS1⟩
    rintro σ H1 ⟨v, rfl, hS1⟩
    refine ⟨([120, 97, 121] : List Nat), ([120, 121] : List Nat), (by rw [show Str.ofString "xay" = S ([120, 97, 121] : List Nat) by decide +kernel, show Str.ofString "xy" = S ([120, 121] : List Nat) by decide +kernel]; rfl), by decide, by decide +kernel, by decide, by decide +kernel, fun o0 ws H11 ho0 s_o0 d_o0 D => ?_⟩
    obtain rfl : ws = ([([97, 121, 120] : List Nat), ([121, 120, 97] : List Nat)] : List (List Nat)) := D.uniq ⟨by decide, fun v => by rw [show deedsL ([120, 97, 121] : List Nat) ([120, 121] : List Nat) = ([([97, 121, 120] : List Nat), ([121, 120, 97] : List Nat)] : List (List Nat)) by decide +kernel] <;> simp, by decide +kernel⟩
    clear D
    refine ⟨([97, 120, 97] : List Nat), ([120] : List Nat), (by rw [show Str.ofString "axa" = S ([97, 120, 97] : List Nat) by decide +kernel, show Str.ofString "x" = S ([120] : List Nat) by decide +kernel]; rfl), by decide, by decide +kernel, by decide, by decide +kernel, fun o1 ws H12 ho1 s_o1 d_o1 D => ?_⟩
    obtain rfl : ws = ([([97, 120, 97] : List Nat)] : List (List Nat)) := D.uniq ⟨by decide, fun v => by rw [show deedsL ([97, 120, 97] : List Nat) ([120] : List Nat) = ([([97, 120, 97] : List Nat)] : List (List Nat)) by decide +kernel] <;> simp, by decide +kernel⟩
    clear D
    refine ⟨([] : List Nat), ([120] : List Nat), (by rw [show Str.ofString "" = S ([] : List Nat) by decide +kernel, show Str.ofString "x" = S ([120] : List Nat) by decide +kernel]; rfl), by decide, by decide +kernel, by decide, by decide +kernel, fun o2 ws H13 ho2 s_o2 d_o2 D => ?_⟩
    obtain rfl : ws = ([] : List (List Nat)) := D.uniq ⟨by decide, fun v => by rw [show deedsL ([] : List Nat) ([120] : List Nat) = ([] : List (List Nat)) by decide +kernel] <;> simp, by decide +kernel⟩
    clear D
    refine ⟨([97, 98] : List Nat), ([120] : List Nat), (by rw [show Str.ofString "ab" = S ([97, 98] : List Nat) by decide +kernel, show Str.ofString "x" = S ([120] : List Nat) by decide +kernel]; rfl), by decide, by decide +kernel, by decide, by decide +kernel, fun o3 ws H14 ho3 s_o3 d_o3 D => ?_⟩
    obtain rfl : ws = ([] : List (List Nat)) := D.uniq ⟨by decide, fun v => by rw [show deedsL ([97, 98] : List Nat) ([120] : List Nat) = ([] : List (List Nat)) by decide +kernel] <;> simp, by decide +kernel⟩
    clear D
    refine ⟨([120, 120] : List Nat), ([120] : List Nat), (by rw [show Str.ofString "xx" = S ([120, 120] : List Nat) by decide +kernel, show Str.ofString "x" = S ([120] : List Nat) by decide +kernel]; rfl), by decide, by decide +kernel, by decide, by decide +kernel, fun o4 ws H15 ho4 s_o4 d_o4 D => ?_⟩
    obtain rfl : ws = ([([120, 120] : List Nat)] : List (List Nat)) := D.uniq ⟨by decide, fun v => by rw [show deedsL ([120, 120] : List Nat) ([120] : List Nat) = ([([120, 120] : List Nat), ([120, 120] : List Nat)] : List (List Nat)) by decide +kernel] <;> simp, by decide +kernel⟩
    clear D
    refine ⟨(by show 5 ≤ sizeLine; decide), ?_⟩
    intro told hn_told
    generalize hX_told : L2.upd _ told _ = H16
    have s_told := alloc_same hX_told hn_told
    have d_told := alloc_at hX_told
    show tNext _ _ _
    refine ⟨_, rfl, ?_⟩
    refine ⟨(by show 2 ≤ sizeLine; decide), ?_⟩
    intro l0 hn_l0
    generalize hX_l0 : L2.upd _ l0 _ = H17
    have s_l0 := alloc_same hX_l0 hn_l0
    have d_l0 := alloc_at hX_l0
    refine ⟨(by show 1 ≤ sizeLine; decide), ?_⟩
    intro l1 hn_l1
    generalize hX_l1 : L2.upd _ l1 _ = H18
    have s_l1 := alloc_same hX_l1 hn_l1
    have d_l1 := alloc_at hX_l1
    refine ⟨(by show 0 ≤ sizeLine; decide), ?_⟩
    intro l2 hn_l2
    generalize hX_l2 : L2.upd _ l2 _ = H19
    have s_l2 := alloc_same hX_l2 hn_l2
    have d_l2 := alloc_at hX_l2
    refine ⟨(by show 0 ≤ sizeLine; decide), ?_⟩
    intro l3 hn_l3
    generalize hX_l3 : L2.upd _ l3 _ = H20
    have s_l3 := alloc_same hX_l3 hn_l3
    have d_l3 := alloc_at hX_l3
    refine ⟨(by show 1 ≤ sizeLine; decide), ?_⟩
    intro l4 hn_l4
    generalize hX_l4 : L2.upd _ l4 _ = H21
    have s_l4 := alloc_same hX_l4 hn_l4
    have d_l4 := alloc_at hX_l4
    refine ⟨(by show 5 ≤ sizeLine; decide), ?_⟩
    intro lo hn_lo
    generalize hX_lo : L2.upd _ lo _ = H22
    have s_lo := alloc_same hX_lo hn_lo
    have d_lo := alloc_at hX_lo
    refine ⟨.list [.list (wordsD ([([97, 121, 120] : List Nat), ([121, 120, 97] : List Nat)] : List (List Nat))), .list (wordsD ([([97, 120, 97] : List Nat)] : List (List Nat))), .list (wordsD ([] : List (List Nat))), .list (wordsD ([] : List (List Nat))), .list (wordsD ([([120, 120] : List Nat)] : List (List Nat)))], .list [.list [.str (Str.ofString "ayx"), .str (Str.ofString "yxa")], .list [.str (Str.ofString "axa")], .list [], .list [], .list [.str (Str.ofString "xx")]], .lst (SqL.of ((s_l0.trans (s_l1.trans (s_l2.trans (s_l3.trans (s_l4.trans s_lo))))) _ _ d_told)) (.cons (.lst (SqL.of ((s_o1.trans (s_o2.trans (s_o3.trans (s_o4.trans (s_told.trans (s_l0.trans (s_l1.trans (s_l2.trans (s_l3.trans (s_l4.trans s_lo)))))))))) _ _ d_o0)) (words_dp _)) (.cons (.lst (SqL.of ((s_o2.trans (s_o3.trans (s_o4.trans (s_told.trans (s_l0.trans (s_l1.trans (s_l2.trans (s_l3.trans (s_l4.trans s_lo))))))))) _ _ d_o1)) (words_dp _)) (.cons (.lst (SqL.of ((s_o3.trans (s_o4.trans (s_told.trans (s_l0.trans (s_l1.trans (s_l2.trans (s_l3.trans (s_l4.trans s_lo)))))))) _ _ d_o2)) (words_dp _)) (.cons (.lst (SqL.of ((s_o4.trans (s_told.trans (s_l0.trans (s_l1.trans (s_l2.trans (s_l3.trans (s_l4.trans s_lo))))))) _ _ d_o3)) (words_dp _)) (.cons (.lst (SqL.of ((s_told.trans (s_l0.trans (s_l1.trans (s_l2.trans (s_l3.trans (s_l4.trans s_lo)))))) _ _ d_o4)) (words_dp _)) .nil))))), .lst (SqL.of d_lo) (.cons (.lst (SqL.of ((s_l1.trans (s_l2.trans (s_l3.trans (s_l4.trans s_lo)))) _ _ d_l0)) (.cons (.str _) (.cons (.str _) .nil))) (.cons (.lst (SqL.of ((s_l2.trans (s_l3.trans (s_l4.trans s_lo))) _ _ d_l1)) (.cons (.str _) .nil)) (.cons (.lst (SqL.of ((s_l3.trans (s_l4.trans s_lo)) _ _ d_l2)) .nil) (.cons (.lst (SqL.of ((s_l4.trans s_lo) _ _ d_l3)) .nil) (.cons (.lst (SqL.of (s_lo _ _ d_l4)) (.cons (.str _) .nil)) .nil))))), by decide +kernel, by decide +kernel, by decide +kernel, _, rfl, ?_⟩
    rw [show (!PyData.eqv (.list [.list (wordsD ([([97, 121, 120] : List Nat), ([121, 120, 97] : List Nat)] : List (List Nat))), .list (wordsD ([([97, 120, 97] : List Nat)] : List (List Nat))), .list (wordsD ([] : List (List Nat))), .list (wordsD ([] : List (List Nat))), .list (wordsD ([([120, 120] : List Nat)] : List (List Nat)))]) (.list [.list [.str (Str.ofString "ayx"), .str (Str.ofString "yxa")], .list [.str (Str.ofString "axa")], .list [], .list [], .list [.str (Str.ofString "xx")]])) = false by decide +kernel]
    refine iteF ?_
    refine ⟨(by show 0 ≤ sizeLine; decide), ?_⟩
    intro c0 hn_c0
    generalize hX_c0 : L2.upd _ c0 _ = H23
    have s_c0 := alloc_same hX_c0 hn_c0
    have d_c0 := alloc_at hX_c0
    refine ⟨_, ([] : List (List Nat)), ([120] : List Nat), (by rw [show Str.ofString "x" = S ([120] : List Nat) by decide +kernel]; rfl), d_c0, by decide +kernel, by decide +kernel, by decide +kernel, by decide +kernel, by decide +kernel, fun p_g0 as_g0 H24 h_g0 s_g0 d_g0 L_g0 => ?_⟩
    rw [(groups_C ([] : List (List Nat)) ([120] : List Nat)).trans (show groupsC ([] : List (List Nat)) ([120] : List Nat) = ([] : List (List Nat)) by decide +kernel)] at L_g0
    refine ⟨(by show 0 ≤ sizeLine; decide), ?_⟩
    intro e0 hn_e0
    generalize hX_e0 : L2.upd _ e0 _ = H25
    have s_e0 := alloc_same hX_e0 hn_e0
    have d_e0 := alloc_at hX_e0
    have M_g0 := L_g0.same s_e0
    refine ⟨.list (groupsD []), .list [], .lst (SqL.of (s_e0 _ _ d_g0)) (ListsAt.dps (H := H) M_g0.len fun i b g h1 h2 => (M_g0.at' i b g h1 h2).2), .lst (SqL.of d_e0) .nil, by decide +kernel, by decide +kernel, by decide +kernel, _, rfl, ?_⟩
    rw [show (!PyData.eqv (.list (groupsD [])) (.list [])) = false by decide +kernel]
    refine iteF ?_
    show tNext _ _ _
    refine ⟨(by show 5 ≤ sizeLine; decide), ?_⟩
    intro c1 hn_c1
    generalize hX_c1 : L2.upd _ c1 _ = H26
    have s_c1 := alloc_same hX_c1 hn_c1
    have d_c1 := alloc_at hX_c1
    refine ⟨_, ([([97, 120] : List Nat), ([98, 121] : List Nat), ([120, 97] : List Nat), ([97, 120] : List Nat), ([121, 98] : List Nat)] : List (List Nat)), ([120, 121] : List Nat), (by rw [show Str.ofString "xy" = S ([120, 121] : List Nat) by decide +kernel]; rfl), (d_c1.trans (by rw [show Str.ofString "ax" = S ([97, 120] : List Nat) by decide +kernel, show Str.ofString "by" = S ([98, 121] : List Nat) by decide +kernel, show Str.ofString "xa" = S ([120, 97] : List Nat) by decide +kernel, show Str.ofString "yb" = S ([121, 98] : List Nat) by decide +kernel]; rfl)), by decide +kernel, by decide +kernel, by decide +kernel, by decide +kernel, by decide +kernel, fun p_g1 as_g1 H27 h_g1 s_g1 d_g1 L_g1 => ?_⟩
    rw [(groups_C ([([97, 120] : List Nat), ([98, 121] : List Nat), ([120, 97] : List Nat), ([97, 120] : List Nat), ([121, 98] : List Nat)] : List (List Nat)) ([120, 121] : List Nat)).trans (show groupsC ([([97, 120] : List Nat), ([98, 121] : List Nat), ([120, 97] : List Nat), ([97, 120] : List Nat), ([121, 98] : List Nat)] : List (List Nat)) ([120, 121] : List Nat) = ([[0, 2, 3], [1, 4]] : List (List Nat)) by decide +kernel)] at L_g1
    refine ⟨(by show 3 ≤ sizeLine; decide), ?_⟩
    intro e1_0 hn_e1_0
    generalize hX_e1_0 : L2.upd _ e1_0 _ = H28
    have s_e1_0 := alloc_same hX_e1_0 hn_e1_0
    have d_e1_0 := alloc_at hX_e1_0
    refine ⟨(by show 2 ≤ sizeLine; decide), ?_⟩
    intro e1_1 hn_e1_1
    generalize hX_e1_1 : L2.upd _ e1_1 _ = H29
    have s_e1_1 := alloc_same hX_e1_1 hn_e1_1
    have d_e1_1 := alloc_at hX_e1_1
    refine ⟨(by show 2 ≤ sizeLine; decide), ?_⟩
    intro e1 hn_e1
    generalize hX_e1 : L2.upd _ e1 _ = H30
    have s_e1 := alloc_same hX_e1 hn_e1
    have d_e1 := alloc_at hX_e1
    have M_g1 := L_g1.same (s_e1_0.trans (s_e1_1.trans s_e1))
    refine ⟨.list (groupsD [[0, 2, 3], [1, 4]]), .list [.list [.int 0, .int 2, .int 3], .list [.int 1, .int 4]], .lst (SqL.of ((s_e1_0.trans (s_e1_1.trans s_e1)) _ _ d_g1)) (ListsAt.dps (H := H) M_g1.len fun i b g h1 h2 => (M_g1.at' i b g h1 h2).2), .lst (SqL.of d_e1) (.cons (.lst (SqL.of ((s_e1_1.trans s_e1) _ _ d_e1_0)) (.cons (.int _) (.cons (.int _) (.cons (.int _) .nil)))) (.cons (.lst (SqL.of (s_e1 _ _ d_e1_1)) (.cons (.int _) (.cons (.int _) .nil))) .nil)), by decide +kernel, by decide +kernel, by decide +kernel, _, rfl, ?_⟩
    rw [show (!PyData.eqv (.list (groupsD [[0, 2, 3], [1, 4]])) (.list [.list [.int 0, .int 2, .int 3], .list [.int 1, .int 4]])) = false by decide +kernel]
    refine iteF ?_
    show tNext _ _ _
    refine ⟨(by show 3 ≤ sizeLine; decide), ?_⟩
    intro c2 hn_c2
    generalize hX_c2 : L2.upd _ c2 _ = H31
    have s_c2 := alloc_same hX_c2 hn_c2
    have d_c2 := alloc_at hX_c2
    refine ⟨_, ([([97, 98, 99, 100, 101, 102, 103, 104] : List Nat), ([104, 103, 102, 101, 100, 99, 98, 97] : List Nat), ([97, 98, 99, 100, 101, 102, 103, 103] : List Nat)] : List (List Nat)), ([97, 98, 99, 100, 101, 102, 103, 104] : List Nat), (by rw [show Str.ofString "abcdefgh" = S ([97, 98, 99, 100, 101, 102, 103, 104] : List Nat) by decide +kernel]; rfl), (d_c2.trans (by rw [show Str.ofString "abcdefgh" = S ([97, 98, 99, 100, 101, 102, 103, 104] : List Nat) by decide +kernel, show Str.ofString "hgfedcba" = S ([104, 103, 102, 101, 100, 99, 98, 97] : List Nat) by decide +kernel, show Str.ofString "abcdefgg" = S ([97, 98, 99, 100, 101, 102, 103, 103] : List Nat) by decide +kernel]; rfl)), by decide +kernel, by decide +kernel, by decide +kernel, by decide +kernel, by decide +kernel, fun p_g2 as_g2 H32 h_g2 s_g2 d_g2 L_g2 => ?_⟩
    rw [(groups_C ([([97, 98, 99, 100, 101, 102, 103, 104] : List Nat), ([104, 103, 102, 101, 100, 99, 98, 97] : List Nat), ([97, 98, 99, 100, 101, 102, 103, 103] : List Nat)] : List (List Nat)) ([97, 98, 99, 100, 101, 102, 103, 104] : List Nat)).trans (show groupsC ([([97, 98, 99, 100, 101, 102, 103, 104] : List Nat), ([104, 103, 102, 101, 100, 99, 98, 97] : List Nat), ([97, 98, 99, 100, 101, 102, 103, 103] : List Nat)] : List (List Nat)) ([97, 98, 99, 100, 101, 102, 103, 104] : List Nat) = ([[0, 1], [2]] : List (List Nat)) by decide +kernel)] at L_g2
    refine ⟨(by show 2 ≤ sizeLine; decide), ?_⟩
    intro e2_0 hn_e2_0
    generalize hX_e2_0 : L2.upd _ e2_0 _ = H33
    have s_e2_0 := alloc_same hX_e2_0 hn_e2_0
    have d_e2_0 := alloc_at hX_e2_0
    refine ⟨(by show 1 ≤ sizeLine; decide), ?_⟩
    intro e2_1 hn_e2_1
    generalize hX_e2_1 : L2.upd _ e2_1 _ = H34
    have s_e2_1 := alloc_same hX_e2_1 hn_e2_1
    have d_e2_1 := alloc_at hX_e2_1
    refine ⟨(by show 2 ≤ sizeLine; decide), ?_⟩
    intro e2 hn_e2
    generalize hX_e2 : L2.upd _ e2 _ = H35
    have s_e2 := alloc_same hX_e2 hn_e2
    have d_e2 := alloc_at hX_e2
    have M_g2 := L_g2.same (s_e2_0.trans (s_e2_1.trans s_e2))
    refine ⟨.list (groupsD [[0, 1], [2]]), .list [.list [.int 0, .int 1], .list [.int 2]], .lst (SqL.of ((s_e2_0.trans (s_e2_1.trans s_e2)) _ _ d_g2)) (ListsAt.dps (H := H) M_g2.len fun i b g h1 h2 => (M_g2.at' i b g h1 h2).2), .lst (SqL.of d_e2) (.cons (.lst (SqL.of ((s_e2_1.trans s_e2) _ _ d_e2_0)) (.cons (.int _) (.cons (.int _) .nil))) (.cons (.lst (SqL.of (s_e2 _ _ d_e2_1)) (.cons (.int _) .nil)) .nil)), by decide +kernel, by decide +kernel, by decide +kernel, _, rfl, ?_⟩
    rw [show (!PyData.eqv (.list (groupsD [[0, 1], [2]])) (.list [.list [.int 0, .int 1], .list [.int 2]])) = false by decide +kernel]
    refine iteF ?_
    show tNext _ _ _
    refine ⟨([97, 98, 99, 100, 101, 102, 103, 104, 105, 106, 107, 108] : List Nat), (by rw [show Str.ofString "abcdefghijkl" = S ([97, 98, 99, 100, 101, 102, 103, 104, 105, 106, 107, 108] : List Nat) by decide +kernel]), by decide, ?_⟩
    intro c3 hn_c3
    generalize hX_c3 : L2.upd _ c3 _ = H36
    have s_c3 := alloc_same hX_c3 hn_c3
    have d_c3 := alloc_at hX_c3
    refine ⟨_, ([([97] : List Nat), ([98] : List Nat), ([99] : List Nat), ([100] : List Nat), ([101] : List Nat), ([102] : List Nat), ([103] : List Nat), ([104] : List Nat), ([105] : List Nat), ([106] : List Nat), ([107] : List Nat), ([108] : List Nat)] : List (List Nat)), [], (by rw [show Str.ofString "" = S ([] : List Nat) by decide +kernel]; rfl), d_c3.trans rfl, by decide +kernel, by decide +kernel, by decide +kernel, by decide +kernel, by decide +kernel, fun p_g3 as_g3 H37 h_g3 s_g3 d_g3 L_g3 => ?_⟩
    rw [(groups_C ([([97] : List Nat), ([98] : List Nat), ([99] : List Nat), ([100] : List Nat), ([101] : List Nat), ([102] : List Nat), ([103] : List Nat), ([104] : List Nat), ([105] : List Nat), ([106] : List Nat), ([107] : List Nat), ([108] : List Nat)] : List (List Nat)) []).trans (show groupsC ([([97] : List Nat), ([98] : List Nat), ([99] : List Nat), ([100] : List Nat), ([101] : List Nat), ([102] : List Nat), ([103] : List Nat), ([104] : List Nat), ([105] : List Nat), ([106] : List Nat), ([107] : List Nat), ([108] : List Nat)] : List (List Nat)) [] = ([[0], [1], [2], [3], [4], [5], [6], [7], [8], [9], [10], [11]] : List (List Nat)) by decide +kernel)] at L_g3
    refine ⟨12, rfl, by decide, by decide, fun D hD => ?_⟩
    refine lc_range (lo := 0) (n := 12) (fun i H => ∃ as : List Addr, H D = some (.lst (as.map V.ref)) ∧ as.length = i ∧ But D H37 H ∧ ∀ j b, as[j]? = some b → H b = some (.lst (placesV [j])) ∧ b ≠ D) ⟨[], upd_same, rfl, But.upd, fun j b h => by cases j <;> cases h⟩ ?_ ?_
    · rintro i Hu hi ⟨as, hA, hl, B1, hall⟩
      refine ⟨rfl, ?_⟩
      unfold tYes
      dsimp only
      rw [if_pos rfl]
      refine ⟨_, rfl, by show 1 ≤ sizeLine; decide, ?_⟩
      intro q hn_q
      generalize hX_q : L2.upd _ q _ = Hv
      have s_q := alloc_same hX_q hn_q
      have d_q := alloc_at hX_q
      refine ⟨as.map V.ref, s_q _ _ hA, (by rw [List.length_map, hl]; exact Nat.lt_of_lt_of_le hi (by decide)), as ++ [q], (by rw [upd_same]; simp), by simp; omega, (B1.trans (But.same s_q)).trans But.upd, ?_⟩
      intro j b h
      rw [List.getElem?_append] at h
      split at h
      · obtain ⟨u, n⟩ := hall j b h
        exact ⟨by rw [upd_ne n]; exact s_q _ _ u, n⟩
      · have hj : j = as.length := by
          have := (List.getElem?_eq_some_iff.1 h).1
          simp at this; omega
        subst hj
        rw [Nat.sub_self] at h
        cases h
        have n : q ≠ D := (ne_of_none hA hn_q).symm
        refine ⟨?_, n⟩
        rw [upd_ne n, d_q, hl, Int.zero_add]
        rfl
    rintro H38 ⟨as_D, d_D, hl_D, B_D, hall_D⟩
    have s_D : Same H37 H38 := B_D.after (fun _ _ h => h) hD
    have M_g3 := L_g3.same s_D
    refine ⟨.list (groupsD [[0], [1], [2], [3], [4], [5], [6], [7], [8], [9], [10], [11]]), .list (groupsD ((List.range 12).map fun n => [n])), .lst (SqL.of (s_D _ _ d_g3)) (ListsAt.dps (H := H) M_g3.len fun i b g h1 h2 => (M_g3.at' i b g h1 h2).2), .lst (SqL.of d_D) (ListsAt.dps (H := H) (by rw [hl_D]; rfl) fun i b g h1 h2 => by
        rw [List.getElem?_map, List.getElem?_range (hl_D ▸ (List.getElem?_eq_some_iff.1 h1).1)] at h2
        cases h2
        exact (hall_D i b h1).1), by decide +kernel, by decide +kernel, by decide +kernel, _, rfl, ?_⟩
    rw [show (!PyData.eqv (.list (groupsD [[0], [1], [2], [3], [4], [5], [6], [7], [8], [9], [10], [11]])) (.list (groupsD ((List.range 12).map fun n => [n])))) = false by decide +kernel]
    refine iteF ?_
    show tNext _ _ _
    refine ⟨[121], 11, (by rw [show Str.ofString "y" = S ([121] : List Nat) by decide +kernel]), rfl, by decide, by decide, _, _, rfl, rfl, (by decide +kernel), ?_⟩
    refine ⟨[120], 11, (by rw [show Str.ofString "x" = S ([120] : List Nat) by decide +kernel]), rfl, by decide, by decide, _, _, rfl, rfl, (by decide +kernel), ?_⟩
    refine ⟨(by show 2 ≤ sizeLine; decide), ?_⟩
    intro c4 hn_c4
    generalize hX_c4 : L2.upd _ c4 _ = H39
    have s_c4 := alloc_same hX_c4 hn_c4
    have d_c4 := alloc_at hX_c4
    refine ⟨_, ([([120, 121, 121, 121, 121, 121, 121, 121, 121, 121, 121, 121] : List Nat), ([120, 120, 120, 120, 120, 120, 120, 120, 120, 120, 120, 121] : List Nat)] : List (List Nat)), ([120, 121] : List Nat), (by rw [show Str.ofString "xy" = S ([120, 121] : List Nat) by decide +kernel]; rfl), (d_c4.trans (by rw [show Str.ofString "x" ++ S (List.replicate 11 [121]).flatten = S ([120, 121, 121, 121, 121, 121, 121, 121, 121, 121, 121, 121] : List Nat) by decide +kernel, show S (List.replicate 11 [120]).flatten ++ Str.ofString "y" = S ([120, 120, 120, 120, 120, 120, 120, 120, 120, 120, 120, 121] : List Nat) by decide +kernel]; rfl)), by decide +kernel, by decide +kernel, by decide +kernel, by decide +kernel, by decide +kernel, fun p_g4 as_g4 H40 h_g4 s_g4 d_g4 L_g4 => ?_⟩
    rw [(groups_C ([([120, 121, 121, 121, 121, 121, 121, 121, 121, 121, 121, 121] : List Nat), ([120, 120, 120, 120, 120, 120, 120, 120, 120, 120, 120, 121] : List Nat)] : List (List Nat)) ([120, 121] : List Nat)).trans (show groupsC ([([120, 121, 121, 121, 121, 121, 121, 121, 121, 121, 121, 121] : List Nat), ([120, 120, 120, 120, 120, 120, 120, 120, 120, 120, 120, 121] : List Nat)] : List (List Nat)) ([120, 121] : List Nat) = ([[0], [1]] : List (List Nat)) by decide +kernel)] at L_g4
    refine ⟨(by show 1 ≤ sizeLine; decide), ?_⟩
    intro e4_0 hn_e4_0
    generalize hX_e4_0 : L2.upd _ e4_0 _ = H41
    have s_e4_0 := alloc_same hX_e4_0 hn_e4_0
    have d_e4_0 := alloc_at hX_e4_0
    refine ⟨(by show 1 ≤ sizeLine; decide), ?_⟩
    intro e4_1 hn_e4_1
    generalize hX_e4_1 : L2.upd _ e4_1 _ = H42
    have s_e4_1 := alloc_same hX_e4_1 hn_e4_1
    have d_e4_1 := alloc_at hX_e4_1
    refine ⟨(by show 2 ≤ sizeLine; decide), ?_⟩
    intro e4 hn_e4
    generalize hX_e4 : L2.upd _ e4 _ = H43
    have s_e4 := alloc_same hX_e4 hn_e4
    have d_e4 := alloc_at hX_e4
    have M_g4 := L_g4.same (s_e4_0.trans (s_e4_1.trans s_e4))
    refine ⟨.list (groupsD [[0], [1]]), .list [.list [.int 0], .list [.int 1]], .lst (SqL.of ((s_e4_0.trans (s_e4_1.trans s_e4)) _ _ d_g4)) (ListsAt.dps (H := H) M_g4.len fun i b g h1 h2 => (M_g4.at' i b g h1 h2).2), .lst (SqL.of d_e4) (.cons (.lst (SqL.of ((s_e4_1.trans s_e4) _ _ d_e4_0)) (.cons (.int _) .nil)) (.cons (.lst (SqL.of (s_e4 _ _ d_e4_1)) (.cons (.int _) .nil)) .nil)), by decide +kernel, by decide +kernel, by decide +kernel, _, rfl, ?_⟩
    rw [show (!PyData.eqv (.list (groupsD [[0], [1]])) (.list [.list [.int 0], .list [.int 1]])) = false by decide +kernel]
    refine iteF ?_
    show tNext _ _ _
    refine ⟨([97, 120] : List Nat), 100, (by rw [show Str.ofString "ax" = S ([97, 120] : List Nat) by decide +kernel]), rfl, by decide, by decide, _, _, rfl, rfl, (by decide +kernel), ?_⟩
    refine ⟨(List.replicate 100 ([97, 120] : List Nat)).flatten ++ ([97] : List Nat), ([120] : List Nat), (by rw [show S (List.replicate 100 ([97, 120] : List Nat)).flatten ++ Str.ofString "a" = S ((List.replicate 100 ([97, 120] : List Nat)).flatten ++ ([97] : List Nat)) by decide +kernel, show Str.ofString "x" = S ([120] : List Nat) by decide +kernel]; rfl), by decide +kernel, by decide +kernel, by decide +kernel, by decide +kernel, fun b0 H44 hb0 s_f0 => ?_⟩
    obtain rfl : b0 = true := hb0.2 ((lone_kinds (by decide +kernel) (by decide)).2 (by decide +kernel))
    clear hb0
    refine ⟨([97, 120] : List Nat), 100, (by rw [show Str.ofString "ax" = S ([97, 120] : List Nat) by decide +kernel]), rfl, by decide, by decide, ?_⟩
    refine ⟨(List.replicate 100 ([97, 120] : List Nat)).flatten, ([120] : List Nat), (by rw [show Str.ofString "x" = S ([120] : List Nat) by decide +kernel]; rfl), by decide +kernel, by decide +kernel, by decide +kernel, by decide +kernel, fun b1 H45 hb1 s_f1 => ?_⟩
    obtain rfl : b1 = false := by
      cases b1
      · rfl
      · exact absurd ((lone_kinds (by decide +kernel) (by decide)).1 (hb1.1 rfl)) (by decide +kernel)
    clear hb1
    refine ⟨([120] : List Nat), 300, (by rw [show Str.ofString "x" = S ([120] : List Nat) by decide +kernel]), rfl, by decide, by decide, ?_⟩
    refine ⟨(List.replicate 300 ([120] : List Nat)).flatten, ([120] : List Nat), (by rw [show Str.ofString "x" = S ([120] : List Nat) by decide +kernel]; rfl), by decide +kernel, by decide +kernel, by decide +kernel, by decide +kernel, fun b2 H46 hb2 s_f2 => ?_⟩
    obtain rfl : b2 = true := hb2.2 ((lone_kinds (by decide +kernel) (by decide)).2 (by decide +kernel))
    clear hb2
    refine ⟨([120, 121] : List Nat), ([120, 121] : List Nat), (by rw [show Str.ofString "xy" = S (([120, 121] : List Nat)) by decide +kernel]; rfl), by decide +kernel, by decide +kernel, by decide +kernel, by decide +kernel, fun b3 H47 hb3 s_f3 => ?_⟩
    obtain rfl : b3 = false := by
      cases b3
      · rfl
      · exact absurd ((lone_kinds (by decide +kernel) (by decide)).1 (hb3.1 rfl)) (by decide +kernel)
    clear hb3
    refine ⟨(by show 4 ≤ sizeLine; decide), ?_⟩
    intro far hn_far
    generalize hX_far : L2.upd _ far _ = H48
    have s_far := alloc_same hX_far hn_far
    have d_far := alloc_at hX_far
    show tNext _ _ _
    refine ⟨_, rfl, ?_⟩
    refine ⟨(by show 4 ≤ sizeLine; decide), ?_⟩
    intro fe hn_fe
    generalize hX_fe : L2.upd _ fe _ = H49
    have s_fe := alloc_same hX_fe hn_fe
    have d_fe := alloc_at hX_fe
    refine ⟨(.list [.bool true, .bool false, .bool true, .bool false]), (.list [.bool true, .bool false, .bool true, .bool false]), .lst (SqL.of (s_fe _ _ d_far)) (.cons (.bl _) (.cons (.bl _) (.cons (.bl _) (.cons (.bl _) .nil)))), .lst (SqL.of d_fe) (.cons (.bl _) (.cons (.bl _) (.cons (.bl _) (.cons (.bl _) .nil)))), by decide +kernel, by decide +kernel, by decide +kernel, _, rfl, ?_⟩
    rw [show PyData.eqv (.list [.bool true, .bool false, .bool true, .bool false]) (.list [.bool true, .bool false, .bool true, .bool false]) = true by decide +kernel]
    refine iteT ?_
    refine ⟨(by show 1 ≤ sizeLine; decide), ?_⟩
    intro ta hn_ta
    generalize hX_ta : L2.upd _ ta _ = H50
    have s_ta := alloc_same hX_ta hn_ta
    have d_ta := alloc_at hX_ta
    refine ⟨ta, 200, _, rfl, rfl, d_ta, by decide, by decide, by decide, ?_⟩
    intro c5 hn_c5
    generalize hX_c5 : L2.upd _ c5 _ = H51
    have s_c5 := alloc_same hX_c5 hn_c5
    have d_c5 := alloc_at hX_c5
    refine ⟨_, (List.replicate 200 [97]), [], (by rw [show Str.ofString "" = S ([] : List Nat) by decide +kernel]; rfl), d_c5.trans (by rw [show Str.ofString "a" = S [97] by decide +kernel]; rfl), by decide +kernel, by decide +kernel, by decide +kernel, by decide +kernel, by decide +kernel, fun p_g5 as_g5 H52 h_g5 s_g5 d_g5 L_g5 => ?_⟩
    rw [(groups_C (List.replicate 200 [97]) []).trans (show groupsC (List.replicate 200 [97]) [] = [List.range 200] by decide +kernel)] at L_g5
    refine ⟨200, rfl, ⟨by decide, by decide, by decide, by decide, by decide⟩, ?_⟩
    intro r5 hn_r5
    generalize hX_r5 : L2.upd _ r5 _ = H53
    have s_r5 := alloc_same hX_r5 hn_r5
    have d_r5 := alloc_at hX_r5
    refine ⟨(by show 1 ≤ sizeLine; decide), ?_⟩
    intro e5 hn_e5
    generalize hX_e5 : L2.upd _ e5 _ = H54
    have s_e5 := alloc_same hX_e5 hn_e5
    have d_e5 := alloc_at hX_e5
    have M_g5 := L_g5.same (s_r5.trans s_e5)
    refine ⟨.list (groupsD [List.range 200]), .list (groupsD [List.range 200]), .lst (SqL.of ((s_r5.trans s_e5) _ _ d_g5)) (ListsAt.dps (H := H) M_g5.len fun i b g h1 h2 => (M_g5.at' i b g h1 h2).2), .lst (SqL.of d_e5) (.cons (.lst (SqL.of ((s_e5 _ _ d_r5).trans (show _ = some (HO.lst (placesV (List.range 200))) from rfl))) (places_dp _)) .nil), by decide +kernel, by decide +kernel, by decide +kernel, ?_⟩
    rw [show PyData.eqv (.list (groupsD [List.range 200])) (.list (groupsD [List.range 200])) = true by decide +kernel]
    exact k _
end
theorem all_mk {l : PySem.W.OpenLaw} {w : World} {K : PySem.W.Frag} {h : Heap} {mg : Str → Option Value} {fa : Addr} (X : K.In h) (G : h.Ns mainGlobals mg) (hfa : mg "law" = some (.ref fa))
    {f_is_word : Addr} {od_is_word an_is_word : Option Addr} {sl_is_word : Array (Option Value)} {oc_is_word kV_is_word dc_is_word pm_is_word cd_is_word ct_is_word : Value}
    {f__ascends : Addr} {od__ascends an__ascends : Option Addr} {sl__ascends : Array (Option Value)} {oc__ascends kV__ascends dc__ascends pm__ascends cd__ascends ct__ascends : Value}
    {f_sides_changed : Addr} {od_sides_changed an_sides_changed : Option Addr} {sl_sides_changed : Array (Option Value)} {oc_sides_changed kV_sides_changed dc_sides_changed pm_sides_changed cd_sides_changed ct_sides_changed : Value}
    {f_starred : Addr} {od_starred an_starred : Option Addr} {sl_starred : Array (Option Value)} {oc_starred kV_starred dc_starred pm_starred cd_starred ct_starred : Value}
    {f_turnings : Addr} {od_turnings an_turnings : Option Addr} {sl_turnings : Array (Option Value)} {oc_turnings kV_turnings dc_turnings pm_turnings cd_turnings ct_turnings : Value}
    {f_letters_held : Addr} {od_letters_held an_letters_held : Option Addr} {sl_letters_held : Array (Option Value)} {oc_letters_held kV_letters_held dc_letters_held pm_letters_held cd_letters_held ct_letters_held : Value}
    {f__law_hash : Addr} {od__law_hash an__law_hash : Option Addr} {sl__law_hash : Array (Option Value)} {oc__law_hash kV__law_hash dc__law_hash pm__law_hash cd__law_hash ct__law_hash : Value}
    {f__law_cell : Addr} {od__law_cell an__law_cell : Option Addr} {sl__law_cell : Array (Option Value)} {oc__law_cell kV__law_cell dc__law_cell pm__law_cell cd__law_cell ct__law_cell : Value}
    {f__law_deed : Addr} {od__law_deed an__law_deed : Option Addr} {sl__law_deed : Array (Option Value)} {oc__law_deed kV__law_deed dc__law_deed pm__law_deed cd__law_deed ct__law_deed : Value}
    {f__law_places : Addr} {od__law_places an__law_places : Option Addr} {sl__law_places : Array (Option Value)} {oc__law_places kV__law_places dc__law_places pm__law_places cd__law_places ct__law_places : Value}
    {f__law_ring : Addr} {od__law_ring an__law_ring : Option Addr} {sl__law_ring : Array (Option Value)} {oc__law_ring kV__law_ring dc__law_ring pm__law_ring cd__law_ring ct__law_ring : Value}
    {f__law_turnings : Addr} {od__law_turnings an__law_turnings : Option Addr} {sl__law_turnings : Array (Option Value)} {oc__law_turnings kV__law_turnings dc__law_turnings pm__law_turnings cd__law_turnings ct__law_turnings : Value}
    {f__law_same : Addr} {od__law_same an__law_same : Option Addr} {sl__law_same : Array (Option Value)} {oc__law_same kV__law_same dc__law_same pm__law_same cd__law_same ct__law_same : Value}
    {f_is_joints : Addr} {od_is_joints an_is_joints : Option Addr} {sl_is_joints : Array (Option Value)} {oc_is_joints kV_is_joints dc_is_joints pm_is_joints cd_is_joints ct_is_joints : Value}
    {f_check_word : Addr} {od_check_word an_check_word : Option Addr} {sl_check_word : Array (Option Value)} {oc_check_word kV_check_word dc_check_word pm_check_word cd_check_word ct_check_word : Value}
    {f_ring_stars : Addr} {od_ring_stars an_ring_stars : Option Addr} {sl_ring_stars : Array (Option Value)} {oc_ring_stars kV_ring_stars dc_ring_stars pm_ring_stars cd_ring_stars ct_ring_stars : Value}
    {f__law_random : Addr} {od__law_random an__law_random : Option Addr} {sl__law_random : Array (Option Value)} {oc__law_random kV__law_random dc__law_random pm__law_random cd__law_random ct__law_random : Value}
    {f__law_generator : Addr} {od__law_generator an__law_generator : Option Addr} {sl__law_generator : Array (Option Value)} {oc__law_generator kV__law_generator dc__law_generator pm__law_generator cd__law_generator ct__law_generator : Value}
    {f__law_walk : Addr} {od__law_walk an__law_walk : Option Addr} {sl__law_walk : Array (Option Value)} {oc__law_walk kV__law_walk dc__law_walk pm__law_walk cd__law_walk ct__law_walk : Value}
    {f__law_key : Addr} {od__law_key an__law_key : Option Addr} {sl__law_key : Array (Option Value)} {oc__law_key kV__law_key dc__law_key pm__law_key cd__law_key ct__law_key : Value}
    {f_check_joints : Addr} {od_check_joints an_check_joints : Option Addr} {sl_check_joints : Array (Option Value)} {oc_check_joints kV_check_joints dc_check_joints pm_check_joints cd_check_joints ct_check_joints : Value}
    {f_numbers_by_class : Addr} {od_numbers_by_class an_numbers_by_class : Option Addr} {sl_numbers_by_class : Array (Option Value)} {oc_numbers_by_class kV_numbers_by_class dc_numbers_by_class pm_numbers_by_class cd_numbers_by_class ct_numbers_by_class : Value}
    {f__law_letters : Addr} {od__law_letters an__law_letters : Option Addr} {sl__law_letters : Array (Option Value)} {oc__law_letters kV__law_letters dc__law_letters pm__law_letters cd__law_letters ct__law_letters : Value}
    {f__law_word : Addr} {od__law_word an__law_word : Option Addr} {sl__law_word : Array (Option Value)} {oc__law_word kV__law_word dc__law_word pm__law_word cd__law_word ct__law_word : Value}
    {f__law_round : Addr} {od__law_round an__law_round : Option Addr} {sl__law_round : Array (Option Value)} {oc__law_round kV__law_round dc__law_round pm__law_round cd__law_round ct__law_round : Value}
    {f__law_made : Addr} {od__law_made an__law_made : Option Addr} {sl__law_made : Array (Option Value)} {oc__law_made kV__law_made dc__law_made pm__law_made cd__law_made ct__law_made : Value}
    {f_open_places : Addr} {od_open_places an_open_places : Option Addr} {sl_open_places : Array (Option Value)} {oc_open_places kV_open_places dc_open_places pm_open_places cd_open_places ct_open_places : Value}
    {f_ring_turns : Addr} {od_ring_turns an_ring_turns : Option Addr} {sl_ring_turns : Array (Option Value)} {oc_ring_turns kV_ring_turns dc_ring_turns pm_ring_turns cd_ring_turns ct_ring_turns : Value}
    {f_classes_of : Addr} {od_classes_of an_classes_of : Option Addr} {sl_classes_of : Array (Option Value)} {oc_classes_of kV_classes_of dc_classes_of pm_classes_of cd_classes_of ct_classes_of : Value}
    {f__law_drawn : Addr} {od__law_drawn an__law_drawn : Option Addr} {sl__law_drawn : Array (Option Value)} {oc__law_drawn kV__law_drawn dc__law_drawn pm__law_drawn cd__law_drawn ct__law_drawn : Value}
    {f__law_groups : Addr} {od__law_groups an__law_groups : Option Addr} {sl__law_groups : Array (Option Value)} {oc__law_groups kV__law_groups dc__law_groups pm__law_groups cd__law_groups ct__law_groups : Value}
    {f_one_deed : Addr} {od_one_deed an_one_deed : Option Addr} {sl_one_deed : Array (Option Value)} {oc_one_deed kV_one_deed dc_one_deed pm_one_deed cd_one_deed ct_one_deed : Value}
    {f_is_alone : Addr} {od_is_alone an_is_alone : Option Addr} {sl_is_alone : Array (Option Value)} {oc_is_alone kV_is_alone dc_is_alone pm_is_alone cd_is_alone ct_is_alone : Value}
    {f__law_word_right : Addr} {od__law_word_right an__law_word_right : Option Addr} {sl__law_word_right : Array (Option Value)} {oc__law_word_right kV__law_word_right dc__law_word_right pm__law_word_right cd__law_word_right ct__law_word_right : Value}
    {f__law_far_list_right : Addr} {od__law_far_list_right an__law_far_list_right : Option Addr} {sl__law_far_list_right : Array (Option Value)} {oc__law_far_list_right kV__law_far_list_right dc__law_far_list_right pm__law_far_list_right cd__law_far_list_right ct__law_far_list_right : Value}
    {f__law_list_right : Addr} {od__law_list_right an__law_list_right : Option Addr} {sl__law_list_right : Array (Option Value)} {oc__law_list_right kV__law_list_right dc__law_list_right pm__law_list_right cd__law_list_right ct__law_list_right : Value}
    {f__law_right : Addr} {od__law_right an__law_right : Option Addr} {sl__law_right : Array (Option Value)} {oc__law_right kV__law_right dc__law_right pm__law_right cd__law_right ct__law_right : Value}
    {f_law : Addr} {od_law an_law : Option Addr} {sl_law : Array (Option Value)} {oc_law kV_law dc_law pm_law cd_law ct_law : Value}
    (a_is_word : PySem.W.nsIn K mainGlobals "is_word" = some (some (.ref f_is_word))) (l_is_word : K.lookup f_is_word = some ⟨oc_is_word, od_is_word, .func (PySem.W.fnOf "is_word" "is_word" (defArgs s_is_word) (defBody s_is_word) (defScope s_is_word) .none kV_is_word dc_is_word pm_is_word an_is_word cd_is_word ct_is_word), sl_is_word⟩) (c_is_word : PySem.W.codeIn K cd_is_word "is_word" = true) (k_is_word : PySem.W.keepIn K (.ref f_is_word) = true)
    (a__ascends : PySem.W.nsIn K mainGlobals "_ascends" = some (some (.ref f__ascends))) (l__ascends : K.lookup f__ascends = some ⟨oc__ascends, od__ascends, .func (PySem.W.fnOf "_ascends" "_ascends" (defArgs s__ascends) (defBody s__ascends) (defScope s__ascends) .none kV__ascends dc__ascends pm__ascends an__ascends cd__ascends ct__ascends), sl__ascends⟩) (c__ascends : PySem.W.codeIn K cd__ascends "_ascends" = true) (k__ascends : PySem.W.keepIn K (.ref f__ascends) = true)
    (a_sides_changed : PySem.W.nsIn K mainGlobals "sides_changed" = some (some (.ref f_sides_changed))) (l_sides_changed : K.lookup f_sides_changed = some ⟨oc_sides_changed, od_sides_changed, .func (PySem.W.fnOf "sides_changed" "sides_changed" (defArgs s_sides_changed) (defBody s_sides_changed) (defScope s_sides_changed) .none kV_sides_changed dc_sides_changed pm_sides_changed an_sides_changed cd_sides_changed ct_sides_changed), sl_sides_changed⟩) (c_sides_changed : PySem.W.codeIn K cd_sides_changed "sides_changed" = true) (k_sides_changed : PySem.W.keepIn K (.ref f_sides_changed) = true)
    (a_starred : PySem.W.nsIn K mainGlobals "starred" = some (some (.ref f_starred))) (l_starred : K.lookup f_starred = some ⟨oc_starred, od_starred, .func (PySem.W.fnOf "starred" "starred" (defArgs s_starred) (defBody s_starred) (defScope s_starred) .none kV_starred dc_starred pm_starred an_starred cd_starred ct_starred), sl_starred⟩) (c_starred : PySem.W.codeIn K cd_starred "starred" = true) (k_starred : PySem.W.keepIn K (.ref f_starred) = true)
    (a_turnings : PySem.W.nsIn K mainGlobals "turnings" = some (some (.ref f_turnings))) (l_turnings : K.lookup f_turnings = some ⟨oc_turnings, od_turnings, .func (PySem.W.fnOf "turnings" "turnings" (defArgs s_turnings) (defBody s_turnings) (defScope s_turnings) .none kV_turnings dc_turnings pm_turnings an_turnings cd_turnings ct_turnings), sl_turnings⟩) (c_turnings : PySem.W.codeIn K cd_turnings "turnings" = true) (k_turnings : PySem.W.keepIn K (.ref f_turnings) = true)
    (a_letters_held : PySem.W.nsIn K mainGlobals "letters_held" = some (some (.ref f_letters_held))) (l_letters_held : K.lookup f_letters_held = some ⟨oc_letters_held, od_letters_held, .func (PySem.W.fnOf "letters_held" "letters_held" (defArgs s_letters_held) (defBody s_letters_held) (defScope s_letters_held) .none kV_letters_held dc_letters_held pm_letters_held an_letters_held cd_letters_held ct_letters_held), sl_letters_held⟩) (c_letters_held : PySem.W.codeIn K cd_letters_held "letters_held" = true) (k_letters_held : PySem.W.keepIn K (.ref f_letters_held) = true)
    (a__law_hash : PySem.W.nsIn K mainGlobals "_law_hash" = some (some (.ref f__law_hash))) (l__law_hash : K.lookup f__law_hash = some ⟨oc__law_hash, od__law_hash, .func (PySem.W.fnOf "_law_hash" "_law_hash" (defArgs s__law_hash) (defBody s__law_hash) (defScope s__law_hash) .none kV__law_hash dc__law_hash pm__law_hash an__law_hash cd__law_hash ct__law_hash), sl__law_hash⟩) (c__law_hash : PySem.W.codeIn K cd__law_hash "_law_hash" = true) (k__law_hash : PySem.W.keepIn K (.ref f__law_hash) = true)
    (a__law_cell : PySem.W.nsIn K mainGlobals "_law_cell" = some (some (.ref f__law_cell))) (l__law_cell : K.lookup f__law_cell = some ⟨oc__law_cell, od__law_cell, .func (PySem.W.fnOf "_law_cell" "_law_cell" (defArgs s__law_cell) (defBody s__law_cell) (defScope s__law_cell) .none kV__law_cell dc__law_cell pm__law_cell an__law_cell cd__law_cell ct__law_cell), sl__law_cell⟩) (c__law_cell : PySem.W.codeIn K cd__law_cell "_law_cell" = true) (k__law_cell : PySem.W.keepIn K (.ref f__law_cell) = true)
    (a__law_deed : PySem.W.nsIn K mainGlobals "_law_deed" = some (some (.ref f__law_deed))) (l__law_deed : K.lookup f__law_deed = some ⟨oc__law_deed, od__law_deed, .func (PySem.W.fnOf "_law_deed" "_law_deed" (defArgs s__law_deed) (defBody s__law_deed) (defScope s__law_deed) .none kV__law_deed dc__law_deed pm__law_deed an__law_deed cd__law_deed ct__law_deed), sl__law_deed⟩) (c__law_deed : PySem.W.codeIn K cd__law_deed "_law_deed" = true) (k__law_deed : PySem.W.keepIn K (.ref f__law_deed) = true)
    (a__law_places : PySem.W.nsIn K mainGlobals "_law_places" = some (some (.ref f__law_places))) (l__law_places : K.lookup f__law_places = some ⟨oc__law_places, od__law_places, .func (PySem.W.fnOf "_law_places" "_law_places" (defArgs s__law_places) (defBody s__law_places) (defScope s__law_places) .none kV__law_places dc__law_places pm__law_places an__law_places cd__law_places ct__law_places), sl__law_places⟩) (c__law_places : PySem.W.codeIn K cd__law_places "_law_places" = true) (k__law_places : PySem.W.keepIn K (.ref f__law_places) = true)
    (a__law_ring : PySem.W.nsIn K mainGlobals "_law_ring" = some (some (.ref f__law_ring))) (l__law_ring : K.lookup f__law_ring = some ⟨oc__law_ring, od__law_ring, .func (PySem.W.fnOf "_law_ring" "_law_ring" (defArgs s__law_ring) (defBody s__law_ring) (defScope s__law_ring) .none kV__law_ring dc__law_ring pm__law_ring an__law_ring cd__law_ring ct__law_ring), sl__law_ring⟩) (c__law_ring : PySem.W.codeIn K cd__law_ring "_law_ring" = true) (k__law_ring : PySem.W.keepIn K (.ref f__law_ring) = true)
    (a__law_turnings : PySem.W.nsIn K mainGlobals "_law_turnings" = some (some (.ref f__law_turnings))) (l__law_turnings : K.lookup f__law_turnings = some ⟨oc__law_turnings, od__law_turnings, .func (PySem.W.fnOf "_law_turnings" "_law_turnings" (defArgs s__law_turnings) (defBody s__law_turnings) (defScope s__law_turnings) .none kV__law_turnings dc__law_turnings pm__law_turnings an__law_turnings cd__law_turnings ct__law_turnings), sl__law_turnings⟩) (c__law_turnings : PySem.W.codeIn K cd__law_turnings "_law_turnings" = true) (k__law_turnings : PySem.W.keepIn K (.ref f__law_turnings) = true)
    (a__law_same : PySem.W.nsIn K mainGlobals "_law_same" = some (some (.ref f__law_same))) (l__law_same : K.lookup f__law_same = some ⟨oc__law_same, od__law_same, .func (PySem.W.fnOf "_law_same" "_law_same" (defArgs s__law_same) (defBody s__law_same) (defScope s__law_same) .none kV__law_same dc__law_same pm__law_same an__law_same cd__law_same ct__law_same), sl__law_same⟩) (c__law_same : PySem.W.codeIn K cd__law_same "_law_same" = true) (k__law_same : PySem.W.keepIn K (.ref f__law_same) = true)
    (a_is_joints : PySem.W.nsIn K mainGlobals "is_joints" = some (some (.ref f_is_joints))) (l_is_joints : K.lookup f_is_joints = some ⟨oc_is_joints, od_is_joints, .func (PySem.W.fnOf "is_joints" "is_joints" (defArgs s_is_joints) (defBody s_is_joints) (defScope s_is_joints) .none kV_is_joints dc_is_joints pm_is_joints an_is_joints cd_is_joints ct_is_joints), sl_is_joints⟩) (c_is_joints : PySem.W.codeIn K cd_is_joints "is_joints" = true) (k_is_joints : PySem.W.keepIn K (.ref f_is_joints) = true)
    (a_check_word : PySem.W.nsIn K mainGlobals "check_word" = some (some (.ref f_check_word))) (l_check_word : K.lookup f_check_word = some ⟨oc_check_word, od_check_word, .func (PySem.W.fnOf "check_word" "check_word" (defArgs s_check_word) (defBody s_check_word) (defScope s_check_word) .none kV_check_word dc_check_word pm_check_word an_check_word cd_check_word ct_check_word), sl_check_word⟩) (c_check_word : PySem.W.codeIn K cd_check_word "check_word" = true) (k_check_word : PySem.W.keepIn K (.ref f_check_word) = true)
    (a_ring_stars : PySem.W.nsIn K mainGlobals "ring_stars" = some (some (.ref f_ring_stars))) (l_ring_stars : K.lookup f_ring_stars = some ⟨oc_ring_stars, od_ring_stars, .func (PySem.W.fnOf "ring_stars" "ring_stars" (defArgs s_ring_stars) (defBody s_ring_stars) (defScope s_ring_stars) .none kV_ring_stars dc_ring_stars pm_ring_stars an_ring_stars cd_ring_stars ct_ring_stars), sl_ring_stars⟩) (c_ring_stars : PySem.W.codeIn K cd_ring_stars "ring_stars" = true) (k_ring_stars : PySem.W.keepIn K (.ref f_ring_stars) = true)
    (a__law_random : PySem.W.nsIn K mainGlobals "_law_random" = some (some (.ref f__law_random))) (l__law_random : K.lookup f__law_random = some ⟨oc__law_random, od__law_random, .func (PySem.W.fnOf "_law_random" "_law_random" (defArgs s__law_random) (defBody s__law_random) (defScope s__law_random) .none kV__law_random dc__law_random pm__law_random an__law_random cd__law_random ct__law_random), sl__law_random⟩) (c__law_random : PySem.W.codeIn K cd__law_random "_law_random" = true) (k__law_random : PySem.W.keepIn K (.ref f__law_random) = true)
    (a__law_generator : PySem.W.nsIn K mainGlobals "_law_generator" = some (some (.ref f__law_generator))) (l__law_generator : K.lookup f__law_generator = some ⟨oc__law_generator, od__law_generator, .func (PySem.W.fnOf "_law_generator" "_law_generator" (defArgs s__law_generator) (defBody s__law_generator) (defScope s__law_generator) .none kV__law_generator dc__law_generator pm__law_generator an__law_generator cd__law_generator ct__law_generator), sl__law_generator⟩) (c__law_generator : PySem.W.codeIn K cd__law_generator "_law_generator" = true) (k__law_generator : PySem.W.keepIn K (.ref f__law_generator) = true)
    (a__law_walk : PySem.W.nsIn K mainGlobals "_law_walk" = some (some (.ref f__law_walk))) (l__law_walk : K.lookup f__law_walk = some ⟨oc__law_walk, od__law_walk, .func (PySem.W.fnOf "_law_walk" "_law_walk" (defArgs s__law_walk) (defBody s__law_walk) (defScope s__law_walk) .none kV__law_walk dc__law_walk pm__law_walk an__law_walk cd__law_walk ct__law_walk), sl__law_walk⟩) (c__law_walk : PySem.W.codeIn K cd__law_walk "_law_walk" = true) (k__law_walk : PySem.W.keepIn K (.ref f__law_walk) = true)
    (a__law_key : PySem.W.nsIn K mainGlobals "_law_key" = some (some (.ref f__law_key))) (l__law_key : K.lookup f__law_key = some ⟨oc__law_key, od__law_key, .func (PySem.W.fnOf "_law_key" "_law_key" (defArgs s__law_key) (defBody s__law_key) (defScope s__law_key) .none kV__law_key dc__law_key pm__law_key an__law_key cd__law_key ct__law_key), sl__law_key⟩) (c__law_key : PySem.W.codeIn K cd__law_key "_law_key" = true) (k__law_key : PySem.W.keepIn K (.ref f__law_key) = true)
    (a_check_joints : PySem.W.nsIn K mainGlobals "check_joints" = some (some (.ref f_check_joints))) (l_check_joints : K.lookup f_check_joints = some ⟨oc_check_joints, od_check_joints, .func (PySem.W.fnOf "check_joints" "check_joints" (defArgs s_check_joints) (defBody s_check_joints) (defScope s_check_joints) .none kV_check_joints dc_check_joints pm_check_joints an_check_joints cd_check_joints ct_check_joints), sl_check_joints⟩) (c_check_joints : PySem.W.codeIn K cd_check_joints "check_joints" = true) (k_check_joints : PySem.W.keepIn K (.ref f_check_joints) = true)
    (a_numbers_by_class : PySem.W.nsIn K mainGlobals "numbers_by_class" = some (some (.ref f_numbers_by_class))) (l_numbers_by_class : K.lookup f_numbers_by_class = some ⟨oc_numbers_by_class, od_numbers_by_class, .func (PySem.W.fnOf "numbers_by_class" "numbers_by_class" (defArgs s_numbers_by_class) (defBody s_numbers_by_class) (defScope s_numbers_by_class) .none kV_numbers_by_class dc_numbers_by_class pm_numbers_by_class an_numbers_by_class cd_numbers_by_class ct_numbers_by_class), sl_numbers_by_class⟩) (c_numbers_by_class : PySem.W.codeIn K cd_numbers_by_class "numbers_by_class" = true) (k_numbers_by_class : PySem.W.keepIn K (.ref f_numbers_by_class) = true)
    (a__law_letters : PySem.W.nsIn K mainGlobals "_law_letters" = some (some (.ref f__law_letters))) (l__law_letters : K.lookup f__law_letters = some ⟨oc__law_letters, od__law_letters, .func (PySem.W.fnOf "_law_letters" "_law_letters" (defArgs s__law_letters) (defBody s__law_letters) (defScope s__law_letters) .none kV__law_letters dc__law_letters pm__law_letters an__law_letters cd__law_letters ct__law_letters), sl__law_letters⟩) (c__law_letters : PySem.W.codeIn K cd__law_letters "_law_letters" = true) (k__law_letters : PySem.W.keepIn K (.ref f__law_letters) = true)
    (a__law_word : PySem.W.nsIn K mainGlobals "_law_word" = some (some (.ref f__law_word))) (l__law_word : K.lookup f__law_word = some ⟨oc__law_word, od__law_word, .func (PySem.W.fnOf "_law_word" "_law_word" (defArgs s__law_word) (defBody s__law_word) (defScope s__law_word) .none kV__law_word dc__law_word pm__law_word an__law_word cd__law_word ct__law_word), sl__law_word⟩) (c__law_word : PySem.W.codeIn K cd__law_word "_law_word" = true) (k__law_word : PySem.W.keepIn K (.ref f__law_word) = true)
    (a__law_round : PySem.W.nsIn K mainGlobals "_law_round" = some (some (.ref f__law_round))) (l__law_round : K.lookup f__law_round = some ⟨oc__law_round, od__law_round, .func (PySem.W.fnOf "_law_round" "_law_round" (defArgs s__law_round) (defBody s__law_round) (defScope s__law_round) .none kV__law_round dc__law_round pm__law_round an__law_round cd__law_round ct__law_round), sl__law_round⟩) (c__law_round : PySem.W.codeIn K cd__law_round "_law_round" = true) (k__law_round : PySem.W.keepIn K (.ref f__law_round) = true)
    (a__law_made : PySem.W.nsIn K mainGlobals "_law_made" = some (some (.ref f__law_made))) (l__law_made : K.lookup f__law_made = some ⟨oc__law_made, od__law_made, .func (PySem.W.fnOf "_law_made" "_law_made" (defArgs s__law_made) (defBody s__law_made) (defScope s__law_made) .none kV__law_made dc__law_made pm__law_made an__law_made cd__law_made ct__law_made), sl__law_made⟩) (c__law_made : PySem.W.codeIn K cd__law_made "_law_made" = true) (k__law_made : PySem.W.keepIn K (.ref f__law_made) = true)
    (a_open_places : PySem.W.nsIn K mainGlobals "open_places" = some (some (.ref f_open_places))) (l_open_places : K.lookup f_open_places = some ⟨oc_open_places, od_open_places, .func (PySem.W.fnOf "open_places" "open_places" (defArgs s_open_places) (defBody s_open_places) (defScope s_open_places) .none kV_open_places dc_open_places pm_open_places an_open_places cd_open_places ct_open_places), sl_open_places⟩) (c_open_places : PySem.W.codeIn K cd_open_places "open_places" = true) (k_open_places : PySem.W.keepIn K (.ref f_open_places) = true)
    (a_ring_turns : PySem.W.nsIn K mainGlobals "ring_turns" = some (some (.ref f_ring_turns))) (l_ring_turns : K.lookup f_ring_turns = some ⟨oc_ring_turns, od_ring_turns, .func (PySem.W.fnOf "ring_turns" "ring_turns" (defArgs s_ring_turns) (defBody s_ring_turns) (defScope s_ring_turns) .none kV_ring_turns dc_ring_turns pm_ring_turns an_ring_turns cd_ring_turns ct_ring_turns), sl_ring_turns⟩) (c_ring_turns : PySem.W.codeIn K cd_ring_turns "ring_turns" = true) (k_ring_turns : PySem.W.keepIn K (.ref f_ring_turns) = true)
    (a_classes_of : PySem.W.nsIn K mainGlobals "classes_of" = some (some (.ref f_classes_of))) (l_classes_of : K.lookup f_classes_of = some ⟨oc_classes_of, od_classes_of, .func (PySem.W.fnOf "classes_of" "classes_of" (defArgs s_classes_of) (defBody s_classes_of) (defScope s_classes_of) .none kV_classes_of dc_classes_of pm_classes_of an_classes_of cd_classes_of ct_classes_of), sl_classes_of⟩) (c_classes_of : PySem.W.codeIn K cd_classes_of "classes_of" = true) (k_classes_of : PySem.W.keepIn K (.ref f_classes_of) = true)
    (a__law_drawn : PySem.W.nsIn K mainGlobals "_law_drawn" = some (some (.ref f__law_drawn))) (l__law_drawn : K.lookup f__law_drawn = some ⟨oc__law_drawn, od__law_drawn, .func (PySem.W.fnOf "_law_drawn" "_law_drawn" (defArgs s__law_drawn) (defBody s__law_drawn) (defScope s__law_drawn) .none kV__law_drawn dc__law_drawn pm__law_drawn an__law_drawn cd__law_drawn ct__law_drawn), sl__law_drawn⟩) (c__law_drawn : PySem.W.codeIn K cd__law_drawn "_law_drawn" = true) (k__law_drawn : PySem.W.keepIn K (.ref f__law_drawn) = true)
    (a__law_groups : PySem.W.nsIn K mainGlobals "_law_groups" = some (some (.ref f__law_groups))) (l__law_groups : K.lookup f__law_groups = some ⟨oc__law_groups, od__law_groups, .func (PySem.W.fnOf "_law_groups" "_law_groups" (defArgs s__law_groups) (defBody s__law_groups) (defScope s__law_groups) .none kV__law_groups dc__law_groups pm__law_groups an__law_groups cd__law_groups ct__law_groups), sl__law_groups⟩) (c__law_groups : PySem.W.codeIn K cd__law_groups "_law_groups" = true) (k__law_groups : PySem.W.keepIn K (.ref f__law_groups) = true)
    (a_one_deed : PySem.W.nsIn K mainGlobals "one_deed" = some (some (.ref f_one_deed))) (l_one_deed : K.lookup f_one_deed = some ⟨oc_one_deed, od_one_deed, .func (PySem.W.fnOf "one_deed" "one_deed" (defArgs s_one_deed) (defBody s_one_deed) (defScope s_one_deed) .none kV_one_deed dc_one_deed pm_one_deed an_one_deed cd_one_deed ct_one_deed), sl_one_deed⟩) (c_one_deed : PySem.W.codeIn K cd_one_deed "one_deed" = true) (k_one_deed : PySem.W.keepIn K (.ref f_one_deed) = true)
    (a_is_alone : PySem.W.nsIn K mainGlobals "is_alone" = some (some (.ref f_is_alone))) (l_is_alone : K.lookup f_is_alone = some ⟨oc_is_alone, od_is_alone, .func (PySem.W.fnOf "is_alone" "is_alone" (defArgs s_is_alone) (defBody s_is_alone) (defScope s_is_alone) .none kV_is_alone dc_is_alone pm_is_alone an_is_alone cd_is_alone ct_is_alone), sl_is_alone⟩) (c_is_alone : PySem.W.codeIn K cd_is_alone "is_alone" = true) (k_is_alone : PySem.W.keepIn K (.ref f_is_alone) = true)
    (a__law_word_right : PySem.W.nsIn K mainGlobals "_law_word_right" = some (some (.ref f__law_word_right))) (l__law_word_right : K.lookup f__law_word_right = some ⟨oc__law_word_right, od__law_word_right, .func (PySem.W.fnOf "_law_word_right" "_law_word_right" (defArgs s__law_word_right) (defBody s__law_word_right) (defScope s__law_word_right) .none kV__law_word_right dc__law_word_right pm__law_word_right an__law_word_right cd__law_word_right ct__law_word_right), sl__law_word_right⟩) (c__law_word_right : PySem.W.codeIn K cd__law_word_right "_law_word_right" = true) (k__law_word_right : PySem.W.keepIn K (.ref f__law_word_right) = true)
    (a__law_far_list_right : PySem.W.nsIn K mainGlobals "_law_far_list_right" = some (some (.ref f__law_far_list_right))) (l__law_far_list_right : K.lookup f__law_far_list_right = some ⟨oc__law_far_list_right, od__law_far_list_right, .func (PySem.W.fnOf "_law_far_list_right" "_law_far_list_right" (defArgs s__law_far_list_right) (defBody s__law_far_list_right) (defScope s__law_far_list_right) .none kV__law_far_list_right dc__law_far_list_right pm__law_far_list_right an__law_far_list_right cd__law_far_list_right ct__law_far_list_right), sl__law_far_list_right⟩) (c__law_far_list_right : PySem.W.codeIn K cd__law_far_list_right "_law_far_list_right" = true) (k__law_far_list_right : PySem.W.keepIn K (.ref f__law_far_list_right) = true)
    (a__law_list_right : PySem.W.nsIn K mainGlobals "_law_list_right" = some (some (.ref f__law_list_right))) (l__law_list_right : K.lookup f__law_list_right = some ⟨oc__law_list_right, od__law_list_right, .func (PySem.W.fnOf "_law_list_right" "_law_list_right" (defArgs s__law_list_right) (defBody s__law_list_right) (defScope s__law_list_right) .none kV__law_list_right dc__law_list_right pm__law_list_right an__law_list_right cd__law_list_right ct__law_list_right), sl__law_list_right⟩) (c__law_list_right : PySem.W.codeIn K cd__law_list_right "_law_list_right" = true) (k__law_list_right : PySem.W.keepIn K (.ref f__law_list_right) = true)
    (a__law_right : PySem.W.nsIn K mainGlobals "_law_right" = some (some (.ref f__law_right))) (l__law_right : K.lookup f__law_right = some ⟨oc__law_right, od__law_right, .func (PySem.W.fnOf "_law_right" "_law_right" (defArgs s__law_right) (defBody s__law_right) (defScope s__law_right) .none kV__law_right dc__law_right pm__law_right an__law_right cd__law_right ct__law_right), sl__law_right⟩) (c__law_right : PySem.W.codeIn K cd__law_right "_law_right" = true) (k__law_right : PySem.W.keepIn K (.ref f__law_right) = true)
    (a_law : PySem.W.nsIn K mainGlobals "law" = some (some (.ref f_law))) (l_law : K.lookup f_law = some ⟨oc_law, od_law, .func (PySem.W.fnOf "law" "law" (defArgs s_law) (defBody s_law) (defScope s_law) .none kV_law dc_law pm_law an_law cd_law ct_law), sl_law⟩) (c_law : PySem.W.codeIn K cd_law "law" = true) (k_law : PySem.W.keepIn K (.ref f_law) = true)
    (z_all : PySem.W.nsIn K mainGlobals "all" = some none)
    (z_enumerate : PySem.W.nsIn K mainGlobals "enumerate" = some none)
    (z_int : PySem.W.nsIn K mainGlobals "int" = some none)
    (z_isinstance : PySem.W.nsIn K mainGlobals "isinstance" = some none)
    (z_len : PySem.W.nsIn K mainGlobals "len" = some none)
    (z_list : PySem.W.nsIn K mainGlobals "list" = some none)
    (z_max : PySem.W.nsIn K mainGlobals "max" = some none)
    (z_min : PySem.W.nsIn K mainGlobals "min" = some none)
    (z_range : PySem.W.nsIn K mainGlobals "range" = some none)
    (z_repr : PySem.W.nsIn K mainGlobals "repr" = some none)
    (z_set : PySem.W.nsIn K mainGlobals "set" = some none)
    (z_sorted : PySem.W.nsIn K mainGlobals "sorted" = some none)
    (z_str : PySem.W.nsIn K mainGlobals "str" = some none)
    (z_sum : PySem.W.nsIn K mainGlobals "sum" = some none)
    (z_tuple : PySem.W.nsIn K mainGlobals "tuple" = some none)
    (z_zip : PySem.W.nsIn K mainGlobals "zip" = some none) :
    ∃ fd : FuncData, (∀ (s : Shared) (v : Value), BindsTo s fd ⟨[v], []⟩ [("_law_script", v)]) ∧ ∀ base : Heap, K.In base → base.Ns mainGlobals mg → FnC l.prog w K mg base CX0 10 fa fd ["_law_script"] (sp_law K) := by
  have e := hfa.symm.trans (PySem.W.mg_of X G a_law)
  cases e
  have F_is_word := fun_mk (st := s_is_word) l_is_word c_is_word k_is_word
  have b_is_word := F_is_word.binds (ps := P_is_word) fun _ _ _ _ _ _ us hl => match us, hl with | [_], _ => rfl
  have F__ascends := fun_mk (st := s__ascends) l__ascends c__ascends k__ascends
  have b__ascends := F__ascends.binds (ps := P__ascends) fun _ _ _ _ _ _ us hl => match us, hl with | [_], _ => rfl
  have F_sides_changed := fun_mk (st := s_sides_changed) l_sides_changed c_sides_changed k_sides_changed
  have b_sides_changed := F_sides_changed.binds (ps := P_sides_changed) fun _ _ _ _ _ _ us hl => match us, hl with | [_, _], _ => rfl
  have F_starred := fun_mk (st := s_starred) l_starred c_starred k_starred
  have b_starred := F_starred.binds (ps := P_starred) fun _ _ _ _ _ _ us hl => match us, hl with | [_, _], _ => rfl
  have F_turnings := fun_mk (st := s_turnings) l_turnings c_turnings k_turnings
  have b_turnings := F_turnings.binds (ps := P_turnings) fun _ _ _ _ _ _ us hl => match us, hl with | [_], _ => rfl
  have F_letters_held := fun_mk (st := s_letters_held) l_letters_held c_letters_held k_letters_held
  have b_letters_held := F_letters_held.binds (ps := P_letters_held) fun _ _ _ _ _ _ us hl => match us, hl with | [_, _], _ => rfl
  have F__law_hash := fun_mk (st := s__law_hash) l__law_hash c__law_hash k__law_hash
  have b__law_hash := F__law_hash.binds (ps := P__law_hash) fun _ _ _ _ _ _ us hl => match us, hl with | [_, _], _ => rfl
  have F__law_cell := fun_mk (st := s__law_cell) l__law_cell c__law_cell k__law_cell
  have b__law_cell := F__law_cell.binds (ps := P__law_cell) fun _ _ _ _ _ _ us hl => match us, hl with | [_, _], _ => rfl
  have F__law_deed := fun_mk (st := s__law_deed) l__law_deed c__law_deed k__law_deed
  have b__law_deed := F__law_deed.binds (ps := P__law_deed) fun _ _ _ _ _ _ us hl => match us, hl with | [_, _], _ => rfl
  have F__law_places := fun_mk (st := s__law_places) l__law_places c__law_places k__law_places
  have b__law_places := F__law_places.binds (ps := P__law_places) fun _ _ _ _ _ _ us hl => match us, hl with | [_, _], _ => rfl
  have F__law_ring := fun_mk (st := s__law_ring) l__law_ring c__law_ring k__law_ring
  have b__law_ring := F__law_ring.binds (ps := P__law_ring) fun _ _ _ _ _ _ us hl => match us, hl with | [_, _], _ => rfl
  have F__law_turnings := fun_mk (st := s__law_turnings) l__law_turnings c__law_turnings k__law_turnings
  have b__law_turnings := F__law_turnings.binds (ps := P__law_turnings) fun _ _ _ _ _ _ us hl => match us, hl with | [_], _ => rfl
  have F__law_same := fun_mk (st := s__law_same) l__law_same c__law_same k__law_same
  have b__law_same := F__law_same.binds (ps := P__law_same) fun _ _ _ _ _ _ us hl => match us, hl with | [_, _], _ => rfl
  have F_is_joints := fun_mk (st := s_is_joints) l_is_joints c_is_joints k_is_joints
  have b_is_joints := F_is_joints.binds (ps := P_is_joints) fun _ _ _ _ _ _ us hl => match us, hl with | [_], _ => rfl
  have F_check_word := fun_mk (st := s_check_word) l_check_word c_check_word k_check_word
  have b_check_word := F_check_word.binds (ps := P_check_word) fun _ _ _ _ _ _ us hl => match us, hl with | [_], _ => rfl
  have F_ring_stars := fun_mk (st := s_ring_stars) l_ring_stars c_ring_stars k_ring_stars
  have b_ring_stars := F_ring_stars.binds (ps := P_ring_stars) fun _ _ _ _ _ _ us hl => match us, hl with | [_, _], _ => rfl
  have F__law_random := fun_mk (st := s__law_random) l__law_random c__law_random k__law_random
  have b__law_random := F__law_random.binds (ps := P__law_random) fun _ _ _ _ _ _ us hl => match us, hl with | [_, _], _ => rfl
  have F__law_generator := fun_mk (st := s__law_generator) l__law_generator c__law_generator k__law_generator
  have b__law_generator := F__law_generator.binds (ps := P__law_generator) fun _ _ _ _ _ _ us hl => match us, hl with | [_, _], _ => rfl
  have F__law_walk := fun_mk (st := s__law_walk) l__law_walk c__law_walk k__law_walk
  have b__law_walk := F__law_walk.binds (ps := P__law_walk) fun _ _ _ _ _ _ us hl => match us, hl with | [_, _], _ => rfl
  have F__law_key := fun_mk (st := s__law_key) l__law_key c__law_key k__law_key
  have b__law_key := F__law_key.binds (ps := P__law_key) fun _ _ _ _ _ _ us hl => match us, hl with | [_, _], _ => rfl
  have F_check_joints := fun_mk (st := s_check_joints) l_check_joints c_check_joints k_check_joints
  have b_check_joints := F_check_joints.binds (ps := P_check_joints) fun _ _ _ _ _ _ us hl => match us, hl with | [_], _ => rfl
  have F_numbers_by_class := fun_mk (st := s_numbers_by_class) l_numbers_by_class c_numbers_by_class k_numbers_by_class
  have b_numbers_by_class := F_numbers_by_class.binds (ps := P_numbers_by_class) fun _ _ _ _ _ _ us hl => match us, hl with | [_, _], _ => rfl
  have F__law_letters := fun_mk (st := s__law_letters) l__law_letters c__law_letters k__law_letters
  have b__law_letters := F__law_letters.binds (ps := P__law_letters) fun _ _ _ _ _ _ us hl => match us, hl with | [_, _], _ => rfl
  have F__law_word := fun_mk (st := s__law_word) l__law_word c__law_word k__law_word
  have b__law_word := F__law_word.binds (ps := P__law_word) fun _ _ _ _ _ _ us hl => match us, hl with | [_, _, _], _ => rfl
  have F__law_round := fun_mk (st := s__law_round) l__law_round c__law_round k__law_round
  have b__law_round := F__law_round.binds (ps := P__law_round) fun _ _ _ _ _ _ us hl => match us, hl with | [_, _, _, _], _ => rfl
  have F__law_made := fun_mk (st := s__law_made) l__law_made c__law_made k__law_made
  have b__law_made := F__law_made.binds (ps := P__law_made) fun _ _ _ _ _ _ us hl => match us, hl with | [_, _], _ => rfl
  have F_open_places := fun_mk (st := s_open_places) l_open_places c_open_places k_open_places
  have b_open_places := F_open_places.binds (ps := P_open_places) fun _ _ _ _ _ _ us hl => match us, hl with | [_, _], _ => rfl
  have F_ring_turns := fun_mk (st := s_ring_turns) l_ring_turns c_ring_turns k_ring_turns
  have b_ring_turns := F_ring_turns.binds (ps := P_ring_turns) fun _ _ _ _ _ _ us hl => match us, hl with | [_, _], _ => rfl
  have F_classes_of := fun_mk (st := s_classes_of) l_classes_of c_classes_of k_classes_of
  have b_classes_of := F_classes_of.binds (ps := P_classes_of) fun _ _ _ _ _ _ us hl => match us, hl with | [_, _], _ => rfl
  have F__law_drawn := fun_mk (st := s__law_drawn) l__law_drawn c__law_drawn k__law_drawn
  have b__law_drawn := F__law_drawn.binds (ps := P__law_drawn) fun _ _ _ _ _ _ us hl => match us, hl with | [_, _], _ => rfl
  have F__law_groups := fun_mk (st := s__law_groups) l__law_groups c__law_groups k__law_groups
  have b__law_groups := F__law_groups.binds (ps := P__law_groups) fun _ _ _ _ _ _ us hl => match us, hl with | [_, _], _ => rfl
  have F_one_deed := fun_mk (st := s_one_deed) l_one_deed c_one_deed k_one_deed
  have b_one_deed := F_one_deed.binds (ps := P_one_deed) fun _ _ _ _ _ _ us hl => match us, hl with | [_, _], _ => rfl
  have F_is_alone := fun_mk (st := s_is_alone) l_is_alone c_is_alone k_is_alone
  have b_is_alone := F_is_alone.binds (ps := P_is_alone) fun _ _ _ _ _ _ us hl => match us, hl with | [_, _], _ => rfl
  have F__law_word_right := fun_mk (st := s__law_word_right) l__law_word_right c__law_word_right k__law_word_right
  have b__law_word_right := F__law_word_right.binds (ps := P__law_word_right) fun _ _ _ _ _ _ us hl => match us, hl with | [_, _], _ => rfl
  have F__law_far_list_right := fun_mk (st := s__law_far_list_right) l__law_far_list_right c__law_far_list_right k__law_far_list_right
  have b__law_far_list_right := F__law_far_list_right.binds (ps := P__law_far_list_right) fun _ _ _ _ _ _ us hl => match us, hl with | [_], _ => rfl
  have F__law_list_right := fun_mk (st := s__law_list_right) l__law_list_right c__law_list_right k__law_list_right
  have b__law_list_right := F__law_list_right.binds (ps := P__law_list_right) fun _ _ _ _ _ _ us hl => match us, hl with | [_], _ => rfl
  have F__law_right := fun_mk (st := s__law_right) l__law_right c__law_right k__law_right
  have b__law_right := F__law_right.binds (ps := P__law_right) fun _ _ _ _ _ _ us hl => match us, hl with | [_], _ => rfl
  have F_law := fun_mk (st := s_law) l_law c_law k_law
  have b_law := F_law.binds (ps := P_law) fun _ _ _ _ _ _ us hl => match us, hl with | [_], _ => rfl
  let T : Txt K mg := { f_is_word := _, fd_is_word := _, F_is_word := F_is_word, m_is_word := PySem.W.mg_of X G a_is_word, b_is_word := b_is_word, f__ascends := _, fd__ascends := _, F__ascends := F__ascends, m__ascends := PySem.W.mg_of X G a__ascends, b__ascends := b__ascends, f_sides_changed := _, fd_sides_changed := _, F_sides_changed := F_sides_changed, m_sides_changed := PySem.W.mg_of X G a_sides_changed, b_sides_changed := b_sides_changed, f_starred := _, fd_starred := _, F_starred := F_starred, m_starred := PySem.W.mg_of X G a_starred, b_starred := b_starred, f_turnings := _, fd_turnings := _, F_turnings := F_turnings, m_turnings := PySem.W.mg_of X G a_turnings, b_turnings := b_turnings, f_letters_held := _, fd_letters_held := _, F_letters_held := F_letters_held, m_letters_held := PySem.W.mg_of X G a_letters_held, b_letters_held := b_letters_held, f__law_hash := _, fd__law_hash := _, F__law_hash := F__law_hash, m__law_hash := PySem.W.mg_of X G a__law_hash, b__law_hash := b__law_hash, f__law_cell := _, fd__law_cell := _, F__law_cell := F__law_cell, m__law_cell := PySem.W.mg_of X G a__law_cell, b__law_cell := b__law_cell, f__law_deed := _, fd__law_deed := _, F__law_deed := F__law_deed, m__law_deed := PySem.W.mg_of X G a__law_deed, b__law_deed := b__law_deed, f__law_places := _, fd__law_places := _, F__law_places := F__law_places, m__law_places := PySem.W.mg_of X G a__law_places, b__law_places := b__law_places, f__law_ring := _, fd__law_ring := _, F__law_ring := F__law_ring, m__law_ring := PySem.W.mg_of X G a__law_ring, b__law_ring := b__law_ring, f__law_turnings := _, fd__law_turnings := _, F__law_turnings := F__law_turnings, m__law_turnings := PySem.W.mg_of X G a__law_turnings, b__law_turnings := b__law_turnings, f__law_same := _, fd__law_same := _, F__law_same := F__law_same, m__law_same := PySem.W.mg_of X G a__law_same, b__law_same := b__law_same, f_is_joints := _, fd_is_joints := _, F_is_joints := F_is_joints, m_is_joints := PySem.W.mg_of X G a_is_joints, b_is_joints := b_is_joints, f_check_word := _, fd_check_word := _, F_check_word := F_check_word, m_check_word := PySem.W.mg_of X G a_check_word, b_check_word := b_check_word, f_ring_stars := _, fd_ring_stars := _, F_ring_stars := F_ring_stars, m_ring_stars := PySem.W.mg_of X G a_ring_stars, b_ring_stars := b_ring_stars, f__law_random := _, fd__law_random := _, F__law_random := F__law_random, m__law_random := PySem.W.mg_of X G a__law_random, b__law_random := b__law_random, f__law_generator := _, fd__law_generator := _, F__law_generator := F__law_generator, m__law_generator := PySem.W.mg_of X G a__law_generator, b__law_generator := b__law_generator, f__law_walk := _, fd__law_walk := _, F__law_walk := F__law_walk, m__law_walk := PySem.W.mg_of X G a__law_walk, b__law_walk := b__law_walk, f__law_key := _, fd__law_key := _, F__law_key := F__law_key, m__law_key := PySem.W.mg_of X G a__law_key, b__law_key := b__law_key, f_check_joints := _, fd_check_joints := _, F_check_joints := F_check_joints, m_check_joints := PySem.W.mg_of X G a_check_joints, b_check_joints := b_check_joints, f_numbers_by_class := _, fd_numbers_by_class := _, F_numbers_by_class := F_numbers_by_class, m_numbers_by_class := PySem.W.mg_of X G a_numbers_by_class, b_numbers_by_class := b_numbers_by_class, f__law_letters := _, fd__law_letters := _, F__law_letters := F__law_letters, m__law_letters := PySem.W.mg_of X G a__law_letters, b__law_letters := b__law_letters, f__law_word := _, fd__law_word := _, F__law_word := F__law_word, m__law_word := PySem.W.mg_of X G a__law_word, b__law_word := b__law_word, f__law_round := _, fd__law_round := _, F__law_round := F__law_round, m__law_round := PySem.W.mg_of X G a__law_round, b__law_round := b__law_round, f__law_made := _, fd__law_made := _, F__law_made := F__law_made, m__law_made := PySem.W.mg_of X G a__law_made, b__law_made := b__law_made, f_open_places := _, fd_open_places := _, F_open_places := F_open_places, m_open_places := PySem.W.mg_of X G a_open_places, b_open_places := b_open_places, f_ring_turns := _, fd_ring_turns := _, F_ring_turns := F_ring_turns, m_ring_turns := PySem.W.mg_of X G a_ring_turns, b_ring_turns := b_ring_turns, f_classes_of := _, fd_classes_of := _, F_classes_of := F_classes_of, m_classes_of := PySem.W.mg_of X G a_classes_of, b_classes_of := b_classes_of, f__law_drawn := _, fd__law_drawn := _, F__law_drawn := F__law_drawn, m__law_drawn := PySem.W.mg_of X G a__law_drawn, b__law_drawn := b__law_drawn, f__law_groups := _, fd__law_groups := _, F__law_groups := F__law_groups, m__law_groups := PySem.W.mg_of X G a__law_groups, b__law_groups := b__law_groups, f_one_deed := _, fd_one_deed := _, F_one_deed := F_one_deed, m_one_deed := PySem.W.mg_of X G a_one_deed, b_one_deed := b_one_deed, f_is_alone := _, fd_is_alone := _, F_is_alone := F_is_alone, m_is_alone := PySem.W.mg_of X G a_is_alone, b_is_alone := b_is_alone, f__law_word_right := _, fd__law_word_right := _, F__law_word_right := F__law_word_right, m__law_word_right := PySem.W.mg_of X G a__law_word_right, b__law_word_right := b__law_word_right, f__law_far_list_right := _, fd__law_far_list_right := _, F__law_far_list_right := F__law_far_list_right, m__law_far_list_right := PySem.W.mg_of X G a__law_far_list_right, b__law_far_list_right := b__law_far_list_right, f__law_list_right := _, fd__law_list_right := _, F__law_list_right := F__law_list_right, m__law_list_right := PySem.W.mg_of X G a__law_list_right, b__law_list_right := b__law_list_right, f__law_right := _, fd__law_right := _, F__law_right := F__law_right, m__law_right := PySem.W.mg_of X G a__law_right, b__law_right := b__law_right, f_law := _, fd_law := _, F_law := F_law, m_law := PySem.W.mg_of X G a_law, b_law := b_law, z_all := PySem.W.mg_none_of X G z_all, z_enumerate := PySem.W.mg_none_of X G z_enumerate, z_int := PySem.W.mg_none_of X G z_int, z_isinstance := PySem.W.mg_none_of X G z_isinstance, z_len := PySem.W.mg_none_of X G z_len, z_list := PySem.W.mg_none_of X G z_list, z_max := PySem.W.mg_none_of X G z_max, z_min := PySem.W.mg_none_of X G z_min, z_range := PySem.W.mg_none_of X G z_range, z_repr := PySem.W.mg_none_of X G z_repr, z_set := PySem.W.mg_none_of X G z_set, z_sorted := PySem.W.mg_none_of X G z_sorted, z_str := PySem.W.mg_none_of X G z_str, z_sum := PySem.W.mg_none_of X G z_sum, z_tuple := PySem.W.mg_none_of X G z_tuple, z_zip := PySem.W.mg_none_of X G z_zip }
  exact ⟨PySem.W.fnOf "law" "law" (defArgs s_law) (defBody s_law) (defScope s_law) .none kV_law dc_law pm_law an_law cd_law ct_law, fun s v => .of_eq rfl, fun base _ _ => ok_law T⟩
theorem walk {l : PySem.W.OpenLaw} {q : Program} {loose : List Str} {XP : (Str → Option Value) → Heap → Prop} {YP : World → Heap → Prop} {d : DefRec} {K : Params → PySem.W.Frag} (hn : l.most = some 63) (hdf : d.params.defaults = [])
    (hY : ∀ (w : World) (h : Heap), YP w h → (K w.params).In h)
    (F : ∀ (w : World) (mg : Str → Option Value) (fa : Addr) (h : Heap), (K w.params).In h → h.Ns mainGlobals mg → mg d.name = some (.ref fa) →
      ∃ fd : FuncData, (∀ (s : Shared) (u : Value), BindsTo s fd ⟨[u], []⟩ [("_law_script", u)]) ∧ ∀ base : Heap, (K w.params).In base → base.Ns mainGlobals mg → FnC l.prog w (K w.params) mg base CX0 10 fa fd ["_law_script"] (sp_law (K w.params))) :
    PySem.W.WalkO q loose XP YP l.row.toRowW d [] (fun f vs => PySem.call f vs) :=
  walkC (n := 63) (k := 10) (x := "_law_script") (sp := fun w => sp_law (K w.params)) hn (by decide) hdf ⟨rfl, by decide, by decide⟩ hY F (fun _ _ a ns hl _ hS => ⟨a, ns, rfl, hS, hl, fun _ => rfl⟩)
end K13
open PySem PySem.W PyProof.Rows
set_option maxRecDepth 100000 in
set_option maxHeartbeats 0 in
theorem PySem.Challenge.cw_sideswaps_k13_one_deed_and_words_alone_holds : PySem.Challenge.rw_sideswaps_k13_one_deed_and_words_alone.Holds := by
  w_on; o_law; k_head; (case hw => w_witness2)
  k_fill
  refine K13.walk (l := PySem.Challenge.rw_sideswaps_k13_one_deed_and_words_alone) rfl rfl (fun w h Y => PySem.W.kIn_of Y) ?F
  case F =>
    intro w mg fa h KX G hmg
    refine' K13.all_mk KX G hmg ?a_is_word ?l_is_word ?c_is_word ?k_is_word ?a__ascends ?l__ascends ?c__ascends ?k__ascends ?a_sides_changed ?l_sides_changed ?c_sides_changed ?k_sides_changed ?a_starred ?l_starred ?c_starred ?k_starred ?a_turnings ?l_turnings ?c_turnings ?k_turnings ?a_letters_held ?l_letters_held ?c_letters_held ?k_letters_held ?a__law_hash ?l__law_hash ?c__law_hash ?k__law_hash ?a__law_cell ?l__law_cell ?c__law_cell ?k__law_cell ?a__law_deed ?l__law_deed ?c__law_deed ?k__law_deed ?a__law_places ?l__law_places ?c__law_places ?k__law_places ?a__law_ring ?l__law_ring ?c__law_ring ?k__law_ring ?a__law_turnings ?l__law_turnings ?c__law_turnings ?k__law_turnings ?a__law_same ?l__law_same ?c__law_same ?k__law_same ?a_is_joints ?l_is_joints ?c_is_joints ?k_is_joints ?a_check_word ?l_check_word ?c_check_word ?k_check_word ?a_ring_stars ?l_ring_stars ?c_ring_stars ?k_ring_stars ?a__law_random ?l__law_random ?c__law_random ?k__law_random ?a__law_generator ?l__law_generator ?c__law_generator ?k__law_generator ?a__law_walk ?l__law_walk ?c__law_walk ?k__law_walk ?a__law_key ?l__law_key ?c__law_key ?k__law_key ?a_check_joints ?l_check_joints ?c_check_joints ?k_check_joints ?a_numbers_by_class ?l_numbers_by_class ?c_numbers_by_class ?k_numbers_by_class ?a__law_letters ?l__law_letters ?c__law_letters ?k__law_letters ?a__law_word ?l__law_word ?c__law_word ?k__law_word ?a__law_round ?l__law_round ?c__law_round ?k__law_round ?a__law_made ?l__law_made ?c__law_made ?k__law_made ?a_open_places ?l_open_places ?c_open_places ?k_open_places ?a_ring_turns ?l_ring_turns ?c_ring_turns ?k_ring_turns ?a_classes_of ?l_classes_of ?c_classes_of ?k_classes_of ?a__law_drawn ?l__law_drawn ?c__law_drawn ?k__law_drawn ?a__law_groups ?l__law_groups ?c__law_groups ?k__law_groups ?a_one_deed ?l_one_deed ?c_one_deed ?k_one_deed ?a_is_alone ?l_is_alone ?c_is_alone ?k_is_alone ?a__law_word_right ?l__law_word_right ?c__law_word_right ?k__law_word_right ?a__law_far_list_right ?l__law_far_list_right ?c__law_far_list_right ?k__law_far_list_right ?a__law_list_right ?l__law_list_right ?c__law_list_right ?k__law_list_right ?a__law_right ?l__law_right ?c__law_right ?k__law_right ?a_law ?l_law ?c_law ?k_law ?z_all ?z_enumerate ?z_int ?z_isinstance ?z_len ?z_list ?z_max ?z_min ?z_range ?z_repr ?z_set ?z_sorted ?z_str ?z_sum ?z_tuple ?z_zip
    (case a_is_word => k_is)
    (case l_is_word => k_is)
    (case c_is_word => k_is)
    (case k_is_word => k_is)
    (case a__ascends => k_is)
    (case l__ascends => k_is)
    (case c__ascends => k_is)
    (case k__ascends => k_is)
    (case a_sides_changed => k_is)
    (case l_sides_changed => k_is)
    (case c_sides_changed => k_is)
    (case k_sides_changed => k_is)
    (case a_starred => k_is)
    (case l_starred => k_is)
    (case c_starred => k_is)
    (case k_starred => k_is)
    (case a_turnings => k_is)
    (case l_turnings => k_is)
    (case c_turnings => k_is)
    (case k_turnings => k_is)
    (case a_letters_held => k_is)
    (case l_letters_held => k_is)
    (case c_letters_held => k_is)
    (case k_letters_held => k_is)
    (case a__law_hash => k_is)
    (case l__law_hash => k_is)
    (case c__law_hash => k_is)
    (case k__law_hash => k_is)
    (case a__law_cell => k_is)
    (case l__law_cell => k_is)
    (case c__law_cell => k_is)
    (case k__law_cell => k_is)
    (case a__law_deed => k_is)
    (case l__law_deed => k_is)
    (case c__law_deed => k_is)
    (case k__law_deed => k_is)
    (case a__law_places => k_is)
    (case l__law_places => k_is)
    (case c__law_places => k_is)
    (case k__law_places => k_is)
    (case a__law_ring => k_is)
    (case l__law_ring => k_is)
    (case c__law_ring => k_is)
    (case k__law_ring => k_is)
    (case a__law_turnings => k_is)
    (case l__law_turnings => k_is)
    (case c__law_turnings => k_is)
    (case k__law_turnings => k_is)
    (case a__law_same => k_is)
    (case l__law_same => k_is)
    (case c__law_same => k_is)
    (case k__law_same => k_is)
    (case a_is_joints => k_is)
    (case l_is_joints => k_is)
    (case c_is_joints => k_is)
    (case k_is_joints => k_is)
    (case a_check_word => k_is)
    (case l_check_word => k_is)
    (case c_check_word => k_is)
    (case k_check_word => k_is)
    (case a_ring_stars => k_is)
    (case l_ring_stars => k_is)
    (case c_ring_stars => k_is)
    (case k_ring_stars => k_is)
    (case a__law_random => k_is)
    (case l__law_random => k_is)
    (case c__law_random => k_is)
    (case k__law_random => k_is)
    (case a__law_generator => k_is)
    (case l__law_generator => k_is)
    (case c__law_generator => k_is)
    (case k__law_generator => k_is)
    (case a__law_walk => k_is)
    (case l__law_walk => k_is)
    (case c__law_walk => k_is)
    (case k__law_walk => k_is)
    (case a__law_key => k_is)
    (case l__law_key => k_is)
    (case c__law_key => k_is)
    (case k__law_key => k_is)
    (case a_check_joints => k_is)
    (case l_check_joints => k_is)
    (case c_check_joints => k_is)
    (case k_check_joints => k_is)
    (case a_numbers_by_class => k_is)
    (case l_numbers_by_class => k_is)
    (case c_numbers_by_class => k_is)
    (case k_numbers_by_class => k_is)
    (case a__law_letters => k_is)
    (case l__law_letters => k_is)
    (case c__law_letters => k_is)
    (case k__law_letters => k_is)
    (case a__law_word => k_is)
    (case l__law_word => k_is)
    (case c__law_word => k_is)
    (case k__law_word => k_is)
    (case a__law_round => k_is)
    (case l__law_round => k_is)
    (case c__law_round => k_is)
    (case k__law_round => k_is)
    (case a__law_made => k_is)
    (case l__law_made => k_is)
    (case c__law_made => k_is)
    (case k__law_made => k_is)
    (case a_open_places => k_is)
    (case l_open_places => k_is)
    (case c_open_places => k_is)
    (case k_open_places => k_is)
    (case a_ring_turns => k_is)
    (case l_ring_turns => k_is)
    (case c_ring_turns => k_is)
    (case k_ring_turns => k_is)
    (case a_classes_of => k_is)
    (case l_classes_of => k_is)
    (case c_classes_of => k_is)
    (case k_classes_of => k_is)
    (case a__law_drawn => k_is)
    (case l__law_drawn => k_is)
    (case c__law_drawn => k_is)
    (case k__law_drawn => k_is)
    (case a__law_groups => k_is)
    (case l__law_groups => k_is)
    (case c__law_groups => k_is)
    (case k__law_groups => k_is)
    (case a_one_deed => k_is)
    (case l_one_deed => k_is)
    (case c_one_deed => k_is)
    (case k_one_deed => k_is)
    (case a_is_alone => k_is)
    (case l_is_alone => k_is)
    (case c_is_alone => k_is)
    (case k_is_alone => k_is)
    (case a__law_word_right => k_is)
    (case l__law_word_right => k_is)
    (case c__law_word_right => k_is)
    (case k__law_word_right => k_is)
    (case a__law_far_list_right => k_is)
    (case l__law_far_list_right => k_is)
    (case c__law_far_list_right => k_is)
    (case k__law_far_list_right => k_is)
    (case a__law_list_right => k_is)
    (case l__law_list_right => k_is)
    (case c__law_list_right => k_is)
    (case k__law_list_right => k_is)
    (case a__law_right => k_is)
    (case l__law_right => k_is)
    (case c__law_right => k_is)
    (case k__law_right => k_is)
    (case a_law => k_is)
    (case l_law => k_is)
    (case c_law => k_is)
    (case k_law => k_is)
    (case z_all => k_is)
    (case z_enumerate => k_is)
    (case z_int => k_is)
    (case z_isinstance => k_is)
    (case z_len => k_is)
    (case z_list => k_is)
    (case z_max => k_is)
    (case z_min => k_is)
    (case z_range => k_is)
    (case z_repr => k_is)
    (case z_set => k_is)
    (case z_sorted => k_is)
    (case z_str => k_is)
    (case z_sum => k_is)
    (case z_tuple => k_is)
    (case z_zip => k_is)

